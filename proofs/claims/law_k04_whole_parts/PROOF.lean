import PyProof.Rows.All
import Wide.All
import OpenK.AllK
import Wide.FinOn
import HandS.ForMost
import HandS.Evl
import HandS.Walk
import HandS.SortRule
import HandS.SortInts
import HandS.Strs
import HandS.Flow
import HandS.Zip
import HandS.IsInst
import HandS.Style
import HandS.TupAny
import HandS.Wide
import HandS.WideBits
import HandS.SetFor
import KE.GoesNew
import PyProof.Rows.SetFrom
import PySem.Challenge.RW_gatewright_k04_whole_parts
set_option Elab.async false
set_option linter.all false
set_option maxRecDepth 100000
namespace Pu
open PySem PySem.Spec PyProof.Rows L2

abbrev Fg := PySem.W.Frag
/-- heap growth, heap growth as far as tuples go -/
def Gx (H H' : Hp) : Prop := forall a o, H a = some o -> H' a = some o
def Tx (H H' : Hp) : Prop := forall a xs, H a = some (.tup xs) -> H' a = some (.tup xs)
theorem Gx.rfl {H : Hp} : Gx H H := fun _ _ h => h
theorem Gx.trans {H H1 H2 : Hp} (a : Gx H H1) (b : Gx H1 H2) : Gx H H2 := fun x o h => b x o (a x o h)
theorem Gx.tx {H H' : Hp} (e : Gx H H') : Tx H H' := fun a xs h => e a _ h
theorem Gx.new {H : Hp} {p : Addr} {o : HO} (h : H p = none) : Gx H (upd H p o) := fun a u e => by
  rw [upd_ne (ne_of_none e h)]
  exact e
theorem Gx.back {H H' : Hp} {p : Addr} (e : Gx H H') (h : H' p = none) : H p = none := by
  cases q : H p with
  | none => rfl
  | some o => have z := e p o q; rw [h] at z; cases z
theorem Gx.mut {H H' : Hp} {p : Addr} {o : HO} (e : Gx H H') (h : H p = none) : Gx H (upd H' p o) := fun a u q => by
  rw [upd_ne (ne_of_none q h)]
  exact e a u q
theorem Gx.rd {H H' : Hp} {a : Addr} {u : HO} (e : Gx H H') (h : Rd H a u) : Rd H' a u := h.elim (fun z => .inl (e _ _ z)) fun ⟨o, z⟩ => .inr ⟨o, e _ _ z⟩
theorem Gx.l {K : Fg} {H H' : Hp} {a : Addr} {xs : List V} (e : Gx H H') (h : SqL K H a xs) : SqL K H' a xs := h.elim (fun z => .inl (e.rd z)) .inr
theorem Tx.mut {H : Hp} {p : Addr} {o : HO} (h : forall xs, H p ≠ some (.tup xs)) : Tx H (upd H p o) := fun a xs q => by
  rw [upd_ne (fun z => h xs (by rw [← z]; exact q))]
  exact q
theorem Tx.trans {H H1 H2 : Hp} (a : Tx H H1) (b : Tx H1 H2) : Tx H H2 := fun x o h => b x o (a x o h)

/-- how a value stands for a thing of mine -/
class Rp (A : Type) where
  rp : Fg -> Hp -> V -> A -> Prop
  mono : forall {K : Fg} {H H' : Hp} {v : V} {x : A}, Gx H H' -> rp K H v x -> rp K H' v x
/-- .. that leans on tuples alone -/
class Im (A : Type) [Rp A] : Prop where
  im : forall {K : Fg} {H H' : Hp} {v : V} {x : A}, Tx H H' -> Rp.rp K H v x -> Rp.rp K H' v x
open Rp (rp)
def Al {A : Type} (F : V -> A -> Prop) : List V -> List A -> Prop
  | [], [] => True
  | v :: vs, x :: xs => F v x ∧ Al F vs xs
  | _, _ => False
theorem Al.mono {A : Type} {F G : V -> A -> Prop} (h : forall v x, F v x -> G v x) : forall {vs : List V} {xs : List A}, Al F vs xs -> Al G vs xs
  | [], [], _ => trivial
  | _ :: _, _ :: _, q => ⟨h _ _ q.1, Al.mono h q.2⟩
  | [], _ :: _, q => q.elim
  | _ :: _, [], q => q.elim
theorem Al.len {A : Type} {F : V -> A -> Prop} : forall {vs : List V} {xs : List A}, Al F vs xs -> vs.length = xs.length
  | [], [], _ => rfl
  | _ :: _, _ :: _, q => by simp only [List.length_cons, Al.len q.2]
  | [], _ :: _, q => q.elim
  | _ :: _, [], q => q.elim
theorem Al.get {A : Type} {F : V -> A -> Prop} : forall {vs : List V} {xs : List A} {i : Nat} {x : A}, Al F vs xs -> xs[i]? = some x -> exists v, vs[i]? = some v ∧ F v x
  | [], [], _, _, _, h => by simp at h
  | v :: _, y :: _, 0, x, q, h => by
    have e : y = x := by simpa using h
    exact ⟨v, by simp, e ▸ q.1⟩
  | _ :: _, _ :: _, i + 1, x, q, h => by
    obtain ⟨v, h1, h2⟩ := Al.get (i := i) q.2 (by simpa using h)
    exact ⟨v, by simpa using h1, h2⟩
  | [], _ :: _, _, _, q, _ => q.elim
  | _ :: _, [], _, _, q, _ => q.elim
theorem Al.getV {A : Type} {F : V -> A -> Prop} : forall {vs : List V} {xs : List A} {i : Nat} {v : V}, Al F vs xs -> vs[i]? = some v -> exists x, xs[i]? = some x ∧ F v x
  | [], [], _, _, _, h => by simp at h
  | v :: _, y :: _, 0, x, q, h => by
    have e : v = x := by simpa using h
    exact ⟨y, by simp, e ▸ q.1⟩
  | _ :: _, _ :: _, i + 1, x, q, h => by
    obtain ⟨v, h1, h2⟩ := Al.getV (i := i) q.2 (by simpa using h)
    exact ⟨v, by simpa using h1, h2⟩
  | [], _ :: _, _, _, q, _ => q.elim
  | _ :: _, [], _, _, q, _ => q.elim
theorem Al.app {A : Type} {F : V -> A -> Prop} : forall {vs ws : List V} {xs ys : List A}, Al F vs xs -> Al F ws ys -> Al F (vs ++ ws) (xs ++ ys)
  | [], _, [], _, _, r => r
  | _ :: _, _, _ :: _, _, q, r => ⟨q.1, Al.app q.2 r⟩
  | [], _, _ :: _, _, q, _ => q.elim
  | _ :: _, _, [], _, q, _ => q.elim
theorem Al.one {A : Type} {F : V -> A -> Prop} {v : V} {x : A} (h : F v x) : Al F [v] [x] := ⟨h, trivial⟩
theorem Al.drop {A : Type} {F : V -> A -> Prop} : forall (n : Nat) {vs : List V} {xs : List A}, Al F vs xs -> Al F (vs.drop n) (xs.drop n)
  | 0, _, _, q => q
  | _ + 1, [], [], q => q
  | n + 1, _ :: _, _ :: _, q => Al.drop n q.2
  | _ + 1, [], _ :: _, q => q.elim
  | _ + 1, _ :: _, [], q => q.elim
theorem Al.take {A : Type} {F : V -> A -> Prop} : forall (n : Nat) {vs : List V} {xs : List A}, Al F vs xs -> Al F (vs.take n) (xs.take n)
  | 0, _, _, q => trivial
  | _ + 1, [], [], q => q
  | n + 1, _ :: _, _ :: _, q => ⟨q.1, Al.take n q.2⟩
  | _ + 1, [], _ :: _, q => q.elim
  | _ + 1, _ :: _, [], q => q.elim
theorem Al.set {A : Type} {F : V -> A -> Prop} {v : V} {x : A} (h : F v x) : forall (n : Nat) {vs : List V} {xs : List A}, Al F vs xs -> Al F (vs.set n v) (xs.set n x)
  | 0, [], [], q => q
  | 0, _ :: _, _ :: _, q => ⟨h, q.2⟩
  | _ + 1, [], [], q => q
  | n + 1, _ :: _, _ :: _, q => ⟨q.1, Al.set h n q.2⟩
  | 0, [], _ :: _, q => q.elim
  | 0, _ :: _, [], q => q.elim
  | _ + 1, [], _ :: _, q => q.elim
  | _ + 1, _ :: _, [], q => q.elim
theorem Al.rev {A : Type} {F : V -> A -> Prop} : forall {vs : List V} {xs : List A}, Al F vs xs -> Al F vs.reverse xs.reverse
  | [], [], q => q
  | v :: vs, x :: xs, q => by
    rw [List.reverse_cons, List.reverse_cons]
    exact Al.app (Al.rev q.2) (Al.one q.1)
  | [], _ :: _, q => q.elim
  | _ :: _, [], q => q.elim

instance : Rp Int := ⟨fun _ _ v x => v = .int x, fun _ h => h⟩
instance : Im Int := ⟨fun _ h => h⟩
instance : Rp Bool := ⟨fun _ _ v x => v = .bl x, fun _ h => h⟩
instance : Im Bool := ⟨fun _ h => h⟩
instance : Rp Str := ⟨fun _ _ v x => v = .str x, fun _ h => h⟩
instance : Im Str := ⟨fun _ h => h⟩
instance : Rp Unit := ⟨fun _ _ v _ => v = .non, fun _ h => h⟩
instance : Im Unit := ⟨fun _ h => h⟩
instance {A B : Type} [Rp A] [Rp B] : Rp (A × B) where
  rp K H v x := exists a u w, v = .ref a ∧ H a = some (.tup [u, w]) ∧ rp K H u x.1 ∧ rp K H w x.2
  mono e := fun ⟨a, u, w, h1, h2, h3, h4⟩ => ⟨a, u, w, h1, e _ _ h2, Rp.mono e h3, Rp.mono e h4⟩
instance {A B : Type} [Rp A] [Rp B] [Im A] [Im B] : Im (A × B) where
  im e := fun ⟨a, u, w, h1, h2, h3, h4⟩ => ⟨a, u, w, h1, e _ _ h2, Im.im e h3, Im.im e h4⟩
/-- three in a tuple -/
structure T3 (A B C : Type) where
  a : A
  b : B
  c : C
instance {A B C : Type} [Rp A] [Rp B] [Rp C] : Rp (T3 A B C) where
  rp K H v x := exists a u w z, v = .ref a ∧ H a = some (.tup [u, w, z]) ∧ rp K H u x.a ∧ rp K H w x.b ∧ rp K H z x.c
  mono e := fun ⟨a, u, w, z, h1, h2, h3, h4, h5⟩ => ⟨a, u, w, z, h1, e _ _ h2, Rp.mono e h3, Rp.mono e h4, Rp.mono e h5⟩
instance {A B C : Type} [Rp A] [Rp B] [Rp C] [Im A] [Im B] [Im C] : Im (T3 A B C) where
  im e := fun ⟨a, u, w, z, h1, h2, h3, h4, h5⟩ => ⟨a, u, w, z, h1, e _ _ h2, Im.im e h3, Im.im e h4, Im.im e h5⟩
/-- a tuple of as many as there are -/
structure Tl (A : Type) where
  l : List A
  deriving DecidableEq
instance {A : Type} [Rp A] : Rp (Tl A) where
  rp K H v x := exists a vs, v = .ref a ∧ H a = some (.tup vs) ∧ Al (rp K H) vs x.l
  mono e := fun ⟨a, vs, h1, h2, h3⟩ => ⟨a, vs, h1, e _ _ h2, h3.mono fun _ _ => Rp.mono e⟩
instance {A : Type} [Rp A] [Im A] : Im (Tl A) where
  im e := fun ⟨a, vs, h1, h2, h3⟩ => ⟨a, vs, h1, e _ _ h2, h3.mono fun _ _ => Im.im e⟩
/-- a list -/
instance {A : Type} [Rp A] : Rp (List A) where
  rp K H v x := exists a vs, v = .ref a ∧ H a = some (.lst vs) ∧ Al (rp K H) vs x
  mono e := fun ⟨a, vs, h1, h2, h3⟩ => ⟨a, vs, h1, e _ _ h2, h3.mono fun _ _ => Rp.mono e⟩
/-- the script -/
structure Scr where
  l : List Int
instance : Rp Scr where
  rp K H v x := exists a, v = .ref a ∧ SqL K H a (x.l.map V.int)
  mono e := fun ⟨a, h1, h2⟩ => ⟨a, h1, e.l h2⟩
/-- a list or a tuple -/
def SqE (K : Fg) (H : Hp) (a : Addr) (vs : List V) : Prop := SqL K H a vs ∨ SqT K H a vs

theorem al_int {K : Fg} {H : Hp} : forall {vs : List V} {xs : List Int}, Al (rp K H) vs xs -> vs = xs.map V.int
  | [], [], _ => rfl
  | v :: vs, x :: xs, q => by
    have e : v = .int x := q.1
    rw [List.map_cons, ← al_int q.2, e]
  | [], _ :: _, q => q.elim
  | _ :: _, [], q => q.elim
theorem int_al {K : Fg} {H : Hp} : forall (xs : List Int), Al (rp K H) (xs.map V.int) xs
  | [] => trivial
  | _ :: xs => ⟨rfl, int_al xs⟩
theorem al_bl {K : Fg} {H : Hp} : forall {vs : List V} {xs : List Bool}, Al (rp K H) vs xs -> vs = xs.map V.bl
  | [], [], _ => rfl
  | v :: vs, x :: xs, q => by
    have e : v = .bl x := q.1
    rw [List.map_cons, ← al_bl q.2, e]
  | [], _ :: _, q => q.elim
  | _ :: _, [], q => q.elim

/-! the ledger: what may still change -/
abbrev Led := List (Addr × HO)
def Mu : HO -> Prop
  | .lst _ => True
  | .dK _ => True
  | .ext _ => True
  | _ => False
structure At (G H : Hp) (L : Led) : Prop where
  ex : Gx G H
  nd : (L.map (·.1)).Nodup
  led : forall p, p ∈ L -> H p.1 = some p.2 ∧ G p.1 = none ∧ Mu p.2
theorem At.nil (H : Hp) : At H H [] := ⟨Gx.rfl, List.nodup_nil, fun _ h => nomatch h⟩
theorem At.grow {G H H' : Hp} {L : Led} (A : At G H L) (e : Gx H H') : At G H' L := ⟨A.ex.trans e, A.nd, fun p h => let ⟨a, b, c⟩ := A.led p h; ⟨e _ _ a, b, c⟩⟩
def hid (H : Hp) (L : Led) : Hp := fun b => if b ∈ L.map (·.1) then none else H b
theorem hid_in {H : Hp} {L : Led} {b : Addr} (h : b ∈ L.map (·.1)) : hid H L b = none := if_pos h
theorem hid_out {H : Hp} {L : Led} {b : Addr} (h : b ∉ L.map (·.1)) : hid H L b = H b := if_neg h
theorem At.hid {G H : Hp} {L : Led} (A : At G H L) : At (hid H L) H L :=
  ⟨fun a o h => by
    by_cases q : a ∈ L.map (·.1)
    · rw [hid_in q] at h; cases h
    · rw [hid_out q] at h; exact h, A.nd,
   fun p h => ⟨(A.led p h).1, hid_in (List.mem_map_of_mem h), (A.led p h).2.2⟩⟩
theorem At.gh {G H : Hp} {L : Led} (A : At G H L) : Gx G (Pu.hid H L) := fun a o h => by
  have q : a ∉ L.map (·.1) := fun z => by
    obtain ⟨p, hp, e⟩ := List.mem_map.mp z
    rw [← e, (A.led p hp).2.1] at h; cases h
  rw [hid_out q]
  exact A.ex a o h
theorem At.tx {G H : Hp} {L : Led} (A : At G H L) : Tx H (Pu.hid H L) := fun a xs h => by
  have q : a ∉ L.map (·.1) := fun z => by
    obtain ⟨p, hp, e⟩ := List.mem_map.mp z
    obtain ⟨h1, _, h3⟩ := A.led p hp
    rw [e, h] at h1
    rw [← Option.some.inj h1] at h3
    exact h3
  rw [hid_out q]
  exact h
end Pu

set_option Elab.async false
set_option linter.all false
set_option maxRecDepth 100000
namespace Pu
open Pu.Rp (rp)
open PySem PySem.Spec PyProof.Rows L2

def o1 {A C : Type} (f : A -> Option C) (ma : Option A) : Option C := ma.bind f
def o2 {A B C : Type} (f : A -> B -> Option C) (ma : Option A) (mb : Option B) : Option C := ma.bind fun a => mb.bind fun b => f a b
theorem o1s {A C : Type} {f : A -> Option C} {ma : Option A} {c : C} (h : o1 f ma = some c) : exists a, ma = some a ∧ f a = some c := by
  cases ma with
  | none => cases h
  | some a => exact ⟨a, rfl, h⟩
theorem o2s {A B C : Type} {f : A -> B -> Option C} {ma : Option A} {mb : Option B} {c : C} (h : o2 f ma mb = some c) : exists a b, ma = some a ∧ mb = some b ∧ f a b = some c := by
  cases ma with
  | none => cases h
  | some a => cases mb with
    | none => cases h
    | some b => exact ⟨a, b, rfl, rfl, h⟩

/-! what a reading comes to: read (EvB), made (EvO); m none: nothing is said -/
section
variable {K : Fg} {A B C D : Type} [Rp A] [Rp B] [Rp C] [Rp D]
def EvB (K : Fg) (te : TE) (σ : L2.St) (H : Hp) (m : Option A) : Prop :=
  forall x, m = some x -> forall H1, Gx H H1 -> forall Q : VK, (forall v H2, Gx H1 H2 -> rp K H2 v x -> Q v H2) -> te σ H1 Q
def EvO (K : Fg) (te : TE) (σ : L2.St) (G H : Hp) (m : Option A) : Prop :=
  forall x, m = some x -> forall G1 H1 L, Gx G G1 -> Gx H H1 -> At G1 H1 L -> forall Q : VK, (forall v G2 H2, Gx G1 G2 -> Gx H1 H2 -> At G2 H2 L -> rp K G2 v x -> Q v H2) -> te σ H1 Q
def EvT (tt : TT) (σ : L2.St) (H : Hp) (m : Option Bool) : Prop :=
  forall b, m = some b -> forall H1, Gx H H1 -> forall Q : Bool -> Hp -> Prop, (forall H2, Gx H1 H2 -> Q b H2) -> tt σ H1 Q
variable {σ : L2.St} {G G' H H' : Hp} {L : Led} {te ta tb tc : TE} {tt tu : TT}
theorem EvB.mono {m : Option A} (h : EvB K te σ H m) (e : Gx H H') : EvB K te σ H' m := fun x hx H1 e1 Q q => h x hx H1 (e.trans e1) Q q
theorem EvT.mono {m : Option Bool} (h : EvT tt σ H m) (e : Gx H H') : EvT tt σ H' m := fun x hx H1 e1 Q q => h x hx H1 (e.trans e1) Q q
theorem EvO.mono {m : Option A} (h : EvO K te σ G H m) (g : Gx G G') (e : Gx H H') : EvO K te σ G' H' m := fun x hx G1 H1 L g1 e1 a Q q => h x hx G1 H1 L (g.trans g1) (e.trans e1) a Q q
/-- what leans on tuples alone is one's own -/
theorem EvB.own [Im A] {m : Option A} (h : EvB K te σ H m) : EvO K te σ G H m := fun x hx G1 H1 L g1 e1 a Q q =>
  h x hx H1 e1 Q fun v H2 e2 r => q v (hid H2 L) H2 (a.grow e2).gh e2 (a.grow e2).hid (Im.im (a.grow e2).tx r)
theorem EvO.bor {m : Option A} (h : EvO K te σ G H m) (a : At G H L) : EvB K te σ H m := fun x hx H1 e1 Q q =>
  h x hx G H1 L Gx.rfl e1 (a.grow e1) Q fun v G2 H2 _ e2 a2 r => q v H2 e2 (Rp.mono a2.ex r)
theorem EvB.eq {m m' : Option A} (h : EvB K te σ H m) (e : m = m') : EvB K te σ H m' := e ▸ h
theorem EvO.eq {m m' : Option A} (h : EvO K te σ G H m) (e : m = m') : EvO K te σ G H m' := e ▸ h

/-- a new list -/
def EvN (K : Fg) (te : TE) (σ : L2.St) (H : Hp) (m : Option (List A)) : Prop :=
  forall xs, m = some xs -> forall H1, Gx H H1 -> forall Q : VK, (forall p vs H2, H1 p = none -> Gx H1 H2 -> H2 p = some (.lst vs) -> Al (rp K H2) vs xs -> Q (.ref p) H2) -> te σ H1 Q
theorem EvN.mono {m : Option (List A)} (h : EvN K te σ H m) (e : Gx H H') : EvN K te σ H' m := fun x hx H1 e1 Q q => h x hx H1 (e.trans e1) Q q
theorem EvN.b {m : Option (List A)} (h : EvN K te σ H m) : EvB K te σ H m := fun x hx H1 e Q q => h x hx H1 e Q fun p vs H2 hn g h2 r => q (.ref p) H2 g ⟨p, vs, rfl, h2, r⟩
theorem At.fresh {G H : Hp} {L : Led} {p : Addr} (a : At G H L) (hp : H p = none) : p ∉ L.map (·.1) := fun z => by
  obtain ⟨o, ho, e5⟩ := List.mem_map.mp z
  have := (a.led o ho).1
  rw [e5, hp] at this
  cases this
theorem EvN.own [Im A] {m : Option (List A)} (h : EvN K te σ H m) : EvO K te σ G H m := fun x hx G1 H1 L g1 e1 a Q q =>
  h x hx H1 e1 Q fun p vs H2 hn g h2 r => q (.ref p) (hid H2 L) H2 (a.grow g).gh g (a.grow g).hid ⟨p, vs, rfl, (hid_out (a.fresh hn)).trans h2, r.mono fun _ _ => Im.im (a.grow g).tx⟩

/-! names, constants -/
theorem eb_v {i : Nat} {v : V} {x : A} (h : σ[i]? = some (some v)) (r : rp K H v x) : EvB K (tVar i) σ H (some x) := fun y hy H1 e Q q => by
  cases hy
  exact ⟨v, h, q v H1 Gx.rfl (Rp.mono e r)⟩
theorem eo_v {i : Nat} {v : V} {x : A} (h : σ[i]? = some (some v)) (r : rp K G v x) : EvO K (tVar i) σ G H (some x) := fun y hy G1 H1 L g e a Q q => by
  cases hy
  exact ⟨v, h, q v G1 H1 Gx.rfl Gx.rfl a (Rp.mono g r)⟩
theorem eb_c {v : V} {x : A} (r : forall H, rp K H v x) : EvB K (tC v) σ H (some x) := fun y hy H1 e Q q => by
  cases hy
  exact q v H1 Gx.rfl (r _)
theorem eb_int {i : Int} : EvB K (tC (.int i)) σ H (some i) := eb_c fun _ => rfl
theorem eb_bl {i : Bool} : EvB K (tC (.bl i)) σ H (some i) := eb_c fun _ => rfl
theorem eb_str {i : Str} : EvB K (tC (.str i)) σ H (some i) := eb_c fun _ => rfl
theorem eb_non : EvB K (tC .non) σ H (some ()) := eb_c fun _ => rfl

/-! operators by values -/
def RB (K : Fg) (r : R2) (f : A -> B -> Option C) : Prop := forall H x y a b c, rp K H x a -> rp K H y b -> f a b = some c -> forall Q : VK, (forall v H2, Gx H H2 -> rp K H2 v c -> Q v H2) -> r x y H Q
def RB1 (K : Fg) (r : V -> Hp -> VK -> Prop) (f : A -> Option C) : Prop := forall H x a c, rp K H x a -> f a = some c -> forall Q : VK, (forall v H2, Gx H H2 -> rp K H2 v c -> Q v H2) -> r x H Q
theorem eb_op {r : R2} {f : A -> B -> Option C} {ma : Option A} {mb : Option B} (hr : RB K r f) (ha : EvB K ta σ H ma) (hb : EvB K tb σ H mb) : EvB K (tOp r ta tb) σ H (o2 f ma mb) := fun x hx H1 e Q q => by
  obtain ⟨a, b, e1, e2, e3⟩ := o2s hx
  exact ha a e1 H1 e _ fun v H2 g2 r2 => hb b e2 H2 (e.trans g2) _ fun w H3 g3 r3 => hr H3 v w a b x (Rp.mono g3 r2) r3 e3 Q fun z H4 g4 r4 => q z H4 ((g2.trans g3).trans g4) r4
theorem eb_un {r : V -> Hp -> VK -> Prop} {f : A -> Option C} {ma : Option A} (hr : RB1 K r f) (ha : EvB K ta σ H ma) : EvB K (tUn r ta) σ H (o1 f ma) := fun x hx H1 e Q q => by
  obtain ⟨a, e1, e3⟩ := o1s hx
  exact ha a e1 H1 e _ fun v H2 g2 r2 => hr H2 v a x r2 e3 Q fun z H4 g4 r4 => q z H4 (g2.trans g4) r4
theorem rb_I0 {g : Int -> Int -> V} {f : Int -> Int -> C} (h : forall H i j, rp K H (g i j) (f i j)) : RB K (rI0 g) (fun i j => some (f i j)) := fun H x y a b c ra rb hc Q q => by
  cases hc
  exact ⟨a, b, ra, rb, q _ H Gx.rfl (h _ _ _)⟩
theorem rb_I {P : Int -> Int -> Prop} [forall i j, Decidable (P i j)] {R : Int -> Int -> Prop} {g : Int -> Int -> V} {f : Int -> Int -> C} (hP : forall i j, P i j -> R i j) (h : forall H i j, P i j -> rp K H (g i j) (f i j)) : RB K (rI R g) (fun i j => if P i j then some (f i j) else none) := fun H x y a b c ra rb hc Q q => by
  by_cases p : P a b
  · simp only [if_pos p] at hc
    cases hc
    exact ⟨a, b, ra, rb, hP _ _ p, q _ H Gx.rfl (h _ _ _ p)⟩
  · simp only [if_neg p] at hc; cases hc
theorem rb_add : RB (A := Int) (B := Int) (C := Int) K (rI0 fun i j => .int (i + j)) (fun i j => some (i + j)) := rb_I0 fun _ _ _ => rfl
theorem rb_sub : RB (A := Int) (B := Int) (C := Int) K (rI0 fun i j => .int (i - j)) (fun i j => some (i - j)) := rb_I0 fun _ _ _ => rfl
theorem rb_lt : RB (A := Int) (B := Int) (C := Bool) K (rI0 fun i j => .bl (decide (i < j))) (fun i j => some (decide (i < j))) := rb_I0 fun _ _ _ => rfl
theorem rb_le : RB (A := Int) (B := Int) (C := Bool) K (rI0 fun i j => .bl (decide (i ≤ j))) (fun i j => some (decide (i ≤ j))) := rb_I0 fun _ _ _ => rfl
theorem rb_gt : RB (A := Int) (B := Int) (C := Bool) K (rI0 fun i j => .bl (decide (j < i))) (fun i j => some (decide (j < i))) := rb_I0 fun _ _ _ => rfl
theorem rb_ge : RB (A := Int) (B := Int) (C := Bool) K (rI0 fun i j => .bl (decide (j ≤ i))) (fun i j => some (decide (j ≤ i))) := rb_I0 fun _ _ _ => rfl
/-- one side within 2 ^ 64 -/
def mulOk (i j : Int) : Bool := (decide (-(2 ^ 64) < i) && decide (i < 2 ^ 64)) || (decide (-(2 ^ 64) < j) && decide (j < 2 ^ 64))
theorem rb_mul : RB (A := Int) (B := Int) (C := Int) K (rI CMul fun i j => .int (i * j)) (fun i j => if mulOk i j = true then some (i * j) else none) :=
  rb_I (fun i j h => by
    unfold mulOk at h
    simp only [Bool.or_eq_true, Bool.and_eq_true, decide_eq_true_eq] at h
    exact h) fun _ _ _ _ => rfl
end
end Pu

set_option Elab.async false
set_option linter.all false
set_option maxRecDepth 100000
namespace Pu
open Pu.Rp (rp)
open PySem PySem.Spec PyProof.Rows L2
section
variable {K : Fg} {A B C D : Type} [Rp A] [Rp B] [Rp C] [Rp D]
variable {σ : L2.St} {G G' H H' : Hp} {L : Led} {te ta tb tc : TE} {tt tu : TT}
theorem rb_fdiv : RB (A := Int) (B := Int) (C := Int) K (rI CDiv fun i j => .int (i / j)) (fun i j => if 0 < j ∧ j < 1073741824 then some (i / j) else none) :=
  rb_I (fun i j h => h) fun _ _ _ _ => rfl
theorem rb_mod : RB (A := Int) (B := Int) (C := Int) K (rI (fun _ j => 0 < j) fun i j => .int (i % j)) (fun i j => if 0 < j then some (i % j) else none) :=
  rb_I (fun i j h => h) fun _ _ _ _ => rfl
def powOk (i j : Int) : Bool := decide (0 ≤ j) && decide (j ≤ 1000000) && decide (i.natAbs < 18446744073709551616)
theorem rb_pow : RB (A := Int) (B := Int) (C := Int) K (rI CPow fun i j => .int (i ^ j.toNat)) (fun i j => if powOk i j = true then some (i ^ j.toNat) else none) :=
  rb_I (fun i j h => by
    unfold powOk at h
    simp only [Bool.and_eq_true, decide_eq_true_eq] at h
    exact ⟨h.1.1, h.1.2, h.2⟩) fun _ _ _ _ => rfl
theorem rb_neg : RB1 (A := Int) (C := Int) K (rU fun i => .int (-i)) (fun i => some (-i)) := fun H x a c ra hc Q q => by
  cases hc
  exact ⟨a, ra, q _ H Gx.rfl rfl⟩

/-! == -/
class Eqd (A : Type) [Rp A] [DecidableEq A] where
  enc : A -> PyData
  dp : forall {K : Fg} {H : Hp} {v : V} {x : A}, rp K H v x -> Dp K H v (enc x)
  lay : forall x : A, (enc x).canLay0 = true
  dep : Nat
  deep : forall x : A, (enc x).depth ≤ dep
  eqv : forall x y : A, PyData.eqv (enc x) (enc y) = decide (x = y)
instance : Eqd Int where
  enc := .int
  dp h := by cases h; exact .int _
  lay _ := by simp [PyData.canLay0]
  dep := 0
  deep _ := by simp [PyData.depth]
  eqv x y := by
    rw [PyData.eqv]
    by_cases h : x = y <;> simp [h]
instance : Eqd Bool where
  enc := .bool
  dp h := by cases h; exact .bl _
  lay _ := by simp [PyData.canLay0]
  dep := 0
  deep _ := by simp [PyData.depth]
  eqv x y := by
    rw [PyData.eqv]
    cases x <;> cases y <;> rfl
instance : Eqd Unit where
  enc _ := .none
  dp h := by cases h; exact .non
  lay _ := by simp [PyData.canLay0]
  dep := 0
  deep _ := by simp [PyData.depth]
  eqv x y := by
    rw [PyData.eqv]
    cases x; cases y; rfl
section
variable [DecidableEq A] [DecidableEq B] [Eqd A] [Eqd B]
instance : Eqd (A × B) where
  enc x := .tuple [Eqd.enc x.1, Eqd.enc x.2]
  dp h := by
    obtain ⟨a, u, w, rfl, h2, h3, h4⟩ := h
    exact .tup (SqT.of h2) (.cons (Eqd.dp h3) (.cons (Eqd.dp h4) .nil))
  lay x := by simp [PyData.canLay0, PyData.canLayAll0, Eqd.lay]
  dep := max (Eqd.dep A) (Eqd.dep B) + 1
  deep x := by
    have h1 := Eqd.deep x.1
    have h2 := Eqd.deep x.2
    simp only [PyData.depth, PyData.depthAll]
    omega
  eqv x y := by
    rw [PyData.eqv, PyData.eqvAll, PyData.eqvAll, PyData.eqvAll, Eqd.eqv, Eqd.eqv, Bool.and_true]
    cases x; cases y
    simp
theorem al_dp {K : Fg} {H : Hp} : forall {vs : List V} {xs : List A}, Al (rp K H) vs xs -> DpAll K H vs (xs.map Eqd.enc)
  | [], [], _ => .nil
  | _ :: _, _ :: _, q => .cons (Eqd.dp q.1) (al_dp q.2)
  | [], _ :: _, q => q.elim
  | _ :: _, [], q => q.elim
theorem lay_all : forall xs : List A, PyData.canLayAll0 (xs.map Eqd.enc) = true
  | [] => by simp [PyData.canLayAll0]
  | x :: xs => by
    have ih := lay_all xs
    simp [PyData.canLayAll0, Eqd.lay, ih]
theorem deep_all : forall xs : List A, PyData.depthAll (xs.map Eqd.enc) ≤ Eqd.dep A
  | [] => by simp [PyData.depthAll]
  | x :: xs => by
    have ih := deep_all xs
    have h := Eqd.deep x
    simp only [List.map_cons, PyData.depthAll]
    omega
theorem eqv_all : forall xs ys : List A, PyData.eqvAll (xs.map Eqd.enc) (ys.map Eqd.enc) = decide (xs = ys)
  | [], [] => by simp [PyData.eqvAll]
  | [], _ :: _ => by simp [PyData.eqvAll]
  | _ :: _, [] => by simp [PyData.eqvAll]
  | x :: xs, y :: ys => by
    have ih := eqv_all xs ys
    rw [List.map_cons, List.map_cons, PyData.eqvAll, Eqd.eqv, ih]
    simp
instance : Eqd (List A) where
  enc x := .list (x.map Eqd.enc)
  dp h := by
    obtain ⟨a, vs, rfl, h2, h3⟩ := h
    exact .lst (SqL.of h2) (al_dp h3)
  lay x := by
    rw [PyData.canLay0]
    exact lay_all x
  dep := Eqd.dep A + 1
  deep x := by
    have h := deep_all x
    simp only [PyData.depth]
    omega
  eqv x y := by
    rw [PyData.eqv]
    exact eqv_all x y
instance : Eqd (Tl A) where
  enc x := .tuple (x.l.map Eqd.enc)
  dp h := by
    obtain ⟨a, vs, rfl, h2, h3⟩ := h
    exact .tup (SqT.of h2) (al_dp h3)
  lay x := by
    rw [PyData.canLay0]
    exact lay_all x.l
  dep := Eqd.dep A + 1
  deep x := by
    have h := deep_all x.l
    simp only [PyData.depth]
    omega
  eqv x y := by
    rw [PyData.eqv, eqv_all]
    cases x; cases y
    simp
theorem shaped_enc (h : Eqd.dep A ≤ 64) (x : A) : SeqAt.shaped (Eqd.enc x) = true := by
  unfold SeqAt.shaped
  rw [Eqd.lay, Bool.true_and]
  exact decide_eq_true (Nat.le_trans (Eqd.deep x) h)
theorem rb_eq (h : Eqd.dep A ≤ 64 := by decide) : RB (A := A) (B := A) (C := Bool) K (rEqD K) (fun a b => some (decide (a = b))) := fun H x y a b c ra rb hc Q q => by
  cases hc
  refine ⟨_, _, Eqd.dp ra, Eqd.dp rb, shaped_enc h a, shaped_enc h b, ?_⟩
  rw [Eqd.eqv]
  exact q _ H Gx.rfl rfl
theorem rb_ne (h : Eqd.dep A ≤ 64 := by decide) : RB (A := A) (B := A) (C := Bool) K (rNeD K) (fun a b => some (!decide (a = b))) := fun H x y a b c ra rb hc Q q => by
  cases hc
  refine ⟨_, _, Eqd.dp ra, Eqd.dp rb, shaped_enc h a, shaped_enc h b, ?_⟩
  rw [Eqd.eqv]
  exact q _ H Gx.rfl rfl
end

/-! items, slices -/
def ix {A : Type} (xs : List A) (i : Int) : Option A := atI xs i
theorem ixN_lt {n : Nat} {i : Int} {j : Nat} (h : ixN n i = some j) : j < n := by
  unfold ixN at h
  split at h
  · split at h
    · cases h; omega
    · cases h
  · split at h
    · cases h; omega
    · cases h
theorem al_at {A : Type} {F : V -> A -> Prop} {vs : List V} {xs : List A} {i : Int} {x : A} (q : Al F vs xs) (h : ix xs i = some x) : exists v, atI vs i = some v ∧ F v x := by
  unfold ix atI at h
  cases e : ixN xs.length i with
  | none => rw [e] at h; cases h
  | some j =>
    rw [e] at h
    obtain ⟨v, h1, h2⟩ := q.get (i := j) h
    refine ⟨v, ?_, h2⟩
    unfold atI
    rw [q.len, e]
    exact h1
theorem rb_ixL : RB (A := List A) (B := Int) (C := A) K (rIxL K) ix := fun H x y a b c ra rb hc Q q => by
  obtain ⟨p, vs, rfl, h2, h3⟩ := ra
  obtain ⟨v, h4, h5⟩ := al_at h3 hc
  exact ⟨p, vs, b, v, rfl, rb, SqL.of h2, h4, q v H Gx.rfl h5⟩
theorem rb_ixT : RB (A := Tl A) (B := Int) (C := A) K (rIxT K) (fun a b => ix a.l b) := fun H x y a b c ra rb hc Q q => by
  obtain ⟨p, vs, rfl, h2, h3⟩ := ra
  obtain ⟨v, h4, h5⟩ := al_at h3 hc
  exact ⟨p, vs, b, v, rfl, rb, SqT.of h2, h4, q v H Gx.rfl h5⟩
/-- p[0], p[1] of a pair -/
theorem eb_fst {ma : Option (A × B)} {i : Int} (hi : i = 0) (ha : EvB K ta σ H ma) : EvB K (tOp (rIxT K) ta (tC (.int i))) σ H (o1 (fun x => some x.1) ma) := fun x hx H1 e Q q => by
  obtain ⟨a, e1, e3⟩ := o1s hx
  cases e3
  subst hi
  refine ha a e1 H1 e _ fun v H2 g2 r2 => ?_
  obtain ⟨p, u, w, rfl, h2, h3, h4⟩ := r2
  exact ⟨p, _, 0, u, rfl, rfl, SqT.of h2, rfl, q u H2 g2 h3⟩
theorem eb_snd {ma : Option (A × B)} {i : Int} (hi : i = 1) (ha : EvB K ta σ H ma) : EvB K (tOp (rIxT K) ta (tC (.int i))) σ H (o1 (fun x => some x.2) ma) := fun x hx H1 e Q q => by
  obtain ⟨a, e1, e3⟩ := o1s hx
  cases e3
  subst hi
  refine ha a e1 H1 e _ fun v H2 g2 r2 => ?_
  obtain ⟨p, u, w, rfl, h2, h3, h4⟩ := r2
  exact ⟨p, _, 1, w, rfl, rfl, SqT.of h2, rfl, q w H2 g2 h4⟩

/-! tests -/
theorem et_b {m : Option Bool} (h : EvB K te σ H m) : EvT (tB te) σ H m := fun b hb H1 e Q q => h b hb H1 e _ fun v H2 g r => ⟨b, r, q H2 g⟩
theorem et_test {m : Option Bool} (h : EvB K te σ H m) : EvT (tTest te) σ H m := fun b hb H1 e Q q => h b hb H1 e _ fun v H2 g r => ⟨b, r, q H2 g⟩
def oAnd (ma mb : Option Bool) : Option Bool := ma.bind fun a => if a = true then mb else some false
def oOr (ma mb : Option Bool) : Option Bool := ma.bind fun a => if a = true then some true else mb
def oNot (ma : Option Bool) : Option Bool := ma.bind fun a => some (!a)
def oIf {A : Type} (mc : Option Bool) (ma mb : Option A) : Option A := mc.bind fun c => if c = true then ma else mb
theorem ite_tt {P Q : Prop} (h : P) : if true = true then P else Q := by rw [if_pos rfl]; exact h
theorem ite_ff {P Q : Prop} (h : Q) : if false = true then P else Q := by rw [if_neg Bool.false_ne_true]; exact h
theorem et_and {ma mb : Option Bool} (ha : EvT tt σ H ma) (hb : EvT tu σ H mb) : EvT (tAnd tt tu) σ H (oAnd ma mb) := fun b hx H1 e Q q => by
  cases ma with
  | none => cases hx
  | some a =>
    refine ha a rfl H1 e _ fun H2 g2 => ?_
    cases a with
    | true => exact ite_tt (hb b hx H2 (e.trans g2) Q fun H3 g3 => q H3 (g2.trans g3))
    | false => cases hx; exact ite_ff (q H2 g2)
theorem et_or {ma mb : Option Bool} (ha : EvT tt σ H ma) (hb : EvT tu σ H mb) : EvT (tOr tt tu) σ H (oOr ma mb) := fun b hx H1 e Q q => by
  cases ma with
  | none => cases hx
  | some a =>
    refine ha a rfl H1 e _ fun H2 g2 => ?_
    cases a with
    | true => cases hx; exact ite_tt (q H2 g2)
    | false => exact ite_ff (hb b hx H2 (e.trans g2) Q fun H3 g3 => q H3 (g2.trans g3))
theorem et_not {ma : Option Bool} (ha : EvT tt σ H ma) : EvT (tNot tt) σ H (oNot ma) := fun b hx H1 e Q q => by
  cases ma with
  | none => cases hx
  | some a =>
    cases hx
    exact ha a rfl H1 e _ fun H2 g2 => q H2 g2
theorem eb_and {ma mb : Option Bool} (ha : EvB K ta σ H ma) (hb : EvB K tb σ H mb) : EvB K (tAndV ta tb) σ H (oAnd ma mb) := fun b hx H1 e Q q => by
  cases ma with
  | none => cases hx
  | some a =>
    refine ha a rfl H1 e _ fun v H2 g2 r => ⟨a, r, ?_⟩
    cases a with
    | true => exact ite_tt (hb b hx H2 (e.trans g2) Q fun v H3 g3 r3 => q v H3 (g2.trans g3) r3)
    | false => cases hx; exact ite_ff (q _ H2 g2 rfl)
theorem eb_or {ma mb : Option Bool} (ha : EvB K ta σ H ma) (hb : EvB K tb σ H mb) : EvB K (tOrV ta tb) σ H (oOr ma mb) := fun b hx H1 e Q q => by
  cases ma with
  | none => cases hx
  | some a =>
    refine ha a rfl H1 e _ fun v H2 g2 r => ⟨a, r, ?_⟩
    cases a with
    | true => cases hx; exact ite_tt (q _ H2 g2 rfl)
    | false => exact ite_ff (hb b hx H2 (e.trans g2) Q fun v H3 g3 r3 => q v H3 (g2.trans g3) r3)
theorem eb_not {ma : Option Bool} (ha : EvB K ta σ H ma) : EvB K (tNotV ta) σ H (oNot ma) := fun b hx H1 e Q q => by
  cases ma with
  | none => cases hx
  | some a =>
    cases hx
    exact ha a rfl H1 e _ fun v H2 g2 r => ⟨a, r, q _ H2 g2 rfl⟩
theorem eb_if {mc : Option Bool} {ma mb : Option A} (hc : EvT tt σ H mc) (ha : EvB K ta σ H ma) (hb : EvB K tb σ H mb) : EvB K (tIf tt ta tb) σ H (oIf mc ma mb) := fun x hx H1 e Q q => by
  cases mc with
  | none => cases hx
  | some c =>
    refine hc c rfl H1 e _ fun H2 g2 => ?_
    cases c with
    | true => exact ite_tt (ha x hx H2 (e.trans g2) Q fun v H3 g3 r3 => q v H3 (g2.trans g3) r3)
    | false => exact ite_ff (hb x hx H2 (e.trans g2) Q fun v H3 g3 r3 => q v H3 (g2.trans g3) r3)
/-- a chain of two comparisons -/
theorem eb_chain {r r' : R2} {f : A -> B -> Option Bool} {g : B -> C -> Option Bool} {ma : Option A} {mb : Option B} {mc : Option C} (hr : RB K r f) (hr' : RB K r' g) (ha : EvB K ta σ H ma) (hb : EvB K tb σ H mb) (hc : EvB K tc σ H mc) :
    EvB K (tChain r r' ta tb tc) σ H (ma.bind fun a => mb.bind fun b => (f a b).bind fun k => if k = true then mc.bind fun c => g b c else some false) := fun x hx H1 e Q q => by
  cases ma with
  | none => cases hx
  | some a => cases mb with
    | none => cases hx
    | some b =>
      have hx' : ((f a b).bind fun k => if k = true then mc.bind fun c => g b c else some false) = some x := hx
      refine ha a rfl H1 e _ fun v H2 g2 r2 => hb b rfl H2 (e.trans g2) _ fun w H3 g3 r3 => ?_
      cases hf : f a b with
      | none => rw [hf] at hx'; cases hx'
      | some k =>
        rw [hf] at hx'
        refine hr H3 v w a b k (Rp.mono g3 r2) r3 hf _ fun z H4 g4 r4 => ⟨k, r4, ?_⟩
        cases k with
        | true =>
          cases mc with
          | none => cases hx'
          | some c =>
            refine ite_tt (hc c rfl H4 (((e.trans g2).trans g3).trans g4) _ fun u H5 g5 r5 => hr' H5 w u b c x (Rp.mono (g4.trans g5) r3) r5 hx' Q fun o H6 g6 r6 => q o H6 ((((g2.trans g3).trans g4).trans g5).trans g6) r6)
        | false =>
          cases hx'
          exact ite_ff (q _ H4 ((g2.trans g3).trans g4) rfl)

/-! argument lists -/
theorem call1 {r : List V -> Hp -> VK -> Prop} {ma : Option A} {f : A -> Option C} (h : forall H v x c, rp K H v x -> f x = some c -> forall Q : VK, (forall z H2, Gx H H2 -> rp K H2 z c -> Q z H2) -> r [v] H Q) (ha : EvB K ta σ H ma) :
    EvB K (tCB r (tCons ta tNil)) σ H (o1 f ma) := fun x hx H1 e Q q => by
  obtain ⟨a, e1, e3⟩ := o1s hx
  exact ha a e1 H1 e _ fun v H2 g2 r2 => h H2 v a x r2 e3 Q fun z H3 g3 r3 => q z H3 (g2.trans g3) r3
theorem call2 {r : List V -> Hp -> VK -> Prop} {ma : Option A} {mb : Option B} {f : A -> B -> Option C} (h : forall H v w x y c, rp K H v x -> rp K H w y -> f x y = some c -> forall Q : VK, (forall z H2, Gx H H2 -> rp K H2 z c -> Q z H2) -> r [v, w] H Q) (ha : EvB K ta σ H ma) (hb : EvB K tb σ H mb) :
    EvB K (tCB r (tCons ta (tCons tb tNil))) σ H (o2 f ma mb) := fun x hx H1 e Q q => by
  obtain ⟨a, b, e1, e2, e3⟩ := o2s hx
  exact ha a e1 H1 e _ fun v H2 g2 r2 => hb b e2 H2 (e.trans g2) _ fun w H3 g3 r3 => h H3 v w a b x (Rp.mono g3 r2) r3 e3 Q fun z H4 g4 r4 => q z H4 ((g2.trans g3).trans g4) r4
/-- a call that makes a list -/
theorem call1L {r : List V -> Hp -> VK -> Prop} {ma : Option A} {f : A -> Option (List C)} (h : forall H v x c, rp K H v x -> f x = some c -> forall Q : VK, (forall p vs, H p = none -> Al (rp K H) vs c -> Q (.ref p) (upd H p (.lst vs))) -> r [v] H Q) (ha : EvB K ta σ H ma) :
    EvN K (tCB r (tCons ta tNil)) σ H (o1 f ma) := fun x hx H1 e Q q => by
  obtain ⟨a, e1, e3⟩ := o1s hx
  exact ha a e1 H1 e _ fun v H2 g2 r2 => h H2 v a x r2 e3 Q fun p vs hp r3 => q p vs _ (g2.back hp) (g2.trans (Gx.new hp)) upd_same (r3.mono fun _ _ => Rp.mono (Gx.new hp))
end
end Pu

set_option Elab.async false
set_option linter.all false
set_option maxRecDepth 100000
namespace Pu
open Pu.Rp (rp)
open PySem PySem.Spec PyProof.Rows L2
section
variable {K : Fg} {A B C D : Type} [Rp A] [Rp B] [Rp C] [Rp D]
variable {σ : L2.St} {G G' H H' : Hp} {L : Led} {te ta tb tc : TE} {tt tu : TT}

/-! built-in calls -/
theorem eb_lenL {ma : Option (List A)} (ha : EvB K ta σ H ma) : EvB K (tCB (fun xs H Q => ∃ p ys, xs = [.ref p] ∧ (SqL K H p ys ∨ SqT K H p ys) ∧ Q (.int ys.length) H) (tCons ta tNil)) σ H (o1 (fun x => some (x.length : Int)) ma) :=
  call1 (fun H v x c r hc Q q => by
    cases hc
    obtain ⟨p, vs, rfl, h2, h3⟩ := r
    refine ⟨p, vs, rfl, .inl (SqL.of h2), ?_⟩
    rw [h3.len]
    exact q _ H Gx.rfl rfl) ha
theorem eb_lenT {ma : Option (Tl A)} (ha : EvB K ta σ H ma) : EvB K (tCB (fun xs H Q => ∃ p ys, xs = [.ref p] ∧ (SqL K H p ys ∨ SqT K H p ys) ∧ Q (.int ys.length) H) (tCons ta tNil)) σ H (o1 (fun x => some (x.l.length : Int)) ma) :=
  call1 (fun H v x c r hc Q q => by
    cases hc
    obtain ⟨p, vs, rfl, h2, h3⟩ := r
    refine ⟨p, vs, rfl, .inr (SqT.of h2), ?_⟩
    rw [h3.len]
    exact q _ H Gx.rfl rfl) ha
def imax (i j : Int) : Int := if j > i then j else i
def imin (i j : Int) : Int := if j < i then j else i
theorem eb_max2 {ma mb : Option Int} (ha : EvB K ta σ H ma) (hb : EvB K tb σ H mb) : EvB K (tCB (fun xs H Q => ∃ i j, xs = [.int i, .int j] ∧ Q (.int (if j > i then j else i)) H) (tCons ta (tCons tb tNil))) σ H (o2 (fun i j => some (imax i j)) ma mb) :=
  call2 (fun H v w x y c r1 r2 hc Q q => by
    cases hc; cases r1; cases r2
    exact ⟨x, y, rfl, q _ H Gx.rfl rfl⟩) ha hb
theorem eb_min2 {ma mb : Option Int} (ha : EvB K ta σ H ma) (hb : EvB K tb σ H mb) : EvB K (tCB (fun xs H Q => ∃ i j, xs = [.int i, .int j] ∧ Q (.int (if j < i then j else i)) H) (tCons ta (tCons tb tNil))) σ H (o2 (fun i j => some (imin i j)) ma mb) :=
  call2 (fun H v w x y c r1 r2 hc Q q => by
    cases hc; cases r1; cases r2
    exact ⟨x, y, rfl, q _ H Gx.rfl rfl⟩) ha hb
theorem eb_sum {ma : Option (List Int)} (ha : EvB K ta σ H ma) : EvB K (tCB (rSum K) (tCons ta tNil)) σ H (o1 (fun x => some x.sum) ma) :=
  call1 (fun H v x c r hc Q q => by
    cases hc
    obtain ⟨p, vs, rfl, h2, h3⟩ := r
    rw [al_int h3] at h2
    exact ⟨p, x, rfl, SqL.of h2, q _ H Gx.rfl rfl⟩) ha
theorem eb_any {ma : Option (List Bool)} (ha : EvB K ta σ H ma) : EvB K (tCB (rAny K) (tCons ta tNil)) σ H (o1 (fun x => some (x.any id)) ma) :=
  call1 (fun H v x c r hc Q q => by
    cases hc
    obtain ⟨p, vs, rfl, h2, h3⟩ := r
    rw [al_bl h3] at h2
    exact ⟨p, x, rfl, SqL.of h2, q _ H Gx.rfl rfl⟩) ha
theorem eb_all {ma : Option (List Bool)} (ha : EvB K ta σ H ma) : EvB K (tCB (rAll K) (tCons ta tNil)) σ H (o1 (fun x => some (x.all id)) ma) :=
  call1 (fun H v x c r hc Q q => by
    cases hc
    obtain ⟨p, vs, rfl, h2, h3⟩ := r
    rw [al_bl h3] at h2
    exact ⟨p, x, rfl, SqL.of h2, q _ H Gx.rfl rfl⟩) ha
/-- the rising list of a list of ints -/
def isort (x : List Int) : List Int := x.mergeSort (fun a b => decide (a ≤ b))
theorem isort_perm (x : List Int) : (isort x).Perm x := List.mergeSort_perm _ _
theorem isort_le (x : List Int) : (isort x).Pairwise (· ≤ ·) := by
  have h := List.pairwise_mergeSort (le := fun a b : Int => decide (a ≤ b)) (fun a b c h1 h2 => by simp only [decide_eq_true_eq] at *; omega) (fun a b => by simp only [Bool.or_eq_true, decide_eq_true_eq]; omega) x
  exact h.imp fun h => by simpa using h
theorem pw_uniq : forall {xs ys : List Int}, xs.Perm ys -> xs.Pairwise (· ≤ ·) -> ys.Pairwise (· ≤ ·) -> xs = ys := fun {xs ys} p h1 h2 =>
  p.eq_of_pairwise (fun a b _ _ h h' => Int.le_antisymm h h') h1 h2
theorem en_sorted {ma : Option (List Int)} (ha : EvB K ta σ H ma) : EvN K (tCB (rSortedI K) (tCons ta tNil)) σ H (o1 (fun x => some (isort x)) ma) :=
  call1L (fun H v x c r hc Q q => by
    cases hc
    obtain ⟨p, vs, rfl, h2, h3⟩ := r
    rw [al_int h3] at h2
    refine ⟨p, x, rfl, SqL.of h2, fun ns p' hp1 hp2 hn => ?_⟩
    rw [pw_uniq (hp1.trans (isort_perm x).symm) hp2 (isort_le x)]
    exact q p' _ hn (int_al _)) ha
theorem en_list {ma : Option (List A)} (ha : EvB K ta σ H ma) : EvN K (tCB (fun xs H Q => ∃ p ys, xs = [.ref p] ∧ (SqL K H p ys ∨ SqT K H p ys) ∧ ∀ l, H l = none → Q (.ref l) (upd H l (.lst ys))) (tCons ta tNil)) σ H (o1 (fun x => some x) ma) :=
  call1L (fun H v x c r hc Q q => by
    cases hc
    obtain ⟨p, vs, rfl, h2, h3⟩ := r
    exact ⟨p, vs, rfl, .inl (SqL.of h2), fun l hl => q l vs hl h3⟩) ha
theorem en_listT {ma : Option (Tl A)} (ha : EvB K ta σ H ma) : EvN K (tCB (fun xs H Q => ∃ p ys, xs = [.ref p] ∧ (SqL K H p ys ∨ SqT K H p ys) ∧ ∀ l, H l = none → Q (.ref l) (upd H l (.lst ys))) (tCons ta tNil)) σ H (o1 (fun x => some x.l) ma) :=
  call1L (fun H v x c r hc Q q => by
    cases hc
    obtain ⟨p, vs, rfl, h2, h3⟩ := r
    exact ⟨p, vs, rfl, .inr (SqT.of h2), fun l hl => q l vs hl h3⟩) ha
theorem eb_tuple {ma : Option (List A)} (ha : EvB K ta σ H ma) : EvB K (tCB (fun xs H Q => ∃ p ys, xs = [.ref p] ∧ ((SqL K H p ys ∧ ∀ l, H l = none → Q (.ref l) (upd H l (.tup ys))) ∨ (SqT K H p ys ∧ Q (.ref p) H))) (tCons ta tNil)) σ H (o1 (fun x => some (Tl.mk x)) ma) :=
  call1 (fun H v x c r hc Q q => by
    cases hc
    obtain ⟨p, vs, rfl, h2, h3⟩ := r
    exact ⟨p, vs, rfl, .inl ⟨SqL.of h2, fun l hl => q _ _ (Gx.new hl) ⟨l, vs, rfl, upd_same, h3.mono fun _ _ => Rp.mono (Gx.new hl)⟩⟩⟩) ha

/-! displays -/
theorem eb_tup2 {ma : Option A} {mb : Option B} (ha : EvB K ta σ H ma) (hb : EvB K tb σ H mb) : EvB K (tTup (tCons ta (tCons tb tNil))) σ H (o2 (fun a b => some (a, b)) ma mb) := fun x hx H1 e Q q => by
  obtain ⟨a, b, e1, e2, e3⟩ := o2s hx
  cases e3
  refine ha a e1 H1 e _ fun v H2 g2 r2 => hb b e2 H2 (e.trans g2) _ fun w H3 g3 r3 => ⟨by show 2 ≤ sizeLine; decide, fun p hp => ?_⟩
  exact q _ _ ((g2.trans g3).trans (Gx.new hp)) ⟨p, v, w, rfl, upd_same, Rp.mono (g3.trans (Gx.new hp)) r2, Rp.mono (Gx.new hp) r3⟩
theorem eb_tup3 {ma : Option A} {mb : Option B} {mc : Option C} (ha : EvB K ta σ H ma) (hb : EvB K tb σ H mb) (hc : EvB K tc σ H mc) : EvB K (tTup (tCons ta (tCons tb (tCons tc tNil)))) σ H (ma.bind fun a => mb.bind fun b => mc.bind fun c => some (T3.mk a b c)) := fun x hx H1 e Q q => by
  cases ma with
  | none => cases hx
  | some a => cases mb with
    | none => cases hx
    | some b => cases mc with
      | none => cases hx
      | some c =>
        cases hx
        refine ha a rfl H1 e _ fun v H2 g2 r2 => hb b rfl H2 (e.trans g2) _ fun w H3 g3 r3 => hc c rfl H3 ((e.trans g2).trans g3) _ fun z H4 g4 r4 => ⟨by show 3 ≤ sizeLine; decide, fun p hp => ?_⟩
        exact q _ _ (((g2.trans g3).trans g4).trans (Gx.new hp)) ⟨p, v, w, z, rfl, upd_same, Rp.mono ((g3.trans g4).trans (Gx.new hp)) r2, Rp.mono (g4.trans (Gx.new hp)) r3, Rp.mono (Gx.new hp) r4⟩
/-- some expressions of one kind, from the left -/
def EvL (K : Fg) (ta : TA) (σ : L2.St) (H : Hp) (m : Option (List A)) : Prop :=
  forall xs, m = some xs -> forall H1, Gx H H1 -> forall Q : List V -> Hp -> Prop, (forall vs H2, Gx H1 H2 -> Al (rp K H2) vs xs -> Q vs H2) -> ta σ H1 Q
theorem el_nil : EvL (A := A) K tNil σ H (some []) := fun xs hx H1 e Q q => by
  cases hx
  exact q [] H1 Gx.rfl trivial
theorem el_cons {tr : TA} {ma : Option A} {mr : Option (List A)} (ha : EvB K ta σ H ma) (hr : EvL K tr σ H mr) : EvL K (tCons ta tr) σ H (o2 (fun a r => some (a :: r)) ma mr) := fun xs hx H1 e Q q => by
  obtain ⟨a, b, e1, e2, e3⟩ := o2s hx
  cases e3
  exact ha a e1 H1 e _ fun v H2 g2 r2 => hr b e2 H2 (e.trans g2) _ fun vs H3 g3 r3 => q (v :: vs) H3 (g2.trans g3) ⟨Rp.mono g3 r2, r3⟩
def szOk {A : Type} (xs : List A) : Option (List A) := if xs.length ≤ 100000 then some xs else none
theorem szOks {A : Type} {xs ys : List A} (h : szOk xs = some ys) : ys = xs ∧ xs.length ≤ 100000 := by
  unfold szOk at h
  split at h
  · cases h; exact ⟨rfl, by assumption⟩
  · cases h
theorem eb_tupl {tr : TA} {mr : Option (List A)} (h : EvL K tr σ H mr) : EvB K (tTup tr) σ H (o1 (fun x => (szOk x).map Tl.mk) mr) := fun x hx H1 e Q q => by
  obtain ⟨a, e1, e3⟩ := o1s hx
  obtain ⟨b, e4, e5⟩ := Option.map_eq_some_iff.mp e3
  obtain ⟨rfl, hz⟩ := szOks e4
  subst e5
  refine h b e1 H1 e _ fun vs H2 g2 r2 => ⟨by rw [r2.len]; exact Evl.sz_of hz, fun p hp => q _ _ (g2.trans (Gx.new hp)) ⟨p, vs, rfl, upd_same, r2.mono fun _ _ => Rp.mono (Gx.new hp)⟩⟩
theorem en_lst {tr : TA} {mr : Option (List A)} (h : EvL K tr σ H mr) : EvN K (tLst tr) σ H (o1 szOk mr) := fun x hx H1 e Q q => by
  obtain ⟨a, e1, e3⟩ := o1s hx
  obtain ⟨rfl, hz⟩ := szOks e3
  exact h x e1 H1 e _ fun vs H2 g2 r2 => ⟨by rw [r2.len]; exact Evl.sz_of hz, fun p hp => q p vs _ (g2.back hp) (g2.trans (Gx.new hp)) upd_same (r2.mono fun _ _ => Rp.mono (Gx.new hp))⟩

/-! slices -/
def EvP (to : TO) (σ : L2.St) (H : Hp) (m : Option (Option Int)) : Prop := forall o, m = some o -> forall H1, Gx H H1 -> forall Q : Option Int -> Hp -> Prop, (forall H2, Gx H1 H2 -> Q o H2) -> to σ H1 Q
theorem ep_none : EvP tNoPart σ H (some none) := fun o ho H1 e Q q => by
  cases ho
  exact q H1 Gx.rfl
theorem ep_some {m : Option Int} (h : EvB K te σ H m) : EvP (tPart te) σ H (m.map some) := fun o ho H1 e Q q => by
  obtain ⟨a, e1, e2⟩ := Option.map_eq_some_iff.mp ho
  subst e2
  exact h a e1 H1 e _ fun v H2 g r => ⟨a, r, q H2 g⟩
def cutM {A : Type} (xs : List A) (lo hi : Option Int) : List A := (xs.drop (HT.sIx xs.length 0 lo)).take (HT.sIx xs.length xs.length hi - HT.sIx xs.length 0 lo)
theorem al_cut {A : Type} {F : V -> A -> Prop} {vs : List V} {xs : List A} {lo hi : Option Int} (q : Al F vs xs) : Al F (cutV vs lo hi) (cutM xs lo hi) := by
  unfold cutV cutM
  rw [q.len]
  exact (q.drop _).take _
def o3 {A B C D : Type} (f : A -> B -> C -> Option D) (ma : Option A) (mb : Option B) (mc : Option C) : Option D := ma.bind fun a => mb.bind fun b => mc.bind fun c => f a b c
theorem o3s {A B C D : Type} {f : A -> B -> C -> Option D} {ma : Option A} {mb : Option B} {mc : Option C} {d : D} (h : o3 f ma mb mc = some d) : exists a b c, ma = some a ∧ mb = some b ∧ mc = some c ∧ f a b c = some d := by
  cases ma with
  | none => cases h
  | some a => cases mb with
    | none => cases h
    | some b => cases mc with
      | none => cases h
      | some c => exact ⟨a, b, c, rfl, rfl, rfl, h⟩
theorem en_sl {tl th : TO} {ma : Option (List A)} {ml mh : Option (Option Int)} (ha : EvB K te σ H ma) (hl : EvP tl σ H ml) (hh : EvP th σ H mh) : EvN K (tSl (rSlL K) te tl th) σ H (o3 (fun a l h => some (cutM a l h)) ma ml mh) := fun x hx H1 e Q q => by
  obtain ⟨a, l, h, e1, e2, e3, e4⟩ := o3s hx
  cases e4
  refine ha a e1 H1 e _ fun v H2 g2 r2 => hl l e2 H2 (e.trans g2) _ fun H3 g3 => hh h e3 H3 ((e.trans g2).trans g3) _ fun H4 g4 => ?_
  have g5 := (g2.trans g3).trans g4
  obtain ⟨p, vs, rfl, h2, h3⟩ := Rp.mono (g3.trans g4) r2
  exact ⟨p, vs, rfl, SqL.of h2, fun p' hp => q p' _ _ (g5.back hp) (g5.trans (Gx.new hp)) upd_same ((al_cut h3).mono fun _ _ => Rp.mono (Gx.new hp))⟩
/-- a slice of a tuple -/
theorem eb_slT {tl th : TO} {ma : Option (Tl A)} {ml mh : Option (Option Int)} (ha : EvB K te σ H ma) (hl : EvP tl σ H ml) (hh : EvP th σ H mh) : EvB K (tSl (rSlA K) te tl th) σ H (o3 (fun a l h => some (Tl.mk (cutM a.l l h))) ma ml mh) := fun x hx H1 e Q q => by
  obtain ⟨a, l, h, e1, e2, e3, e4⟩ := o3s hx
  cases e4
  refine ha a e1 H1 e _ fun v H2 g2 r2 => hl l e2 H2 (e.trans g2) _ fun H3 g3 => hh h e3 H3 ((e.trans g2).trans g3) _ fun H4 g4 => ?_
  have g5 := (g2.trans g3).trans g4
  obtain ⟨p, vs, rfl, h2, h3⟩ := Rp.mono (g3.trans g4) r2
  refine ⟨p, vs, rfl, SqT.of h2, fun hw => q _ _ g5 ⟨p, vs, rfl, h2, ?_⟩, fun _ p' hp => q _ _ (g5.trans (Gx.new hp)) ⟨p', _, rfl, upd_same, (al_cut h3).mono fun _ _ => Rp.mono (Gx.new hp)⟩⟩
  have e6 : cutM a.l l h = a.l := by
    unfold cutM
    rw [← h3.len, hw.1, hw.2, List.drop_zero, Nat.sub_zero, h3.len]
    exact List.take_length
  rw [e6]
  exact h3
/-- xs + ys, lists -/
theorem en_cat {ma mb : Option (List A)} (ha : EvB K ta σ H ma) (hb : EvB K tb σ H mb) : EvN K (tOp rCat ta tb) σ H (o2 (fun a b => szOk (a ++ b)) ma mb) := fun x hx H1 e Q q => by
  obtain ⟨a, b, e1, e2, e3⟩ := o2s hx
  obtain ⟨rfl, hz⟩ := szOks e3
  refine ha a e1 H1 e _ fun v H2 g2 r2 => hb b e2 H2 (e.trans g2) _ fun w H3 g3 r3 => ?_
  obtain ⟨p, vs, rfl, h2, h3⟩ := Rp.mono g3 r2
  obtain ⟨p2, vs2, rfl, h4, h5⟩ := r3
  have g5 := g2.trans g3
  refine ⟨p, p2, vs, vs2, rfl, rfl, h2, h4, ?_, fun p' hp => q p' _ _ (g5.back hp) (g5.trans (Gx.new hp)) upd_same ((h3.app h5).mono fun _ _ => Rp.mono (Gx.new hp))⟩
  rw [h3.len, h5.len, ← List.length_append]
  exact Evl.sz_of hz
end
end Pu

set_option Elab.async false
set_option linter.all false
set_option maxRecDepth 100000
namespace Pu
open Pu.Rp (rp)
open PySem PySem.Spec PyProof.Rows L2
section
variable {K : Fg} {A B C D : Type} [Rp A] [Rp B] [Rp C] [Rp D]
variable {σ : L2.St} {G G' H H' : Hp} {L : Led} {M : List Addr} {te ta tb tc : TE} {tt tu : TT}

/-! what is walked: M is what a turn may change -/
def mns (H : Hp) (M : List Addr) : Hp := fun b => if b ∈ M then none else H b
theorem mns_ex {H : Hp} {M : List Addr} : Gx (mns H M) H := fun a o h => by
  unfold mns at h
  split at h
  · cases h
  · exact h
theorem mns_nil {H : Hp} : mns H [] = H := by
  funext b
  unfold mns
  rw [if_neg (by simp)]
theorem mns_in {H : Hp} {M : List Addr} {b : Addr} (h : b ∈ M) : mns H M b = none := if_pos h
theorem mns_out {H : Hp} {M : List Addr} {b : Addr} (h : b ∉ M) : mns H M b = H b := if_neg h
theorem mns_mono {H H' : Hp} {M : List Addr} (e : Gx H H') : Gx (mns H M) (mns H' M) := fun a o h => by
  by_cases q : a ∈ M
  · rw [mns_in q] at h; cases h
  · rw [mns_out q] at h; rw [mns_out q]; exact e a o h
/-- B within H, apart from M -/
theorem mns_of {B H : Hp} {M : List Addr} (e : Gx B H) (h : forall p, p ∈ M -> B p = none) : Gx B (mns H M) := fun a o q => by
  have z : a ∉ M := fun y => by rw [h a y] at q; cases q
  rw [mns_out z]
  exact e a o q
/-- a change at one of M -/
theorem mns_upd {S H : Hp} {p : Addr} {o : HO} (e : Gx S H) (hp : S p = none) : Gx S (upd H p o) := Gx.mut e hp
def EvS (K : Fg) (te : TE) (σ : L2.St) (M : List Addr) (H : Hp) (m : Option A) : Prop :=
  forall x, m = some x -> forall H1, Gx H H1 -> forall Q : VK, (forall v H2, Gx H1 H2 -> rp K (mns H2 M) v x -> Q v H2) -> te σ H1 Q
theorem es_v {i : Nat} {v : V} {x : A} {Bs : Hp} (h : σ[i]? = some (some v)) (r : rp K Bs v x) (e : Gx Bs H) (hM : forall p, p ∈ M -> Bs p = none) : EvS K (tVar i) σ M H (some x) := fun y hy H1 e1 Q q => by
  cases hy
  exact ⟨v, h, q v H1 Gx.rfl (Rp.mono (mns_of (e.trans e1) hM) r)⟩
theorem es_o {m : Option A} (h : EvO K te σ G H m) (a : At G H L) (hM : forall p, p ∈ M -> p ∈ L.map (·.1)) : EvS K te σ M H m := fun x hx H1 e1 Q q =>
  h x hx G H1 L Gx.rfl e1 (a.grow e1) Q fun v G2 H2 g2 e2 a2 r => q v H2 e2 (Rp.mono (mns_of a2.ex fun p hp => by
    obtain ⟨o, ho, e⟩ := List.mem_map.mp (hM p hp)
    rw [← e]
    exact (a2.led o ho).2.1) r)
theorem es_b {m : Option A} (h : EvB K te σ H m) : EvS K te σ [] H m := fun x hx H1 e1 Q q => h x hx H1 e1 Q fun v H2 e2 r => q v H2 e2 (by rw [mns_nil]; exact r)
/-- .. of what leans on tuples alone -/
theorem es_im [Im A] {m : Option A} (h : EvB K te σ H m) (hM : forall p, p ∈ M -> exists o, H p = some o ∧ Mu o) : EvS K te σ M H m := fun x hx H1 e1 Q q => h x hx H1 e1 Q fun v H2 e2 r => q v H2 e2 (Im.im (fun a xs ha => by
  have z : a ∉ M := fun y => by
    obtain ⟨o, ho, mu⟩ := hM a y
    have := (e1.trans e2) a o ho
    rw [this] at ha
    rw [Option.some.inj ha] at mu
    exact mu
  rw [mns_out z]
  exact ha) r)
def Wk {I : Type} [Rp I] (K : Fg) (J : It) (xs : List I) (S : Hp) : Prop :=
  (forall i H, i < xs.length -> Gx S H -> J.go i H) ∧ (forall H, Gx S H -> J.stop xs.length H) ∧ (forall i H v H' x, Gx S H -> xs[i]? = some x -> J.yld i H v H' -> Gx H H' ∧ rp K H' v x)
def EvI {I : Type} [Rp I] (K : Fg) (wi : TI) (σ : L2.St) (M : List Addr) (H : Hp) (m : Option (List I)) : Prop :=
  forall xs, m = some xs -> forall H1, Gx H H1 -> forall R : It -> Hp -> Prop, (forall J H2, Gx H1 H2 -> Wk K J xs (mns H2 M) -> R J H2) -> wi σ H1 R
theorem EvS.mono {m : Option A} (h : EvS K te σ M H m) (e : Gx H H') : EvS K te σ M H' m := fun x hx H1 e1 Q q => h x hx H1 (e.trans e1) Q q
theorem wk_list {a : Addr} {vs : List V} {xs : List A} {S : Hp} (h : S a = some (.lst vs)) (r : Al (rp K S) vs xs) : Wk K (Itl K a) xs S :=
  ⟨fun i H hi e => by
    obtain ⟨v, hv, _⟩ := r.get (List.getElem?_eq_getElem hi)
    exact ⟨vs, v, SqL.of (e _ _ h), hv⟩, fun H e => ⟨vs, SqL.of (e _ _ h), by rw [r.len]; exact Nat.le_refl _⟩, fun i H v H' x e hx y => by
    obtain ⟨rfl, y⟩ := y
    obtain ⟨w, hw, rw'⟩ := r.get hx
    have q := y vs (SqL.of (e _ _ h))
    rw [hw] at q
    cases q
    exact ⟨Gx.rfl, Rp.mono e rw'⟩⟩
theorem wk_tup {a : Addr} {vs : List V} {xs : List A} {S : Hp} (h : S a = some (.tup vs)) (r : Al (rp K S) vs xs) : Wk K (Itt K a) xs S :=
  ⟨fun i H hi e => by
    obtain ⟨v, hv, _⟩ := r.get (List.getElem?_eq_getElem hi)
    exact ⟨vs, v, SqT.of (e _ _ h), hv⟩, fun H e => ⟨vs, SqT.of (e _ _ h), by rw [r.len]; exact Nat.le_refl _⟩, fun i H v H' x e hx y => by
    obtain ⟨rfl, y⟩ := y
    obtain ⟨w, hw, rw'⟩ := r.get hx
    have q := y vs (SqT.of (e _ _ h))
    rw [hw] at q
    cases q
    exact ⟨Gx.rfl, Rp.mono e rw'⟩⟩
theorem ei_list {ma : Option (List A)} (h : EvS K ta σ M H ma) : EvI K (iList K ta) σ M H ma := fun xs hx H1 e R q =>
  h xs hx H1 e _ fun v H2 g r => by
    obtain ⟨a, vs, rfl, h2, h3⟩ := r
    exact ⟨a, rfl, ⟨vs, SqL.of (mns_ex _ _ h2)⟩, q _ H2 g (wk_list h2 h3)⟩
theorem ei_tup {ma : Option (Tl A)} (h : EvS K ta σ M H ma) : EvI K (iTup K ta) σ M H (ma.map Tl.l) := fun xs hx H1 e R q => by
  obtain ⟨x, hx1, rfl⟩ := Option.map_eq_some_iff.mp hx
  exact h x hx1 H1 e _ fun v H2 g r => by
    obtain ⟨a, vs, rfl, h2, h3⟩ := r
    exact ⟨a, rfl, ⟨vs, SqT.of (mns_ex _ _ h2)⟩, q _ H2 g (wk_tup h2 h3)⟩
def rng (lo hi : Int) : List Int := (List.range (hi - lo).toNat).map fun i : Nat => lo + (i : Int)
theorem rng_get {lo hi : Int} {i : Nat} {x : Int} (h : (rng lo hi)[i]? = some x) : x = lo + (i : Int) := by
  unfold rng at h
  rw [List.getElem?_map] at h
  obtain ⟨k, hk, rfl⟩ := Option.map_eq_some_iff.mp h
  obtain ⟨_, e⟩ := List.getElem?_eq_some_iff.mp hk
  rw [List.getElem_range] at e
  rw [e]
theorem wk_rng {lo hi : Int} {S : Hp} : Wk K (Itr lo (hi - lo).toNat) (rng lo hi) S := by
  have hl : (rng lo hi).length = (hi - lo).toNat := by unfold rng; rw [List.length_map, List.length_range]
  refine ⟨fun i H h _ => by rw [hl] at h; exact h, fun H _ => by rw [hl]; exact Nat.le_refl _, fun i H v H' x _ hx y => ?_⟩
  obtain ⟨rfl, rfl⟩ := y
  rw [rng_get hx]
  exact ⟨Gx.rfl, rfl⟩
def rgOk (i : Int) : Bool := decide (-(2 ^ 62) ≤ i) && decide (i < 2 ^ 62)
theorem rgOks {i : Int} (h : rgOk i = true) : -(2 ^ 62) ≤ i ∧ i < 2 ^ 62 := by
  unfold rgOk at h
  simpa using h
theorem ei_rng1 {ma : Option Int} (h : EvB K ta σ H ma) : EvI K (iRng1 (tCons ta tNil)) σ M H (ma.bind fun j => if rgOk j = true then some (rng 0 j) else none) := fun xs hx H1 e R q => by
  cases ma with
  | none => cases hx
  | some j =>
    by_cases hj : rgOk j = true
    · have hx' : (if rgOk j = true then some (rng 0 j) else none) = some xs := hx
      rw [if_pos hj] at hx'
      cases hx'
      refine h j rfl H1 e _ fun v H2 g r => ?_
      obtain ⟨h1, h2⟩ := rgOks hj
      refine ⟨j, by rw [show v = .int j from r], h1, h2, q _ H2 g ?_⟩
      have := wk_rng (K := K) (lo := 0) (hi := j) (S := mns H2 M)
      rw [Int.sub_zero] at this
      exact this
    · have hx' : (if rgOk j = true then some (rng 0 j) else none) = some xs := hx
      rw [if_neg hj] at hx'
      cases hx'
theorem ei_rng2 {ma mb : Option Int} (h : EvB K ta σ H ma) (h' : EvB K tb σ H mb) : EvI K (iRng2 (tCons ta (tCons tb tNil))) σ M H (o2 (fun i j => if rgOk i = true ∧ rgOk j = true then some (rng i j) else none) ma mb) := fun xs hx H1 e R q => by
  obtain ⟨i, j, e1, e2, e3⟩ := o2s hx
  by_cases hj : rgOk i = true ∧ rgOk j = true
  · rw [if_pos hj] at e3
    cases e3
    refine h i e1 H1 e _ fun v H2 g r => h' j e2 H2 (e.trans g) _ fun w H3 g3 r3 => ?_
    obtain ⟨h1, h2⟩ := rgOks hj.1
    obtain ⟨h3, h4⟩ := rgOks hj.2
    exact ⟨i, j, by rw [show v = .int i from r, show w = .int j from r3], ⟨h1, h2, h3, h4⟩, q _ H3 (g.trans g3) wk_rng⟩
  · rw [if_neg hj] at e3
    cases e3
/-- two lists side by side -/
theorem wk_zip {a b : Addr} {vs ws : List V} {xs : List A} {ys : List B} {S : Hp} (h : S a = some (.lst vs)) (r : Al (rp K S) vs xs) (h' : S b = some (.lst ws)) (r' : Al (rp K S) ws ys) : Wk K (Itz K a b) (xs.zip ys) S := by
  refine ⟨fun i H hi e => ?_, fun H e => ⟨vs, ws, SqL.of (e _ _ h), SqL.of (e _ _ h'), ?_⟩, fun i H v H' x e hx y => ?_⟩
  · rw [List.length_zip] at hi
    obtain ⟨v, hv, _⟩ := r.get (List.getElem?_eq_getElem (show i < xs.length by omega))
    obtain ⟨w, hw, _⟩ := r'.get (List.getElem?_eq_getElem (show i < ys.length by omega))
    exact ⟨vs, ws, v, w, SqL.of (e _ _ h), SqL.of (e _ _ h'), hv, hw⟩
  · rw [List.length_zip, r.len, r'.len]
    omega
  · obtain ⟨T, x1, y1, rfl, hT, rfl, f1, f2⟩ := y
    have hz := List.getElem?_zip_eq_some.mp hx
    obtain ⟨v, hv, rv⟩ := r.get hz.1
    obtain ⟨w, hw, rw'⟩ := r'.get hz.2
    have q1 := f1 vs (SqL.of (e _ _ h))
    have q2 := f2 ws (SqL.of (e _ _ h'))
    rw [hv] at q1
    rw [hw] at q2
    cases q1; cases q2
    have g := Gx.new (o := HO.tup [x1, y1]) hT
    exact ⟨g, T, x1, y1, rfl, upd_same, Rp.mono (e.trans g) rv, Rp.mono (e.trans g) rw'⟩
theorem ei_zip {ma : Option (List A)} {mb : Option (List B)} (h : EvS K ta σ M H ma) (h' : EvS K tb σ M H mb) : EvI K (iZip K (tCons ta (tCons tb tNil))) σ M H (o2 (fun a b => some (a.zip b)) ma mb) := fun xs hx H1 e R q => by
  obtain ⟨a, b, e1, e2, e3⟩ := o2s hx
  cases e3
  refine h a e1 H1 e _ fun v H2 g r => h' b e2 H2 (e.trans g) _ fun w H3 g3 r3 => ?_
  obtain ⟨p, vs, rfl, h2, h3⟩ := Rp.mono (mns_mono (M := M) g3) r
  obtain ⟨p', ws, rfl, h4, h5⟩ := r3
  exact ⟨p, p', vs, ws, rfl, SqL.of (mns_ex _ _ h2), SqL.of (mns_ex _ _ h4), q _ H3 (g.trans g3) (wk_zip h2 h3 h4 h5)⟩
/-- enumerate -/
def enum {A : Type} (xs : List A) : List (Int × A) := (List.range xs.length).map (fun i : Nat => (i : Int)) |>.zip xs
theorem enum_len {A : Type} (xs : List A) : (enum xs).length = xs.length := by
  unfold enum
  rw [List.length_zip, List.length_map, List.length_range, Nat.min_self]
theorem wk_enum {a : Addr} {vs : List V} {xs : List A} {S : Hp} (h : S a = some (.lst vs)) (r : Al (rp K S) vs xs) : Wk K (Ite K a) (enum xs) S := by
  have w := walk_enum (K := K) (a := a) (xs := vs)
  refine ⟨fun i H hi e => w.goes i H (by rw [r.len, ← enum_len]; exact hi) (SqL.of (e _ _ h)), fun H e => ?_, fun i H v H' x e hx y => ?_⟩
  · rw [enum_len, ← r.len]
    exact w.stops H (SqL.of (e _ _ h))
  · have hi : i < (enum xs).length := (List.getElem?_eq_some_iff.mp hx).1
    obtain ⟨T, x1, y1, rfl, hT, rfl, f1, f2⟩ := w.yields i H v H' (by rw [r.len, ← enum_len]; exact hi) (SqL.of (e _ _ h)) y
    unfold enum at hx
    have hz := List.getElem?_zip_eq_some.mp hx
    obtain ⟨v, hv, rv⟩ := r.get hz.2
    have f2' : vs[i]? = some y1 := f2
    have f1' : some (V.int (i : Nat)) = some x1 := f1
    rw [hv] at f2'
    cases f2'; cases f1'
    have g := Gx.new (o := HO.tup [V.int (i : Nat), y1]) hT
    refine ⟨g, T, _, y1, rfl, upd_same, ?_, Rp.mono (e.trans g) rv⟩
    have h1 := hz.1
    rw [List.getElem?_map] at h1
    obtain ⟨k, hk, e1⟩ := Option.map_eq_some_iff.mp h1
    obtain ⟨_, e2⟩ := List.getElem?_eq_some_iff.mp hk
    rw [List.getElem_range] at e2
    show V.int (i : Nat) = V.int x.1
    rw [← e1, e2]
theorem ei_enum {ma : Option (List A)} (h : EvS K ta σ M H ma) : EvI K (iEnum K (tCons ta tNil)) σ M H (ma.map enum) := fun xs hx H1 e R q => by
  obtain ⟨x, hx1, rfl⟩ := Option.map_eq_some_iff.mp hx
  exact h x hx1 H1 e _ fun v H2 g r => by
    obtain ⟨a, vs, rfl, h2, h3⟩ := r
    exact ⟨a, vs, rfl, SqL.of (mns_ex _ _ h2), q _ H2 g (wk_enum h2 h3)⟩

/-! targets -/
abbrev Bd (I : Type) := I -> L2.St -> Hp -> L2.St -> Prop
def bN (A : Type) [Rp A] (K : Fg) (j : Nat) : Bd A := fun x σ H σ2 => exists v, rp K H v x ∧ σ2 = σ.set j (some v)
def bP {A B : Type} (b1 : Bd A) (b2 : Bd B) : Bd (A × B) := fun x σ H σ2 => exists σ1, b1 x.1 σ H σ1 ∧ b2 x.2 σ1 H σ2
def b3 {A B C : Type} (b1 : Bd A) (b2 : Bd B) (b3 : Bd C) : Bd (T3 A B C) := fun x σ H σ2 => exists σ1 σ3, b1 x.a σ H σ1 ∧ b2 x.b σ1 H σ3 ∧ b3 x.c σ3 H σ2
def TgOk {I : Type} [Rp I] (K : Fg) (g : TG) (b : Bd I) : Prop := forall x v σ H (Q : L2.St -> Hp -> Prop), rp K H v x -> (forall σ2, b x σ H σ2 -> Q σ2 H) -> g v σ H Q
theorem tg_n {j : Nat} : TgOk K (gName j) (bN A K j) := fun x v σ H Q r q => q _ ⟨v, r, rfl⟩
theorem tg_p {g1 g2 : TG} {b1 : Bd A} {b2 : Bd B} (h1 : TgOk K g1 b1) (h2 : TgOk K g2 b2) : TgOk K (gTup K 2 (gCons g1 (gCons g2 gNil))) (bP b1 b2) := fun x v σ H Q r q => by
  obtain ⟨a, u, w, rfl, e, r1, r2⟩ := r
  refine ⟨a, [u, w], rfl, SqT.of e, rfl, u, [w], rfl, h1 x.1 u σ H _ r1 fun σ1 q1 => ⟨w, [], rfl, h2 x.2 w σ1 H _ r2 fun σ2 q2 => ⟨rfl, q σ2 ⟨σ1, q1, q2⟩⟩⟩⟩
theorem tg_3 {g1 g2 g3 : TG} {b1 : Bd A} {b2 : Bd B} {b3' : Bd C} (h1 : TgOk K g1 b1) (h2 : TgOk K g2 b2) (h3 : TgOk K g3 b3') : TgOk K (gTup K 3 (gCons g1 (gCons g2 (gCons g3 gNil)))) (b3 b1 b2 b3') := fun x v σ H Q r q => by
  obtain ⟨a, u, w, z, rfl, e, r1, r2, r3⟩ := r
  refine ⟨a, [u, w, z], rfl, SqT.of e, rfl, u, [w, z], rfl, h1 x.a u σ H _ r1 fun σ1 q1 => ⟨w, [z], rfl, h2 x.b w σ1 H _ r2 fun σ2 q2 => ⟨z, [], rfl, h3 x.c z σ2 H _ r3 fun σ3 q3 => ⟨rfl, q σ3 ⟨σ1, σ2, q1, q2, q3⟩⟩⟩⟩⟩
/-- the block's own slots alone are set -/
theorem wipe_sets : forall {vs : List Nat} {σ : L2.St} {j : Nat} {o : Option V}, j ∈ vs -> wipe (σ.set j o) vs = wipe σ vs
  | [], _, _, _, h => nomatch h
  | k :: vs, σ, j, o, h => by
    by_cases e : j ∈ vs
    · show (wipe (σ.set j o) vs).set k none = (wipe σ vs).set k none
      rw [wipe_sets e]
    · have ek : j = k := (List.mem_cons.mp h).elim id fun z => absurd z e
      subst ek
      have c : wipe (σ.set j o) vs = (wipe σ vs).set j o := by
        clear h
        induction vs with
        | nil => rfl
        | cons k vs ih =>
          simp only [List.mem_cons, not_or] at e
          show (wipe (σ.set j o) vs).set k none = ((wipe σ vs).set k none).set j o
          rw [ih e.2, List.set_comm _ _ e.1]
      show (wipe (σ.set j o) vs).set j none = (wipe σ vs).set j none
      rw [c, List.set_set]
theorem wipe_wipe (σ : L2.St) : forall vs : List Nat, wipe (wipe σ vs) vs = wipe σ vs := by
  have h : forall (ws vs : List Nat), (forall j, j ∈ ws -> j ∈ vs) -> wipe (wipe σ ws) vs = wipe σ vs := by
    intro ws
    induction ws with
    | nil => intro vs _; rfl
    | cons k ws ih =>
      intro vs hs
      show wipe ((wipe σ ws).set k none) vs = wipe σ vs
      rw [wipe_sets (hs k List.mem_cons_self)]
      exact ih vs fun j hj => hs j (List.mem_cons_of_mem _ hj)
  exact fun vs => h vs vs fun _ z => z
def BdIn {I : Type} (b : Bd I) (vs : List Nat) : Prop := forall x σ H σ2, b x σ H σ2 -> wipe σ2 vs = wipe σ vs
theorem bi_n {vs : List Nat} {j : Nat} (h : j ∈ vs) : BdIn (bN A K j) vs := fun x σ H σ2 ⟨v, _, e⟩ => by rw [e]; exact wipe_sets h
theorem bi_p {vs : List Nat} {b1 : Bd A} {b2 : Bd B} (h1 : BdIn b1 vs) (h2 : BdIn b2 vs) : BdIn (bP b1 b2) vs := fun x σ H σ2 ⟨σ1, q1, q2⟩ => (h2 _ _ _ _ q2).trans (h1 _ _ _ _ q1)
theorem bi_3 {vs : List Nat} {b1 : Bd A} {b2 : Bd B} {b3' : Bd C} (h1 : BdIn b1 vs) (h2 : BdIn b2 vs) (h3 : BdIn b3' vs) : BdIn (b3 b1 b2 b3') vs := fun x σ H σ2 ⟨σ1, σ3, q1, q2, q3⟩ => ((h3 _ _ _ _ q3).trans (h2 _ _ _ _ q2)).trans (h1 _ _ _ _ q1)

/-! comprehensions -/
def comp {I A : Type} (c : I -> Option Bool) (f : I -> Option A) : List I -> Option (List A)
  | [] => some []
  | x :: xs => (c x).bind fun b => if b = true then (f x).bind fun y => (comp c f xs).bind fun r => some (y :: r) else comp c f xs
theorem comp_cons {I A : Type} {c : I -> Option Bool} {f : I -> Option A} {x : I} {xs : List I} {r : List A} (h : comp c f (x :: xs) = some r) :
    (c x = some true ∧ exists y r', f x = some y ∧ comp c f xs = some r' ∧ r = y :: r') ∨ (c x = some false ∧ comp c f xs = some r) := by
  unfold comp at h
  cases hc : c x with
  | none => rw [hc] at h; cases h
  | some b =>
    rw [hc] at h
    cases b with
    | true =>
      have h' : ((f x).bind fun y => (comp c f xs).bind fun r => some (y :: r)) = some r := h
      cases hf : f x with
      | none => rw [hf] at h'; cases h'
      | some y =>
        rw [hf] at h'
        have h2 : ((comp c f xs).bind fun r => some (y :: r)) = some r := h'
        cases hr : comp c f xs with
        | none => rw [hr] at h2; cases h2
        | some r' =>
          rw [hr] at h2
          exact .inl ⟨rfl, y, r', rfl, rfl, (Option.some.inj h2).symm⟩
    | false => exact .inr ⟨rfl, h⟩
theorem comp_len {I A : Type} {c : I -> Option Bool} {f : I -> Option A} : forall {xs : List I} {r : List A}, comp c f xs = some r -> r.length ≤ xs.length
  | [], r, h => by cases h; exact Nat.le_refl _
  | x :: xs, r, h => by
    rcases comp_cons h with ⟨_, y, r', _, h2, rfl⟩ | ⟨_, h2⟩
    · have := comp_len h2
      simp only [List.length_cons]; omega
    · have := comp_len h2
      simp only [List.length_cons]; omega
def lim {A : Type} (n : Nat) (xs : List A) : Option (List A) := if xs.length ≤ n then some xs else none
/-- the items as they stand at each turn -/
theorem en_lc {I : Type} [Rp I] [Im A] {wi : TI} {g : TG} {b : Bd I} {vs : List Nat} {mx : Option (List I)} {c : I -> Option Bool} {f : I -> Option A} (hi : EvI K wi σ [] H mx) (hg : TgOk K g b) (hb : BdIn b vs)
    (ht : forall x σ2 H', Gx H H' -> b x (wipe σ vs) H' σ2 -> EvT tt σ2 H' (c x)) (he : forall x σ2 H', Gx H H' -> b x (wipe σ vs) H' σ2 -> EvB K te σ2 H' (f x)) :
    EvN K (tLc wi g tt te vs) σ H (mx.bind fun xs => (lim 100000 xs).bind (comp c f)) := fun r hr H1 e1 Q q => by
  cases mx with
  | none => cases hr
  | some xs =>
    have hr' : (lim 100000 xs).bind (comp c f) = some r := hr
    unfold lim at hr'
    by_cases hz : xs.length ≤ 100000
    · rw [if_pos hz] at hr'
      have hr2 : comp c f xs = some r := hr'
      refine hi xs rfl H1 e1 _ fun J H2 e2 wk => ?_
      rw [mns_nil] at wk
      intro D hD
      obtain ⟨go, stop, yld⟩ := wk
      -- what is left
      refine ⟨fun i m Hc => m = xs.length - i ∧ i ≤ xs.length ∧ Gx H2 Hc ∧ exists vs' ys r', Hc D = some (.lst vs') ∧ Al (rp K Hc) vs' ys ∧ ys.length ≤ i ∧ comp c f (xs.drop i) = some r' ∧ r = ys ++ r',
        ⟨xs.length, by simp, Nat.zero_le _, Gx.new hD, [], [], r, upd_same, trivial, Nat.le_refl _, hr2, rfl⟩, ?_⟩
      rintro i m Hc ⟨rfl, hle, gc, vs', ys, r', hDc, ral, hlen, hcomp, rfl⟩
      by_cases hlt : i < xs.length
      · refine .inr ⟨go i Hc hlt gc, fun Hn => i + 1 ≤ xs.length ∧ Gx H2 Hn ∧ exists vs' ys' r'', Hn D = some (.lst vs') ∧ Al (rp K Hn) vs' ys' ∧ ys'.length ≤ i + 1 ∧ comp c f (xs.drop (i + 1)) = some r'' ∧ ys ++ r' = ys' ++ r'',
          fun Hn hn => ⟨xs.length - (i + 1), by omega, rfl, hn.1, hn.2⟩, fun v Hy hy => ?_⟩
        have hx := List.getElem?_eq_getElem hlt
        obtain ⟨gy, ry⟩ := yld i Hc v Hy _ gc hx hy
        have gH : Gx H Hy := (e1.trans e2).trans (gc.trans gy)
        refine hg _ v (wipe σ vs) Hy _ ry fun σ2 hσ => ⟨(hb _ _ _ _ hσ).trans (wipe_wipe σ vs), ?_⟩
        rw [List.drop_eq_getElem_cons hlt] at hcomp
        rcases comp_cons hcomp with ⟨hc, y, r2, hf, h2, rfl⟩ | ⟨hc, h2⟩
        · refine ht _ σ2 Hy gH hσ true hc Hy Gx.rfl _ fun H3 g3 => ite_tt ?_
          refine he _ σ2 Hy gH hσ y hf H3 g3 _ fun u H4 g4 r4 => ?_
          have gD := gy.trans (g3.trans g4)
          have h4 : H4 D = some (.lst vs') := gD _ _ hDc
          have tx : Tx H4 (upd H4 D (.lst (vs' ++ [u]))) := Tx.mut fun xs q => by rw [h4] at q; cases q
          refine ⟨vs', h4, ?_, hlt, (gc.trans gD).mut hD, vs' ++ [u], ys ++ [y], r2, upd_same, ?_, ?_, h2, by simp⟩
          · rw [ral.len]; exact Evl.sz_lt (by omega)
          · exact ((ral.mono fun _ _ => Rp.mono gD).app (Al.one r4)).mono fun _ _ => Im.im tx
          · rw [List.length_append]; simp only [List.length_cons, List.length_nil]; omega
        · refine ht _ σ2 Hy gH hσ false hc Hy Gx.rfl _ fun H3 g3 => ite_ff ?_
          exact ⟨hlt, (gc.trans gy).trans g3, vs', ys, r', (gy.trans g3) _ _ hDc, ral.mono fun _ _ => Rp.mono (gy.trans g3), by omega, h2, rfl⟩
      · have hi : i = xs.length := by omega
        subst hi
        rw [List.drop_length] at hcomp
        cases hcomp
        rw [List.append_nil] at *
        exact .inl ⟨stop Hc gc, q D vs' Hc (e2.back hD) (e2.trans gc) hDc ral⟩
    · rw [if_neg hz] at hr'
      cases hr'
end
end Pu

set_option Elab.async false
set_option linter.all false
set_option maxRecDepth 100000
namespace Pu
open Pu.Rp (rp)
open PySem PySem.Spec PyProof.Rows L2
/-! the ledger's moves -/
theorem nd_mid {A : Type} {p : A} : forall {a b : List A}, (a ++ p :: b).Nodup -> p ∉ a ++ b ∧ (a ++ b).Nodup
  | [], b, h => by
    have := List.nodup_cons.mp h
    exact this
  | x :: a, b, h => by
    have h' := List.nodup_cons.mp h
    have ih := nd_mid h'.2
    have hx : x ∉ a ++ p :: b := h'.1
    refine ⟨fun z => ?_, List.nodup_cons.mpr ⟨fun z => hx ?_, ih.2⟩⟩
    · rcases List.mem_cons.mp z with e | z
      · exact hx (by rw [← e]; simp)
      · exact ih.1 z
    · rcases List.mem_append.mp z with z | z
      · exact List.mem_append_left _ z
      · exact List.mem_append_right _ (List.mem_cons_of_mem _ z)
theorem At.add {G H : Hp} {L : Led} {p : Addr} {o : HO} (A : At G H L) (h : H p = none) (m : Mu o) : At G (upd H p o) ((p, o) :: L) := by
  have e : Gx H (upd H p o) := Gx.new h
  refine ⟨A.ex.trans e, List.nodup_cons.mpr ⟨fun z => ?_, A.nd⟩, fun q hq => ?_⟩
  · obtain ⟨r, hr, er⟩ := List.mem_map.mp z
    have := (A.led r hr).1
    rw [er, h] at this
    cases this
  · rcases List.mem_cons.mp hq with rfl | hq
    · exact ⟨upd_same, A.ex.back h, m⟩
    · exact ⟨e _ _ (A.led q hq).1, (A.led q hq).2⟩
theorem At.set {G H : Hp} {L1 L2 : Led} {p : Addr} {o o' : HO} (A : At G H (L1 ++ (p, o) :: L2)) (m : Mu o') : At G (upd H p o') (L1 ++ (p, o') :: L2) := by
  have nd := A.nd
  rw [List.map_append, List.map_cons] at nd
  have ne : forall q, q ∈ L1 ++ L2 -> q.1 ≠ p := fun q hq e => by
    have n2 := nd_mid nd
    refine n2.1 ?_
    rw [← List.map_append]
    exact List.mem_map.mpr ⟨q, hq, e⟩
  have hp := A.led (p, o) (by simp)
  refine ⟨A.ex.mut hp.2.1, by rw [List.map_append, List.map_cons]; exact nd, fun q hq => ?_⟩
  rcases List.mem_append.mp hq with h1 | h1
  · have z := A.led q (List.mem_append_left _ h1)
    exact ⟨by rw [upd_ne (ne q (List.mem_append_left _ h1))]; exact z.1, z.2⟩
  · rcases List.mem_cons.mp h1 with rfl | h2
    · exact ⟨upd_same, hp.2.1, m⟩
    · have z := A.led q (List.mem_append_right _ (List.mem_cons_of_mem _ h2))
      exact ⟨by rw [upd_ne (ne q (List.mem_append_right _ h2))]; exact z.1, z.2⟩
theorem At.frz {G H : Hp} {L1 L2 : Led} {p : Addr} {o : HO} (A : At G H (L1 ++ (p, o) :: L2)) : Gx G (upd G p o) ∧ At (upd G p o) H (L1 ++ L2) := by
  have nd := A.nd
  rw [List.map_append, List.map_cons] at nd
  have n2 := nd_mid nd
  have hp := A.led (p, o) (by simp)
  refine ⟨Gx.new hp.2.1, fun a u h => ?_, by rw [List.map_append]; exact n2.2, fun q hq => ?_⟩
  · by_cases e : a = p
    · rw [e, upd_same] at h
      cases h
      rw [e]; exact hp.1
    · rw [upd_ne e] at h
      exact A.ex a u h
  · have hq' : q ∈ L1 ++ (p, o) :: L2 := by
      rcases List.mem_append.mp hq with h1 | h1
      · exact List.mem_append_left _ h1
      · exact List.mem_append_right _ (List.mem_cons_of_mem _ h1)
    have z := A.led q hq'
    refine ⟨z.1, ?_, z.2.2⟩
    rw [upd_ne]
    · exact z.2.1
    · intro e
      refine n2.1 ?_
      rw [← List.map_append]
      exact List.mem_map.mpr ⟨q, hq, e⟩
theorem At.drop {G H : Hp} {L1 L2 : Led} (A : At G H (L1 ++ L2)) : At G H L2 :=
  ⟨A.ex, by have := A.nd; rw [List.map_append] at this; exact (List.nodup_append.mp this).2.1, fun q hq => A.led q (List.mem_append_right _ hq)⟩
section
variable {K : Fg} {A B C D : Type} [Rp A] [Rp B] [Rp C] [Rp D]
variable {σ : L2.St} {G G' H H' : Hp} {L L1 L2' : Led} {M : List Addr} {te ta tb tc : TE} {tt tu : TT} {X : Ends} {t1 t2 u : TS} {i : Nat}
theorem mv_rp {p : Addr} {vs : List V} {xs : List A} (a : At G H L) (hp : (p, HO.lst vs) ∈ L) (r : Al (rp K G) vs xs) : rp K H (.ref p) xs :=
  ⟨p, vs, rfl, (a.led _ hp).1, r.mono fun _ _ => Rp.mono a.ex⟩

/-! statements -/
theorem st_asg {m : Option A} {x : A} (h : EvO K te σ G H m) (hm : m = some x) (a : At G H L) (k : forall v G2 H2, Gx G G2 -> Gx H H2 -> At G2 H2 L -> rp K G2 v x -> u X (σ.set i (some v)) H2) : tSeq (tAsg te (gName i)) u X σ H :=
  h x hm G H L Gx.rfl Gx.rfl a _ fun v G2 H2 g e a2 r => k v G2 H2 g e a2 r
/-- a name that reads what others hold -/
theorem st_asgB {m : Option A} {x : A} (h : EvB K te σ H m) (hm : m = some x) (k : forall v H2, Gx H H2 -> rp K H2 v x -> u X (σ.set i (some v)) H2) : tSeq (tAsg te (gName i)) u X σ H :=
  h x hm H Gx.rfl _ fun v H2 e r => k v H2 e r
/-- names for the parts -/
theorem st_asgP {g : TG} {b : Bd A} {m : Option A} {x : A} (h : EvB K te σ H m) (hm : m = some x) (hg : TgOk K g b) (k : forall σ2 H2, Gx H H2 -> b x σ H2 σ2 -> u X σ2 H2) : tSeq (tAsg te g) u X σ H :=
  h x hm H Gx.rfl _ fun v H2 e r => hg x v σ H2 _ r fun σ2 q => k σ2 H2 e q
theorem st_new (a : At G H L) (k : forall p, H p = none -> At G (upd H p (.lst [])) ((p, .lst []) :: L) -> u X (σ.set i (some (.ref p))) (upd H p (.lst []))) : tSeq (tAsg (tLst tNil) (gName i)) u X σ H :=
  ⟨Nat.zero_le _, fun p hp => k p hp (a.add hp trivial)⟩
/-- a list that is one's own to change from now on -/
theorem st_newL {m : Option (List A)} {x : List A} (h : EvO K te σ G H m) (hm : m = some x) (a : At G H L) (k : forall p vs G2 H2, Gx G G2 -> Gx H H2 -> At G2 H2 L -> G2 p = some (.lst vs) -> Al (rp K G2) vs x -> u X (σ.set i (some (.ref p))) H2) : tSeq (tAsg te (gName i)) u X σ H :=
  h x hm G H L Gx.rfl Gx.rfl a _ fun v G2 H2 g e a2 r => by
    obtain ⟨p, vs, rfl, h2, h3⟩ := r
    exact k p vs G2 H2 g e a2 h2 h3
theorem st_app {p : Addr} {vs : List V} {m : Option A} {x : A} (hs : forall H1, Gx H H1 -> forall Q : VK, Q (.ref p) H1 -> ta σ H1 Q) (h : EvO K te σ G H m) (hm : m = some x) (a : At G H (L1 ++ (p, .lst vs) :: L2')) (hz : vs.length < 100000)
    (k : forall v G2 H2, Gx G G2 -> Gx H H2 -> At G2 (upd H2 p (.lst (vs ++ [v]))) (L1 ++ (p, .lst (vs ++ [v])) :: L2') -> rp K G2 v x -> u X σ (upd H2 p (.lst (vs ++ [v])))) :
    tSeq (tDrop (tBM K "list" rAppend ta (tCons te tNil))) u X σ H := by
  have hp := (a.led (p, .lst vs) (by simp)).1
  refine hs H Gx.rfl _ ⟨Or.inl ⟨rfl, vs, SqL.of hp⟩, h x hm G H _ Gx.rfl Gx.rfl a _ fun v G2 H2 g e a2 r => ⟨p, vs, v, rfl, rfl, e _ _ hp, Evl.sz_lt hz, k v G2 H2 g e ?_ r⟩⟩
  exact a2.set trivial
theorem slot_ref {p : Addr} (h : σ[i]? = some (some (.ref p))) : forall H1, Gx H H1 -> forall Q : VK, Q (.ref p) H1 -> tVar i σ H1 Q := fun H1 _ Q q => ⟨_, h, q⟩
theorem st_reverse {p : Addr} {vs : List V} (hs : forall H1, Gx H H1 -> forall Q : VK, Q (.ref p) H1 -> ta σ H1 Q) (a : At G H (L1 ++ (p, .lst vs) :: L2'))
    (k : At G (upd H p (.lst vs.reverse)) (L1 ++ (p, .lst vs.reverse) :: L2') -> u X σ (upd H p (.lst vs.reverse))) : tSeq (tDrop (tBM0 K "list" rReverse ta)) u X σ H := by
  have hp := (a.led (p, .lst vs) (by simp)).1
  exact hs H Gx.rfl _ ⟨Or.inl ⟨rfl, vs, SqL.of hp⟩, p, vs, rfl, rfl, hp, k (a.set trivial)⟩
theorem st_clear {p : Addr} {vs : List V} (hs : forall H1, Gx H H1 -> forall Q : VK, Q (.ref p) H1 -> ta σ H1 Q) (a : At G H (L1 ++ (p, .lst vs) :: L2'))
    (k : At G (upd H p (.lst [])) (L1 ++ (p, .lst []) :: L2') -> u X σ (upd H p (.lst []))) : tSeq (tDrop (tBM0 K "list" rClear ta)) u X σ H := by
  have hp := (a.led (p, .lst vs) (by simp)).1
  exact hs H Gx.rfl _ ⟨Or.inl ⟨rfl, vs, SqL.of hp⟩, p, vs, rfl, rfl, hp, k (a.set trivial)⟩
/-- xs.extend(ys), ys a list just made or one's own -/
theorem st_extend {p : Addr} {vs : List V} {m : Option (List A)} {x : List A} (hs : forall H1, Gx H H1 -> forall Q : VK, Q (.ref p) H1 -> ta σ H1 Q) (h : EvO K te σ G H m) (hm : m = some x) (a : At G H (L1 ++ (p, .lst vs) :: L2')) (hz : vs.length + x.length ≤ 100000)
    (k : forall ws G2 H2, Gx G G2 -> Gx H H2 -> At G2 (upd H2 p (.lst (vs ++ ws))) (L1 ++ (p, .lst (vs ++ ws)) :: L2') -> Al (rp K G2) ws x -> u X σ (upd H2 p (.lst (vs ++ ws)))) :
    tSeq (tDrop (tBM K "list" rExtend ta (tCons te tNil))) u X σ H := by
  have hp := (a.led (p, .lst vs) (by simp)).1
  refine hs H Gx.rfl _ ⟨Or.inl ⟨rfl, vs, SqL.of hp⟩, h x hm G H _ Gx.rfl Gx.rfl a _ fun v G2 H2 g e a2 r => ?_⟩
  obtain ⟨b, ws, rfl, h2, h3⟩ := r
  exact ⟨p, b, vs, ws, rfl, rfl, e _ _ hp, a2.ex _ _ h2, by rw [h3.len]; exact Evl.sz_of hz, k ws G2 H2 g e (a2.set trivial) h3⟩
/-- xs[i] = e -/
theorem st_setL {p : Addr} {vs : List V} {m : Option A} {x : A} {mi : Option Int} {n : Int} {j : Nat} (h : EvO K te σ G H m) (hm : m = some x) (hs : forall H1, Gx H H1 -> forall Q : VK, Q (.ref p) H1 -> ta σ H1 Q) (hi : EvB K tb σ H mi) (hn : mi = some n)
    (a : At G H (L1 ++ (p, .lst vs) :: L2')) (hj : ixN vs.length n = some j)
    (k : forall v G2 H2, Gx G G2 -> Gx H H2 -> At G2 (upd H2 p (.lst (vs.set j v))) (L1 ++ (p, .lst (vs.set j v)) :: L2') -> rp K G2 v x -> u X σ (upd H2 p (.lst (vs.set j v)))) :
    tSeq (tAsg te (gSub ta tb rSetL)) u X σ H := by
  have hp := (a.led (p, .lst vs) (by simp)).1
  refine h x hm G H _ Gx.rfl Gx.rfl a _ fun v G2 H2 g e a2 r => hs H2 e _ ?_
  refine hi n hn H2 e _ fun w H3 e3 rw' => ⟨p, vs, n, j, rfl, rw', e3 _ _ (e _ _ hp), hj, k v G2 H3 g (e.trans e3) (a2.grow e3 |>.set trivial) r⟩
/-- a, b = xs.pop() -/
theorem st_popP {p : Addr} {vs : List V} {xs : List A} {x : A} {g : TG} {b : Bd A} (hs : forall H1, Gx H H1 -> forall Q : VK, Q (.ref p) H1 -> ta σ H1 Q) (a : At G H (L1 ++ (p, .lst vs) :: L2')) (r : Al (rp K G) vs xs) (hx : xs[xs.length - 1]? = some x) [Im A] (hg : TgOk K g b)
    (k : forall σ2, At G (upd H p (.lst vs.dropLast)) (L1 ++ (p, .lst vs.dropLast) :: L2') -> b x σ (upd H p (.lst vs.dropLast)) σ2 -> u X σ2 (upd H p (.lst vs.dropLast))) : tSeq (tAsg (tBM0 K "list" rPop ta) g) u X σ H := by
  have hp := (a.led (p, .lst vs) (by simp)).1
  obtain ⟨v, hv, rv⟩ := r.get hx
  rw [← r.len] at hv
  refine hs H Gx.rfl _ ⟨Or.inl ⟨rfl, vs, SqL.of hp⟩, p, vs, v, rfl, rfl, hp, hv, ?_⟩
  exact hg x v σ _ _ (Rp.mono (a.set trivial : At G (upd H p (.lst vs.dropLast)) _).ex rv) fun σ2 q => k σ2 (a.set trivial) q
theorem st_drop {m : Option A} {x : A} (h : EvB K te σ H m) (hm : m = some x) (k : forall H2, Gx H H2 -> u X σ H2) : tSeq (tDrop te) u X σ H := h x hm H Gx.rfl _ fun _ H2 e _ => k H2 e
theorem st_retO {m : Option A} {x : A} (h : EvO K te σ G H m) (hm : m = some x) (a : At G H L) (k : forall v G2 H2, Gx G G2 -> Gx H H2 -> At G2 H2 L -> rp K G2 v x -> X.rt v H2) : tRet te X σ H :=
  h x hm G H L Gx.rfl Gx.rfl a _ k
theorem st_if {m : Option Bool} {b : Bool} (h : EvT tt σ H m) (hm : m = some b) (k1 : b = true -> forall H2, Gx H H2 -> t1 { X with nx := u X } σ H2) (k2 : b = false -> forall H2, Gx H H2 -> t2 { X with nx := u X } σ H2) : tSeq (tIfS tt t1 t2) u X σ H :=
  h b hm H Gx.rfl _ fun H2 e => by
    cases b with
    | true => exact ite_tt (k1 rfl H2 e)
    | false => exact ite_ff (k2 rfl H2 e)
/-- an if at a block's end -/
theorem s1_if {m : Option Bool} {b : Bool} (h : EvT tt σ H m) (hm : m = some b) (k1 : b = true -> forall H2, Gx H H2 -> t1 X σ H2) (k2 : b = false -> forall H2, Gx H H2 -> t2 X σ H2) : tIfS tt t1 t2 X σ H :=
  h b hm H Gx.rfl _ fun H2 e => by
    cases b with
    | true => exact ite_tt (k1 rfl H2 e)
    | false => exact ite_ff (k2 rfl H2 e)
theorem st_one (h : tSeq t1 tNext X σ H) : t1 X σ H := h
theorem st_aug {f : Int -> Int -> Int} {m : Option Int} {x y : Int} (hx : σ[i]? = some (some (.int x))) (h : EvB K te σ H m) (hm : m = some y) (k : forall H2, Gx H H2 -> u X (σ.set i (some (.int (f x y)))) H2) : tSeq (tAug i te (ipI f)) u X σ H :=
  ⟨.int x, hx, h y hm H Gx.rfl _ fun v H2 e r => ⟨x, y, rfl, r, k H2 e⟩⟩

/-! loops -/
def bra {S R : Type} (k : S -> Option (S ⊕ R)) : S ⊕ R -> Option (S ⊕ R)
  | .inl s => k s
  | .inr r => some (.inr r)
def loopM {S I R : Type} (f : S -> I -> Option (S ⊕ R)) : S -> List I -> Option (S ⊕ R)
  | s, [] => some (.inl s)
  | s, x :: xs => (f s x).bind (bra fun s' => loopM f s' xs)
theorem st_for {I : Type} [Rp I] {wi : TI} {g : TG} {mx : Option (List I)} {xs : List I} (hi : EvI K wi σ M H mx) (hx : mx = some xs)
    (k : forall J H2, Gx H H2 -> Wk K J xs (mns H2 M) -> exists W : Nat -> Nat -> L2.St -> Hp -> Prop, (exists m, W 0 m σ H2) ∧ forall i m σ H, W i m σ H ->
      (J.stop i H ∧ u X σ H) ∨ (J.go i H ∧ exists N : L2.St -> Hp -> Prop, (forall σ' H', N σ' H' -> exists m', m' < m ∧ W (i + 1) m' σ' H') ∧ forall x H', J.yld i H x H' -> g x σ H' fun σ2 H2 => t1 { X with nx := N, ct := N, bk := u X } σ2 H2)) : tSeq (tFor wi g t1) u X σ H :=
  hi xs hx H Gx.rfl _ fun J H2 e wk => k J H2 e wk
theorem loop_run {S I R : Type} [Rp I] {J : It} {g : TG} {b : Bd I} {xs : List I} {Sh : Hp} {f : S -> I -> Option (S ⊕ R)} {s0 : S} {res : S ⊕ R} {E0 : Ends} {H2 : Hp} {E1 : L2.St -> Hp -> Prop} (wk : Wk K J xs Sh) (hl : loopM f s0 xs = some res) (hg : TgOk K g b)
    (In : S -> L2.St -> Hp -> Prop) (hS : forall s σ' H', In s σ' H' -> Gx Sh H') (h0 : In s0 σ H2)
    (hs : forall s x o σ' H' H'' σ2, x ∈ xs -> f s x = some o -> (forall r, o = .inr r -> res = .inr r) -> In s σ' H' -> Gx H' H'' -> b x σ' H'' σ2 ->
      t1 { E0 with nx := fun σ H => exists s', o = .inl s' ∧ In s' σ H, ct := fun σ H => exists s', o = .inl s' ∧ In s' σ H, bk := E1 } σ2 H'')
    (hd : forall s1 σ' H', res = .inl s1 -> In s1 σ' H' -> E1 σ' H') :
    exists W : Nat -> Nat -> L2.St -> Hp -> Prop, (exists m, W 0 m σ H2) ∧ forall i m σ H, W i m σ H ->
      (J.stop i H ∧ E1 σ H) ∨ (J.go i H ∧ exists N : L2.St -> Hp -> Prop, (forall σ' H', N σ' H' -> exists m', m' < m ∧ W (i + 1) m' σ' H') ∧ forall x H', J.yld i H x H' -> g x σ H' fun σ2 H2 => t1 { E0 with nx := N, ct := N, bk := E1 } σ2 H2) := by
  refine ⟨fun i m σ H => m = xs.length - i ∧ i ≤ xs.length ∧ exists s, In s σ H ∧ loopM f s (xs.drop i) = some res, ⟨xs.length, by simp, Nat.zero_le _, s0, h0, hl⟩, ?_⟩
  rintro i m σ' Hc ⟨rfl, hle, s, hin, hm⟩
  have gS := hS _ _ _ hin
  obtain ⟨go, stop, yld⟩ := wk
  by_cases hlt : i < xs.length
  · rw [List.drop_eq_getElem_cons hlt] at hm
    cases hf : f s xs[i] with
    | none => unfold loopM at hm; rw [hf] at hm; cases hm
    | some o =>
      have hm' : bra (fun s' => loopM f s' (xs.drop (i + 1))) o = some res := by
        unfold loopM at hm; rw [hf] at hm; exact hm
      refine .inr ⟨go i Hc hlt gS, fun σ H => exists s', o = .inl s' ∧ In s' σ H, fun σ3 H3 hN => ?_, fun v Hy hy => ?_⟩
      · obtain ⟨s', rfl, h3⟩ := hN
        exact ⟨xs.length - (i + 1), by omega, rfl, hlt, s', h3, hm'⟩
      · obtain ⟨gy, ry⟩ := yld i Hc v Hy _ gS (List.getElem?_eq_getElem hlt) hy
        refine hg _ v σ' Hy _ ry fun σ2 hσ => hs s xs[i] o σ' Hc Hy σ2 (List.getElem_mem hlt) hf (fun r er => ?_) hin gy hσ
        subst er
        exact (Option.some.inj hm').symm
  · have hi : i = xs.length := by omega
    subst hi
    rw [List.drop_length] at hm
    have e : res = .inl s := (Option.some.inj hm).symm
    exact .inl ⟨stop Hc gS, hd s σ' Hc e hin⟩
def whileM {S R : Type} (c : S -> Option Bool) (f : S -> Option (S ⊕ R)) : Nat -> S -> Option (S ⊕ R)
  | 0, _ => none
  | n + 1, s => (c s).bind fun b => if b = true then (f s).bind (bra fun s' => whileM c f n s') else some (.inl s)
theorem st_while {S R : Type} {c : S -> Option Bool} {f : S -> Option (S ⊕ R)} {n : Nat} {s0 : S} {res : S ⊕ R} (hl : whileM c f n s0 = some res) (In : S -> L2.St -> Hp -> Prop) (h0 : In s0 σ H)
    (hc : forall s σ' H', In s σ' H' -> EvT tt σ' H' (c s))
    (hs : forall s o σ' H' H'', c s = some true -> f s = some o -> (forall r, o = .inr r -> res = .inr r) -> In s σ' H' -> Gx H' H'' ->
      t1 { X with nx := fun σ H => exists s', o = .inl s' ∧ In s' σ H, ct := fun σ H => exists s', o = .inl s' ∧ In s' σ H, bk := u X } σ' H'')
    (hd : forall s1 σ' H' H'', res = .inl s1 -> In s1 σ' H' -> Gx H' H'' -> u X σ' H'') : tSeq (tWhile tt t1) u X σ H := by
  refine ⟨fun m σ H => exists s, In s σ H ∧ whileM c f m s = some res, ⟨n, s0, h0, hl⟩, ?_⟩
  rintro m σ' Hc ⟨s, hin, hm⟩
  cases m with
  | zero => cases hm
  | succ m =>
    unfold whileM at hm
    cases hb : c s with
    | none => rw [hb] at hm; cases hm
    | some b =>
      rw [hb] at hm
      refine hc s σ' Hc hin b hb Hc Gx.rfl _ fun H3 g3 => ?_
      cases b with
      | false =>
        have e : res = .inl s := (Option.some.inj (show some (Sum.inl s) = some res from hm)).symm
        exact ite_ff (hd s σ' Hc H3 e hin g3)
      | true =>
        refine ite_tt ?_
        cases hf : f s with
        | none => rw [hf] at hm; cases hm
        | some o =>
          have hm' : bra (fun s' => whileM c f m s') o = some res := by rw [hf] at hm; exact hm
          refine ⟨fun σ H => exists s', o = .inl s' ∧ In s' σ H, fun σ3 H4 hN => ?_, hs s o σ' Hc H3 hb hf (fun r er => ?_) hin g3⟩
          · obtain ⟨s', rfl, h3⟩ := hN
            exact ⟨m, by omega, s', h3, hm'⟩
          · subst er
            exact (Option.some.inj hm').symm

/-! defs -/
/-- what comes leans on tuples alone; a new list comes -/
def PSb {R : Type} [Rp R] (K : Fg) (m : List V -> Hp -> Option R -> Prop) : Sp := fun vs H Q _ => exists r, m vs H (some r) ∧ forall w H2, Gx H H2 -> rp K H2 w r -> Q w H2
def PSn {R : Type} [Rp R] (K : Fg) (m : List V -> Hp -> Option (List R) -> Prop) : Sp := fun vs H Q _ => exists r, m vs H (some r) ∧ forall p ws H2, H p = none -> Gx H H2 -> H2 p = some (.lst ws) -> Al (rp K H2) ws r -> Q (.ref p) H2
def A1 {A R : Type} [Rp A] (K : Fg) (f : A -> Option R) : List V -> Hp -> Option R -> Prop := fun vs H o => exists v x, vs = [v] ∧ rp K H v x ∧ f x = o
def A2 {A B R : Type} [Rp A] [Rp B] (K : Fg) (f : A -> B -> Option R) : List V -> Hp -> Option R -> Prop := fun vs H o => exists v w x y, vs = [v, w] ∧ rp K H v x ∧ rp K H w y ∧ f x y = o
def A3 {A B C R : Type} [Rp A] [Rp B] [Rp C] (K : Fg) (f : A -> B -> C -> Option R) : List V -> Hp -> Option R -> Prop := fun vs H o => exists v1 v2 v3 x y z, vs = [v1, v2, v3] ∧ rp K H v1 x ∧ rp K H v2 y ∧ rp K H v3 z ∧ f x y z = o
def A4 {A B C D R : Type} [Rp A] [Rp B] [Rp C] [Rp D] (K : Fg) (f : A -> B -> C -> D -> Option R) : List V -> Hp -> Option R -> Prop := fun vs H o => exists v1 v2 v3 v4 x y z w, vs = [v1, v2, v3, v4] ∧ rp K H v1 x ∧ rp K H v2 y ∧ rp K H v3 z ∧ rp K H v4 w ∧ f x y z w = o
def A5 {A B C D E R : Type} [Rp A] [Rp B] [Rp C] [Rp D] [Rp E] (K : Fg) (f : A -> B -> C -> D -> E -> Option R) : List V -> Hp -> Option R -> Prop := fun vs H o => exists v1 v2 v3 v4 v5 x y z w e, vs = [v1, v2, v3, v4, v5] ∧ rp K H v1 x ∧ rp K H v2 y ∧ rp K H v3 z ∧ rp K H v4 w ∧ rp K H v5 e ∧ f x y z w e = o
def o4 {A B C D R : Type} (f : A -> B -> C -> D -> Option R) (ma : Option A) (mb : Option B) (mc : Option C) (md : Option D) : Option R := ma.bind fun a => mb.bind fun b => mc.bind fun c => md.bind fun d => f a b c d
theorem o4s {A B C D R : Type} {f : A -> B -> C -> D -> Option R} {ma : Option A} {mb : Option B} {mc : Option C} {md : Option D} {r : R} (h : o4 f ma mb mc md = some r) : exists a b c d, ma = some a ∧ mb = some b ∧ mc = some c ∧ md = some d ∧ f a b c d = some r := by
  cases ma with
  | none => cases h
  | some a => cases mb with
    | none => cases h
    | some b => cases mc with
      | none => cases h
      | some c => cases md with
        | none => cases h
        | some d => exact ⟨a, b, c, d, rfl, rfl, rfl, rfl, h⟩
/-- the arguments: what they come to, read -/
def EvM {R : Type} (t : TA) (σ : L2.St) (H : Hp) (m : List V -> Hp -> Option R -> Prop) (o : Option R) : Prop := forall r, o = some r -> forall H1, Gx H H1 -> forall Q : List V -> Hp -> Prop, (forall vs H2, Gx H1 H2 -> m vs H2 (some r) -> Q vs H2) -> t σ H1 Q
variable {td tf : TE} {R : Type} {E' : Type} [Rp E']
theorem em1 {f : A -> Option R} {ma : Option A} (ha : EvB K ta σ H ma) : EvM (tCons ta tNil) σ H (A1 K f) (o1 f ma) := fun r hr H1 e Q q => by
  obtain ⟨x, e1, e3⟩ := o1s hr
  exact ha x e1 H1 e _ fun v H2 g2 r2 => q _ H2 g2 ⟨v, x, rfl, r2, e3⟩
theorem em2 {f : A -> B -> Option R} {ma : Option A} {mb : Option B} (ha : EvB K ta σ H ma) (hb : EvB K tb σ H mb) : EvM (tCons ta (tCons tb tNil)) σ H (A2 K f) (o2 f ma mb) := fun r hr H1 e Q q => by
  obtain ⟨x, y, e1, e2, e3⟩ := o2s hr
  exact ha x e1 H1 e _ fun v H2 g2 r2 => hb y e2 H2 (e.trans g2) _ fun w H3 g3 r3 => q _ H3 (g2.trans g3) ⟨v, w, x, y, rfl, Rp.mono g3 r2, r3, e3⟩
theorem em3 {f : A -> B -> C -> Option R} {ma : Option A} {mb : Option B} {mc : Option C} (ha : EvB K ta σ H ma) (hb : EvB K tb σ H mb) (hc : EvB K tc σ H mc) : EvM (tCons ta (tCons tb (tCons tc tNil))) σ H (A3 K f) (o3 f ma mb mc) := fun r hr H1 e Q q => by
  obtain ⟨x, y, z, e1, e2, e2', e3⟩ := o3s hr
  exact ha x e1 H1 e _ fun v H2 g2 r2 => hb y e2 H2 (e.trans g2) _ fun w H3 g3 r3 => hc z e2' H3 ((e.trans g2).trans g3) _ fun w3 H4 g4 r4 => q _ H4 ((g2.trans g3).trans g4) ⟨v, w, w3, x, y, z, rfl, Rp.mono (g3.trans g4) r2, Rp.mono g4 r3, r4, e3⟩
theorem em4 {f : A -> B -> C -> D -> Option R} {ma : Option A} {mb : Option B} {mc : Option C} {md : Option D} (ha : EvB K ta σ H ma) (hb : EvB K tb σ H mb) (hc : EvB K tc σ H mc) (hd : EvB K td σ H md) : EvM (tCons ta (tCons tb (tCons tc (tCons td tNil)))) σ H (A4 K f) (o4 f ma mb mc md) := fun r hr H1 e Q q => by
  obtain ⟨x, y, z, w0, e1, e2, e2', e2'', e3⟩ := o4s hr
  exact ha x e1 H1 e _ fun v H2 g2 r2 => hb y e2 H2 (e.trans g2) _ fun w H3 g3 r3 => hc z e2' H3 ((e.trans g2).trans g3) _ fun w3 H4 g4 r4 => hd w0 e2'' H4 (((e.trans g2).trans g3).trans g4) _ fun w4 H5 g5 r5 => q _ H5 (((g2.trans g3).trans g4).trans g5) ⟨v, w, w3, w4, x, y, z, w0, rfl, Rp.mono ((g3.trans g4).trans g5) r2, Rp.mono (g4.trans g5) r3, Rp.mono g5 r4, r5, e3⟩
theorem eb_call [Rp R] {m : List V -> Hp -> Option R -> Prop} {o : Option R} {t : TA} {E : XK} (h : EvM t σ H m o) : EvB K (tCall (PSb K m) [] E t) σ H o := fun r hr H1 e Q q =>
  h r hr H1 e _ fun vs H2 g2 hm => ⟨r, by rw [List.append_nil]; exact hm, fun w H3 g3 r3 => q w H3 (g2.trans g3) r3⟩
theorem en_call [Rp R] {m : List V -> Hp -> Option (List R) -> Prop} {o : Option (List R)} {t : TA} {E : XK} (h : EvM t σ H m o) : EvN K (tCall (PSn K m) [] E t) σ H o := fun r hr H1 e Q q =>
  h r hr H1 e _ fun vs H2 g2 hm => ⟨r, by rw [List.append_nil]; exact hm, fun p ws H3 hp g3 h3 r3 => q p ws H3 (g2.back hp) (g2.trans g3) h3 r3⟩

/-! the ends of a def -/
theorem sr_b {m : Option A} {x : A} (h : EvB K te σ H m) (hm : m = some x) (k : forall v H2, Gx H H2 -> rp K H2 v x -> X.rt v H2) : tSeq (tRet te) u X σ H := h x hm H Gx.rfl _ k
theorem sr_n {m : Option (List A)} {x : List A} (h : EvN K te σ H m) (hm : m = some x) (k : forall p vs H2, H p = none -> Gx H H2 -> H2 p = some (.lst vs) -> Al (rp K H2) vs x -> X.rt (.ref p) H2) : tSeq (tRet te) u X σ H := h x hm H Gx.rfl _ k
theorem sr_m {p : Addr} (h : σ[i]? = some (some (.ref p))) (k : X.rt (.ref p) H) : tSeq (tRet (tVar i)) u X σ H := ⟨_, h, k⟩
/-- a new list, to be changed -/
theorem st_newM [Im A] {m : Option (List A)} {x : List A} (h : EvN K te σ H m) (hm : m = some x) (a : At G H L) (k : forall p vs G2 H2, H p = none -> Gx G G2 -> Gx H H2 -> At G2 H2 ((p, .lst vs) :: L) -> Al (rp K G2) vs x -> u X (σ.set i (some (.ref p))) H2) : tSeq (tAsg te (gName i)) u X σ H :=
  h x hm H Gx.rfl _ fun p vs H2 hp g h2 r => by
    have a2 : At G H2 ((p, .lst vs) :: L) := by
      refine ⟨a.ex.trans g, List.nodup_cons.mpr ⟨a.fresh hp, a.nd⟩, fun q hq => ?_⟩
      rcases List.mem_cons.mp hq with rfl | hq
      · exact ⟨h2, a.ex.back hp, trivial⟩
      · exact (a.grow g).led q hq
    exact k p vs (hid H2 ((p, .lst vs) :: L)) H2 hp a2.gh g a2.hid (r.mono fun _ _ => Im.im a2.tx)
/-- a fold -/
def foldO {S I : Type} (f : S -> I -> Option S) : S -> List I -> Option S
  | s, [] => some s
  | s, x :: xs => (f s x).bind fun s' => foldO f s' xs
theorem foldO_loop {S I : Type} {f : S -> I -> Option S} : forall {xs : List I} {s r : S}, foldO f s xs = some r -> loopM (R := Empty) (fun s x => (f s x).map Sum.inl) s xs = some (.inl r)
  | [], s, r, h => by cases h; rfl
  | x :: xs, s, r, h => by
    unfold foldO at h
    unfold loopM
    cases hf : f s x with
    | none => rw [hf] at h; cases h
    | some s' =>
      rw [hf] at h
      exact foldO_loop (xs := xs) h
theorem fold_run {S I : Type} [Rp I] {J : It} {g : TG} {b : Bd I} {xs : List I} {Sh : Hp} {f : S -> I -> Option S} {s0 s1 : S} {E0 : Ends} {H2 : Hp} {E1 : L2.St -> Hp -> Prop} (wk : Wk K J xs Sh) (hl : foldO f s0 xs = some s1) (hg : TgOk K g b)
    (In : S -> L2.St -> Hp -> Prop) (hS : forall s σ' H', In s σ' H' -> Gx Sh H') (h0 : In s0 σ H2)
    (hs : forall s x s' σ' H' H'' σ2, x ∈ xs -> f s x = some s' -> In s σ' H' -> Gx H' H'' -> b x σ' H'' σ2 -> t1 { E0 with nx := In s', ct := In s', bk := E1 } σ2 H'')
    (hd : forall σ' H', In s1 σ' H' -> E1 σ' H') :
    exists W : Nat -> Nat -> L2.St -> Hp -> Prop, (exists m, W 0 m σ H2) ∧ forall i m σ H, W i m σ H ->
      (J.stop i H ∧ E1 σ H) ∨ (J.go i H ∧ exists N : L2.St -> Hp -> Prop, (forall σ' H', N σ' H' -> exists m', m' < m ∧ W (i + 1) m' σ' H') ∧ forall x H', J.yld i H x H' -> g x σ H' fun σ2 H2 => t1 { E0 with nx := N, ct := N, bk := E1 } σ2 H2) := by
  refine ⟨fun i m σ H => m = xs.length - i ∧ i ≤ xs.length ∧ exists s, In s σ H ∧ foldO f s (xs.drop i) = some s1, ⟨xs.length, by simp, Nat.zero_le _, s0, h0, hl⟩, ?_⟩
  rintro i m σ' Hc ⟨rfl, hle, s, hin, hm⟩
  have gS := hS _ _ _ hin
  obtain ⟨go, stop, yld⟩ := wk
  by_cases hlt : i < xs.length
  · rw [List.drop_eq_getElem_cons hlt] at hm
    cases hf : f s xs[i] with
    | none => unfold foldO at hm; rw [hf] at hm; cases hm
    | some s' =>
      have hm' : foldO f s' (xs.drop (i + 1)) = some s1 := by
        unfold foldO at hm; rw [hf] at hm; exact hm
      refine .inr ⟨go i Hc hlt gS, In s', fun σ3 H3 hN => ⟨xs.length - (i + 1), by omega, rfl, hlt, s', hN, hm'⟩, fun v Hy hy => ?_⟩
      obtain ⟨gy, ry⟩ := yld i Hc v Hy _ gS (List.getElem?_eq_getElem hlt) hy
      exact hg _ v σ' Hy _ ry fun σ2 hσ => hs s xs[i] s' σ' Hc Hy σ2 (List.getElem_mem hlt) hf hin gy hσ
  · have hi : i = xs.length := by omega
    subst hi
    rw [List.drop_length] at hm
    cases hm
    exact .inl ⟨stop Hc gS, hd σ' Hc hin⟩
/-- behind a loop that may leave -/
def fin {S R : Type} (k : S -> Option R) : S ⊕ R -> Option R
  | .inl s => k s
  | .inr r => some r
def braR {S S' R : Type} (k : S -> Option (S' ⊕ R)) : S ⊕ R -> Option (S' ⊕ R)
  | .inl s => k s
  | .inr r => some (.inr r)
theorem bnd {A B : Type} {m : Option A} {f : A -> Option B} {r : B} (h : m.bind f = some r) : exists a, m = some a ∧ f a = some r := o1s h
end
end Pu

set_option Elab.async false
set_option linter.all false
set_option maxRecDepth 100000
set_option maxHeartbeats 1000000
namespace Pu
open Pu.Rp (rp)
open PySem PySem.Spec PyProof.Rows L2
/-! zip of three lists -/
def Itz3 (K : Fg) (a b c : Addr) : It :=
  ⟨fun i H => exists (xs ys zs : List V) (x y z : V), (SqL K H a xs ∧ SqL K H b ys ∧ SqL K H c zs) ∧ xs[i]? = some x ∧ ys[i]? = some y ∧ zs[i]? = some z,
   fun i H v H' => exists T x y z, v = .ref T ∧ H T = none ∧ H' = upd H T (.tup [x, y, z]) ∧ (forall xs, SqL K H a xs -> xs[i]? = some x) ∧ (forall ys, SqL K H b ys -> ys[i]? = some y) ∧ (forall zs, SqL K H c zs -> zs[i]? = some z),
   fun i H => exists xs ys zs : List V, (SqL K H a xs ∧ SqL K H b ys ∧ SqL K H c zs) ∧ (xs.length ≤ i ∨ ys.length ≤ i ∨ zs.length ≤ i) ∧ i ≤ xs.length ∧ i ≤ ys.length ∧ i ≤ zs.length⟩
abbrev Tn3 (a b c z TI TO i1 i2 i3 : Addr) : Nat -> Heap -> Prop := fun i h => IsZip h z TI TO .none ∧ IsTupOf3 h TI (.ref i1) (.ref i2) (.ref i3) ∧ (exists x y u, IsTupOf3 h TO x y u) ∧ h.IsListIter i1 a i ∧ h.IsListIter i2 b i ∧ h.IsListIter i3 c i
theorem tn3_ob {a b c z TI TO i1 i2 i3 : Addr} {i : Nat} {h : Heap} (t : Tn3 a b c z TI TO i1 i2 i3 i h) : forall d, d ∈ [z, TI, TO, i1, i2, i3] -> exists o, h.get? d = some o ∧ forall v, o.data ≠ .cell v := fun d hd => by
  obtain ⟨hz, hTI, ⟨x, y, u, hTO⟩, ⟨o1, e1, _, d1⟩, ⟨o2, e2, _, d2⟩, ⟨o3, e3, _, d3⟩⟩ := t
  have e' : d = z ∨ d = TI ∨ d = TO ∨ d = i1 ∨ d = i2 ∨ d = i3 := by simpa using hd
  rcases e' with q | q | q | q | q | q <;> rw [q]
  · exact ⟨_, hz, fun v q => nomatch q⟩
  · exact ⟨_, hTI, fun v q => nomatch q⟩
  · exact ⟨_, hTO, fun v q => nomatch q⟩
  · exact ⟨o1, e1, fun v q => by rw [d1] at q; cases q⟩
  · exact ⟨o2, e2, fun v q => by rw [d2] at q; cases q⟩
  · exact ⟨o3, e3, fun v q => by rw [d3] at q; cases q⟩
theorem turn_zip3 {P : Program} {w : World} {K : Fg} {elts : List Expr} {kk : Nat} {tpos : Pos} {a b c z TI TO i1 i2 i3 : Addr} (S : ZipSep3 z TI TO i1 i2 i3 [i1, a] [i2, b] [i3, c]) (ha : a ≠ i1) (hb : b ≠ i2) (hc : c ≠ i3) :
    Turn P w K (.Tuple elts kk tpos) (Itz3 K a b c) [z, TI, TO, i1, i2, i3] z (Tn3 a b c z TI TO i1 i2 i3) where
  mem := by simp
  obj := fun i h st => tn3_ob st
  keep := fun i h h' st k => by
    obtain ⟨hz, hTI, ⟨x, y, u, hTO⟩, h1, h2, h3⟩ := st
    exact ⟨k z (by simp) _ hz, k TI (by simp) _ hTI, ⟨x, y, u, k TO (by simp) _ hTO⟩, h1.at fun o q => k i1 (by simp) o q, h2.at fun o q => k i2 (by simp) o q, h3.at fun o q => k i3 (by simp) o q⟩
  item := by
    intro X hP hw hK hcalm i pins s σ H E I hf st hg
    subst hP hw hK
    obtain ⟨hz, hTI, hTO, h1, h2, h3⟩ := id st
    obtain ⟨xs, ys, zs, x, y, u, ⟨hqx, hqy, hqz⟩, hx, hy, hu⟩ := hg
    obtain ⟨its, rv, p, _⟩ := I.list hqx
    obtain ⟨its2, rv2, p2, _⟩ := I.list hqy
    obtain ⟨its3, rv3, p3, _⟩ := I.list hqz
    have hh : X.A.in1.handled = none := by simpa using I.ok.hd hcalm
    have W := GoesN.zip3 (prog := X.prog) (w := X.w) (A := X.A) (elts := elts) (x1 := kk) (pos := tpos) S (Draws.list hh i1 a ha its.toArray) (Draws.list hh i2 b hb its2.toArray) (Draws.list hh i3 c hc its3.toArray)
    have l1 : i < its.toArray.size := by
      have := (List.getElem?_eq_some_iff.mp hx).1
      rw [rv.length] at this
      simpa using this
    have l2 : i < its2.toArray.size := by
      have := (List.getElem?_eq_some_iff.mp hy).1
      rw [rv2.length] at this
      simpa using this
    have l3 : i < its3.toArray.size := by
      have := (List.getElem?_eq_some_iff.mp hu).1
      rw [rv3.length] at this
      simpa using this
    have hall : forall d, d ∈ [z, TI, TO, i1, i2, i3] -> d < s.heap.objs.size := fun d hd => by
      obtain ⟨o, e, _⟩ := tn3_ob st d hd
      exact Heap.lt_size e
    refine thn (W.goes i s (fun v s2 => exists x' H', Inv X pins σ H' s2 ∧ RelV x' v ∧ (Itz3 X.K a b c).yld i H x' H' ∧ Tn3 a b c z TI TO i1 i2 i3 (i + 1) s2.heap ∧ forall d, d ∈ [z, TI, TO, i1, i2, i3] -> H' d = none) E (by omega) ⟨hz, hTI, hTO, ⟨h1, p.isList⟩, ⟨h2, p2.isList⟩, ⟨h3, p3.isList⟩⟩ fun v h' tk hY st' hk htk => ?_) fun r s1 hr => hr
    obtain ⟨T, x1, y1, u1, rfl, hT, q1, q2, q3, hTt⟩ := hY
    obtain ⟨hz', hTI', hTO', ⟨h1', _⟩, ⟨h2', _⟩, ⟨h3', _⟩⟩ := st'
    obtain ⟨v1, e1, r1⟩ := rv.get hx
    obtain ⟨v2, e2, r2⟩ := rv2.get hy
    obtain ⟨v3, e3, r3⟩ := rv3.get hu
    have f1 : v1 = x1 := by
      have : its.toArray[i]? = some v1 := by simpa using e1
      rw [q1] at this; exact (Option.some.inj this).symm
    have f2 : v2 = y1 := by
      have : its2.toArray[i]? = some v2 := by simpa using e2
      rw [q2] at this; exact (Option.some.inj this).symm
    have f3 : v3 = u1 := by
      have : its3.toArray[i]? = some v3 := by simpa using e3
      rw [q3] at this; exact (Option.some.inj this).symm
    subst f1 f2 f3
    have new : ObjOk X.prog X.w (upd H T (.tup [x, y, u])) h' T (.tup [x, y, u]) := ⟨by show 3 ≤ sizeLine; decide, [v1, v2, v3], .cons r1 (.cons r2 (.cons r3 .nil)), hTt⟩
    have I1 : Inv X pins σ (upd H T (.tup [x, y, u])) { s with heap := h', toks := tk } :=
      I.turnedNew (t' := tk) (ch := [z, TI, TO, i1, i2, i3]) (fun d o hd q => hk d o (fun z' => hd (by
        simp only [List.mem_cons, List.not_mem_nil, or_false] at z' ⊢
        rcases z' with e | e | e | e | e <;> simp [e])) q) hf hT new
    refine ⟨.ref T, _, I1, rfl, ⟨T, x, y, u, rfl, I.hok.fresh hT, rfl, fun l hl => by rw [I.list_inj hl hqx]; exact hx, fun l hl => by rw [I.list_inj hl hqy]; exact hy, fun l hl => by rw [I.list_inj hl hqz]; exact hu⟩, ⟨hz', hTI', hTO', h1', h2', h3'⟩, fun d hd => ?_⟩
    rw [upd_ne (Nat.ne_of_lt (Nat.lt_of_lt_of_le (hall d hd) hT))]
    exact (hf d hd).1
  done := by
    intro X hP hw hK hcalm i pins s σ H E I hf st hg
    subst hP hw hK
    obtain ⟨hz, hTI, hTO, h1, h2, h3⟩ := id st
    obtain ⟨xs, ys, zs, ⟨hqx, hqy, hqz⟩, hend, b1, b2, b3⟩ := hg
    obtain ⟨its, rv, p, _⟩ := I.list hqx
    obtain ⟨its2, rv2, p2, _⟩ := I.list hqy
    obtain ⟨its3, rv3, p3, _⟩ := I.list hqz
    have hh : X.A.in1.handled = none := by simpa using I.ok.hd hcalm
    have W := GoesN.zip3 (prog := X.prog) (w := X.w) (A := X.A) (elts := elts) (x1 := kk) (pos := tpos) S (Draws.list hh i1 a ha its.toArray) (Draws.list hh i2 b hb its2.toArray) (Draws.list hh i3 c hc its3.toArray)
    have hi : i = min (min its.toArray.size its2.toArray.size) its3.toArray.size := by
      rw [List.size_toArray, List.size_toArray, List.size_toArray, ← rv.length, ← rv2.length, ← rv3.length]
      omega
    refine W.stops s _ E (hi ▸ ⟨hz, hTI, hTO, ⟨h1, p.isList⟩, ⟨h2, p2.isList⟩, ⟨h3, p3.isList⟩⟩) fun h' tk hk htk => ?_
    exact I.turnedL (t' := tk) (ch := [z, TI, TO, i1, i2, i3]) (fun d o hd q => hk d o (fun z' => hd (by
        simp only [List.mem_cons, List.not_mem_nil, or_false] at z' ⊢
        rcases z' with e | e | e | e | e <;> simp [e])) q) hf
  self := fun A i s Q E st h => wpAny_pyIter_zip st.1 h
def iZip3 (K : Fg) (ta : TA) : TI := fun σ H R => ta σ H fun vs H1 => exists a b c xs ys zs, vs = [.ref a, .ref b, .ref c] ∧ (SqL K H1 a xs ∧ SqL K H1 b ys ∧ SqL K H1 c zs) ∧ R (Itz3 K a b c) H1
theorem pi_zip3 {X : Cx} {e e2 e3 : Expr} {ta : TA} {p pos tpos : Pos} {elts : List Expr} {kk : Nat} (hg : Gl X "zip") (hm : X.mg "zip" = none) (ha : PA X [e, e2, e3] ta)
    (hs : starEach [e, e2, e3] X.env = (false, eval e X.env) :: starEach [e2, e3] X.env := by rfl) (hpl : (backTo pos (starEach [e2, e3] X.env)).any (·.1) = false := by rfl) :
    PI X (.Tuple elts kk tpos) (.Call (.Name "zip" p) [e, e2, e3] [] pos) (iZip3 X.K ta) := by
  refine ⟨fun pins s σ H R I h => ?_⟩
  refine Call_ (ld_blt I hg hm PyProof.Rows.boot_zip (PyProof.Rows.callWith_type1 (thn (ha.run pos pins s σ H _ I h) fun us s1 q => ?_) hs hpl))
  obtain ⟨vs, H1, I1, r1, a, b, c, xs, ys, zs, ex, ⟨hqx, hqy, hqz⟩, q⟩ := q
  subst ex
  obtain ⟨u1, us1, rfl, ru1, r1⟩ : exists u1 us1, us = u1 :: us1 ∧ RelV (.ref a) u1 ∧ Vals [.ref b, .ref c] us1 := by cases r1 with | cons r rr => exact ⟨_, _, rfl, r, rr⟩
  obtain ⟨u2, us2, rfl, ru2, r1⟩ : exists u1 us2, us1 = u1 :: us2 ∧ RelV (.ref b) u1 ∧ Vals [.ref c] us2 := by cases r1 with | cons r rr => exact ⟨_, _, rfl, r, rr⟩
  obtain ⟨u3, us3, rfl, ru3, r1⟩ : exists u1 us3, us2 = u1 :: us3 ∧ RelV (.ref c) u1 ∧ Vals [] us3 := by cases r1 with | cons r rr => exact ⟨_, _, rfl, r, rr⟩
  cases r1
  cases ru1; cases ru2; cases ru3
  obtain ⟨its, rv, p1, _⟩ := I1.list hqx
  obtain ⟨its2, rv2, p2, _⟩ := I1.list hqy
  obtain ⟨its3, rv3, p3, _⟩ := I1.list hqz
  have la : a < s1.heap.objs.size := p1.lt
  have lb : b < s1.heap.objs.size := p2.lt
  have lc : c < s1.heap.objs.size := p3.lt
  refine zip_begins3 (begins_list a its.toArray) (begins_list b its2.toArray) (begins_list c its3.toArray) p1.isList p2.isList p3.isList fun h' hz hTI hTO g1 g2 g3 hsz hk => wpAny_pyIter_zip hz ?_
  have I2 : Inv X pins σ H1 { s1 with heap := h' } := I1.kept (t' := s1.toks) hk
  have sep := zip_sep3 (N := s1.heap.objs.size) (fp1 := [a]) (fp2 := [b]) (fp3 := [c]) (by simpa using la) (by simpa using lb) (by simpa using lc)
  have n : forall k, s1.heap.objs.size ≤ s1.heap.objs.size + k := fun k => Nat.le_add_right _ k
  refine ⟨s1.heap.objs.size + 5, [s1.heap.objs.size + 5, s1.heap.objs.size + 3, s1.heap.objs.size + 4, s1.heap.objs.size, s1.heap.objs.size + 1, s1.heap.objs.size + 2], _, _, H1, rfl, I2,
    turn_zip3 (a := a) (b := b) (c := c) sep (Nat.ne_of_lt la) (Nat.ne_of_lt (Nat.lt_succ_of_lt lb)) (Nat.ne_of_lt (Nat.lt_of_lt_of_le lc (n 2))), ⟨hz, hTI, ⟨_, _, _, hTO⟩, ⟨_, g1, rfl, rfl⟩, ⟨_, g2, rfl, rfl⟩, ⟨_, g3, rfl, rfl⟩⟩, fun d hd => ?_, q⟩
  have hle : s1.heap.objs.size ≤ d := by
    simp only [List.mem_cons, List.not_mem_nil, or_false] at hd
    rcases hd with e | e | e | e | e | e <;> rw [e] <;> first | exact Nat.le_refl _ | exact n _
  exact I1.fpOk hle (I1.hok.fresh hle)
/-! set of a list of ints -/
def rSetL1 (w : World) : List V -> Hp -> VK -> Prop := fun xs H Q => exists (l : Addr) (ns : List Int), xs = [.ref l] ∧ H l = some (.lst (ns.map V.int)) ∧ ns.length ≤ 1000 ∧ forall (a : Addr) (c : Nat), H a = none -> c ≤ ns.length -> Q (.ref a) (upd H a (SetO w a (fun j => decide (j ∈ ns)) c))
end Pu

set_option Elab.async false
set_option linter.all false
set_option maxRecDepth 100000
set_option maxHeartbeats 4000000
namespace Pu
open Pu.Rp (rp)
open PySem PySem.Spec PyProof.Rows L2
/-- the empty set's object -/
abbrev noS (w : World) : Obj := { cls := .type "set", dict := none, data := .set #[] 0 (.fresh 0 0 (!w.params.followText "set-order")) }
abbrev hpS (w : World) (s : Shared) : Heap := s.heap.push (noS w)
/-- what set(..) comes to -/
def SetEnd (w : World) (s : Shared) (ns : List Int) (r : Value) (s2 : Shared) : Prop := r = .none ∧ exists h' tk c, s2 = { s with heap := h', toks := tk } ∧ SetR w h' s.heap.objs.size (fun j => decide (j ∈ ns)) c ∧ c ≤ ns.length ∧ forall b o, s.heap.get? b = some o -> h'.get? b = some o
theorem setL_val {items : Array Value} {ns : List Int} (hit : IntsAre items.toList ns) (hz : items.size = ns.length) : forall (i : Nat) (v : Value), items[i]? = some v -> exists k t, ns[i]? = some k ∧ v = .int k t := fun i v hv => by
  have hi : i < ns.length := hz ▸ (Array.getElem?_eq_some_iff.mp hv).1
  obtain ⟨t, e⟩ := PyProof.Rows.IntsAre.int_at hit i v (by simpa using hv)
  refine ⟨ns[i], t, List.getElem?_eq_getElem hi, e.trans ?_⟩
  rw [List.getD_eq_getElem?_getD, List.getElem?_eq_getElem hi]
  rfl
section
variable {P : Program} {w : World} {A : Around} {E : Value → Shared → Prop} {s : Shared}
theorem setL_init {l : Addr} {items : Array Value} (ns : List Int) {A3 : Around} (hh : A3.in1.handled = none) (hl : s.heap.IsList l items) (hit : IntsAre items.toList ns) (hz : items.size = ns.length) (hb : ns.length + 1 < scanBound) :
    codeAny (model P w) A3 (.builtin "set.update.loop" ⟨[.ref s.heap.objs.size, .ref (hpS w s).objs.size], []⟩) (wants (SetEnd w s ns) E) { s with heap := (hpS w s).push { cls := .type "list_iterator", data := .fields #[.ref l, .int 0 0] } } := by
  have hlt : l < s.heap.objs.size := by
    obtain ⟨o, ho, _⟩ := id hl
    exact Heap.lt_size ho
  have z1 : (hpS w s).objs.size = s.heap.objs.size + 1 := Heap.size_push ..
  have hl1 : (hpS w s).IsList l items := hl.push _
  have ne1 : l ≠ (hpS w s).objs.size := by rw [z1]; exact Nat.ne_of_lt (Nat.lt_succ_of_lt hlt)
  have nf : s.heap.objs.size ∉ [(hpS w s).objs.size, l] := by
    rw [z1]
    intro z
    simp only [List.mem_cons, List.not_mem_nil, or_false] at z
    rcases z with z | z
    · exact absurd z (Nat.ne_of_lt (Nat.lt_succ_self _))
    · exact absurd z (Nat.ne_of_gt hlt)
  have g0 : (hpS w s).get? s.heap.objs.size = some (noS w) := Heap.get?_push_size _ rfl
  refine set_update_ints ((Walks.list hh _ l ne1 items).toS) s.heap.objs.size nf ns hz hb (setL_val hit hz) (items.size - 0) 0 _ (by omega) (Nat.zero_le _) ⟨⟨_, Heap.get?_push_size _ rfl, rfl, rfl⟩, hl1.push _⟩
    ⟨0, Nat.le_refl 0, setR_new_at (Heap.get?_push_of_some _ g0)⟩ fun s' c hm hc hS => ?_
  obtain ⟨h', g2, d', tk', os'⟩ := s'
  obtain rfl : g2 = s.gens := hm.gens
  obtain rfl : d' = s.drawn := hm.drawn
  obtain rfl : os' = s.os := hm.os
  show SetEnd w s ns _ _
  refine ⟨rfl, h', tk', c, rfl, hS, by omega, fun b o e => hm.heap b o (fun z => ?_) (Heap.get?_push_of_some _ (Heap.get?_push_of_some _ e))⟩
  have hbl : b < s.heap.objs.size := Heap.lt_size e
  simp only [List.mem_cons, List.not_mem_nil, or_false] at z
  rcases z with z | z
  · exact absurd hbl (by rw [z]; exact Nat.lt_irrefl _)
  · rw [z1] at z
    exact absurd hbl (by rw [z]; exact Nat.not_lt_of_le (Nat.le_succ _))
set_option maxHeartbeats 8000000 in
theorem call_setL {l : Addr} {items : Array Value} (ns : List Int) {Q : Value → Shared → Prop} (hh : A.handled = none) (hl : s.heap.IsList l items) (hit : IntsAre items.toList ns) (hb : ns.length + 1 < scanBound)
    (h : forall (h' : Heap) (tk c : Nat), SetR w h' s.heap.objs.size (fun j => decide (j ∈ ns)) c -> c ≤ ns.length -> (forall b o, s.heap.get? b = some o -> h'.get? b = some o) -> Q (.ref s.heap.objs.size) { s with heap := h', toks := tk }) :
    wpAny (model P w) A (call (.type "set") [.ref l]) Q E s := by
  have hz : items.size = ns.length := by simpa using IntsAre.length hit
  obtain ⟨c0, tl, hmro⟩ := F.called_set.mro
  have k1 := F.called_set.made
  have k2 := F.called_set.sub
  have k3 := F.called_set.notType
  have k4 := F.called_set.canCreate
  have k5 := F.typeCall_set_1 (.ref l)
  refine wpAny_call (codeAny_of_tree (show wpAny _ _ (callAny (.type "set") _) _ _ _ from wpAny_pure ⟨Code.quiet_builtin _ (by decide +kernel), codeAny_builtin F.entry_type_call ?_⟩))
  rw [Around.under_plain (weight_type_call_type "set" [.ref l] []) rfl]
  repeat (any_goals (first | assumption | wp_step))
  refine codeAny_mono (code_set_led1 (.ref l) (E := E) (Q₁ := fun obj s1 => obj = .ref s.heap.objs.size ∧ s1 = { s with heap := hpS w s }) ⟨rfl, rfl⟩) fun r s1 hr => ?_
  match r, hr with
  | .ok (.ret obj), ⟨e1, e2⟩ =>
    subst e1 e2
    have hT : Shared.TypeIs { s with heap := hpS w s } (.ref s.heap.objs.size) "set" := ⟨noS w, Heap.get?_push_size _ rfl, rfl⟩
    have k6 := F.called_set.init.lookup
    have k7 := F.called_set.init.bind (.ref s.heap.objs.size)
    repeat (any_goals (first | assumption | wp_step))
    refine codeAny_mono (codeAny_call_builtin (R := wants (SetEnd w s ns) E) F.called_set.init.plain F.entry_set_init (check_set_init_1 hT ?_)) fun r2 s2 hr2 => ?_
    · have hl1 : (hpS w s).IsList l items := hl.push _
      obtain ⟨ol, hol, hcl, nl, hdl⟩ := id hl1
      obtain ⟨ocls, odict, odata, oslots⟩ := ol
      simp only at hcl hdl
      subst hcl; subst hdl
      have j1 := F.sub_list_set
      have j2 := F.sub_list_frozenset
      have j3 : (Value.type "list" == Value.type "dict") = false := by decide
      unfold Builtin.«set.__init__» noKeywords Builtin.Frozenset.updateFrom
      generalize hPI : pyIter = PI
      wp_walk
      subst hPI
      refine wpAny_pyIter_list hl1 (wpAny_bind (wpAny_runValue ?_))
      refine codeAny_mono (setL_init (P := P) (w := w) (E := E) (s := s) ns (by simp [hh]) hl hit hz hb) fun r3 s3 hr3 => ?_
      match r3, hr3 with
      | .ok (.ret v), hr3 =>
        obtain ⟨rfl, h3⟩ := hr3
        exact wpAny_pure (wpAny_pure ⟨rfl, h3⟩)
      | .error e, hr3 => exact hr3
      | .ok .next, hr3 => exact hr3.elim
      | .ok .brk, hr3 => exact hr3.elim
      | .ok .cont, hr3 => exact hr3.elim
    · match r2, hr2 with
      | .ok (.ret v), hr2 =>
        obtain ⟨rfl, h', tk, c, rfl, hS, hc, hk⟩ := hr2
        repeat (any_goals (first | assumption | wp_step))
        exact h _ _ _ hS hc hk
      | .error e, hr2 => exact hr2
      | .ok .next, hr2 => exact hr2.elim
      | .ok .brk, hr2 => exact hr2.elim
      | .ok .cont, hr2 => exact hr2.elim
  | .error e, hr => exact hr
  | .ok .next, hr => exact hr.elim
  | .ok .brk, hr => exact hr.elim
  | .ok .cont, hr => exact hr.elim
end
section
variable {X : Cx}
theorem cr_setL (hc : X.calm = true) : CallR X (.type "set") (rSetL1 X.w) := by
  intro pins s σ H vs us Q I r h
  obtain ⟨l, ns, rfl, hl, hz, q⟩ := h
  rw [Vals.ref1 r]
  obtain ⟨its, rv, p, _⟩ := I.list (SqL.of hl)
  refine call_setL ns (I.ok.hd hc) p.isList (by simpa using rv.ints) (by unfold scanBound; omega) fun h' tk c R hcl hk => ?_
  have hn : H s.heap.objs.size = none := I.hok.fresh (Nat.le_refl _)
  exact ⟨.ref _, _, I.laid (t' := tk) hk (Nat.le_refl _) (setO_new R), rfl, q _ c hn hcl⟩
end
end Pu

set_option Elab.async false
set_option linter.all false
set_option maxRecDepth 100000
namespace Pu
open Pu.Rp (rp)
open PySem PySem.Spec PyProof.Rows L2
/-! xs[lo:hi:st], st a written number above 0 -/
def tSl3 (te : TE) (tl th : TO) (st : Nat) : TE := fun σ H Q => te σ H fun x H1 => tl σ H1 fun l H2 => th σ H2 fun u H3 => exists a xs, x = .ref a ∧ H3 a = some (.lst xs) ∧
  forall p, H3 p = none -> Q (.ref p) (upd H3 p (.lst ((sliceRange (sliceBounds l u (some (st : Int)) xs.length).1 (sliceBounds l u (some (st : Int)) xs.length).2.1 (sliceBounds l u (some (st : Int)) xs.length).2.2).filterMap (xs[·]?))))
theorem vals_pick {vs : List V} {us : List Value} (r : Vals vs us) : forall ks : List Nat, Vals (ks.filterMap (vs[·]?)) (ks.filterMap (us[·]?))
  | [] => .nil
  | k :: ks => by
    have ih := vals_pick r ks
    cases e : vs[k]? with
    | none =>
      have e2 := r.none_of e
      rw [List.filterMap_cons_none e, List.filterMap_cons_none e2]
      exact ih
    | some v =>
      obtain ⟨u, hu, ru⟩ := r.get e
      rw [List.filterMap_cons_some e, List.filterMap_cons_some hu]
      exact .cons ru ih
theorem pe_slice3 {X : Cx} {e : Expr} {lo hi : Option Expr} {te : TE} {tl th : TO} {n : Nat} {k : Nat} {p1 p2 pos : Pos} (hn : n ≠ 0) (he : PE X e te) (hl : PO X lo tl) (hh : PO X hi th) : PE X (.Subscript e (.Slice lo hi (some (.Constant (.int (n : Int)) k p1)) p2) pos) (tSl3 te tl th n) := by
  refine ⟨fun pins s σ H Q I h => ?_⟩
  refine Subscript_ (thn (he.run pins s σ H _ I h) fun v s1 ⟨x, H1, I1, r1, q1⟩ => ?_)
  have hst : PO X (some (.Constant (.int (n : Int)) k p1)) (tPart (tC (.int (n : Int)))) := po_some pe_int
  refine wpAny_Slice (thn (hl.run pins s1 σ H1 _ I1 q1) fun vl s2 ⟨l, H2, I2, pl, q2⟩ => thn (hh.run pins s2 σ H2 _ I2 q2) fun vu s3 ⟨u, H3, I3, pu, q3⟩ => ?_)
  refine thn (hst.run pins s3 σ H3 (fun o H4 => o = some (n : Int) ∧ H4 = H3) I3 ⟨_, rfl, rfl, rfl⟩) fun vs s4 ⟨o, H4, I4, ps, eo, e4⟩ => ?_
  subst eo e4
  obtain ⟨a, xs, ex, hx, q⟩ := q3
  subst ex
  cases r1
  have I5 : Inv X pins σ H4 { s4 with heap := s4.heap.push { cls := .type "slice", data := .fields #[vl, vu, vs] } } := I4.kept (t' := s4.toks) fun b ob q => Heap.get?_push_of_some _ q
  obtain ⟨its, r, ht, hz⟩ := I5.list (SqL.of hx)
  have hsl : (s4.heap.push { cls := .type "slice", data := .fields #[vl, vu, vs] }).IsSliceOf s4.heap.objs.size vl vu vs := Heap.IsSliceOf.new ..
  refine tail_any (ops := [.ref a, .ref s4.heap.objs.size]) ht.isList.typeIs (PySem.slot_list_getitem.lookup) ?_ (by with_unfolding_all rfl)
  have hz2 : its.toArray.size ≤ sizeLine := by rw [List.size_toArray, ← r.length]; exact hz
  refine wpAny_getItem_list_slice ht.isList hsl pl pu ps (fun z => hn (by have := Option.some.inj z; omega)) ?_ hz2
  have hl2 : its.length = xs.length := r.length.symm
  have epk : slicePick its.toArray l u (some (n : Int)) = ((sliceRange (sliceBounds l u (some (n : Int)) xs.length).1 (sliceBounds l u (some (n : Int)) xs.length).2.1 (sliceBounds l u (some (n : Int)) xs.length).2.2).filterMap (its[·]?)).toArray := by
    unfold slicePick
    rw [List.size_toArray, hl2]
    congr 2
    funext i
    simp
  have hsz := slicePick_size_le its.toArray l u (some (n : Int))
  rw [epk] at hsz ⊢
  have rv := vals_pick r (sliceRange (sliceBounds l u (some (n : Int)) xs.length).1 (sliceBounds l u (some (n : Int)) xs.length).2.1 (sliceBounds l u (some (n : Int)) xs.length).2.2)
  refine ⟨.ref _, _, I5.laid (t' := s4.toks) (fun b ob q => Heap.get?_push_of_some _ q) (Nat.le_refl _) ?_, rfl, q _ (I5.hok.fresh (Nat.le_refl _))⟩
  exact ⟨by rw [rv.length]; rw [List.size_toArray] at hsz; exact Nat.le_trans hsz hz2, _, 0, rv, Heap.get?_push_size _ rfl⟩
/-- what a slice with a step picks -/
def stepM {A : Type} (xs : List A) (lo hi : Option Int) (st : Nat) : List A := (sliceRange (sliceBounds lo hi (some (st : Int)) xs.length).1 (sliceBounds lo hi (some (st : Int)) xs.length).2.1 (sliceBounds lo hi (some (st : Int)) xs.length).2.2).filterMap (xs[·]?)
theorem al_pick {A : Type} {F : V -> A -> Prop} {vs : List V} {xs : List A} (r : Al F vs xs) : forall ks : List Nat, Al F (ks.filterMap (vs[·]?)) (ks.filterMap (xs[·]?))
  | [] => trivial
  | k :: ks => by
    have ih := al_pick r ks
    cases e : vs[k]? with
    | none =>
      have h1 := List.getElem?_eq_none_iff.mp e
      have e2 : xs[k]? = none := List.getElem?_eq_none_iff.mpr (by rw [← r.len]; exact h1)
      rw [List.filterMap_cons_none e, List.filterMap_cons_none e2]
      exact ih
    | some v =>
      obtain ⟨x, hx, rx⟩ := r.getV e
      rw [List.filterMap_cons_some e, List.filterMap_cons_some hx]
      exact ⟨rx, ih⟩
section
variable {K : Fg} {A B C D : Type} [Rp A] [Rp B] [Rp C] [Rp D]
variable {σ : L2.St} {G G' H H' : Hp} {L : Led} {M : List Addr} {te ta tb tc : TE} {tt tu : TT}
theorem en_sl3 {tl th : TO} {ma : Option (List A)} {ml mh : Option (Option Int)} {n : Nat} (ha : EvB K te σ H ma) (hl : EvP tl σ H ml) (hh : EvP th σ H mh) : EvN K (tSl3 te tl th n) σ H (o3 (fun a l h => some (stepM a l h n)) ma ml mh) := fun x hx H1 e Q q => by
  obtain ⟨a, l, h, e1, e2, e3, e4⟩ := o3s hx
  cases e4
  refine ha a e1 H1 e _ fun v H2 g2 r2 => hl l e2 H2 (e.trans g2) _ fun H3 g3 => hh h e3 H3 ((e.trans g2).trans g3) _ fun H4 g4 => ?_
  have g5 := (g2.trans g3).trans g4
  obtain ⟨p, vs, rfl, h2, h3⟩ := Rp.mono (g3.trans g4) r2
  have r4 : Al (rp K H4) ((sliceRange (sliceBounds l h (some (n : Int)) vs.length).1 (sliceBounds l h (some (n : Int)) vs.length).2.1 (sliceBounds l h (some (n : Int)) vs.length).2.2).filterMap (vs[·]?)) (stepM a l h n) := by
    unfold stepM
    rw [h3.len]
    exact al_pick h3 _
  exact ⟨p, vs, rfl, h2, fun p' hp => q p' _ _ (g5.back hp) (g5.trans (Gx.new hp)) upd_same (r4.mono fun _ _ => Rp.mono (Gx.new hp))⟩
/-- a slice of the script -/
theorem en_slS {tl th : TO} {ma : Option Scr} {ml mh : Option (Option Int)} (ha : EvB K te σ H ma) (hl : EvP tl σ H ml) (hh : EvP th σ H mh) : EvN K (tSl (rSlL K) te tl th) σ H (o3 (fun a l h => some (cutM a.l l h)) ma ml mh) := fun x hx H1 e Q q => by
  obtain ⟨a, l, h, e1, e2, e3, e4⟩ := o3s hx
  cases e4
  refine ha a e1 H1 e _ fun v H2 g2 r2 => hl l e2 H2 (e.trans g2) _ fun H3 g3 => hh h e3 H3 ((e.trans g2).trans g3) _ fun H4 g4 => ?_
  have g5 := (g2.trans g3).trans g4
  obtain ⟨p, rfl, h2⟩ := Rp.mono (g3.trans g4) r2
  exact ⟨p, _, rfl, h2, fun p' hp => q p' _ _ (g5.back hp) (g5.trans (Gx.new hp)) upd_same (al_cut (int_al (K := K) a.l))⟩
theorem eb_lenS {ma : Option Scr} (ha : EvB K ta σ H ma) : EvB K (tCB (fun xs H Q => ∃ p ys, xs = [.ref p] ∧ (SqL K H p ys ∨ SqT K H p ys) ∧ Q (.int ys.length) H) (tCons ta tNil)) σ H (o1 (fun x => some (x.l.length : Int)) ma) :=
  call1 (fun H v x c r hc Q q => by
    cases hc
    obtain ⟨p, rfl, h2⟩ := r
    refine ⟨p, _, rfl, .inl h2, ?_⟩
    rw [List.length_map]
    exact q _ H Gx.rfl rfl) ha
/-- zip of three -/
theorem wk_zip3 {a b c : Addr} {vs ws zs : List V} {xs : List A} {ys : List B} {us : List C} {S : Hp} (h : S a = some (.lst vs)) (r : Al (rp K S) vs xs) (h' : S b = some (.lst ws)) (r' : Al (rp K S) ws ys) (h2 : S c = some (.lst zs)) (r2 : Al (rp K S) zs us) :
    Wk K (Itz3 K a b c) ((xs.zip (ys.zip us)).map fun p => T3.mk p.1 p.2.1 p.2.2) S := by
  have hlen : ((xs.zip (ys.zip us)).map fun p => T3.mk p.1 p.2.1 p.2.2).length = min xs.length (min ys.length us.length) := by
    rw [List.length_map, List.length_zip, List.length_zip]
  have get : forall i, i < min xs.length (min ys.length us.length) -> exists v w z, vs[i]? = some v ∧ ws[i]? = some w ∧ zs[i]? = some z := fun i hi => by
    obtain ⟨v, hv, _⟩ := r.get (List.getElem?_eq_getElem (show i < xs.length by omega))
    obtain ⟨w, hw, _⟩ := r'.get (List.getElem?_eq_getElem (show i < ys.length by omega))
    obtain ⟨z, hz, _⟩ := r2.get (List.getElem?_eq_getElem (show i < us.length by omega))
    exact ⟨v, w, z, hv, hw, hz⟩
  refine ⟨fun i H hi e => ?_, fun H e => ⟨vs, ws, zs, ⟨SqL.of (e _ _ h), SqL.of (e _ _ h'), SqL.of (e _ _ h2)⟩, ?_⟩, fun i H v H' x e hx y => ?_⟩
  · rw [hlen] at hi
    obtain ⟨v, w, z, hv, hw, hz⟩ := get i hi
    exact ⟨vs, ws, zs, v, w, z, ⟨SqL.of (e _ _ h), SqL.of (e _ _ h'), SqL.of (e _ _ h2)⟩, hv, hw, hz⟩
  · rw [hlen, r.len, r'.len, r2.len]
    omega
  · obtain ⟨T, x1, y1, u1, rfl, hT, rfl, f1, f2, f3⟩ := y
    have q1 := f1 vs (SqL.of (e _ _ h))
    have q2 := f2 ws (SqL.of (e _ _ h'))
    have q3 := f3 zs (SqL.of (e _ _ h2))
    rw [List.getElem?_map] at hx
    obtain ⟨p, hp, rfl⟩ := Option.map_eq_some_iff.mp hx
    have hz := List.getElem?_zip_eq_some.mp hp
    have hz2 := List.getElem?_zip_eq_some.mp hz.2
    obtain ⟨v, hv, rv⟩ := r.get hz.1
    obtain ⟨w, hw, rw'⟩ := r'.get hz2.1
    obtain ⟨z, hz', rz⟩ := r2.get hz2.2
    rw [hv] at q1
    rw [hw] at q2
    rw [hz'] at q3
    cases q1; cases q2; cases q3
    have g := Gx.new (o := HO.tup [x1, y1, u1]) hT
    exact ⟨g, T, x1, y1, u1, rfl, upd_same, Rp.mono (e.trans g) rv, Rp.mono (e.trans g) rw', Rp.mono (e.trans g) rz⟩
def zip3 {A B C : Type} (xs : List A) (ys : List B) (us : List C) : List (T3 A B C) := (xs.zip (ys.zip us)).map fun p => T3.mk p.1 p.2.1 p.2.2
theorem ei_zip3 {ma : Option (List A)} {mb : Option (List B)} {mc : Option (List C)} (h : EvS K ta σ M H ma) (h' : EvS K tb σ M H mb) (h2 : EvS K tc σ M H mc) : EvI K (iZip3 K (tCons ta (tCons tb (tCons tc tNil)))) σ M H (o3 (fun a b c => some (zip3 a b c)) ma mb mc) := fun xs hx H1 e R q => by
  obtain ⟨a, b, c, e1, e2, e3, e4⟩ := o3s hx
  cases e4
  refine h a e1 H1 e _ fun v H2 g r => h' b e2 H2 (e.trans g) _ fun w H3 g3 r3 => h2 c e3 H3 ((e.trans g).trans g3) _ fun z H4 g4 r4 => ?_
  obtain ⟨p, vs, rfl, i2, i3⟩ := Rp.mono (mns_mono (M := M) (g3.trans g4)) r
  obtain ⟨p', ws, rfl, i4, i5⟩ := Rp.mono (mns_mono (M := M) g4) r3
  obtain ⟨p3, zs, rfl, i6, i7⟩ := r4
  exact ⟨p, p', p3, vs, ws, zs, rfl, ⟨SqL.of (mns_ex _ _ i2), SqL.of (mns_ex _ _ i4), SqL.of (mns_ex _ _ i6)⟩, q _ H4 ((g.trans g3).trans g4) (wk_zip3 i2 i3 i4 i5 i6 i7)⟩
end
end Pu

set_option Elab.async false
set_option linter.all false
set_option maxRecDepth 100000
set_option maxHeartbeats 2000000
namespace Pu
open Pu.Rp (rp)
open PySem PySem.Spec PyProof.Rows L2
section
variable {prog : Program} {w : World} {A : Around} {E : Value → Shared → Prop} {s : Shared}
/-- sorted(x), whatever x is collected to -/
theorem sorted_gen {x : Value} {ltv : Value → Value → Bool} {Pc : List Value -> Shared -> Prop} {Q : Value → Shared → Prop} (O : SrtO.Swo ltv)
    (hcol : forall (Q1 : List Value → Shared → Prop), (forall vs s1, Pc vs s1 -> Q1 vs s1) -> wpAny (model prog w) A.in1 (collect x) Q1 E s) (hz : forall vs s1, Pc vs s1 -> vs.length ≤ sizeLine)
    (hS : forall vs s1, Pc vs s1 -> 2 ≤ vs.length -> forall (h1 : Heap) (a : Addr), h1.get? a = some (seqObj "list" vs.toArray 0) -> (forall b o, s1.heap.get? b = some o -> b ≠ a ∧ h1.get? b = some o) -> SrtO.SortableO prog w A.in1.in1 { s1 with heap := h1 } a vs ltv)
    (h : forall vs s1 out h2 p c, Pc vs s1 -> SrtO.Srtd ltv out -> SrtO.Stb ltv out vs -> s1.heap.objs.size ≤ p -> h2.get? p = some (seqObj "list" out.toArray c) -> (forall b o, s1.heap.get? b = some o -> h2.get? b = some o) -> Q (.ref p) { s1 with heap := h2 }) :
    wpAny (model prog w) A (call (.builtin "sorted") [x]) Q E s := by
  refine Calls.call_function_entry kind_sorted plain_sorted entry_sorted (args_sorted1 _) ?_
  unfold Builtin.«sorted»
  refine wpAny_bind (m := checkCount "sorted" 1 1 _) (wpAny_pure (wpAny_bind (hcol _ fun vs s1 hP => ?_)))
  have z := hz vs s1 hP
  refine wpAny_bind (wpAny_newList ?_ z)
  have hoL : (s1.heap.push (seqObj "list" vs.toArray 0)).get? s1.heap.objs.size = some (seqObj "list" vs.toArray 0) := Heap.get?_push_size _ rfl
  have kp : forall b o, s1.heap.get? b = some o -> b ≠ s1.heap.objs.size ∧ (s1.heap.push (seqObj "list" vs.toArray 0)).get? b = some o := fun b o q => ⟨Nat.ne_of_lt (Heap.lt_size q), Heap.get?_push_of_some _ q⟩
  refine wpAny_bind (wpAny_holding (wpAny_call_entry slot_list_sort ⟨_, hoL, rfl⟩ entry_list_sort (SrtO.list_sort_ord O hoL z (fun h2 => hS vs s1 hP h2 _ _ hoL kp) fun out q1 q2 => ⟨_, rfl, wpAny_pure ⟨_, rfl, ?_⟩⟩) (args_list_sort _)))
  obtain ⟨c, hc⟩ := sortedHeap_at (vs := vs) (out := out.toArray) hoL
  refine h vs s1 out _ _ c hP q1 q2 (Nat.le_refl _) hc fun b o e => ?_
  have hlt := Heap.lt_size e
  rw [sortedHeap_old (Nat.ne_of_lt hlt) (by rw [Heap.size_push]; exact Nat.lt_succ_of_lt hlt)]
  exact Heap.get?_push_of_some _ e
end

/-! pairs of ints -/
def plt (p q : Int × Int) : Bool := SrtO.lexB p q
theorem plt_iff {p q : Int × Int} : plt p q = true ↔ p.1 < q.1 ∨ (p.1 = q.1 ∧ p.2 < q.2) := SrtO.lexB_iff
def ple (p q : Int × Int) : Bool := !plt q p
theorem ple_iff {p q : Int × Int} : ple p q = true ↔ p.1 < q.1 ∨ (p.1 = q.1 ∧ p.2 ≤ q.2) := by
  unfold ple
  have h := @plt_iff q p
  cases e : plt q p with
  | true =>
    have z := h.mp e
    constructor
    · intro q; cases q
    · intro q; omega
  | false =>
    constructor
    · intro _
      have n : ¬ (q.1 < p.1 ∨ (q.1 = p.1 ∧ q.2 < p.2)) := fun z => by rw [h.mpr z] at e; cases e
      omega
    · intro _; rfl
/-- pairs in order -/
def psort (x : List (Int × Int)) : List (Int × Int) := x.mergeSort ple
theorem psort_perm (x : List (Int × Int)) : (psort x).Perm x := List.mergeSort_perm _ _
theorem psort_le (x : List (Int × Int)) : (psort x).Pairwise fun p q => ple p q = true :=
  List.pairwise_mergeSort (fun a b c h1 h2 => by rw [ple_iff] at *; omega) (fun a b => by rw [Bool.or_eq_true, ple_iff, ple_iff]; omega) x
theorem pp_uniq {xs ys : List (Int × Int)} (p : xs.Perm ys) (h1 : xs.Pairwise fun p q => ple p q = true) (h2 : ys.Pairwise fun p q => ple p q = true) : xs = ys :=
  p.eq_of_pairwise (fun a b _ _ h h' => by
    rw [ple_iff] at h h'
    have e1 : a.1 = b.1 := by omega
    have e2 : a.2 = b.2 := by omega
    exact Prod.ext e1 e2) h1 h2
/-- sorted(x), x a list or a tuple of pairs of ints -/
def rSortE (K : Fg) : List V -> Hp -> VK -> Prop := fun vs H Q => exists (a : Addr) (xs : List V) (ps : List (Int × Int)), vs = [V.ref a] ∧ (H a = some (.lst xs) ∨ H a = some (.tup xs)) ∧ Al (rp K H) xs ps ∧
  forall ys p, H p = none -> Al (rp K H) ys (psort ps) -> Q (.ref p) (upd H p (.lst ys))
def prOf (H : Hp) (v : V) : Int × Int := match v with
  | .ref t => match H t with
    | some (.tup [.int i, .int j]) => (i, j)
    | _ => (0, 0)
  | _ => (0, 0)
theorem prOf_eq {K : Fg} {H : Hp} {v : V} {x : Int × Int} (h : rp K H v x) : prOf H v = x ∧ exists t, v = .ref t ∧ H t = some (.tup [.int x.1, .int x.2]) := by
  obtain ⟨t, u, w, rfl, h2, h3, h4⟩ := h
  have e3 : u = .int x.1 := h3
  have e4 : w = .int x.2 := h4
  subst e3 e4
  refine ⟨?_, t, rfl, h2⟩
  unfold prOf
  simp only [h2]
theorem al_pr {K : Fg} {H : Hp} : forall {vs : List V} {xs : List (Int × Int)}, Al (rp K H) vs xs -> vs.map (prOf H) = xs
  | [], [], _ => rfl
  | _ :: _, _ :: _, q => by rw [List.map_cons, (prOf_eq q.1).1, al_pr q.2]
  | [], _ :: _, q => q.elim
  | _ :: _, [], q => q.elim
theorem al_of {A : Type} {F : V -> A -> Prop} {f : V -> A} : forall {vs : List V}, (forall v, v ∈ vs -> F v (f v)) -> Al F vs (vs.map f)
  | [], _ => trivial
  | v :: vs, h => ⟨h v List.mem_cons_self, al_of fun u hu => h u (List.mem_cons_of_mem _ hu)⟩
section
variable {X : Cx}
theorem cr_sortE : CallR X (.builtin "sorted") (rSortE X.K) := by
  intro pins s σ H vs us Q I r h
  obtain ⟨a, xs, ps, rfl, hs, hx, q⟩ := h
  obtain ⟨u, rfl, ru⟩ := vals1 r
  obtain rfl : u = Value.ref a := ru
  have hmem : forall v, v ∈ xs -> exists t, v = .ref t ∧ H t = some (.tup [.int (prOf H v).1, .int (prOf H v).2]) := fun v hv => by
    obtain ⟨i, hi⟩ := List.getElem?_of_mem hv
    obtain ⟨x, hx1, hx2⟩ := hx.getV hi
    obtain ⟨e1, e2⟩ := prOf_eq hx2
    rw [e1]
    exact e2
  obtain ⟨T, o, its, n, hT, ho, hc, hd, rv, hz⟩ : exists T o its n, (T = "list" ∨ T = "tuple") ∧ s.heap.get? a = some o ∧ o.cls = .type T ∧ o.data = .seq (List.toArray its) n ∧ Vals xs its ∧ xs.length ≤ sizeLine := by
    rcases hs with hs | hs
    · obtain ⟨its, rv, ⟨o, n, ho, hc, _, hd⟩, hz⟩ := I.list (SqL.of hs)
      exact ⟨"list", o, its, n, .inl rfl, ho, hc, hd, rv, hz⟩
    · obtain ⟨its, rv, ⟨o, ho, hc, n, hd⟩, hz⟩ := I.tuple (SqT.of hs)
      exact ⟨"tuple", o, its, n, .inr rfl, ho, hc, hd, rv, hz⟩
  have hzi : its.toArray.size ≤ sizeLine := by rw [List.size_toArray, ← rv.length]; exact hz
  obtain ⟨e1, e2⟩ := refs_back rv fun x m => by
    obtain ⟨t, e, _⟩ := hmem x m
    exact ⟨t, e⟩
  refine sorted_gen (Pc := fun vs s1 => vs = its ∧ exists h', s1 = { s with heap := h' } ∧ forall b o', s.heap.get? b = some o' -> h'.get? b = some o') (SrtO.swo_lex fun v => prOf H (backV v)) (fun Q1 hQ => ?_) (fun vs s1 ⟨e, _⟩ => ?_) (fun vs s1 ⟨e, h', es, kp⟩ h2 h1 a' ha kk => ?_) fun vs s1 out h2 p c ⟨e, h', es, kp⟩ q1 q2 hp hg hk => ?_
  · exact wpAny_collect_seq a hT ho hc hd (fun h' kp => hQ _ _ ⟨by simp, h', rfl, kp⟩) hzi
  · rw [e, ← rv.length]; exact hz
  · subst e es
    refine SrtO.pairs_sortableO (s := { s with heap := h1 }) (by omega) (fun v hv => ?_) fun o e => ?_
    · obtain ⟨t, rfl⟩ := e2 v hv
      have hm : V.ref t ∈ xs := by rw [e1]; exact List.mem_map.mpr ⟨_, hv, rfl⟩
      obtain ⟨t', e, ht⟩ := hmem _ hm
      cases e
      obtain ⟨_, its2, r2, o2, ho2, hc2, n2, hd2⟩ := I.hok _ _ ht
      obtain ⟨u1, u2, rfl, ri, rj⟩ := vals2 r2
      obtain ⟨t1, rfl⟩ := ri
      obtain ⟨t2, rfl⟩ := rj
      exact ⟨t, o2, t1, t2, n2, rfl, (kk _ _ (kp _ _ ho2)).2, hc2, hd2⟩
    · have e' : some o = some (seqObj "list" vs.toArray 0) := e.symm.trans ha
      cases e'
      intro c
      exact absurd (Value.type.inj c) (by decide)
  · subst e es
    have h3 : ∀ u ∈ out, ∃ a, u = Value.ref a := fun u hu => e2 u (q2.perm.mem_iff.mp hu)
    have I1 : Inv X pins σ H { s with heap := h' } := I.kept (t' := s.toks) kp
    have hn : H p = none := I1.hok.fresh hp
    have pm : (out.map backV).Perm xs := by rw [e1]; exact q2.perm.map backV
    have al : Al (rp X.K H) (out.map backV) (psort ps) := by
      have a1 : Al (rp X.K H) (out.map backV) ((out.map backV).map (prOf H)) := al_of fun v hv => by
        obtain ⟨t, rfl, ht⟩ := hmem v (pm.mem_iff.mp hv)
        exact ⟨t, _, _, rfl, ht, rfl, rfl⟩
      have e3 : (out.map backV).map (prOf H) = psort ps := by
        refine pp_uniq ?_ ?_ (psort_le ps)
        · refine List.Perm.trans (pm.map (prOf H)) ?_
          rw [al_pr hx]
          exact (psort_perm ps).symm
        · rw [List.map_map]
          exact List.pairwise_map.mpr (q1.imp fun {x y} h => by
            show (!plt (prOf H (backV y)) (prOf H (backV x))) = true
            have h' : plt (prOf H (backV y)) (prOf H (backV x)) = false := h
            rw [h']; rfl)
      rw [e3] at a1
      exact a1
    refine ⟨.ref p, upd H p (.lst (out.map backV)), I1.laid (t' := s.toks) hk hp ⟨?_, out, c, vals_back h3, hg⟩, rfl, q _ p hn al⟩
    rw [pm.length_eq]
    exact hz
/-! a set of ints, any number of them -/
def rSortS (w : World) : List V -> Hp -> VK -> Prop := fun vs H Q => exists (a : Addr) (S : Int -> Bool) (n : Nat), vs = [V.ref a] ∧ H a = some (SetO w a S n) ∧
  forall (ns : List Int) (p : Addr), ns.Pairwise (· < ·) -> (forall k : Int, k ∈ ns ↔ S k = true) -> H p = none -> Q (.ref p) (upd H p (.lst (ns.map V.int)))
theorem cr_sortS (hc : X.calm = true) : CallR X (.builtin "sorted") (rSortS X.w) := by
  intro pins s σ H vs us Q I r h
  obtain ⟨a, S, n, rfl, ha, q⟩ := h
  have R := setO_get I ha
  rw [Vals.ref1 r]
  obtain ⟨o, es, ep, t, ho, hex, hd, g, nd, hm, hb, hf, hn, hr, hl⟩ := R
  have hh : X.A.in1.handled = none := by simpa using I.ok.hd hc
  refine sorted_gen (Pc := fun vs s1 => vs.Perm (es.toList.map (·.2)) ∧ (forall b o, s.heap.get? b = some o -> s1.heap.get? b = some o) ∧ s1.gens = s.gens ∧ s1.os = s.os ∧ s.heap.objs.size ≤ s1.heap.objs.size) SrtO.swo_int (fun Q1 hQ => ?_) (fun vs s1 ⟨pm, _⟩ => ?_) (fun vs s1 ⟨pm, _⟩ h2 h1 a' ha' kk => ?_) fun vs s1 out h2 p c ⟨pm, kp, g1, o1, z1⟩ q1 q2 hp hg hk => ?_
  · exact collect_set hh ⟨o, ho, hex.1, hd⟩ hf hb hr hl fun s1 vs k1 hz g1 o1 pm => hQ vs s1 ⟨pm, k1, g1, o1, hz⟩
  · rw [pm.length_eq, List.length_map, Array.length_toList]
    exact fits_of_scanBound hb
  · refine SrtO.ints_sortable (ns := vs.map Builtin.Re.reRawOf) (ints_of vs fun v hv => ?_) h2
    obtain ⟨e, he, qe⟩ := List.mem_map.mp (pm.mem_iff.mp hv)
    obtain ⟨k, tk, h1, _⟩ := g e he
    exact ⟨k, tk, by rw [← qe]; exact h1⟩
  · have hI : IntsAre vs (vs.map Builtin.Re.reRawOf) := ints_of vs fun v hv => by
      obtain ⟨e, he, qe⟩ := List.mem_map.mp (pm.mem_iff.mp hv)
      obtain ⟨k, tk, h1, _⟩ := g e he
      exact ⟨k, tk, by rw [← qe]; exact h1⟩
    obtain ⟨k1, k2, k3⟩ := SrtO.ints_out hI q1 q2
    have pk : (vs.map Builtin.Re.reRawOf).Perm (es.toList.map keyOf) := by
      have z := pm.map Builtin.Re.reRawOf
      rw [List.map_map] at z
      exact z
    have pn : (out.map SrtO.iv).Perm (es.toList.map keyOf) := k2.trans pk
    have hp' : s.heap.objs.size ≤ p := Nat.le_trans z1 hp
    have hnp : H p = none := I.hok.fresh hp'
    have kk : forall b o, s.heap.get? b = some o -> h2.get? b = some o := fun b o e => hk b o (kp b o e)
    have hlen : ((out.map SrtO.iv).map V.int).length ≤ sizeLine := by
      rw [List.length_map, pn.length_eq, List.length_map, Array.length_toList]
      exact fits_of_scanBound hb
    have J : Inv X pins σ (upd H p (.lst ((out.map SrtO.iv).map V.int))) { s with heap := h2, gens := s1.gens, drawn := s1.drawn, toks := s1.toks } :=
      I.call (ch := []) (Un.laid kk hp' hnp) (I.hok.laid kk hp' ⟨hlen, out, c, vals_of_ints k1, hg⟩) (by rw [g1]; exact I.bare) (fun _ z => nomatch z)
    have e : { s1 with heap := h2 } = { s with heap := h2, gens := s1.gens, drawn := s1.drawn, toks := s1.toks } := by
      cases s1
      cases s
      cases o1
      rfl
    rw [e]
    exact ⟨.ref p, _, J, rfl, q _ p (lt_of_le_nodup _ k3 (pn.nodup_iff.mpr nd)) (fun k => by rw [pn.mem_iff, ← hm k]) hnp⟩
end
end Pu

set_option Elab.async false
set_option linter.all false
set_option maxRecDepth 100000
namespace Pu
open Pu.Rp (rp)
open PySem PySem.Spec PyProof.Rows L2
/-! dicts with int keys -/
def dput {B : Type} (d : List (Int × B)) (k : Int) (x : B) : List (Int × B) := if (d.any fun p => decide (p.1 = k)) = true then d.map (fun p => if p.1 = k then (p.1, x) else p) else d ++ [(k, x)]
def Da {B : Type} (F : V -> B -> Prop) : List (Key × V) -> List (Int × B) -> Prop
  | [], [] => True
  | p :: r, x :: xs => p.1 = .inl x.1 ∧ F p.2 x.2 ∧ Da F r xs
  | _, _ => False
theorem Da.mono {B : Type} {F F' : V -> B -> Prop} (h : forall v x, F v x -> F' v x) : forall {kvs : List (Key × V)} {d : List (Int × B)}, Da F kvs d -> Da F' kvs d
  | [], [], _ => trivial
  | _ :: _, _ :: _, q => ⟨q.1, h _ _ q.2.1, Da.mono h q.2.2⟩
  | [], _ :: _, q => q.elim
  | _ :: _, [], q => q.elim
theorem Da.len {B : Type} {F : V -> B -> Prop} : forall {kvs : List (Key × V)} {d : List (Int × B)}, Da F kvs d -> kvs.length = d.length
  | [], [], _ => rfl
  | _ :: _, _ :: _, q => by simp only [List.length_cons, Da.len q.2.2]
  | [], _ :: _, q => q.elim
  | _ :: _, [], q => q.elim
theorem Da.any {B : Type} {F : V -> B -> Prop} (k : Int) : forall {kvs : List (Key × V)} {d : List (Int × B)}, Da F kvs d -> (kvs.any fun p => decide (p.1 = .inl k)) = d.any fun p => decide (p.1 = k)
  | [], [], _ => rfl
  | p :: r, x :: xs, q => by
    rw [List.any_cons, List.any_cons, Da.any k q.2.2, q.1]
    congr 1
    by_cases e : x.1 = k
    · rw [decide_eq_true e, e]; simp
    · rw [decide_eq_false e, decide_eq_false (fun z => e (Sum.inl.inj z))]
  | [], _ :: _, q => q.elim
  | _ :: _, [], q => q.elim
theorem Da.map {B : Type} {F : V -> B -> Prop} {k : Int} {v : V} {x : B} (h : F v x) : forall {kvs : List (Key × V)} {d : List (Int × B)}, Da F kvs d -> Da F (kvs.map fun p => if p.1 = .inl k then (p.1, v) else p) (d.map fun p => if p.1 = k then (p.1, x) else p)
  | [], [], _ => trivial
  | p :: r, y :: ys, q => by
    refine ⟨?_, ?_, Da.map h q.2.2⟩
    · by_cases e : y.1 = k
      · have e2 : p.1 = .inl k := by rw [q.1, e]
        simp only [if_pos e, if_pos e2]
        exact q.1
      · have e2 : ¬ p.1 = .inl k := fun z => e (Sum.inl.inj (q.1.symm.trans z))
        simp only [if_neg e, if_neg e2]
        exact q.1
    · by_cases e : y.1 = k
      · have e2 : p.1 = .inl k := by rw [q.1, e]
        simp only [if_pos e, if_pos e2]
        exact h
      · have e2 : ¬ p.1 = .inl k := fun z => e (Sum.inl.inj (q.1.symm.trans z))
        simp only [if_neg e, if_neg e2]
        exact q.2.1
  | [], _ :: _, q => q.elim
  | _ :: _, [], q => q.elim
theorem Da.snoc {B : Type} {F : V -> B -> Prop} {k : Int} {v : V} {x : B} (h : F v x) : forall {kvs : List (Key × V)} {d : List (Int × B)}, Da F kvs d -> Da F (kvs ++ [(.inl k, v)]) (d ++ [(k, x)])
  | [], [], _ => ⟨rfl, h, trivial⟩
  | _ :: _, _ :: _, q => ⟨q.1, q.2.1, Da.snoc h q.2.2⟩
  | [], _ :: _, q => q.elim
  | _ :: _, [], q => q.elim
theorem Da.put {B : Type} {F : V -> B -> Prop} {kvs : List (Key × V)} {d : List (Int × B)} {k : Int} {v : V} {x : B} (q : Da F kvs d) (h : F v x) : Da F (putK kvs (.inl k) v) (dput d k x) := by
  unfold putK dput
  rw [Da.any k q]
  split
  · exact Da.map h q
  · exact Da.snoc h q
theorem Da.key {B : Type} {F : V -> B -> Prop} : forall {kvs : List (Key × V)} {d : List (Int × B)} {i : Nat} {x : Int}, Da F kvs d -> (d.map (·.1))[i]? = some x -> exists v, kvs[i]? = some (.inl x, v)
  | [], [], _, _, _, h => by simp at h
  | p :: _, y :: _, 0, x, q, h => by
    have e : y.1 = x := by simpa using h
    refine ⟨p.2, ?_⟩
    rw [← e, ← q.1]
    rfl
  | _ :: _, _ :: _, i + 1, x, q, h => by
    obtain ⟨v, h1⟩ := Da.key (i := i) (x := x) q.2.2 (by simpa using h)
    exact ⟨v, by simpa using h1⟩
  | [], _ :: _, _, _, q, _ => q.elim
  | _ :: _, [], _, _, q, _ => q.elim
theorem dput_len {B : Type} (d : List (Int × B)) (k : Int) (x : B) : (dput d k x).length ≤ d.length + 1 := by
  unfold dput
  split
  · rw [List.length_map]; omega
  · rw [List.length_append]; simp
section
variable {K : Fg} {A B C D : Type} [Rp A] [Rp B] [Rp C] [Rp D]
variable {σ : L2.St} {G G' H H' : Hp} {L L1 L2' : Led} {M : List Addr} {te ta tb tc td : TE} {tt tu : TT} {X : Ends} {t1 t2 u : TS} {i : Nat}
/-- {k: v} -/
theorem st_dict1 [Im B] {k : Int} {m : Option B} {x : B} (h : forall H1, Gx H H1 -> EvB K te σ H1 m) (hm : m = some x) (a : At G H L)
    (kk : forall p v G2 H2, H p = none -> Gx G G2 -> Gx H H2 -> At G2 H2 ((p, .dK [(.inl k, v)]) :: L) -> rp K G2 v x -> u X (σ.set i (some (.ref p))) H2) : tSeq (tAsg (tDisp [(tC (.int k), te)]) (gName i)) u X σ H := by
  intro p hp
  have e1 : Gx H (upd H p (.dK [])) := Gx.new hp
  refine h _ e1 x hm _ Gx.rfl _ fun v H2 e2 r => ?_
  have hd : H2 p = some (.dK []) := e2 _ _ upd_same
  refine ⟨hd, [(.inl k, v)], rfl, by show 1 ≤ 15; decide, ?_⟩
  have a1 : At G (upd H p (.dK [])) ((p, .dK []) :: L) := a.add hp trivial
  have a2 : At G H2 ([] ++ (p, .dK []) :: L) := a1.grow e2
  have a3 := a2.set (o' := .dK (mergeK [] [(.inl k, v)])) trivial
  have em : mergeK [] [((.inl k : Key), v)] = [(.inl k, v)] := rfl
  rw [em] at a3 ⊢
  refine kk p v (hid (upd H2 p (.dK [(.inl k, v)])) ((p, .dK [(.inl k, v)]) :: L)) _ hp a3.gh ?_ a3.hid (Im.im (fun b xs hb => a3.tx b xs ?_) r)
  · exact (e1.trans e2).mut hp
  · exact Tx.mut (fun ys q => by rw [hd] at q; cases q) b xs hb
/-- d[k] = v -/
theorem st_dput [Im B] {p : Addr} {kvs : List (Key × V)} {d : List (Int × B)} {mk : Option Int} {k : Int} {m : Option B} {x : B} (h : EvB K tc σ H m) (hm : m = some x) (hs : forall H1, Gx H H1 -> forall Q : VK, Q (.ref p) H1 -> td σ H1 Q) (hk : EvB K te σ H mk) (hkk : mk = some k)
    (a : At G H (L1 ++ (p, .dK kvs) :: L2')) (r : Da (rp K G) kvs d) (hz : d.length < 100000)
    (kk : forall kvs' G2 H2, Gx G G2 -> At G2 (upd H2 p (.dK kvs')) (L1 ++ (p, .dK kvs') :: L2') -> Gx H H2 -> Da (rp K G2) kvs' (dput d k x) -> u X σ (upd H2 p (.dK kvs'))) :
    tSeq (sDPut td te tc) u X σ H := by
  have hp := (a.led (p, .dK kvs) (by simp)).1
  refine h x hm H Gx.rfl _ fun v H2 e2 r2 => hs H2 e2 _ (hk k hkk H2 e2 _ fun w H3 e3 rw' => ?_)
  have e4 : w = .int k := rw'
  subst e4
  have hd : H3 p = some (.dK kvs) := e3 _ _ (e2 _ _ hp)
  refine ⟨p, _, rfl, .inl ⟨kvs, .inl k, hd, rfl, by rw [r.len]; exact Evl.sz_lt hz, rfl⟩, ?_⟩
  have a3 := (a.grow (e2.trans e3)).set (o' := .dK (putK kvs (.inl k) v)) trivial
  refine kk (putK kvs (.inl k) v) (hid (upd H3 p (.dK (putK kvs (.inl k) v))) (L1 ++ (p, .dK (putK kvs (.inl k) v)) :: L2')) H3 a3.gh a3.hid (e2.trans e3) ((r.mono fun _ _ => Rp.mono a3.gh).put (Im.im (fun b xs hb => a3.tx b xs ?_) (Rp.mono e3 r2)))
  exact Tx.mut (fun ys q => by rw [hd] at q; cases q) b xs hb
/-- a comprehension over the keys of one's own dict -/
theorem en_lcK [Im A] {g : TG} {b : Bd Int} {vs : List Nat} {p : Addr} {kvs : List (Key × V)} {F : V -> B -> Prop} {d : List (Int × B)} {c : Int -> Option Bool} {f : Int -> Option A} (hs : σ[i]? = some (some (.ref p))) (hd : H p = some (.dK kvs)) (hr : Da F kvs d) (hg : TgOk K g b) (hb : BdIn b vs)
    (ht : forall x σ2 H', Gx (mns H [p]) H' -> b x (wipe σ vs) H' σ2 -> EvT tt σ2 H' (c x)) (he : forall x σ2 H', Gx (mns H [p]) H' -> b x (wipe σ vs) H' σ2 -> EvB K te σ2 H' (f x)) :
    EvN K (tLockE (tLc (iKeys (tVar i)) g tt te vs)) σ H ((lim 100000 (d.map (·.1))).bind (comp c f)) := fun r hr' H1 e1 Q q => by
  have hd1 : H1 p = some (.dK kvs) := e1 _ _ hd
  refine ⟨p, .dK kvs, hd1, trivial, fun od => ?_⟩
  have em1 : Gx (mns H [p]) (upd H1 p (.frz od (.dK kvs))) := fun a o h => by
    have n : a ≠ p := fun z => by rw [z, mns_in (List.mem_singleton.mpr rfl)] at h; cases h
    rw [upd_ne n]
    exact e1 _ _ (mns_ex _ _ h)
  refine ⟨_, hs, p, od, rfl, .inl ⟨kvs, upd_same, ?_⟩⟩
  intro D hD
  have nD : D ≠ p := fun z => by rw [z, upd_same] at hD; cases hD
  have hD1 : H1 D = none := by rw [upd_ne nD] at hD; exact hD
  generalize hks : d.map (·.1) = ks at hr'
  have hkl : kvs.length = ks.length := by rw [hr.len, ← hks, List.length_map]
  unfold lim at hr'
  by_cases hz : ks.length ≤ 100000
  · rw [if_pos hz] at hr'
    have hr2 : comp c f ks = some r := hr'
    refine ⟨fun i m Hc => m = ks.length - i ∧ i ≤ ks.length ∧ Gx (upd H1 p (.frz od (.dK kvs))) Hc ∧ exists vs' ys r', Hc D = some (.lst vs') ∧ Al (rp K Hc) vs' ys ∧ ys.length ≤ i ∧ comp c f (ks.drop i) = some r' ∧ r = ys ++ r',
      ⟨ks.length, by simp, Nat.zero_le _, Gx.new hD, [], [], r, upd_same, trivial, Nat.le_refl _, hr2, rfl⟩, ?_⟩
    rintro i m Hc ⟨rfl, hle, gc, vs', ys, r', hDc, ral, hlen, hcomp, rfl⟩
    have hpc : Hc p = some (.frz od (.dK kvs)) := gc _ _ upd_same
    by_cases hlt : i < ks.length
    · refine .inr ⟨⟨hpc, by rw [hkl]; exact hlt⟩, fun Hn => i + 1 ≤ ks.length ∧ Gx (upd H1 p (.frz od (.dK kvs))) Hn ∧ exists vs' ys' r'', Hn D = some (.lst vs') ∧ Al (rp K Hn) vs' ys' ∧ ys'.length ≤ i + 1 ∧ comp c f (ks.drop (i + 1)) = some r'' ∧ ys ++ r' = ys' ++ r'',
        fun Hn hn => ⟨ks.length - (i + 1), by omega, rfl, hn.1, hn.2⟩, fun v Hy hy => ?_⟩
      obtain ⟨rfl, k, v', hk, rfl⟩ := hy
      have hx : (d.map (·.1))[i]? = some ks[i] := by rw [hks]; exact List.getElem?_eq_getElem hlt
      obtain ⟨v2, hv2⟩ := hr.key hx
      rw [hv2] at hk
      have ek : k = .inl ks[i] := (congrArg Prod.fst (Option.some.inj hk)).symm
      subst ek
      have gH : Gx (mns H [p]) Hy := em1.trans gc
      refine hg ks[i] (.int ks[i]) (wipe σ vs) Hy _ rfl fun σ2 hσ => ⟨(hb _ _ _ _ hσ).trans (wipe_wipe σ vs), ?_⟩
      rw [List.drop_eq_getElem_cons hlt] at hcomp
      rcases comp_cons hcomp with ⟨hc, y, r2, hf, h2, rfl⟩ | ⟨hc, h2⟩
      · refine ht _ σ2 Hy gH hσ true hc Hy Gx.rfl _ fun H3 g3 => ite_tt ?_
        refine he _ σ2 Hy gH hσ y hf H3 g3 _ fun u H4 g4 r4 => ?_
        have gD := g3.trans g4
        have h4 : H4 D = some (.lst vs') := gD _ _ hDc
        have tx : Tx H4 (upd H4 D (.lst (vs' ++ [u]))) := Tx.mut fun xs q => by rw [h4] at q; cases q
        refine ⟨vs', h4, ?_, hlt, (gc.trans gD).mut hD, vs' ++ [u], ys ++ [y], r2, upd_same, ?_, ?_, h2, by simp⟩
        · rw [ral.len]; exact Evl.sz_lt (by omega)
        · exact ((ral.mono fun _ _ => Rp.mono gD).app (Al.one r4)).mono fun _ _ => Im.im tx
        · rw [List.length_append]; simp only [List.length_cons, List.length_nil]; omega
      · refine ht _ σ2 Hy gH hσ false hc Hy Gx.rfl _ fun H3 g3 => ite_ff ?_
        exact ⟨hlt, gc.trans g3, vs', ys, r', g3 _ _ hDc, ral.mono fun _ _ => Rp.mono g3, by omega, h2, rfl⟩
    · have hi : i = ks.length := by omega
      subst hi
      rw [List.drop_length] at hcomp
      cases hcomp
      rw [List.append_nil] at *
      refine .inl ⟨⟨hpc, by rw [hkl]; exact Nat.le_refl _⟩, hpc, ?_⟩
      have tx : Tx Hc (upd Hc p (.dK kvs)) := Tx.mut fun xs q => by rw [hpc] at q; cases q
      refine q D vs' _ hD1 (fun a o h => ?_) (by rw [upd_ne nD]; exact hDc) (ral.mono fun _ _ => Im.im tx)
      by_cases n : a = p
      · rw [n] at h ⊢
        rw [hd1] at h
        cases h
        exact upd_same
      · rw [upd_ne n]
        exact gc _ _ (by rw [upd_ne n]; exact h)
  · rw [if_neg hz] at hr'
    cases hr'
end
end Pu

set_option Elab.async false
set_option linter.all false
set_option maxRecDepth 100000
namespace Pu
open Pu.Rp (rp)
open PySem PySem.Spec PyProof.Rows L2
/-! short names for what a program's text comes to -/
def fAdd (i j : Int) : Option Int := some (i + j)
def fSub (i j : Int) : Option Int := some (i - j)
def fMul (i j : Int) : Option Int := if mulOk i j = true then some (i * j) else none
def fDiv (i j : Int) : Option Int := if 0 < j ∧ j < 1073741824 then some (i / j) else none
def fMod (i j : Int) : Option Int := if 0 < j then some (i % j) else none
def fPow (i j : Int) : Option Int := if powOk i j = true then some (i ^ j.toNat) else none
def fNeg (i : Int) : Option Int := some (-i)
def fLt (i j : Int) : Option Bool := some (decide (i < j))
def fLe (i j : Int) : Option Bool := some (decide (i ≤ j))
def fGt (i j : Int) : Option Bool := some (decide (j < i))
def fGe (i j : Int) : Option Bool := some (decide (j ≤ i))
def fEq {A : Type} [DecidableEq A] (x y : A) : Option Bool := some (decide (x = y))
def fNe {A : Type} [DecidableEq A] (x y : A) : Option Bool := some (!decide (x = y))
def fIxT {A : Type} (x : Tl A) (i : Int) : Option A := ix x.l i
def fLen {A : Type} (x : List A) : Option Int := some (x.length : Int)
def fLenT {A : Type} (x : Tl A) : Option Int := some (x.l.length : Int)
def fLenS (x : Scr) : Option Int := some (x.l.length : Int)
def fMax (i j : Int) : Option Int := some (imax i j)
def fMin (i j : Int) : Option Int := some (imin i j)
def fSum (x : List Int) : Option Int := some x.sum
def fAny (x : List Bool) : Option Bool := some (x.any id)
def fAll (x : List Bool) : Option Bool := some (x.all id)
def fSortI (x : List Int) : Option (List Int) := some (isort x)
def fSortP (x : List (Int × Int)) : Option (List (Int × Int)) := some (psort x)
def fSortPT (x : Tl (Int × Int)) : Option (List (Int × Int)) := some (psort x.l)
def fList {A : Type} (x : List A) : Option (List A) := some x
def fListT {A : Type} (x : Tl A) : Option (List A) := some x.l
def fTuple {A : Type} (x : List A) : Option (Tl A) := some ⟨x⟩
def fPair {A B : Type} (x : A) (y : B) : Option (A × B) := some (x, y)
def fTrip {A B C : Type} (x : A) (y : B) (z : C) : Option (T3 A B C) := some ⟨x, y, z⟩
def fCons {A : Type} (x : A) (y : List A) : Option (List A) := some (x :: y)
def fCut {A : Type} (x : List A) (l h : Option Int) : Option (List A) := some (cutM x l h)
def fCutS (x : Scr) (l h : Option Int) : Option (List Int) := some (cutM x.l l h)
def fCutT {A : Type} (x : Tl A) (l h : Option Int) : Option (Tl A) := some ⟨cutM x.l l h⟩
def fStep {A : Type} (n : Nat) (x : List A) (l h : Option Int) : Option (List A) := some (stepM x l h n)
def fCat {A : Type} (x y : List A) : Option (List A) := szOk (x ++ y)
def fCatT {A : Type} (x y : Tl A) : Option (Tl A) := (szOk (x.l ++ y.l)).map Tl.mk
def fTup {A : Type} (x : List A) : Option (Tl A) := (szOk x).map Tl.mk
def fFst {A B : Type} (x : A × B) : Option A := some x.1
def fSnd {A B : Type} (x : A × B) : Option B := some x.2
def fTru {A : Type} (x : List A) : Option Bool := some (!x.isEmpty)
def fTruT {A : Type} (x : Tl A) : Option Bool := some (!x.l.isEmpty)
def fZip {A B : Type} (x : List A) (y : List B) : Option (List (A × B)) := some (x.zip y)
def fZip3 {A B C : Type} (x : List A) (y : List B) (z : List C) : Option (List (T3 A B C)) := some (zip3 x y z)
def fRng1 (j : Int) : Option (List Int) := if rgOk j = true then some (rng 0 j) else none
def fRng2 (i j : Int) : Option (List Int) := if rgOk i = true ∧ rgOk j = true then some (rng i j) else none
def fRev {A : Type} (x : List A) : Option (List A) := some x.reverse
def sins (x : Int) : List Int -> List Int
  | [] => [x]
  | y :: r => if x < y then x :: y :: r else if x = y then y :: r else y :: sins x r
/-- what sorted(set(..)) tells -/
def sset (x : List Int) : List Int := x.foldr sins []
def fSortSet (x : List Int) : Option (List Int) := if x.length ≤ 1000 then some (sset x) else none
theorem mem_sins {x k : Int} : forall {l : List Int}, k ∈ sins x l ↔ k = x ∨ k ∈ l
  | [] => by simp [sins]
  | y :: r => by
    have ih := mem_sins (x := x) (k := k) (l := r)
    unfold sins
    split
    · simp
    · split
      · rename_i h; subst h; simp
      · simp only [List.mem_cons, ih]
        constructor
        · rintro (h | h | h)
          · exact .inr (.inl h)
          · exact .inl h
          · exact .inr (.inr h)
        · rintro (h | h | h)
          · exact .inr (.inl h)
          · exact .inl h
          · exact .inr (.inr h)
theorem mem_sset {k : Int} : forall {x : List Int}, k ∈ sset x ↔ k ∈ x
  | [] => by simp [sset]
  | y :: r => by
    have ih := mem_sset (k := k) (x := r)
    show k ∈ sins y (sset r) ↔ _
    rw [mem_sins, ih, List.mem_cons]
theorem pw_sins {x : Int} : forall {l : List Int}, l.Pairwise (· < ·) -> (sins x l).Pairwise (· < ·)
  | [], _ => by simp [sins]
  | y :: r, h => by
    have h' := List.pairwise_cons.mp h
    unfold sins
    split
    · rename_i hl
      refine List.pairwise_cons.mpr ⟨fun z hz => ?_, h⟩
      rcases List.mem_cons.mp hz with rfl | hz
      · exact hl
      · exact Int.lt_trans hl (h'.1 z hz)
    · split
      · exact h
      · refine List.pairwise_cons.mpr ⟨fun z hz => ?_, pw_sins h'.2⟩
        rcases mem_sins.mp hz with rfl | hz
        · omega
        · exact h'.1 z hz
theorem pw_sset : forall x : List Int, (sset x).Pairwise (· < ·)
  | [] => .nil
  | y :: r => pw_sins (pw_sset r)
theorem lt_uniq {xs ys : List Int} (h1 : xs.Pairwise (· < ·)) (h2 : ys.Pairwise (· < ·)) (hm : forall k, k ∈ xs ↔ k ∈ ys) : xs = ys :=
  pw_uniq ((List.perm_ext_iff_of_nodup (h1.imp fun h => Int.ne_of_lt h) (h2.imp fun h => Int.ne_of_lt h)).mpr hm) (h1.imp fun h => Int.le_of_lt h) (h2.imp fun h => Int.le_of_lt h)
def oComp {I A : Type} (c : I -> Option Bool) (f : I -> Option A) (mx : Option (List I)) : Option (List A) := mx.bind fun xs => (lim 100000 xs).bind (comp c f)
def oChain {A B C : Type} (f : A -> B -> Option Bool) (g : B -> C -> Option Bool) (ma : Option A) (mb : Option B) (mc : Option C) : Option Bool :=
  ma.bind fun a => mb.bind fun b => (f a b).bind fun k => if k = true then mc.bind fun c => g b c else some false
def fYes {A : Type} (_ : A) : Option Bool := some true
theorem itt {A : Type} {a b r : A} (h : (if true = true then a else b) = r) : a = r := h
theorem itf {A : Type} {a b r : A} (h : (if false = true then a else b) = r) : b = r := h
section
variable {K : Fg} {A B C D : Type} [Rp A] [Rp B] [Rp C] [Rp D]
variable {σ : L2.St} {G G' H H' : Hp} {L L1 L2' : Led} {M : List Addr} {te ta tb tc td : TE} {tt tu : TT} {X : Ends} {t1 t2 u : TS} {i : Nat} {ma : Option A} {mb : Option B} {mc : Option C} {mi mj : Option Int}
theorem x_add (ha : EvB K ta σ H mi) (hb : EvB K tb σ H mj) : EvB K (tOp (rI0 fun i j => .int (i + j)) ta tb) σ H (o2 fAdd mi mj) := eb_op rb_add ha hb
theorem x_sub (ha : EvB K ta σ H mi) (hb : EvB K tb σ H mj) : EvB K (tOp (rI0 fun i j => .int (i - j)) ta tb) σ H (o2 fSub mi mj) := eb_op rb_sub ha hb
theorem x_mul (ha : EvB K ta σ H mi) (hb : EvB K tb σ H mj) : EvB K (tOp (rI CMul fun i j => .int (i * j)) ta tb) σ H (o2 fMul mi mj) := eb_op rb_mul ha hb
theorem x_div (ha : EvB K ta σ H mi) (hb : EvB K tb σ H mj) : EvB K (tOp (rI CDiv fun i j => .int (i / j)) ta tb) σ H (o2 fDiv mi mj) := eb_op rb_fdiv ha hb
theorem x_mod (ha : EvB K ta σ H mi) (hb : EvB K tb σ H mj) : EvB K (tOp (rI (fun _ j => 0 < j) fun i j => .int (i % j)) ta tb) σ H (o2 fMod mi mj) := eb_op rb_mod ha hb
theorem x_pow (ha : EvB K ta σ H mi) (hb : EvB K tb σ H mj) : EvB K (tOp (rI CPow fun i j => .int (i ^ j.toNat)) ta tb) σ H (o2 fPow mi mj) := eb_op rb_pow ha hb
theorem x_neg (ha : EvB K ta σ H mi) : EvB K (tUn (rU fun i => .int (-i)) ta) σ H (o1 fNeg mi) := eb_un rb_neg ha
theorem x_lt (ha : EvB K ta σ H mi) (hb : EvB K tb σ H mj) : EvB K (tOp (rI0 fun i j => .bl (decide (i < j))) ta tb) σ H (o2 fLt mi mj) := eb_op rb_lt ha hb
theorem x_le (ha : EvB K ta σ H mi) (hb : EvB K tb σ H mj) : EvB K (tOp (rI0 fun i j => .bl (decide (i ≤ j))) ta tb) σ H (o2 fLe mi mj) := eb_op rb_le ha hb
theorem x_gt (ha : EvB K ta σ H mi) (hb : EvB K tb σ H mj) : EvB K (tOp (rI0 fun i j => .bl (decide (j < i))) ta tb) σ H (o2 fGt mi mj) := eb_op rb_gt ha hb
theorem x_ge (ha : EvB K ta σ H mi) (hb : EvB K tb σ H mj) : EvB K (tOp (rI0 fun i j => .bl (decide (j ≤ i))) ta tb) σ H (o2 fGe mi mj) := eb_op rb_ge ha hb
theorem x_eq [DecidableEq A] [Eqd A] {mb : Option A} (h : Eqd.dep A ≤ 64) (ha : EvB K ta σ H ma) (hb : EvB K tb σ H mb) : EvB K (tOp (rEqD K) ta tb) σ H (o2 fEq ma mb) := eb_op (rb_eq h) ha hb
theorem x_ne [DecidableEq A] [Eqd A] {mb : Option A} (h : Eqd.dep A ≤ 64) (ha : EvB K ta σ H ma) (hb : EvB K tb σ H mb) : EvB K (tOp (rNeD K) ta tb) σ H (o2 fNe ma mb) := eb_op (rb_ne h) ha hb
theorem x_lele {mk : Option Int} (ha : EvB K ta σ H mi) (hb : EvB K tb σ H mj) (hc : EvB K tc σ H mk) : EvB K (tChain (rI0 fun i j => .bl (decide (i ≤ j))) (rI0 fun i j => .bl (decide (i ≤ j))) ta tb tc) σ H (oChain fLe fLe mi mj mk) := eb_chain rb_le rb_le ha hb hc
theorem x_ltle {mk : Option Int} (ha : EvB K ta σ H mi) (hb : EvB K tb σ H mj) (hc : EvB K tc σ H mk) : EvB K (tChain (rI0 fun i j => .bl (decide (i < j))) (rI0 fun i j => .bl (decide (i ≤ j))) ta tb tc) σ H (oChain fLt fLe mi mj mk) := eb_chain rb_lt rb_le ha hb hc
theorem x_ixL {ma : Option (List A)} (ha : EvB K ta σ H ma) (hb : EvB K tb σ H mj) : EvB K (tOp (rIxL K) ta tb) σ H (o2 ix ma mj) := eb_op rb_ixL ha hb
theorem x_ixT {ma : Option (Tl A)} (ha : EvB K ta σ H ma) (hb : EvB K tb σ H mj) : EvB K (tOp (rIxT K) ta tb) σ H (o2 fIxT ma mj) := eb_op rb_ixT ha hb
theorem x_fst {ma : Option (A × B)} (ha : EvB K ta σ H ma) : EvB K (tOp (rIxT K) ta (tC (.int 0))) σ H (o1 fFst ma) := eb_fst rfl ha
theorem x_snd {ma : Option (A × B)} (ha : EvB K ta σ H ma) : EvB K (tOp (rIxT K) ta (tC (.int 1))) σ H (o1 fSnd ma) := eb_snd rfl ha
theorem x_lenL {ma : Option (List A)} (ha : EvB K ta σ H ma) : EvB K (tCB (fun xs H Q => ∃ p ys, xs = [.ref p] ∧ (SqL K H p ys ∨ SqT K H p ys) ∧ Q (.int ys.length) H) (tCons ta tNil)) σ H (o1 fLen ma) := eb_lenL ha
theorem x_lenT {ma : Option (Tl A)} (ha : EvB K ta σ H ma) : EvB K (tCB (fun xs H Q => ∃ p ys, xs = [.ref p] ∧ (SqL K H p ys ∨ SqT K H p ys) ∧ Q (.int ys.length) H) (tCons ta tNil)) σ H (o1 fLenT ma) := eb_lenT ha
theorem x_lenS {ma : Option Scr} (ha : EvB K ta σ H ma) : EvB K (tCB (fun xs H Q => ∃ p ys, xs = [.ref p] ∧ (SqL K H p ys ∨ SqT K H p ys) ∧ Q (.int ys.length) H) (tCons ta tNil)) σ H (o1 fLenS ma) := eb_lenS ha
theorem x_max (ha : EvB K ta σ H mi) (hb : EvB K tb σ H mj) : EvB K (tCB (fun xs H Q => ∃ i j, xs = [.int i, .int j] ∧ Q (.int (if j > i then j else i)) H) (tCons ta (tCons tb tNil))) σ H (o2 fMax mi mj) := eb_max2 ha hb
theorem x_min (ha : EvB K ta σ H mi) (hb : EvB K tb σ H mj) : EvB K (tCB (fun xs H Q => ∃ i j, xs = [.int i, .int j] ∧ Q (.int (if j < i then j else i)) H) (tCons ta (tCons tb tNil))) σ H (o2 fMin mi mj) := eb_min2 ha hb
theorem x_sum {ma : Option (List Int)} (ha : EvB K ta σ H ma) : EvB K (tCB (rSum K) (tCons ta tNil)) σ H (o1 fSum ma) := eb_sum ha
theorem x_any {ma : Option (List Bool)} (ha : EvB K ta σ H ma) : EvB K (tCB (rAny K) (tCons ta tNil)) σ H (o1 fAny ma) := eb_any ha
theorem x_all {ma : Option (List Bool)} (ha : EvB K ta σ H ma) : EvB K (tCB (rAll K) (tCons ta tNil)) σ H (o1 fAll ma) := eb_all ha
theorem x_sortI {ma : Option (List Int)} (ha : EvB K ta σ H ma) : EvN K (tCB (rSortedI K) (tCons ta tNil)) σ H (o1 fSortI ma) := en_sorted ha
theorem x_sortP {ma : Option (List (Int × Int))} (ha : EvB K ta σ H ma) : EvN K (tCB (rSortE K) (tCons ta tNil)) σ H (o1 fSortP ma) :=
  call1L (fun H v x c r hc Q q => by
    cases hc
    obtain ⟨p, vs, rfl, h2, h3⟩ := r
    exact ⟨p, vs, x, rfl, .inl h2, h3, fun ys p' hp r => q p' ys hp r⟩) ha
theorem x_sortPT {ma : Option (Tl (Int × Int))} (ha : EvB K ta σ H ma) : EvN K (tCB (rSortE K) (tCons ta tNil)) σ H (o1 fSortPT ma) :=
  call1L (fun H v x c r hc Q q => by
    cases hc
    obtain ⟨p, vs, rfl, h2, h3⟩ := r
    exact ⟨p, vs, x.l, rfl, .inr h2, h3, fun ys p' hp r => q p' ys hp r⟩) ha
/-- sorted(set(xs)) -/
theorem x_sortSet {w : World} {ma : Option (List Int)} (ha : EvB K ta σ H ma) : EvN K (tCB (rSortS w) (tCons (tCB (rSetL1 w) (tCons ta tNil)) tNil)) σ H (o1 fSortSet ma) := fun x hx H1 e Q q => by
  obtain ⟨a, e1, e3⟩ := o1s hx
  unfold fSortSet at e3
  by_cases hz : a.length ≤ 1000
  · rw [if_pos hz] at e3
    cases e3
    refine ha a e1 H1 e _ fun v H2 g2 r2 => ?_
    obtain ⟨p, vs, rfl, h2, h3⟩ := r2
    rw [al_int h3] at h2
    refine ⟨p, a, rfl, h2, hz, fun s c hs hc => ⟨s, _, c, rfl, upd_same, fun ns p' hp1 hm hp => ?_⟩⟩
    have gs := Gx.new (o := SetO w s (fun j => decide (j ∈ a)) c) hs
    have e5 : ns = sset a := lt_uniq hp1 (pw_sset a) fun k => by rw [hm k, decide_eq_true_iff, mem_sset]
    subst e5
    exact q p' _ _ (g2.back (gs.back hp)) ((g2.trans gs).trans (Gx.new hp)) upd_same (int_al _)
  · rw [if_neg hz] at e3; cases e3
theorem x_list {ma : Option (List A)} (ha : EvB K ta σ H ma) : EvN K (tCB (fun xs H Q => ∃ p ys, xs = [.ref p] ∧ (SqL K H p ys ∨ SqT K H p ys) ∧ ∀ l, H l = none → Q (.ref l) (upd H l (.lst ys))) (tCons ta tNil)) σ H (o1 fList ma) := en_list ha
theorem x_listT {ma : Option (Tl A)} (ha : EvB K ta σ H ma) : EvN K (tCB (fun xs H Q => ∃ p ys, xs = [.ref p] ∧ (SqL K H p ys ∨ SqT K H p ys) ∧ ∀ l, H l = none → Q (.ref l) (upd H l (.lst ys))) (tCons ta tNil)) σ H (o1 fListT ma) := en_listT ha
theorem x_tuple {ma : Option (List A)} (ha : EvB K ta σ H ma) : EvB K (tCB (fun xs H Q => ∃ p ys, xs = [.ref p] ∧ ((SqL K H p ys ∧ ∀ l, H l = none → Q (.ref l) (upd H l (.tup ys))) ∨ (SqT K H p ys ∧ Q (.ref p) H))) (tCons ta tNil)) σ H (o1 fTuple ma) := eb_tuple ha
theorem x_pair (ha : EvB K ta σ H ma) (hb : EvB K tb σ H mb) : EvB K (tTup (tCons ta (tCons tb tNil))) σ H (o2 fPair ma mb) := eb_tup2 ha hb
theorem x_trip (ha : EvB K ta σ H ma) (hb : EvB K tb σ H mb) (hc : EvB K tc σ H mc) : EvB K (tTup (tCons ta (tCons tb (tCons tc tNil)))) σ H (o3 fTrip ma mb mc) := eb_tup3 ha hb hc
theorem l_nil : EvL (A := A) K tNil σ H (some []) := el_nil
theorem l_cons {tr : TA} {mr : Option (List A)} (ha : EvB K ta σ H ma) (hr : EvL K tr σ H mr) : EvL K (tCons ta tr) σ H (o2 fCons ma mr) := el_cons ha hr
theorem x_lst {tr : TA} {mr : Option (List A)} (h : EvL K tr σ H mr) : EvN K (tLst tr) σ H (o1 szOk mr) := en_lst h
theorem x_tup {tr : TA} {mr : Option (List A)} (h : EvL K tr σ H mr) : EvB K (tTup tr) σ H (o1 fTup mr) := eb_tupl h
theorem x_cut {tl th : TO} {ma : Option (List A)} {ml mh : Option (Option Int)} (ha : EvB K te σ H ma) (hl : EvP tl σ H ml) (hh : EvP th σ H mh) : EvN K (tSl (rSlL K) te tl th) σ H (o3 fCut ma ml mh) := en_sl ha hl hh
theorem x_cutS {tl th : TO} {ma : Option Scr} {ml mh : Option (Option Int)} (ha : EvB K te σ H ma) (hl : EvP tl σ H ml) (hh : EvP th σ H mh) : EvN K (tSl (rSlL K) te tl th) σ H (o3 fCutS ma ml mh) := en_slS ha hl hh
theorem x_cutT {tl th : TO} {ma : Option (Tl A)} {ml mh : Option (Option Int)} (ha : EvB K te σ H ma) (hl : EvP tl σ H ml) (hh : EvP th σ H mh) : EvB K (tSl (rSlA K) te tl th) σ H (o3 fCutT ma ml mh) := eb_slT ha hl hh
theorem x_step {tl th : TO} {ma : Option (List A)} {ml mh : Option (Option Int)} {n : Nat} (ha : EvB K te σ H ma) (hl : EvP tl σ H ml) (hh : EvP th σ H mh) : EvN K (tSl3 te tl th n) σ H (o3 (fStep n) ma ml mh) := en_sl3 ha hl hh
theorem x_rev {ma : Option (List A)} (ha : EvB K ta σ H ma) : EvN K (tRevL K ta) σ H (o1 fRev ma) := fun x hx H1 e Q q => by
  obtain ⟨a, e1, e3⟩ := o1s hx
  cases e3
  refine ha a e1 H1 e _ fun v H2 g2 r2 => ?_
  obtain ⟨p, vs, rfl, h2, h3⟩ := r2
  exact ⟨p, vs, rfl, SqL.of h2, fun p' hp => q p' _ _ (g2.back hp) (g2.trans (Gx.new hp)) upd_same (h3.rev.mono fun _ _ => Rp.mono (Gx.new hp))⟩
theorem x_cat {ma mb : Option (List A)} (ha : EvB K ta σ H ma) (hb : EvB K tb σ H mb) : EvN K (tOp rCat ta tb) σ H (o2 fCat ma mb) := en_cat ha hb
theorem x_catT {ma mb : Option (Tl A)} (ha : EvB K ta σ H ma) (hb : EvB K tb σ H mb) : EvB K (tOp (rCatA K) ta tb) σ H (o2 fCatT ma mb) := fun x hx H1 e Q q => by
  obtain ⟨a, b, e1, e2, e3⟩ := o2s hx
  obtain ⟨y, e4, e5⟩ := Option.map_eq_some_iff.mp e3
  obtain ⟨rfl, hz⟩ := szOks e4
  subst e5
  refine ha a e1 H1 e _ fun v H2 g2 r2 => hb b e2 H2 (e.trans g2) _ fun w H3 g3 r3 => ?_
  obtain ⟨p, vs, rfl, h2, h3⟩ := Rp.mono g3 r2
  obtain ⟨p2, vs2, rfl, h4, h5⟩ := r3
  refine ⟨p, p2, vs, vs2, rfl, rfl, SqT.of h2, SqT.of h4, ?_, fun h0 => q _ _ (g2.trans g3) ⟨p2, vs2, rfl, h4, ?_⟩, fun _ h0 => q _ _ (g2.trans g3) ⟨p, vs, rfl, h2, ?_⟩, fun _ _ p' hp => q _ _ ((g2.trans g3).trans (Gx.new hp)) ⟨p', _, rfl, upd_same, (h3.app h5).mono fun _ _ => Rp.mono (Gx.new hp)⟩⟩
  · rw [h3.len, h5.len, ← List.length_append]; exact Evl.sz_of hz
  · have := h3.app h5
    rw [h0] at this
    exact this
  · have := h3.app h5
    rw [h0, List.append_nil] at this
    exact this
theorem t_tru {ma : Option (List A)} (ha : EvB K ta σ H ma) : EvT (fun σ H Q => ta σ H fun x H' => ∃ k, TruV K x H' k ∧ Q k H') σ H (o1 fTru ma) := fun b hb H1 e Q q => by
  obtain ⟨a, e1, e3⟩ := o1s hb
  cases e3
  refine ha a e1 H1 e _ fun v H2 g2 r2 => ?_
  obtain ⟨p, vs, rfl, h2, h3⟩ := r2
  refine ⟨_, .inl ⟨vs, SqL.of h2, rfl⟩, ?_⟩
  have e6 : (!vs.isEmpty) = !a.isEmpty := by
    have := h3.len
    cases vs <;> cases a <;> first | rfl | (simp at this)
  rw [e6]
  exact q H2 g2
theorem t_truT {ma : Option (Tl A)} (ha : EvB K ta σ H ma) : EvT (fun σ H Q => ta σ H fun x H' => ∃ k, TruV K x H' k ∧ Q k H') σ H (o1 fTruT ma) := fun b hb H1 e Q q => by
  obtain ⟨a, e1, e3⟩ := o1s hb
  cases e3
  refine ha a e1 H1 e _ fun v H2 g2 r2 => ?_
  obtain ⟨p, vs, rfl, h2, h3⟩ := r2
  refine ⟨_, .inr (.inl ⟨vs, SqT.of h2, rfl⟩), ?_⟩
  have e6 : (!vs.isEmpty) = !a.l.isEmpty := by
    have := h3.len
    cases e7 : a.l <;> cases vs <;> first | rfl | (rw [e7] at this; simp at this)
  rw [e6]
  exact q H2 g2
theorem i_zip {ma : Option (List A)} {mb : Option (List B)} (h : EvS K ta σ M H ma) (h' : EvS K tb σ M H mb) : EvI K (iZip K (tCons ta (tCons tb tNil))) σ M H (o2 fZip ma mb) := ei_zip h h'
theorem i_zip3 {ma : Option (List A)} {mb : Option (List B)} {mc : Option (List C)} (h : EvS K ta σ M H ma) (h' : EvS K tb σ M H mb) (h2 : EvS K tc σ M H mc) : EvI K (iZip3 K (tCons ta (tCons tb (tCons tc tNil)))) σ M H (o3 fZip3 ma mb mc) := ei_zip3 h h' h2
theorem i_rng1 (h : EvB K ta σ H mi) : EvI K (iRng1 (tCons ta tNil)) σ M H (o1 fRng1 mi) := ei_rng1 h
theorem i_rng2 (h : EvB K ta σ H mi) (h' : EvB K tb σ H mj) : EvI K (iRng2 (tCons ta (tCons tb tNil))) σ M H (o2 fRng2 mi mj) := ei_rng2 h h'
theorem i_list {ma : Option (List A)} (h : EvS K ta σ M H ma) : EvI K (iList K ta) σ M H ma := ei_list h
theorem i_tup {ma : Option (Tl A)} (h : EvS K ta σ M H ma) : EvI K (iTup K ta) σ M H (ma.map Tl.l) := ei_tup h
theorem i_enum {ma : Option (List A)} (h : EvS K ta σ M H ma) : EvI K (iEnum K (tCons ta tNil)) σ M H (ma.map enum) := ei_enum h
/-- a new list is not among what may change -/
theorem es_n [Im A] {ma : Option (List A)} (h : EvN K te σ H ma) (hM : forall p, p ∈ M -> exists o, H p = some o ∧ Mu o) : EvS K te σ M H ma := fun x hx H1 e1 Q q => h x hx H1 e1 Q fun p vs H2 hp g h2 r => by
  have np : p ∉ M := fun z => by
    obtain ⟨o, ho, _⟩ := hM p z
    rw [e1 _ _ ho] at hp; cases hp
  refine q (.ref p) H2 g ⟨p, vs, rfl, (mns_out np).trans h2, r.mono fun _ _ => Im.im fun b xs hb => ?_⟩
  have z : b ∉ M := fun y => by
    obtain ⟨o, ho, mu⟩ := hM b y
    have := (e1.trans g) b o ho
    rw [this] at hb
    rw [Option.some.inj hb] at mu
    exact mu
  exact (mns_out z).trans hb
theorem x_lc {I : Type} [Rp I] [Im A] {wi : TI} {g : TG} {b : Bd I} {vs : List Nat} {mx : Option (List I)} {c : I -> Option Bool} {f : I -> Option A} (hi : EvI K wi σ [] H mx) (hg : TgOk K g b) (hb : BdIn b vs)
    (ht : forall x σ2 H', Gx H H' -> b x (wipe σ vs) H' σ2 -> EvT tt σ2 H' (c x)) (he : forall x σ2 H', Gx H H' -> b x (wipe σ vs) H' σ2 -> EvB K te σ2 H' (f x)) : EvN K (tLc wi g tt te vs) σ H (oComp c f mx) := en_lc hi hg hb ht he
theorem x_lcK [Im A] {g : TG} {b : Bd Int} {vs : List Nat} {p : Addr} {kvs : List (Key × V)} {F : V -> B -> Prop} {d : List (Int × B)} {c : Int -> Option Bool} {f : Int -> Option A} (hs : σ[i]? = some (some (.ref p))) (hd : H p = some (.dK kvs)) (hr : Da F kvs d) (hg : TgOk K g b) (hb : BdIn b vs)
    (ht : forall x σ2 H', Gx (mns H [p]) H' -> b x (wipe σ vs) H' σ2 -> EvT tt σ2 H' (c x)) (he : forall x σ2 H', Gx (mns H [p]) H' -> b x (wipe σ vs) H' σ2 -> EvB K te σ2 H' (f x)) : EvN K (tLockE (tLc (iKeys (tVar i)) g tt te vs)) σ H (oComp c f (some (d.map (·.1)))) := en_lcK hs hd hr hg hb ht he
theorem t_yes : EvT tYes σ H (some true) := fun b hb H1 e Q q => by
  cases hb
  exact q H1 Gx.rfl
end
end Pu

set_option Elab.async false
set_option linter.all false
set_option maxRecDepth 100000
namespace Pu
open Pu.Rp (rp)
open PySem PySem.Spec PyProof.Rows L2
/-! helpers for printed proofs -/
def fApp {A : Type} (xs : List A) (y : A) : Option (List A) := if xs.length < 100000 then some (xs ++ [y]) else none
theorem fApps {A : Type} {xs zs : List A} {y : A} (h : fApp xs y = some zs) : zs = xs ++ [y] ∧ xs.length < 100000 := by
  unfold fApp at h
  split at h
  · cases h; exact ⟨rfl, by assumption⟩
  · cases h
def fExt {A : Type} (xs ys : List A) : Option (List A) := if xs.length + ys.length ≤ 100000 then some (xs ++ ys) else none
theorem fExts {A : Type} {xs zs ys : List A} (h : fExt xs ys = some zs) : zs = xs ++ ys ∧ xs.length + ys.length ≤ 100000 := by
  unfold fExt at h
  split at h
  · cases h; exact ⟨rfl, by assumption⟩
  · cases h
def fSetL {A : Type} (xs : List A) (i : Int) (y : A) : Option (List A) := (ixN xs.length i).map fun j => xs.set j y
theorem fSets {A : Type} {xs zs : List A} {i : Int} {y : A} (h : fSetL xs i y = some zs) : exists j, ixN xs.length i = some j ∧ zs = xs.set j y := by
  obtain ⟨j, h1, h2⟩ := Option.map_eq_some_iff.mp h
  exact ⟨j, h1, h2.symm⟩
/-- the last one, and what is ahead of it -/
def fPop {A : Type} (xs : List A) : Option (A × List A) := (xs[xs.length - 1]?).map fun x => (x, xs.dropLast)
theorem fPops {A : Type} {xs : List A} {r : A × List A} (h : fPop xs = some r) : xs[xs.length - 1]? = some r.1 ∧ r.2 = xs.dropLast := by
  obtain ⟨x, h1, h2⟩ := Option.map_eq_some_iff.mp h
  subst h2
  exact ⟨h1, rfl⟩
def fDput {B : Type} (d : List (Int × B)) (k : Int) (x : B) : Option (List (Int × B)) := if d.length < 100000 then some (dput d k x) else none
theorem fDputs {B : Type} {d r : List (Int × B)} {k : Int} {x : B} (h : fDput d k x = some r) : r = dput d k x ∧ d.length < 100000 := by
  unfold fDput at h
  split at h
  · cases h; exact ⟨rfl, by assumption⟩
  · cases h
theorem At.hM {G H : Hp} {L : Led} {M : List Addr} (a : At G H L) (h : forall p, p ∈ M -> p ∈ L.map (·.1)) : forall p, p ∈ M -> G p = none := fun p hp => by
  obtain ⟨o, ho, e⟩ := List.mem_map.mp (h p hp)
  rw [← e]
  exact (a.led o ho).2.1
theorem At.hMu {G H : Hp} {L : Led} {M : List Addr} (a : At G H L) (h : forall p, p ∈ M -> p ∈ L.map (·.1)) : forall p, p ∈ M -> exists o, H p = some o ∧ Mu o := fun p hp => by
  obtain ⟨o, ho, e⟩ := List.mem_map.mp (h p hp)
  rw [← e]
  exact ⟨o.2, (a.led o ho).1, (a.led o ho).2.2⟩
theorem At.mn {G H : Hp} {L : Led} {M : List Addr} (a : At G H L) (h : forall p, p ∈ M -> p ∈ L.map (·.1)) : Gx G (mns H M) := mns_of a.ex (a.hM h)
section
variable {K : Fg} {A : Type} [Rp A] {G H : Hp} {L : Led} {M : List Addr} {σ : L2.St} {i : Nat}
theorem es_mv {p : Addr} {vs : List V} {xs : List A} (hs : σ[i]? = some (some (.ref p))) (a : At G H L) (hp : (p, HO.lst vs) ∈ L) (r : Al (rp K G) vs xs) (h : forall p, p ∈ M -> p ∈ L.map (·.1)) (hn : p ∉ M) : EvS K (tVar i) σ M H (some xs) := fun x hx H1 e1 Q q => by
  cases hx
  refine ⟨_, hs, q _ H1 Gx.rfl ⟨p, vs, rfl, (mns_out hn).trans (e1 _ _ (a.led _ hp).1), r.mono fun _ _ => Rp.mono ((a.mn h).trans (mns_mono e1))⟩⟩
end
end Pu
namespace Pu
open Pu.Rp (rp)
open PySem PySem.Spec PyProof.Rows L2
theorem finr {S R : Type} {k : S -> Option R} {res : S ⊕ R} {r r' : R} (h : res = .inr r) (hm : fin k res = some r') : r = r' := by
  subst h
  exact Option.some.inj hm
theorem brar {S S' R : Type} {k : S -> Option (S' ⊕ R)} {res : S ⊕ R} {r : R} {o : S' ⊕ R} (h : res = .inr r) (hm : braR k res = some o) : o = .inr r := by
  subst h
  exact (Option.some.inj hm).symm
theorem finl {S R : Type} {k : S -> Option R} {s : S} {r : Option R} (hm : fin k (.inl s) = r) : k s = r := hm
theorem bral {S S' R : Type} {k : S -> Option (S' ⊕ R)} {s : S} {r : Option (S' ⊕ R)} (hm : braR k (.inl s) = r) : k s = r := hm
theorem al_dl {A : Type} {F : V -> A -> Prop} {vs : List V} {xs : List A} (q : Al F vs xs) : Al F vs.dropLast xs.dropLast := by
  rw [List.dropLast_eq_take, List.dropLast_eq_take, q.len]
  exact q.take _
section
variable {K : Fg} {A B : Type} [Rp A] [Rp B] {G H : Hp} {L : Led} {M : List Addr} {σ : L2.St} {te ta : TE} {t1 u : TS} {X : Ends} {j i : Nat}
/-- a list whose items stand as they stood ahead of the loop -/
def WkL (K : Fg) (J : It) (xs : List A) (S : Hp) : Prop :=
  (forall i H, i < xs.length -> Gx S H -> J.go i H) ∧ (forall H, Gx S H -> J.stop xs.length H) ∧ (forall i H v H' x, Gx S H -> xs[i]? = some x -> J.yld i H v H' -> H' = H ∧ rp K S v x)
def EvJ (K : Fg) (wi : TI) (σ : L2.St) (M : List Addr) (H : Hp) (m : Option (List A)) : Prop :=
  forall xs, m = some xs -> forall H1, Gx H H1 -> forall R : It -> Hp -> Prop, (forall J H2, Gx H1 H2 -> WkL K J xs (mns H2 M) -> R J H2) -> wi σ H1 R
theorem j_list {ma : Option (List A)} (h : EvS K ta σ M H ma) : EvJ K (iList K ta) σ M H ma := fun xs hx H1 e R q =>
  h xs hx H1 e _ fun v H2 g r => by
    obtain ⟨a, vs, rfl, h2, h3⟩ := r
    refine ⟨a, rfl, ⟨vs, SqL.of (mns_ex _ _ h2)⟩, q _ H2 g ⟨fun i H hi e => ?_, fun H e => ⟨vs, SqL.of (e _ _ h2), by rw [h3.len]; exact Nat.le_refl _⟩, fun i H v H' x e hx y => ?_⟩⟩
    · obtain ⟨v, hv, _⟩ := h3.get (List.getElem?_eq_getElem hi)
      exact ⟨vs, v, SqL.of (e _ _ h2), hv⟩
    · obtain ⟨rfl, y⟩ := y
      obtain ⟨w, hw, rw'⟩ := h3.get hx
      have q := y vs (SqL.of (e _ _ h2))
      rw [hw] at q
      cases q
      exact ⟨rfl, rw'⟩
theorem st_forJ {wi : TI} {g : TG} {mx : Option (List A)} {xs : List A} (hi : EvJ K wi σ M H mx) (hx : mx = some xs)
    (k : forall J H2, Gx H H2 -> WkL K J xs (mns H2 M) -> exists W : Nat -> Nat -> L2.St -> Hp -> Prop, (exists m, W 0 m σ H2) ∧ forall i m σ H, W i m σ H ->
      (J.stop i H ∧ u X σ H) ∨ (J.go i H ∧ exists N : L2.St -> Hp -> Prop, (forall σ' H', N σ' H' -> exists m', m' < m ∧ W (i + 1) m' σ' H') ∧ forall x H', J.yld i H x H' -> g x σ H' fun σ2 H2 => t1 { X with nx := N, ct := N, bk := u X } σ2 H2)) : tSeq (tFor wi g t1) u X σ H :=
  hi xs hx H Gx.rfl _ fun J H2 e wk => k J H2 e wk
theorem fold_runJ {S : Type} {J : It} {xs : List A} {Sh : Hp} {f : S -> A -> Option S} {s0 s1 : S} {E0 : Ends} {H2 : Hp} {E1 : L2.St -> Hp -> Prop} (wk : WkL K J xs Sh) (hl : foldO f s0 xs = some s1)
    (In : S -> L2.St -> Hp -> Prop) (hS : forall s σ' H', In s σ' H' -> Gx Sh H') (h0 : In s0 σ H2)
    (hs : forall s x s' σ' H' v, x ∈ xs -> f s x = some s' -> In s σ' H' -> rp K Sh v x -> t1 { E0 with nx := In s', ct := In s', bk := E1 } (σ'.set j (some v)) H')
    (hd : forall σ' H', In s1 σ' H' -> E1 σ' H') :
    exists W : Nat -> Nat -> L2.St -> Hp -> Prop, (exists m, W 0 m σ H2) ∧ forall i m σ H, W i m σ H ->
      (J.stop i H ∧ E1 σ H) ∨ (J.go i H ∧ exists N : L2.St -> Hp -> Prop, (forall σ' H', N σ' H' -> exists m', m' < m ∧ W (i + 1) m' σ' H') ∧ forall x H', J.yld i H x H' -> gName j x σ H' fun σ2 H2 => t1 { E0 with nx := N, ct := N, bk := E1 } σ2 H2) := by
  refine ⟨fun i m σ H => m = xs.length - i ∧ i ≤ xs.length ∧ exists s, In s σ H ∧ foldO f s (xs.drop i) = some s1, ⟨xs.length, by simp, Nat.zero_le _, s0, h0, hl⟩, ?_⟩
  rintro i m σ' Hc ⟨rfl, hle, s, hin, hm⟩
  have gS := hS _ _ _ hin
  obtain ⟨go, stop, yld⟩ := wk
  by_cases hlt : i < xs.length
  · rw [List.drop_eq_getElem_cons hlt] at hm
    cases hf : f s xs[i] with
    | none => unfold foldO at hm; rw [hf] at hm; cases hm
    | some s' =>
      have hm' : foldO f s' (xs.drop (i + 1)) = some s1 := by
        unfold foldO at hm; rw [hf] at hm; exact hm
      refine .inr ⟨go i Hc hlt gS, In s', fun σ3 H3 hN => ⟨xs.length - (i + 1), by omega, rfl, hlt, s', hN, hm'⟩, fun v Hy hy => ?_⟩
      obtain ⟨rfl, ry⟩ := yld i Hc v Hy _ gS (List.getElem?_eq_getElem hlt) hy
      exact hs s xs[i] s' σ' _ v (List.getElem_mem hlt) hf hin ry
  · have hi : i = xs.length := by omega
    subst hi
    rw [List.drop_length] at hm
    cases hm
    exact .inl ⟨stop Hc gS, hd σ' Hc hin⟩
/-- a comprehension whose elements are new lists -/
theorem x_lcL {I : Type} [Rp I] [Im A] {wi : TI} {g : TG} {b : Bd I} {vs : List Nat} {mx : Option (List I)} {c : I -> Option Bool} {f : I -> Option (List A)} {tt : TT} (hi : EvI K wi σ [] H mx) (hg : TgOk K g b) (hb : BdIn b vs)
    (ht : forall x σ2 H', Gx H H' -> b x (wipe σ vs) H' σ2 -> EvT tt σ2 H' (c x)) (he : forall x σ2 H', Gx H H' -> b x (wipe σ vs) H' σ2 -> EvN K te σ2 H' (f x)) : EvB K (tLc wi g tt te vs) σ H (oComp c f mx) := fun r hr H1 e1 Q q => by
  cases mx with
  | none => cases hr
  | some xs =>
    have hr' : (lim 100000 xs).bind (comp c f) = some r := hr
    unfold lim at hr'
    by_cases hz : xs.length ≤ 100000
    · rw [if_pos hz] at hr'
      have hr2 : comp c f xs = some r := hr'
      refine hi xs rfl H1 e1 _ fun J H2 e2 wk => ?_
      rw [mns_nil] at wk
      intro D hD
      obtain ⟨go, stop, yld⟩ := wk
      refine ⟨fun i m Hc => m = xs.length - i ∧ i ≤ xs.length ∧ Gx H2 Hc ∧ exists vs' ys r', Hc D = some (.lst vs') ∧ Al (rp K (mns Hc [D])) vs' ys ∧ ys.length ≤ i ∧ comp c f (xs.drop i) = some r' ∧ r = ys ++ r',
        ⟨xs.length, by simp, Nat.zero_le _, Gx.new hD, [], [], r, upd_same, trivial, Nat.le_refl _, hr2, rfl⟩, ?_⟩
      rintro i m Hc ⟨rfl, hle, gc, vs', ys, r', hDc, ral, hlen, hcomp, rfl⟩
      by_cases hlt : i < xs.length
      · refine .inr ⟨go i Hc hlt gc, fun Hn => i + 1 ≤ xs.length ∧ Gx H2 Hn ∧ exists vs' ys' r'', Hn D = some (.lst vs') ∧ Al (rp K (mns Hn [D])) vs' ys' ∧ ys'.length ≤ i + 1 ∧ comp c f (xs.drop (i + 1)) = some r'' ∧ ys ++ r' = ys' ++ r'',
          fun Hn hn => ⟨xs.length - (i + 1), by omega, rfl, hn.1, hn.2⟩, fun v Hy hy => ?_⟩
        have hx := List.getElem?_eq_getElem hlt
        obtain ⟨gy, ry⟩ := yld i Hc v Hy _ gc hx hy
        have gH : Gx H Hy := (e1.trans e2).trans (gc.trans gy)
        refine hg _ v (wipe σ vs) Hy _ ry fun σ2 hσ => ⟨(hb _ _ _ _ hσ).trans (wipe_wipe σ vs), ?_⟩
        rw [List.drop_eq_getElem_cons hlt] at hcomp
        rcases comp_cons hcomp with ⟨hc, y, r2, hf, h2, rfl⟩ | ⟨hc, h2⟩
        · refine ht _ σ2 Hy gH hσ true hc Hy Gx.rfl _ fun H3 g3 => ite_tt ?_
          refine he _ σ2 Hy gH hσ y hf H3 g3 _ fun p' ws H4 hp' g4 h4p r4 => ?_
          have gD := gy.trans (g3.trans g4)
          have h4 : H4 D = some (.lst vs') := gD _ _ hDc
          have h3 : H3 D = some (.lst vs') := (gy.trans g3) _ _ hDc
          have np : p' ≠ D := fun z => by rw [z, h3] at hp'; cases hp'
          have tx : Tx H4 (mns (upd H4 D (.lst (vs' ++ [.ref p']))) [D]) := fun a xs q => by
            have na : a ≠ D := fun z => by rw [z, h4] at q; cases q
            rw [mns_out (by simpa using na), upd_ne na]; exact q
          have gm : Gx (mns Hc [D]) (mns (upd H4 D (.lst (vs' ++ [.ref p']))) [D]) := fun a o q => by
            have na : a ≠ D := fun z => by rw [z, mns_in (by simp)] at q; cases q
            rw [mns_out (by simpa using na)] at q
            rw [mns_out (by simpa using na), upd_ne na]; exact gD _ _ q
          refine ⟨vs', h4, ?_, hlt, (gc.trans gD).mut hD, vs' ++ [.ref p'], ys ++ [y], r2, upd_same, (ral.mono fun _ _ => Rp.mono gm).app (Al.one ⟨p', ws, rfl, ?_, r4.mono fun _ _ => Im.im tx⟩), ?_, h2, by simp⟩
          · rw [ral.len]; exact Evl.sz_lt (by omega)
          · rw [mns_out (by simpa using np), upd_ne np]; exact h4p
          · rw [List.length_append]; simp only [List.length_cons, List.length_nil]; omega
        · refine ht _ σ2 Hy gH hσ false hc Hy Gx.rfl _ fun H3 g3 => ite_ff ?_
          exact ⟨hlt, (gc.trans gy).trans g3, vs', ys, r', (gy.trans g3) _ _ hDc, ral.mono fun _ _ => Rp.mono (mns_mono (gy.trans g3)), by omega, h2, rfl⟩
      · have hi : i = xs.length := by omega
        subst hi
        rw [List.drop_length] at hcomp
        cases hcomp
        rw [List.append_nil] at *
        exact .inl ⟨stop Hc gc, q (.ref D) Hc (e2.trans gc) ⟨D, vs', rfl, hDc, ral.mono fun _ _ => Rp.mono mns_ex⟩⟩
    · rw [if_neg hz] at hr'
      cases hr'
theorem st_asg2 {m : Option A} {x : A} (h : EvO K te σ G H m) (hm : m = some x) (a : At G H L) (k : forall v G2 H2, Gx G G2 -> Gx H H2 -> At G2 H2 L -> rp K G2 v x -> u X ((σ.set i (some v)).set j (some v)) H2) : tSeq (tAsg2 te (gName i) (gName j)) u X σ H :=
  h x hm G H L Gx.rfl Gx.rfl a _ fun v G2 H2 g e a2 r => k v G2 H2 g e a2 r
end
end Pu

set_option Elab.async false
set_option linter.all false
set_option maxRecDepth 100000
namespace Pu
open Pu.Rp (rp)
open PySem PySem.Spec PyProof.Rows L2
/-! isinstance where the type is known -/
class Tyd (A : Type) [Rp A] where
  nm : String
  ty : forall {K : Fg} {H : Hp} {v : V} {x : A}, rp K H v x -> TyX K H v (.type nm)
instance : Tyd Int := ⟨"int", fun h => by cases h; exact .base (.int _)⟩
instance : Tyd Bool := ⟨"bool", fun h => by cases h; exact .base (.bl _)⟩
instance : Tyd Str := ⟨"str", fun h => by cases h; exact .base (.str _)⟩
instance : Tyd Unit := ⟨"NoneType", fun h => by cases h; exact .base .non⟩
instance {A B : Type} [Rp A] [Rp B] : Tyd (A × B) := ⟨"tuple", fun h => by obtain ⟨a, u, w, rfl, h2, _⟩ := h; exact .base (.tup h2)⟩
instance {A B C : Type} [Rp A] [Rp B] [Rp C] : Tyd (T3 A B C) := ⟨"tuple", fun h => by obtain ⟨a, u, w, z, rfl, h2, _⟩ := h; exact .base (.tup h2)⟩
instance {A : Type} [Rp A] : Tyd (Tl A) := ⟨"tuple", fun h => by obtain ⟨a, vs, rfl, h2, _⟩ := h; exact .base (.tup h2)⟩
instance {A : Type} [Rp A] : Tyd (List A) := ⟨"list", fun h => by obtain ⟨a, vs, rfl, h2, _⟩ := h; exact .base (.lst h2)⟩
def fIs {A : Type} (b : Bool) (_ : A) : Option Bool := some b
def fLen2 {A B : Type} (_ : A × B) : Option Int := some 2
section
variable {K : Fg} {A B C : Type} [Rp A] [Rp B] [Rp C] {σ : L2.St} {H : Hp} {ta : TE} {ma : Option A}
theorem x_isi [Tyd A] {n : String} {b : Bool} (h : PySem.W.kitOne K (.type (Tyd.nm A)) (.type n) = some b) (ha : EvB K ta σ H ma) : EvB K (tCB (rIsi K) (tCons ta (tCons (tC (.ty n)) tNil))) σ H (o1 (fIs b) ma) := fun x hx H1 e Q q => by
  obtain ⟨a, e1, e3⟩ := o1s hx
  cases e3
  exact ha a e1 H1 e _ fun v H2 g2 r2 => ⟨v, .ty n, _, _, b, rfl, .ty n, Tyd.ty r2, h, q _ H2 g2 rfl⟩
theorem x_len2 {ma : Option (A × B)} (ha : EvB K ta σ H ma) : EvB K (tCB (fun xs H Q => ∃ p ys, xs = [.ref p] ∧ (SqL K H p ys ∨ SqT K H p ys) ∧ Q (.int ys.length) H) (tCons ta tNil)) σ H (o1 fLen2 ma) :=
  call1 (fun H v x c r hc Q q => by
    cases hc
    obtain ⟨p, u, w, rfl, h2, h3⟩ := r
    exact ⟨p, _, rfl, .inr (SqT.of h2), q _ H Gx.rfl rfl⟩) ha
end
section
variable {K : Fg} {A : Type} [Rp A] {H : Hp} {L : Led}
theorem Gx.mutA {S G : Hp} {p : Addr} {o : HO} (e : Gx S H) (n : S p = none) (_ : At G (upd H p o) L) : Gx S (upd H p o) := e.mut n
theorem heapB {r : A} {Q : VK} (q : forall w H2, Gx H H2 -> rp K H2 w r -> Q w H2) : exists H0, Gx H0 H ∧ forall w H2, Gx H0 H2 -> rp K H2 w r -> Q w H2 := ⟨H, Gx.rfl, q⟩
theorem heapN {r : List A} {Q : VK} (q : forall p ws H2, H p = none -> Gx H H2 -> H2 p = some (.lst ws) -> Al (rp K H2) ws r -> Q (.ref p) H2) : exists H0, Gx H0 H ∧ forall p ws H2, H0 p = none -> Gx H0 H2 -> H2 p = some (.lst ws) -> Al (rp K H2) ws r -> Q (.ref p) H2 := ⟨H, Gx.rfl, q⟩
end
end Pu

set_option Elab.async false
set_option linter.all false
set_option maxRecDepth 100000
namespace Pu
open Pu.Rp (rp)
open PySem PySem.Spec PyProof.Rows L2
theorem at_obj {G H : Hp} {p : Addr} {o : HO} {L1 L2' : Led} (a : At G H (L1 ++ (p, o) :: L2')) : exists o', o' = o ∧ At G H (L1 ++ (p, o') :: L2') := ⟨o, rfl, a⟩
end Pu

set_option Elab.async false
set_option linter.all false
set_option maxRecDepth 100000
namespace Pu
open Pu.Rp (rp)
open PySem PySem.Spec PyProof.Rows L2
section
variable {K : Fg} {A B C D : Type} [Rp A] [Rp B] [Rp C] [Rp D]
variable {σ : L2.St} {G G' H H' : Hp} {L L1 L2' : Led} {M : List Addr} {te ta tb tc : TE} {tt tu : TT} {X : Ends} {t1 t2 u : TS} {i : Nat}
def whileO {S : Type} (c : S -> Option Bool) (f : S -> Option S) : Nat -> S -> Option S
  | 0, _ => none
  | n + 1, s => (c s).bind fun b => if b = true then (f s).bind fun s' => whileO c f n s' else some s
theorem whileO_M {S : Type} {c : S -> Option Bool} {f : S -> Option S} : forall {n : Nat} {s r : S}, whileO c f n s = some r -> whileM (R := Empty) c (fun s => (f s).map Sum.inl) n s = some (.inl r)
  | 0, s, r, h => by cases h
  | n + 1, s, r, h => by
    unfold whileO at h
    unfold whileM
    cases hc : c s with
    | none => rw [hc] at h; cases h
    | some b =>
      rw [hc] at h
      cases b with
      | false => exact congrArg some (congrArg Sum.inl (Option.some.inj (show some s = some r from h)))
      | true =>
        have h' : ((f s).bind fun s' => whileO c f n s') = some r := h
        cases hf : f s with
        | none => rw [hf] at h'; cases h'
        | some s' =>
          rw [hf] at h'
          exact whileO_M (n := n) h'
theorem st_whileO {S : Type} {c : S -> Option Bool} {f : S -> Option S} {n : Nat} {s0 s1 : S} (hl : whileO c f n s0 = some s1) (In : S -> L2.St -> Hp -> Prop) (h0 : In s0 σ H)
    (hc : forall s σ' H', In s σ' H' -> EvT tt σ' H' (c s))
    (hs : forall s s' σ' H' H'', c s = some true -> f s = some s' -> In s σ' H' -> Gx H' H'' -> t1 { X with nx := In s', ct := In s', bk := u X } σ' H'')
    (hd : forall σ' H' H'', In s1 σ' H' -> Gx H' H'' -> u X σ' H'') : tSeq (tWhile tt t1) u X σ H := by
  have hM := whileO_M hl
  refine ⟨fun m σ H => exists s, In s σ H ∧ whileO c f m s = some s1, ⟨n, s0, h0, hl⟩, ?_⟩
  rintro m σ' Hc ⟨s, hin, hm⟩
  cases m with
  | zero => cases hm
  | succ m =>
    unfold whileO at hm
    cases hb : c s with
    | none => rw [hb] at hm; cases hm
    | some b =>
      rw [hb] at hm
      refine hc s σ' Hc hin b hb Hc Gx.rfl _ fun H3 g3 => ?_
      cases b with
      | false =>
        have e : s = s1 := Option.some.inj (show some s = some s1 from hm)
        subst e
        exact ite_ff (hd σ' Hc H3 hin g3)
      | true =>
        refine ite_tt ?_
        cases hf : f s with
        | none => rw [hf] at hm; cases hm
        | some s' =>
          have hm' : whileO c f m s' = some s1 := by rw [hf] at hm; exact hm
          exact ⟨In s', fun σ3 H4 hN => ⟨m, by omega, s', hN, hm'⟩, hs s s' σ' Hc H3 hb hf hin g3⟩
/-! a list of lists that are changed where they stand -/
def lmE : List Addr -> List (List V) -> Led
  | p :: ps, vs :: vss => (p, HO.lst vs) :: lmE ps vss
  | _, _ => []
def lmL (pp : Addr) (ps : List Addr) (vss : List (List V)) : Led := (pp, HO.lst (ps.map V.ref)) :: lmE ps vss
def Al2 (K : Fg) (G : Hp) : List Addr -> List (List V) -> List (List A) -> Prop
  | [], [], [] => True
  | _ :: ps, vs :: vss, xs :: xss => Al (rp K G) vs xs ∧ Al2 K G ps vss xss
  | _, _, _ => False
theorem Al2.mono (g : Gx G G') : forall {ps : List Addr} {vss : List (List V)} {xss : List (List A)}, Al2 K G ps vss xss -> Al2 K G' ps vss xss
  | [], [], [], _ => trivial
  | _ :: ps, vs :: vss, xs :: xss, h => ⟨h.1.mono fun _ _ => Rp.mono g, Al2.mono (ps := ps) g h.2⟩
  | [], _ :: _, _, h => h.elim
  | [], [], _ :: _, h => h.elim
  | _ :: _, [], _, h => h.elim
  | _ :: _, _ :: _, [], h => h.elim
theorem lm_al (hp : forall e, e ∈ L -> H e.1 = some e.2) (g : Gx G H) : forall {ps : List Addr} {vss : List (List V)} {xss : List (List A)}, (forall e, e ∈ lmE ps vss -> e ∈ L) -> Al2 K G ps vss xss -> Al (rp K H) (ps.map V.ref) xss
  | [], [], [], _, _ => trivial
  | p :: ps, vs :: vss, xs :: xss, hm, h => ⟨⟨p, vs, rfl, hp _ (hm _ (List.Mem.head _)), h.1.mono fun _ _ => Rp.mono g⟩, lm_al (ps := ps) hp g (fun e he => hm e (List.Mem.tail _ he)) h.2⟩
  | [], _ :: _, _, _, h => h.elim
  | [], [], _ :: _, _, h => h.elim
  | _ :: _, [], _, _, h => h.elim
  | _ :: _, _ :: _, [], _, h => h.elim
theorem lm_rp {pp : Addr} {ps : List Addr} {vss : List (List V)} {xss : List (List A)} (a : At G H L) (hp : forall e, e ∈ lmL pp ps vss -> e ∈ L) (r : Al2 K G ps vss xss) : rp K H (.ref pp) xss :=
  ⟨pp, ps.map V.ref, rfl, (a.led _ (hp _ (List.Mem.head _))).1, lm_al (fun e he => (a.led e he).1) a.ex (fun e he => hp e (List.Mem.tail _ he)) r⟩
theorem lm_split : forall {j : Nat} {ps : List Addr} {vss : List (List V)} {xss : List (List A)} {xs : List A}, Al2 K G ps vss xss -> xss[j]? = some xs -> exists p vs L1 L2, ps[j]? = some p ∧ Al (rp K G) vs xs ∧ lmE ps vss = L1 ++ (p, HO.lst vs) :: L2 ∧ forall vs', lmE ps (vss.set j vs') = L1 ++ (p, HO.lst vs') :: L2
  | j, [], [], [], xs, _, h => by simp at h
  | 0, p :: ps, vs :: vss, xs :: xss, _, h, e => by
    cases e
    exact ⟨p, vs, [], lmE ps vss, rfl, h.1, rfl, fun _ => rfl⟩
  | j + 1, p :: ps, vs :: vss, xs :: xss, _, h, e => by
    obtain ⟨q, ws, L1, L2, a, b, c, d⟩ := lm_split (j := j) h.2 e
    refine ⟨q, ws, (p, HO.lst vs) :: L1, L2, a, b, by unfold lmE; rw [c]; rfl, fun vs' => ?_⟩
    rw [List.set_cons_succ]
    unfold lmE
    rw [d]
    rfl
  | _, [], _ :: _, _, _, h, _ => h.elim
  | _, [], [], _ :: _, _, h, _ => h.elim
  | _, _ :: _, [], _, _, h, _ => h.elim
  | _, _ :: _, _ :: _, [], _, h, _ => h.elim
theorem Al2.set {vs' : List V} {xs' : List A} (r : Al (rp K G) vs' xs') : forall {j : Nat} {ps : List Addr} {vss : List (List V)} {xss : List (List A)}, Al2 K G ps vss xss -> Al2 K G ps (vss.set j vs') (xss.set j xs')
  | _, [], [], [], _ => trivial
  | 0, p :: ps, vs :: vss, xs :: xss, h => ⟨r, h.2⟩
  | j + 1, p :: ps, vs :: vss, xs :: xss, h => ⟨h.1, Al2.set (j := j) r h.2⟩
  | _, [], _ :: _, _, h => h.elim
  | _, [], [], _ :: _, h => h.elim
  | _, _ :: _, [], _, h => h.elim
  | _, _ :: _, _ :: _, [], h => h.elim
theorem Al2.len : forall {ps : List Addr} {vss : List (List V)} {xss : List (List A)}, Al2 K G ps vss xss -> ps.length = xss.length
  | [], [], [], _ => rfl
  | _ :: ps, vs :: vss, xs :: xss, h => congrArg Nat.succ (Al2.len h.2)
  | [], _ :: _, _, h => h.elim
  | [], [], _ :: _, h => h.elim
  | _ :: _, [], _, h => h.elim
  | _ :: _, _ :: _, [], h => h.elim
/-- x[i].append(e) -/
def fAppAt (xss : List (List A)) (n : Int) (y : A) : Option (List (List A)) := (ixN xss.length n).bind fun j => (xss[j]?).bind fun xs => if xs.length < 100000 then some (xss.set j (xs ++ [y])) else none
theorem st_lm2 (a : At G H []) (k : forall pp ps vss H2, Gx H H2 -> (forall p, p ∈ ps -> H p = none) -> Al2 K G ps vss ([[], []] : List (List A)) -> At G H2 (lmL pp ps vss) -> u X (σ.set i (some (.ref pp))) H2) :
    tSeq (tAsg (tLst (tCons (tLst tNil) (tCons (tLst tNil) tNil))) (gName i)) u X σ H :=
  ⟨Nat.zero_le _, fun p1 h1 => ⟨Nat.zero_le _, fun p2 h2 => ⟨by show 2 ≤ sizeLine; exact Evl.sz_of (by decide), fun pp h3 => by
    have a1 := a.add h1 (o := HO.lst []) trivial
    have a2 := a1.add h2 (o := HO.lst []) trivial
    have a3 := a2.add h3 (o := HO.lst [V.ref p1, V.ref p2]) trivial
    have e1 : Gx H (upd H p1 (HO.lst [])) := Gx.new h1
    have e2 := Gx.new (o := HO.lst []) h2
    have e3 := Gx.new (o := HO.lst [V.ref p1, V.ref p2]) h3
    refine k pp [p1, p2] [[], []] _ ((e1.trans e2).trans e3) (fun p hp => ?_) ⟨trivial, trivial, trivial⟩ ⟨a3.ex, ?_, fun q hq => a3.led q ?_⟩
    · rcases List.mem_cons.mp hp with rfl | hp
      · exact h1
      · rw [List.mem_singleton.mp hp]
        exact e1.back h2
    · have := a3.nd
      simp only [lmL, lmE, List.map_cons, List.map_nil, List.nodup_cons, List.mem_cons, List.not_mem_nil, or_false] at this ⊢
      refine ⟨fun z => this.1 (z.elim .inr .inl), fun z => this.2.1 z.symm, ?_⟩
      exact ⟨fun z => z, List.nodup_nil⟩
    · simp only [lmL, lmE, List.mem_cons, List.not_mem_nil, or_false] at hq ⊢
      rcases hq with h | h | h
      · exact .inl h
      · exact .inr (.inr h)
      · exact .inr (.inl h)⟩⟩⟩
theorem lm_m : forall {ps : List Addr} {vss : List (List V)} {xss : List (List A)}, Al2 K G ps vss xss -> (lmE ps vss).map (·.1) = ps
  | [], [], [], _ => rfl
  | _ :: ps, vs :: vss, xs :: xss, h => congrArg _ (lm_m h.2)
  | [], _ :: _, _, h => h.elim
  | [], [], _ :: _, h => h.elim
  | _ :: _, [], _, h => h.elim
  | _ :: _, _ :: _, [], h => h.elim
theorem lm_M {pp : Addr} {ps : List Addr} {vss : List (List V)} {xss : List (List A)} {M1 : List Addr} (r : Al2 K G ps vss xss) (h : forall p, p ∈ M1 -> p ∈ L1.map (·.1)) : forall p, p ∈ M1 ++ ps -> p ∈ (L1 ++ lmL pp ps vss).map (·.1) := fun p hp => by
  rw [List.map_append]
  rcases List.mem_append.mp hp with hp | hp
  · exact List.mem_append_left _ (h p hp)
  · refine List.mem_append_right _ (List.mem_cons_of_mem _ ?_)
    rw [lm_m r]
    exact hp
theorem st_appAt {pp : Addr} {ps : List Addr} {vss : List (List V)} {xss zss : List (List A)} {iv : Nat} {m : Option A} {x : A} {mi : Option Int} {n : Int} (hs : σ[iv]? = some (some (.ref pp))) (hi : EvB K tb σ H mi) (hn : mi = some n)
    (h : EvO K te σ G H m) (hm : m = some x) (a : At G H (L1 ++ lmL pp ps vss)) (r : Al2 K G ps vss xss) (hz : fAppAt xss n x = some zss)
    (k : forall G2 H2 H3 p o vss', Gx G G2 -> Gx H H2 -> p ∈ ps -> H3 = upd H2 p o -> At G2 H2 (L1 ++ lmL pp ps vss) -> At G2 H3 (L1 ++ lmL pp ps vss') -> Al2 K G2 ps vss' zss -> u X σ H3) :
    tSeq (tDrop (tBM K "list" rAppend (tOp (rIxL K) (tVar iv) tb) (tCons te tNil))) u X σ H := by
  unfold fAppAt at hz
  obtain ⟨j, hj, hz⟩ := bnd hz
  obtain ⟨xs, hx, hz⟩ := bnd hz
  by_cases hl : xs.length < 100000
  · rw [if_pos hl] at hz
    cases hz
    obtain ⟨p, vs, M1, M2, hp, ra, e1, e2⟩ := lm_split r hx
    have hpp := (a.led (pp, .lst (ps.map V.ref)) (List.mem_append_right _ (List.Mem.head _))).1
    have hmem : (p, HO.lst vs) ∈ L1 ++ lmL pp ps vss := List.mem_append_right _ (List.mem_cons_of_mem _ (by rw [e1]; simp))
    refine ⟨_, hs, hi n hn H Gx.rfl _ fun w H1 g1 rw' => ⟨pp, ps.map V.ref, n, .ref p, rfl, rw', SqL.of (g1 _ _ hpp), ?_, ?_⟩⟩
    · unfold atI
      rw [List.length_map, r.len, hj]
      show (ps.map V.ref)[j]? = _
      rw [List.getElem?_map, hp]
      rfl
    · have a1 := a.grow g1
      have hq := (a1.led _ hmem).1
      refine ⟨Or.inl ⟨rfl, vs, SqL.of hq⟩, h x hm G H1 _ Gx.rfl g1 a1 _ fun v G2 H2 g2 g3 a2 rv => ⟨p, vs, v, rfl, rfl, g3 _ _ hq, Evl.sz_lt (by rw [ra.len]; exact hl), ?_⟩⟩
      have a3 : At G2 H2 ((L1 ++ (pp, HO.lst (ps.map V.ref)) :: M1) ++ (p, HO.lst vs) :: M2) := by
        have := a2
        unfold lmL at this
        rw [e1] at this
        simpa using this
      have a4 := a3.set (o' := HO.lst (vs ++ [v])) trivial
      refine k G2 H2 _ p _ (vss.set j (vs ++ [v])) g2 (g1.trans g3) (List.mem_of_getElem? hp) rfl a2 ?_ (Al2.set ((ra.mono fun _ _ => Rp.mono g2).app (Al.one rv)) (r.mono g2))
      unfold lmL
      rw [e2]
      simpa using a4
  · rw [if_neg hl] at hz
    cases hz
theorem lmE_nil {e : Addr × HO} : forall {ps : List Addr}, e ∈ lmE ps (ps.map fun _ => []) -> e.1 ∈ ps ∧ e.2 = HO.lst []
  | [], h => nomatch h
  | p :: ps, h => by
    rcases List.mem_cons.mp h with rfl | h
    · exact ⟨List.mem_cons_self, rfl⟩
    · have := lmE_nil (ps := ps) h
      exact ⟨List.mem_cons_of_mem _ this.1, this.2⟩
theorem lmE_map : forall {ps : List Addr}, (lmE ps (ps.map fun _ => [])).map (·.1) = ps
  | [] => rfl
  | p :: ps => congrArg _ (lmE_map (ps := ps))
theorem al2_nil : forall {ps : List Addr}, Al2 K G ps (ps.map fun _ => []) (ps.map fun _ => ([] : List A))
  | [] => trivial
  | _ :: ps => ⟨trivial, al2_nil (ps := ps)⟩
/-- x = [[] for k in ..] -/
theorem st_lmc {I : Type} [Rp I] {wi : TI} {g : TG} {b : Bd I} {vs : List Nat} {mx : Option (List I)} {xs : List I} (hi : EvI K wi σ [] H mx) (hx : mx = some xs) (hz : xs.length ≤ 100000) (hg : TgOk K g b) (hb : BdIn b vs)
    (ht : forall x σ2 H', Gx H H' -> b x (wipe σ vs) H' σ2 -> EvT tt σ2 H' (some true)) (a : At G H [])
    (k : forall pp ps vss H2, Gx H H2 -> (forall p, p ∈ ps -> H p = none) -> Al2 K G ps vss (xs.map fun _ => ([] : List A)) -> At G H2 (lmL pp ps vss) -> u X (σ.set i (some (.ref pp))) H2) :
    tSeq (tAsg (tLc wi g tt (tLst tNil) vs) (gName i)) u X σ H := by
  refine hi xs hx H Gx.rfl _ fun J H2 e2 wk => ?_
  rw [mns_nil] at wk
  intro D hD
  obtain ⟨go, stop, yld⟩ := wk
  refine ⟨fun i m Hc => m = xs.length - i ∧ i ≤ xs.length ∧ Gx H2 Hc ∧ exists ps : List Addr, Hc D = some (.lst (ps.map V.ref)) ∧ ps.length = i ∧ (D :: ps).Nodup ∧ forall p, p ∈ ps -> H2 p = none ∧ Hc p = some (.lst []),
    ⟨xs.length, by simp, Nat.zero_le _, Gx.new hD, [], upd_same, rfl, by simp, fun p hp => nomatch hp⟩, ?_⟩
  rintro j m Hc ⟨rfl, hle, gc, ps, hDc, hlen, nd, hps⟩
  by_cases hlt : j < xs.length
  · refine .inr ⟨go j Hc hlt gc, fun Hn => j + 1 ≤ xs.length ∧ Gx H2 Hn ∧ exists ps : List Addr, Hn D = some (.lst (ps.map V.ref)) ∧ ps.length = j + 1 ∧ (D :: ps).Nodup ∧ forall p, p ∈ ps -> H2 p = none ∧ Hn p = some (.lst []),
      fun Hn hn => ⟨xs.length - (j + 1), by omega, rfl, hn.1, hn.2⟩, fun v Hy hy => ?_⟩
    have hx' := List.getElem?_eq_getElem hlt
    obtain ⟨gy, ry⟩ := yld j Hc v Hy _ gc hx' hy
    have gH : Gx H Hy := e2.trans (gc.trans gy)
    refine hg _ v (wipe σ vs) Hy _ ry fun σ2 hσ => ⟨(hb _ _ _ _ hσ).trans (wipe_wipe σ vs), ?_⟩
    refine ht _ σ2 Hy gH hσ true rfl Hy Gx.rfl _ fun H3 g3 => ite_tt ?_
    refine ⟨Nat.zero_le _, fun p' hp' => ?_⟩
    have gD := gy.trans g3
    have h3 : H3 D = some (.lst (ps.map V.ref)) := gD _ _ hDc
    have np : p' ≠ D := fun z => by rw [z, h3] at hp'; cases hp'
    have nps : p' ∉ ps := fun z => by rw [gD _ _ (hps p' z).2] at hp'; cases hp'
    have h4 : upd H3 p' (HO.lst []) D = some (.lst (ps.map V.ref)) := by rw [upd_ne (fun z => np z.symm)]; exact h3
    refine ⟨ps.map V.ref, h4, by rw [List.length_map]; exact Evl.sz_lt (by omega), hlt, ?_, ps ++ [p'], ?_, ?_, ?_, fun p hp => ?_⟩
    · exact ((gc.trans gD).trans (Gx.new hp')).mut hD
    · rw [upd_same, List.map_append]; rfl
    · rw [List.length_append, hlen]; rfl
    · obtain ⟨n1, n2⟩ := List.nodup_cons.mp nd
      refine List.nodup_cons.mpr ⟨fun z => ?_, List.nodup_append.mpr ⟨n2, by simp, fun q hq r hr => ?_⟩⟩
      · rcases List.mem_append.mp z with z | z
        · exact n1 z
        · exact np (List.mem_singleton.mp z).symm
      · rw [List.mem_singleton.mp hr]
        intro z
        exact nps (z ▸ hq)
    · have nD : p ≠ D := by
        rcases List.mem_append.mp hp with z | z
        · intro y
          exact (List.nodup_cons.mp nd).1 (y ▸ z)
        · rw [List.mem_singleton.mp z]; exact np
      rcases List.mem_append.mp hp with z | z
      · have q : p ≠ p' := fun y => nps (y ▸ z)
        exact ⟨(hps p z).1, by rw [upd_ne nD, upd_ne q]; exact gD _ _ (hps p z).2⟩
      · rw [List.mem_singleton.mp z] at nD ⊢
        exact ⟨(gc.trans gD).back hp', by rw [upd_ne nD, upd_same]⟩
  · have hi : j = xs.length := by omega
    subst hi
    refine .inl ⟨stop Hc gc, ?_⟩
    have e0 := e2.trans gc
    have hm : (xs.map fun _ => ([] : List A)) = ps.map fun _ => [] := by
      apply List.ext_getElem
      · simp [hlen]
      · intro n h1 h2; simp
    refine k D ps (ps.map fun _ => []) Hc e0 (fun p hp => e2.back (hps p hp).1) (by rw [hm]; exact al2_nil) ⟨a.ex.trans e0, ?_, fun e he => ?_⟩
    · show (D :: (lmE ps _).map (·.1)).Nodup
      rw [lmE_map]; exact nd
    · rcases List.mem_cons.mp he with rfl | he
      · exact ⟨hDc, a.ex.back (e2.back hD), trivial⟩
      · obtain ⟨x1, x2⟩ := lmE_nil he
        obtain ⟨ea, eo⟩ := e
        simp only at x1 x2
        subst x2
        exact ⟨(hps _ x1).2, a.ex.back (e2.back (hps _ x1).1), trivial⟩
def oLim {I : Type} (m : Option (List I)) : Option (List I) := m.bind (lim 100000)
theorem oLims {I : Type} {m : Option (List I)} {xs : List I} (h : oLim m = some xs) : m = some xs ∧ xs.length ≤ 100000 := by
  unfold oLim at h
  obtain ⟨ys, e, h⟩ := bnd h
  unfold lim at h
  split at h
  · cases h; exact ⟨e, by assumption⟩
  · cases h
end
section
variable {X : Cx} {K : Fg}
theorem ixT_K (h : X.K = K) : IxR X (rIxT K) := h ▸ ix_tup
theorem ixL_K (h : X.K = K) : IxR X (rIxL K) := h ▸ ix_list
theorem slL_K (h : X.K = K) : SlR X (rSlL K) := h ▸ sl_list
theorem slA_K (h : X.K = K) : SlR X (rSlA K) := h ▸ sl_tupA
theorem opEq_K (h : X.K = K) (hu : X.A.units + 64 < cLine) : OpR X (compareOp .Eq) (rEqD K) := h ▸ op_eqD hu
theorem opNe_K (h : X.K = K) (hu : X.A.units + 64 < cLine) : OpR X (compareOp .NotEq) (rNeD K) := h ▸ op_neD hu
theorem len_K (h : X.K = K) : CallR X (.builtin "len") (fun xs H Q => ∃ p ys, xs = [V.ref p] ∧ (SqL K H p ys ∨ SqT K H p ys) ∧ Q (V.int ys.length) H) := h ▸ call_len_seq
theorem isi_K (h : X.K = K) : CallR X (.builtin "isinstance") (rIsi K) := h ▸ call_isi
theorem lof_K (h : X.K = K) : CallR X (.type "list") (fun xs H Q => ∃ p ys, xs = [V.ref p] ∧ (SqL K H p ys ∨ SqT K H p ys) ∧ ∀ l, H l = none → Q (V.ref l) (upd H l (.lst ys))) := h ▸ call_list_of
theorem tof_K (h : X.K = K) : CallR X (.type "tuple") (fun xs H Q => ∃ p ys, xs = [V.ref p] ∧ ((SqL K H p ys ∧ ∀ l, H l = none → Q (V.ref l) (upd H l (.tup ys))) ∨ (SqT K H p ys ∧ Q (V.ref p) H))) := h ▸ call_tuple_of
end
end Pu

set_option Elab.async false
set_option linter.all false
set_option maxRecDepth 100000
namespace Pu
open Pu.Rp (rp)
open PySem PySem.Spec PyProof.Rows L2
theorem snoc {A : Type} : forall s : List A, s = [] ∨ exists t l, s = t ++ [l]
  | [] => .inl rfl
  | x :: s => .inr (match snoc s with
    | .inl h => ⟨[], x, by rw [h]; rfl⟩
    | .inr ⟨t, l, h⟩ => ⟨x :: t, l, by rw [h]; rfl⟩)
theorem ix_last {A : Type} (s : List A) (l : A) : ix (s ++ [l]) (-1) = some l := atI_last s l
theorem fPop_last {A : Type} (s : List A) (l : A) : fPop (s ++ [l]) = some (l, s) := by
  unfold fPop
  simp
theorem fSet_last {A : Type} (s : List A) (l y : A) : fSetL (s ++ [l]) (-1) y = some (s ++ [y]) := by
  have e : ixN (s ++ [l]).length (-1) = some s.length := by
    unfold ixN
    rw [if_neg (by decide), if_pos (by simp; omega)]
    congr 1
    simp
    omega
  unfold fSetL
  rw [e]
  simp
theorem ix_nat {A : Type} {s : List A} {i : Int} (h0 : 0 ≤ i) (h1 : i < s.length) : exists x, ix s i = some x ∧ x ∈ s ∧ s[i.toNat]? = some x := by
  have h : i.toNat < s.length := by omega
  refine ⟨s[i.toNat], ?_, List.getElem_mem h, List.getElem?_eq_getElem h⟩
  have := atI_nat (List.getElem?_eq_getElem h)
  rwa [show ((i.toNat : Nat) : Int) = i by omega] at this
theorem cutM_len {A : Type} (xs : List A) (lo hi : Option Int) : (cutM xs lo hi).length ≤ xs.length := by
  unfold cutM
  simp only [List.length_take, List.length_drop]
  omega
/-! sets of whole numbers by stretches -/
def inn (L : List (Int × Int)) (n : Int) : Prop := exists p, p ∈ L ∧ p.1 ≤ n ∧ n ≤ p.2
theorem inn_nil {n : Int} : ¬ inn [] n := fun ⟨p, h, _⟩ => nomatch h
theorem inn_cons {p : Int × Int} {L : List (Int × Int)} {n : Int} : inn (p :: L) n ↔ (p.1 ≤ n ∧ n ≤ p.2) ∨ inn L n :=
  ⟨fun ⟨q, h, a⟩ => by
    rcases List.mem_cons.mp h with rfl | h
    · exact .inl a
    · exact .inr ⟨q, h, a⟩, fun h => by
    rcases h with a | ⟨q, h, a⟩
    · exact ⟨p, List.mem_cons_self, a⟩
    · exact ⟨q, List.mem_cons_of_mem _ h, a⟩⟩
theorem inn_app {L M : List (Int × Int)} {n : Int} : inn (L ++ M) n ↔ inn L n ∨ inn M n :=
  ⟨fun ⟨q, h, a⟩ => by
    rcases List.mem_append.mp h with h | h
    · exact .inl ⟨q, h, a⟩
    · exact .inr ⟨q, h, a⟩, fun h => by
    rcases h with ⟨q, h, a⟩ | ⟨q, h, a⟩
    · exact ⟨q, List.mem_append_left _ h, a⟩
    · exact ⟨q, List.mem_append_right _ h, a⟩⟩
theorem inn_one {p : Int × Int} {n : Int} : inn [p] n ↔ p.1 ≤ n ∧ n ≤ p.2 := inn_cons.trans ⟨fun h => h.elim id fun h => (inn_nil h).elim, .inl⟩
theorem inn_of {L M : List (Int × Int)} (h : forall p, p ∈ L ↔ p ∈ M) {n : Int} : inn L n ↔ inn M n := ⟨fun ⟨p, a, b⟩ => ⟨p, (h p).mp a, b⟩, fun ⟨p, a, b⟩ => ⟨p, (h p).mpr a, b⟩⟩
def Nrm (L : List (Int × Int)) : Prop := (forall p, p ∈ L -> p.1 ≤ p.2) ∧ L.Pairwise (fun p q => p.2 + 1 < q.1)
theorem Nrm.nil : Nrm [] := ⟨fun _ h => (nomatch h), List.Pairwise.nil⟩
theorem Nrm.tail {p : Int × Int} {L : List (Int × Int)} (h : Nrm (p :: L)) : Nrm L := ⟨fun q z => h.1 q (List.mem_cons_of_mem _ z), (List.pairwise_cons.mp h.2).2⟩
theorem Nrm.snoc {L : List (Int × Int)} {p : Int × Int} (h : Nrm L) (hp : p.1 ≤ p.2) (g : forall q, q ∈ L -> q.2 + 1 < p.1) : Nrm (L ++ [p]) :=
  ⟨fun q z => by
    rcases List.mem_append.mp z with z | z
    · exact h.1 q z
    · rw [List.mem_singleton.mp z]; exact hp, List.pairwise_append.mpr ⟨h.2, List.pairwise_singleton _ _, fun a ha b hb => by rw [List.mem_singleton.mp hb]; exact g a ha⟩⟩
theorem Nrm.init {L M : List (Int × Int)} (h : Nrm (L ++ M)) : Nrm L := ⟨fun q z => h.1 q (List.mem_append_left _ z), (List.pairwise_append.mp h.2).1⟩
theorem Nrm.last {L : List (Int × Int)} {p : Int × Int} (h : Nrm (L ++ [p])) : p.1 ≤ p.2 ∧ forall q, q ∈ L -> q.2 + 1 < p.1 :=
  ⟨h.1 p (by simp), fun q hq => (List.pairwise_append.mp h.2).2.2 q hq p (by simp)⟩
theorem Nrm.behind {p : Int × Int} {L : List (Int × Int)} (h : Nrm (p :: L)) {n : Int} (hn : inn L n) : p.2 + 1 < n := by
  obtain ⟨q, a, b, c⟩ := hn
  have := (List.pairwise_cons.mp h.2).1 q a
  omega
theorem nm_uniq : forall {L M : List (Int × Int)}, Nrm L -> Nrm M -> (forall n, inn L n ↔ inn M n) -> L = M
  | [], [], _, _, _ => rfl
  | [], q :: M, _, h2, h => (inn_nil ((h q.1).mpr (inn_cons.mpr (.inl ⟨Int.le_refl _, h2.1 q List.mem_cons_self⟩)))).elim
  | p :: L, [], h1, _, h => (inn_nil ((h p.1).mp (inn_cons.mpr (.inl ⟨Int.le_refl _, h1.1 p List.mem_cons_self⟩)))).elim
  | p :: L, q :: M, h1, h2, h => by
    have hp := h1.1 p List.mem_cons_self
    have hq := h2.1 q List.mem_cons_self
    have low : p.1 = q.1 := by
      have a : q.1 ≤ p.1 := by
        rcases inn_cons.mp ((h p.1).mp (inn_cons.mpr (.inl ⟨Int.le_refl _, hp⟩))) with a | a
        · exact a.1
        · have := h2.behind a; omega
      have b : p.1 ≤ q.1 := by
        rcases inn_cons.mp ((h q.1).mpr (inn_cons.mpr (.inl ⟨Int.le_refl _, hq⟩))) with a | a
        · exact a.1
        · have := h1.behind a; omega
      omega
    have high : p.2 = q.2 := by
      rcases Int.lt_trichotomy p.2 q.2 with c | c | c
      · rcases inn_cons.mp ((h (p.2 + 1)).mpr (inn_cons.mpr (.inl ⟨by omega, by omega⟩))) with a | a
        · omega
        · have := h1.behind a; omega
      · exact c
      · rcases inn_cons.mp ((h (q.2 + 1)).mp (inn_cons.mpr (.inl ⟨by omega, by omega⟩))) with a | a
        · omega
        · have := h2.behind a; omega
    have e : p = q := Prod.ext low high
    subst e
    rw [nm_uniq h1.tail h2.tail fun n => ⟨fun a => by
      rcases inn_cons.mp ((h n).mp (inn_cons.mpr (.inr a))) with b | b
      · have := h1.behind a; omega
      · exact b, fun a => by
      rcases inn_cons.mp ((h n).mpr (inn_cons.mpr (.inr a))) with b | b
      · have := h2.behind a; omega
      · exact b⟩]
theorem psort_mem {x : List (Int × Int)} (p : Int × Int) : p ∈ psort x ↔ p ∈ x := (psort_perm x).mem_iff
theorem psort_low (x : List (Int × Int)) : (psort x).Pairwise fun p q => p.1 ≤ q.1 := (psort_le x).imp fun h => by rw [ple_iff] at h; omega
theorem psort_len (x : List (Int × Int)) : (psort x).length = x.length := (psort_perm x).length_eq
theorem isort_mem {x : List Int} (p : Int) : p ∈ isort x ↔ p ∈ x := (isort_perm x).mem_iff
theorem isort_len (x : List Int) : (isort x).length = x.length := (isort_perm x).length_eq
/-- no two alike: they rise strictly -/
theorem isort_lt {x : List Int} (h : x.Nodup) : (isort x).Pairwise (· < ·) := by
  have a := isort_le x
  have b : (isort x).Nodup := (isort_perm x).nodup_iff.mpr h
  exact (List.Pairwise.and a b).imp fun ⟨p, q⟩ => by omega
/-! fields of numbers -/
theorem comp_all {I A : Type} {c : I -> Option Bool} {f : I -> Option A} {g : I -> A} : forall {xs : List I}, (forall x, x ∈ xs -> c x = some true) -> (forall x, x ∈ xs -> f x = some (g x)) -> comp c f xs = some (xs.map g)
  | [], _, _ => rfl
  | x :: xs, hc, h => by
    unfold comp
    rw [hc x List.mem_cons_self, h x List.mem_cons_self, comp_all (fun y hy => hc y (List.mem_cons_of_mem _ hy)) fun y hy => h y (List.mem_cons_of_mem _ hy)]
    rfl
theorem comp_ex {I A : Type} {f : I -> Option A} {P : A -> Prop} : forall {xs : List I}, (forall x, x ∈ xs -> exists y, f x = some y ∧ P y) -> exists r, comp (fun _ => some true) f xs = some r ∧ r.length = xs.length ∧ forall y, y ∈ r -> P y
  | [], _ => ⟨[], rfl, rfl, fun _ h => nomatch h⟩
  | x :: xs, h => by
    obtain ⟨y, e, p⟩ := h x List.mem_cons_self
    obtain ⟨r, e2, l, p2⟩ := comp_ex (xs := xs) fun z hz => h z (List.mem_cons_of_mem _ hz)
    refine ⟨y :: r, by simp [comp, e, e2], by simp [l], fun z hz => ?_⟩
    rcases List.mem_cons.mp hz with rfl | hz
    · exact p
    · exact p2 z hz
theorem comp_filter {I : Type} {c : I -> Bool} : forall {xs : List I}, comp (fun x => some (c x)) (fun x => some x) xs = some (xs.filter c)
  | [] => rfl
  | x :: xs => by
    unfold comp
    rw [comp_filter (xs := xs)]
    cases h : c x <;> simp [h]
theorem fMul_1 {i j : Int} (h : -18446744073709551616 < i ∧ i < 18446744073709551616 ∨ -18446744073709551616 < j ∧ j < 18446744073709551616) : fMul i j = some (i * j) := by
  unfold fMul mulOk
  rw [if_pos]
  rw [Bool.or_eq_true, Bool.and_eq_true, Bool.and_eq_true]
  simpa using h
theorem fMod_1 {i j : Int} (h : 0 < j) : fMod i j = some (i % j) := if_pos h
theorem fDiv_1 {i j : Int} (h : 0 < j ∧ j < 1073741824) : fDiv i j = some (i / j) := if_pos h
theorem fPow_1 {i : Int} {n : Nat} (h : n ≤ 1000000 ∧ i.natAbs < 18446744073709551616) : fPow i (n : Int) = some (i ^ n) := by
  unfold fPow powOk
  rw [if_pos]
  · rfl
  · simp; omega
theorem imin_le {i j : Int} : imin i j ≤ i ∧ imin i j ≤ j ∧ (imin i j = i ∨ imin i j = j) := by unfold imin; split <;> omega
theorem imax_le {i j : Int} : i ≤ imax i j ∧ j ≤ imax i j ∧ (imax i j = i ∨ imax i j = j) := by unfold imax; split <;> omega
end Pu

set_option Elab.async false
set_option linter.all false
set_option maxRecDepth 100000
namespace Pu
open Pu.Rp (rp)
open PySem PySem.Spec PyProof.Rows L2
def evs {A : Type} : List A -> List A
  | a :: _ :: r => a :: evs r
  | l => l
def ods {A : Type} : List A -> List A
  | _ :: b :: r => b :: ods r
  | _ => []
theorem pick_evs {A : Type} : forall xs : List A, ((List.range ((xs.length + 1) / 2)).map fun k => 2 * k).filterMap (xs[·]?) = evs xs
  | [] => by simp [evs]
  | [a] => by simp [evs, List.range_succ]
  | a :: b :: r => by
    have ih := pick_evs r
    have e : ((a :: b :: r).length + 1) / 2 = (r.length + 1) / 2 + 1 := by simp only [List.length_cons]; omega
    rw [e, List.range_succ_eq_map, List.map_cons, List.map_map, List.filterMap_cons_some (f := fun x => (a :: b :: r)[x]?) (b := a) rfl]
    unfold evs
    rw [← ih, List.filterMap_map, List.filterMap_map]
    congr 1
theorem pick_ods {A : Type} : forall xs : List A, ((List.range (xs.length / 2)).map fun k => 1 + 2 * k).filterMap (xs[·]?) = ods xs
  | [] => by simp [ods]
  | [a] => by simp [ods]
  | a :: b :: r => by
    have ih := pick_ods r
    have e : (a :: b :: r).length / 2 = r.length / 2 + 1 := by simp only [List.length_cons]; omega
    rw [e, List.range_succ_eq_map, List.map_cons, List.map_map, List.filterMap_cons_some (f := fun x => (a :: b :: r)[x]?) (b := b) rfl]
    unfold ods
    rw [← ih, List.filterMap_map, List.filterMap_map]
    congr 1
theorem stepM_evs {A : Type} (xs : List A) : stepM xs none none 2 = evs xs := by
  rw [← pick_evs]
  unfold stepM sliceBounds sliceRange
  simp only [Option.getD_some, Int.cast_ofNat_Int, gt_iff_lt, Int.reduceLT, if_true]
  congr 1
  by_cases h : xs.length = 0
  · simp [h]
  · rw [if_pos (by omega)]
    rw [show (((xs.length : Int) - 0 + 2 - 1) / 2).toNat = (xs.length + 1) / 2 by omega]
    congr 1
    funext k
    omega
theorem stepM_ods {A : Type} (xs : List A) : stepM xs (some 1) none 2 = ods xs := by
  rw [← pick_ods]
  unfold stepM sliceBounds sliceRange
  simp only [Option.getD_some, Int.cast_ofNat_Int, gt_iff_lt, Int.reduceLT, if_true, if_false]
  congr 1
  by_cases h : xs.length ≤ 1
  · rw [if_neg (by omega), show xs.length / 2 = 0 by omega]
    rfl
  · rw [if_pos (by omega)]
    rw [show ((xs.length : Int) - max 0 (min 1 (xs.length : Int)) + 2 - 1) / 2 = ((xs.length / 2 : Nat) : Int) by omega]
    congr 1
    funext k
    omega
/-! sorted(set(..)) -/
theorem sins_mem {x c : Int} : forall {l : List Int}, c ∈ sins x l ↔ c = x ∨ c ∈ l
  | [] => by simp [sins]
  | y :: r => by
    unfold sins
    split
    · simp
    · split
      · rename_i h; subst h; simp
      · rw [List.mem_cons, sins_mem (l := r), List.mem_cons]
        exact ⟨fun h => h.elim (fun h => .inr (.inl h)) fun h => h.elim .inl fun h => .inr (.inr h), fun h => h.elim (fun h => .inr (.inl h)) fun h => h.elim .inl fun h => .inr (.inr h)⟩
theorem sins_lt {x : Int} : forall {l : List Int}, l.Pairwise (· < ·) -> (sins x l).Pairwise (· < ·)
  | [], _ => by simp [sins]
  | y :: r, h => by
    obtain ⟨h1, h2⟩ := List.pairwise_cons.mp h
    unfold sins
    split
    · rename_i c
      exact List.pairwise_cons.mpr ⟨fun z hz => by
        rcases List.mem_cons.mp hz with rfl | hz
        · exact c
        · have := h1 z hz; omega, h⟩
    · split
      · exact h
      · exact List.pairwise_cons.mpr ⟨fun z hz => by
          rcases sins_mem.mp hz with rfl | hz
          · omega
          · exact h1 z hz, sins_lt h2⟩
theorem sins_len {x : Int} : forall {l : List Int}, (sins x l).length ≤ l.length + 1
  | [] => by simp [sins]
  | y :: r => by
    have := @sins_len x r
    unfold sins
    split
    · simp
    · split
      · simp
      · simp only [List.length_cons]; omega
theorem sset_ok : forall x : List Int, (sset x).Pairwise (· < ·) ∧ (forall c, c ∈ sset x ↔ c ∈ x) ∧ (sset x).length ≤ x.length
  | [] => ⟨List.Pairwise.nil, fun _ => Iff.rfl, Nat.le_refl _⟩
  | a :: x => by
    obtain ⟨h1, h2, h3⟩ := sset_ok x
    refine ⟨sins_lt h1, fun c => ?_, Nat.le_trans sins_len (by simp only [List.length_cons]; unfold sset at h3; omega)⟩
    show c ∈ sins a (sset x) ↔ _
    rw [sins_mem, h2, List.mem_cons]
end Pu

set_option Elab.async false
set_option linter.all false
set_option maxRecDepth 100000
namespace Law
open PySem PySem.Spec PyProof.Rows L2 Pu
open Pu.Rp (rp)
def topS (i : Nat) : Stmt := PySem.Challenge.pw_gatewright_k04_whole_parts.main.body.getD i (.Pass ⟨0, 0, 0, 0⟩)
abbrev s_parts : Stmt := topS 1
theorem sc_parts : FnScope ["most", "some", "begins", "one", "low", "high", "rising", "behind"] ["most", "some"] (defScope s_parts) := ⟨rfl, rfl, rfl, by decide +kernel, rfl, by decide +kernel, by decide +kernel⟩
abbrev s_law_mixed : Stmt := topS 3
theorem sc_law_mixed : FnScope ["_law_cell", "_law_k", "_law_number"] ["_law_cell", "_law_k"] (defScope s_law_mixed) := ⟨rfl, rfl, rfl, by decide +kernel, rfl, by decide +kernel, by decide +kernel⟩
abbrev s_law_great : Stmt := topS 4
theorem sc_law_great : FnScope ["_law_cell", "_law_k"] ["_law_cell", "_law_k"] (defScope s_law_great) := ⟨rfl, rfl, rfl, by decide +kernel, rfl, by decide +kernel, by decide +kernel⟩
abbrev s_law_point : Stmt := topS 5
theorem sc_law_point : FnScope ["_law_cell", "_law_k", "_law_most", "_law_ahead", "_law_way"] ["_law_cell", "_law_k", "_law_most", "_law_ahead"] (defScope s_law_point) := ⟨rfl, rfl, rfl, by decide +kernel, rfl, by decide +kernel, by decide +kernel⟩
abbrev s_law_toggled : Stmt := topS 6
theorem sc_law_toggled : FnScope ["_law_most", "_law_points", "_law_rows", "_law_low", "_law_behind"] ["_law_most", "_law_points"] (defScope s_law_toggled) := ⟨rfl, rfl, rfl, by decide +kernel, rfl, by decide +kernel, by decide +kernel⟩
abbrev s_law_in : Stmt := topS 7
theorem sc_law_in : FnScope ["_law_one", "_law_number", "_law_low", "_law_high"] ["_law_one", "_law_number"] (defScope s_law_in) := ⟨rfl, rfl, rfl, by decide +kernel, rfl, by decide +kernel, by decide +kernel⟩
abbrev s_law_most_by : Stmt := topS 8
theorem sc_law_most_by : FnScope ["_law_script", "_law_cell"] ["_law_script"] (defScope s_law_most_by) := ⟨rfl, rfl, rfl, by decide +kernel, rfl, by decide +kernel, by decide +kernel⟩
abbrev s_law_right : Stmt := topS 9
theorem sc_law_right : FnScope ["_law_most", "_law_some", "_law_found", "_law_one", "_law_borders", "_law_low", "_law_high", "_law_ahead", "_law_behind", "_law_border"] ["_law_most", "_law_some", "_law_found"] (defScope s_law_right) := ⟨rfl, rfl, rfl, by decide +kernel, rfl, by decide +kernel, by decide +kernel⟩
abbrev s_law : Stmt := topS 10
theorem sc_law : FnScope ["_law_script", "_law_most", "_law_total", "_law_many", "_law_points", "_law_ahead", "_law_k", "_law_cell", "_law_number", "_law_some", "_law_handed", "_law_turn", "_law_found", "_law_one"] ["_law_script"] (defScope s_law) := ⟨rfl, rfl, rfl, by decide +kernel, rfl, by decide +kernel, by decide +kernel⟩
theorem bb_all : bootBuiltins "all" = some (.builtin "all") := by decide +kernel
theorem bb_any : bootBuiltins "any" = some (.builtin "any") := by decide +kernel
theorem bb_enumerate : bootBuiltins "enumerate" = some (.type "enumerate") := by decide +kernel
theorem bb_isinstance : bootBuiltins "isinstance" = some (.builtin "isinstance") := by decide +kernel
theorem bb_len : bootBuiltins "len" = some (.builtin "len") := by decide +kernel
theorem bb_list : bootBuiltins "list" = some (.type "list") := by decide +kernel
theorem bb_max : bootBuiltins "max" = some (.builtin "max") := by decide +kernel
theorem bb_min : bootBuiltins "min" = some (.builtin "min") := by decide +kernel
theorem bb_range : bootBuiltins "range" = some (.type "range") := by decide +kernel
theorem bb_set : bootBuiltins "set" = some (.type "set") := by decide +kernel
theorem bb_sorted : bootBuiltins "sorted" = some (.builtin "sorted") := by decide +kernel
theorem bb_sum : bootBuiltins "sum" = some (.builtin "sum") := by decide +kernel
theorem bb_tuple : bootBuiltins "tuple" = some (.type "tuple") := by decide +kernel
theorem bb_zip : bootBuiltins "zip" = some (.type "zip") := by decide +kernel
structure Txt (K : Fg) (mg : Str → Option Value) where
  a_parts : Addr
  d_parts : FuncData
  F_parts : Fun K "parts" "parts" s_parts a_parts d_parts
  b_parts : Binds K d_parts ["most", "some"] []
  g_parts : mg "parts" = some (.ref a_parts)
  a_law_mixed : Addr
  d_law_mixed : FuncData
  F_law_mixed : Fun K "_law_mixed" "_law_mixed" s_law_mixed a_law_mixed d_law_mixed
  b_law_mixed : Binds K d_law_mixed ["_law_cell", "_law_k"] []
  g_law_mixed : mg "_law_mixed" = some (.ref a_law_mixed)
  a_law_great : Addr
  d_law_great : FuncData
  F_law_great : Fun K "_law_great" "_law_great" s_law_great a_law_great d_law_great
  b_law_great : Binds K d_law_great ["_law_cell", "_law_k"] []
  g_law_great : mg "_law_great" = some (.ref a_law_great)
  a_law_point : Addr
  d_law_point : FuncData
  F_law_point : Fun K "_law_point" "_law_point" s_law_point a_law_point d_law_point
  b_law_point : Binds K d_law_point ["_law_cell", "_law_k", "_law_most", "_law_ahead"] []
  g_law_point : mg "_law_point" = some (.ref a_law_point)
  a_law_toggled : Addr
  d_law_toggled : FuncData
  F_law_toggled : Fun K "_law_toggled" "_law_toggled" s_law_toggled a_law_toggled d_law_toggled
  b_law_toggled : Binds K d_law_toggled ["_law_most", "_law_points"] []
  g_law_toggled : mg "_law_toggled" = some (.ref a_law_toggled)
  a_law_in : Addr
  d_law_in : FuncData
  F_law_in : Fun K "_law_in" "_law_in" s_law_in a_law_in d_law_in
  b_law_in : Binds K d_law_in ["_law_one", "_law_number"] []
  g_law_in : mg "_law_in" = some (.ref a_law_in)
  a_law_most_by : Addr
  d_law_most_by : FuncData
  F_law_most_by : Fun K "_law_most_by" "_law_most_by" s_law_most_by a_law_most_by d_law_most_by
  b_law_most_by : Binds K d_law_most_by ["_law_script"] []
  g_law_most_by : mg "_law_most_by" = some (.ref a_law_most_by)
  a_law_right : Addr
  d_law_right : FuncData
  F_law_right : Fun K "_law_right" "_law_right" s_law_right a_law_right d_law_right
  b_law_right : Binds K d_law_right ["_law_most", "_law_some", "_law_found"] []
  g_law_right : mg "_law_right" = some (.ref a_law_right)
  a_law : Addr
  d_law : FuncData
  F_law : Fun K "law" "law" s_law a_law d_law
  b_law : Binds K d_law ["_law_script"] []
  g_law : mg "law" = some (.ref a_law)
  n_all : mg "all" = none
  n_any : mg "any" = none
  n_enumerate : mg "enumerate" = none
  n_isinstance : mg "isinstance" = none
  n_len : mg "len" = none
  n_list : mg "list" = none
  n_max : mg "max" = none
  n_min : mg "min" = none
  n_range : mg "range" = none
  n_set : mg "set" = none
  n_sorted : mg "sorted" = none
  n_sum : mg "sum" = none
  n_tuple : mg "tuple" = none
  n_zip : mg "zip" = none
/-! parts -/
def m_parts_l2 (s9 : (List Int)) (x9 : (Int × Int)) : Option (List Int) := ((some x9.1)).bind fun y15 => (fApp s9 y15).bind fun x_begins => ((o2 fAdd (some x9.2) (some (1 : Int)))).bind fun y19 => (fApp x_begins y19).bind fun x_begins => some x_begins
def m_parts_l1 (s3 : (List Int)) (x3 : (Tl (Int × Int))) : Option (List Int) := ((((some x3)).map Tl.l)).bind fun xs9 => (foldO m_parts_l2 s3 xs9).bind fun w9 => some w9
def m_parts (x_most : Int) (x_some : (List (Tl (Int × Int)))) : Option (List (Int × Int)) := ((o1 szOk (o2 fCons (some (0 : Int)) (o2 fCons (o2 fAdd (some x_most) (some (1 : Int))) (some ([] : List Int)))))).bind fun x_begins => ((some x_some)).bind fun xs3 => (foldO m_parts_l1 x_begins xs3).bind fun w3 => ((o1 fSortSet (some w3))).bind fun x_rising => (oComp (fun (y29 : (Int × Int)) => (some true)) (fun (y29 : (Int × Int)) => (o2 fPair (some y29.1) (o2 fSub (some y29.2) (some (1 : Int))))) (o2 fZip (some x_rising) (o3 fCut (some x_rising) (((some (1 : Int))).map some) (some none))))
set_option maxHeartbeats 4000000 in
theorem ok_parts {P : Program} {w : World} {K : Fg} {mg : Str → Option Value} {base : Heap} (T : Txt K mg) : FnOk P w K mg base CX0 1 T.a_parts T.d_parts ["most", "some"] (PSn K (A2 K m_parts)) := by
  refine T.F_parts.ok sc_parts (fun vs H Q E h => ?_) (fun cdv A0 outer s H vs Q E hr h => ?_)
  · obtain ⟨r, ⟨v_most, v_some, x_most, x_some, rfl, r_most, r_some, hm⟩, q⟩ := h
    rfl
  · obtain ⟨r_fn, ⟨v_most, v_some, x_most, x_some, rfl, r_most, r_some, hm⟩, q⟩ := h
    refine ⟨_, (pss_cons (ps_set (i := 2) sc_parts.nd rfl (by first | exact Or.inl rfl | exact Or.inr rfl) (pe_lst (pa_cons pe_int (pa_cons (pe_op op_add (pv 0) pe_int) pa_nil)))) (pss_cons (ps_for PassesOwn.never rfl (pi_list (pv 1)) (pg_name (i := 3) sc_parts.nd rfl (by first | exact Or.inl rfl | exact Or.inr rfl)) (pss_cons (ps_for PassesOwn.never rfl (pi_tup (pv 3)) (pg_tup rfl (pgs_cons (pg_name (i := 4) sc_parts.nd rfl (by first | exact Or.inl rfl | exact Or.inr rfl)) (pgs_cons (pg_name (i := 5) sc_parts.nd rfl (by first | exact Or.inl rfl | exact Or.inr rfl)) pgs_nil))) (pss_cons (ps_expr (pe_bm PySem.F.plainAttrs_list PySem.F.slot_list_append PySem.F.type_list_append mt_append (pv 2) (pa_cons (pv 4) pa_nil))) (pss_cons (ps_expr (pe_bm PySem.F.plainAttrs_list PySem.F.slot_list_append PySem.F.type_list_append mt_append (pv 2) (pa_cons (pe_op op_add (pv 5) pe_int) pa_nil))) pss_nil))) pss_nil)) (pss_cons (ps_set (i := 6) sc_parts.nd rfl (by first | exact Or.inl rfl | exact Or.inr rfl) (pe_callB (cr_sortS rfl) (by rfl) T.n_sorted bb_sorted (pa_cons (pe_callTy (cr_setL rfl) (by rfl) T.n_set bb_set (pa_cons (pv 2) pa_nil)) pa_nil))) (pss_cons (ps_ret (pe_lc (own := [("low", 4), ("behind", 7)]) (g := (gTup K 2 (gCons (gName 4) (gCons (gName 7) gNil)))) rfl sc_parts.nd (pi_zip (by rfl) T.n_zip (pa_cons (pv 6) (pa_cons (pe_slice (slL_K (K := K) rfl) (pv 6) (po_some pe_int) po_none) pa_nil))) (blkOk_by (N := ["most", "some", "begins", "one", "low", "high", "rising", "behind"]) (sc := defScope s_parts) (by decide +kernel)) (fun _ _ _ _ _ => by exact (pg_tup rfl (pgs_cons (pg_name (i := 4) sc_parts.nd rfl (by first | exact Or.inl rfl | exact Or.inr rfl)) (pgs_cons (pg_name (i := 7) sc_parts.nd rfl (by first | exact Or.inl rfl | exact Or.inr rfl)) pgs_nil)))) (fun _ _ _ _ _ => by exact pts_nil) (fun _ _ _ _ _ => by exact (pe_tup (pa_cons (pv 4) (pa_cons (pe_op op_sub (pv 7) pe_int) pa_nil)))))) pss_nil)))), ?_⟩
    unfold m_parts at hm
    obtain ⟨H0, e0, q⟩ := heapN q
    obtain ⟨G, A, r_most, r_some⟩ : exists G, At G H [] ∧ rp K G v_most x_most ∧ rp K G v_some x_some := ⟨H, At.nil H, r_most, r_some⟩
    obtain ⟨x_begins, hx, hm⟩ := bnd hm
    refine st_newM (x_lst (l_cons (eb_int (K := K)) (l_cons (x_add (eb_v rfl (Rp.mono A.ex r_most)) (eb_int (K := K))) (l_nil (K := K))))) hx A fun p_begins vs_begins G1 H2 hp_begins g e A al_begins => ?_
    have ne0_begins := e0.back hp_begins
    replace r_most := Rp.mono g r_most
    replace r_some := Rp.mono g r_some
    replace e0 := e0.trans e
    obtain ⟨xs3, hx3, hm⟩ := bnd hm
    obtain ⟨w3, hl3, hm⟩ := bnd hm
    refine st_for (M := [p_begins]) (i_list (es_v rfl r_some A.ex (A.hM (by simp)))) hx3 fun J3 HL3 e wk3 => ?_
    replace A := A.grow e
    replace e0 := e0.trans e
    have eM3 : Gx (mns HL3 [p_begins]) HL3 := mns_ex
    have gL3 : Gx G1 G1 := Gx.rfl
    have neM3_begins : (mns HL3 [p_begins]) p_begins = none := mns_in (by simp)
    refine fold_run wk3 hl3 tg_n (fun (s3 : (List Int)) (σ : L2.St) (H : Hp) => exists (Gi : Hp) (k_one : Option V) (k_low : Option V) (k_high : Option V) (vs_begins : List V), σ = [some v_most, some v_some, some (.ref p_begins), k_one, k_low, k_high, none, none] ∧ Gx H0 H ∧ Gx (mns HL3 [p_begins]) H ∧ Gx G1 Gi ∧ At Gi H [(p_begins, HO.lst vs_begins)] ∧ Al (rp K Gi) vs_begins s3) (fun s σ H h => ?_) ?_ (fun s3 x3 o3 σ H7 H5 σ2 hxm hf hin e hb => ?_) (fun σ H26 hin => ?_)
    · obtain ⟨Gi, k_one, k_low, k_high, vs_begins, rfl, e0, eM3, gL3, A, al_begins⟩ := h
      exact eM3
    · exact ⟨_, _, _, _, _, rfl, e0, eM3, gL3, A, al_begins⟩
    · obtain ⟨G4, k_one, k_low, k_high, vs_begins, rfl, e0, eM3, gL3, A, al_begins⟩ := hin
      obtain ⟨v_one, r_one, rfl⟩ := hb
      replace A := A.grow e
      replace e0 := e0.trans e
      replace eM3 := eM3.trans e
      replace r_most := Rp.mono gL3 r_most
      replace r_some := Rp.mono gL3 r_some
      replace r_one := Im.im A.tx r_one
      have g := A.gh
      replace A := A.hid
      replace r_most := Rp.mono g r_most
      replace r_some := Rp.mono g r_some
      replace al_begins := al_begins.mono fun _ _ => Rp.mono g
      replace gL3 := gL3.trans g
      generalize hid _ _ = G8 at *
      have hm := hf
      unfold m_parts_l1 at hm
      obtain ⟨xs9, hx9, hm⟩ := bnd hm
      obtain ⟨w9, hl9, hm⟩ := bnd hm
      refine st_for (M := [p_begins]) (i_tup (es_v rfl r_one A.ex (A.hM (by simp)))) hx9 fun J9 HL9 e wk9 => ?_
      replace A := A.grow e
      replace e0 := e0.trans e
      replace eM3 := eM3.trans e
      have eM9 : Gx (mns HL9 [p_begins]) HL9 := mns_ex
      have gL9 : Gx G8 G8 := Gx.rfl
      have neM9_begins : (mns HL9 [p_begins]) p_begins = none := mns_in (by simp)
      refine fold_run wk9 hl9 (tg_p tg_n tg_n) (fun (s9 : (List Int)) (σ : L2.St) (H : Hp) => exists (Gi : Hp) (k_low : Option V) (k_high : Option V) (vs_begins : List V), σ = [some v_most, some v_some, some (.ref p_begins), some v_one, k_low, k_high, none, none] ∧ Gx H0 H ∧ Gx (mns HL3 [p_begins]) H ∧ Gx (mns HL9 [p_begins]) H ∧ Gx G1 Gi ∧ Gx G8 Gi ∧ At Gi H [(p_begins, HO.lst vs_begins)] ∧ Al (rp K Gi) vs_begins s9) (fun s σ H h => ?_) ?_ (fun s9 x9 o9 σ H13 H11 σ2 hxm hf hin e hb => ?_) (fun σ H24 hin => ?_)
      · obtain ⟨Gi, k_low, k_high, vs_begins, rfl, e0, eM3, eM9, gL3, gL9, A, al_begins⟩ := h
        exact eM9
      · exact ⟨_, _, _, _, rfl, e0, eM3, eM9, gL3, gL9, A, al_begins⟩
      · obtain ⟨G10, k_low, k_high, vs_begins, rfl, e0, eM3, eM9, gL3, gL9, A, al_begins⟩ := hin
        obtain ⟨_, ⟨v_low, r_low, rfl⟩, ⟨v_high, r_high, rfl⟩⟩ := hb
        replace A := A.grow e
        replace e0 := e0.trans e
        replace eM3 := eM3.trans e
        replace eM9 := eM9.trans e
        replace r_most := Rp.mono gL9 r_most
        replace r_some := Rp.mono gL9 r_some
        replace r_one := Rp.mono gL9 r_one
        replace r_low := Im.im A.tx r_low
        replace r_high := Im.im A.tx r_high
        have g := A.gh
        replace A := A.hid
        replace r_most := Rp.mono g r_most
        replace r_some := Rp.mono g r_some
        replace al_begins := al_begins.mono fun _ _ => Rp.mono g
        replace r_one := Rp.mono g r_one
        replace gL3 := gL3.trans g
        replace gL9 := gL9.trans g
        generalize hid _ _ = G14 at *
        have hm := hf
        unfold m_parts_l2 at hm
        obtain ⟨y15, hy15, hm⟩ := bnd hm
        obtain ⟨x_begins, hd, hm⟩ := bnd hm
        replace hd := fApps hd
        refine st_app (L1 := []) (slot_ref rfl) ((eb_v rfl (Rp.mono A.ex r_low))).own hy15 A (by rw [al_begins.len]; exact hd.2) fun v_y15 G16 H17 g e A r_y15 => ?_
        replace r_most := Rp.mono g r_most
        replace r_some := Rp.mono g r_some
        replace al_begins := al_begins.mono fun _ _ => Rp.mono g
        replace r_one := Rp.mono g r_one
        replace r_low := Rp.mono g r_low
        replace r_high := Rp.mono g r_high
        replace gL3 := gL3.trans g
        replace gL9 := gL9.trans g
        replace e0 := e0.trans e
        replace eM3 := eM3.trans e
        replace eM9 := eM9.trans e
        replace al_begins := al_begins.app (Al.one r_y15)
        rw [← hd.1] at al_begins
        replace e0 := Gx.mutA e0 ne0_begins A
        replace eM3 := Gx.mutA eM3 neM3_begins A
        replace eM9 := Gx.mutA eM9 neM9_begins A
        generalize upd _ p_begins (.lst _) = H18 at A e0 eM3 eM9 ⊢
        obtain ⟨y19, hy19, hm⟩ := bnd hm
        obtain ⟨x_begins, hd, hm⟩ := bnd hm
        replace hd := fApps hd
        refine st_app (L1 := []) (slot_ref rfl) ((x_add (eb_v rfl (Rp.mono A.ex r_high)) (eb_int (K := K)))).own hy19 A (by rw [al_begins.len]; exact hd.2) fun v_y19 G20 H21 g e A r_y19 => ?_
        replace r_most := Rp.mono g r_most
        replace r_some := Rp.mono g r_some
        replace al_begins := al_begins.mono fun _ _ => Rp.mono g
        replace r_one := Rp.mono g r_one
        replace r_low := Rp.mono g r_low
        replace r_high := Rp.mono g r_high
        replace gL3 := gL3.trans g
        replace gL9 := gL9.trans g
        replace e0 := e0.trans e
        replace eM3 := eM3.trans e
        replace eM9 := eM9.trans e
        replace al_begins := al_begins.app (Al.one r_y19)
        rw [← hd.1] at al_begins
        replace e0 := Gx.mutA e0 ne0_begins A
        replace eM3 := Gx.mutA eM3 neM3_begins A
        replace eM9 := Gx.mutA eM9 neM9_begins A
        generalize upd _ p_begins (.lst _) = H22 at A e0 eM3 eM9 ⊢
        obtain rfl := Option.some.inj hm
        exact ⟨_, _, _, _, rfl, e0, eM3, eM9, gL3, gL9, A, al_begins⟩
      · obtain ⟨G23, k_low, k_high, vs_begins, rfl, e0, eM3, eM9, gL3, gL9, A, al_begins⟩ := hin
        replace r_most := Rp.mono gL9 r_most
        replace r_some := Rp.mono gL9 r_some
        replace r_one := Rp.mono gL9 r_one
        obtain rfl := Option.some.inj hm
        exact ⟨_, _, _, _, _, rfl, e0, eM3, gL3, A, al_begins⟩
    · obtain ⟨G25, k_one, k_low, k_high, vs_begins, rfl, e0, eM3, gL3, A, al_begins⟩ := hin
      replace r_most := Rp.mono gL3 r_most
      replace r_some := Rp.mono gL3 r_some
      obtain ⟨x_rising, hx, hm⟩ := bnd hm
      refine st_asg ((x_sortSet (eb_v rfl (mv_rp A (List.Mem.head _) al_begins)))).own hx A fun v_rising G27 H28 g e A r_rising => ?_
      replace r_most := Rp.mono g r_most
      replace r_some := Rp.mono g r_some
      replace al_begins := al_begins.mono fun _ _ => Rp.mono g
      replace e0 := e0.trans e
      exact sr_n (x_lc (i_zip (es_b (eb_v rfl (Rp.mono A.ex r_rising))) (es_b ((x_cut (eb_v rfl (Rp.mono A.ex r_rising)) (ep_some (eb_int (K := K))) ep_none)).b)) (tg_p tg_n tg_n) (bi_p (bi_n (by decide)) (bi_n (by decide))) (fun y29 σc Hc gh29 hb29 => by obtain ⟨_, ⟨c29v_low, c29r_low, rfl⟩, ⟨c29v_behind, c29r_behind, rfl⟩⟩ := hb29; exact t_yes) (fun y29 σc Hc gh29 hb29 => by obtain ⟨_, ⟨c29v_low, c29r_low, rfl⟩, ⟨c29v_behind, c29r_behind, rfl⟩⟩ := hb29; exact (x_pair (eb_v rfl c29r_low) (x_sub (eb_v rfl c29r_behind) (eb_int (K := K)))))) hm fun p ws H hp e h r => q p ws H (e0.back hp) (e0.trans e) h r
/-! _law_mixed -/
def m_law_mixed (x_law_cell : Int) (x_law_k : Int) : Option Int := ((o2 fMod (o2 fAdd (o2 fAdd (o2 fMul (some x_law_cell) (some (48271 : Int))) (o2 fMul (some (7919 : Int)) (some x_law_k))) (some (11 : Int))) (some (1000003 : Int)))).bind fun x_law_number => (o2 fMod (o2 fMul (o2 fMod (o2 fMul (some x_law_number) (some x_law_number)) (some (1000003 : Int))) (some x_law_number)) (some (1000003 : Int)))
set_option maxHeartbeats 4000000 in
theorem ok_law_mixed {P : Program} {w : World} {K : Fg} {mg : Str → Option Value} {base : Heap} (T : Txt K mg) : FnOk P w K mg base CX0 1 T.a_law_mixed T.d_law_mixed ["_law_cell", "_law_k"] (PSb K (A2 K m_law_mixed)) := by
  refine T.F_law_mixed.ok sc_law_mixed (fun vs H Q E h => ?_) (fun cdv A0 outer s H vs Q E hr h => ?_)
  · obtain ⟨r, ⟨v_law_cell, v_law_k, x_law_cell, x_law_k, rfl, r_law_cell, r_law_k, hm⟩, q⟩ := h
    rfl
  · obtain ⟨r_fn, ⟨v_law_cell, v_law_k, x_law_cell, x_law_k, rfl, r_law_cell, r_law_k, hm⟩, q⟩ := h
    refine ⟨_, (pss_cons (ps_set (i := 2) sc_law_mixed.nd rfl (by first | exact Or.inl rfl | exact Or.inr rfl) (pe_op op_mod (pe_op op_add (pe_op op_add (pe_op op_mul (pv 0) pe_int) (pe_op op_mul pe_int (pv 1))) pe_int) pe_int)) (pss_cons (ps_ret (pe_op op_mod (pe_op op_mul (pe_op op_mod (pe_op op_mul (pv 2) (pv 2)) pe_int) (pv 2)) pe_int)) pss_nil)), ?_⟩
    unfold m_law_mixed at hm
    obtain ⟨H0, e0, q⟩ := heapB q
    obtain ⟨G, A, r_law_cell, r_law_k⟩ : exists G, At G H [] ∧ rp K G v_law_cell x_law_cell ∧ rp K G v_law_k x_law_k := ⟨H, At.nil H, r_law_cell, r_law_k⟩
    obtain ⟨x_law_number, hx, hm⟩ := bnd hm
    refine st_asg ((x_mod (x_add (x_add (x_mul (eb_v rfl (Rp.mono A.ex r_law_cell)) (eb_int (K := K))) (x_mul (eb_int (K := K)) (eb_v rfl (Rp.mono A.ex r_law_k)))) (eb_int (K := K))) (eb_int (K := K)))).own hx A fun v_law_number G30 H31 g e A r_law_number => ?_
    replace r_law_cell := Rp.mono g r_law_cell
    replace r_law_k := Rp.mono g r_law_k
    replace e0 := e0.trans e
    exact sr_b (x_mod (x_mul (x_mod (x_mul (eb_v rfl (Rp.mono A.ex r_law_number)) (eb_v rfl (Rp.mono A.ex r_law_number))) (eb_int (K := K))) (eb_v rfl (Rp.mono A.ex r_law_number))) (eb_int (K := K))) hm fun w H e r => q w H (e0.trans e) r
/-! _law_great -/
def m_law_great (x_law_cell : Int) (x_law_k : Int) : Option Int := (o2 fMod (o2 fAdd (o2 fMul (o2 m_law_mixed (some x_law_cell) (some x_law_k)) (some (1000003 : Int))) (o2 m_law_mixed (some x_law_cell) (o2 fAdd (some x_law_k) (some (500 : Int))))) (o2 fPow (some (10 : Int)) (some (12 : Int))))
set_option maxHeartbeats 4000000 in
theorem ok_law_great {P : Program} {w : World} {K : Fg} {mg : Str → Option Value} {base : Heap} (T : Txt K mg) : FnOk P w K mg base CX0 2 T.a_law_great T.d_law_great ["_law_cell", "_law_k"] (PSb K (A2 K m_law_great)) := by
  refine T.F_law_great.ok sc_law_great (fun vs H Q E h => ?_) (fun cdv A0 outer s H vs Q E hr h => ?_)
  · obtain ⟨r, ⟨v_law_cell, v_law_k, x_law_cell, x_law_k, rfl, r_law_cell, r_law_k, hm⟩, q⟩ := h
    rfl
  · obtain ⟨r_fn, ⟨v_law_cell, v_law_k, x_law_cell, x_law_k, rfl, r_law_cell, r_law_k, hm⟩, q⟩ := h
    refine ⟨_, (pss_cons (ps_ret (pe_op op_mod (pe_op op_add (pe_op op_mul (pe_call (ok_law_mixed T) (hr.mono (by decide)) (by rfl) T.g_law_mixed T.F_law_mixed.kp T.b_law_mixed .nil pass0 (pa_cons (pv 0) (pa_cons (pv 1) pa_nil))) pe_int) (pe_call (ok_law_mixed T) (hr.mono (by decide)) (by rfl) T.g_law_mixed T.F_law_mixed.kp T.b_law_mixed .nil pass0 (pa_cons (pv 0) (pa_cons (pe_op op_add (pv 1) pe_int) pa_nil)))) (pe_op op_pow pe_int pe_int))) pss_nil), ?_⟩
    unfold m_law_great at hm
    obtain ⟨H0, e0, q⟩ := heapB q
    obtain ⟨G, A, r_law_cell, r_law_k⟩ : exists G, At G H [] ∧ rp K G v_law_cell x_law_cell ∧ rp K G v_law_k x_law_k := ⟨H, At.nil H, r_law_cell, r_law_k⟩
    exact sr_b (x_mod (x_add (x_mul (eb_call (em2 (eb_v rfl (Rp.mono A.ex r_law_cell)) (eb_v rfl (Rp.mono A.ex r_law_k)))) (eb_int (K := K))) (eb_call (em2 (eb_v rfl (Rp.mono A.ex r_law_cell)) (x_add (eb_v rfl (Rp.mono A.ex r_law_k)) (eb_int (K := K)))))) (x_pow (eb_int (K := K)) (eb_int (K := K)))) hm fun w H e r => q w H (e0.trans e) r
/-! _law_point -/
def m_law_point (x_law_cell : Int) (x_law_k : Int) (x_law_most : Int) (x_law_ahead : (List Int)) : Option Int := ((o2 m_law_mixed (some x_law_cell) (o2 fAdd (o2 fMul (some (3 : Int)) (some x_law_k)) (some (20 : Int))))).bind fun x_law_way => ((oAnd (o2 fNe (some x_law_ahead) (o1 szOk (some ([] : List Int)))) (o2 fEq (o2 fMod (some x_law_way) (some (2 : Int))) (some (0 : Int))))).bind fun b34 => if b34 = true then (o2 fMax (some (0 : Int)) (o2 fMin (some x_law_most) (o2 fSub (o2 fAdd (o2 ix (some x_law_ahead) (o2 fMod (o2 fDiv (some x_law_way) (some (6 : Int))) (o1 fLen (some x_law_ahead)))) (o2 fMod (o2 fDiv (some x_law_way) (some (2 : Int))) (some (3 : Int)))) (some (1 : Int))))) else (o2 fMod (o2 m_law_great (some x_law_cell) (some x_law_k)) (o2 fAdd (some x_law_most) (some (1 : Int))))
set_option maxHeartbeats 4000000 in
theorem ok_law_point {P : Program} {w : World} {K : Fg} {mg : Str → Option Value} {base : Heap} (T : Txt K mg) : FnOk P w K mg base CX0 3 T.a_law_point T.d_law_point ["_law_cell", "_law_k", "_law_most", "_law_ahead"] (PSb K (A4 K m_law_point)) := by
  refine T.F_law_point.ok sc_law_point (fun vs H Q E h => ?_) (fun cdv A0 outer s H vs Q E hr h => ?_)
  · obtain ⟨r, ⟨v_law_cell, v_law_k, v_law_most, v_law_ahead, x_law_cell, x_law_k, x_law_most, x_law_ahead, rfl, r_law_cell, r_law_k, r_law_most, r_law_ahead, hm⟩, q⟩ := h
    rfl
  · obtain ⟨r_fn, ⟨v_law_cell, v_law_k, v_law_most, v_law_ahead, x_law_cell, x_law_k, x_law_most, x_law_ahead, rfl, r_law_cell, r_law_k, r_law_most, r_law_ahead, hm⟩, q⟩ := h
    refine ⟨_, (pss_cons (ps_set (i := 4) sc_law_point.nd rfl (by first | exact Or.inl rfl | exact Or.inr rfl) (pe_call (ok_law_mixed T) (hr.mono (by decide)) (by rfl) T.g_law_mixed T.F_law_mixed.kp T.b_law_mixed .nil pass0 (pa_cons (pv 0) (pa_cons (pe_op op_add (pe_op op_mul pe_int (pv 1)) pe_int) pa_nil)))) (pss_cons (ps_if (PW.pt (pw_and (pt_cmpR (opNe_K (K := K) rfl hr.units) (pv 3) (pe_lst pa_nil) (nomark _)) (pw_and1 (pt_cmpR (opEq_K (K := K) rfl hr.units) (pe_op op_mod (pv 4) pe_int) pe_int (nomark _))))) (pss_cons (ps_ret (pe_callB (call_max2 rfl) (by rfl) T.n_max bb_max (pa_cons pe_int (pa_cons (pe_callB (call_min2 rfl) (by rfl) T.n_min bb_min (pa_cons (pv 2) (pa_cons (pe_op op_sub (pe_op op_add (pe_ix (ixL_K (K := K) rfl) (pv 3) (pe_op op_mod (pe_op op_fdiv (pv 4) pe_int) (pe_callB (len_K (K := K) rfl) (by rfl) T.n_len bb_len (pa_cons (pv 3) pa_nil))) (fun _ _ => rfl)) (pe_op op_mod (pe_op op_fdiv (pv 4) pe_int) pe_int)) pe_int) pa_nil))) pa_nil)))) pss_nil) pss_nil) (pss_cons (ps_ret (pe_op op_mod (pe_call (ok_law_great T) (hr.mono (by decide)) (by rfl) T.g_law_great T.F_law_great.kp T.b_law_great .nil pass0 (pa_cons (pv 0) (pa_cons (pv 1) pa_nil))) (pe_op op_add (pv 2) pe_int))) pss_nil))), ?_⟩
    unfold m_law_point at hm
    obtain ⟨H0, e0, q⟩ := heapB q
    obtain ⟨G, A, r_law_cell, r_law_k, r_law_most, r_law_ahead⟩ : exists G, At G H [] ∧ rp K G v_law_cell x_law_cell ∧ rp K G v_law_k x_law_k ∧ rp K G v_law_most x_law_most ∧ rp K G v_law_ahead x_law_ahead := ⟨H, At.nil H, r_law_cell, r_law_k, r_law_most, r_law_ahead⟩
    obtain ⟨x_law_way, hx, hm⟩ := bnd hm
    refine st_asg ((eb_call (em2 (eb_v rfl (Rp.mono A.ex r_law_cell)) (x_add (x_mul (eb_int (K := K)) (eb_v rfl (Rp.mono A.ex r_law_k))) (eb_int (K := K)))))).own hx A fun v_law_way G32 H33 g e A r_law_way => ?_
    replace r_law_cell := Rp.mono g r_law_cell
    replace r_law_k := Rp.mono g r_law_k
    replace r_law_most := Rp.mono g r_law_most
    replace r_law_ahead := Rp.mono g r_law_ahead
    replace e0 := e0.trans e
    obtain ⟨b34, hb34, hm⟩ := bnd hm
    refine st_if (et_and (et_test (x_ne (by decide) (eb_v rfl (Rp.mono A.ex r_law_ahead)) ((x_lst (l_nil (K := K)))).b)) (et_test (x_eq (by decide) (x_mod (eb_v rfl (Rp.mono A.ex r_law_way)) (eb_int (K := K))) (eb_int (K := K))))) hb34 (fun eb34 H35 e => ?_) (fun eb34 H35 e => ?_)
    · subst eb34
      replace hm := itt hm
      replace A := A.grow e
      replace e0 := e0.trans e
      exact sr_b (x_max (eb_int (K := K)) (x_min (eb_v rfl (Rp.mono A.ex r_law_most)) (x_sub (x_add (x_ixL (eb_v rfl (Rp.mono A.ex r_law_ahead)) (x_mod (x_div (eb_v rfl (Rp.mono A.ex r_law_way)) (eb_int (K := K))) (x_lenL (eb_v rfl (Rp.mono A.ex r_law_ahead))))) (x_mod (x_div (eb_v rfl (Rp.mono A.ex r_law_way)) (eb_int (K := K))) (eb_int (K := K)))) (eb_int (K := K))))) hm fun w H e r => q w H (e0.trans e) r
    · subst eb34
      replace hm := itf hm
      replace A := A.grow e
      replace e0 := e0.trans e
      exact sr_b (x_mod (eb_call (em2 (eb_v rfl (Rp.mono A.ex r_law_cell)) (eb_v rfl (Rp.mono A.ex r_law_k)))) (x_add (eb_v rfl (Rp.mono A.ex r_law_most)) (eb_int (K := K)))) hm fun w H e r => q w H (e0.trans e) r
/-! _law_toggled -/
def m_law_toggled (x_law_most : Int) (x_law_points : (List Int)) : Option (Tl (Int × Int)) := ((o1 fSortSet (some x_law_points))).bind fun x_law_rows => ((o2 fEq (o2 fMod (o1 fLen (some x_law_rows)) (some (2 : Int))) (some (1 : Int)))).bind fun b38 => if b38 = true then (((o2 fAdd (some x_law_most) (some (1 : Int)))).bind fun y40 => (fApp x_law_rows y40).bind fun x_law_rows => (o1 fTuple (oComp (fun (y44 : (Int × Int)) => (some true)) (fun (y44 : (Int × Int)) => (o2 fPair (some y44.1) (o2 fSub (some y44.2) (some (1 : Int))))) (o2 fZip (o3 (fStep 2) (some x_law_rows) (some none) (some none)) (o3 (fStep 2) (some x_law_rows) (((some (1 : Int))).map some) (some none)))))) else (o1 fTuple (oComp (fun (y45 : (Int × Int)) => (some true)) (fun (y45 : (Int × Int)) => (o2 fPair (some y45.1) (o2 fSub (some y45.2) (some (1 : Int))))) (o2 fZip (o3 (fStep 2) (some x_law_rows) (some none) (some none)) (o3 (fStep 2) (some x_law_rows) (((some (1 : Int))).map some) (some none)))))
set_option maxHeartbeats 4000000 in
theorem ok_law_toggled {P : Program} {w : World} {K : Fg} {mg : Str → Option Value} {base : Heap} (T : Txt K mg) : FnOk P w K mg base CX0 1 T.a_law_toggled T.d_law_toggled ["_law_most", "_law_points"] (PSb K (A2 K m_law_toggled)) := by
  refine T.F_law_toggled.ok sc_law_toggled (fun vs H Q E h => ?_) (fun cdv A0 outer s H vs Q E hr h => ?_)
  · obtain ⟨r, ⟨v_law_most, v_law_points, x_law_most, x_law_points, rfl, r_law_most, r_law_points, hm⟩, q⟩ := h
    rfl
  · obtain ⟨r_fn, ⟨v_law_most, v_law_points, x_law_most, x_law_points, rfl, r_law_most, r_law_points, hm⟩, q⟩ := h
    refine ⟨_, (pss_cons (ps_set (i := 2) sc_law_toggled.nd rfl (by first | exact Or.inl rfl | exact Or.inr rfl) (pe_callB (cr_sortS rfl) (by rfl) T.n_sorted bb_sorted (pa_cons (pe_callTy (cr_setL rfl) (by rfl) T.n_set bb_set (pa_cons (pv 1) pa_nil)) pa_nil))) (pss_cons (ps_if (pt_cmpR (opEq_K (K := K) rfl hr.units) (pe_op op_mod (pe_callB (len_K (K := K) rfl) (by rfl) T.n_len bb_len (pa_cons (pv 2) pa_nil)) pe_int) pe_int (nomark _)) (pss_cons (ps_expr (pe_bm PySem.F.plainAttrs_list PySem.F.slot_list_append PySem.F.type_list_append mt_append (pv 2) (pa_cons (pe_op op_add (pv 0) pe_int) pa_nil))) pss_nil) pss_nil) (pss_cons (ps_ret (pe_callTy (tof_K (K := K) rfl) (by rfl) T.n_tuple bb_tuple (pa_cons (pe_lc (own := [("_law_low", 3), ("_law_behind", 4)]) (g := (gTup K 2 (gCons (gName 3) (gCons (gName 4) gNil)))) rfl sc_law_toggled.nd (pi_zip (by rfl) T.n_zip (pa_cons (pe_slice3 (n := 2) (by decide) (pv 2) po_none po_none) (pa_cons (pe_slice3 (n := 2) (by decide) (pv 2) (po_some pe_int) po_none) pa_nil))) (blkOk_by (N := ["_law_most", "_law_points", "_law_rows", "_law_low", "_law_behind"]) (sc := defScope s_law_toggled) (by decide +kernel)) (fun _ _ _ _ _ => by exact (pg_tup rfl (pgs_cons (pg_name (i := 3) sc_law_toggled.nd rfl (by first | exact Or.inl rfl | exact Or.inr rfl)) (pgs_cons (pg_name (i := 4) sc_law_toggled.nd rfl (by first | exact Or.inl rfl | exact Or.inr rfl)) pgs_nil)))) (fun _ _ _ _ _ => by exact pts_nil) (fun _ _ _ _ _ => by exact (pe_tup (pa_cons (pv 3) (pa_cons (pe_op op_sub (pv 4) pe_int) pa_nil))))) pa_nil))) pss_nil))), ?_⟩
    unfold m_law_toggled at hm
    obtain ⟨H0, e0, q⟩ := heapB q
    obtain ⟨G, A, r_law_most, r_law_points⟩ : exists G, At G H [] ∧ rp K G v_law_most x_law_most ∧ rp K G v_law_points x_law_points := ⟨H, At.nil H, r_law_most, r_law_points⟩
    obtain ⟨x_law_rows, hx, hm⟩ := bnd hm
    refine st_newM (x_sortSet (eb_v rfl (Rp.mono A.ex r_law_points))) hx A fun p_law_rows vs_law_rows G36 H37 hp_law_rows g e A al_law_rows => ?_
    have ne0_law_rows := e0.back hp_law_rows
    replace r_law_most := Rp.mono g r_law_most
    replace r_law_points := Rp.mono g r_law_points
    replace e0 := e0.trans e
    obtain ⟨b38, hb38, hm⟩ := bnd hm
    refine st_if (et_test (x_eq (by decide) (x_mod (x_lenL (eb_v rfl (mv_rp A (List.Mem.head _) al_law_rows))) (eb_int (K := K))) (eb_int (K := K)))) hb38 (fun eb38 H39 e => ?_) (fun eb38 H39 e => ?_)
    · subst eb38
      replace hm := itt hm
      replace A := A.grow e
      replace e0 := e0.trans e
      obtain ⟨y40, hy40, hm⟩ := bnd hm
      obtain ⟨x_law_rows, hd, hm⟩ := bnd hm
      replace hd := fApps hd
      refine st_app (L1 := []) (slot_ref rfl) ((x_add (eb_v rfl (Rp.mono A.ex r_law_most)) (eb_int (K := K)))).own hy40 A (by rw [al_law_rows.len]; exact hd.2) fun v_y40 G41 H42 g e A r_y40 => ?_
      replace r_law_most := Rp.mono g r_law_most
      replace r_law_points := Rp.mono g r_law_points
      replace al_law_rows := al_law_rows.mono fun _ _ => Rp.mono g
      replace e0 := e0.trans e
      replace al_law_rows := al_law_rows.app (Al.one r_y40)
      rw [← hd.1] at al_law_rows
      replace e0 := Gx.mutA e0 ne0_law_rows A
      generalize upd _ p_law_rows (.lst _) = H43 at A e0 ⊢
      exact sr_b (x_tuple ((x_lc (i_zip (es_b ((x_step (n := 2) (eb_v rfl (mv_rp A (List.Mem.head _) al_law_rows)) ep_none ep_none)).b) (es_b ((x_step (n := 2) (eb_v rfl (mv_rp A (List.Mem.head _) al_law_rows)) (ep_some (eb_int (K := K))) ep_none)).b)) (tg_p tg_n tg_n) (bi_p (bi_n (by decide)) (bi_n (by decide))) (fun y44 σc Hc gh44 hb44 => by obtain ⟨_, ⟨c44v_law_low, c44r_law_low, rfl⟩, ⟨c44v_law_behind, c44r_law_behind, rfl⟩⟩ := hb44; exact t_yes) (fun y44 σc Hc gh44 hb44 => by obtain ⟨_, ⟨c44v_law_low, c44r_law_low, rfl⟩, ⟨c44v_law_behind, c44r_law_behind, rfl⟩⟩ := hb44; exact (x_pair (eb_v rfl c44r_law_low) (x_sub (eb_v rfl c44r_law_behind) (eb_int (K := K))))))).b) hm fun w H e r => q w H (e0.trans e) r
    · subst eb38
      replace hm := itf hm
      replace A := A.grow e
      replace e0 := e0.trans e
      exact sr_b (x_tuple ((x_lc (i_zip (es_b ((x_step (n := 2) (eb_v rfl (mv_rp A (List.Mem.head _) al_law_rows)) ep_none ep_none)).b) (es_b ((x_step (n := 2) (eb_v rfl (mv_rp A (List.Mem.head _) al_law_rows)) (ep_some (eb_int (K := K))) ep_none)).b)) (tg_p tg_n tg_n) (bi_p (bi_n (by decide)) (bi_n (by decide))) (fun y45 σc Hc gh45 hb45 => by obtain ⟨_, ⟨c45v_law_low, c45r_law_low, rfl⟩, ⟨c45v_law_behind, c45r_law_behind, rfl⟩⟩ := hb45; exact t_yes) (fun y45 σc Hc gh45 hb45 => by obtain ⟨_, ⟨c45v_law_low, c45r_law_low, rfl⟩, ⟨c45v_law_behind, c45r_law_behind, rfl⟩⟩ := hb45; exact (x_pair (eb_v rfl c45r_law_low) (x_sub (eb_v rfl c45r_law_behind) (eb_int (K := K))))))).b) hm fun w H e r => q w H (e0.trans e) r
/-! _law_in -/
def m_law_in (x_law_one : (Tl (Int × Int))) (x_law_number : Int) : Option Bool := (o1 fAny (oComp (fun (y46 : (Int × Int)) => (some true)) (fun (y46 : (Int × Int)) => (oChain fLe fLe (some y46.1) (some x_law_number) (some y46.2))) (((some x_law_one)).map Tl.l)))
set_option maxHeartbeats 4000000 in
theorem ok_law_in {P : Program} {w : World} {K : Fg} {mg : Str → Option Value} {base : Heap} (T : Txt K mg) : FnOk P w K mg base CX0 1 T.a_law_in T.d_law_in ["_law_one", "_law_number"] (PSb K (A2 K m_law_in)) := by
  refine T.F_law_in.ok sc_law_in (fun vs H Q E h => ?_) (fun cdv A0 outer s H vs Q E hr h => ?_)
  · obtain ⟨r, ⟨v_law_one, v_law_number, x_law_one, x_law_number, rfl, r_law_one, r_law_number, hm⟩, q⟩ := h
    rfl
  · obtain ⟨r_fn, ⟨v_law_one, v_law_number, x_law_one, x_law_number, rfl, r_law_one, r_law_number, hm⟩, q⟩ := h
    refine ⟨_, (pss_cons (ps_ret (pe_callB (cr_any rfl) (by rfl) T.n_any bb_any (pa_cons (pe_lc (own := [("_law_low", 2), ("_law_high", 3)]) (g := (gTup K 2 (gCons (gName 2) (gCons (gName 3) gNil)))) rfl sc_law_in.nd (pi_tup (pv 0)) (blkOk_by (N := ["_law_one", "_law_number", "_law_low", "_law_high"]) (sc := defScope s_law_in) (by decide +kernel)) (fun _ _ _ _ _ => by exact (pg_tup rfl (pgs_cons (pg_name (i := 2) sc_law_in.nd rfl (by first | exact Or.inl rfl | exact Or.inr rfl)) (pgs_cons (pg_name (i := 3) sc_law_in.nd rfl (by first | exact Or.inl rfl | exact Or.inr rfl)) pgs_nil)))) (fun _ _ _ _ _ => by exact pts_nil) (fun _ _ _ _ _ => by exact (by exact pe_chain op_le op_le (pv 2) (pv 1) (pv 3)))) pa_nil))) pss_nil), ?_⟩
    unfold m_law_in at hm
    obtain ⟨H0, e0, q⟩ := heapB q
    obtain ⟨G, A, r_law_one, r_law_number⟩ : exists G, At G H [] ∧ rp K G v_law_one x_law_one ∧ rp K G v_law_number x_law_number := ⟨H, At.nil H, r_law_one, r_law_number⟩
    exact sr_b (x_any ((x_lc (i_tup (es_b (eb_v rfl (Rp.mono A.ex r_law_one)))) (tg_p tg_n tg_n) (bi_p (bi_n (by decide)) (bi_n (by decide))) (fun y46 σc Hc gh46 hb46 => by obtain ⟨_, ⟨c46v_law_low, c46r_law_low, rfl⟩, ⟨c46v_law_high, c46r_law_high, rfl⟩⟩ := hb46; exact t_yes) (fun y46 σc Hc gh46 hb46 => by obtain ⟨_, ⟨c46v_law_low, c46r_law_low, rfl⟩, ⟨c46v_law_high, c46r_law_high, rfl⟩⟩ := hb46; exact (x_lele (eb_v rfl c46r_law_low) (eb_v rfl (Rp.mono gh46 (Rp.mono A.ex r_law_number))) (eb_v rfl c46r_law_high))))).b) hm fun w H e r => q w H (e0.trans e) r
/-! _law_most_by -/
def m_law_most_by (x_law_script : Scr) : Option Int := ((o1 fSum (oComp (fun (y47 : Int) => (some true)) (fun (y47 : Int) => (o2 m_law_mixed (some y47) (some (3 : Int)))) (o3 fCutS (some x_law_script) (some none) (((some (80 : Int))).map some))))).bind fun x_law_cell => (o2 ix (o1 szOk (o2 fCons (o2 fMod (some x_law_cell) (some (40 : Int))) (o2 fCons (o2 fPow (some (10 : Int)) (some (12 : Int))) (o2 fCons (o2 m_law_great (some x_law_cell) (some (5 : Int))) (o2 fCons (o2 fMod (some x_law_cell) (some (7 : Int))) (some ([] : List Int))))))) (o2 fMod (o2 fDiv (some x_law_cell) (some (40 : Int))) (some (4 : Int))))
set_option maxHeartbeats 4000000 in
theorem ok_law_most_by {P : Program} {w : World} {K : Fg} {mg : Str → Option Value} {base : Heap} (T : Txt K mg) : FnOk P w K mg base CX0 3 T.a_law_most_by T.d_law_most_by ["_law_script"] (PSb K (A1 K m_law_most_by)) := by
  refine T.F_law_most_by.ok sc_law_most_by (fun vs H Q E h => ?_) (fun cdv A0 outer s H vs Q E hr h => ?_)
  · obtain ⟨r, ⟨v_law_script, x_law_script, rfl, r_law_script, hm⟩, q⟩ := h
    rfl
  · obtain ⟨r_fn, ⟨v_law_script, x_law_script, rfl, r_law_script, hm⟩, q⟩ := h
    refine ⟨_, (pss_cons (ps_set (i := 1) sc_law_most_by.nd rfl (by first | exact Or.inl rfl | exact Or.inr rfl) (pe_callB (cr_sum rfl) (by rfl) T.n_sum bb_sum (pa_cons (pe_lc (own := [("_law_cell", 1)]) (g := (gName 1)) rfl sc_law_most_by.nd (pi_list (pe_slice (slL_K (K := K) rfl) (pv 0) po_none (po_some pe_int))) (blkOk_by (N := ["_law_script", "_law_cell"]) (sc := defScope s_law_most_by) (by decide +kernel)) (fun _ _ _ _ _ => by exact (pg_name (i := 1) sc_law_most_by.nd rfl (by first | exact Or.inl rfl | exact Or.inr rfl))) (fun _ _ _ _ _ => by exact pts_nil) (fun _ _ _ _ _ => by exact (pe_call (ok_law_mixed T) (hr.mono (by decide)) (by rfl) T.g_law_mixed T.F_law_mixed.kp T.b_law_mixed .nil pass0 (pa_cons (pv 1) (pa_cons pe_int pa_nil))))) pa_nil))) (pss_cons (ps_ret (pe_ix (ixL_K (K := K) rfl) (pe_lst (pa_cons (pe_op op_mod (pv 1) pe_int) (pa_cons (pe_op op_pow pe_int pe_int) (pa_cons (pe_call (ok_law_great T) (hr.mono (by decide)) (by rfl) T.g_law_great T.F_law_great.kp T.b_law_great .nil pass0 (pa_cons (pv 1) (pa_cons pe_int pa_nil))) (pa_cons (pe_op op_mod (pv 1) pe_int) pa_nil))))) (pe_op op_mod (pe_op op_fdiv (pv 1) pe_int) pe_int) (fun _ _ => rfl))) pss_nil)), ?_⟩
    unfold m_law_most_by at hm
    obtain ⟨H0, e0, q⟩ := heapB q
    obtain ⟨G, A, r_law_script⟩ : exists G, At G H [] ∧ rp K G v_law_script x_law_script := ⟨H, At.nil H, r_law_script⟩
    obtain ⟨x_law_cell, hx, hm⟩ := bnd hm
    refine st_asg ((x_sum ((x_lc (i_list (es_b ((x_cutS (eb_v rfl (Rp.mono A.ex r_law_script)) ep_none (ep_some (eb_int (K := K))))).b)) tg_n (bi_n (by decide)) (fun y47 σc Hc gh47 hb47 => by obtain ⟨c47v_law_cell, c47r_law_cell, rfl⟩ := hb47; exact t_yes) (fun y47 σc Hc gh47 hb47 => by obtain ⟨c47v_law_cell, c47r_law_cell, rfl⟩ := hb47; exact (eb_call (em2 (eb_v rfl c47r_law_cell) (eb_int (K := K))))))).b)).own hx A fun v_law_cell G48 H49 g e A r_law_cell => ?_
    replace r_law_script := Rp.mono g r_law_script
    replace e0 := e0.trans e
    exact sr_b (x_ixL ((x_lst (l_cons (x_mod (eb_v rfl (Rp.mono A.ex r_law_cell)) (eb_int (K := K))) (l_cons (x_pow (eb_int (K := K)) (eb_int (K := K))) (l_cons (eb_call (em2 (eb_v rfl (Rp.mono A.ex r_law_cell)) (eb_int (K := K)))) (l_cons (x_mod (eb_v rfl (Rp.mono A.ex r_law_cell)) (eb_int (K := K))) (l_nil (K := K)))))))).b (x_mod (x_div (eb_v rfl (Rp.mono A.ex r_law_cell)) (eb_int (K := K))) (eb_int (K := K)))) hm fun w H e r => q w H (e0.trans e) r
/-! _law_right -/
def m_law_right_l2 (z68_law_borders : (List Int)) (s68 : Unit) (x68 : (Int × Int)) : Option (Unit ⊕ Bool) := ((o1 fAny (oComp (fun (y74 : Int) => (some true)) (fun (y74 : Int) => (oChain fLt fLe (some x68.1) (some y74) (some x68.2))) (some z68_law_borders)))).bind fun b75 => if b75 = true then (((some false)).bind fun y77 => some (Sum.inr y77)) else (some (Sum.inl ()))
def m_law_right_l1 (z58_law_found : (List (Int × Int))) (s58 : Unit) (x58 : (Tl (Int × Int))) : Option (Unit ⊕ Bool) := ((o2 fCat (oComp (fun (y64 : (Int × Int)) => (some true)) (fun (y64 : (Int × Int)) => (some y64.1)) (((some x58)).map Tl.l)) (oComp (fun (y65 : (Int × Int)) => (some true)) (fun (y65 : (Int × Int)) => (o2 fAdd (some y65.2) (some (1 : Int)))) (((some x58)).map Tl.l)))).bind fun x_law_borders => ((some z58_law_found)).bind fun xs68 => (loopM (m_law_right_l2 x_law_borders) () xs68).bind fun res68 => braR (fun w68 => some (Sum.inl ())) res68
def m_law_right_l3 (z82_law_some : (List (Tl (Int × Int)))) (s82 : Unit) (x82 : ((Int × Int) × (Int × Int))) : Option (Unit ⊕ Bool) := ((oNot (o1 fAny (oComp (fun (y88 : (Tl (Int × Int))) => (some true)) (fun (y88 : (Tl (Int × Int))) => (o2 fNe (o2 m_law_in (some y88) (o1 fSnd (some x82.1))) (o2 m_law_in (some y88) (o1 fFst (some x82.2))))) (some z82_law_some))))).bind fun b89 => if b89 = true then (((some false)).bind fun y91 => some (Sum.inr y91)) else (some (Sum.inl ()))
def m_law_right (x_law_most : Int) (x_law_some : (List (Tl (Int × Int)))) (x_law_found : (List (Int × Int))) : Option Bool := ((oOr (oNot (o1 (fIs true) (some x_law_found))) (oOr (o2 fEq (some x_law_found) (o1 szOk (some ([] : List (Int × Int))))) (oOr (o2 fNe (o1 fFst (o2 ix (some x_law_found) (some (0 : Int)))) (some (0 : Int))) (o2 fNe (o1 fSnd (o2 ix (some x_law_found) (o1 fNeg (some (1 : Int))))) (some x_law_most)))))).bind fun b50 => if b50 = true then (some false) else (((oNot (o1 fAll (oComp (fun (y52 : (Int × Int)) => (some true)) (fun (y52 : (Int × Int)) => (oAnd (o1 (fIs true) (some y52)) (oAnd (o2 fEq (o1 fLen2 (some y52)) (some (2 : Int))) (o2 fLe (o1 fFst (some y52)) (o1 fSnd (some y52)))))) (some x_law_found))))).bind fun b53 => if b53 = true then (some false) else (((oNot (o1 fAll (oComp (fun (y55 : ((Int × Int) × (Int × Int))) => (some true)) (fun (y55 : ((Int × Int) × (Int × Int))) => (o2 fEq (o2 fAdd (o1 fSnd (some y55.1)) (some (1 : Int))) (o1 fFst (some y55.2)))) (o2 fZip (some x_law_found) (o3 fCut (some x_law_found) (((some (1 : Int))).map some) (some none))))))).bind fun b56 => if b56 = true then (some false) else (((some x_law_some)).bind fun xs58 => (loopM (m_law_right_l1 x_law_found) () xs58).bind fun res58 => fin (fun w58 => ((o2 fZip (some x_law_found) (o3 fCut (some x_law_found) (((some (1 : Int))).map some) (some none)))).bind fun xs82 => (loopM (m_law_right_l3 x_law_some) () xs82).bind fun res82 => fin (fun w82 => (some true)) res82) res58)))
set_option maxHeartbeats 4000000 in
theorem ok_law_right {P : Program} {w : World} {K : Fg} {mg : Str → Option Value} {base : Heap} (T : Txt K mg) : FnOk P w K mg base CX0 2 T.a_law_right T.d_law_right ["_law_most", "_law_some", "_law_found"] (PSb K (A3 K m_law_right)) := by
  refine T.F_law_right.ok sc_law_right (fun vs H Q E h => ?_) (fun cdv A0 outer s H vs Q E hr h => ?_)
  · obtain ⟨r, ⟨v_law_most, v_law_some, v_law_found, x_law_most, x_law_some, x_law_found, rfl, r_law_most, r_law_some, r_law_found, hm⟩, q⟩ := h
    rfl
  · obtain ⟨r_fn, ⟨v_law_most, v_law_some, v_law_found, x_law_most, x_law_some, x_law_found, rfl, r_law_most, r_law_some, r_law_found, hm⟩, q⟩ := h
    refine ⟨_, (pss_cons (ps_if (PW.pt (pw_or (pt_not (pt_val (pe_callB (isi_K (K := K) rfl) (by rfl) T.n_isinstance bb_isinstance (pa_cons (pv 2) (pa_cons (pe_bltn (v := .ty "list") (by rfl) T.n_list bb_list rfl) pa_nil))))) (pw_or (pt_cmpR (opEq_K (K := K) rfl hr.units) (pv 2) (pe_lst pa_nil) (nomark _)) (pw_or (pt_cmpR (opNe_K (K := K) rfl hr.units) (pe_ix (ixT_K (K := K) rfl) (pe_ix (ixL_K (K := K) rfl) (pv 2) pe_int (fun _ _ => rfl)) pe_int (fun _ _ => rfl)) pe_int (nomark _)) (pw_or1 (pt_cmpR (opNe_K (K := K) rfl hr.units) (pe_ix (ixT_K (K := K) rfl) (pe_ix (ixL_K (K := K) rfl) (pv 2) (pe_un un_neg pe_int) (fun _ _ => rfl)) pe_int (fun _ _ => rfl)) (pv 0) (nomark _))))))) (pss_cons (ps_ret pe_bl) pss_nil) pss_nil) (pss_cons (ps_if (pt_not (pt_val (pe_callB (cr_all rfl) (by rfl) T.n_all bb_all (pa_cons (pe_lc (own := [("_law_one", 3)]) (g := (gName 3)) rfl sc_law_right.nd (pi_list (pv 2)) (blkOk_by (N := ["_law_most", "_law_some", "_law_found", "_law_one", "_law_borders", "_law_low", "_law_high", "_law_ahead", "_law_behind", "_law_border"]) (sc := defScope s_law_right) (by decide +kernel)) (fun _ _ _ _ _ => by exact (pg_name (i := 3) sc_law_right.nd rfl (by first | exact Or.inl rfl | exact Or.inr rfl))) (fun _ _ _ _ _ => by exact pts_nil) (fun _ _ _ _ _ => by exact (pe_and (pe_callB (isi_K (K := K) rfl) (by rfl) T.n_isinstance bb_isinstance (pa_cons (pv 3) (pa_cons (pe_bltn (v := .ty "tuple") (by rfl) T.n_tuple bb_tuple rfl) pa_nil))) (pe_and (pe_cmpR (opEq_K (K := K) rfl hr.units) (pe_callB (len_K (K := K) rfl) (by rfl) T.n_len bb_len (pa_cons (pv 3) pa_nil)) pe_int (nomark _)) (pe_one (pe_cmpR op_le (pe_ix (ixT_K (K := K) rfl) (pv 3) pe_int (fun _ _ => rfl)) (pe_ix (ixT_K (K := K) rfl) (pv 3) pe_int (fun _ _ => rfl)) (nomark _))))))) pa_nil)))) (pss_cons (ps_ret pe_bl) pss_nil) pss_nil) (pss_cons (ps_if (pt_not (pt_val (pe_callB (cr_all rfl) (by rfl) T.n_all bb_all (pa_cons (pe_lc (own := [("_law_ahead", 7), ("_law_behind", 8)]) (g := (gTup K 2 (gCons (gName 7) (gCons (gName 8) gNil)))) rfl sc_law_right.nd (pi_zip (by rfl) T.n_zip (pa_cons (pv 2) (pa_cons (pe_slice (slL_K (K := K) rfl) (pv 2) (po_some pe_int) po_none) pa_nil))) (blkOk_by (N := ["_law_most", "_law_some", "_law_found", "_law_one", "_law_borders", "_law_low", "_law_high", "_law_ahead", "_law_behind", "_law_border"]) (sc := defScope s_law_right) (by decide +kernel)) (fun _ _ _ _ _ => by exact (pg_tup rfl (pgs_cons (pg_name (i := 7) sc_law_right.nd rfl (by first | exact Or.inl rfl | exact Or.inr rfl)) (pgs_cons (pg_name (i := 8) sc_law_right.nd rfl (by first | exact Or.inl rfl | exact Or.inr rfl)) pgs_nil)))) (fun _ _ _ _ _ => by exact pts_nil) (fun _ _ _ _ _ => by exact (pe_cmpR (opEq_K (K := K) rfl hr.units) (pe_op op_add (pe_ix (ixT_K (K := K) rfl) (pv 7) pe_int (fun _ _ => rfl)) pe_int) (pe_ix (ixT_K (K := K) rfl) (pv 8) pe_int (fun _ _ => rfl)) (nomark _)))) pa_nil)))) (pss_cons (ps_ret pe_bl) pss_nil) pss_nil) (pss_cons (ps_for PassesOwn.never rfl (pi_list (pv 1)) (pg_name (i := 3) sc_law_right.nd rfl (by first | exact Or.inl rfl | exact Or.inr rfl)) (pss_cons (ps_set (i := 4) sc_law_right.nd rfl (by first | exact Or.inl rfl | exact Or.inr rfl) (pe_op op_cat (pe_lc (own := [("_law_low", 5), ("_law_high", 6)]) (g := (gTup K 2 (gCons (gName 5) (gCons (gName 6) gNil)))) rfl sc_law_right.nd (pi_tup (pv 3)) (blkOk_by (N := ["_law_most", "_law_some", "_law_found", "_law_one", "_law_borders", "_law_low", "_law_high", "_law_ahead", "_law_behind", "_law_border"]) (sc := defScope s_law_right) (by decide +kernel)) (fun _ _ _ _ _ => by exact (pg_tup rfl (pgs_cons (pg_name (i := 5) sc_law_right.nd rfl (by first | exact Or.inl rfl | exact Or.inr rfl)) (pgs_cons (pg_name (i := 6) sc_law_right.nd rfl (by first | exact Or.inl rfl | exact Or.inr rfl)) pgs_nil)))) (fun _ _ _ _ _ => by exact pts_nil) (fun _ _ _ _ _ => by exact (pv 5))) (pe_lc (own := [("_law_low", 5), ("_law_high", 6)]) (g := (gTup K 2 (gCons (gName 5) (gCons (gName 6) gNil)))) rfl sc_law_right.nd (pi_tup (pv 3)) (blkOk_by (N := ["_law_most", "_law_some", "_law_found", "_law_one", "_law_borders", "_law_low", "_law_high", "_law_ahead", "_law_behind", "_law_border"]) (sc := defScope s_law_right) (by decide +kernel)) (fun _ _ _ _ _ => by exact (pg_tup rfl (pgs_cons (pg_name (i := 5) sc_law_right.nd rfl (by first | exact Or.inl rfl | exact Or.inr rfl)) (pgs_cons (pg_name (i := 6) sc_law_right.nd rfl (by first | exact Or.inl rfl | exact Or.inr rfl)) pgs_nil)))) (fun _ _ _ _ _ => by exact pts_nil) (fun _ _ _ _ _ => by exact (pe_op op_add (pv 6) pe_int))))) (pss_cons (ps_for PassesOwn.never rfl (pi_list (pv 2)) (pg_tup rfl (pgs_cons (pg_name (i := 5) sc_law_right.nd rfl (by first | exact Or.inl rfl | exact Or.inr rfl)) (pgs_cons (pg_name (i := 6) sc_law_right.nd rfl (by first | exact Or.inl rfl | exact Or.inr rfl)) pgs_nil))) (pss_cons (ps_if (pt_val (pe_callB (cr_any rfl) (by rfl) T.n_any bb_any (pa_cons (pe_lc (own := [("_law_border", 9)]) (g := (gName 9)) rfl sc_law_right.nd (pi_list (pv 4)) (blkOk_by (N := ["_law_most", "_law_some", "_law_found", "_law_one", "_law_borders", "_law_low", "_law_high", "_law_ahead", "_law_behind", "_law_border"]) (sc := defScope s_law_right) (by decide +kernel)) (fun _ _ _ _ _ => by exact (pg_name (i := 9) sc_law_right.nd rfl (by first | exact Or.inl rfl | exact Or.inr rfl))) (fun _ _ _ _ _ => by exact pts_nil) (fun _ _ _ _ _ => by exact (by exact pe_chain op_lt op_le (pv 5) (pv 9) (pv 6)))) pa_nil))) (pss_cons (ps_ret pe_bl) pss_nil) pss_nil) pss_nil)) pss_nil))) (pss_cons (ps_for PassesOwn.never rfl (pi_zip (by rfl) T.n_zip (pa_cons (pv 2) (pa_cons (pe_slice (slL_K (K := K) rfl) (pv 2) (po_some pe_int) po_none) pa_nil))) (pg_tup rfl (pgs_cons (pg_name (i := 7) sc_law_right.nd rfl (by first | exact Or.inl rfl | exact Or.inr rfl)) (pgs_cons (pg_name (i := 8) sc_law_right.nd rfl (by first | exact Or.inl rfl | exact Or.inr rfl)) pgs_nil))) (pss_cons (ps_if (pt_not (pt_val (pe_callB (cr_any rfl) (by rfl) T.n_any bb_any (pa_cons (pe_lc (own := [("_law_one", 3)]) (g := (gName 3)) rfl sc_law_right.nd (pi_list (pv 1)) (blkOk_by (N := ["_law_most", "_law_some", "_law_found", "_law_one", "_law_borders", "_law_low", "_law_high", "_law_ahead", "_law_behind", "_law_border"]) (sc := defScope s_law_right) (by decide +kernel)) (fun _ _ _ _ _ => by exact (pg_name (i := 3) sc_law_right.nd rfl (by first | exact Or.inl rfl | exact Or.inr rfl))) (fun _ _ _ _ _ => by exact pts_nil) (fun _ _ _ _ _ => by exact (pe_cmpR (opNe_K (K := K) rfl hr.units) (pe_call (ok_law_in T) (hr.mono (by decide)) (by rfl) T.g_law_in T.F_law_in.kp T.b_law_in .nil pass0 (pa_cons (pv 3) (pa_cons (pe_ix (ixT_K (K := K) rfl) (pv 7) pe_int (fun _ _ => rfl)) pa_nil))) (pe_call (ok_law_in T) (hr.mono (by decide)) (by rfl) T.g_law_in T.F_law_in.kp T.b_law_in .nil pass0 (pa_cons (pv 3) (pa_cons (pe_ix (ixT_K (K := K) rfl) (pv 8) pe_int (fun _ _ => rfl)) pa_nil))) (nomark _)))) pa_nil)))) (pss_cons (ps_ret pe_bl) pss_nil) pss_nil) pss_nil)) (pss_cons (ps_ret pe_bl) pss_nil)))))), ?_⟩
    unfold m_law_right at hm
    obtain ⟨H0, e0, q⟩ := heapB q
    obtain ⟨G, A, r_law_most, r_law_some, r_law_found⟩ : exists G, At G H [] ∧ rp K G v_law_most x_law_most ∧ rp K G v_law_some x_law_some ∧ rp K G v_law_found x_law_found := ⟨H, At.nil H, r_law_most, r_law_some, r_law_found⟩
    obtain ⟨b50, hb50, hm⟩ := bnd hm
    refine st_if (et_or (et_not (et_b (x_isi (b := true) (by exact L2.kit_ty (by decide +kernel)) (eb_v rfl (Rp.mono A.ex r_law_found))))) (et_or (et_test (x_eq (by decide) (eb_v rfl (Rp.mono A.ex r_law_found)) ((x_lst (l_nil (K := K)))).b)) (et_or (et_test (x_ne (by decide) (x_fst (x_ixL (eb_v rfl (Rp.mono A.ex r_law_found)) (eb_int (K := K)))) (eb_int (K := K)))) (et_test (x_ne (by decide) (x_snd (x_ixL (eb_v rfl (Rp.mono A.ex r_law_found)) (x_neg (eb_int (K := K))))) (eb_v rfl (Rp.mono A.ex r_law_most))))))) hb50 (fun eb50 H51 e => ?_) (fun eb50 H51 e => ?_)
    · subst eb50
      replace hm := itt hm
      replace A := A.grow e
      replace e0 := e0.trans e
      exact sr_b (eb_bl (K := K)) hm fun w H e r => q w H (e0.trans e) r
    · subst eb50
      replace hm := itf hm
      replace A := A.grow e
      replace e0 := e0.trans e
      obtain ⟨b53, hb53, hm⟩ := bnd hm
      refine st_if (et_not (et_b (x_all ((x_lc (i_list (es_b (eb_v rfl (Rp.mono A.ex r_law_found)))) tg_n (bi_n (by decide)) (fun y52 σc Hc gh52 hb52 => by obtain ⟨c52v_law_one, c52r_law_one, rfl⟩ := hb52; exact t_yes) (fun y52 σc Hc gh52 hb52 => by obtain ⟨c52v_law_one, c52r_law_one, rfl⟩ := hb52; exact (eb_and (x_isi (b := true) (by exact L2.kit_ty (by decide +kernel)) (eb_v rfl c52r_law_one)) (eb_and (x_eq (by decide) (x_len2 (eb_v rfl c52r_law_one)) (eb_int (K := K))) (x_le (x_fst (eb_v rfl c52r_law_one)) (x_snd (eb_v rfl c52r_law_one)))))))).b))) hb53 (fun eb53 H54 e => ?_) (fun eb53 H54 e => ?_)
      · subst eb53
        replace hm := itt hm
        replace A := A.grow e
        replace e0 := e0.trans e
        exact sr_b (eb_bl (K := K)) hm fun w H e r => q w H (e0.trans e) r
      · subst eb53
        replace hm := itf hm
        replace A := A.grow e
        replace e0 := e0.trans e
        obtain ⟨b56, hb56, hm⟩ := bnd hm
        refine st_if (et_not (et_b (x_all ((x_lc (i_zip (es_b (eb_v rfl (Rp.mono A.ex r_law_found))) (es_b ((x_cut (eb_v rfl (Rp.mono A.ex r_law_found)) (ep_some (eb_int (K := K))) ep_none)).b)) (tg_p tg_n tg_n) (bi_p (bi_n (by decide)) (bi_n (by decide))) (fun y55 σc Hc gh55 hb55 => by obtain ⟨_, ⟨c55v_law_ahead, c55r_law_ahead, rfl⟩, ⟨c55v_law_behind, c55r_law_behind, rfl⟩⟩ := hb55; exact t_yes) (fun y55 σc Hc gh55 hb55 => by obtain ⟨_, ⟨c55v_law_ahead, c55r_law_ahead, rfl⟩, ⟨c55v_law_behind, c55r_law_behind, rfl⟩⟩ := hb55; exact (x_eq (by decide) (x_add (x_snd (eb_v rfl c55r_law_ahead)) (eb_int (K := K))) (x_fst (eb_v rfl c55r_law_behind)))))).b))) hb56 (fun eb56 H57 e => ?_) (fun eb56 H57 e => ?_)
        · subst eb56
          replace hm := itt hm
          replace A := A.grow e
          replace e0 := e0.trans e
          exact sr_b (eb_bl (K := K)) hm fun w H e r => q w H (e0.trans e) r
        · subst eb56
          replace hm := itf hm
          replace A := A.grow e
          replace e0 := e0.trans e
          obtain ⟨xs58, hx58, hm⟩ := bnd hm
          obtain ⟨res58, hl58, hm⟩ := bnd hm
          have hmL58 := hm
          refine st_for (M := []) (i_list (es_v rfl r_law_some A.ex (A.hM (by simp)))) hx58 fun J58 HL58 e wk58 => ?_
          replace A := A.grow e
          replace e0 := e0.trans e
          have eM58 : Gx (mns HL58 []) HL58 := mns_ex
          have gL58 : Gx G G := Gx.rfl
          refine loop_run wk58 hl58 tg_n (fun (s58 : Unit) (σ : L2.St) (H : Hp) => exists (Gi : Hp) (k_law_one : Option V) (k_law_borders : Option V) (k_law_low : Option V) (k_law_high : Option V), σ = [some v_law_most, some v_law_some, some v_law_found, k_law_one, k_law_borders, k_law_low, k_law_high, none, none, none] ∧ Gx H0 H ∧ Gx (mns HL58 []) H ∧ Gx G Gi ∧ At Gi H []) (fun s σ H h => ?_) ?_ (fun s58 x58 o58 σ H62 H60 σ2 hxm hf hr58 hin e hb => ?_) (fun w58 σ H81 hres hin => ?_)
          · obtain ⟨Gi, k_law_one, k_law_borders, k_law_low, k_law_high, rfl, e0, eM58, gL58, A⟩ := h
            exact eM58
          · exact ⟨_, _, _, _, _, rfl, e0, eM58, gL58, A⟩
          · obtain ⟨G59, k_law_one, k_law_borders, k_law_low, k_law_high, rfl, e0, eM58, gL58, A⟩ := hin
            obtain ⟨v_law_one, r_law_one, rfl⟩ := hb
            replace A := A.grow e
            replace e0 := e0.trans e
            replace eM58 := eM58.trans e
            replace r_law_most := Rp.mono gL58 r_law_most
            replace r_law_some := Rp.mono gL58 r_law_some
            replace r_law_found := Rp.mono gL58 r_law_found
            replace r_law_one := Im.im A.tx r_law_one
            have g := A.gh
            replace A := A.hid
            replace r_law_most := Rp.mono g r_law_most
            replace r_law_some := Rp.mono g r_law_some
            replace r_law_found := Rp.mono g r_law_found
            replace gL58 := gL58.trans g
            generalize hid _ _ = G63 at *
            have hm := hf
            unfold m_law_right_l1 at hm
            have hret58 := fun r h => finr (r := r) (hr58 r h) hmL58
            obtain ⟨x_law_borders, hx, hm⟩ := bnd hm
            refine st_asg ((x_cat ((x_lc (i_tup (es_b (eb_v rfl (Rp.mono A.ex r_law_one)))) (tg_p tg_n tg_n) (bi_p (bi_n (by decide)) (bi_n (by decide))) (fun y64 σc Hc gh64 hb64 => by obtain ⟨_, ⟨c64v_law_low, c64r_law_low, rfl⟩, ⟨c64v_law_high, c64r_law_high, rfl⟩⟩ := hb64; exact t_yes) (fun y64 σc Hc gh64 hb64 => by obtain ⟨_, ⟨c64v_law_low, c64r_law_low, rfl⟩, ⟨c64v_law_high, c64r_law_high, rfl⟩⟩ := hb64; exact (eb_v rfl c64r_law_low)))).b ((x_lc (i_tup (es_b (eb_v rfl (Rp.mono A.ex r_law_one)))) (tg_p tg_n tg_n) (bi_p (bi_n (by decide)) (bi_n (by decide))) (fun y65 σc Hc gh65 hb65 => by obtain ⟨_, ⟨c65v_law_low, c65r_law_low, rfl⟩, ⟨c65v_law_high, c65r_law_high, rfl⟩⟩ := hb65; exact t_yes) (fun y65 σc Hc gh65 hb65 => by obtain ⟨_, ⟨c65v_law_low, c65r_law_low, rfl⟩, ⟨c65v_law_high, c65r_law_high, rfl⟩⟩ := hb65; exact (x_add (eb_v rfl c65r_law_high) (eb_int (K := K)))))).b)).own hx A fun v_law_borders G66 H67 g e A r_law_borders => ?_
            replace r_law_most := Rp.mono g r_law_most
            replace r_law_some := Rp.mono g r_law_some
            replace r_law_found := Rp.mono g r_law_found
            replace r_law_one := Rp.mono g r_law_one
            replace gL58 := gL58.trans g
            replace e0 := e0.trans e
            replace eM58 := eM58.trans e
            obtain ⟨xs68, hx68, hm⟩ := bnd hm
            obtain ⟨res68, hl68, hm⟩ := bnd hm
            have hmL68 := hm
            refine st_for (M := []) (i_list (es_v rfl r_law_found A.ex (A.hM (by simp)))) hx68 fun J68 HL68 e wk68 => ?_
            replace A := A.grow e
            replace e0 := e0.trans e
            replace eM58 := eM58.trans e
            have eM68 : Gx (mns HL68 []) HL68 := mns_ex
            have gL68 : Gx G66 G66 := Gx.rfl
            refine loop_run wk68 hl68 (tg_p tg_n tg_n) (fun (s68 : Unit) (σ : L2.St) (H : Hp) => exists (Gi : Hp) (k_law_low : Option V) (k_law_high : Option V), σ = [some v_law_most, some v_law_some, some v_law_found, some v_law_one, some v_law_borders, k_law_low, k_law_high, none, none, none] ∧ Gx H0 H ∧ Gx (mns HL58 []) H ∧ Gx (mns HL68 []) H ∧ Gx G Gi ∧ Gx G66 Gi ∧ At Gi H []) (fun s σ H h => ?_) ?_ (fun s68 x68 o68 σ H72 H70 σ2 hxm hf hr68 hin e hb => ?_) (fun w68 σ H79 hres hin => ?_)
            · obtain ⟨Gi, k_law_low, k_law_high, rfl, e0, eM58, eM68, gL58, gL68, A⟩ := h
              exact eM68
            · exact ⟨_, _, _, rfl, e0, eM58, eM68, gL58, gL68, A⟩
            · obtain ⟨G69, k_law_low, k_law_high, rfl, e0, eM58, eM68, gL58, gL68, A⟩ := hin
              obtain ⟨_, ⟨v_law_low, r_law_low, rfl⟩, ⟨v_law_high, r_law_high, rfl⟩⟩ := hb
              replace A := A.grow e
              replace e0 := e0.trans e
              replace eM58 := eM58.trans e
              replace eM68 := eM68.trans e
              replace r_law_most := Rp.mono gL68 r_law_most
              replace r_law_some := Rp.mono gL68 r_law_some
              replace r_law_found := Rp.mono gL68 r_law_found
              replace r_law_one := Rp.mono gL68 r_law_one
              replace r_law_borders := Rp.mono gL68 r_law_borders
              replace r_law_low := Im.im A.tx r_law_low
              replace r_law_high := Im.im A.tx r_law_high
              have g := A.gh
              replace A := A.hid
              replace r_law_most := Rp.mono g r_law_most
              replace r_law_some := Rp.mono g r_law_some
              replace r_law_found := Rp.mono g r_law_found
              replace r_law_one := Rp.mono g r_law_one
              replace r_law_borders := Rp.mono g r_law_borders
              replace gL58 := gL58.trans g
              replace gL68 := gL68.trans g
              generalize hid _ _ = G73 at *
              have hm := hf
              unfold m_law_right_l2 at hm
              have hret68 := fun r h => hret58 r (brar (hr68 r h) hmL68)
              obtain ⟨b75, hb75, hm⟩ := bnd hm
              refine st_if (et_b (x_any ((x_lc (i_list (es_b (eb_v rfl (Rp.mono A.ex r_law_borders)))) tg_n (bi_n (by decide)) (fun y74 σc Hc gh74 hb74 => by obtain ⟨c74v_law_border, c74r_law_border, rfl⟩ := hb74; exact t_yes) (fun y74 σc Hc gh74 hb74 => by obtain ⟨c74v_law_border, c74r_law_border, rfl⟩ := hb74; exact (x_ltle (eb_v rfl (Rp.mono gh74 (Rp.mono A.ex r_law_low))) (eb_v rfl c74r_law_border) (eb_v rfl (Rp.mono gh74 (Rp.mono A.ex r_law_high))))))).b)) hb75 (fun eb75 H76 e => ?_) (fun eb75 H76 e => ?_)
              · subst eb75
                replace hm := itt hm
                replace A := A.grow e
                replace e0 := e0.trans e
                replace eM58 := eM58.trans e
                replace eM68 := eM68.trans e
                obtain ⟨y77, hy77, hm⟩ := bnd hm
                have er := hret68 y77 (Option.some.inj hm).symm
                subst er
                exact sr_b (eb_bl (K := K)) hy77 fun w H e r => q w H (e0.trans e) r
              · subst eb75
                replace hm := itf hm
                replace A := A.grow e
                replace e0 := e0.trans e
                replace eM58 := eM58.trans e
                replace eM68 := eM68.trans e
                exact ⟨_, (Option.some.inj hm).symm, _, _, _, rfl, e0, eM58, eM68, gL58, gL68, A⟩
            · obtain ⟨G78, k_law_low, k_law_high, rfl, e0, eM58, eM68, gL58, gL68, A⟩ := hin
              replace r_law_most := Rp.mono gL68 r_law_most
              replace r_law_some := Rp.mono gL68 r_law_some
              replace r_law_found := Rp.mono gL68 r_law_found
              replace r_law_one := Rp.mono gL68 r_law_one
              replace r_law_borders := Rp.mono gL68 r_law_borders
              subst hres
              replace hm := bral hm
              exact ⟨_, (Option.some.inj hm).symm, _, _, _, _, _, rfl, e0, eM58, gL58, A⟩
          · obtain ⟨G80, k_law_one, k_law_borders, k_law_low, k_law_high, rfl, e0, eM58, gL58, A⟩ := hin
            replace r_law_most := Rp.mono gL58 r_law_most
            replace r_law_some := Rp.mono gL58 r_law_some
            replace r_law_found := Rp.mono gL58 r_law_found
            subst hres
            replace hm := finl hm
            obtain ⟨xs82, hx82, hm⟩ := bnd hm
            obtain ⟨res82, hl82, hm⟩ := bnd hm
            have hmL82 := hm
            refine st_for (M := []) (i_zip (es_v rfl r_law_found A.ex (A.hM (by simp))) (es_n (x_cut (eb_v rfl (Rp.mono A.ex r_law_found)) (ep_some (eb_int (K := K))) ep_none) (A.hMu (by simp)))) hx82 fun J82 HL82 e wk82 => ?_
            replace A := A.grow e
            replace e0 := e0.trans e
            have eM82 : Gx (mns HL82 []) HL82 := mns_ex
            have gL82 : Gx G80 G80 := Gx.rfl
            refine loop_run wk82 hl82 (tg_p tg_n tg_n) (fun (s82 : Unit) (σ : L2.St) (H : Hp) => exists (Gi : Hp) (k_law_ahead : Option V) (k_law_behind : Option V), σ = [some v_law_most, some v_law_some, some v_law_found, k_law_one, k_law_borders, k_law_low, k_law_high, k_law_ahead, k_law_behind, none] ∧ Gx H0 H ∧ Gx (mns HL82 []) H ∧ Gx G80 Gi ∧ At Gi H []) (fun s σ H h => ?_) ?_ (fun s82 x82 o82 σ H86 H84 σ2 hxm hf hr82 hin e hb => ?_) (fun w82 σ H93 hres hin => ?_)
            · obtain ⟨Gi, k_law_ahead, k_law_behind, rfl, e0, eM82, gL82, A⟩ := h
              exact eM82
            · exact ⟨_, _, _, rfl, e0, eM82, gL82, A⟩
            · obtain ⟨G83, k_law_ahead, k_law_behind, rfl, e0, eM82, gL82, A⟩ := hin
              obtain ⟨_, ⟨v_law_ahead, r_law_ahead, rfl⟩, ⟨v_law_behind, r_law_behind, rfl⟩⟩ := hb
              replace A := A.grow e
              replace e0 := e0.trans e
              replace eM82 := eM82.trans e
              replace r_law_most := Rp.mono gL82 r_law_most
              replace r_law_some := Rp.mono gL82 r_law_some
              replace r_law_found := Rp.mono gL82 r_law_found
              replace r_law_ahead := Im.im A.tx r_law_ahead
              replace r_law_behind := Im.im A.tx r_law_behind
              have g := A.gh
              replace A := A.hid
              replace r_law_most := Rp.mono g r_law_most
              replace r_law_some := Rp.mono g r_law_some
              replace r_law_found := Rp.mono g r_law_found
              replace gL82 := gL82.trans g
              generalize hid _ _ = G87 at *
              have hm := hf
              unfold m_law_right_l3 at hm
              have hret82 := fun r h => finr (r := r) (hr82 r h) hmL82
              obtain ⟨b89, hb89, hm⟩ := bnd hm
              refine st_if (et_not (et_b (x_any ((x_lc (i_list (es_b (eb_v rfl (Rp.mono A.ex r_law_some)))) tg_n (bi_n (by decide)) (fun y88 σc Hc gh88 hb88 => by obtain ⟨c88v_law_one, c88r_law_one, rfl⟩ := hb88; exact t_yes) (fun y88 σc Hc gh88 hb88 => by obtain ⟨c88v_law_one, c88r_law_one, rfl⟩ := hb88; exact (x_ne (by decide) (eb_call (em2 (eb_v rfl c88r_law_one) (x_snd (eb_v rfl (Rp.mono gh88 (Rp.mono A.ex r_law_ahead)))))) (eb_call (em2 (eb_v rfl c88r_law_one) (x_fst (eb_v rfl (Rp.mono gh88 (Rp.mono A.ex r_law_behind)))))))))).b))) hb89 (fun eb89 H90 e => ?_) (fun eb89 H90 e => ?_)
              · subst eb89
                replace hm := itt hm
                replace A := A.grow e
                replace e0 := e0.trans e
                replace eM82 := eM82.trans e
                obtain ⟨y91, hy91, hm⟩ := bnd hm
                have er := hret82 y91 (Option.some.inj hm).symm
                subst er
                exact sr_b (eb_bl (K := K)) hy91 fun w H e r => q w H (e0.trans e) r
              · subst eb89
                replace hm := itf hm
                replace A := A.grow e
                replace e0 := e0.trans e
                replace eM82 := eM82.trans e
                exact ⟨_, (Option.some.inj hm).symm, _, _, _, rfl, e0, eM82, gL82, A⟩
            · obtain ⟨G92, k_law_ahead, k_law_behind, rfl, e0, eM82, gL82, A⟩ := hin
              replace r_law_most := Rp.mono gL82 r_law_most
              replace r_law_some := Rp.mono gL82 r_law_some
              replace r_law_found := Rp.mono gL82 r_law_found
              subst hres
              replace hm := finl hm
              exact sr_b (eb_bl (K := K)) hm fun w H e r => q w H (e0.trans e) r
/-! law -/
def m_law_l1 (z103_law_most : Int) (z103_law_many : Int) (s103 : (List (List Int)) × (List Int)) (x103 : (Int × Int)) : Option ((List (List Int)) × (List Int)) := ((o4 m_law_point (some x103.2) (some x103.1) (some z103_law_most) (some s103.2))).bind fun x_law_number => ((some x_law_number)).bind fun y111 => (fApp s103.2 y111).bind fun x_law_ahead => ((o2 fGt (some z103_law_many) (some (0 : Int)))).bind fun b115 => if b115 = true then (((o2 fMod (o2 fDiv (o2 m_law_mixed (some x103.2) (some (12 : Int))) (some (4 : Int))) (some z103_law_many))).bind fun y117 => ((some x_law_number)).bind fun y118 => (fAppAt s103.1 y117 y118).bind fun x_law_points => some (x_law_points, x_law_ahead)) else (some (s103.1, x_law_ahead))
def m_law_l2 (z129_law_most : Int) (z129_law_some : (List (Tl (Int × Int)))) (z129_law_handed : (List (Tl (Int × Int)))) (s129 : Unit) (x129 : Int) : Option (Unit ⊕ Bool) := ((o2 m_parts (some z129_law_most) (some z129_law_handed))).bind fun x_law_found => ((oOr (oNot (o3 m_law_right (some z129_law_most) (some z129_law_some) (some x_law_found))) (o2 fNe (some z129_law_handed) (some z129_law_some)))).bind fun b137 => if b137 = true then (((some false)).bind fun y139 => some (Sum.inr y139)) else (((o2 fPair (some (0 : Int)) (some (0 : Int)))).bind fun y140 => (fApp x_law_found y140).bind fun x_law_found => some (Sum.inl ()))
def m_law (x_law_script : Scr) : Option Bool := ((o1 m_law_most_by (some x_law_script))).bind fun x_law_most => ((o1 fSum (oComp (fun (y96 : Int) => (some true)) (fun (y96 : Int) => (o2 m_law_mixed (some y96) (some (11 : Int)))) (o3 fCutS (some x_law_script) (some none) (((some (80 : Int))).map some))))).bind fun x_law_total => ((o2 fMod (some x_law_total) (some (21 : Int)))).bind fun x_law_many => (oLim (o1 fRng1 (some x_law_many))).bind fun xs_law_points => ((((o3 fCutS (some x_law_script) (some none) (((some (80 : Int))).map some))).map enum)).bind fun xs103 => (foldO (m_law_l1 x_law_most x_law_many) ((xs_law_points.map fun _ => ([] : List Int)), ([] : List Int)) xs103).bind fun w103 => ((oComp (fun (y124 : (List Int)) => (some true)) (fun (y124 : (List Int)) => (o2 m_law_toggled (some x_law_most) (some y124))) (some w103.1))).bind fun x_law_some => ((o1 fList (some x_law_some))).bind fun x_law_handed => ((o1 fRng1 (some (2 : Int)))).bind fun xs129 => (loopM (m_law_l2 x_law_most x_law_some x_law_handed) () xs129).bind fun res129 => fin (fun w129 => (oAnd (o2 fEq (o2 m_parts (some x_law_most) (o1 szOk (some ([] : List (Tl (Int × Int)))))) (o1 szOk (o2 fCons (o2 fPair (some (0 : Int)) (some x_law_most)) (some ([] : List (Int × Int)))))) (o2 fEq (o2 m_parts (some x_law_most) (o1 szOk (o2 fCons (o1 fTup (some ([] : List (Int × Int)))) (some ([] : List (Tl (Int × Int))))))) (o1 szOk (o2 fCons (o2 fPair (some (0 : Int)) (some x_law_most)) (some ([] : List (Int × Int)))))))) res129
set_option maxHeartbeats 4000000 in
theorem ok_law {P : Program} {w : World} {K : Fg} {mg : Str → Option Value} {base : Heap} (T : Txt K mg) : FnOk P w K mg base CX0 4 T.a_law T.d_law ["_law_script"] (PSb K (A1 K m_law)) := by
  refine T.F_law.ok sc_law (fun vs H Q E h => ?_) (fun cdv A0 outer s H vs Q E hr h => ?_)
  · obtain ⟨r, ⟨v_law_script, x_law_script, rfl, r_law_script, hm⟩, q⟩ := h
    rfl
  · obtain ⟨r_fn, ⟨v_law_script, x_law_script, rfl, r_law_script, hm⟩, q⟩ := h
    refine ⟨_, (pss_cons (ps_set (i := 1) sc_law.nd rfl (by first | exact Or.inl rfl | exact Or.inr rfl) (pe_call (ok_law_most_by T) (hr.mono (by decide)) (by rfl) T.g_law_most_by T.F_law_most_by.kp T.b_law_most_by .nil pass0 (pa_cons (pv 0) pa_nil))) (pss_cons (ps_set (i := 2) sc_law.nd rfl (by first | exact Or.inl rfl | exact Or.inr rfl) (pe_callB (cr_sum rfl) (by rfl) T.n_sum bb_sum (pa_cons (pe_lc (own := [("_law_cell", 7)]) (g := (gName 7)) rfl sc_law.nd (pi_list (pe_slice (slL_K (K := K) rfl) (pv 0) po_none (po_some pe_int))) (blkOk_by (N := ["_law_script", "_law_most", "_law_total", "_law_many", "_law_points", "_law_ahead", "_law_k", "_law_cell", "_law_number", "_law_some", "_law_handed", "_law_turn", "_law_found", "_law_one"]) (sc := defScope s_law) (by decide +kernel)) (fun _ _ _ _ _ => by exact (pg_name (i := 7) sc_law.nd rfl (by first | exact Or.inl rfl | exact Or.inr rfl))) (fun _ _ _ _ _ => by exact pts_nil) (fun _ _ _ _ _ => by exact (pe_call (ok_law_mixed T) (hr.mono (by decide)) (by rfl) T.g_law_mixed T.F_law_mixed.kp T.b_law_mixed .nil pass0 (pa_cons (pv 7) (pa_cons pe_int pa_nil))))) pa_nil))) (pss_cons (ps_set (i := 3) sc_law.nd rfl (by first | exact Or.inl rfl | exact Or.inr rfl) (pe_op op_mod (pv 2) pe_int)) (pss_cons (ps_setLc (i := 4) (own := [("_law_k", 6)]) (g := (gName 6)) rfl sc_law.nd rfl rfl (sw_true rfl rfl rfl (by decide +kernel)) (pi_range1 (by rfl) T.n_range (pa_cons (pv 3) pa_nil)) (blkOk_by (N := ["_law_script", "_law_most", "_law_total", "_law_many", "_law_points", "_law_ahead", "_law_k", "_law_cell", "_law_number", "_law_some", "_law_handed", "_law_turn", "_law_found", "_law_one"]) (sc := defScope s_law) (by decide +kernel)) (fun _ _ _ _ _ => by exact (pg_name (i := 6) sc_law.nd rfl (by first | exact Or.inl rfl | exact Or.inr rfl))) (fun _ _ _ _ _ => by exact pts_nil) (fun _ _ _ _ _ => by exact (pe_lst pa_nil))) (pss_cons (ps_set (i := 5) sc_law.nd rfl (by first | exact Or.inl rfl | exact Or.inr rfl) (pe_lst pa_nil)) (pss_cons (ps_for PassesOwn.never rfl (pi_enum (by rfl) T.n_enumerate (pa_cons (pe_slice (slL_K (K := K) rfl) (pv 0) po_none (po_some pe_int)) pa_nil)) (pg_tup rfl (pgs_cons (pg_name (i := 6) sc_law.nd rfl (by first | exact Or.inl rfl | exact Or.inr rfl)) (pgs_cons (pg_name (i := 7) sc_law.nd rfl (by first | exact Or.inl rfl | exact Or.inr rfl)) pgs_nil))) (pss_cons (ps_set (i := 8) sc_law.nd rfl (by first | exact Or.inl rfl | exact Or.inr rfl) (pe_call (ok_law_point T) (hr.mono (by decide)) (by rfl) T.g_law_point T.F_law_point.kp T.b_law_point .nil pass0 (pa_cons (pv 7) (pa_cons (pv 6) (pa_cons (pv 1) (pa_cons (pv 5) pa_nil)))))) (pss_cons (ps_expr (pe_bm PySem.F.plainAttrs_list PySem.F.slot_list_append PySem.F.type_list_append mt_append (pv 5) (pa_cons (pv 8) pa_nil))) (pss_cons (ps_if (pt_cmpR op_gt (pv 3) pe_int (nomark _)) (pss_cons (ps_expr (pe_bm PySem.F.plainAttrs_list PySem.F.slot_list_append PySem.F.type_list_append mt_append (pe_ix (ixL_K (K := K) rfl) (pv 4) (pe_op op_mod (pe_op op_fdiv (pe_call (ok_law_mixed T) (hr.mono (by decide)) (by rfl) T.g_law_mixed T.F_law_mixed.kp T.b_law_mixed .nil pass0 (pa_cons (pv 7) (pa_cons pe_int pa_nil))) pe_int) (pv 3)) (fun _ _ => rfl)) (pa_cons (pv 8) pa_nil))) pss_nil) pss_nil) pss_nil)))) (pss_cons (ps_setLc (i := 9) (own := [("_law_one", 13)]) (g := (gName 13)) rfl sc_law.nd rfl rfl (sw_true rfl rfl rfl (by decide +kernel)) (pi_list (pv 4)) (blkOk_by (N := ["_law_script", "_law_most", "_law_total", "_law_many", "_law_points", "_law_ahead", "_law_k", "_law_cell", "_law_number", "_law_some", "_law_handed", "_law_turn", "_law_found", "_law_one"]) (sc := defScope s_law) (by decide +kernel)) (fun _ _ _ _ _ => by exact (pg_name (i := 13) sc_law.nd rfl (by first | exact Or.inl rfl | exact Or.inr rfl))) (fun _ _ _ _ _ => by exact pts_nil) (fun _ _ _ _ _ => by exact (pe_call (ok_law_toggled T) (hr.mono (by decide)) (by rfl) T.g_law_toggled T.F_law_toggled.kp T.b_law_toggled .nil pass0 (pa_cons (pv 1) (pa_cons (pv 13) pa_nil))))) (pss_cons (ps_set (i := 10) sc_law.nd rfl (by first | exact Or.inl rfl | exact Or.inr rfl) (pe_callTy (lof_K (K := K) rfl) (by rfl) T.n_list bb_list (pa_cons (pv 9) pa_nil))) (pss_cons (ps_for PassesOwn.never rfl (pi_range1 (by rfl) T.n_range (pa_cons pe_int pa_nil)) (pg_name (i := 11) sc_law.nd rfl (by first | exact Or.inl rfl | exact Or.inr rfl)) (pss_cons (ps_set (i := 12) sc_law.nd rfl (by first | exact Or.inl rfl | exact Or.inr rfl) (pe_call (ok_parts T) (hr.mono (by decide)) (by rfl) T.g_parts T.F_parts.kp T.b_parts .nil pass0 (pa_cons (pv 1) (pa_cons (pv 10) pa_nil)))) (pss_cons (ps_if (PW.pt (pw_or (pt_not (pt_val (pe_call (ok_law_right T) (hr.mono (by decide)) (by rfl) T.g_law_right T.F_law_right.kp T.b_law_right .nil pass0 (pa_cons (pv 1) (pa_cons (pv 9) (pa_cons (pv 12) pa_nil)))))) (pw_or1 (pt_cmpR (opNe_K (K := K) rfl hr.units) (pv 10) (pv 9) (nomark _))))) (pss_cons (ps_ret pe_bl) pss_nil) pss_nil) (pss_cons (ps_expr (pe_bm PySem.F.plainAttrs_list PySem.F.slot_list_append PySem.F.type_list_append mt_append (pv 12) (pa_cons (pe_tup (pa_cons pe_int (pa_cons pe_int pa_nil))) pa_nil))) (pss_cons (ps_expr (pe_bm0 PySem.F.plainAttrs_list PySem.F.slot_list_reverse PySem.F.type_list_reverse mt_reverse (pv 12))) pss_nil))))) (pss_cons (ps_ret (pe_and (pe_cmpR (opEq_K (K := K) rfl hr.units) (pe_call (ok_parts T) (hr.mono (by decide)) (by rfl) T.g_parts T.F_parts.kp T.b_parts .nil pass0 (pa_cons (pv 1) (pa_cons (pe_lst pa_nil) pa_nil))) (pe_lst (pa_cons (pe_tup (pa_cons pe_int (pa_cons (pv 1) pa_nil))) pa_nil)) (nomark _)) (pe_one (pe_cmpR (opEq_K (K := K) rfl hr.units) (pe_call (ok_parts T) (hr.mono (by decide)) (by rfl) T.g_parts T.F_parts.kp T.b_parts .nil pass0 (pa_cons (pv 1) (pa_cons (pe_lst (pa_cons (pe_tup pa_nil) pa_nil)) pa_nil))) (pe_lst (pa_cons (pe_tup (pa_cons pe_int (pa_cons (pv 1) pa_nil))) pa_nil)) (nomark _))))) pss_nil)))))))))), ?_⟩
    unfold m_law at hm
    obtain ⟨H0, e0, q⟩ := heapB q
    obtain ⟨G, A, r_law_script⟩ : exists G, At G H [] ∧ rp K G v_law_script x_law_script := ⟨H, At.nil H, r_law_script⟩
    obtain ⟨x_law_most, hx, hm⟩ := bnd hm
    refine st_asg ((eb_call (em1 (eb_v rfl (Rp.mono A.ex r_law_script))))).own hx A fun v_law_most G94 H95 g e A r_law_most => ?_
    replace r_law_script := Rp.mono g r_law_script
    replace e0 := e0.trans e
    obtain ⟨x_law_total, hx, hm⟩ := bnd hm
    refine st_asg ((x_sum ((x_lc (i_list (es_b ((x_cutS (eb_v rfl (Rp.mono A.ex r_law_script)) ep_none (ep_some (eb_int (K := K))))).b)) tg_n (bi_n (by decide)) (fun y96 σc Hc gh96 hb96 => by obtain ⟨c96v_law_cell, c96r_law_cell, rfl⟩ := hb96; exact t_yes) (fun y96 σc Hc gh96 hb96 => by obtain ⟨c96v_law_cell, c96r_law_cell, rfl⟩ := hb96; exact (eb_call (em2 (eb_v rfl c96r_law_cell) (eb_int (K := K))))))).b)).own hx A fun v_law_total G97 H98 g e A r_law_total => ?_
    replace r_law_script := Rp.mono g r_law_script
    replace r_law_most := Rp.mono g r_law_most
    replace e0 := e0.trans e
    obtain ⟨x_law_many, hx, hm⟩ := bnd hm
    refine st_asg ((x_mod (eb_v rfl (Rp.mono A.ex r_law_total)) (eb_int (K := K)))).own hx A fun v_law_many G99 H100 g e A r_law_many => ?_
    replace r_law_script := Rp.mono g r_law_script
    replace r_law_most := Rp.mono g r_law_most
    replace r_law_total := Rp.mono g r_law_total
    replace e0 := e0.trans e
    obtain ⟨xs_law_points, hx, hm⟩ := bnd hm
    replace hx := oLims hx
    refine st_lmc (K := K) (A := Int) (i_rng1 (eb_v rfl (Rp.mono A.ex r_law_many))) hx.1 hx.2 tg_n (bi_n (by decide)) (fun _ _ _ _ _ => t_yes) A fun p_law_points ps_law_points vss_law_points H101 e hps_law_points al_law_points A => ?_
    have nps_e0_law_points := fun p hp => e0.back (hps_law_points p hp)
    replace e0 := e0.trans e
    refine st_new A fun p_law_ahead hp_law_ahead A => ?_
    have ne0_law_ahead := e0.back hp_law_ahead
    replace e0 := e0.trans (Gx.new (o := HO.lst []) hp_law_ahead)
    have al_law_ahead : Al (rp K G99) ([] : List V) ([] : List Int) := trivial
    generalize upd _ p_law_ahead (.lst []) = H102 at A e0 ⊢
    obtain ⟨xs103, hx103, hm⟩ := bnd hm
    obtain ⟨w103, hl103, hm⟩ := bnd hm
    refine st_for (M := ([p_law_ahead] ++ ps_law_points)) (i_enum (es_n (x_cutS (eb_v rfl (Rp.mono A.ex r_law_script)) ep_none (ep_some (eb_int (K := K)))) (A.hMu (lm_M (L1 := [_]) al_law_points (by simp))))) hx103 fun J103 HL103 e wk103 => ?_
    replace A := A.grow e
    replace e0 := e0.trans e
    have eM103 : Gx (mns HL103 ([p_law_ahead] ++ ps_law_points)) HL103 := mns_ex
    have gL103 : Gx G99 G99 := Gx.rfl
    have nps_eM103_law_points : forall p, p ∈ ps_law_points -> (mns HL103 ([p_law_ahead] ++ ps_law_points)) p = none := fun p hp => mns_in (List.mem_append_right _ hp)
    have neM103_law_ahead : (mns HL103 ([p_law_ahead] ++ ps_law_points)) p_law_ahead = none := mns_in (by simp)
    refine fold_run wk103 hl103 (tg_p tg_n tg_n) (fun (s103 : (List (List Int)) × (List Int)) (σ : L2.St) (H : Hp) => exists (Gi : Hp) (k_law_k : Option V) (k_law_cell : Option V) (k_law_number : Option V) (vss_law_points : List (List V)) (vs_law_ahead : List V), σ = [some v_law_script, some v_law_most, some v_law_total, some v_law_many, some (.ref p_law_points), some (.ref p_law_ahead), k_law_k, k_law_cell, k_law_number, none, none, none, none, none] ∧ Gx H0 H ∧ Gx (mns HL103 ([p_law_ahead] ++ ps_law_points)) H ∧ Gx G99 Gi ∧ At Gi H ((p_law_ahead, HO.lst vs_law_ahead) :: lmL p_law_points ps_law_points vss_law_points) ∧ Al2 K Gi ps_law_points vss_law_points s103.1 ∧ Al (rp K Gi) vs_law_ahead s103.2) (fun s σ H h => ?_) ?_ (fun s103 x103 o103 σ H107 H105 σ2 hxm hf hin e hb => ?_) (fun σ H123 hin => ?_)
    · obtain ⟨Gi, k_law_k, k_law_cell, k_law_number, vss_law_points, vs_law_ahead, rfl, e0, eM103, gL103, A, al_law_points, al_law_ahead⟩ := h
      exact eM103
    · exact ⟨_, _, _, _, _, _, rfl, e0, eM103, gL103, A, al_law_points, al_law_ahead⟩
    · obtain ⟨G104, k_law_k, k_law_cell, k_law_number, vss_law_points, vs_law_ahead, rfl, e0, eM103, gL103, A, al_law_points, al_law_ahead⟩ := hin
      obtain ⟨_, ⟨v_law_k, r_law_k, rfl⟩, ⟨v_law_cell, r_law_cell, rfl⟩⟩ := hb
      replace A := A.grow e
      replace e0 := e0.trans e
      replace eM103 := eM103.trans e
      replace r_law_script := Rp.mono gL103 r_law_script
      replace r_law_most := Rp.mono gL103 r_law_most
      replace r_law_total := Rp.mono gL103 r_law_total
      replace r_law_many := Rp.mono gL103 r_law_many
      replace r_law_k := Im.im A.tx r_law_k
      replace r_law_cell := Im.im A.tx r_law_cell
      have g := A.gh
      replace A := A.hid
      replace r_law_script := Rp.mono g r_law_script
      replace r_law_most := Rp.mono g r_law_most
      replace r_law_total := Rp.mono g r_law_total
      replace r_law_many := Rp.mono g r_law_many
      replace al_law_points := al_law_points.mono g
      replace al_law_ahead := al_law_ahead.mono fun _ _ => Rp.mono g
      replace gL103 := gL103.trans g
      generalize hid _ _ = G108 at *
      have hm := hf
      unfold m_law_l1 at hm
      obtain ⟨x_law_number, hx, hm⟩ := bnd hm
      refine st_asg ((eb_call (em4 (eb_v rfl (Rp.mono A.ex r_law_cell)) (eb_v rfl (Rp.mono A.ex r_law_k)) (eb_v rfl (Rp.mono A.ex r_law_most)) (eb_v rfl (mv_rp A (List.Mem.head _) al_law_ahead))))).own hx A fun v_law_number G109 H110 g e A r_law_number => ?_
      replace r_law_script := Rp.mono g r_law_script
      replace r_law_most := Rp.mono g r_law_most
      replace r_law_total := Rp.mono g r_law_total
      replace r_law_many := Rp.mono g r_law_many
      replace al_law_points := al_law_points.mono g
      replace al_law_ahead := al_law_ahead.mono fun _ _ => Rp.mono g
      replace r_law_k := Rp.mono g r_law_k
      replace r_law_cell := Rp.mono g r_law_cell
      replace gL103 := gL103.trans g
      replace e0 := e0.trans e
      replace eM103 := eM103.trans e
      obtain ⟨y111, hy111, hm⟩ := bnd hm
      obtain ⟨x_law_ahead, hd, hm⟩ := bnd hm
      replace hd := fApps hd
      refine st_app (L1 := []) (slot_ref rfl) ((eb_v rfl (Rp.mono A.ex r_law_number))).own hy111 A (by rw [al_law_ahead.len]; exact hd.2) fun v_y111 G112 H113 g e A r_y111 => ?_
      replace r_law_script := Rp.mono g r_law_script
      replace r_law_most := Rp.mono g r_law_most
      replace r_law_total := Rp.mono g r_law_total
      replace r_law_many := Rp.mono g r_law_many
      replace al_law_points := al_law_points.mono g
      replace al_law_ahead := al_law_ahead.mono fun _ _ => Rp.mono g
      replace r_law_k := Rp.mono g r_law_k
      replace r_law_cell := Rp.mono g r_law_cell
      replace r_law_number := Rp.mono g r_law_number
      replace gL103 := gL103.trans g
      replace e0 := e0.trans e
      replace eM103 := eM103.trans e
      replace al_law_ahead := al_law_ahead.app (Al.one r_y111)
      rw [← hd.1] at al_law_ahead
      replace e0 := Gx.mutA e0 ne0_law_ahead A
      replace eM103 := Gx.mutA eM103 neM103_law_ahead A
      generalize upd _ p_law_ahead (.lst _) = H114 at A e0 eM103 ⊢
      obtain ⟨b115, hb115, hm⟩ := bnd hm
      refine st_if (et_test (x_gt (eb_v rfl (Rp.mono A.ex r_law_many)) (eb_int (K := K)))) hb115 (fun eb115 H116 e => ?_) (fun eb115 H116 e => ?_)
      · subst eb115
        replace hm := itt hm
        replace A := A.grow e
        replace e0 := e0.trans e
        replace eM103 := eM103.trans e
        obtain ⟨y117, hy117, hm⟩ := bnd hm
        obtain ⟨y118, hy118, hm⟩ := bnd hm
        obtain ⟨x_law_points, hd, hm⟩ := bnd hm
        refine st_appAt (L1 := [_]) rfl (x_mod (x_div (eb_call (em2 (eb_v rfl (Rp.mono A.ex r_law_cell)) (eb_int (K := K)))) (eb_int (K := K))) (eb_v rfl (Rp.mono A.ex r_law_many))) hy117 ((eb_v rfl (Rp.mono A.ex r_law_number))).own hy118 A al_law_points hd fun G119 H120 H121 p_ o_ vss_law_points g e hp_ eH A2 A al_law_points => ?_
        replace r_law_script := Rp.mono g r_law_script
        replace r_law_most := Rp.mono g r_law_most
        replace r_law_total := Rp.mono g r_law_total
        replace r_law_many := Rp.mono g r_law_many
        replace al_law_ahead := al_law_ahead.mono fun _ _ => Rp.mono g
        replace r_law_k := Rp.mono g r_law_k
        replace r_law_cell := Rp.mono g r_law_cell
        replace r_law_number := Rp.mono g r_law_number
        replace gL103 := gL103.trans g
        replace e0 := e0.trans e
        replace eM103 := eM103.trans e
        replace e0 := eH ▸ Gx.mut (o := o_) e0 (nps_e0_law_points p_ hp_)
        replace eM103 := eH ▸ Gx.mut (o := o_) eM103 (nps_eM103_law_points p_ hp_)
        clear eH A2
        obtain rfl := Option.some.inj hm
        exact ⟨_, _, _, _, _, _, rfl, e0, eM103, gL103, A, al_law_points, al_law_ahead⟩
      · subst eb115
        replace hm := itf hm
        replace A := A.grow e
        replace e0 := e0.trans e
        replace eM103 := eM103.trans e
        obtain rfl := Option.some.inj hm
        exact ⟨_, _, _, _, _, _, rfl, e0, eM103, gL103, A, al_law_points, al_law_ahead⟩
    · obtain ⟨G122, k_law_k, k_law_cell, k_law_number, vss_law_points, vs_law_ahead, rfl, e0, eM103, gL103, A, al_law_points, al_law_ahead⟩ := hin
      replace r_law_script := Rp.mono gL103 r_law_script
      replace r_law_most := Rp.mono gL103 r_law_most
      replace r_law_total := Rp.mono gL103 r_law_total
      replace r_law_many := Rp.mono gL103 r_law_many
      obtain ⟨x_law_some, hx, hm⟩ := bnd hm
      refine st_asg ((x_lc (i_list (es_b (eb_v rfl (lm_rp A (fun e h => (List.Mem.tail _ h)) al_law_points)))) tg_n (bi_n (by decide)) (fun y124 σc Hc gh124 hb124 => by obtain ⟨c124v_law_one, c124r_law_one, rfl⟩ := hb124; exact t_yes) (fun y124 σc Hc gh124 hb124 => by obtain ⟨c124v_law_one, c124r_law_one, rfl⟩ := hb124; exact (eb_call (em2 (eb_v rfl (Rp.mono gh124 (Rp.mono A.ex r_law_most))) (eb_v rfl c124r_law_one)))))).own hx A fun v_law_some G125 H126 g e A r_law_some => ?_
      replace r_law_script := Rp.mono g r_law_script
      replace r_law_most := Rp.mono g r_law_most
      replace r_law_total := Rp.mono g r_law_total
      replace r_law_many := Rp.mono g r_law_many
      replace al_law_points := al_law_points.mono g
      replace al_law_ahead := al_law_ahead.mono fun _ _ => Rp.mono g
      replace e0 := e0.trans e
      obtain ⟨x_law_handed, hx, hm⟩ := bnd hm
      refine st_asg ((x_list (eb_v rfl (Rp.mono A.ex r_law_some)))).own hx A fun v_law_handed G127 H128 g e A r_law_handed => ?_
      replace r_law_script := Rp.mono g r_law_script
      replace r_law_most := Rp.mono g r_law_most
      replace r_law_total := Rp.mono g r_law_total
      replace r_law_many := Rp.mono g r_law_many
      replace al_law_points := al_law_points.mono g
      replace al_law_ahead := al_law_ahead.mono fun _ _ => Rp.mono g
      replace r_law_some := Rp.mono g r_law_some
      replace e0 := e0.trans e
      obtain ⟨xs129, hx129, hm⟩ := bnd hm
      obtain ⟨res129, hl129, hm⟩ := bnd hm
      have hmL129 := hm
      refine st_for (M := []) (i_rng1 (eb_int (K := K))) hx129 fun J129 HL129 e wk129 => ?_
      replace A := A.grow e
      replace e0 := e0.trans e
      have eM129 : Gx (mns HL129 []) HL129 := mns_ex
      have gL129 : Gx G127 G127 := Gx.rfl
      obtain ⟨o129_law_ahead, ho129_law_ahead, A⟩ := at_obj (L1 := []) A
      refine loop_run wk129 hl129 tg_n (fun (s129 : Unit) (σ : L2.St) (H : Hp) => exists (Gi : Hp) (k_law_turn : Option V) (k_law_found : Option V), σ = [some v_law_script, some v_law_most, some v_law_total, some v_law_many, some (.ref p_law_points), some (.ref p_law_ahead), k_law_k, k_law_cell, k_law_number, some v_law_some, some v_law_handed, k_law_turn, k_law_found, none] ∧ Gx H0 H ∧ Gx (mns HL129 []) H ∧ Gx G127 Gi ∧ At Gi H ((p_law_ahead, o129_law_ahead) :: lmL p_law_points ps_law_points vss_law_points)) (fun s σ H h => ?_) ?_ (fun s129 x129 o129 σ H133 H131 σ2 hxm hf hr129 hin e hb => ?_) (fun w129 σ H147 hres hin => ?_)
      · obtain ⟨Gi, k_law_turn, k_law_found, rfl, e0, eM129, gL129, A⟩ := h
        exact eM129
      · exact ⟨_, _, _, rfl, e0, eM129, gL129, A⟩
      · obtain ⟨G130, k_law_turn, k_law_found, rfl, e0, eM129, gL129, A⟩ := hin
        subst ho129_law_ahead
        obtain ⟨v_law_turn, r_law_turn, rfl⟩ := hb
        replace A := A.grow e
        replace e0 := e0.trans e
        replace eM129 := eM129.trans e
        replace r_law_script := Rp.mono gL129 r_law_script
        replace r_law_most := Rp.mono gL129 r_law_most
        replace r_law_total := Rp.mono gL129 r_law_total
        replace r_law_many := Rp.mono gL129 r_law_many
        replace al_law_points := al_law_points.mono gL129
        replace al_law_ahead := al_law_ahead.mono fun _ _ => Rp.mono gL129
        replace r_law_some := Rp.mono gL129 r_law_some
        replace r_law_handed := Rp.mono gL129 r_law_handed
        replace r_law_turn := Im.im A.tx r_law_turn
        have g := A.gh
        replace A := A.hid
        replace r_law_script := Rp.mono g r_law_script
        replace r_law_most := Rp.mono g r_law_most
        replace r_law_total := Rp.mono g r_law_total
        replace r_law_many := Rp.mono g r_law_many
        replace al_law_points := al_law_points.mono g
        replace al_law_ahead := al_law_ahead.mono fun _ _ => Rp.mono g
        replace r_law_some := Rp.mono g r_law_some
        replace r_law_handed := Rp.mono g r_law_handed
        replace gL129 := gL129.trans g
        generalize hid _ _ = G134 at *
        have hm := hf
        unfold m_law_l2 at hm
        have hret129 := fun r h => finr (r := r) (hr129 r h) hmL129
        obtain ⟨x_law_found, hx, hm⟩ := bnd hm
        refine st_newM (en_call (em2 (eb_v rfl (Rp.mono A.ex r_law_most)) (eb_v rfl (Rp.mono A.ex r_law_handed)))) hx A fun p_law_found vs_law_found G135 H136 hp_law_found g e A al_law_found => ?_
        have ne0_law_found := e0.back hp_law_found
        have neM129_law_found := eM129.back hp_law_found
        replace r_law_script := Rp.mono g r_law_script
        replace r_law_most := Rp.mono g r_law_most
        replace r_law_total := Rp.mono g r_law_total
        replace r_law_many := Rp.mono g r_law_many
        replace al_law_points := al_law_points.mono g
        replace al_law_ahead := al_law_ahead.mono fun _ _ => Rp.mono g
        replace r_law_some := Rp.mono g r_law_some
        replace r_law_handed := Rp.mono g r_law_handed
        replace r_law_turn := Rp.mono g r_law_turn
        replace gL129 := gL129.trans g
        replace e0 := e0.trans e
        replace eM129 := eM129.trans e
        obtain ⟨b137, hb137, hm⟩ := bnd hm
        refine st_if (et_or (et_not (et_b (eb_call (em3 (eb_v rfl (Rp.mono A.ex r_law_most)) (eb_v rfl (Rp.mono A.ex r_law_some)) (eb_v rfl (mv_rp A (List.Mem.head _) al_law_found)))))) (et_test (x_ne (by decide) (eb_v rfl (Rp.mono A.ex r_law_handed)) (eb_v rfl (Rp.mono A.ex r_law_some))))) hb137 (fun eb137 H138 e => ?_) (fun eb137 H138 e => ?_)
        · subst eb137
          replace hm := itt hm
          replace A := A.grow e
          replace e0 := e0.trans e
          replace eM129 := eM129.trans e
          obtain ⟨y139, hy139, hm⟩ := bnd hm
          have er := hret129 y139 (Option.some.inj hm).symm
          subst er
          exact sr_b (eb_bl (K := K)) hy139 fun w H e r => q w H (e0.trans e) r
        · subst eb137
          replace hm := itf hm
          replace A := A.grow e
          replace e0 := e0.trans e
          replace eM129 := eM129.trans e
          obtain ⟨y140, hy140, hm⟩ := bnd hm
          obtain ⟨x_law_found, hd, hm⟩ := bnd hm
          replace hd := fApps hd
          refine st_app (L1 := []) (slot_ref rfl) ((x_pair (eb_int (K := K)) (eb_int (K := K)))).own hy140 A (by rw [al_law_found.len]; exact hd.2) fun v_y140 G141 H142 g e A r_y140 => ?_
          replace r_law_script := Rp.mono g r_law_script
          replace r_law_most := Rp.mono g r_law_most
          replace r_law_total := Rp.mono g r_law_total
          replace r_law_many := Rp.mono g r_law_many
          replace al_law_points := al_law_points.mono g
          replace al_law_ahead := al_law_ahead.mono fun _ _ => Rp.mono g
          replace r_law_some := Rp.mono g r_law_some
          replace r_law_handed := Rp.mono g r_law_handed
          replace r_law_turn := Rp.mono g r_law_turn
          replace al_law_found := al_law_found.mono fun _ _ => Rp.mono g
          replace gL129 := gL129.trans g
          replace e0 := e0.trans e
          replace eM129 := eM129.trans e
          replace al_law_found := al_law_found.app (Al.one r_y140)
          rw [← hd.1] at al_law_found
          replace e0 := Gx.mutA e0 ne0_law_found A
          replace eM129 := Gx.mutA eM129 neM129_law_found A
          generalize upd _ p_law_found (.lst _) = H143 at A e0 eM129 ⊢
          refine st_reverse (L1 := []) (slot_ref rfl) A fun A => ?_
          replace al_law_found := al_law_found.rev
          replace e0 := Gx.mutA e0 ne0_law_found A
          replace eM129 := Gx.mutA eM129 neM129_law_found A
          generalize upd _ p_law_found (.lst _) = H145 at A e0 eM129 ⊢
          replace A := At.drop (L1 := [_]) A
          exact ⟨_, (Option.some.inj hm).symm, _, _, _, rfl, e0, eM129, gL129, A⟩
      · obtain ⟨G146, k_law_turn, k_law_found, rfl, e0, eM129, gL129, A⟩ := hin
        subst ho129_law_ahead
        replace r_law_script := Rp.mono gL129 r_law_script
        replace r_law_most := Rp.mono gL129 r_law_most
        replace r_law_total := Rp.mono gL129 r_law_total
        replace r_law_many := Rp.mono gL129 r_law_many
        replace al_law_points := al_law_points.mono gL129
        replace al_law_ahead := al_law_ahead.mono fun _ _ => Rp.mono gL129
        replace r_law_some := Rp.mono gL129 r_law_some
        replace r_law_handed := Rp.mono gL129 r_law_handed
        subst hres
        replace hm := finl hm
        exact sr_b (eb_and (x_eq (by decide) ((en_call (em2 (eb_v rfl (Rp.mono A.ex r_law_most)) ((x_lst (l_nil (K := K)))).b))).b ((x_lst (l_cons (x_pair (eb_int (K := K)) (eb_v rfl (Rp.mono A.ex r_law_most))) (l_nil (K := K))))).b) (x_eq (by decide) ((en_call (em2 (eb_v rfl (Rp.mono A.ex r_law_most)) ((x_lst (l_cons (x_tup (l_nil (K := K))) (l_nil (K := K))))).b))).b ((x_lst (l_cons (x_pair (eb_int (K := K)) (eb_v rfl (Rp.mono A.ex r_law_most))) (l_nil (K := K))))).b)) hm fun w H e r => q w H (e0.trans e) r
end Law

set_option Elab.async false
set_option linter.all false
set_option maxRecDepth 100000
namespace Law
open PySem PySem.Spec PyProof.Rows L2 Pu
open Pu.Rp (rp)
theorem fNeg_1 : o1 fNeg (some (1 : Int)) = some (-1) := rfl
theorem mixed_ok (c k : Int) : exists v, m_law_mixed c k = some v ∧ 0 ≤ v ∧ v < 1000003 := by
  have h0 : (0 : Int) < 1000003 := by decide
  have b1 := Int.emod_nonneg (c * 48271 + 7919 * k + 11) (show (1000003 : Int) ≠ 0 by decide)
  have b2 := Int.emod_lt_of_pos (c * 48271 + 7919 * k + 11) h0
  unfold m_law_mixed
  simp only [o2, Option.bind_some, fAdd]
  rw [fMul_1 (i := c) (j := 48271) (by omega), fMul_1 (i := 7919) (j := k) (by omega)]
  simp only [Option.bind_some]
  rw [fMod_1 h0]
  generalize (c * 48271 + 7919 * k + 11) % 1000003 = n at b1 b2
  simp only [Option.bind_some]
  rw [fMul_1 (i := n) (j := n) (by omega)]
  simp only [Option.bind_some]
  rw [fMod_1 h0]
  simp only [Option.bind_some]
  rw [fMul_1 (i := n * n % 1000003) (j := n) (by omega)]
  simp only [Option.bind_some]
  rw [fMod_1 h0]
  exact ⟨_, rfl, Int.emod_nonneg _ (show (1000003 : Int) ≠ 0 by decide), Int.emod_lt_of_pos _ h0⟩
theorem great_ok (c k : Int) : exists v, m_law_great c k = some v ∧ 0 ≤ v ∧ v < 1000000000000 := by
  obtain ⟨a, ea, a0, a1⟩ := mixed_ok c k
  obtain ⟨b, eb, b0, b1⟩ := mixed_ok c (k + 500)
  refine ⟨(a * 1000003 + b) % 1000000000000, ?_, Int.emod_nonneg _ (by decide), Int.emod_lt_of_pos _ (by decide)⟩
  unfold m_law_great
  simp only [o2, Option.bind_some, fAdd, ea, eb]
  rw [fMul_1 (by omega), show fPow 10 12 = some 1000000000000 from rfl]
  simp only [Option.bind_some]
  rw [fMod_1 (by decide)]
theorem point_ok (c k most : Int) (ahead : List Int) (hm : 0 ≤ most) : exists v, m_law_point c k most ahead = some v ∧ 0 ≤ v ∧ v ≤ most := by
  obtain ⟨w, ew, w0, w1⟩ := mixed_ok c (3 * k + 20)
  obtain ⟨g, eg, g0, g1⟩ := great_ok c k
  have e1 : fMul 3 k = some (3 * k) := fMul_1 (by omega)
  have hlast : exists v, (o2 fMod (o2 m_law_great (some c) (some k)) (o2 fAdd (some most) (some (1 : Int)))) = some v ∧ 0 ≤ v ∧ v ≤ most := by
    refine ⟨g % (most + 1), ?_, Int.emod_nonneg _ (by omega), ?_⟩
    · simp only [o2, Option.bind_some, fAdd, eg]
      rw [fMod_1 (by omega)]
    · have := Int.emod_lt_of_pos g (show 0 < most + 1 by omega)
      omega
  unfold m_law_point
  simp only [o2, Option.bind_some, fAdd, e1, ew, oAnd, fNe, o1, szOk, fEq, fMod_1 (show (0 : Int) < 2 by decide), List.length_nil, Nat.zero_le, if_true]
  simp only [o2, Option.bind_some, fAdd] at hlast
  by_cases ha : ahead = []
  · simp [ha, hlast]
  · simp only [decide_eq_false ha, Bool.not_false, if_true, Option.bind_some]
    by_cases hw : w % 2 = 0
    · simp only [hw, decide_true, if_true]
      have hl : (0 : Int) < (ahead.length : Int) := by
        have := List.length_pos_iff.mpr ha
        omega
      obtain ⟨z, ez, _⟩ := ix_nat (s := ahead) (i := w / 6 % (ahead.length : Int)) (Int.emod_nonneg _ (by omega)) (Int.emod_lt_of_pos _ hl)
      simp only [fLen, fDiv_1 (show (0 : Int) < 6 ∧ (6 : Int) < 1073741824 by decide), fDiv_1 (show (0 : Int) < 2 ∧ (2 : Int) < 1073741824 by decide), fMod_1 (show (0 : Int) < 3 by decide), Option.bind_some, fMod_1 hl, ez, fSub, fMin, fMax]
      refine ⟨_, rfl, ?_, ?_⟩
      · have := @imax_le 0 (imin most (z + w / 2 % 3 - 1)); omega
      · have := @imax_le 0 (imin most (z + w / 2 % 3 - 1))
        have := @imin_le most (z + w / 2 % 3 - 1); omega
    · simp only [hw, decide_false, Bool.false_eq_true, if_false]
      exact hlast
theorem sum_nn : forall {r : List Int}, (forall y, y ∈ r -> 0 ≤ y) -> 0 ≤ r.sum
  | [], _ => by simp
  | x :: r, h => by
    have := sum_nn fun y hy => h y (List.mem_cons_of_mem x hy)
    have := h x List.mem_cons_self
    simp only [List.sum_cons]
    omega
theorem most_ok (ns : List Int) (hl : ns.length ≤ 63) : exists v, m_law_most_by ⟨ns⟩ = some v ∧ 0 ≤ v ∧ v ≤ 1000000000000 := by
  unfold m_law_most_by
  have hc := cutM_len ns none (some 80)
  obtain ⟨r, er, lr, pr⟩ := comp_ex (f := fun y : Int => o2 m_law_mixed (some y) (some (3 : Int))) (P := fun y => 0 ≤ y) (xs := cutM ns none (some 80)) fun x _ => by
    obtain ⟨v, e, a, b⟩ := mixed_ok x 3
    exact ⟨v, e, a⟩
  simp only [o3, fCutS, Option.bind_some, Option.map_some, oComp, lim]
  rw [if_pos (by omega)]
  simp only [Option.bind_some, er, o1, fSum]
  have hs := sum_nn pr
  generalize r.sum = s at hs
  obtain ⟨g, eg, g0, g1⟩ := great_ok s 5
  have b0 := Int.emod_nonneg s (show (40 : Int) ≠ 0 by decide)
  have b1 := Int.emod_lt_of_pos s (show (0 : Int) < 40 by decide)
  have d0 := Int.emod_nonneg s (show (7 : Int) ≠ 0 by decide)
  have d1 := Int.emod_lt_of_pos s (show (0 : Int) < 7 by decide)
  have c0 := Int.emod_nonneg (s / 40) (show (4 : Int) ≠ 0 by decide)
  have c1 := Int.emod_lt_of_pos (s / 40) (show (0 : Int) < 4 by decide)
  simp only [o2, Option.bind_some, eg, fMod_1 (show (0 : Int) < 40 by decide), fMod_1 (show (0 : Int) < 7 by decide), fMod_1 (show (0 : Int) < 4 by decide), fDiv_1 (show (0 : Int) < 40 ∧ (40 : Int) < 1073741824 by decide), show fPow 10 12 = some 1000000000000 from rfl, fCons, szOk, List.length_cons, List.length_nil]
  rw [if_pos (by decide)]
  simp only [Option.bind_some]
  obtain ⟨v, ev, hv, _⟩ := ix_nat (s := [s % 40, 1000000000000, g, s % 7]) (i := s / 40 % 4) c0 (by simpa using c1)
  refine ⟨v, ev, ?_⟩
  simp only [List.mem_cons, List.not_mem_nil, or_false] at hv
  rcases hv with h | h | h | h <;> omega
/-- the stretches are within the most -/
def Wd (most : Int) (L : List (Int × Int)) : Prop := forall p, p ∈ L -> 0 ≤ p.1 ∧ p.1 ≤ p.2 ∧ p.2 ≤ most
def inb (L : List (Int × Int)) (n : Int) : Bool := L.any fun p => decide (p.1 ≤ n) && decide (n ≤ p.2)
theorem inb_iff {L : List (Int × Int)} {n : Int} : inb L n = true ↔ inn L n := by
  unfold inb inn
  rw [List.any_eq_true]
  simp
theorem in_ok (L : List (Int × Int)) (n : Int) (hl : L.length ≤ 1000) : m_law_in ⟨L⟩ n = some (inb L n) := by
  unfold m_law_in
  simp only [oComp, lim, Option.bind_some, Option.map_some]
  rw [if_pos (by omega)]
  simp only [Option.bind_some]
  rw [comp_all (g := fun p : Int × Int => decide (p.1 ≤ n) && decide (n ≤ p.2)) (fun _ _ => rfl) fun p _ => by
    simp only [oChain, fLe, Option.bind_some]
    by_cases h : p.1 ≤ n <;> simp [h]]
  simp only [o1, Option.bind_some, fAny, inb, List.any_map]
  rfl
/-! toggled -/
def prs : List Int -> List (Int × Int)
  | a :: b :: r => (a, b - 1) :: prs r
  | _ => []
theorem prs_zip : forall r : List Int, ((evs r).zip (ods r)).map (fun y => (y.1, y.2 - 1)) = prs r
  | [] => rfl
  | [a] => rfl
  | a :: b :: r => by
    have := prs_zip r
    unfold evs ods prs
    rw [List.zip_cons_cons, List.map_cons, this]
theorem prs_mem {p : Int × Int} : forall {r : List Int}, p ∈ prs r -> p.1 ∈ r ∧ p.2 + 1 ∈ r
  | [], h => nomatch h
  | [a], h => nomatch h
  | a :: b :: r, h => by
    unfold prs at h
    rcases List.mem_cons.mp h with rfl | h
    · simp
    · have := prs_mem h
      exact ⟨List.mem_cons_of_mem _ (List.mem_cons_of_mem _ this.1), List.mem_cons_of_mem _ (List.mem_cons_of_mem _ this.2)⟩
theorem prs_nrm : forall {r : List Int}, r.Pairwise (· < ·) -> Nrm (prs r)
  | [], _ => Nrm.nil
  | [a], _ => Nrm.nil
  | a :: b :: r, h => by
    obtain ⟨h1, h2⟩ := List.pairwise_cons.mp h
    obtain ⟨h3, h4⟩ := List.pairwise_cons.mp h2
    have ih := prs_nrm h4
    have ab := h1 b List.mem_cons_self
    unfold prs
    refine ⟨fun p hp => ?_, List.pairwise_cons.mpr ⟨fun p hp => ?_, ih.2⟩⟩
    · rcases List.mem_cons.mp hp with rfl | hp
      · simp only; omega
      · exact ih.1 p hp
    · have := h3 p.1 (prs_mem hp).1
      simp only; omega
theorem prs_len : forall r : List Int, (prs r).length ≤ r.length
  | [] => Nat.le_refl _
  | [a] => Nat.zero_le _
  | a :: b :: r => by
    have := prs_len r
    unfold prs
    simp only [List.length_cons]
    omega
theorem rows_ok (rows : List Int) (hl : rows.length ≤ 1000) : (o1 fTuple (oComp (fun (y : (Int × Int)) => (some true)) (fun (y : (Int × Int)) => (o2 fPair (some y.1) (o2 fSub (some y.2) (some (1 : Int))))) (o2 fZip (o3 (fStep 2) (some rows) (some none) (some none)) (o3 (fStep 2) (some rows) (((some (1 : Int))).map some) (some none))))) = some ⟨prs rows⟩ := by
  have e : (o2 fZip (o3 (fStep 2) (some rows) (some none) (some none)) (o3 (fStep 2) (some rows) (((some (1 : Int))).map some) (some none))) = some ((evs rows).zip (ods rows)) := by
    simp only [o2, o3, Option.bind_some, Option.map_some, fStep, fZip, stepM_evs, stepM_ods]
  have hz : (prs rows).length = ((evs rows).zip (ods rows)).length := by rw [← prs_zip, List.length_map]
  have := prs_len rows
  rw [e]
  unfold oComp lim
  rw [Option.bind_some, if_pos (by omega), Option.bind_some, comp_all (f := fun y : Int × Int => o2 fPair (some y.1) (o2 fSub (some y.2) (some (1 : Int)))) (g := fun y : Int × Int => (y.1, y.2 - 1)) (fun _ _ => rfl) (fun y _ => rfl), prs_zip]
  rfl
theorem toggled_ok {most : Int} {ps : List Int} (h : forall c, c ∈ ps -> 0 ≤ c ∧ c ≤ most) (hl : ps.length ≤ 90) : exists t, m_law_toggled most ps = some ⟨t⟩ ∧ Nrm t ∧ Wd most t ∧ t.length ≤ ps.length + 1 := by
  obtain ⟨s1, s2, s3⟩ := sset_ok ps
  have fin : forall rows : List Int, rows.Pairwise (· < ·) -> (forall c, c ∈ rows -> 0 ≤ c ∧ c ≤ most + 1) -> rows.length ≤ ps.length + 1 -> Nrm (prs rows) ∧ Wd most (prs rows) ∧ (prs rows).length ≤ ps.length + 1 := fun rows a b c => by
    have := prs_len rows
    refine ⟨prs_nrm a, fun p hp => ?_, by omega⟩
    have := (prs_nrm a).1 p hp
    have := b _ (prs_mem hp).1
    have := b _ (prs_mem hp).2
    omega
  unfold m_law_toggled
  rw [show o1 fSortSet (some ps) = some (sset ps) from if_pos (by omega), Option.bind_some]
  have e1 : (o2 fEq (o2 fMod (o1 fLen (some (sset ps))) (some (2 : Int))) (some (1 : Int))) = some (decide (((sset ps).length : Int) % 2 = 1)) := rfl
  rw [e1, Option.bind_some]
  by_cases c : ((sset ps).length : Int) % 2 = 1
  · rw [if_pos (decide_eq_true c)]
    simp only [fApp, show (o2 fAdd (some most) (some (1 : Int))) = some (most + 1) from rfl, Option.bind_some]
    rw [if_pos (by omega), Option.bind_some, rows_ok _ (by simp only [List.length_append, List.length_cons, List.length_nil]; omega)]
    refine ⟨_, rfl, fin _ (List.pairwise_append.mpr ⟨s1, List.pairwise_singleton _ _, fun a ha b hb => ?_⟩) (fun z hz => ?_) (by simp only [List.length_append, List.length_cons, List.length_nil]; omega)⟩
    · rw [List.mem_singleton.mp hb]
      have := h a ((s2 a).mp ha)
      omega
    · rcases List.mem_append.mp hz with hz | hz
      · have := h z ((s2 z).mp hz); omega
      · rw [List.mem_singleton.mp hz]
        cases hs : sset ps with
        | nil => rw [hs] at c; simp at c
        | cons w r =>
          have := h w ((s2 w).mp (by rw [hs]; exact List.mem_cons_self))
          omega
  · rw [if_neg (by simpa using c), rows_ok _ (by omega)]
    exact ⟨_, rfl, fin _ s1 (fun z hz => by have := h z ((s2 z).mp hz); omega) (by omega)⟩
theorem cutM_1 {A : Type} (xs : List A) : cutM xs (some 1) none = xs.drop 1 := by
  cases xs with
  | nil => rfl
  | cons x r =>
    unfold cutM
    simp [HT.sIx]

/-! the borders of all sets -/
def bd : List (Int × Int) -> List Int
  | [] => []
  | p :: L => p.1 :: (p.2 + 1) :: bd L
def bds : List (Tl (Int × Int)) -> List Int
  | [] => []
  | S :: L => bd S.l ++ bds L
theorem bd_mem {c : Int} : forall {L : List (Int × Int)}, c ∈ bd L ↔ exists p, p ∈ L ∧ (c = p.1 ∨ c = p.2 + 1)
  | [] => ⟨fun h => (nomatch h), fun ⟨p, h, _⟩ => (nomatch h)⟩
  | p :: L => by
    unfold bd
    rw [List.mem_cons, List.mem_cons, bd_mem (L := L)]
    constructor
    · rintro (h | h | ⟨q, h, z⟩)
      · exact ⟨p, List.mem_cons_self, .inl h⟩
      · exact ⟨p, List.mem_cons_self, .inr h⟩
      · exact ⟨q, List.mem_cons_of_mem _ h, z⟩
    · rintro ⟨q, h, z⟩
      rcases List.mem_cons.mp h with rfl | h
      · exact z.elim .inl fun z => .inr (.inl z)
      · exact .inr (.inr ⟨q, h, z⟩)
theorem bds_mem {c : Int} : forall {L : List (Tl (Int × Int))}, c ∈ bds L ↔ exists S, S ∈ L ∧ c ∈ bd S.l
  | [] => ⟨fun h => (nomatch h), fun ⟨p, h, _⟩ => (nomatch h)⟩
  | S :: L => by
    unfold bds
    rw [List.mem_append, bds_mem (L := L)]
    constructor
    · rintro (h | ⟨q, h, z⟩)
      · exact ⟨S, List.mem_cons_self, h⟩
      · exact ⟨q, List.mem_cons_of_mem _ h, z⟩
    · rintro ⟨q, h, z⟩
      rcases List.mem_cons.mp h with rfl | h
      · exact .inl z
      · exact .inr ⟨q, h, z⟩
theorem bd_len : forall L : List (Int × Int), (bd L).length = 2 * L.length
  | [] => rfl
  | p :: L => by
    unfold bd
    simp only [List.length_cons, bd_len L]
    omega
def tot {A : Type} : List (List A) -> Nat
  | [] => 0
  | x :: r => x.length + tot r
theorem bds_len : forall L : List (Tl (Int × Int)), (bds L).length = 2 * tot (L.map Tl.l)
  | [] => rfl
  | S :: L => by
    unfold bds
    simp only [List.length_append, bd_len, bds_len L, List.map_cons, tot]
    omega
theorem parts2 : forall (L : List (Int × Int)) (s : List Int), s.length + 2 * L.length ≤ 90000 -> foldO m_parts_l2 s L = some (s ++ bd L)
  | [], s, _ => by unfold bd; rw [List.append_nil]; rfl
  | p :: L, s, h => by
    simp only [List.length_cons] at h
    have e : m_parts_l2 s p = some (s ++ [p.1] ++ [p.2 + 1]) := by
      unfold m_parts_l2
      simp only [o2, Option.bind_some, fApp, fAdd]
      rw [if_pos (by omega)]
      simp only [Option.bind_some]
      rw [if_pos (by simp only [List.length_append, List.length_cons, List.length_nil]; omega)]
      rfl
    unfold foldO
    rw [e, Option.bind_some]
    rw [parts2 L _ (by simp only [List.length_append, List.length_cons, List.length_nil]; omega)]
    rw [show bd (p :: L) = p.1 :: (p.2 + 1) :: bd L from rfl]
    simp
theorem parts1 : forall (L : List (Tl (Int × Int))) (s : List Int), s.length + 2 * tot (L.map Tl.l) ≤ 90000 -> foldO m_parts_l1 s L = some (s ++ bds L)
  | [], s, _ => by unfold bds; rw [List.append_nil]; rfl
  | S :: L, s, h => by
    simp only [List.map_cons, tot] at h
    have e : m_parts_l1 s S = some (s ++ bd S.l) := by
      unfold m_parts_l1
      simp only [Option.bind_some, Option.map_some]
      rw [parts2 S.l s (by omega)]
      rfl
    unfold foldO
    rw [e, Option.bind_some]
    rw [parts1 L _ (by simp only [List.length_append, bd_len]; omega)]
    rw [show bds (S :: L) = bd S.l ++ bds L from rfl, List.append_assoc]
def nx : List Int -> List (Int × Int)
  | a :: b :: r => (a, b - 1) :: nx (b :: r)
  | _ => []
theorem nx_zip : forall r : List Int, (r.zip (r.drop 1)).map (fun y => (y.1, y.2 - 1)) = nx r
  | [] => rfl
  | [a] => rfl
  | a :: b :: r => by
    have := nx_zip (b :: r)
    unfold nx
    rw [← this]
    rfl
theorem nx_len : forall r : List Int, (nx r).length ≤ r.length
  | [] => Nat.le_refl _
  | [a] => Nat.zero_le _
  | a :: b :: r => by
    have := nx_len (b :: r)
    unfold nx
    simp only [List.length_cons] at this ⊢
    omega
theorem nx_mem {p : Int × Int} : forall {r : List Int}, r.Pairwise (· < ·) -> p ∈ nx r -> p.1 ≤ p.2 ∧ forall c, c ∈ r -> ¬ (p.1 < c ∧ c ≤ p.2)
  | [], _, h => nomatch h
  | [a], _, h => nomatch h
  | a :: b :: r, hp, h => by
    obtain ⟨h1, h2⟩ := List.pairwise_cons.mp hp
    obtain ⟨h3, h4⟩ := List.pairwise_cons.mp h2
    have ab := h1 b List.mem_cons_self
    unfold nx at h
    rcases List.mem_cons.mp h with rfl | h
    · refine ⟨by simp only; omega, fun c hc z => ?_⟩
      simp only at z
      rcases List.mem_cons.mp hc with hc | hc
      · omega
      · rcases List.mem_cons.mp hc with hc | hc
        · omega
        · have := h3 c hc; omega
    · obtain ⟨i1, i2⟩ := nx_mem h2 h
      refine ⟨i1, fun c hc z => ?_⟩
      rcases List.mem_cons.mp hc with hc | hc
      · have hp1 : b ≤ p.1 := nx_low h2 h
        omega
      · exact i2 c hc z
where
  nx_low {p : Int × Int} : forall {b : Int} {r : List Int}, (b :: r).Pairwise (· < ·) -> p ∈ nx (b :: r) -> b ≤ p.1
  | _, [], _, h => nomatch h
  | b, d :: r, hp, h => by
    obtain ⟨h1, h2⟩ := List.pairwise_cons.mp hp
    unfold nx at h
    rcases List.mem_cons.mp h with rfl | h
    · exact Int.le_refl _
    · have := nx_low h2 h
      have := h1 d List.mem_cons_self
      omega
theorem nx_two {p q : Int × Int} : forall {r : List Int}, r.Pairwise (· < ·) -> (p, q) ∈ (nx r).zip ((nx r).drop 1) -> p.2 + 1 = q.1 ∧ q.1 ∈ r ∧ (exists a, a ∈ r ∧ a < q.1) ∧ exists c, c ∈ r ∧ q.1 < c
  | [], _, h => nomatch h
  | [a], _, h => nomatch h
  | [a, b], _, h => nomatch h
  | a :: b :: c :: r, hp, h => by
    obtain ⟨h1, h2⟩ := List.pairwise_cons.mp hp
    have bc := (List.pairwise_cons.mp h2).1 c List.mem_cons_self
    have e : (nx (a :: b :: c :: r)).zip ((nx (a :: b :: c :: r)).drop 1) = ((a, b - 1), (b, c - 1)) :: (nx (b :: c :: r)).zip ((nx (b :: c :: r)).drop 1) := rfl
    rw [e] at h
    rcases List.mem_cons.mp h with z | h
    · injection z with z1 z2
      subst z1 z2
      exact ⟨by simp only; omega, by simp, ⟨a, by simp, h1 b List.mem_cons_self⟩, c, by simp, bc⟩
    · obtain ⟨i1, i2, ⟨x, i3, i4⟩, y, i5, i6⟩ := nx_two h2 h
      exact ⟨i1, List.mem_cons_of_mem _ i2, ⟨x, List.mem_cons_of_mem _ i3, i4⟩, y, List.mem_cons_of_mem _ i5, i6⟩
theorem nx_last : forall (r : List Int) (a b : Int), exists c, nx (r ++ [a, b]) = nx (r ++ [a]) ++ [(c, b - 1)] ∧ c = a
  | [], a, b => ⟨a, rfl, rfl⟩
  | [x], a, b => ⟨a, rfl, rfl⟩
  | x :: y :: r, a, b => by
    obtain ⟨c, e, z⟩ := nx_last (y :: r) a b
    refine ⟨c, ?_, z⟩
    show (x, y - 1) :: nx ((y :: r) ++ [a, b]) = (x, y - 1) :: (nx ((y :: r) ++ [a]) ++ [(c, b - 1)])
    rw [e]
theorem any_all {I : Type} {f : I -> Option Bool} {g : I -> Bool} {xs : List I} (hl : xs.length ≤ 90000) (h : forall x, x ∈ xs -> f x = some (g x)) : oComp (fun _ => some true) f (some xs) = some (xs.map g) := by
  unfold oComp lim
  rw [Option.bind_some, if_pos (by omega), Option.bind_some]
  exact comp_all (fun _ _ => rfl) h
theorem loop_unit {I : Type} {f : Unit -> I -> Option (Unit ⊕ Bool)} : forall {xs : List I}, (forall x, x ∈ xs -> f () x = some (.inl ())) -> loopM f () xs = some (.inl ())
  | [], _ => rfl
  | x :: xs, h => by
    unfold loopM
    rw [h x List.mem_cons_self]
    exact loop_unit fun y hy => h y (List.mem_cons_of_mem _ hy)
theorem cuts_ok (rows : List Int) (hl : rows.length ≤ 1000) : (oComp (fun (y : (Int × Int)) => (some true)) (fun (y : (Int × Int)) => (o2 fPair (some y.1) (o2 fSub (some y.2) (some (1 : Int))))) (o2 fZip (some rows) (o3 fCut (some rows) (((some (1 : Int))).map some) (some none)))) = some (nx rows) := by
  have e : (o2 fZip (some rows) (o3 fCut (some rows) (((some (1 : Int))).map some) (some none))) = some (rows.zip (rows.drop 1)) := by
    simp only [o2, o3, Option.bind_some, Option.map_some, fCut, fZip, cutM_1]
  have hz : (nx rows).length = (rows.zip (rows.drop 1)).length := by rw [← nx_zip, List.length_map]
  have := nx_len rows
  rw [e]
  unfold oComp lim
  rw [Option.bind_some, if_pos (by omega), Option.bind_some, comp_all (f := fun y : Int × Int => o2 fPair (some y.1) (o2 fSub (some y.2) (some (1 : Int)))) (g := fun y : Int × Int => (y.1, y.2 - 1)) (fun _ _ => rfl) (fun y _ => rfl), nx_zip]
def rws (most : Int) (L : List (Tl (Int × Int))) : List Int := sset ([0, most + 1] ++ bds L)
theorem parts_ok (most : Int) (L : List (Tl (Int × Int))) (h : tot (L.map Tl.l) ≤ 400) : m_parts most L = some (nx (rws most L)) := by
  have hl : ([0, most + 1] ++ bds L).length ≤ 1000 := by
    rw [List.length_append, bds_len]
    simp only [List.length_cons, List.length_nil]
    omega
  obtain ⟨_, _, h3⟩ := sset_ok ([0, most + 1] ++ bds L)
  unfold m_parts
  have e1 : (o1 szOk (o2 fCons (some (0 : Int)) (o2 fCons (o2 fAdd (some most) (some (1 : Int))) (some ([] : List Int))))) = some [0, most + 1] := rfl
  rw [e1, Option.bind_some, Option.bind_some, parts1 L _ (by simp only [List.length_cons, List.length_nil]; omega), Option.bind_some]
  have e2 : o1 fSortSet (some ([0, most + 1] ++ bds L)) = some (rws most L) := if_pos hl
  rw [e2, Option.bind_some, cuts_ok _ (by unfold rws; omega)]
/-- what stands in one list that rises with gaps -/
theorem nrm_two {S : List (Int × Int)} (h : Nrm S) {p q : Int × Int} (hp : p ∈ S) (hq : q ∈ S) : p = q ∨ p.2 + 1 < q.1 ∨ q.2 + 1 < p.1 := by
  have := h.2
  induction S with
  | nil => cases hp
  | cons a S ih =>
    obtain ⟨h1, h2⟩ := List.pairwise_cons.mp this
    rcases List.mem_cons.mp hp with rfl | hp
    · rcases List.mem_cons.mp hq with rfl | hq
      · exact .inl rfl
      · exact .inr (.inl (h1 q hq))
    · rcases List.mem_cons.mp hq with rfl | hq
      · exact .inr (.inr (h1 p (by assumption)))
      · exact ih h.tail hp hq h2
theorem turn_at {S : List (Int × Int)} (h : Nrm S) {e : Int} (he : e ∈ bd S) : inb S (e - 1) ≠ inb S e := by
  obtain ⟨p, hp, z⟩ := bd_mem.mp he
  have pp := h.1 p hp
  intro c
  rcases z with z | z
  · have a : inb S e = true := inb_iff.mpr ⟨p, hp, by omega, by omega⟩
    rw [a] at c
    obtain ⟨q, hq, x, y⟩ := inb_iff.mp c
    have qq := h.1 q hq
    rcases nrm_two h hp hq with rfl | w | w <;> omega
  · have a : inb S (e - 1) = true := inb_iff.mpr ⟨p, hp, by omega, by omega⟩
    rw [a] at c
    obtain ⟨q, hq, x, y⟩ := inb_iff.mp c.symm
    have qq := h.1 q hq
    rcases nrm_two h hp hq with rfl | w | w <;> omega
def Good (most : Int) (t : Tl (Int × Int)) : Prop := Nrm t.l ∧ Wd most t.l ∧ t.l.length ≤ 100
theorem right_ok {most : Int} (hm : 0 ≤ most) (L : List (Tl (Int × Int))) (hL : L.length ≤ 100) (hg : forall S, S ∈ L -> Good most S) (ht : tot (L.map Tl.l) ≤ 400) : m_law_right most L (nx (rws most L)) = some true := by
  have hlen : ([0, most + 1] ++ bds L).length ≤ 1000 := by
    rw [List.length_append, bds_len]
    simp only [List.length_cons, List.length_nil]
    omega
  obtain ⟨r1, r2, r3⟩ := sset_ok ([0, most + 1] ++ bds L)
  have hin : forall c, c ∈ rws most L -> c = 0 ∨ c = most + 1 ∨ exists S, S ∈ L ∧ c ∈ bd S.l := fun c hc => by
    have := (r2 c).mp hc
    rw [List.mem_append, bds_mem] at this
    rcases this with h | h
    · simp only [List.mem_cons, List.not_mem_nil, or_false] at h
      exact h.elim .inl fun h => .inr (.inl h)
    · exact .inr (.inr h)
  have hbd : forall S, S ∈ L -> forall c, c ∈ bd S.l -> c ∈ rws most L := fun S hS c hc => (r2 c).mpr (List.mem_append_right _ (bds_mem.mpr ⟨S, hS, hc⟩))
  have hw : forall c, c ∈ rws most L -> 0 ≤ c ∧ c ≤ most + 1 := fun c hc => by
    rcases hin c hc with h | h | ⟨S, hS, h⟩
    · omega
    · omega
    · obtain ⟨p, hp, z⟩ := bd_mem.mp h
      have := (hg S hS).2.1 p hp
      omega
  have h0 : (0 : Int) ∈ rws most L := (r2 0).mpr (by simp)
  have h1 : most + 1 ∈ rws most L := (r2 _).mpr (by simp)
  have hR : (rws most L).Pairwise (· < ·) := r1
  have hRl : (rws most L).length ≤ 1000 := by unfold rws; omega
  generalize rws most L = R at hin hbd hw h0 h1 hR hRl
  -- its two ends
  obtain ⟨b, R1, hR1⟩ : exists b R1, R = 0 :: b :: R1 := by
    cases R with
    | nil => cases h0
    | cons a R =>
      have a0 : a = 0 := by
        rcases List.mem_cons.mp h0 with z | z
        · exact z.symm
        · have := (List.pairwise_cons.mp hR).1 0 z
          have := (hw a List.mem_cons_self).1
          omega
      subst a0
      cases R with
      | nil => rw [List.mem_singleton] at h1; omega
      | cons b R => exact ⟨b, R, rfl⟩
  obtain ⟨R2, a2, hR2⟩ : exists R2 a2, R = R2 ++ [a2, most + 1] := by
    rcases snoc R with rfl | ⟨R', l, rfl⟩
    · cases h0
    · have el : l = most + 1 := by
        rcases List.mem_append.mp h1 with z | z
        · have := (List.pairwise_append.mp hR).2.2 _ z l (by simp)
          have := (hw l (by simp)).2
          omega
        · exact (List.mem_singleton.mp z).symm
      subst el
      rcases snoc R' with rfl | ⟨R'', a, rfl⟩
      · injection hR1 with _ z
        cases z
      · exact ⟨R'', a, by simp⟩
  have f0 : ix (nx R) 0 = some (0, b - 1) := by
    rw [hR1]
    exact atI_nat (j := 0) rfl
  have f1 : exists c, ix (nx R) (-1) = some (c, most) := by
    obtain ⟨c, e, _⟩ := nx_last R2 a2 (most + 1)
    refine ⟨c, ?_⟩
    rw [hR2, e, show most + 1 - 1 = most by omega]
    exact ix_last _ _
  obtain ⟨c1, f1⟩ := f1
  have fne : ¬ nx R = [] := by rw [hR1]; intro z; cases z
  have nl : (nx R).length ≤ 1000 := Nat.le_trans (nx_len R) hRl
  have zl : ((nx R).zip ((nx R).drop 1)).length ≤ 1000 := by rw [List.length_zip]; omega
  have zc : (o2 fZip (some (nx R)) (o3 fCut (some (nx R)) (((some (1 : Int))).map some) (some none))) = some ((nx R).zip ((nx R).drop 1)) := by
    simp only [o2, o3, Option.bind_some, Option.map_some, fCut, fZip, cutM_1]
  unfold m_law_right
  rw [fNeg_1]
  have g1 : (oOr (oNot (o1 (fIs true) (some (nx R)))) (oOr (o2 fEq (some (nx R)) (o1 szOk (some ([] : List (Int × Int))))) (oOr (o2 fNe (o1 fFst (o2 ix (some (nx R)) (some (0 : Int)))) (some (0 : Int))) (o2 fNe (o1 fSnd (o2 ix (some (nx R)) (some (-1)))) (some most))))) = some false := by
    simp [oOr, oNot, o1, o2, fIs, fEq, fNe, szOk, fne, f0, f1, fFst, fSnd]
  rw [g1, Option.bind_some, if_neg (by decide)]
  have g2 : (oNot (o1 fAll (oComp (fun (y : (Int × Int)) => (some true)) (fun (y : (Int × Int)) => (oAnd (o1 (fIs true) (some y)) (oAnd (o2 fEq (o1 fLen2 (some y)) (some (2 : Int))) (o2 fLe (o1 fFst (some y)) (o1 fSnd (some y)))))) (some (nx R))))) = some false := by
    rw [any_all (g := fun y => true) (by omega) fun y hy => by
      have := (nx_mem hR hy).1
      simp [oAnd, o1, o2, fIs, fEq, fLen2, fLe, fFst, fSnd, this]]
    simp [o1, fAll, oNot]
  rw [g2, Option.bind_some, if_neg (by decide)]
  have g3 : (oNot (o1 fAll (oComp (fun (y : ((Int × Int) × (Int × Int))) => (some true)) (fun (y : ((Int × Int) × (Int × Int))) => (o2 fEq (o2 fAdd (o1 fSnd (some y.1)) (some (1 : Int))) (o1 fFst (some y.2)))) (some ((nx R).zip ((nx R).drop 1)))))) = some false := by
    rw [any_all (g := fun y => true) (by omega) fun y hy => by
      have := (nx_two (p := y.1) (q := y.2) hR hy).1
      simp [o1, o2, fEq, fAdd, fFst, fSnd, this]]
    simp [o1, fAll, oNot]
  rw [zc, g3, Option.bind_some, if_neg (by decide), Option.bind_some]
  rw [loop_unit (xs := L) fun S hS => by
    obtain ⟨n1, n2, n3⟩ := hg S hS
    unfold m_law_right_l1
    have c1 : oComp (fun (y : (Int × Int)) => (some true)) (fun (y : (Int × Int)) => (some y.1)) (((some S)).map Tl.l) = some (S.l.map fun p => p.1) := by
      rw [Option.map_some]
      unfold oComp lim
      rw [Option.bind_some, if_pos (by omega), Option.bind_some]
      exact comp_all (fun _ _ => rfl) fun _ _ => rfl
    have c2 : oComp (fun (y : (Int × Int)) => (some true)) (fun (y : (Int × Int)) => (o2 fAdd (some y.2) (some (1 : Int)))) (((some S)).map Tl.l) = some (S.l.map fun p => p.2 + 1) := by
      rw [Option.map_some]
      unfold oComp lim
      rw [Option.bind_some, if_pos (by omega), Option.bind_some]
      exact comp_all (fun _ _ => rfl) fun _ _ => rfl
    have c3 : o2 fCat (some (S.l.map fun p => p.1)) (some (S.l.map fun p => p.2 + 1)) = some ((S.l.map fun p => p.1) ++ S.l.map fun p => p.2 + 1) := if_pos (by simp; omega)
    rw [c1, c2, c3, Option.bind_some, Option.bind_some, loop_unit (xs := nx R) fun x hx => by
      obtain ⟨x1, x2⟩ := nx_mem hR hx
      unfold m_law_right_l2
      rw [any_all (g := fun y => false) (by simp; omega) fun y hy => by
        have hb : y ∈ R := by
          refine hbd S hS y (bd_mem.mpr ?_)
          rcases List.mem_append.mp hy with h | h
          · obtain ⟨p, hp, e⟩ := List.mem_map.mp h
            exact ⟨p, hp, .inl e.symm⟩
          · obtain ⟨p, hp, e⟩ := List.mem_map.mp h
            exact ⟨p, hp, .inr e.symm⟩
        have := x2 y hb
        unfold oChain
        simp only [Option.bind_some, fLt, fLe]
        by_cases c : x.1 < y
        · have d : ¬ y ≤ x.2 := fun d => this ⟨c, d⟩
          simp [c, d]
        · simp [c]]
      simp [o1, fAny], Option.bind_some]
    rfl]
  rw [Option.bind_some]
  unfold fin
  simp only
  rw [Option.bind_some, loop_unit (xs := (nx R).zip ((nx R).drop 1)) fun x hx => by
    obtain ⟨x1, x2, ⟨a, x3, x4⟩, d, x5, x6⟩ := nx_two (p := x.1) (q := x.2) hR hx
    unfold m_law_right_l3
    rw [any_all (g := fun S : Tl (Int × Int) => !decide (inb S.l x.1.2 = inb S.l x.2.1)) (by omega) fun S hS => by
      have := (hg S hS).2.2
      simp only [o1, o2, Option.bind_some, fFst, fSnd, in_ok S.l _ (show S.l.length ≤ 1000 by omega), fNe]]
    have : (L.map fun S : Tl (Int × Int) => !decide (inb S.l x.1.2 = inb S.l x.2.1)).any id = true := by
      rw [List.any_map]
      rcases hin _ x2 with h | h | ⟨S, hS, h⟩
      · have := hw a x3; omega
      · have := hw d x5; omega
      · refine List.any_eq_true.mpr ⟨S, hS, ?_⟩
        have := turn_at (hg S hS).1 h
        rw [show x.1.2 = x.2.1 - 1 by omega]
        simp [this]
    simp [o1, fAny, this, oNot]]
  rfl
/-! the law -/
theorem tot_set {A : Type} {y : A} : forall {xss : List (List A)} {j : Nat} {xs : List A}, xss[j]? = some xs -> tot (xss.set j (xs ++ [y])) = tot xss + 1
  | [], _, _, h => by simp at h
  | x :: r, 0, xs, h => by
    cases h
    simp only [List.set_cons_zero, tot, List.length_append, List.length_cons, List.length_nil]
    omega
  | x :: r, j + 1, xs, h => by
    have := tot_set (y := y) (xss := r) (j := j) h
    simp only [List.set_cons_succ, tot]
    omega
theorem tot_mem {A : Type} {x : List A} : forall {xss : List (List A)}, x ∈ xss -> x.length ≤ tot xss
  | [], h => nomatch h
  | y :: r, h => by
    unfold tot
    rcases List.mem_cons.mp h with rfl | h
    · omega
    · have := tot_mem h; omega
def InL (most : Int) (m k : Nat) (s : List (List Int) × List Int) : Prop := s.1.length = m ∧ (forall x, x ∈ s.1 -> forall c, c ∈ x -> 0 ≤ c ∧ c ≤ most) ∧ tot s.1 ≤ k ∧ s.2.length ≤ k
theorem step_ok (most : Int) (hm : 0 ≤ most) (m : Nat) (hmm : m ≤ 20) (k : Nat) (hk : k ≤ 1000) (s : List (List Int) × List Int) (x : Int × Int) (h : InL most m k s) : exists t, m_law_l1 most m s x = some t ∧ InL most m (k + 1) t := by
  obtain ⟨s1, ah⟩ := s
  obtain ⟨h0, h1, h2, h3⟩ := h
  simp only at h0 h1 h2 h3
  obtain ⟨num, el, n0, n1⟩ := point_ok x.2 x.1 most ah hm
  obtain ⟨w, em, w0, w1⟩ := mixed_ok x.2 12
  unfold m_law_l1
  simp only [o4, Option.bind_some, el, fApp, o2, em, fGt, fDiv_1 (show (0 : Int) < 4 ∧ (4 : Int) < 1073741824 by decide)]
  rw [if_pos (by omega)]
  simp only [Option.bind_some]
  by_cases c : (0 : Int) < (m : Int)
  · have c0 := Int.emod_nonneg (w / 4) (show (m : Int) ≠ 0 by omega)
    have c1 := Int.emod_lt_of_pos (w / 4) c
    rw [if_pos (decide_eq_true c), fMod_1 c]
    simp only [Option.bind_some]
    obtain ⟨xs, ex, mx, gx⟩ := ix_nat (s := s1) (i := w / 4 % (m : Int)) c0 (by rw [h0]; exact c1)
    have tm := tot_mem mx
    have hj : ixN s1.length (w / 4 % (m : Int)) = some (w / 4 % (m : Int)).toNat := by
      unfold ixN
      rw [if_pos c0, if_pos (by rw [h0]; omega)]
    have hf : fAppAt s1 (w / 4 % (m : Int)) num = some (s1.set (w / 4 % (m : Int)).toNat (xs ++ [num])) := by
      unfold fAppAt
      rw [hj, Option.bind_some, gx, Option.bind_some, if_pos (by omega)]
    rw [hf]
    refine ⟨_, rfl, by simp [h0], fun z hz d hd => ?_, by simp only; rw [tot_set gx]; omega, by simp; omega⟩
    rcases List.mem_or_eq_of_mem_set hz with hz | rfl
    · exact h1 z hz d hd
    · rcases List.mem_append.mp hd with hd | hd
      · exact h1 xs mx d hd
      · rw [List.mem_singleton.mp hd]; exact ⟨n0, n1⟩
  · rw [if_neg (by simpa using c)]
    exact ⟨_, rfl, h0, h1, by simp only; omega, by simp; omega⟩
theorem steps_ok (most : Int) (hm : 0 ≤ most) (m : Nat) (hmm : m ≤ 20) : forall (xs : List (Int × Int)) (k : Nat) (s : List (List Int) × List Int), k + xs.length ≤ 1000 -> InL most m k s -> exists t, foldO (m_law_l1 most m) s xs = some t ∧ InL most m (k + xs.length) t
  | [], k, s, _, h => ⟨s, rfl, h⟩
  | x :: xs, k, s, hk, h => by
    simp only [List.length_cons] at hk
    obtain ⟨t, e, a⟩ := step_ok most hm m hmm k (by omega) s x h
    obtain ⟨u, e2, a2⟩ := steps_ok most hm m hmm xs (k + 1) t (by omega) a
    refine ⟨u, ?_, by rw [List.length_cons, show k + (xs.length + 1) = k + 1 + xs.length by omega]; exact a2⟩
    unfold foldO
    rw [e]
    exact e2
def tgl (most : Int) (ps : List Int) : Tl (Int × Int) := (m_law_toggled most ps).getD ⟨[]⟩
theorem tgl_ok {most : Int} {ps : List Int} (h : forall c, c ∈ ps -> 0 ≤ c ∧ c ≤ most) (hl : ps.length ≤ 90) : m_law_toggled most ps = some (tgl most ps) ∧ Good most (tgl most ps) ∧ (tgl most ps).l.length ≤ ps.length + 1 := by
  obtain ⟨t, e, a, b, c⟩ := toggled_ok h hl
  unfold tgl
  rw [e]
  exact ⟨rfl, ⟨a, b, by simp only [Option.getD_some]; omega⟩, c⟩
theorem tot_tgl {most : Int} : forall {pts : List (List Int)}, (forall x, x ∈ pts -> forall c, c ∈ x -> 0 ≤ c ∧ c ≤ most) -> (forall x, x ∈ pts -> x.length ≤ 90) -> tot ((pts.map (tgl most)).map Tl.l) ≤ tot pts + pts.length
  | [], _, _ => Nat.le_refl _
  | x :: r, h, hl => by
    have := (tgl_ok (h x List.mem_cons_self) (hl x List.mem_cons_self)).2.2
    have := tot_tgl (pts := r) (fun y hy => h y (List.mem_cons_of_mem _ hy)) fun y hy => hl y (List.mem_cons_of_mem _ hy)
    simp only [List.map_cons, tot, List.length_cons]
    omega
theorem tot_nils {A I : Type} : forall xs : List I, tot (xs.map fun _ => ([] : List A)) = 0
  | [] => rfl
  | x :: xs => by
    rw [List.map_cons]
    unfold tot
    rw [tot_nils xs]
    rfl
theorem turn_ok {most : Int} (hm : 0 ≤ most) (L : List (Tl (Int × Int))) (hL : L.length ≤ 100) (hg : forall S, S ∈ L -> Good most S) (ht : tot (L.map Tl.l) ≤ 400) (x : Int) : m_law_l2 most L L () x = some (.inl ()) := by
  have hlen : ([0, most + 1] ++ bds L).length ≤ 1000 := by
    rw [List.length_append, bds_len]
    simp only [List.length_cons, List.length_nil]
    omega
  obtain ⟨_, _, r3⟩ := sset_ok ([0, most + 1] ++ bds L)
  have nl := nx_len (rws most L)
  have nl2 : (rws most L).length ≤ 1000 := by unfold rws; omega
  unfold m_law_l2
  simp only [o2, o3, Option.bind_some, parts_ok most L ht, right_ok hm L hL hg ht, oNot, oOr, Bool.not_true, Bool.false_eq_true, if_false, fNe, decide_true, fPair, fApp]
  rw [if_pos (by omega)]
  rfl
theorem m_law_true (ns : List Int) (hl : ns.length ≤ 63) : m_law ⟨ns⟩ = some true := by
  obtain ⟨most, em, m0, m1⟩ := most_ok ns hl
  have hcut := cutM_len ns none (some 80)
  have hen : (enum (cutM ns none (some 80))).length ≤ 63 := by
    unfold enum
    simp only [List.length_zip, List.length_map, List.length_range]
    omega
  obtain ⟨r, er, lr, pr⟩ := comp_ex (f := fun y : Int => o2 m_law_mixed (some y) (some (11 : Int))) (P := fun y => 0 ≤ y) (xs := cutM ns none (some 80)) fun x _ => by
    obtain ⟨v, e, a, b⟩ := mixed_ok x 11
    exact ⟨v, e, a⟩
  have es : (o1 fSum (oComp (fun (y : Int) => (some true)) (fun (y : Int) => (o2 m_law_mixed (some y) (some (11 : Int)))) (o3 fCutS (some (⟨ns⟩ : Scr)) (some none) (((some (80 : Int))).map some)))) = some r.sum := by
    have : o3 fCutS (some (⟨ns⟩ : Scr)) (some none) (((some (80 : Int))).map some) = some (cutM ns none (some 80)) := rfl
    rw [this]
    unfold oComp lim
    rw [Option.bind_some, if_pos (by omega), Option.bind_some, er]
    rfl
  have s0 := Int.emod_nonneg r.sum (show (21 : Int) ≠ 0 by decide)
  have s1 := Int.emod_lt_of_pos r.sum (show (0 : Int) < 21 by decide)
  unfold m_law
  rw [show o1 m_law_most_by (some ⟨ns⟩) = some most from em, Option.bind_some, es, Option.bind_some]
  rw [show o2 fMod (some r.sum) (some (21 : Int)) = some (r.sum % 21) from by simp only [o2, Option.bind_some]; exact fMod_1 (by decide), Option.bind_some]
  obtain ⟨m, hm⟩ : exists m : Nat, r.sum % 21 = (m : Int) := ⟨(r.sum % 21).toNat, by omega⟩
  rw [hm] at s0 s1 ⊢
  have hr : oLim (o1 fRng1 (some (m : Int))) = some (rng 0 m) := by
    have hk : rgOk (m : Int) = true := by unfold rgOk; rw [Bool.and_eq_true, decide_eq_true_eq, decide_eq_true_eq]; omega
    have h1 : o1 fRng1 (some (m : Int)) = some (rng 0 m) := by
      unfold o1 fRng1
      rw [Option.bind_some, if_pos hk]
    rw [h1]
    unfold oLim lim
    rw [Option.bind_some, if_pos (by unfold rng; simp; omega)]
  rw [hr, Option.bind_some]
  rw [show ((o3 fCutS (some (⟨ns⟩ : Scr)) (some none) (((some (80 : Int))).map some))).map enum = some (enum (cutM ns none (some 80))) from rfl, Option.bind_some]
  have rl : (rng 0 (m : Int)).length = m := by unfold rng; simp
  obtain ⟨⟨pts, ah⟩, ef, h0, h1, h2, h3⟩ := steps_ok most m0 m (by omega) (enum (cutM ns none (some 80))) 0 ((rng 0 (m : Int)).map fun _ => [], []) (by omega) ⟨by simp [rl], fun x hx c hc => by
    obtain ⟨_, _, e⟩ := List.mem_map.mp hx
    rw [← e] at hc
    exact (nomatch hc), (by simp only; rw [tot_nils]; exact Nat.le_refl _), Nat.le_refl _⟩
  simp only at h0 h1 h2 h3
  have hp : forall x, x ∈ pts -> x.length ≤ 90 := fun x hx => by have := tot_mem hx; omega
  rw [ef, Option.bind_some]
  have et : (oComp (fun (y : (List Int)) => (some true)) (fun (y : (List Int)) => (o2 m_law_toggled (some most) (some y))) (some pts)) = some (pts.map (tgl most)) := by
    unfold oComp lim
    rw [Option.bind_some, if_pos (by omega), Option.bind_some]
    exact comp_all (fun _ _ => rfl) fun x hx => (tgl_ok (h1 x hx) (hp x hx)).1
  simp only
  rw [et, Option.bind_some]
  have gL : forall S, S ∈ pts.map (tgl most) -> Good most S := fun S hS => by
    obtain ⟨x, hx, e⟩ := List.mem_map.mp hS
    rw [← e]
    exact (tgl_ok (h1 x hx) (hp x hx)).2.1
  have tL := tot_tgl h1 hp
  have lL : (pts.map (tgl most)).length ≤ 100 := by simp; omega
  rw [show o1 fList (some (pts.map (tgl most))) = some (pts.map (tgl most)) from rfl, Option.bind_some]
  rw [show o1 fRng1 (some (2 : Int)) = some (rng 0 2) from rfl, Option.bind_some]
  rw [loop_unit fun x _ => turn_ok m0 _ lL gL (by omega) x, Option.bind_some]
  have two : forall L : List (Tl (Int × Int)), bds L = [] -> tot (L.map Tl.l) ≤ 400 -> m_parts most L = some [(0, most)] := fun L hL ht => by
    rw [parts_ok most L ht]
    unfold rws
    rw [hL]
    have : sset [0, most + 1] = [0, most + 1] := by
      show sins 0 [most + 1] = _
      unfold sins
      rw [if_pos (by omega)]
    rw [List.append_nil, this]
    show some [((0 : Int), most + 1 - 1)] = _
    rw [show most + 1 - 1 = most by omega]
  have p1 : o2 m_parts (some most) (o1 szOk (some ([] : List (Tl (Int × Int))))) = some [(0, most)] := two [] rfl (by decide)
  have p2 : o2 m_parts (some most) (o1 szOk (o2 fCons (o1 fTup (some ([] : List (Int × Int)))) (some ([] : List (Tl (Int × Int)))))) = some [(0, most)] := two [⟨[]⟩] rfl (by decide)
  have p3 : o1 szOk (o2 fCons (o2 fPair (some (0 : Int)) (some most)) (some ([] : List (Int × Int)))) = some [(0, most)] := rfl
  unfold fin
  simp only
  rw [p1, p2, p3]
  simp [oAnd, o2, fEq]
end Law

set_option Elab.async false
set_option linter.all false
set_option maxRecDepth 100000
namespace Law
open PySem PySem.Spec PyProof.Rows L2 Pu
open Pu.Rp (rp)
def spLaw (K : Fg) : Sp := fun vs H Q _ => exists (a : Addr) (ns : List Int), vs = [.ref a] ∧ SqL K H a (ns.map V.int) ∧ ns.length ≤ 63 ∧ forall H', Q (.bl true) H'
theorem all_mk {l : PySem.W.OpenLaw} {w : World} {K : Fg} {h : Heap} {mg : Str → Option Value} {fa : Addr} (X : K.In h) (G : h.Ns mainGlobals mg) (hfa : mg "law" = some (.ref fa))
    {f0 : Addr} {od0 an0 : Option Addr} {sl0 : Array (Option Value)} {oc0 kV0 dc0 pm0 cd0 ct0 : Value}
    (a0 : PySem.W.nsIn K mainGlobals "parts" = some (some (.ref f0))) (l0 : K.lookup f0 = some ⟨oc0, od0, .func (PySem.W.fnOf "parts" "parts" (defArgs s_parts) (defBody s_parts) (defScope s_parts) .none kV0 dc0 pm0 an0 cd0 ct0), sl0⟩) (c0 : PySem.W.codeIn K cd0 "parts" = true) (k0 : PySem.W.keepIn K (.ref f0) = true)
    {f1 : Addr} {od1 an1 : Option Addr} {sl1 : Array (Option Value)} {oc1 kV1 dc1 pm1 cd1 ct1 : Value}
    (a1 : PySem.W.nsIn K mainGlobals "_law_mixed" = some (some (.ref f1))) (l1 : K.lookup f1 = some ⟨oc1, od1, .func (PySem.W.fnOf "_law_mixed" "_law_mixed" (defArgs s_law_mixed) (defBody s_law_mixed) (defScope s_law_mixed) .none kV1 dc1 pm1 an1 cd1 ct1), sl1⟩) (c1 : PySem.W.codeIn K cd1 "_law_mixed" = true) (k1 : PySem.W.keepIn K (.ref f1) = true)
    {f2 : Addr} {od2 an2 : Option Addr} {sl2 : Array (Option Value)} {oc2 kV2 dc2 pm2 cd2 ct2 : Value}
    (a2 : PySem.W.nsIn K mainGlobals "_law_great" = some (some (.ref f2))) (l2 : K.lookup f2 = some ⟨oc2, od2, .func (PySem.W.fnOf "_law_great" "_law_great" (defArgs s_law_great) (defBody s_law_great) (defScope s_law_great) .none kV2 dc2 pm2 an2 cd2 ct2), sl2⟩) (c2 : PySem.W.codeIn K cd2 "_law_great" = true) (k2 : PySem.W.keepIn K (.ref f2) = true)
    {f3 : Addr} {od3 an3 : Option Addr} {sl3 : Array (Option Value)} {oc3 kV3 dc3 pm3 cd3 ct3 : Value}
    (a3 : PySem.W.nsIn K mainGlobals "_law_point" = some (some (.ref f3))) (l3 : K.lookup f3 = some ⟨oc3, od3, .func (PySem.W.fnOf "_law_point" "_law_point" (defArgs s_law_point) (defBody s_law_point) (defScope s_law_point) .none kV3 dc3 pm3 an3 cd3 ct3), sl3⟩) (c3 : PySem.W.codeIn K cd3 "_law_point" = true) (k3 : PySem.W.keepIn K (.ref f3) = true)
    {f4 : Addr} {od4 an4 : Option Addr} {sl4 : Array (Option Value)} {oc4 kV4 dc4 pm4 cd4 ct4 : Value}
    (a4 : PySem.W.nsIn K mainGlobals "_law_toggled" = some (some (.ref f4))) (l4 : K.lookup f4 = some ⟨oc4, od4, .func (PySem.W.fnOf "_law_toggled" "_law_toggled" (defArgs s_law_toggled) (defBody s_law_toggled) (defScope s_law_toggled) .none kV4 dc4 pm4 an4 cd4 ct4), sl4⟩) (c4 : PySem.W.codeIn K cd4 "_law_toggled" = true) (k4 : PySem.W.keepIn K (.ref f4) = true)
    {f5 : Addr} {od5 an5 : Option Addr} {sl5 : Array (Option Value)} {oc5 kV5 dc5 pm5 cd5 ct5 : Value}
    (a5 : PySem.W.nsIn K mainGlobals "_law_in" = some (some (.ref f5))) (l5 : K.lookup f5 = some ⟨oc5, od5, .func (PySem.W.fnOf "_law_in" "_law_in" (defArgs s_law_in) (defBody s_law_in) (defScope s_law_in) .none kV5 dc5 pm5 an5 cd5 ct5), sl5⟩) (c5 : PySem.W.codeIn K cd5 "_law_in" = true) (k5 : PySem.W.keepIn K (.ref f5) = true)
    {f6 : Addr} {od6 an6 : Option Addr} {sl6 : Array (Option Value)} {oc6 kV6 dc6 pm6 cd6 ct6 : Value}
    (a6 : PySem.W.nsIn K mainGlobals "_law_most_by" = some (some (.ref f6))) (l6 : K.lookup f6 = some ⟨oc6, od6, .func (PySem.W.fnOf "_law_most_by" "_law_most_by" (defArgs s_law_most_by) (defBody s_law_most_by) (defScope s_law_most_by) .none kV6 dc6 pm6 an6 cd6 ct6), sl6⟩) (c6 : PySem.W.codeIn K cd6 "_law_most_by" = true) (k6 : PySem.W.keepIn K (.ref f6) = true)
    {f7 : Addr} {od7 an7 : Option Addr} {sl7 : Array (Option Value)} {oc7 kV7 dc7 pm7 cd7 ct7 : Value}
    (a7 : PySem.W.nsIn K mainGlobals "_law_right" = some (some (.ref f7))) (l7 : K.lookup f7 = some ⟨oc7, od7, .func (PySem.W.fnOf "_law_right" "_law_right" (defArgs s_law_right) (defBody s_law_right) (defScope s_law_right) .none kV7 dc7 pm7 an7 cd7 ct7), sl7⟩) (c7 : PySem.W.codeIn K cd7 "_law_right" = true) (k7 : PySem.W.keepIn K (.ref f7) = true)
    {f8 : Addr} {od8 an8 : Option Addr} {sl8 : Array (Option Value)} {oc8 kV8 dc8 pm8 cd8 ct8 : Value}
    (a8 : PySem.W.nsIn K mainGlobals "law" = some (some (.ref f8))) (l8 : K.lookup f8 = some ⟨oc8, od8, .func (PySem.W.fnOf "law" "law" (defArgs s_law) (defBody s_law) (defScope s_law) .none kV8 dc8 pm8 an8 cd8 ct8), sl8⟩) (c8 : PySem.W.codeIn K cd8 "law" = true) (k8 : PySem.W.keepIn K (.ref f8) = true)
    (z_all : PySem.W.nsIn K mainGlobals "all" = some none)
    (z_any : PySem.W.nsIn K mainGlobals "any" = some none)
    (z_enumerate : PySem.W.nsIn K mainGlobals "enumerate" = some none)
    (z_isinstance : PySem.W.nsIn K mainGlobals "isinstance" = some none)
    (z_len : PySem.W.nsIn K mainGlobals "len" = some none)
    (z_list : PySem.W.nsIn K mainGlobals "list" = some none)
    (z_max : PySem.W.nsIn K mainGlobals "max" = some none)
    (z_min : PySem.W.nsIn K mainGlobals "min" = some none)
    (z_range : PySem.W.nsIn K mainGlobals "range" = some none)
    (z_set : PySem.W.nsIn K mainGlobals "set" = some none)
    (z_sorted : PySem.W.nsIn K mainGlobals "sorted" = some none)
    (z_sum : PySem.W.nsIn K mainGlobals "sum" = some none)
    (z_tuple : PySem.W.nsIn K mainGlobals "tuple" = some none)
    (z_zip : PySem.W.nsIn K mainGlobals "zip" = some none)
    : exists fd : FuncData, (forall (s : Shared) (v : Value), BindsTo s fd ⟨[v], []⟩ [("_law_script", v)]) ∧ forall base : Heap, K.In base → base.Ns mainGlobals mg → FnOk l.prog w K mg base CX0 4 fa fd ["_law_script"] (spLaw K) := by
  have e := hfa.symm.trans (PySem.W.mg_of X G a8)
  cases e
  have F0 := fun_mk (st := s_parts) l0 c0 k0
  have F1 := fun_mk (st := s_law_mixed) l1 c1 k1
  have F2 := fun_mk (st := s_law_great) l2 c2 k2
  have F3 := fun_mk (st := s_law_point) l3 c3 k3
  have F4 := fun_mk (st := s_law_toggled) l4 c4 k4
  have F5 := fun_mk (st := s_law_in) l5 c5 k5
  have F6 := fun_mk (st := s_law_most_by) l6 c6 k6
  have F7 := fun_mk (st := s_law_right) l7 c7 k7
  have F8 := fun_mk (st := s_law) l8 c8 k8
  have b0 := F0.binds (ps := ["most", "some"]) fun _ _ _ _ _ _ us hl => match us, hl with | [_, _], _ => rfl
  have b1 := F1.binds (ps := ["_law_cell", "_law_k"]) fun _ _ _ _ _ _ us hl => match us, hl with | [_, _], _ => rfl
  have b2 := F2.binds (ps := ["_law_cell", "_law_k"]) fun _ _ _ _ _ _ us hl => match us, hl with | [_, _], _ => rfl
  have b3 := F3.binds (ps := ["_law_cell", "_law_k", "_law_most", "_law_ahead"]) fun _ _ _ _ _ _ us hl => match us, hl with | [_, _, _, _], _ => rfl
  have b4 := F4.binds (ps := ["_law_most", "_law_points"]) fun _ _ _ _ _ _ us hl => match us, hl with | [_, _], _ => rfl
  have b5 := F5.binds (ps := ["_law_one", "_law_number"]) fun _ _ _ _ _ _ us hl => match us, hl with | [_, _], _ => rfl
  have b6 := F6.binds (ps := ["_law_script"]) fun _ _ _ _ _ _ us hl => match us, hl with | [_], _ => rfl
  have b7 := F7.binds (ps := ["_law_most", "_law_some", "_law_found"]) fun _ _ _ _ _ _ us hl => match us, hl with | [_, _, _], _ => rfl
  have b8 := F8.binds (ps := ["_law_script"]) fun _ _ _ _ _ _ us hl => match us, hl with | [_], _ => rfl
  let T : Txt K mg := { a_parts := f0, d_parts := _, F_parts := F0, b_parts := b0, g_parts := PySem.W.mg_of X G a0, a_law_mixed := f1, d_law_mixed := _, F_law_mixed := F1, b_law_mixed := b1, g_law_mixed := PySem.W.mg_of X G a1, a_law_great := f2, d_law_great := _, F_law_great := F2, b_law_great := b2, g_law_great := PySem.W.mg_of X G a2, a_law_point := f3, d_law_point := _, F_law_point := F3, b_law_point := b3, g_law_point := PySem.W.mg_of X G a3, a_law_toggled := f4, d_law_toggled := _, F_law_toggled := F4, b_law_toggled := b4, g_law_toggled := PySem.W.mg_of X G a4, a_law_in := f5, d_law_in := _, F_law_in := F5, b_law_in := b5, g_law_in := PySem.W.mg_of X G a5, a_law_most_by := f6, d_law_most_by := _, F_law_most_by := F6, b_law_most_by := b6, g_law_most_by := PySem.W.mg_of X G a6, a_law_right := f7, d_law_right := _, F_law_right := F7, b_law_right := b7, g_law_right := PySem.W.mg_of X G a7, a_law := fa, d_law := _, F_law := F8, b_law := b8, g_law := PySem.W.mg_of X G a8, n_all := PySem.W.mg_none_of X G z_all, n_any := PySem.W.mg_none_of X G z_any, n_enumerate := PySem.W.mg_none_of X G z_enumerate, n_isinstance := PySem.W.mg_none_of X G z_isinstance, n_len := PySem.W.mg_none_of X G z_len, n_list := PySem.W.mg_none_of X G z_list, n_max := PySem.W.mg_none_of X G z_max, n_min := PySem.W.mg_none_of X G z_min, n_range := PySem.W.mg_none_of X G z_range, n_set := PySem.W.mg_none_of X G z_set, n_sorted := PySem.W.mg_none_of X G z_sorted, n_sum := PySem.W.mg_none_of X G z_sum, n_tuple := PySem.W.mg_none_of X G z_tuple, n_zip := PySem.W.mg_none_of X G z_zip }
  refine ⟨_, fun s v => .of_eq rfl, fun base _ _ => (ok_law T).imp fun vs H Q E h => ?_⟩
  obtain ⟨a, ns, rfl, hs, hl, q⟩ := h
  refine ⟨true, ⟨.ref a, ⟨ns⟩, rfl, ⟨a, rfl, hs⟩, m_law_true ns hl⟩, fun w H2 _ r => ?_⟩
  rw [show w = .bl true from r]
  exact q H2
end Law
open PySem PySem.W PyProof.Rows
set_option maxRecDepth 100000
set_option maxHeartbeats 0 in
theorem PySem.Challenge.cw_gatewright_k04_whole_parts_holds : PySem.Challenge.rw_gatewright_k04_whole_parts.Holds := by
  w_on; o_law; k_head; (case hw => w_witness2)
  k_fill
  refine L2.walk_of (l := PySem.Challenge.rw_gatewright_k04_whole_parts) (n := 63) (k := 4) (x := "_law_script") (CX := fun _ => L2.CX0) (sp := fun w => Law.spLaw _) rfl (by decide) rfl ⟨rfl, by decide, by decide⟩ (fun w h Y => PySem.W.kIn_of Y) ?F (fun _ _ a ns hl _ hS => ⟨a, ns, rfl, hS, hl, fun _ => rfl⟩) (fun _ _ _ _ _ h => h)
  case F =>
    intro w mg fa h KX G hmg
    refine' Law.all_mk KX G hmg ?a0 ?l0 ?c0 ?k0 ?a1 ?l1 ?c1 ?k1 ?a2 ?l2 ?c2 ?k2 ?a3 ?l3 ?c3 ?k3 ?a4 ?l4 ?c4 ?k4 ?a5 ?l5 ?c5 ?k5 ?a6 ?l6 ?c6 ?k6 ?a7 ?l7 ?c7 ?k7 ?a8 ?l8 ?c8 ?k8 ?z_all ?z_any ?z_enumerate ?z_isinstance ?z_len ?z_list ?z_max ?z_min ?z_range ?z_set ?z_sorted ?z_sum ?z_tuple ?z_zip
    (case a0 => k_is); (case l0 => k_is); (case c0 => k_is); (case k0 => k_is); (case a1 => k_is); (case l1 => k_is); (case c1 => k_is); (case k1 => k_is); (case a2 => k_is); (case l2 => k_is); (case c2 => k_is); (case k2 => k_is); (case a3 => k_is); (case l3 => k_is); (case c3 => k_is); (case k3 => k_is); (case a4 => k_is); (case l4 => k_is); (case c4 => k_is); (case k4 => k_is); (case a5 => k_is); (case l5 => k_is); (case c5 => k_is); (case k5 => k_is); (case a6 => k_is); (case l6 => k_is); (case c6 => k_is); (case k6 => k_is); (case a7 => k_is); (case l7 => k_is); (case c7 => k_is); (case k7 => k_is); (case a8 => k_is); (case l8 => k_is); (case c8 => k_is); (case k8 => k_is); (case z_all => k_is); (case z_any => k_is); (case z_enumerate => k_is); (case z_isinstance => k_is); (case z_len => k_is); (case z_list => k_is); (case z_max => k_is); (case z_min => k_is); (case z_range => k_is); (case z_set => k_is); (case z_sorted => k_is); (case z_sum => k_is); (case z_tuple => k_is); (case z_zip => k_is)

