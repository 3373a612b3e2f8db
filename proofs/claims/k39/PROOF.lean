import PyProof.Rows.All
import HandS.SetFor
import HandS.Strs
import Wide.All
import OpenK.AllK
import Wide.FinOn
import HandS.ForMost
import HandS.Wide
import HandS.TupAny
import HandS.Evl
import HandS.IsInst
import HandS.TupMul
import HandS.Steps
import HandS.Deep
import HandS.Style
import HandS.SortInts
import PyProof.ReprLen
import PyProof.ReprRoads
import KE.GoesMore
import HandS.Iter
import HandS.Zip
import HandS.Ends
import HandS.Conv
import HandS.Head0
import HandS.Head1
import HandS.Head2
import PyProof.Rows.TupMod
import KE.KDictCopyH
import KE.KDictDisplayH
import HandS.WideBits
import HandS.Dict
import HandS.HeadHook1
import HandS.HeadHook2
import HandS.Flow
import KE.KDictZip
import KE.GoesZip
import HandS.ListItems
import KE.DataMinKey
import KE.SortData
import HandS.BoundDict
import HandS.GenList
import KE.KDictList
import HandS.TupSets
import KE.DataMinMax
import PyProof.Rows.RowBridgeK
import HandS.SetBool
import PyProof.TupleOfSeq
import HandS.ExcValue
import PySem.Challenge.RW_rootalarms_k39_groups_told
set_option Elab.async false
set_option linter.all false
set_option maxRecDepth 100000
set_option maxHeartbeats 2000000
namespace Mir
open PySem L2

abbrev Da := PyData
/-- the store of a def: what each slot holds -/
abbrev Sto := List (Option Da)
abbrev Frz := Addr → Prop

def H00 : Hp := fun _ => none
def RL (K : PySem.W.Frag) (H : Hp) (F : Frz) (a : Addr) (vs : List V) : Prop := (F a ∧ Rd H a (.lst vs)) ∨ SqL K H00 a vs
def RT (K : PySem.W.Frag) (H : Hp) (F : Frz) (a : Addr) (vs : List V) : Prop := (F a ∧ Rd H a (.tup vs)) ∨ SqT K H00 a vs
/-- keys, as values and as what they stand for -/
def keyD : Key → Da
  | .inl i => .int i
  | .inr x => .str x

mutual
inductive Rp (K : PySem.W.Frag) (H : Hp) (F : Frz) : V → Da → Prop
  | non : Rp K H F .non .none
  | bl (b : Bool) : Rp K H F (.bl b) (.bool b)
  | int (i : Int) : Rp K H F (.int i) (.int i)
  | str (x : Str) : Rp K H F (.str x) (.str x)
  | lst {a : Addr} {vs : List V} {ds : List Da} : RL K H F a vs → RpA K H F vs ds → Rp K H F (.ref a) (.list ds)
  | tup {a : Addr} {vs : List V} {ds : List Da} : RT K H F a vs → RpA K H F vs ds → Rp K H F (.ref a) (.tuple ds)
  | dct {a : Addr} {o : Obj} {kvs : List (Key × V)} {kds : List (Da × Da)} : F a → H a = some (.frz o (.dK kvs)) → RpD K H F kvs kds → Rp K H F (.ref a) (.dict kds)
inductive RpA (K : PySem.W.Frag) (H : Hp) (F : Frz) : List V → List Da → Prop
  | nil : RpA K H F [] []
  | cons {v : V} {vs : List V} {d : Da} {ds : List Da} : Rp K H F v d → RpA K H F vs ds → RpA K H F (v :: vs) (d :: ds)
inductive RpD (K : PySem.W.Frag) (H : Hp) (F : Frz) : List (Key × V) → List (Da × Da) → Prop
  | nil : RpD K H F [] []
  | cons {k : Key} {v : V} {r : List (Key × V)} {d : Da} {s : List (Da × Da)} : Rp K H F v d → RpD K H F r s → RpD K H F ((k, v) :: r) ((keyD k, d) :: s)
end

theorem sq00 {K : PySem.W.Frag} {a : Addr} {vs : List V} (h : SqL K H00 a vs) (H : Hp) : SqL K H a vs := by
  rcases h with (h | ⟨o, h⟩) | h
  · cases h
  · cases h
  · exact .inr h
theorem st00 {K : PySem.W.Frag} {a : Addr} {vs : List V} (h : SqT K H00 a vs) (H : Hp) : SqT K H a vs := by
  rcases h with (h | ⟨o, h⟩) | h
  · cases h
  · cases h
  · exact .inr h
theorem RL.sq {K : PySem.W.Frag} {H : Hp} {F : Frz} {a : Addr} {vs : List V} (h : RL K H F a vs) : SqL K H a vs := by
  rcases h with ⟨_, h⟩ | h
  · exact .inl h
  · exact sq00 h H
theorem RT.sq {K : PySem.W.Frag} {H : Hp} {F : Frz} {a : Addr} {vs : List V} (h : RT K H F a vs) : SqT K H a vs := by
  rcases h with ⟨_, h⟩ | h
  · exact .inl h
  · exact st00 h H

/-- frozen things stay -/
def Stay (F : Frz) (H : Hp) (F' : Frz) (H' : Hp) : Prop := ∀ a, F a → F' a ∧ H' a = H a
theorem rd_stay {H H' : Hp} {a : Addr} {u : HO} (e : H' a = H a) (h : Rd H a u) : Rd H' a u := by
  rcases h with h | ⟨o, h⟩
  · exact .inl (e.trans h)
  · exact .inr ⟨o, e.trans h⟩
theorem RL.stay {K : PySem.W.Frag} {H H' : Hp} {F F' : Frz} {a : Addr} {vs : List V} (s : Stay F H F' H') (h : RL K H F a vs) : RL K H' F' a vs := by
  rcases h with ⟨f, h⟩ | h
  · exact .inl ⟨(s a f).1, rd_stay (s a f).2 h⟩
  · exact .inr h
theorem RT.stay {K : PySem.W.Frag} {H H' : Hp} {F F' : Frz} {a : Addr} {vs : List V} (s : Stay F H F' H') (h : RT K H F a vs) : RT K H' F' a vs := by
  rcases h with ⟨f, h⟩ | h
  · exact .inl ⟨(s a f).1, rd_stay (s a f).2 h⟩
  · exact .inr h
theorem Rp.st {K : PySem.W.Frag} {H H' : Hp} {F F' : Frz} {v : V} {d : Da} (h : Rp K H F v d) (s : Stay F H F' H') : Rp K H' F' v d :=
  Rp.rec (motive_1 := fun v d _ => Rp K H' F' v d) (motive_2 := fun vs ds _ => RpA K H' F' vs ds) (motive_3 := fun r t _ => RpD K H' F' r t)
    .non .bl .int .str (fun a _ ih => .lst (a.stay s) ih) (fun a _ ih => .tup (a.stay s) ih) (fun f r _ ih => .dct (s _ f).1 ((s _ f).2.trans r) ih) .nil (fun _ _ i1 i2 => .cons i1 i2) .nil (fun _ _ i1 i2 => .cons i1 i2) h
theorem RpA.st {K : PySem.W.Frag} {H H' : Hp} {F F' : Frz} {vs : List V} {ds : List Da} (h : RpA K H F vs ds) (s : Stay F H F' H') : RpA K H' F' vs ds :=
  RpA.rec (motive_1 := fun v d _ => Rp K H' F' v d) (motive_2 := fun vs ds _ => RpA K H' F' vs ds) (motive_3 := fun r t _ => RpD K H' F' r t)
    .non .bl .int .str (fun a _ ih => .lst (a.stay s) ih) (fun a _ ih => .tup (a.stay s) ih) (fun f r _ ih => .dct (s _ f).1 ((s _ f).2.trans r) ih) .nil (fun _ _ i1 i2 => .cons i1 i2) .nil (fun _ _ i1 i2 => .cons i1 i2) h
theorem RpD.st {K : PySem.W.Frag} {H H' : Hp} {F F' : Frz} {r : List (Key × V)} {t : List (Da × Da)} (h : RpD K H F r t) (s : Stay F H F' H') : RpD K H' F' r t :=
  RpD.rec (motive_1 := fun v d _ => Rp K H' F' v d) (motive_2 := fun vs ds _ => RpA K H' F' vs ds) (motive_3 := fun r t _ => RpD K H' F' r t)
    .non .bl .int .str (fun a _ ih => .lst (a.stay s) ih) (fun a _ ih => .tup (a.stay s) ih) (fun f r _ ih => .dct (s _ f).1 ((s _ f).2.trans r) ih) .nil (fun _ _ i1 i2 => .cons i1 i2) .nil (fun _ _ i1 i2 => .cons i1 i2) h
section
variable {K : PySem.W.Frag} {H H' : Hp} {F F' : Frz} {v : V} {d : Da} {vs : List V} {ds : List Da}
theorem RpA.len : ∀ {vs : List V} {ds : List Da}, RpA K H F vs ds → vs.length = ds.length
  | _, _, .nil => rfl
  | _, _, .cons _ t => congrArg (· + 1) (RpA.len t)
theorem RpA.get : ∀ {vs : List V} {ds : List Da} {i : Nat} {d : Da}, RpA K H F vs ds → ds[i]? = some d → ∃ v, vs[i]? = some v ∧ Rp K H F v d
  | _, _, _, _, .nil, e => by simp at e
  | _, _, 0, _, .cons a _, e => by simp at e; subst e; exact ⟨_, rfl, a⟩
  | _, _, i + 1, d, .cons _ t, e => by
    obtain ⟨v, h1, h2⟩ := RpA.get (i := i) (d := d) t (by simpa using e)
    exact ⟨v, by simpa using h1, h2⟩
theorem RpA.app : ∀ {vs ws : List V} {ds es : List Da}, RpA K H F vs ds → RpA K H F ws es → RpA K H F (vs ++ ws) (ds ++ es)
  | _, _, _, _, .nil, h => h
  | _, _, _, _, .cons a t, h => .cons a (RpA.app t h)
theorem RpA.drop : ∀ {vs : List V} {ds : List Da} (n : Nat), RpA K H F vs ds → RpA K H F (vs.drop n) (ds.drop n)
  | _, _, 0, h => h
  | _, _, _ + 1, .nil => .nil
  | _, _, n + 1, .cons _ t => RpA.drop n t
theorem RpA.take : ∀ {vs : List V} {ds : List Da} (n : Nat), RpA K H F vs ds → RpA K H F (vs.take n) (ds.take n)
  | _, _, 0, _ => .nil
  | _, _, _ + 1, .nil => .nil
  | _, _, n + 1, .cons a t => .cons a (RpA.take n t)
theorem RpA.set (h1 : Rp K H F v d) : ∀ {vs : List V} {ds : List Da} {i : Nat}, RpA K H F vs ds → RpA K H F (vs.set i v) (ds.set i d)
  | _, _, _, .nil => .nil
  | _, _, 0, .cons _ t => .cons h1 t
  | _, _, i + 1, .cons a t => .cons a (RpA.set h1 t)
theorem RpA.one (h : Rp K H F v d) : RpA K H F [v] [d] := .cons h .nil
/-- plain values: what they stand for tells them -/
theorem Rp.int_inv {i : Int} (h : Rp K H F v (.int i)) : v = .int i := by cases h; rfl
theorem Rp.bool_inv {b : Bool} (h : Rp K H F v (.bool b)) : v = .bl b := by cases h; rfl
theorem Rp.str_inv {x : Str} (h : Rp K H F v (.str x)) : v = .str x := by cases h; rfl
theorem Rp.none_inv (h : Rp K H F v .none) : v = .non := by cases h; rfl
theorem Rp.list_inv (h : Rp K H F v (.list ds)) : ∃ a vs, v = .ref a ∧ RL K H F a vs ∧ RpA K H F vs ds := by
  cases h with
  | lst a b => exact ⟨_, _, rfl, a, b⟩
theorem Rp.tup_inv (h : Rp K H F v (.tuple ds)) : ∃ a vs, v = .ref a ∧ RT K H F a vs ∧ RpA K H F vs ds := by
  cases h with
  | tup a b => exact ⟨_, _, rfl, a, b⟩
theorem ints_inv : ∀ {vs : List V} {ns : List Int}, RpA K H F vs (ns.map PyData.int) → vs = ns.map V.int
  | _, [], h => by cases h; rfl
  | _, n :: ns, h => by
    cases h with
    | cons a b =>
      rw [List.map_cons, a.int_inv, ints_inv b]
theorem bools_inv : ∀ {vs : List V} {bs : List Bool}, RpA K H F vs (bs.map PyData.bool) → vs = bs.map V.bl
  | _, [], h => by cases h; rfl
  | _, n :: ns, h => by
    cases h with
    | cons a b =>
      rw [List.map_cons, a.bool_inv, bools_inv b]
theorem ints_mk : ∀ {ns : List Int}, RpA K H F (ns.map V.int) (ns.map PyData.int)
  | [] => .nil
  | n :: ns => .cons (.int n) ints_mk
end
theorem Rp.dp {K : PySem.W.Frag} {H : Hp} {F : Frz} {v : V} {d : Da} (h : Rp K H F v d) : d.canLay0 = true → Dp K H v d :=
  Rp.rec (motive_1 := fun v d _ => d.canLay0 = true → Dp K H v d) (motive_2 := fun vs ds _ => PyData.canLayAll0 ds = true → DpAll K H vs ds) (motive_3 := fun _ _ _ => True)
    (fun _ => .non) (fun b _ => .bl b) (fun i _ => .int i) (fun x _ => .str x) (fun a _ ih l => .lst a.sq (ih (by rw [PyData.canLay0.eq_5] at l; exact l))) (fun a _ ih l => .tup a.sq (ih (by rw [PyData.canLay0.eq_6] at l; exact l))) (fun _ _ _ _ l => by simp [PyData.canLay0] at l)
    (fun _ => .nil) (fun _ _ i1 i2 l => by
      have l' := (Bool.and_eq_true _ _).mp (show (PyData.canLay0 _ && PyData.canLayAll0 _) = true from l)
      exact .cons (i1 l'.1) (i2 l'.2)) trivial (fun _ _ _ _ => trivial) h
theorem hasDict_all {d : Da} {ds : List Da} (h : PyData.hasDictAll (d :: ds) = false) : d.hasDict = false ∧ PyData.hasDictAll ds = false := by
  have e : (PyData.hasDict d || PyData.hasDictAll ds) = false := h
  exact (Bool.or_eq_false_iff.mp e)
theorem Rp.dpN {K : PySem.W.Frag} {H : Hp} {F : Frz} {v : V} {d : Da} (h : Rp K H F v d) : d.hasDict = false → Dp K H v d :=
  Rp.rec (motive_1 := fun v d _ => d.hasDict = false → Dp K H v d) (motive_2 := fun vs ds _ => PyData.hasDictAll ds = false → DpAll K H vs ds) (motive_3 := fun _ _ _ => True)
    (fun _ => .non) (fun b _ => .bl b) (fun i _ => .int i) (fun x _ => .str x) (fun a _ ih l => .lst a.sq (ih l)) (fun a _ ih l => .tup a.sq (ih l)) (fun _ _ _ _ l => by simp [PyData.hasDict] at l)
    (fun _ => .nil) (fun _ _ i1 i2 l => .cons (i1 (hasDict_all l).1) (i2 (hasDict_all l).2)) trivial (fun _ _ _ _ => trivial) h
theorem RpA.dpN {K : PySem.W.Frag} {H : Hp} {F : Frz} : ∀ {vs : List V} {ds : List Da}, RpA K H F vs ds → PyData.hasDictAll ds = false → DpAll K H vs ds
  | _, _, .nil, _ => .nil
  | _, _, .cons a t, l => .cons (a.dpN (hasDict_all l).1) (RpA.dpN t (hasDict_all l).2)
theorem RpA.dp {K : PySem.W.Frag} {H : Hp} {F : Frz} : ∀ {vs : List V} {ds : List Da}, RpA K H F vs ds → PyData.canLayAll0 ds = true → DpAll K H vs ds
  | _, _, .nil, _ => .nil
  | _, _, .cons a t, l => by
    have l' := (Bool.and_eq_true _ _).mp (show (PyData.canLay0 _ && PyData.canLayAll0 _) = true from l)
    exact .cons (a.dp l'.1) (RpA.dp t l'.2)

/-- as Rp; a list that only this def holds may be read, too -/
inductive Bw (K : PySem.W.Frag) (H : Hp) (F : Frz) : V → Da → Prop
  | rp {v : V} {d : Da} (h : Rp K H F v d) : Bw K H F v d
  | own {p : Addr} {vs : List V} {ds : List Da} (h : H p = some (.lst vs)) (r : RpA K H F vs ds) : Bw K H F (.ref p) (.list ds)
inductive BwA (K : PySem.W.Frag) (H : Hp) (F : Frz) : List V → List Da → Prop
  | nil : BwA K H F [] []
  | cons {v : V} {vs : List V} {d : Da} {ds : List Da} : Bw K H F v d → BwA K H F vs ds → BwA K H F (v :: vs) (d :: ds)
section
variable {K : PySem.W.Frag} {H : Hp} {F : Frz} {v : V} {d : Da} {vs : List V} {ds : List Da}
theorem RpA.bw : ∀ {vs : List V} {ds : List Da}, RpA K H F vs ds → BwA K H F vs ds
  | _, _, .nil => .nil
  | _, _, .cons a t => .cons (.rp a) (RpA.bw t)
theorem Bw.int_inv {i : Int} (h : Bw K H F v (.int i)) : v = .int i := by cases h with | rp h => exact h.int_inv
theorem Bw.bool_inv {b : Bool} (h : Bw K H F v (.bool b)) : v = .bl b := by cases h with | rp h => exact h.bool_inv
theorem Bw.str_inv {x : Str} (h : Bw K H F v (.str x)) : v = .str x := by cases h with | rp h => exact h.str_inv
theorem Bw.none_inv (h : Bw K H F v .none) : v = .non := by cases h with | rp h => exact h.none_inv
theorem Bw.list_inv (h : Bw K H F v (.list ds)) : ∃ a vs, v = .ref a ∧ SqL K H a vs ∧ RpA K H F vs ds := by
  cases h with
  | rp h =>
    obtain ⟨a, vs, e, r, t⟩ := h.list_inv
    exact ⟨a, vs, e, r.sq, t⟩
  | own h r => exact ⟨_, _, rfl, SqL.of h, r⟩
theorem Bw.tup_inv (h : Bw K H F v (.tuple ds)) : ∃ a vs, v = .ref a ∧ SqT K H a vs ∧ RpA K H F vs ds ∧ Rp K H F v (.tuple ds) := by
  cases h with
  | rp h =>
    obtain ⟨a, vs, e, r, t⟩ := h.tup_inv
    exact ⟨a, vs, e, r.sq, t, h⟩
theorem Bw.dp (h : Bw K H F v d) (l : d.canLay0 = true) : Dp K H v d := by
  cases h with
  | rp h => exact h.dp l
  | own h r => exact .lst (SqL.of h) (r.dp (by rw [PyData.canLay0.eq_5] at l; exact l))
theorem Bw.dpN (h : Bw K H F v d) (l : d.hasDict = false) : Dp K H v d := by
  cases h with
  | rp h => exact h.dpN l
  | own h r => exact .lst (SqL.of h) (r.dpN l)
theorem BwA.one (h : BwA K H F vs [d]) : ∃ v, vs = [v] ∧ Bw K H F v d := by
  cases h with
  | cons a t => cases t; exact ⟨_, rfl, a⟩
theorem BwA.two {e : Da} (h : BwA K H F vs [d, e]) : ∃ v u, vs = [v, u] ∧ Bw K H F v d ∧ Bw K H F u e := by
  cases h with
  | cons a t =>
    obtain ⟨u, e, b⟩ := t.one
    exact ⟨_, u, by rw [e], a, b⟩
end

/-- every frozen address is tracked -/
def Fo (F : Frz) (H : Hp) : Prop := ∀ a, F a → H a ≠ none
/-- the heap grows: all that is tracked stays -/
structure Gr (F : Frz) (H : Hp) (F' : Frz) (H' : Hp) : Prop where
  ex : ∀ a o, H a = some o → H' a = some o
  kp : ∀ a, F a → F' a
  nw : ∀ a, F' a → F a ∨ H a = none
  fo : Fo F' H'
/-- frozen things stay, nothing tracked is frozen, nothing untracked -/
structure Le (F : Frz) (H : Hp) (F' : Frz) (H' : Hp) : Prop where
  st : Stay F H F' H'
  tk : ∀ a, H a ≠ none → H' a ≠ none
section
variable {F F1 F2 F' : Frz} {H H1 H2 H' : Hp}
theorem Gr.refl (h : Fo F H) : Gr F H F H := ⟨fun _ _ e => e, fun _ e => e, fun _ e => .inl e, h⟩
theorem some_of {α : Type} {x : Option α} (h : x ≠ none) : ∃ y, x = some y := by
  cases x with
  | none => exact absurd rfl h
  | some y => exact ⟨y, rfl⟩
theorem Gr.stay (g : Gr F H F' H') (h : Fo F H) : Stay F H F' H' := fun a fa => ⟨g.kp a fa, by
  obtain ⟨o, e⟩ := some_of (h a fa)
  rw [e]
  exact g.ex a o e⟩
theorem Gr.le (g : Gr F H F' H') (h : Fo F H) : Le F H F' H' := ⟨g.stay h, fun a n => by
  obtain ⟨o, e⟩ := some_of n
  rw [g.ex a o e]
  exact fun z => nomatch z⟩
theorem Gr.trans (a : Gr F H F1 H1) (b : Gr F1 H1 F2 H2) : Gr F H F2 H2 := by
  refine ⟨fun x o e => b.ex x o (a.ex x o e), fun x e => b.kp x (a.kp x e), fun x e => ?_, b.fo⟩
  rcases b.nw x e with e | e
  · exact a.nw x e
  · refine .inr ?_
    cases q : H x with
    | none => rfl
    | some o => rw [a.ex x o q] at e; cases e
theorem Le.refl : Le F H F H := ⟨fun _ h => ⟨h, rfl⟩, fun _ h => h⟩
theorem Le.trans (a : Le F H F1 H1) (b : Le F1 H1 F2 H2) : Le F H F2 H2 :=
  ⟨fun x h => ⟨(b.st x (a.st x h).1).1, (b.st x (a.st x h).1).2.trans (a.st x h).2⟩, fun x h => b.tk x (a.tk x h)⟩
/-- a new object, frozen from the start; one that is not -/
def frz1 (F : Frz) (p : Addr) : Frz := fun a => F a ∨ a = p
theorem Gr.new {p : Addr} {o : HO} (h : Fo F H) (n : H p = none) : Gr F H (frz1 F p) (upd H p o) := by
  refine ⟨fun a u e => ?_, fun _ e => .inl e, fun a e => ?_, fun a e => ?_⟩
  · rw [upd_ne (ne_of_none e n)]
    exact e
  · rcases e with e | e
    · exact .inl e
    · rw [e]
      exact .inr n
  · by_cases q : a = p
    · rw [q, upd_same]
      exact fun z => nomatch z
    · rw [upd_ne q]
      rcases e with e | e
      · exact h a e
      · exact absurd e q
theorem Gr.new0 {p : Addr} {o : HO} (h : Fo F H) (n : H p = none) : Gr F H F (upd H p o) := by
  refine ⟨fun a u e => ?_, fun _ e => e, fun a e => .inl e, fun a e => ?_⟩
  · rw [upd_ne (ne_of_none e n)]
    exact e
  · by_cases q : a = p
    · rw [q, upd_same]
      exact fun z => nomatch z
    · rw [upd_ne q]
      exact h a e
theorem rp_newT {K : PySem.W.Frag} {p : Addr} {vs : List V} {ds : List Da} (h : Fo F H) (n : H p = none) (r : RpA K H F vs ds) : Rp K (upd H p (.tup vs)) (frz1 F p) (.ref p) (.tuple ds) :=
  .tup (.inl ⟨.inr rfl, .inl upd_same⟩) (r.st ((Gr.new h n).stay h))
theorem rp_newL {K : PySem.W.Frag} {p : Addr} {vs : List V} {ds : List Da} (h : Fo F H) (n : H p = none) (r : RpA K H F vs ds) : Rp K (upd H p (.lst vs)) (frz1 F p) (.ref p) (.list ds) :=
  .lst (.inl ⟨.inr rfl, .inl upd_same⟩) (r.st ((Gr.new h n).stay h))
end

/-- the heap at a def's entry; pen: the list that it may change -/
structure Bs where
  H : Hp
  F : Frz
  pen : Option Addr
/-- what a def's own object stands for -/
inductive Ow (K : PySem.W.Frag) (H : Hp) (F : Frz) : HO → Da → Prop
  | lst {vs : List V} {ds : List Da} : RpA K H F vs ds → Ow K H F (.lst vs) (.list ds)
  | dct {kvs : List (Key × V)} {kds : List (Da × Da)} : RpD K H F kvs kds → Ow K H F (.dK kvs) (.dict kds)
theorem Ow.st {K : PySem.W.Frag} {H H' : Hp} {F F' : Frz} {o : HO} {d : Da} (h : Ow K H F o d) (s : Stay F H F' H') : Ow K H' F' o d := by
  cases h with
  | lst r => exact .lst (r.st s)
  | dct r => exact .dct (r.st s)
/-- the slots σ hold what ρ says; ow: the slots of lists that only this def holds -/
structure Cr (K : PySem.W.Frag) (B : Bs) (ow : List Nat) (σ : L2.St) (H : Hp) (F : Frz) (ρ : Sto) : Prop where
  len : σ.length = ρ.length
  sl : ∀ i d, ρ[i]? = some (some d) → i ∉ ow → ∃ v, σ[i]? = some (some v) ∧ Rp K H F v d
  lo : ∀ i d, ρ[i]? = some (some d) → i ∈ ow → ∃ (p : Addr) (_ : Unit) (o : HO), True ∧ σ[i]? = some (some (.ref p)) ∧ H p = some o ∧ ¬ F p ∧ (B.pen = some p ∨ B.H p = none) ∧ Ow K H F o d
  dj : ∀ i j p, i ∈ ow → j ∈ ow → i ≠ j → (∃ d, ρ[i]? = some (some d)) → (∃ d, ρ[j]? = some (some d)) → σ[i]? = some (some (.ref p)) → σ[j]? ≠ some (some (.ref p))
  fo : Fo F H
  b1 : ∀ a o, B.H a = some o → B.pen = some a ∨ H a = some o
  b2 : ∀ a, B.F a → F a
  b3 : ∀ a, F a → B.F a ∨ B.H a = none
  pn : ∀ p, B.pen = some p → 0 ∈ ow ∧ σ[0]? = some (some (.ref p)) ∧ ∃ d, ρ[0]? = some (some d)
section
variable {K : PySem.W.Frag} {B : Bs} {ow : List Nat} {σ : L2.St} {H H' : Hp} {F F' : Frz} {ρ : Sto}
theorem Cr.grow (c : Cr K B ow σ H F ρ) (g : Gr F H F' H') : Cr K B ow σ H' F' ρ := by
  have st := g.stay c.fo
  refine ⟨c.len, fun i d h1 h2 => ?_, fun i d h1 h2 => ?_, c.dj, g.fo, fun a o e => ?_, fun a e => g.kp a (c.b2 a e), fun a e => ?_, c.pn⟩
  · obtain ⟨v, e, r⟩ := c.sl i d h1 h2
    exact ⟨v, e, r.st st⟩
  · obtain ⟨p, ds, vs, e1, e2, e3, e4, e5, r⟩ := c.lo i d h1 h2
    refine ⟨p, ds, vs, e1, e2, g.ex p _ e3, fun z => ?_, e5, r.st st⟩
    rcases g.nw p z with z | z
    · exact e4 z
    · rw [e3] at z; cases z
  · rcases c.b1 a o e with z | z
    · exact .inl z
    · exact .inr (g.ex a o z)
  · rcases g.nw a e with z | z
    · exact c.b3 a z
    · refine .inr ?_
      cases q : B.H a with
      | none => rfl
      | some o =>
        rcases c.b1 a o q with y | y
        · obtain ⟨h0, h1, d, h2⟩ := c.pn a y
          obtain ⟨p, ds, vs, _, e2, e3, _⟩ := c.lo 0 d h2 h0
          rw [h1] at e2
          cases e2
          rw [e3] at z; cases z
        · rw [y] at z; cases z
theorem Le.back {p : Addr} (l : Le F H F' H') (n : H' p = none) : H p = none := by
  cases e : H p with
  | none => rfl
  | some o => exact absurd n (l.tk p (by rw [e]; exact fun z => nomatch z))
/-- a new address is no slot's list -/
theorem Cr.away {p : Addr} (c : Cr K B ow σ H F ρ) (n : H p = none) : ∀ i d, ρ[i]? = some (some d) → i ∈ ow → σ[i]? ≠ some (some (.ref p)) := fun i d h1 h2 z => by
  obtain ⟨p', _, _, _, e2, e3, _⟩ := c.lo i d h1 h2
  rw [e2] at z
  cases z
  rw [n] at e3; cases e3
/-- what is new here was new at the entry -/
theorem Cr.new {p : Addr} (c : Cr K B ow σ H F ρ) (n : H p = none) : B.H p = none := by
  cases e : B.H p with
  | none => rfl
  | some o =>
    rcases c.b1 p o e with z | z
    · obtain ⟨h0, h2, d, h3⟩ := c.pn p z
      exact absurd h2 (c.away n 0 d h3 h0)
    · rw [n] at z; cases z
/-- a list of nobody is frozen -/
theorem Cr.freeze {p : Addr} {o : HO} (c : Cr K B ow σ H F ρ) (hp : H p = some o) (nf : ¬ F p) (hn : ∀ i d, ρ[i]? = some (some d) → i ∈ ow → σ[i]? ≠ some (some (.ref p))) (nb : B.H p = none) : Cr K B ow σ H (frz1 F p) ρ := by
  have st : Stay F H (frz1 F p) H := fun a fa => ⟨.inl fa, rfl⟩
  refine ⟨c.len, fun i d h1 h2 => ?_, fun i d h1 h2 => ?_, c.dj, fun a z => ?_, c.b1, fun a z => .inl (c.b2 a z), fun a z => ?_, c.pn⟩
  · obtain ⟨v, e, r⟩ := c.sl i d h1 h2
    exact ⟨v, e, r.st st⟩
  · obtain ⟨q, ds, us, e1, e2, e3, e4, e5, r⟩ := c.lo i d h1 h2
    refine ⟨q, ds, us, e1, e2, e3, fun z => ?_, e5, r.st st⟩
    rcases z with z | z
    · exact e4 z
    · rw [z] at e2
      exact hn i d h1 h2 e2
  · rcases z with z | z
    · exact c.fo a z
    · rw [z, hp]; exact fun z => nomatch z
  · rcases z with z | z
    · exact c.b3 a z
    · rw [z]; exact .inr nb
end
theorem Le.freeze {F F' : Frz} {H H' : Hp} {p : Addr} (l : Le F H F' H') : Le F H (frz1 F' p) H' := ⟨fun a fa => ⟨.inl (l.st a fa).1, (l.st a fa).2⟩, l.tk⟩
end Mir

set_option Elab.async false
set_option linter.all false
set_option maxRecDepth 100000
set_option maxHeartbeats 2000000
namespace Mir
open PySem L2

abbrev Md (α : Type) := Sto → Option (α × Sto)
def mBind {α β : Type} (f : Md α) (g : α → Md β) : Md β := fun ρ => match f ρ with
  | some (a, ρ') => g a ρ'
  | none => none
def mRet {α : Type} (a : α) : Md α := fun ρ => some (a, ρ)
def mOpt {α : Type} (a : Option α) : Md α := fun ρ => match a with
  | some x => some (x, ρ)
  | none => none
theorem bind_inv {α β : Type} {f : Md α} {g : α → Md β} {ρ : Sto} {r : β × Sto} (h : mBind f g ρ = some r) : ∃ a ρ', f ρ = some (a, ρ') ∧ g a ρ' = some r := by
  unfold mBind at h
  split at h
  · exact ⟨_, _, by assumption, h⟩
  · cases h
theorem opt_inv {α : Type} {o : Option α} {ρ : Sto} {a : α} {ρ' : Sto} (h : mOpt o ρ = some (a, ρ')) : o = some a ∧ ρ' = ρ := by
  unfold mOpt at h
  split at h
  · cases h; exact ⟨rfl, rfl⟩
  · cases h

/-! ### readings by the store -/
def tE (K : PySem.W.Frag) (ow : List Nat) (f : Md Da) : TE := fun σ H Q => ∃ B F ρ d ρ', Cr K B ow σ H F ρ ∧ f ρ = some (d, ρ') ∧ ∀ v H' F', Cr K B ow σ H' F' ρ' → Le F H F' H' → Rp K H' F' v d → Q v H'
def tT (K : PySem.W.Frag) (ow : List Nat) (f : Md Bool) : TT := fun σ H Q => ∃ B F ρ b ρ', Cr K B ow σ H F ρ ∧ f ρ = some (b, ρ') ∧ ∀ H' F', Cr K B ow σ H' F' ρ' → Le F H F' H' → Q b H'
def tA (K : PySem.W.Frag) (ow : List Nat) (f : Md (List Da)) : TA := fun σ H Q => ∃ B F ρ ds ρ', Cr K B ow σ H F ρ ∧ f ρ = some (ds, ρ') ∧ ∀ vs H' F', Cr K B ow σ H' F' ρ' → Le F H F' H' → RpA K H' F' vs ds → Q vs H'
abbrev GE (X : Cx) (ow : List Nat) (e : Expr) (f : Md Da) : Prop := PE X e (tE X.K ow f)
abbrev GT (X : Cx) (ow : List Nat) (e : Expr) (f : Md Bool) : Prop := PT X e (tT X.K ow f)
abbrev GW (X : Cx) (ow : List Nat) (e : Expr) (f : Md Bool) : Prop := PW X e (tT X.K ow f)
abbrev GA (X : Cx) (ow : List Nat) (es : List Expr) (f : Md (List Da)) : Prop := PA X es (tA X.K ow f)
section
variable {X : Cx} {e : Expr} {es : List Expr}
theorem pe_w {t t' : TE} (h : PE X e t) (w : ∀ σ H Q, t' σ H Q → t σ H Q) : PE X e t' := ⟨fun pins s σ H Q I q => h.run pins s σ H Q I (w σ H Q q)⟩
theorem pt_w {t t' : TT} (h : PT X e t) (w : ∀ σ H Q, t' σ H Q → t σ H Q) : PT X e t' := ⟨fun pins s σ H Q I q => h.run pins s σ H Q I (w σ H Q q)⟩
theorem pw_w {t t' : TT} (h : PW X e t) (w : ∀ σ H Q, t' σ H Q → t σ H Q) : PW X e t' := ⟨fun wh pins s σ H Q I q => h.run wh pins s σ H Q I (w σ H Q q)⟩
theorem pa_w {t t' : TA} (h : PA X es t) (w : ∀ σ H Q, t' σ H Q → t σ H Q) : PA X es t' := ⟨fun pos pins s σ H Q I q => h.run pos pins s σ H Q I (w σ H Q q)⟩
end

/-! ### names, constants -/
def mVar (i : Nat) : Md Da := fun ρ => match ρ[i]? with
  | some (some d) => some (d, ρ)
  | _ => none
theorem var_inv {i : Nat} {ρ ρ' : Sto} {d : Da} (h : mVar i ρ = some (d, ρ')) : ρ[i]? = some (some d) ∧ ρ' = ρ := by
  unfold mVar at h
  split at h
  · cases h
    exact ⟨by assumption, rfl⟩
  · cases h
section
variable {X : Cx} {ow : List Nat} {a b c e : Expr} {pos : Pos} {fa fb fc : Md Da}
theorem e_var {i : Nat} (h : PE X e (tVar i)) (hi : i ∉ ow) : GE X ow e (mVar i) := pe_w h fun σ H Q ⟨B, F, ρ, d, ρ', c, hf, q⟩ => by
  obtain ⟨e1, rfl⟩ := var_inv hf
  obtain ⟨v, h1, r⟩ := c.sl i d e1 hi
  exact ⟨v, h1, q v H F c Le.refl r⟩
theorem e_c {v : V} {d : Da} (h : PE X e (tC v)) (r : ∀ H F, Rp X.K H F v d) : GE X ow e (mRet d) := pe_w h fun σ H Q ⟨B, F, ρ, d', ρ', c, hf, q⟩ => by
  cases hf
  exact q v H F c Le.refl (r H F)
theorem e_int {i j pos} : GE X ow (.Constant (.int i) j pos) (mRet (.int i)) := e_c pe_int fun _ _ => .int i
theorem e_bl {b j pos} : GE X ow (.Constant (.bool b) j pos) (mRet (.bool b)) := e_c pe_bl fun _ _ => .bl b
theorem e_non {j pos} : GE X ow (.Constant .none j pos) (mRet .none) := e_c pe_non fun _ _ => .non
theorem e_str {x j pos} : GE X ow (.Constant (.str x) j pos) (mRet (.str x)) := e_c pe_str fun _ _ => .str x

/-! ### operations -/
def mOp (g : Da → Da → Option Da) (fa fb : Md Da) : Md Da := mBind fa fun x => mBind fb fun y => mOpt (g x y)
def mUn (g : Da → Option Da) (fa : Md Da) : Md Da := mBind fa fun x => mOpt (g x)
def OpD (K : PySem.W.Frag) (r : R2) (g : Da → Da → Option Da) : Prop := ∀ (H : Hp) (F : Frz) (x y : V) (dx dy d : Da), Fo F H → Bw K H F x dx → Bw K H F y dy → g dx dy = some d →
  ∀ Q : VK, (∀ v H' F', Gr F H F' H' → Rp K H' F' v d → Q v H') → r x y H Q
def UnD (K : PySem.W.Frag) (r : V → Hp → VK → Prop) (g : Da → Option Da) : Prop := ∀ (H : Hp) (F : Frz) (x : V) (dx d : Da), Fo F H → Bw K H F x dx → g dx = some d →
  ∀ Q : VK, (∀ v H' F', Gr F H F' H' → Rp K H' F' v d → Q v H') → r x H Q
def CallD (K : PySem.W.Frag) (r : List V → Hp → VK → Prop) (g : List Da → Option Da) : Prop := ∀ (H : Hp) (F : Frz) (xs : List V) (dx : List Da) (d : Da), Fo F H → BwA K H F xs dx → g dx = some d →
  ∀ Q : VK, (∀ v H' F', Gr F H F' H' → Rp K H' F' v d → Q v H') → r xs H Q
/-- two readings in a row -/
theorem t_two {K : PySem.W.Frag} {r : R2} {g : Da → Da → Option Da} (hd : OpD K r g) (σ : L2.St) (H : Hp) (Q : VK) (h : tE K ow (mOp g fa fb) σ H Q) : tOp r (tE K ow fa) (tE K ow fb) σ H Q := by
  obtain ⟨B, F, ρ, d, ρ', c, hf, q⟩ := h
  obtain ⟨x, ρ1, h1, hf⟩ := bind_inv hf
  obtain ⟨y, ρ2, h2, hf⟩ := bind_inv hf
  obtain ⟨hg, rfl⟩ := opt_inv hf
  refine ⟨B, F, ρ, x, ρ1, c, h1, fun v H1 F1 c1 l1 r1 => ?_⟩
  refine ⟨B, F1, ρ1, y, ρ', c1, h2, fun w H2 F2 c2 l2 r2 => ?_⟩
  exact hd H2 F2 v w x y d c2.fo (.rp (r1.st l2.st)) (.rp r2) hg Q fun z H3 F3 gr r3 => q z H3 F3 (c2.grow gr) ((l1.trans l2).trans (gr.le c2.fo)) r3
theorem e_op {op : Operator} {r : R2} {g : Da → Da → Option Da} (ho : OpR X (binaryOp op) r) (hd : OpD X.K r g) (ha : GE X ow a fa) (hb : GE X ow b fb) : GE X ow (.BinOp a op b pos) (mOp g fa fb) := pe_w (pe_op ho ha hb) (t_two hd)
theorem e_cmp {op : CmpOp} {r : R2} {g : Da → Da → Option Da} (ho : OpR X (compareOp op) r) (hd : OpD X.K r g) (ha : GE X ow a fa) (hb : GE X ow b fb) (hm : behindInMarks op b = false) : GE X ow (.Compare a [op] [b] pos) (mOp g fa fb) := pe_w (pe_cmpR ho ha hb hm) (t_two hd)
theorem e_un {op : UnaryOp} {r : V → Hp → VK → Prop} {g : Da → Option Da} (ho : UnR X (unaryOp op) r) (hd : UnD X.K r g) (ha : GE X ow a fa) : GE X ow (.UnaryOp op a pos) (mUn g fa) := pe_w (pe_un ho ha) fun σ H Q ⟨B, F, ρ, d, ρ', c, hf, q⟩ => by
  obtain ⟨x, ρ1, h1, hf⟩ := bind_inv hf
  obtain ⟨hg, rfl⟩ := opt_inv hf
  refine ⟨B, F, ρ, x, ρ', c, h1, fun v H1 F1 c1 l1 r1 => ?_⟩
  exact hd H1 F1 v x d c1.fo (.rp r1) hg Q fun z H3 F3 gr r3 => q z H3 F3 (c1.grow gr) (l1.trans (gr.le c1.fo)) r3
/-- subscripts -/
theorem e_ix {r : R2} {g : Da → Da → Option Da} (ho : IxR X r) (hd : OpD X.K r g) (ha : GE X ow a fa) (hb : GE X ow b fb) (hp : PlainIx b) : GE X ow (.Subscript a b pos) (mOp g fa fb) := pe_w (pe_ix ho ha hb hp) (t_two hd)

/-! ### tests -/
def isB : Da → Option Bool
  | .bool b => some b
  | _ => none
def mB (f : Md Da) : Md Bool := mBind f fun d => mOpt (isB d)
theorem isB_inv {d : Da} {b : Bool} (h : isB d = some b) : d = .bool b := by
  cases d <;> first | (cases h; rfl) | cases h
/-- the truth of data -/
def gTru : Da → Option Bool
  | .none => some false
  | .bool b => some b
  | .int i => some (i != 0)
  | .list ds => some (!ds.isEmpty)
  | .tuple ds => some (!ds.isEmpty)
  | _ => none
def mTru (f : Md Da) : Md Bool := mBind f fun d => mOpt (gTru d)
theorem tru_d {K : PySem.W.Frag} {H : Hp} {F : Frz} {v : V} {d : Da} {b : Bool} (r : Rp K H F v d) (h : gTru d = some b) : TruV K v H b := by
  cases r with
  | non => cases h; rfl
  | bl k => cases h; rfl
  | int i => cases h; rfl
  | str x => cases h
  | lst a k => cases h; exact .inl ⟨_, a.sq, by cases k <;> rfl⟩
  | tup a k => cases h; exact .inr (.inl ⟨_, a.sq, by cases k <;> rfl⟩)
  | dct f a k => cases h
theorem t_val {e : Expr} {f : Md Da} (h : GE X ow e f) (he : ∀ whole, isTrue e X.env whole = (do let v ← whole; standAt e.pos; holding [v] (truthy v)) := by intro _; rfl) : GT X ow e (mTru f) := pt_w (pt_truth h he) fun σ H Q ⟨B, F, ρ, b, ρ', c, hf, q⟩ => by
  obtain ⟨x, ρ1, h1, hf⟩ := bind_inv hf
  obtain ⟨hg, rfl⟩ := opt_inv hf
  exact ⟨B, F, ρ, x, ρ', c, h1, fun v H1 F1 c1 l1 r1 => ⟨b, tru_d r1 hg, q H1 F1 c1 l1⟩⟩
theorem t_cmp {op : CmpOp} {r : R2} {g : Da → Da → Option Da} (ho : OpR X (compareOp op) r) (hd : OpD X.K r g) (ha : GE X ow a fa) (hb : GE X ow b fb) (hm : behindInMarks op b = false) : GT X ow (.Compare a [op] [b] pos) (mB (mOp g fa fb)) :=
  pt_w (pt_cmpR ho ha hb hm) fun σ H Q ⟨B, F, ρ, k, ρ', c, hf, q⟩ => by
  obtain ⟨x, ρ1, h1, hf⟩ := bind_inv hf
  obtain ⟨hg, rfl⟩ := opt_inv hf
  have hx := isB_inv hg
  subst hx
  refine t_two hd σ H _ ⟨B, F, ρ, .bool k, ρ', c, h1, fun v H1 F1 c1 l1 r1 => ?_⟩
  cases r1
  exact ⟨k, rfl, q H1 F1 c1 l1⟩
def mAnd (f g : Md Bool) : Md Bool := mBind f fun b => if b = true then g else mRet false
def mOr (f g : Md Bool) : Md Bool := mBind f fun b => if b = true then mRet true else g
def mNot (f : Md Bool) : Md Bool := mBind f fun b => mRet (!b)
variable {ta tb : Md Bool} {rest : List Expr}
theorem t_not (h : GT X ow a ta) : GT X ow (.UnaryOp .Not a pos) (mNot ta) := pt_w (pt_not h) fun σ H Q ⟨B, F, ρ, k, ρ', c, hf, q⟩ => by
  obtain ⟨x, ρ1, h1, hf⟩ := bind_inv hf
  cases hf
  exact ⟨B, F, ρ, x, ρ', c, h1, q⟩
theorem w_and1 (h : GT X ow a ta) : GW X ow (.BoolOp .And [a] pos) ta := pw_and1 h
theorem w_or1 (h : GT X ow a ta) : GW X ow (.BoolOp .Or [a] pos) ta := pw_or1 h
theorem w_and (h : GT X ow a ta) (h2 : GW X ow (.BoolOp .And (b :: rest) pos) tb) : GW X ow (.BoolOp .And (a :: b :: rest) pos) (mAnd ta tb) := pw_w (pw_and h h2) fun σ H Q ⟨B, F, ρ, k, ρ', c, hf, q⟩ => by
  obtain ⟨x, ρ1, h1, hf⟩ := bind_inv hf
  refine ⟨B, F, ρ, x, ρ1, c, h1, fun H1 F1 c1 l1 => ?_⟩
  cases x with
  | true =>
    rw [if_pos rfl] at hf
    rw [if_pos rfl]
    exact ⟨B, F1, ρ1, k, ρ', c1, hf, fun H2 F2 c2 l2 => q H2 F2 c2 (l1.trans l2)⟩
  | false =>
    rw [if_neg Bool.false_ne_true] at hf
    rw [if_neg Bool.false_ne_true]
    cases hf
    exact q H1 F1 c1 l1
theorem w_or (h : GT X ow a ta) (h2 : GW X ow (.BoolOp .Or (b :: rest) pos) tb) : GW X ow (.BoolOp .Or (a :: b :: rest) pos) (mOr ta tb) := pw_w (pw_or h h2) fun σ H Q ⟨B, F, ρ, k, ρ', c, hf, q⟩ => by
  obtain ⟨x, ρ1, h1, hf⟩ := bind_inv hf
  refine ⟨B, F, ρ, x, ρ1, c, h1, fun H1 F1 c1 l1 => ?_⟩
  cases x with
  | false =>
    rw [if_neg Bool.false_ne_true] at hf
    rw [if_neg Bool.false_ne_true]
    exact ⟨B, F1, ρ1, k, ρ', c1, hf, fun H2 F2 c2 l2 => q H2 F2 c2 (l1.trans l2)⟩
  | true =>
    rw [if_pos rfl] at hf
    rw [if_pos rfl]
    cases hf
    exact q H1 F1 c1 l1
theorem t_w (h : GW X ow a ta) : GT X ow a ta := h.pt
/-- as values -/
def mBd (f : Md Da) : Md Bool := mB f
def mOfB (f : Md Bool) : Md Da := mBind f fun b => mRet (.bool b)
theorem e_one {op} (h : GE X ow a fa) : GE X ow (.BoolOp op [a] pos) fa := pe_one h
def mAndV (f g : Md Da) : Md Da := mBind (mB f) fun b => if b = true then mBind (mB g) (fun k => mRet (.bool k)) else mRet (.bool false)
def mOrV (f g : Md Da) : Md Da := mBind (mB f) fun b => if b = true then mRet (.bool true) else mBind (mB g) (fun k => mRet (.bool k))
def mNotV (f : Md Da) : Md Da := mBind (mB f) fun b => mRet (.bool (!b))
theorem e_not (h : GE X ow a fa) : GE X ow (.UnaryOp .Not a pos) (mNotV fa) := pe_w (pe_not h) fun σ H Q ⟨B, F, ρ, d, ρ', c, hf, q⟩ => by
  obtain ⟨k, ρ1, h1, hf⟩ := bind_inv hf
  obtain ⟨x, ρ2, h1, h2⟩ := bind_inv h1
  obtain ⟨hg, rfl⟩ := opt_inv h2
  have hx := isB_inv hg
  subst hx
  cases hf
  refine ⟨B, F, ρ, _, _, c, h1, fun v H1 F1 c1 l1 r1 => ?_⟩
  cases r1
  exact ⟨k, rfl, q _ H1 F1 c1 l1 (.bl _)⟩
theorem e_and (ha : GE X ow a fa) (hb : GE X ow (.BoolOp .And (b :: rest) pos) fb) : GE X ow (.BoolOp .And (a :: b :: rest) pos) (mAndV fa fb) := pe_w (pe_and ha hb) fun σ H Q ⟨B, F, ρ, d, ρ', c, hf, q⟩ => by
  obtain ⟨k, ρ1, h1, hf⟩ := bind_inv hf
  obtain ⟨x, ρ2, h1, h2⟩ := bind_inv h1
  obtain ⟨hg, rfl⟩ := opt_inv h2
  have hx := isB_inv hg
  subst hx
  refine ⟨B, F, ρ, _, _, c, h1, fun v H1 F1 c1 l1 r1 => ?_⟩
  cases r1
  refine ⟨k, rfl, ?_⟩
  cases k with
  | true =>
    rw [if_pos rfl] at hf
    rw [if_pos rfl]
    obtain ⟨m, ρ3, h3, h4⟩ := bind_inv hf
    obtain ⟨y, ρ4, h3, h5⟩ := bind_inv h3
    obtain ⟨hg2, rfl⟩ := opt_inv h5
    have hy := isB_inv hg2
    subst hy
    cases h4
    exact ⟨B, F1, _, _, _, c1, h3, fun w H2 F2 c2 l2 r2 => q w H2 F2 c2 (l1.trans l2) r2⟩
  | false =>
    rw [if_neg Bool.false_ne_true] at hf
    rw [if_neg Bool.false_ne_true]
    cases hf
    exact q _ H1 F1 c1 l1 (.bl _)
theorem e_or (ha : GE X ow a fa) (hb : GE X ow (.BoolOp .Or (b :: rest) pos) fb) : GE X ow (.BoolOp .Or (a :: b :: rest) pos) (mOrV fa fb) := pe_w (pe_or ha hb) fun σ H Q ⟨B, F, ρ, d, ρ', c, hf, q⟩ => by
  obtain ⟨k, ρ1, h1, hf⟩ := bind_inv hf
  obtain ⟨x, ρ2, h1, h2⟩ := bind_inv h1
  obtain ⟨hg, rfl⟩ := opt_inv h2
  have hx := isB_inv hg
  subst hx
  refine ⟨B, F, ρ, _, _, c, h1, fun v H1 F1 c1 l1 r1 => ?_⟩
  cases r1
  refine ⟨k, rfl, ?_⟩
  cases k with
  | false =>
    rw [if_neg Bool.false_ne_true] at hf
    rw [if_neg Bool.false_ne_true]
    obtain ⟨m, ρ3, h3, h4⟩ := bind_inv hf
    obtain ⟨y, ρ4, h3, h5⟩ := bind_inv h3
    obtain ⟨hg2, rfl⟩ := opt_inv h5
    have hy := isB_inv hg2
    subst hy
    cases h4
    exact ⟨B, F1, _, _, _, c1, h3, fun w H2 F2 c2 l2 r2 => q w H2 F2 c2 (l1.trans l2) r2⟩
  | true =>
    rw [if_pos rfl] at hf
    rw [if_pos rfl]
    cases hf
    exact q _ H1 F1 c1 l1 (.bl _)
def mIf (t : Md Bool) (f g : Md Da) : Md Da := mBind t fun b => if b = true then f else g
theorem e_if (hc : GT X ow c ta) (ha : GE X ow a fa) (hb : GE X ow b fb) : GE X ow (.IfExp c a b pos) (mIf ta fa fb) := pe_w (pe_ifExp hc ha hb) fun σ H Q ⟨B, F, ρ, d, ρ', c, hf, q⟩ => by
  obtain ⟨k, ρ1, h1, hf⟩ := bind_inv hf
  refine ⟨B, F, ρ, k, ρ1, c, h1, fun H1 F1 c1 l1 => ?_⟩
  cases k with
  | true =>
    rw [if_pos rfl] at hf
    rw [if_pos rfl]
    exact ⟨B, F1, ρ1, d, ρ', c1, hf, fun v H2 F2 c2 l2 r2 => q v H2 F2 c2 (l1.trans l2) r2⟩
  | false =>
    rw [if_neg Bool.false_ne_true] at hf
    rw [if_neg Bool.false_ne_true]
    exact ⟨B, F1, ρ1, d, ρ', c1, hf, fun v H2 F2 c2 l2 r2 => q v H2 F2 c2 (l1.trans l2) r2⟩

/-! ### argument lists, displays, calls -/
def mNil : Md (List Da) := mRet []
def mCons (f : Md Da) (g : Md (List Da)) : Md (List Da) := mBind f fun d => mBind g fun ds => mRet (d :: ds)
variable {fs : Md (List Da)} {es : List Expr}
theorem a_nil : GA X ow [] mNil := pa_w pa_nil fun σ H Q ⟨B, F, ρ, d, ρ', c, hf, q⟩ => by
  cases hf
  exact q [] H F c Le.refl .nil
theorem a_cons (ha : GE X ow e fa) (hr : GA X ow es fs) (hs : starEach (e :: es) X.env = (false, eval e X.env) :: starEach es X.env := by rfl) : GA X ow (e :: es) (mCons fa fs) := pa_w (pa_cons ha hr hs) fun σ H Q ⟨B, F, ρ, d, ρ', c, hf, q⟩ => by
  obtain ⟨x, ρ1, h1, hf⟩ := bind_inv hf
  obtain ⟨xs, ρ2, h2, hf⟩ := bind_inv hf
  cases hf
  refine ⟨B, F, ρ, x, ρ1, c, h1, fun v H1 F1 c1 l1 r1 => ?_⟩
  exact ⟨B, F1, ρ1, xs, _, c1, h2, fun vs H2 F2 c2 l2 r2 => q _ H2 F2 c2 (l1.trans l2) (.cons (r1.st l2.st) r2)⟩
def sized (ds : List Da) : Option (List Da) := if ds.length ≤ 100000 then some ds else none
theorem sized_inv {ds es : List Da} (h : sized ds = some es) : es = ds ∧ ds.length ≤ sizeLine := by
  unfold sized at h
  split at h
  · cases h
    exact ⟨rfl, Evl.sz_of (by assumption)⟩
  · cases h
def mTup (f : Md (List Da)) : Md Da := mBind f fun ds => mOpt ((sized ds).map .tuple)
theorem e_tup {x1} (h : GA X ow es fs) : GE X ow (.Tuple es x1 pos) (mTup fs) := pe_w (pe_tup h) fun σ H Q ⟨B, F, ρ, d, ρ', c, hf, q⟩ => by
  obtain ⟨xs, ρ1, h1, hf⟩ := bind_inv hf
  obtain ⟨hg, rfl⟩ := opt_inv hf
  obtain ⟨ys, hz, rfl⟩ := Option.map_eq_some_iff.mp hg
  obtain ⟨rfl, hz⟩ := sized_inv hz
  refine ⟨B, F, ρ, _, _, c, h1, fun vs H1 F1 c1 l1 r1 => ⟨by rw [r1.len]; exact hz, fun p np => ?_⟩⟩
  have gr := Gr.new (o := .tup vs) c1.fo np
  exact q _ _ _ (c1.grow gr) (l1.trans (gr.le c1.fo)) (rp_newT c1.fo np r1)
/-- a new list that nobody else holds -/
def tL (K : PySem.W.Frag) (ow : List Nat) (f : Md (List Da)) : TE := fun σ H Q => ∃ B F ρ ds ρ', Cr K B ow σ H F ρ ∧ f ρ = some (ds, ρ') ∧
  ∀ p vs H' F', Cr K B ow σ H' F' ρ' → Le F H F' H' → H p = none → H' p = some (.lst vs) → ¬ F' p → (∀ i d, ρ'[i]? = some (some d) → i ∈ ow → σ[i]? ≠ some (some (.ref p))) → RpA K H' F' vs ds → Q (.ref p) H'
abbrev GL (X : Cx) (ow : List Nat) (e : Expr) (f : Md (List Da)) : Prop := PE X e (tL X.K ow f)
def mSz (f : Md (List Da)) : Md (List Da) := mBind f fun ds => mOpt (sized ds)
theorem l_lst (h : GA X ow es fs) : GL X ow (.List es pos) (mSz fs) := pe_w (pe_lst h) fun σ H Q ⟨B, F, ρ, d, ρ', c, hf, q⟩ => by
  obtain ⟨xs, ρ1, h1, hf⟩ := bind_inv hf
  obtain ⟨hg, rfl⟩ := opt_inv hf
  obtain ⟨rfl, hz⟩ := sized_inv hg
  refine ⟨B, F, ρ, _, _, c, h1, fun vs H1 F1 c1 l1 r1 => ⟨by rw [r1.len]; exact hz, fun p np => ?_⟩⟩
  have gr := Gr.new0 (o := .lst vs) c1.fo np
  exact q p vs _ F1 (c1.grow gr) (l1.trans (gr.le c1.fo)) (l1.back np) upd_same (fun z => c1.fo p z np) (c1.away np) (r1.st (gr.stay c1.fo))
def mOfL (f : Md (List Da)) : Md Da := mBind f fun ds => mRet (.list ds)
/-- .. frozen from now on -/
theorem e_fz (h : GL X ow e fs) : GE X ow e (mOfL fs) := pe_w h fun σ H Q ⟨B, F, ρ, d, ρ', c, hf, q⟩ => by
  obtain ⟨xs, ρ1, h1, hf⟩ := bind_inv hf
  cases hf
  refine ⟨B, F, ρ, _, _, c, h1, fun p vs H1 F1 c1 l1 np hp nf hn r1 => ?_⟩
  exact q (.ref p) H1 (frz1 F1 p) (c1.freeze hp nf hn (c.new np)) l1.freeze (.lst (.inl ⟨.inr rfl, .inl hp⟩) (r1.st fun a fa => ⟨.inl fa, rfl⟩))
def mCall (g : List Da → Option Da) (f : Md (List Da)) : Md Da := mBind f fun ds => mOpt (g ds)
theorem t_call {K : PySem.W.Frag} {r : List V → Hp → VK → Prop} {g : List Da → Option Da} (hd : CallD K r g) (σ : L2.St) (H : Hp) (Q : VK) (h : tE K ow (mCall g fs) σ H Q) : tCB r (tA K ow fs) σ H Q := by
  obtain ⟨B, F, ρ, d, ρ', c, hf, q⟩ := h
  obtain ⟨xs, ρ1, h1, hf⟩ := bind_inv hf
  obtain ⟨hg, rfl⟩ := opt_inv hf
  refine ⟨B, F, ρ, _, _, c, h1, fun vs H1 F1 c1 l1 r1 => ?_⟩
  exact hd H1 F1 vs xs d c1.fo r1.bw hg Q fun z H3 F3 gr r3 => q z H3 F3 (c1.grow gr) (l1.trans (gr.le c1.fo)) r3
variable {x : Str} {p : Pos} {id T : String}
theorem e_callB {r : List V → Hp → VK → Prop} {g : List Da → Option Da} (hc : CallR X (.builtin id) r) (hd : CallD X.K r g) (hg : Gl X x) (hm : X.mg x = none) (hv : bootBuiltins x = some (.builtin id)) (ha : GA X ow (e :: es) fs) (hn : x ≠ "__name__" := by decide) (hdb : (x == ("__debug__" : Str)) = false := by decide)
    (he : starEach (e :: es) X.env = (false, eval e X.env) :: starEach es X.env := by rfl) (hpl : (backTo pos (starEach es X.env)).any (·.1) = false := by rfl) : GE X ow (.Call (.Name x p) (e :: es) [] pos) (mCall g fs) := pe_w (pe_callB hc hg hm hv ha hn hdb he hpl) (t_call hd)
theorem e_callTy {r : List V → Hp → VK → Prop} {g : List Da → Option Da} (hc : CallR X (.type T) r) (hd : CallD X.K r g) (hg : Gl X x) (hm : X.mg x = none) (hv : bootBuiltins x = some (.type T)) (ha : GA X ow (e :: es) fs) (hn : x ≠ "__name__" := by decide) (hdb : (x == ("__debug__" : Str)) = false := by decide)
    (he : starEach (e :: es) X.env = (false, eval e X.env) :: starEach es X.env := by rfl) (hpl : (backTo pos (starEach es X.env)).any (·.1) = false := by rfl) : GE X ow (.Call (.Name x p) (e :: es) [] pos) (mCall g fs) := pe_w (pe_callTy hc hg hm hv ha hn hdb he hpl) (t_call hd)
/-- isinstance(e, T), T a built-in class -/
def clsD : Da → Option String
  | .none => some "NoneType"
  | .bool _ => some "bool"
  | .int _ => some "int"
  | .str _ => some "str"
  | .list _ => some "list"
  | .tuple _ => some "tuple"
  | .dict _ => none
end
end Mir

set_option Elab.async false
set_option linter.all false
set_option maxRecDepth 100000
set_option maxHeartbeats 2000000
namespace Mir
open PySem PySem.Spec PyProof.Rows L2

/-! ### defs that are called where nothing is being shown (repr) -/
structure FnG (P : Program) (w : World) (K : PySem.W.Frag) (mg : Str → Option Value) (base : Heap) (k : Nat) (f : Addr) (fd : FuncData) (ps : List Str) (sp : Sp) : Prop where
  len : ∀ vs H Q E, sp vs H Q E → vs.length = ps.length
  run : ∀ (A : Around) (outer : List Env) (s : Shared) (H : Hp) (args : Args) (us : List Value) (vs : List V) (Q : VK) (E : XK),
    Room k A → A.guards = some [] → Env0 P w K mg base A outer s H → BindsTo s fd args (ps.zip us) → Vals vs us → sp vs H Q E → codeAny (model P w) A (.call (.ref f) args) (CR CX0 outer P w H s Q E) s
section
variable {P : Program} {w : World} {K : PySem.W.Frag} {mg : Str → Option Value} {base : Heap} {j k : Nat} {f : Addr} {fd : FuncData} {ps : List Str} {sp : Sp}
theorem FnG.mono (G : FnG P w K mg base j f fd ps sp) (h : j ≤ k) : FnG P w K mg base k f fd ps sp := ⟨G.len, fun A outer s H args us vs Q E hr => G.run A outer s H args us vs Q E (hr.mono h)⟩
/-- a def of the text, by its body -/
theorem fnG {x qual : Str} {st : Stmt} {N : List Str} (T : Fun K x qual st f fd) (S : FnScope N ps (defScope st)) (len : ∀ vs H Q E, sp vs H Q E → vs.length = ps.length)
    (body : ∀ (cdv : Value) (A : Around) (outer : List Env) (s : Shared) (H : Hp) (vs : List V) (Q : VK) (E : XK), Room k (A.deeper (envOfC qual (defScope st) s.heap.objs.size f cdv)) →
      (A.deeper (envOfC qual (defScope st) s.heap.objs.size f cdv)).guards = some [] → sp vs H Q E →
      ∃ t, PSs (cxOf CX0 P w K mg base N qual (defScope st) f cdv A outer s H E).nox (defBody st) t ∧ t { nx := fun _ H' => Q .non H', rt := Q } (start N vs) H) : FnG P w K mg base (k + 1) f fd ps sp := by
  obtain ⟨oc, od, kV, doc, pm, an, cdv, ct, osl, e1, lk, hcd⟩ := T.ex
  subst e1
  refine ⟨len, fun A outer s H args us vs Q E hr hgd en bd rv hs => ?_⟩
  have keeps : ∀ b o, base.get? b = some o → s.heap.get? b = some o := fun b o e => (en.bs b o e).1
  have kin := en.mod.kin.keeps keeps
  have lim := en.mod.nolimit.keeps keeps
  have kinds : ∀ y ∈ ps.zip us, (defScope st).names.lookup y.1 = some .local ∨
      ((defScope st).names.lookup y.1 = some .cell ∧ ((cellsFrom (s.heap.objs.size + 1) (defScope st).names []).lookup y.1).isSome = true) := fun y hy => by
    obtain ⟨n, v⟩ := y
    have hn := (List.of_mem_zip hy).1
    cases S.par n hn with
    | inl q => exact Or.inl q
    | inr q => exact Or.inr (And.intro q (PySem.W.cellsFrom_some _ _ _ (Or.inl q)))
  apply codeAny_call_function hr.depth (kin _ _ lk) rfl S.co S.gen rfl (PySem.W.codeRec_of kin hcd)
  apply bd
  apply wpAny_newFunctionEnv_cells S.kind kinds
  intro env ee s1 inC
  subst ee
  obtain ⟨t, ht, hq⟩ := body cdv A outer s H vs Q E (hr.deeper _) (show A.guards = some [] from hgd) hs
  have I0 := inv_start (CX := CX0) (E := E) S hr.hd en (len _ _ _ _ hs) rv inC
  refine And.intro (lim.keeps inC.toInCall.keep) (codeAny_func (wpAny_mono (ht.nox.run [] s1 _ H _ I0 hq) (fun fl s' hr' => ?_) fun _ _ z => z))
  cases fl with
  | brk => obtain ⟨_, _, _, z⟩ := hr'; exact False.elim z
  | cont => obtain ⟨_, _, _, z⟩ := hr'; exact False.elim z
  | ret u =>
    obtain ⟨v, _, H', J, rv', q'⟩ := hr'
    exact ⟨v, H', J.os, J.bare, J.base, J.hok, rv', q'⟩
  | next =>
    obtain ⟨_, H', J, q'⟩ := hr'
    exact ⟨V.non, H', J.os, J.bare, J.base, J.hok, rfl, q'⟩
end
section
variable {X : Cx} {k : Nat} {f : Addr} {fd : FuncData} {ps : List Str} {sp : Sp} {x : Str} {p pos : Pos} {e : Expr} {es : List Expr} {ta : TA}
theorem pe_callG (G : FnG X.prog X.w X.K X.mg X.base k f fd ps sp) (hr : Room k X.A) (hgd : X.A.guards = some []) (hg : Gl X x) (hm : X.mg x = some (.ref f)) (hk : PySem.W.keepIn X.K (.ref f) = true) (hb : Binds X.K fd ps [])
    (ha : PA X (e :: es) ta) (hdb : (x == ("__debug__" : Str)) = false := by decide) (he : starEach (e :: es) X.env = (false, eval e X.env) :: starEach es X.env := by rfl) (hpl : (backTo pos (starEach es X.env)).any (·.1) = false := by rfl) :
    PE X (.Call (.Name x p) (e :: es) [] pos) (fun σ H Q => ta σ H fun vs H1 => sp vs H1 Q E0) := by
  refine ⟨fun pins s σ H Q I h => ?_⟩
  have go := PySem.W.callWith_K (first := []) (pos := pos) (h₀ := X.base) (e := e) (rest := es) (env := X.env) (Q := EP X pins σ Q) (E := X.xe) (s := s) (A := X.A) (M := model X.prog X.w) I.ok.mod.kin hk
    (thn (ha.run pos pins s σ H _ I h) fun us s1 ⟨vs, H1, I1, rv, q⟩ => And.intro I1.kIn (by
      have hl : (us ++ []).length = ps.length := by
        rw [List.append_nil, ← rv.length]
        exact G.len _ _ _ _ q
      have bd := hb s1 us I1.kIn hl
      rw [List.append_nil] at bd
      refine wpAny_call (codeAny_mono (G.run X.A X.stack s1 H1 ⟨us, []⟩ us vs Q E0 hr hgd I1.env0 bd rv q) fun r s' hq => ?_)
      match r, hq with
      | .error _, z => exact False.elim z
      | .ok (.ret u), z => exact I1.after z
      | .ok .next, z => exact False.elim z
      | .ok .brk, z => exact False.elim z
      | .ok .cont, z => exact False.elim z)) he hpl
  exact wpAny_Call_Name_kw (ld_glob I hg hm go hdb)
theorem pe_callG0 (G : FnG X.prog X.w X.K X.mg X.base k f fd ps sp) (hr : Room k X.A) (hgd : X.A.guards = some []) (hg : Gl X x) (hm : X.mg x = some (.ref f)) (hk : PySem.W.keepIn X.K (.ref f) = true) (hb : Binds X.K fd ps [])
    (hdb : (x == ("__debug__" : Str)) = false := by decide) :
    PE X (.Call (.Name x p) [] [] pos) (fun _ H Q => sp [] H Q E0) := by
  refine ⟨fun pins s σ H Q I h => ?_⟩
  refine wpAny_Call_Name_kw (ld_glob I hg hm ?_ hdb)
  refine PySem.W.callWith_K0 I.kIn hk ?_
  have hl : (([] : List Value) ++ []).length = ps.length := G.len _ _ _ _ h
  have bd := hb s [] I.kIn hl
  refine wpAny_call (codeAny_mono (G.run X.A X.stack s H ⟨[], []⟩ [] [] Q E0 hr hgd I.env0 bd .nil h) fun r s' hq => ?_)
  match r, hq with
  | .error _, z => exact False.elim z
  | .ok (.ret u), z => exact I.after z
  | .ok .next, z => exact False.elim z
  | .ok .brk, z => exact False.elim z
  | .ok .cont, z => exact False.elim z
end
end Mir

set_option Elab.async false
set_option linter.all false
set_option maxRecDepth 100000
set_option maxHeartbeats 2000000
namespace Mir
open PySem L2

section
variable {K : PySem.W.Frag} {B : Bs} {ow : List Nat} {σ : L2.St} {H H' : Hp} {F F' : Frz} {ρ : Sto}
theorem set_get {α : Type} {l : List (Option α)} {i j : Nat} {x : Option α} {d : α} (h : (l.set i x)[j]? = some (some d)) : (j = i ∧ x = some d ∧ i < l.length) ∨ (j ≠ i ∧ l[j]? = some (some d)) := by
  by_cases e : i = j
  · subst e
    by_cases hl : i < l.length
    · rw [List.getElem?_set_self hl] at h
      exact .inl ⟨rfl, Option.some.inj h, hl⟩
    · rw [List.getElem?_eq_none (by rw [List.length_set]; omega)] at h
      cases h
  · rw [List.getElem?_set_ne e] at h
    exact .inr ⟨Ne.symm e, h⟩
/-- a slot gets a value -/
theorem Cr.set {i : Nat} {v : V} {d : Da} (c : Cr K B ow σ H F ρ) (r : Rp K H F v d) (hi : i ∉ ow) : Cr K B ow (σ.set i (some v)) H F (ρ.set i (some d)) := by
  have ne : ∀ j, j ∈ ow → i ≠ j := fun j h e => hi (e ▸ h)
  refine ⟨by rw [List.length_set, List.length_set]; exact c.len, fun j e h1 h2 => ?_, fun j e h1 h2 => ?_, fun j k p hj hk njk hdj hdk => ?_, c.fo, c.b1, c.b2, c.b3, fun p hp => ?_⟩
  · rcases set_get h1 with ⟨rfl, e1, hl⟩ | ⟨n, h1⟩
    · cases e1
      exact ⟨v, List.getElem?_set_self (by rw [c.len]; exact hl), r⟩
    · rw [List.getElem?_set_ne (Ne.symm n)]
      exact c.sl j e h1 h2
  · rw [List.getElem?_set_ne (ne j h2)] at h1 ⊢
    exact c.lo j e h1 h2
  · rw [List.getElem?_set_ne (ne j hj)] at hdj ⊢
    rw [List.getElem?_set_ne (ne k hk)] at hdk ⊢
    exact c.dj j k p hj hk njk hdj hdk
  · obtain ⟨h0, h1, h2⟩ := c.pn p hp
    rw [List.getElem?_set_ne (ne 0 h0), List.getElem?_set_ne (ne 0 h0)]
    exact ⟨h0, h1, h2⟩
/-- a slot is forgotten -/
theorem Cr.drop {i : Nat} (c : Cr K B ow σ H F ρ) (hi : i ∉ ow ∨ i ≠ 0) : Cr K B ow σ H F (ρ.set i none) := by
  have sm : ∀ j e, (ρ.set i none)[j]? = some (some e) → ρ[j]? = some (some e) := fun j e h => by
    rcases set_get h with ⟨_, z, _⟩ | ⟨_, h⟩
    · cases z
    · exact h
  refine ⟨by rw [List.length_set]; exact c.len, fun j e h1 h2 => c.sl j e (sm j e h1) h2, fun j e h1 h2 => c.lo j e (sm j e h1) h2, fun j k p hj hk n hdj hdk => c.dj j k p hj hk n (hdj.imp fun d h => sm j d h) (hdk.imp fun d h => sm k d h), c.fo, c.b1, c.b2, c.b3, fun p hp => ?_⟩
  obtain ⟨h0, h1, h2⟩ := c.pn p hp
  refine ⟨h0, h1, ?_⟩
  have n : i ≠ 0 := fun z => by
    subst z
    rcases hi with z | z
    · exact z h0
    · exact z rfl
  rw [List.getElem?_set_ne n]
  exact h2
/-- .. in both -/
theorem Cr.wipe1 {i : Nat} (c : Cr K B ow σ H F ρ) (hi : i ∉ ow) : Cr K B ow (σ.set i none) H F (ρ.set i none) := by
  have ne : ∀ j, j ∈ ow → i ≠ j := fun j h e => hi (e ▸ h)
  have sm : ∀ j e, (ρ.set i none)[j]? = some (some e) → i ≠ j ∧ ρ[j]? = some (some e) := fun j e h => by
    rcases set_get h with ⟨_, z, _⟩ | ⟨n, h⟩
    · cases z
    · exact ⟨Ne.symm n, h⟩
  refine ⟨by rw [List.length_set, List.length_set]; exact c.len, fun j e h1 h2 => ?_, fun j e h1 h2 => ?_, fun j k p hj hk n hdj hdk => ?_, c.fo, c.b1, c.b2, c.b3, fun p hp => ?_⟩
  · rw [List.getElem?_set_ne (sm j e h1).1]
    exact c.sl j e (sm j e h1).2 h2
  · rw [List.getElem?_set_ne (ne j h2)]
    exact c.lo j e (sm j e h1).2 h2
  · rw [List.getElem?_set_ne (ne j hj), List.getElem?_set_ne (ne k hk)]
    exact c.dj j k p hj hk n (hdj.imp fun d h => (sm j d h).2) (hdk.imp fun d h => (sm k d h).2)
  · obtain ⟨h0, h1, h2⟩ := c.pn p hp
    rw [List.getElem?_set_ne (ne 0 h0), List.getElem?_set_ne (ne 0 h0)]
    exact ⟨h0, h1, h2⟩
/-- a slot gets an object that nobody else holds -/
theorem Cr.setOw {i : Nat} {p : Addr} {o : HO} {d : Da} (c : Cr K B ow σ H F ρ) (hi : i ∈ ow) (h0 : i ≠ 0) (hp : H p = some o) (nf : ¬ F p) (nb : B.H p = none) (hn : ∀ j d, ρ[j]? = some (some d) → j ∈ ow → σ[j]? ≠ some (some (.ref p))) (r : Ow K H F o d) :
    Cr K B ow (σ.set i (some (.ref p))) H F (ρ.set i (some d)) := by
  refine ⟨by rw [List.length_set, List.length_set]; exact c.len, fun j e h1 h2 => ?_, fun j e h1 h2 => ?_, fun j k q hj hk njk hdj hdk => ?_, c.fo, c.b1, c.b2, c.b3, fun q hq => ?_⟩
  · have n : i ≠ j := fun z => h2 (z ▸ hi)
    rw [List.getElem?_set_ne n] at h1 ⊢
    exact c.sl j e h1 h2
  · rcases set_get h1 with ⟨rfl, e1, hl⟩ | ⟨n, h1⟩
    · cases e1
      exact ⟨p, (), o, trivial, List.getElem?_set_self (by rw [c.len]; exact hl), hp, nf, .inr nb, r⟩
    · rw [List.getElem?_set_ne (Ne.symm n)]
      exact c.lo j e h1 h2
  · intro e1 e2
    obtain ⟨dj, hdj⟩ := hdj
    obtain ⟨dk, hdk⟩ := hdk
    rcases set_get hdj with ⟨ej, _, hl⟩ | ⟨nj, gj⟩
    · subst ej
      rw [List.getElem?_set_self (by rw [c.len]; exact hl)] at e1
      cases e1
      rw [List.getElem?_set_ne njk] at e2 hdk
      exact hn k dk hdk hk e2
    · rw [List.getElem?_set_ne (Ne.symm nj)] at e1
      rcases set_get hdk with ⟨ek, _, hl⟩ | ⟨nk, gk⟩
      · subst ek
        rw [List.getElem?_set_self (by rw [c.len]; exact hl)] at e2
        cases e2
        exact hn j dj gj hj e1
      · rw [List.getElem?_set_ne (Ne.symm nk)] at e2
        exact c.dj j k q hj hk njk ⟨dj, gj⟩ ⟨dk, gk⟩ e1 e2
  · obtain ⟨g0, g1, g2⟩ := c.pn q hq
    rw [List.getElem?_set_ne h0, List.getElem?_set_ne h0]
    exact ⟨g0, g1, g2⟩
theorem Cr.setO {i : Nat} {p : Addr} {vs : List V} {ds : List Da} (c : Cr K B ow σ H F ρ) (hi : i ∈ ow) (h0 : i ≠ 0) (hp : H p = some (.lst vs)) (nf : ¬ F p) (nb : B.H p = none) (hn : ∀ j d, ρ[j]? = some (some d) → j ∈ ow → σ[j]? ≠ some (some (.ref p))) (r : RpA K H F vs ds) :
    Cr K B ow (σ.set i (some (.ref p))) H F (ρ.set i (some (.list ds))) := c.setOw hi h0 hp nf nb hn (.lst r)
/-- the list of a slot, its dict -/
theorem Cr.own {i : Nat} {ds : List Da} (c : Cr K B ow σ H F ρ) (hi : i ∈ ow) (e : ρ[i]? = some (some (.list ds))) : ∃ p vs, σ[i]? = some (some (.ref p)) ∧ H p = some (.lst vs) ∧ ¬ F p ∧ (B.pen = some p ∨ B.H p = none) ∧ RpA K H F vs ds := by
  obtain ⟨p, _, o, _, e2, e3, e4, e5, r⟩ := c.lo i _ e hi
  cases r with
  | lst r => exact ⟨p, _, e2, e3, e4, e5, r⟩
theorem Cr.ownK {i : Nat} {ds : List (Da × Da)} (c : Cr K B ow σ H F ρ) (hi : i ∈ ow) (e : ρ[i]? = some (some (.dict ds))) : ∃ p kvs, σ[i]? = some (some (.ref p)) ∧ H p = some (.dK kvs) ∧ ¬ F p ∧ (B.pen = some p ∨ B.H p = none) ∧ RpD K H F kvs ds := by
  obtain ⟨p, _, o, _, e2, e3, e4, e5, r⟩ := c.lo i _ e hi
  cases r with
  | dct r => exact ⟨p, _, e2, e3, e4, e5, r⟩
/-- the heap as it is but for a list that a slot holds -/
structure But (p : Addr) (F : Frz) (H : Hp) (F' : Frz) (H' : Hp) : Prop where
  ex : ∀ a o, a ≠ p → H a = some o → H' a = some o
  kp : ∀ a, F a → F' a
  nw : ∀ a, F' a → F a ∨ H a = none
  fo : Fo F' H'
theorem But.le {p : Addr} {o1 o1' : HO} (b : But p F H F' H') (h : Fo F H) (nf : ¬ F p) (hp : H p = some o1) (hp' : H' p = some o1') : Le F H F' H' := by
  refine ⟨fun a fa => ⟨b.kp a fa, ?_⟩, fun a n => ?_⟩
  · obtain ⟨o, e⟩ := some_of (h a fa)
    rw [e]
    exact b.ex a o (fun z => nf (z ▸ fa)) e
  · by_cases e : a = p
    · rw [e, hp']; exact fun z => nomatch z
    · obtain ⟨o, e1⟩ := some_of n
      rw [b.ex a o e e1]
      exact fun z => nomatch z
theorem But.updO {p : Addr} {o1 o1' : HO} (h : Fo F H) (hp : H p = some o1) : But p F H F (upd H p o1') := by
  refine ⟨fun a o n e => by rw [upd_ne n]; exact e, fun _ z => z, fun _ z => .inl z, fun a fa => ?_⟩
  by_cases e : a = p
  · rw [e, upd_same]; exact fun z => nomatch z
  · rw [upd_ne e]; exact h a fa
theorem But.upd {p : Addr} {vs vs' : List V} (h : Fo F H) (hp : H p = some (.lst vs)) : But p F H F (upd H p (.lst vs')) := But.updO h hp
theorem Cr.mutO {i : Nat} {p : Addr} {o1 o1' : HO} {d' : Da} {d : Da} (c : Cr K B ow σ H F ρ) (hi : i ∈ ow) (e : ρ[i]? = some (some d)) (hs : σ[i]? = some (some (.ref p))) (hp : H p = some o1) (nf : ¬ F p) (b : But p F H F' H')
    (hp' : H' p = some o1') (r : Ow K H' F' o1' d') : Cr K B ow σ H' F' (ρ.set i (some d')) := by
  have l := b.le c.fo nf hp hp'
  have nf' : ¬ F' p := fun z => by
    rcases b.nw p z with z | z
    · exact nf z
    · rw [hp] at z; cases z
  have pb : B.pen = some p ∨ B.H p = none := by
    obtain ⟨p', _, _, _, e2, _, _, e5, _⟩ := c.lo i d e hi
    rw [hs] at e2
    cases e2
    exact e5
  refine ⟨by rw [List.length_set]; exact c.len, fun j x h1 h2 => ?_, fun j x h1 h2 => ?_, fun j k q hj hk njk hdj hdk => ?_, b.fo, fun a o z => ?_, fun a z => b.kp a (c.b2 a z), fun a z => ?_, fun q hq => ?_⟩
  · have n : i ≠ j := fun z => h2 (z ▸ hi)
    rw [List.getElem?_set_ne n] at h1
    obtain ⟨v, h3, r3⟩ := c.sl j x h1 h2
    exact ⟨v, h3, r3.st l.st⟩
  · rcases set_get h1 with ⟨rfl, e1, hl⟩ | ⟨n, h1⟩
    · cases e1
      exact ⟨p, (), o1', trivial, hs, hp', nf', pb, r⟩
    · obtain ⟨q, es, us, g1, g2, g3, g4, g5, g6⟩ := c.lo j x h1 h2
      have nq : q ≠ p := fun z => by
        subst z
        exact c.dj i j q hi h2 (Ne.symm n) ⟨d, e⟩ ⟨x, h1⟩ hs g2
      refine ⟨q, es, us, g1, g2, b.ex q _ nq g3, fun z => ?_, g5, g6.st l.st⟩
      rcases b.nw q z with z | z
      · exact g4 z
      · rw [g3] at z; cases z
  · have sm : ∀ j : Nat, (∃ y : Da, (ρ.set i (some d') : Sto)[j]? = some (some y)) → ∃ y : Da, (ρ : Sto)[j]? = some (some y) := by
      intro j hj2
      obtain ⟨y, hy⟩ := hj2
      rcases set_get hy with ⟨ej, _, _⟩ | ⟨_, g⟩
      · exact ⟨d, by rw [ej]; exact e⟩
      · exact ⟨y, g⟩
    exact c.dj j k q hj hk njk (sm j hdj) (sm k hdk)
  · rcases c.b1 a o z with y | y
    · exact .inl y
    · by_cases ea : a = p
      · subst ea
        rcases pb with w | w
        · exact .inl w
        · rw [w] at z; cases z
      · exact .inr (b.ex a o ea y)
  · rcases b.nw a z with y | y
    · exact c.b3 a y
    · refine .inr ?_
      cases q : B.H a with
      | none => rfl
      | some o =>
        rcases c.b1 a o q with w | w
        · obtain ⟨h0, h1, x, h2⟩ := c.pn a w
          exact absurd h1 (c.away y 0 x h2 h0)
        · rw [y] at w; cases w
  · obtain ⟨g0, g1, x, g2⟩ := c.pn q hq
    refine ⟨g0, g1, ?_⟩
    by_cases e0 : i = 0
    · subst e0
      exact ⟨d', List.getElem?_set_self (List.getElem?_eq_some_iff.mp g2).1⟩
    · rw [List.getElem?_set_ne e0]
      exact ⟨x, g2⟩
theorem Cr.mut {i : Nat} {p : Addr} {vs vs' : List V} {ds' : List Da} {d : Da} (c : Cr K B ow σ H F ρ) (hi : i ∈ ow) (e : ρ[i]? = some (some d)) (hs : σ[i]? = some (some (.ref p))) (hp : H p = some (.lst vs)) (nf : ¬ F p) (b : But p F H F' H')
    (hp' : H' p = some (.lst vs')) (r : RpA K H' F' vs' ds') : Cr K B ow σ H' F' (ρ.set i (some (.list ds'))) := c.mutO hi e hs hp nf b hp' (.lst r)
end

/-! ### statements -/
inductive Out where
  | nx (ρ : Sto) | rt (d : Da) (ρ : Sto) | bk (ρ : Sto) | ct (ρ : Sto)
abbrev Sm := Sto → Option Out
def Aft (K : PySem.W.Frag) (B : Bs) (ow : List Nat) (F : Frz) (H : Hp) (D : Ends) : Out → Prop
  | .nx ρ => ∀ σ' H' F', Cr K B ow σ' H' F' ρ → Le F H F' H' → D.nx σ' H'
  | .rt d ρ => ∀ v σ' H' F', Cr K B ow σ' H' F' ρ → Rp K H' F' v d → D.rt v H'
  | .bk ρ => ∀ σ' H' F', Cr K B ow σ' H' F' ρ → Le F H F' H' → D.bk σ' H'
  | .ct ρ => ∀ σ' H' F', Cr K B ow σ' H' F' ρ → Le F H F' H' → D.ct σ' H'
def tS (K : PySem.W.Frag) (ow : List Nat) (f : Sm) : TS := fun D σ H => ∃ B F ρ o, Cr K B ow σ H F ρ ∧ f ρ = some o ∧ Aft K B ow F H D o
abbrev GS (X : Cx) (ow : List Nat) (st : Stmt) (f : Sm) : Prop := PS X st (tS X.K ow f)
abbrev GB (X : Cx) (ow : List Nat) (st : List Stmt) (f : Sm) : Prop := PSs X st (tS X.K ow f)
theorem Aft.le {K : PySem.W.Frag} {B : Bs} {ow : List Nat} {F F1 : Frz} {H H1 : Hp} {D : Ends} {o : Out} (a : Aft K B ow F H D o) (l : Le F H F1 H1) : Aft K B ow F1 H1 D o := by
  cases o with
  | nx ρ => exact fun σ' H' F' c l' => a σ' H' F' c (l.trans l')
  | rt d ρ => exact a
  | bk ρ => exact fun σ' H' F' c l' => a σ' H' F' c (l.trans l')
  | ct ρ => exact fun σ' H' F' c l' => a σ' H' F' c (l.trans l')
/-- another end for what follows -/
theorem Aft.to {K : PySem.W.Frag} {B : Bs} {ow : List Nat} {F : Frz} {H : Hp} {D D' : Ends} {o : Out} (a : Aft K B ow F H D o) (h1 : ∀ ρ, o = .nx ρ → ∀ σ' H', D.nx σ' H' → D'.nx σ' H') (h2 : ∀ d ρ, o = .rt d ρ → ∀ v H', D.rt v H' → D'.rt v H')
    (h3 : ∀ ρ, o = .bk ρ → ∀ σ' H', D.bk σ' H' → D'.bk σ' H') (h4 : ∀ ρ, o = .ct ρ → ∀ σ' H', D.ct σ' H' → D'.ct σ' H') : Aft K B ow F H D' o := by
  cases o with
  | nx ρ => exact fun σ' H' F' c l => h1 ρ rfl σ' H' (a σ' H' F' c l)
  | rt d ρ => exact fun v σ' H' F' c r => h2 d ρ rfl v H' (a v σ' H' F' c r)
  | bk ρ => exact fun σ' H' F' c l => h3 ρ rfl σ' H' (a σ' H' F' c l)
  | ct ρ => exact fun σ' H' F' c l => h4 ρ rfl σ' H' (a σ' H' F' c l)
section
variable {X : Cx} {ow : List Nat} {st : Stmt} {rest body : List Stmt} {f g fb : Sm} {e : Expr} {fe : Md Da} {ft : Md Bool} {fl : Md (List Da)} {pos : Pos}
theorem ps_w {t t' : TS} (h : PS X st t) (w : ∀ D σ H, t' D σ H → t D σ H) : PS X st t' := ⟨fun pins s σ H D I q => h.run pins s σ H D I (w D σ H q)⟩
theorem pss_w {t t' : TS} (h : PSs X rest t) (w : ∀ D σ H, t' D σ H → t D σ H) : PSs X rest t' := ⟨fun pins s σ H D I q => h.run pins s σ H D I (w D σ H q)⟩
def mNx : Sm := fun ρ => some (.nx ρ)
def mSeq (f g : Sm) : Sm := fun ρ => match f ρ with
  | some (.nx ρ') => g ρ'
  | o => o
theorem b_nil : GB X ow [] mNx := pss_w pss_nil fun D σ H ⟨B, F, ρ, o, c, hf, a⟩ => by
  cases hf
  exact a σ H F c Le.refl
theorem b_cons (h1 : GS X ow st f) (h2 : GB X ow rest g) : GB X ow (st :: rest) (mSeq f g) := pss_w (pss_cons h1 h2) fun D σ H ⟨B, F, ρ, o, c, hf, a⟩ => by
  unfold mSeq at hf
  split at hf
  · rename_i ρ' h
    exact ⟨B, F, ρ, .nx ρ', c, h, fun σ' H' F' c' l => ⟨B, F', ρ', o, c', hf, a.le l⟩⟩
  · rename_i h
    refine ⟨B, F, ρ, o, c, hf, ?_⟩
    cases o with
    | nx ρ' => exact absurd hf (fun z => h ρ' z)
    | rt d ρ => exact a
    | bk ρ => exact a
    | ct ρ => exact a
theorem b_one (h : GS X ow st f) : GB X ow [st] f := pss_one h
def mNever : Sm := fun _ => none
theorem s_never : GS X ow st mNever := ps_w ps_never fun D σ H ⟨B, F, ρ, o, c, hf, a⟩ => by cases hf
theorem s_pass : GS X ow (.Pass pos) mNx := ps_w ps_pass fun D σ H ⟨B, F, ρ, o, c, hf, a⟩ => by
  cases hf
  exact a σ H F c Le.refl
def mBk : Sm := fun ρ => some (.bk ρ)
def mCt : Sm := fun ρ => some (.ct ρ)
theorem s_break : GS X ow (.Break pos) mBk := ps_w ps_break fun D σ H ⟨B, F, ρ, o, c, hf, a⟩ => by
  cases hf
  exact a σ H F c Le.refl
theorem s_continue : GS X ow (.Continue pos) mCt := ps_w ps_continue fun D σ H ⟨B, F, ρ, o, c, hf, a⟩ => by
  cases hf
  exact a σ H F c Le.refl
def mDo {α : Type} (f : Md α) (k : α → Sto → Option Out) : Sm := fun ρ => match f ρ with
  | some (a, ρ') => k a ρ'
  | none => none
theorem do_inv {α : Type} {f : Md α} {k : α → Sto → Option Out} {ρ : Sto} {o : Out} (h : mDo f k ρ = some o) : ∃ a ρ', f ρ = some (a, ρ') ∧ k a ρ' = some o := by
  unfold mDo at h
  split at h
  · exact ⟨_, _, by assumption, h⟩
  · cases h
def mDrop (f : Md Da) : Sm := mDo f fun _ ρ => some (.nx ρ)
def mRt (f : Md Da) : Sm := mDo f fun d ρ => some (.rt d ρ)
def mSet (i : Nat) (f : Md Da) : Sm := mDo f fun d ρ => some (.nx (ρ.set i (some d)))
def mSetO (i : Nat) (f : Md (List Da)) : Sm := mDo f fun ds ρ => some (.nx (ρ.set i (some (.list ds))))
def mIte (t : Md Bool) (f g : Sm) : Sm := mDo t fun b => if b = true then f else g
theorem s_expr (h : GE X ow e fe) (hs : swapsWith e none pos.line X.env = pure false := by rfl) : GS X ow (.Expr e pos) (mDrop fe) := ps_w (ps_expr h hs) fun D σ H ⟨B, F, ρ, o, c, hf, a⟩ => by
  obtain ⟨d, ρ1, h1, hf⟩ := do_inv hf
  cases hf
  exact ⟨B, F, ρ, d, ρ1, c, h1, fun v H1 F1 c1 l1 r1 => a σ H1 F1 c1 l1⟩
theorem s_ret (h : GE X ow e fe) : GS X ow (.Return (some e) pos) (mRt fe) := ps_w (ps_ret h) fun D σ H ⟨B, F, ρ, o, c, hf, a⟩ => by
  obtain ⟨d, ρ1, h1, hf⟩ := do_inv hf
  cases hf
  exact ⟨B, F, ρ, d, ρ1, c, h1, fun v H1 F1 c1 l1 r1 => a v σ H1 F1 c1 r1⟩
def mRtN : Sm := fun ρ => some (.rt .none ρ)
theorem s_retN : GS X ow (.Return none pos) mRtN := ps_w ps_retN fun D σ H ⟨B, F, ρ, o, c, hf, a⟩ => by
  cases hf
  exact a .non σ H F c .non
/-- return of a list that only this def holds -/
def mRtO (i : Nat) : Sm := fun ρ => match ρ[i]? with
  | some (some (.list ds)) => some (.rt (.list ds) (ρ.set i none))
  | _ => none
theorem s_retO {i : Nat} (h : PE X e (tVar i)) (hi : i ∈ ow) (h0 : i ≠ 0) : GS X ow (.Return (some e) pos) (mRtO i) := ps_w (ps_ret h) fun D σ H ⟨B, F, ρ, o, c, hf, a⟩ => by
  unfold mRtO at hf
  split at hf
  · rename_i ds hd
    cases hf
    obtain ⟨p, vs, e2, e3, e4, e5, e6⟩ := c.own hi hd
    have c1 := c.drop (i := i) (.inr h0)
    have np : B.pen ≠ some p := fun z => by
      obtain ⟨g0, g1, g2⟩ := c.pn p z
      exact c.dj i 0 p hi g0 h0 ⟨_, hd⟩ g2 e2 g1
    have c2 := c1.freeze e3 e4 (fun j x hj ho z => by
      rcases set_get hj with ⟨_, y, _⟩ | ⟨n, hj⟩
      · cases y
      · exact c.dj i j p hi ho (Ne.symm n) ⟨_, hd⟩ ⟨_, hj⟩ e2 z) (e5.resolve_left np)
    exact ⟨.ref p, e2, a (.ref p) σ H _ c2 (.lst (.inl ⟨.inr rfl, .inl e3⟩) (e6.st fun b fb => ⟨.inl fb, rfl⟩))⟩
  · cases hf
theorem s_set {i : Nat} {x : Str} {pos' : Pos} (hN : X.N.Nodup) (hi : X.N[i]? = some x) (hx : Loc X.env.scope x) (ho : i ∉ ow) (he : GE X ow e fe) (hs : swapsWith e (some (.Name x pos')) pos.line X.env = pure false := by rfl)
    (hf : X.fn x = true ∨ X.env.scope.names.lookup x = some .local := by first | exact .inl rfl | exact .inr rfl) : GS X ow (.Assign [.Name x pos'] e pos) (mSet i fe) := ps_w (ps_set hN hi hx he hs hf) fun D σ H ⟨B, F, ρ, o, c, hf, a⟩ => by
  obtain ⟨d, ρ1, h1, hf⟩ := do_inv hf
  cases hf
  exact ⟨B, F, ρ, d, ρ1, c, h1, fun v H1 F1 c1 l1 r1 => a _ H1 F1 (c1.set r1 ho) l1⟩
theorem setO_go {i : Nat} {te : TE} (hL : ∀ σ H Q, tL X.K ow fl σ H Q → te σ H Q) (ho : i ∈ ow) (h0 : i ≠ 0) (D : Ends) (σ : L2.St) (H : Hp) (h : tS X.K ow (mSetO i fl) D σ H) : tAsg te (gName i) D σ H := by
  obtain ⟨B, F, ρ, o, c, hf, a⟩ := h
  obtain ⟨ds, ρ1, h1, hf⟩ := do_inv hf
  cases hf
  refine hL σ H _ ⟨B, F, ρ, ds, ρ1, c, h1, fun p vs H1 F1 c1 l1 np hp nf hn r1 => ?_⟩
  exact a _ H1 F1 (c1.setO ho h0 hp nf (c.new np) hn r1) l1
theorem s_setO {i : Nat} {x : Str} {pos' : Pos} (hN : X.N.Nodup) (hi : X.N[i]? = some x) (hx : Loc X.env.scope x) (ho : i ∈ ow) (h0 : i ≠ 0) (he : GL X ow e fl) (hs : swapsWith e (some (.Name x pos')) pos.line X.env = pure false := by rfl)
    (hf : X.fn x = true ∨ X.env.scope.names.lookup x = some .local := by first | exact .inl rfl | exact .inr rfl) : GS X ow (.Assign [.Name x pos'] e pos) (mSetO i fl) := ps_w (ps_set hN hi hx he hs hf) (setO_go (fun _ _ _ h => h) ho h0)
theorem s_if {c : Expr} {a b : List Stmt} (hc : GT X ow c ft) (ha : GB X ow a f) (hb : GB X ow b g) : GS X ow (.If c a b pos) (mIte ft f g) := ps_w (ps_if hc ha hb) fun D σ H ⟨B, F, ρ, o, c, hf, a⟩ => by
  obtain ⟨k, ρ1, h1, hf⟩ := do_inv hf
  refine ⟨B, F, ρ, k, ρ1, c, h1, fun H1 F1 c1 l1 => ?_⟩
  cases k with
  | true =>
    rw [if_pos rfl] at hf
    rw [if_pos rfl]
    exact ⟨B, F1, ρ1, o, c1, hf, a.le l1⟩
  | false =>
    rw [if_neg Bool.false_ne_true] at hf
    rw [if_neg Bool.false_ne_true]
    exact ⟨B, F1, ρ1, o, c1, hf, a.le l1⟩
/-! ### lists that only this def holds -/
def ownL (i : Nat) (ρ : Sto) : Option (List Da) := match ρ[i]? with
  | some (some (.list ds)) => some ds
  | _ => none
theorem own_get {i : Nat} {ρ : Sto} {ds : List Da} (h : ownL i ρ = some ds) : ρ[i]? = some (some (.list ds)) := by
  unfold ownL at h
  split at h
  · cases h; assumption
  · cases h
theorem Cr.ownL {K : PySem.W.Frag} {B : Bs} {σ : L2.St} {H : Hp} {F : Frz} {ρ : Sto} {i : Nat} {ds : List Da} (c : Cr K B ow σ H F ρ) (hi : i ∈ ow) (h : Mir.ownL i ρ = some ds) :
    ∃ p vs, σ[i]? = some (some (.ref p)) ∧ H p = some (.lst vs) ∧ ¬ F p ∧ RpA K H F vs ds := by
  obtain ⟨p, vs, e2, e3, e4, _, e6⟩ := c.own hi (own_get h)
  exact ⟨p, vs, e2, e3, e4, e6⟩
def withL {α : Type} (i : Nat) (k : List Da → Sto → Option α) : Sto → Option α := fun ρ => match Mir.ownL i ρ with
  | some ds => k ds ρ
  | none => none
theorem with_inv {α : Type} {i : Nat} {k : List Da → Sto → Option α} {ρ : Sto} {o : α} (h : withL i k ρ = some o) : ∃ ds, Mir.ownL i ρ = some ds ∧ k ds ρ = some o := by
  unfold withL at h
  split at h
  · exact ⟨_, by assumption, h⟩
  · cases h
/-- xs.append(e) -/
def mApp (i : Nat) (f : Md Da) : Sm := withL i fun _ => mDo f fun d => withL i fun ds ρ => if ds.length < 100000 then some (.nx (ρ.set i (some (.list (ds ++ [d]))))) else none
theorem s_app {i : Nat} {cl : Expr} (h : PE X cl (tBM X.K "list" rAppend (tVar i) (tCons (tE X.K ow fe) tNil))) (hi : i ∈ ow) (hs : swapsWith cl none pos.line X.env = pure false := by rfl) : GS X ow (.Expr cl pos) (mApp i fe) := ps_w (ps_expr h hs) fun D σ H ⟨B, F, ρ, o, c, hf, a⟩ => by
  obtain ⟨ds0, g0, hf⟩ := with_inv hf
  obtain ⟨d, ρ1, h1, hf⟩ := do_inv hf
  obtain ⟨ds, g1, hf⟩ := with_inv hf
  split at hf
  · rename_i hz
    cases hf
    obtain ⟨p, vs0, e1, e2, e3, e4⟩ := c.ownL hi g0
    refine ⟨.ref p, e1, .inl ⟨rfl, vs0, SqL.of e2⟩, B, F, ρ, d, ρ1, c, h1, fun v H1 F1 c1 l1 r1 => ?_⟩
    obtain ⟨p', vs, f1, f2, f3, f4⟩ := c1.ownL hi g1
    rw [e1] at f1
    cases f1
    have up := But.upd (vs' := vs ++ [v]) c1.fo f2
    have le := up.le c1.fo f3 f2 upd_same
    refine ⟨p, vs, v, rfl, rfl, f2, by rw [f4.len]; exact Evl.sz_lt hz, ?_⟩
    exact a σ _ F1 (c1.mut hi (own_get g1) e1 f2 f3 up upd_same ((f4.st le.st).app (RpA.one (r1.st le.st)))) (l1.trans le)
  · cases hf
/-- xs.pop() -/
def mPop (i : Nat) : Md Da := withL i fun ds ρ => match ds[ds.length - 1]? with
  | some d => some (d, ρ.set i (some (.list ds.dropLast)))
  | none => none
theorem RpA.dropLast {K : PySem.W.Frag} {H : Hp} {F : Frz} {vs : List V} {ds : List Da} (h : RpA K H F vs ds) : RpA K H F vs.dropLast ds.dropLast := by
  rw [List.dropLast_eq_take, List.dropLast_eq_take, h.len]
  exact h.take _
theorem e_pop {i : Nat} {cl : Expr} (h : PE X cl (tBM0 X.K "list" rPop (tVar i))) (hi : i ∈ ow) : GE X ow cl (mPop i) := pe_w h fun σ H Q ⟨B, F, ρ, d, ρ', c, hf, q⟩ => by
  obtain ⟨ds, g0, hf⟩ := with_inv hf
  split at hf
  · rename_i x hx
    cases hf
    obtain ⟨p, vs, e1, e2, e3, e4⟩ := c.ownL hi g0
    obtain ⟨v, hv, rv⟩ := e4.get hx
    have up := But.upd (vs' := vs.dropLast) c.fo e2
    have le := up.le c.fo e3 e2 upd_same
    refine ⟨.ref p, e1, .inl ⟨rfl, vs, SqL.of e2⟩, p, vs, v, rfl, rfl, e2, by rw [e4.len]; exact hv, ?_⟩
    exact q v _ F (c.mut hi (own_get g0) e1 e2 e3 up upd_same (e4.dropLast.st le.st)) le (rv.st le.st)
  · cases hf
/-- xs[i] = e -/
def mSetI (j : Nat) (fi fv : Md Da) : Sm := mDo fv fun d => withL j fun _ => mDo fi fun x => withL j fun ds ρ => match x with
  | .int k => match ixN ds.length k with
    | some n => some (.nx (ρ.set j (some (.list (ds.set n d)))))
    | none => none
  | _ => none
theorem s_setI {j : Nat} {fi : Md Da} {tgt : Expr} (h : PS X (.Assign [tgt] e pos) (tAsg (tE X.K ow fe) (gSub (tVar j) (tE X.K ow fi) rSetL))) (hj : j ∈ ow) : GS X ow (.Assign [tgt] e pos) (mSetI j fi fe) := ps_w h fun D σ H ⟨B, F, ρ, o, c, hf, a⟩ => by
  obtain ⟨d, ρ1, h1, hf⟩ := do_inv hf
  obtain ⟨ds0, g0, hf⟩ := with_inv hf
  obtain ⟨x, ρ2, h2, hf⟩ := do_inv hf
  obtain ⟨ds, g1, hf⟩ := with_inv hf
  revert hf
  split
  · rename_i k
    intro hf
    split at hf
    · rename_i n hn
      cases hf
      refine ⟨B, F, ρ, d, ρ1, c, h1, fun v H1 F1 c1 l1 r1 => ?_⟩
      obtain ⟨p0, vs0, e1, _⟩ := c1.ownL hj g0
      refine ⟨.ref p0, e1, B, F1, ρ1, _, ρ2, c1, h2, fun w H2 F2 c2 l2 r2 => ?_⟩
      obtain ⟨p, vs, f1, f2, f3, f4⟩ := c2.ownL hj g1
      rw [e1] at f1
      cases f1
      have up := But.upd (vs' := vs.set n v) c2.fo f2
      have le := up.le c2.fo f3 f2 upd_same
      refine ⟨p0, vs, k, n, rfl, r2.int_inv, f2, by rw [f4.len]; exact hn, ?_⟩
      exact a σ _ F2 (c2.mut hj (own_get g1) e1 f2 f3 up upd_same (RpA.set ((r1.st l2.st).st le.st) (f4.st le.st))) ((l1.trans l2).trans le)
    · cases hf
  · exact fun hf => nomatch hf
/-- an operand that is such a list -/
def mOp1 (g : Da → Da → Option Da) (j : Nat) (fb : Md Da) : Md Da := withL j fun _ => mBind fb fun y => withL j fun ds => mOpt (g (.list ds) y)
def mOp2 (g : Da → Da → Option Da) (fa : Md Da) (j : Nat) : Md Da := mBind fa fun x => withL j fun ds => mOpt (g x (.list ds))
def mCall1 (g : List Da → Option Da) (j : Nat) : Md Da := withL j fun ds => mOpt (g [.list ds])
theorem op1_go {r : R2} {g : Da → Da → Option Da} {j : Nat} {fb : Md Da} (hd : OpD X.K r g) (hj : j ∈ ow) (σ : L2.St) (H : Hp) (Q : VK) (h : tE X.K ow (mOp1 g j fb) σ H Q) : tOp r (tVar j) (tE X.K ow fb) σ H Q := by
  obtain ⟨B, F, ρ, d, ρ', c, hf, q⟩ := h
  obtain ⟨ds0, g0, hf⟩ := with_inv hf
  obtain ⟨y, ρ1, h1, hf⟩ := bind_inv hf
  obtain ⟨ds, g1, hf⟩ := with_inv hf
  obtain ⟨hg, rfl⟩ := opt_inv hf
  obtain ⟨p, vs0, e1, _⟩ := c.ownL hj g0
  refine ⟨.ref p, e1, B, F, ρ, y, ρ', c, h1, fun w H1 F1 c1 l1 r1 => ?_⟩
  obtain ⟨p', vs, f1, f2, f3, f4⟩ := c1.ownL hj g1
  rw [e1] at f1
  cases f1
  exact hd H1 F1 _ w _ y d c1.fo (.own f2 f4) (.rp r1) hg Q fun z H3 F3 gr r3 => q z H3 F3 (c1.grow gr) (l1.trans (gr.le c1.fo)) r3
theorem op2_go {r : R2} {g : Da → Da → Option Da} {j : Nat} {fa : Md Da} (hd : OpD X.K r g) (hj : j ∈ ow) (σ : L2.St) (H : Hp) (Q : VK) (h : tE X.K ow (mOp2 g fa j) σ H Q) : tOp r (tE X.K ow fa) (tVar j) σ H Q := by
  obtain ⟨B, F, ρ, d, ρ', c, hf, q⟩ := h
  obtain ⟨x, ρ1, h1, hf⟩ := bind_inv hf
  obtain ⟨ds, g1, hf⟩ := with_inv hf
  obtain ⟨hg, rfl⟩ := opt_inv hf
  refine ⟨B, F, ρ, x, ρ', c, h1, fun v H1 F1 c1 l1 r1 => ?_⟩
  obtain ⟨p, vs, f1, f2, f3, f4⟩ := c1.ownL hj g1
  exact ⟨.ref p, f1, hd H1 F1 v _ x _ d c1.fo (.rp r1) (.own f2 f4) hg Q fun z H3 F3 gr r3 => q z H3 F3 (c1.grow gr) (l1.trans (gr.le c1.fo)) r3⟩
variable {a b : Expr} {fa : Md Da}
theorem e_ix1 {r : R2} {g : Da → Da → Option Da} {j : Nat} {fb : Md Da} (ho : IxR X r) (hd : OpD X.K r g) (ha : PE X a (tVar j)) (hj : j ∈ ow) (hb : GE X ow b fb) (hp : PlainIx b) : GE X ow (.Subscript a b pos) (mOp1 g j fb) := pe_w (pe_ix ho ha hb hp) (op1_go hd hj)
theorem e_op1 {op : Operator} {r : R2} {g : Da → Da → Option Da} {j : Nat} {fb : Md Da} (ho : OpR X (binaryOp op) r) (hd : OpD X.K r g) (ha : PE X a (tVar j)) (hj : j ∈ ow) (hb : GE X ow b fb) : GE X ow (.BinOp a op b pos) (mOp1 g j fb) := pe_w (pe_op ho ha hb) (op1_go hd hj)
theorem e_cmp1 {op : CmpOp} {r : R2} {g : Da → Da → Option Da} {j : Nat} {fb : Md Da} (ho : OpR X (compareOp op) r) (hd : OpD X.K r g) (ha : PE X a (tVar j)) (hj : j ∈ ow) (hb : GE X ow b fb) (hm : behindInMarks op b = false) : GE X ow (.Compare a [op] [b] pos) (mOp1 g j fb) := pe_w (pe_cmpR ho ha hb hm) (op1_go hd hj)
theorem e_cmp2 {op : CmpOp} {r : R2} {g : Da → Da → Option Da} {j : Nat} (ho : OpR X (compareOp op) r) (hd : OpD X.K r g) (ha : GE X ow a fa) (hb : PE X b (tVar j)) (hj : j ∈ ow) (hm : behindInMarks op b = false) : GE X ow (.Compare a [op] [b] pos) (mOp2 g fa j) := pe_w (pe_cmpR ho ha hb hm) (op2_go hd hj)
theorem tst_go {t : TE} {f : Md Da} (h : ∀ σ H Q, tE X.K ow f σ H Q → t σ H Q) (σ : L2.St) (H : Hp) (Q : Bool → Hp → Prop) (hq : tT X.K ow (mB f) σ H Q) : tTest t σ H Q := by
  obtain ⟨B, F, ρ, k, ρ', c, hf, q⟩ := hq
  obtain ⟨x, ρ1, h1, hf⟩ := bind_inv hf
  obtain ⟨hg, rfl⟩ := opt_inv hf
  have hx := isB_inv hg
  subst hx
  refine h σ H _ ⟨B, F, ρ, .bool k, ρ', c, h1, fun v H1 F1 c1 l1 r1 => ?_⟩
  cases r1
  exact ⟨k, rfl, q H1 F1 c1 l1⟩
theorem t_cmp1 {op : CmpOp} {r : R2} {g : Da → Da → Option Da} {j : Nat} {fb : Md Da} (ho : OpR X (compareOp op) r) (hd : OpD X.K r g) (ha : PE X a (tVar j)) (hj : j ∈ ow) (hb : GE X ow b fb) (hm : behindInMarks op b = false) : GT X ow (.Compare a [op] [b] pos) (mB (mOp1 g j fb)) := pt_w (pt_cmpR ho ha hb hm) (tst_go (op1_go hd hj))
theorem t_cmp2 {op : CmpOp} {r : R2} {g : Da → Da → Option Da} {j : Nat} (ho : OpR X (compareOp op) r) (hd : OpD X.K r g) (ha : GE X ow a fa) (hb : PE X b (tVar j)) (hj : j ∈ ow) (hm : behindInMarks op b = false) : GT X ow (.Compare a [op] [b] pos) (mB (mOp2 g fa j)) := pt_w (pt_cmpR ho ha hb hm) (tst_go (op2_go hd hj))
def mTru1 (j : Nat) : Md Bool := withL j fun ds ρ => some (!ds.isEmpty, ρ)
theorem t_tru1 {j : Nat} (ha : PE X a (tVar j)) (hj : j ∈ ow) (he : ∀ whole, isTrue a X.env whole = (do let v ← whole; standAt a.pos; holding [v] (truthy v)) := by intro _; rfl) : GT X ow a (mTru1 j) := pt_w (pt_truth ha he) fun σ H Q ⟨B, F, ρ, k, ρ', c, hf, q⟩ => by
  obtain ⟨ds, g1, hf⟩ := with_inv hf
  cases hf
  obtain ⟨p, vs, f1, f2, f3, f4⟩ := c.ownL hj g1
  exact ⟨.ref p, f1, _, .inl ⟨vs, SqL.of f2, by cases f4 <;> rfl⟩, q H F c Le.refl⟩
variable {x : Str} {p : Pos} {id T : String}
theorem call1_go {r : List V → Hp → VK → Prop} {g : List Da → Option Da} {j : Nat} (hd : CallD X.K r g) (hj : j ∈ ow) (σ : L2.St) (H : Hp) (Q : VK) (h : tE X.K ow (mCall1 g j) σ H Q) : tCB r (tCons (tVar j) tNil) σ H Q := by
  obtain ⟨B, F, ρ, d, ρ', c, hf, q⟩ := h
  obtain ⟨ds, g1, hf⟩ := with_inv hf
  obtain ⟨hg, rfl⟩ := opt_inv hf
  obtain ⟨p, vs, f1, f2, f3, f4⟩ := c.ownL hj g1
  exact ⟨.ref p, f1, hd H F _ _ d c.fo (.cons (.own f2 f4) .nil) hg Q fun z H3 F3 gr r3 => q z H3 F3 (c.grow gr) (gr.le c.fo) r3⟩
theorem e_callB1 {r : List V → Hp → VK → Prop} {g : List Da → Option Da} {j : Nat} (hc : CallR X (.builtin id) r) (hd : CallD X.K r g) (hg : Gl X x) (hm : X.mg x = none) (hv : bootBuiltins x = some (.builtin id)) (ha : PE X e (tVar j)) (hj : j ∈ ow) (hn : x ≠ "__name__" := by decide) (hdb : (x == ("__debug__" : Str)) = false := by decide)
    (he : starEach [e] X.env = (false, eval e X.env) :: starEach [] X.env := by rfl) (hpl : (backTo pos (starEach [] X.env)).any (·.1) = false := by rfl) : GE X ow (.Call (.Name x p) [e] [] pos) (mCall1 g j) := pe_w (pe_callB hc hg hm hv (pa_cons ha pa_nil he) hn hdb he hpl) (call1_go hd hj)
theorem e_callTy1 {r : List V → Hp → VK → Prop} {g : List Da → Option Da} {j : Nat} (hc : CallR X (.type T) r) (hd : CallD X.K r g) (hg : Gl X x) (hm : X.mg x = none) (hv : bootBuiltins x = some (.type T)) (ha : PE X e (tVar j)) (hj : j ∈ ow) (hn : x ≠ "__name__" := by decide) (hdb : (x == ("__debug__" : Str)) = false := by decide)
    (he : starEach [e] X.env = (false, eval e X.env) :: starEach [] X.env := by rfl) (hpl : (backTo pos (starEach [] X.env)).any (·.1) = false := by rfl) : GE X ow (.Call (.Name x p) [e] [] pos) (mCall1 g j) := pe_w (pe_callTy hc hg hm hv (pa_cons ha pa_nil he) hn hdb he hpl) (call1_go hd hj)

/-! ### defs of the text -/
/-- a def that changes nothing that it is handed -/
def spP (K : PySem.W.Frag) (n : Nat) (mf : List Da → Option Da) : Sp := fun vs H Q _ => ∃ F ds d, Fo F H ∧ RpA K H F vs ds ∧ ds.length = n ∧ mf ds = some d ∧ ∀ v H' F', Gr F H F' H' → Rp K H' F' v d → Q v H'
/-- a def that changes the list that is its first argument -/
def spI (K : PySem.W.Frag) (n : Nat) (mf : List Da → List Da → Option (Da × List Da)) : Sp := fun vs H Q _ => ∃ F p pv pds us ds d pds', vs = .ref p :: us ∧ Fo F H ∧ ¬ F p ∧ H p = some (.lst pv) ∧ RpA K H F pv pds ∧ RpA K H F us ds ∧ ds.length + 1 = n ∧
  mf pds ds = some (d, pds') ∧ ∀ v H' F' pv', But p F H F' H' → H' p = some (.lst pv') → RpA K H' F' pv' pds' → Rp K H' F' v d → Q v H'
def runP (n : Nat) (f : Sm) : List Da → Option Da := fun ds => match f (ds.map some ++ List.replicate (n - ds.length) none) with
  | some (.rt d _) => some d
  | some (.nx _) => some .none
  | _ => none
def runI (n : Nat) (f : Sm) : List Da → List Da → Option (Da × List Da) := fun pds ds => match f (some (.list pds) :: (ds.map some ++ List.replicate (n - (ds.length + 1)) none)) with
  | some (.rt d ρ) => (Mir.ownL 0 ρ).map fun q => (d, q)
  | some (.nx ρ) => (Mir.ownL 0 ρ).map fun q => (.none, q)
  | _ => none
end
end Mir

set_option Elab.async false
set_option linter.all false
set_option maxRecDepth 100000
set_option maxHeartbeats 2000000
namespace Mir
open PySem PySem.Spec PyProof.Rows L2

/-! ### the start of a def -/
theorem start_len {N : List Str} {vs : List V} (h : vs.length ≤ N.length) : (start N vs).length = N.length := by
  unfold L2.start
  rw [List.length_append, List.length_map, List.length_replicate]
  omega
def sto0 (n : Nat) (ds : List Da) : Sto := ds.map some ++ List.replicate (n - ds.length) none
theorem sto0_get {n : Nat} {ds : List Da} {i : Nat} {d : Da} (h : (sto0 n ds)[i]? = some (some d)) : i < ds.length ∧ ds[i]? = some d := by
  unfold sto0 at h
  by_cases hi : i < ds.length
  · rw [List.getElem?_append_left (by rw [List.length_map]; exact hi), List.getElem?_map] at h
    refine ⟨hi, ?_⟩
    cases e : ds[i]? with
    | none => rw [e] at h; cases h
    | some x => rw [e] at h; cases h; rfl
  · rw [List.getElem?_append_right (by rw [List.length_map]; omega), List.getElem?_replicate] at h
    split at h <;> cases h
theorem start_get {N : List Str} {vs : List V} {i : Nat} {v : V} (h : vs[i]? = some v) : (start N vs)[i]? = some (some v) := by
  unfold L2.start
  have hi := (List.getElem?_eq_some_iff.mp h).1
  rw [List.getElem?_append_left (by rw [List.length_map]; exact hi), List.getElem?_map, h]
  rfl
section
variable {P : Program} {w : World} {K : PySem.W.Frag} {mg : Str → Option Value} {base : Heap} {k : Nat} {f : Addr} {fd : FuncData} {ps N : List Str} {x qual : Str} {st : Stmt} {ow : List Nat} {fb : Sm}
theorem pre_le (S : FnScope N ps (defScope st)) : ps.length ≤ N.length := by
  have h := congrArg List.length S.pre
  rw [List.length_take] at h
  omega
/-- a def that changes nothing -/
theorem fnP (T : Fun K x qual st f fd) (S : FnScope N ps (defScope st)) (how : ∀ i ∈ ow, ps.length ≤ i)
    (hb : ∀ (cdv : Value) (A : Around) (outer : List Env) (s : Shared) (H : Hp) (E : XK), Room k (A.deeper (envOfC qual (defScope st) s.heap.objs.size f cdv)) → (A.deeper (envOfC qual (defScope st) s.heap.objs.size f cdv)).guards = some [] →
      PSs (cxOf CX0 P w K mg base N qual (defScope st) f cdv A outer s H E).nox (defBody st) (tS K ow fb)) : FnG P w K mg base (k + 1) f fd ps (spP K ps.length (runP N.length fb)) := by
  have hp := pre_le S
  refine fnG T S (fun vs H Q E ⟨F, ds, d, _, r, hl, _⟩ => r.len.trans hl) fun cdv A outer s H vs Q E hr hgd ⟨F, ds, d, fo, r, hl, hm, q⟩ => ⟨_, hb cdv A outer s H E hr hgd, ?_⟩
  have hlv := r.len
  have c0 : Cr K ⟨H, F, none⟩ ow (start N vs) H F (sto0 N.length ds) := by
    refine ⟨?_, fun i d h1 h2 => ?_, fun i d h1 h2 => ?_, fun i j p hi hj _ ⟨d, hd⟩ => ?_, fo, fun a o e => .inr e, fun a e => e, fun a e => .inl e, fun p e => nomatch e⟩
    · rw [start_len (by omega)]
      unfold sto0
      rw [List.length_append, List.length_map, List.length_replicate]
      omega
    · obtain ⟨v, h3, rv⟩ := r.get (sto0_get h1).2
      exact ⟨v, start_get h3, rv⟩
    · have h3 := (sto0_get h1).1
      have h4 := how i h2
      omega
    · have h3 := (sto0_get hd).1
      have h4 := how i hi
      omega
  unfold runP at hm
  have fin : ∀ {v : V} {H' : Hp} {F' : Frz} {σ' : L2.St} {ρ : Sto}, Cr K ⟨H, F, none⟩ ow σ' H' F' ρ → Rp K H' F' v d → Q v H' := fun {v H' F' σ' ρ} c r' => by
    refine q v H' F' ⟨fun a o e => ?_, c.b2, c.b3, c.fo⟩ r'
    rcases c.b1 a o e with z | z
    · cases z
    · exact z
  split at hm
  · rename_i d' ρ e
    cases hm
    exact ⟨_, F, _, _, c0, e, fun v σ' H' F' c r' => fin c r'⟩
  · rename_i ρ e
    cases hm
    exact ⟨_, F, _, _, c0, e, fun σ' H' F' c l => fin c .non⟩
  · cases hm
/-- a def that changes the list that is its first argument -/
theorem fnI (T : Fun K x qual st f fd) (S : FnScope N ps (defScope st)) (h0 : 0 ∈ ow) (hps : 0 < ps.length) (how : ∀ i ∈ ow, i = 0 ∨ ps.length ≤ i)
    (hb : ∀ (cdv : Value) (A : Around) (outer : List Env) (s : Shared) (H : Hp) (E : XK), Room k (A.deeper (envOfC qual (defScope st) s.heap.objs.size f cdv)) → (A.deeper (envOfC qual (defScope st) s.heap.objs.size f cdv)).guards = some [] →
      PSs (cxOf CX0 P w K mg base N qual (defScope st) f cdv A outer s H E).nox (defBody st) (tS K ow fb)) : FnG P w K mg base (k + 1) f fd ps (spI K ps.length (runI N.length fb)) := by
  have hp := pre_le S
  refine fnG T S (fun vs H Q E ⟨F, p, pv, pds, us, ds, d, pds', e, _, _, _, _, r, hl, _⟩ => by rw [e, List.length_cons, r.len]; exact hl)
    fun cdv A outer s H vs Q E hr hgd ⟨F, p, pv, pds, us, ds, d, pds', ev, fo, nf, hpp, rp, r, hl, hm, q⟩ => ⟨_, hb cdv A outer s H E hr hgd, ?_⟩
  subst ev
  have hlv := r.len
  have e0 : sto0 N.length (.list pds :: ds) = some (.list pds) :: (ds.map some ++ List.replicate (N.length - (ds.length + 1)) none) := rfl
  have c0 : Cr K ⟨H, F, some p⟩ ow (start N (.ref p :: us)) H F (sto0 N.length (.list pds :: ds)) := by
    refine ⟨?_, fun i d h1 h2 => ?_, fun i d h1 h2 => ?_, fun i j q hi hj n ⟨d, hd⟩ ⟨e, he⟩ => ?_, fo, fun a o e => .inr e, fun a e => e, fun a e => .inl e, fun q e => ?_⟩
    · rw [start_len (by rw [List.length_cons]; omega)]
      unfold sto0
      rw [List.length_append, List.length_map, List.length_replicate, List.length_cons]
      omega
    · obtain ⟨h3, h4⟩ := sto0_get h1
      cases i with
      | zero => exact absurd h0 h2
      | succ i =>
        obtain ⟨v, h5, rv⟩ := r.get (i := i) (by simpa using h4)
        exact ⟨v, start_get (by simpa using h5), rv⟩
    · obtain ⟨h3, h4⟩ := sto0_get h1
      rw [List.length_cons] at h3
      rcases how i h2 with z | z
      · subst z
        cases h4
        exact ⟨p, (), .lst pv, trivial, start_get rfl, hpp, nf, .inl rfl, .lst rp⟩
      · omega
    · have h3 := (sto0_get hd).1
      have h4 := (sto0_get he).1
      rw [List.length_cons] at h3 h4
      have z1 := how i hi
      have z2 := how j hj
      omega
    · cases e
      exact ⟨h0, start_get rfl, .list pds, rfl⟩
  have fin : ∀ {v : V} {H' : Hp} {F' : Frz} {σ' : L2.St} {ρ : Sto}, Mir.ownL 0 ρ = some pds' → Cr K ⟨H, F, some p⟩ ow σ' H' F' ρ → Rp K H' F' v d → Q v H' := fun {v H' F' σ' ρ} ho c r' => by
    obtain ⟨p', vs, f1, f2, f3, f4⟩ := c.ownL h0 ho
    obtain ⟨_, g1, _⟩ := c.pn p rfl
    rw [g1] at f1
    cases f1
    refine q v H' F' vs ⟨fun a o n e => ?_, c.b2, c.b3, c.fo⟩ f2 f4 r'
    rcases c.b1 a o e with z | z
    · exact absurd (Option.some.inj z).symm n
    · exact z
  unfold runI at hm
  rw [← e0] at hm
  split at hm
  · rename_i d' ρ e
    obtain ⟨y, hy, ez⟩ := Option.map_eq_some_iff.mp hm
    cases ez
    exact ⟨_, F, _, _, c0, e, fun v σ' H' F' c r' => fin hy c r'⟩
  · rename_i ρ e
    obtain ⟨y, hy, ez⟩ := Option.map_eq_some_iff.mp hm
    cases ez
    exact ⟨_, F, _, _, c0, e, fun σ' H' F' c l => fin hy c .non⟩
  · cases hm
end

/-! ### calls of such defs -/
section
variable {X : Cx} {ow : List Nat} {k : Nat} {f : Addr} {fd : FuncData} {ps : List Str} {x : Str} {p pos : Pos} {e : Expr} {es : List Expr} {fs : Md (List Da)}
def mFn (n : Nat) (g : List Da → Option Da) (fs : Md (List Da)) : Md Da := mBind fs fun ds => if ds.length = n then mOpt (g ds) else fun _ => none
theorem e_call {n : Nat} {mf : List Da → Option Da} (G : FnG X.prog X.w X.K X.mg X.base k f fd ps (spP X.K n mf)) (hr : Room k X.A) (hgd : X.A.guards = some []) (hg : Gl X x) (hm : X.mg x = some (.ref f)) (hk : PySem.W.keepIn X.K (.ref f) = true) (hb : Binds X.K fd ps [])
    (ha : GA X ow (e :: es) fs) (hdb : (x == ("__debug__" : Str)) = false := by decide) (he : starEach (e :: es) X.env = (false, eval e X.env) :: starEach es X.env := by rfl) (hpl : (backTo pos (starEach es X.env)).any (·.1) = false := by rfl) :
    GE X ow (.Call (.Name x p) (e :: es) [] pos) (mFn n mf fs) := pe_w (pe_callG G hr hgd hg hm hk hb ha hdb he hpl) fun σ H Q ⟨B, F, ρ, d, ρ', c, hf, q⟩ => by
  obtain ⟨ds, ρ1, h1, hf⟩ := bind_inv hf
  by_cases hl : ds.length = n
  · rw [if_pos hl] at hf
    obtain ⟨hg2, rfl⟩ := opt_inv hf
    refine ⟨B, F, ρ, ds, _, c, h1, fun vs H1 F1 c1 l1 r1 => ?_⟩
    exact ⟨F1, ds, d, c1.fo, r1, hl, hg2, fun v H2 F2 gr r2 => q v H2 F2 (c1.grow gr) (l1.trans (gr.le c1.fo)) r2⟩
  · rw [if_neg hl] at hf
    cases hf
theorem e_call0 {n : Nat} {mf : List Da → Option Da} (G : FnG X.prog X.w X.K X.mg X.base k f fd ps (spP X.K n mf)) (hr : Room k X.A) (hgd : X.A.guards = some []) (hg : Gl X x) (hm : X.mg x = some (.ref f)) (hk : PySem.W.keepIn X.K (.ref f) = true) (hb : Binds X.K fd ps [])
    (hdb : (x == ("__debug__" : Str)) = false := by decide) :
    GE X ow (.Call (.Name x p) [] [] pos) (mFn n mf mNil) := pe_w (pe_callG0 G hr hgd hg hm hk hb hdb) fun σ H Q ⟨B, F, ρ, d, ρ', c, hf, q⟩ => by
  obtain ⟨ds, ρ1, h1, hf⟩ := bind_inv hf
  cases h1
  by_cases hl : ([] : List Da).length = n
  · rw [if_pos hl] at hf
    obtain ⟨hg2, rfl⟩ := opt_inv hf
    exact ⟨F, [], d, c.fo, .nil, hl, hg2, fun v H2 F2 gr r2 => q v H2 F2 (c.grow gr) (gr.le c.fo) r2⟩
  · rw [if_neg hl] at hf
    cases hf
/-- .. whose first argument is a list that only this def holds -/
def mFnI (n : Nat) (j : Nat) (g : List Da → List Da → Option (Da × List Da)) (fs : Md (List Da)) : Md Da := withL j fun _ => mBind fs fun ds => withL j fun pds ρ => if ds.length + 1 = n then match g pds ds with
  | some (d, pds') => some (d, ρ.set j (some (.list pds')))
  | none => none
  else none
theorem e_callI {n : Nat} {j : Nat} {mf : List Da → List Da → Option (Da × List Da)} (G : FnG X.prog X.w X.K X.mg X.base k f fd ps (spI X.K n mf)) (hr : Room k X.A) (hgd : X.A.guards = some []) (hg : Gl X x) (hm : X.mg x = some (.ref f)) (hk : PySem.W.keepIn X.K (.ref f) = true) (hb : Binds X.K fd ps [])
    (hj : j ∈ ow) (h1 : PE X e (tVar j)) (ha : GA X ow es fs) (hdb : (x == ("__debug__" : Str)) = false := by decide) (he : starEach (e :: es) X.env = (false, eval e X.env) :: starEach es X.env := by rfl) (hpl : (backTo pos (starEach es X.env)).any (·.1) = false := by rfl) :
    GE X ow (.Call (.Name x p) (e :: es) [] pos) (mFnI n j mf fs) := pe_w (pe_callG G hr hgd hg hm hk hb (pa_cons h1 ha he) hdb he hpl) fun σ H Q ⟨B, F, ρ, d, ρ', c, hf, q⟩ => by
  obtain ⟨ds0, g0, hf⟩ := with_inv hf
  obtain ⟨ds, ρ1, h2, hf⟩ := bind_inv hf
  obtain ⟨pds, g1, hf⟩ := with_inv hf
  split at hf
  · rename_i hl
    split at hf
    · rename_i d' pds' hg2
      cases hf
      obtain ⟨p0, vs0, e1, _⟩ := c.ownL hj g0
      refine ⟨.ref p0, e1, B, F, ρ, ds, ρ1, c, h2, fun us H1 F1 c1 l1 r1 => ?_⟩
      obtain ⟨p', pv, f1, f2, f3, f4⟩ := c1.ownL hj g1
      rw [e1] at f1
      cases f1
      refine ⟨F1, p0, pv, pds, us, ds, d, pds', rfl, c1.fo, f3, f2, f4, r1, hl, hg2, fun v H2 F2 pv' bt hp2 rp2 r2 => ?_⟩
      exact q v H2 F2 (c1.mut hj (own_get g1) e1 f2 f3 bt hp2 rp2) (l1.trans (bt.le c1.fo f3 f2 hp2)) r2
    · cases hf
  · cases hf
end

/-! ### while -/
section
variable {X : Cx} {ow : List Nat} {pos : Pos} {c : Expr} {body : List Stmt} {ft : Md Bool} {fb : Sm}
/-- with at most n turns -/
def mWhile (t : Md Bool) (b : Sm) : Nat → Sm
  | 0 => fun _ => none
  | n + 1 => mDo t fun k ρ => if k = true then match b ρ with
    | some (.nx ρ') => mWhile t b n ρ'
    | some (.ct ρ') => mWhile t b n ρ'
    | some (.bk ρ') => some (.nx ρ')
    | o => o
    else some (.nx ρ)
theorem s_while (n : Nat) (hp : PassesOwn (model X.prog X.w) X.A X.env X.xe) (hc : GT X ow c ft) (hb : GB X ow body fb) : GS X ow (.While c body [] pos) (mWhile ft fb n) := ps_w (ps_while hp hc hb) fun D σ H ⟨B, F, ρ, o, c, hf, a⟩ => by
  refine ⟨fun m σ H => ∃ F ρ, Cr X.K B ow σ H F ρ ∧ mWhile ft fb m ρ = some o ∧ Aft X.K B ow F H D o, ⟨n, F, ρ, c, hf, a⟩, fun m σ H ⟨F, ρ, c, hf, a⟩ => ?_⟩
  cases m with
  | zero => cases hf
  | succ m =>
    obtain ⟨k, ρ1, h1, hf⟩ := do_inv hf
    refine ⟨B, F, ρ, k, ρ1, c, h1, fun H1 F1 c1 l1 => ?_⟩
    cases k with
    | false =>
      rw [if_neg Bool.false_ne_true] at hf
      rw [if_neg Bool.false_ne_true]
      cases hf
      exact a σ H1 F1 c1 l1
    | true =>
      rw [if_pos rfl] at hf
      rw [if_pos rfl]
      refine ⟨fun σ' H' => ∃ F' ρ', Cr X.K B ow σ' H' F' ρ' ∧ mWhile ft fb m ρ' = some o ∧ Aft X.K B ow F' H' D o, fun σ' H' h => ⟨m, Nat.lt_succ_self m, h⟩, ?_⟩
      have a1 := a.le l1
      split at hf
      · rename_i ρ' e
        exact ⟨B, F1, ρ1, _, c1, e, fun σ' H' F' c' l' => ⟨F', ρ', c', hf, a1.le l'⟩⟩
      · rename_i ρ' e
        exact ⟨B, F1, ρ1, _, c1, e, fun σ' H' F' c' l' => ⟨F', ρ', c', hf, a1.le l'⟩⟩
      · rename_i ρ' e
        cases hf
        exact ⟨B, F1, ρ1, _, c1, e, fun σ' H' F' c' l' => a1 σ' H' F' c' l'⟩
      · rename_i h1 h2 h3
        refine ⟨B, F1, ρ1, o, c1, hf, ?_⟩
        cases o with
        | nx ρ' => exact absurd hf (h1 ρ')
        | ct ρ' => exact absurd hf (h2 ρ')
        | bk ρ' => exact absurd hf (h3 ρ')
        | rt d ρ' => exact a1
end

/-! ### what is walked -/
/-- J goes over data -/
def ItD (K : PySem.W.Frag) (J : It) (ds : List Da) (F1 : Frz) (H1 : Hp) : Prop := ∀ (i : Nat) (H : Hp) (F : Frz), Stay F1 H1 F H → Fo F H → (ds.length ≤ i → J.stop i H) ∧
  ∀ d, ds[i]? = some d → J.go i H ∧ ∀ x H', J.yld i H x H' → ∃ F', Gr F H F' H' ∧ Rp K H' F' x d
def tI (K : PySem.W.Frag) (ow : List Nat) (f : Md (List Da)) : TI := fun σ H R => ∃ B F ρ ds ρ', Cr K B ow σ H F ρ ∧ f ρ = some (ds, ρ') ∧ ∀ J H' F', Cr K B ow σ H' F' ρ' → Le F H F' H' → ItD K J ds F' H' → R J H'
abbrev GI (X : Cx) (ow : List Nat) (tg iter : Expr) (f : Md (List Da)) : Prop := PI X tg iter (tI X.K ow f)
section
variable {X : Cx} {ow : List Nat} {tg iter : Expr} {fe : Md Da} {fl : Md (List Da)}
theorem pi_w {t t' : TI} (h : PI X tg iter t) (w : ∀ σ H R, t' σ H R → t σ H R) : PI X tg iter t' := ⟨fun pins s σ H R I q => h.run pins s σ H R I (w σ H R q)⟩
theorem Stay.trans {F F1 F2 : Frz} {H H1 H2 : Hp} (a : Stay F H F1 H1) (b : Stay F1 H1 F2 H2) : Stay F H F2 H2 := fun x h => ⟨(b x (a x h).1).1, (b x (a x h).1).2.trans (a x h).2⟩
def asL : Da → Option (List Da)
  | .list ds => some ds
  | _ => none
def asT : Da → Option (List Da)
  | .tuple ds => some ds
  | _ => none
theorem asL_inv {d : Da} {ds : List Da} (h : asL d = some ds) : d = .list ds := by cases d <;> first | (cases h; rfl) | cases h
theorem asT_inv {d : Da} {ds : List Da} (h : asT d = some ds) : d = .tuple ds := by cases d <;> first | (cases h; rfl) | cases h
theorem it_list {K : PySem.W.Frag} {H1 : Hp} {F1 : Frz} {a : Addr} {vs : List V} {ds : List Da} (r : RL K H1 F1 a vs) (t : RpA K H1 F1 vs ds) : ItD K (Itl K a) ds F1 H1 := fun i H F st fo => by
  have r' := r.stay st
  have t' := t.st st
  refine ⟨fun h => ⟨vs, r'.sq, by rw [t.len]; exact h⟩, fun d hd => ?_⟩
  obtain ⟨v, h1, rv⟩ := t'.get hd
  refine ⟨⟨vs, v, r'.sq, h1⟩, fun x H' ⟨e, hx⟩ => ?_⟩
  subst e
  have e2 := hx vs r'.sq
  rw [h1] at e2
  cases e2
  exact ⟨F, Gr.refl fo, rv⟩
theorem it_tup {K : PySem.W.Frag} {H1 : Hp} {F1 : Frz} {a : Addr} {vs : List V} {ds : List Da} (r : RT K H1 F1 a vs) (t : RpA K H1 F1 vs ds) : ItD K (Itt K a) ds F1 H1 := fun i H F st fo => by
  have r' := r.stay st
  have t' := t.st st
  refine ⟨fun h => ⟨vs, r'.sq, by rw [t.len]; exact h⟩, fun d hd => ?_⟩
  obtain ⟨v, h1, rv⟩ := t'.get hd
  refine ⟨⟨vs, v, r'.sq, h1⟩, fun x H' ⟨e, hx⟩ => ?_⟩
  subst e
  have e2 := hx vs r'.sq
  rw [h1] at e2
  cases e2
  exact ⟨F, Gr.refl fo, rv⟩
theorem i_list (h : GE X ow iter fe) : GI X ow tg iter (mBind fe fun d => mOpt (asL d)) := pi_w (pi_list h) fun σ H R ⟨B, F, ρ, ds, ρ', c, hf, q⟩ => by
  obtain ⟨d, ρ1, h1, hf⟩ := bind_inv hf
  obtain ⟨hg, rfl⟩ := opt_inv hf
  have e := asL_inv hg
  subst e
  refine ⟨B, F, ρ, _, _, c, h1, fun v H1 F1 c1 l1 r1 => ?_⟩
  obtain ⟨a, vs, rfl, r, t⟩ := r1.list_inv
  exact ⟨a, rfl, ⟨vs, r.sq⟩, q _ H1 F1 c1 l1 (it_list r t)⟩
theorem i_tup (h : GE X ow iter fe) : GI X ow tg iter (mBind fe fun d => mOpt (asT d)) := pi_w (pi_tup h) fun σ H R ⟨B, F, ρ, ds, ρ', c, hf, q⟩ => by
  obtain ⟨d, ρ1, h1, hf⟩ := bind_inv hf
  obtain ⟨hg, rfl⟩ := opt_inv hf
  have e := asT_inv hg
  subst e
  refine ⟨B, F, ρ, _, _, c, h1, fun v H1 F1 c1 l1 r1 => ?_⟩
  obtain ⟨a, vs, rfl, r, t⟩ := r1.tup_inv
  exact ⟨a, rfl, ⟨vs, r.sq⟩, q _ H1 F1 c1 l1 (it_tup r t)⟩
def rngD (lo n : Int) : List Da := (List.range (n - lo).toNat).map fun (i : Nat) => .int (lo + (i : Int))
theorem it_rng {K : PySem.W.Frag} {H1 : Hp} {F1 : Frz} (lo n : Int) : ItD K (Itr lo (n - lo).toNat) (rngD lo n) F1 H1 := fun i H F st fo => by
  have hl : (rngD lo n).length = (n - lo).toNat := by unfold rngD; rw [List.length_map, List.length_range]
  refine ⟨fun h => by rw [hl] at h; exact h, fun d hd => ?_⟩
  have hi : i < (n - lo).toNat := by rw [← hl]; exact (List.getElem?_eq_some_iff.mp hd).1
  have e : d = .int (lo + (i : Int)) := by
    unfold rngD at hd
    rw [List.getElem?_map, List.getElem?_range hi] at hd
    exact (Option.some.inj hd).symm
  subst e
  refine ⟨hi, fun x H' ⟨e1, e2⟩ => ?_⟩
  subst e1 e2
  exact ⟨F, Gr.refl fo, .int _⟩
def rng1 : List Da → Option (List Da)
  | [.int n] => if -100000 ≤ n ∧ n ≤ 100000 then some (rngD 0 n) else none
  | _ => none
def rng2 : List Da → Option (List Da)
  | [.int lo, .int n] => if -100000 ≤ lo ∧ lo ≤ 100000 ∧ -100000 ≤ n ∧ n ≤ 100000 then some (rngD lo n) else none
  | _ => none
theorem i_rng1 {a : Expr} {p pos : Pos} (hg : Gl X "range") (hm : X.mg "range" = none) (ha : GA X ow [a] fl) (hs : starEach [a] X.env = [(false, eval a X.env)] := by rfl) : GI X ow tg (.Call (.Name "range" p) [a] [] pos) (mBind fl fun ds => mOpt (rng1 ds)) :=
  pi_w (pi_range1 hg hm ha hs) fun σ H R ⟨B, F, ρ, ds, ρ', c, hf, q⟩ => by
  obtain ⟨es, ρ1, h1, hf⟩ := bind_inv hf
  obtain ⟨hg, rfl⟩ := opt_inv hf
  unfold rng1 at hg
  split at hg
  · rename_i n
    split at hg
    · rename_i hz
      cases hg
      refine ⟨B, F, ρ, _, _, c, h1, fun vs H1 F1 c1 l1 r1 => ?_⟩
      cases r1 with
      | cons r t =>
        cases t
        have e := r.int_inv
        subst e
        refine ⟨n, rfl, by omega, by omega, ?_⟩
        have it := it_rng (K := X.K) (H1 := H1) (F1 := F1) 0 n
        rw [Int.sub_zero] at it
        exact q _ H1 F1 c1 l1 it
    · cases hg
  · cases hg
theorem i_rng2 {a b : Expr} {p pos : Pos} (hg : Gl X "range") (hm : X.mg "range" = none) (ha : GA X ow [a, b] fl) (hs : starEach [a, b] X.env = [(false, eval a X.env), (false, eval b X.env)] := by rfl) (hs2 : starEach [b] X.env = [(false, eval b X.env)] := by rfl) :
    GI X ow tg (.Call (.Name "range" p) [a, b] [] pos) (mBind fl fun ds => mOpt (rng2 ds)) := pi_w (pi_range2 hg hm ha hs hs2) fun σ H R ⟨B, F, ρ, ds, ρ', c, hf, q⟩ => by
  obtain ⟨es, ρ1, h1, hf⟩ := bind_inv hf
  obtain ⟨hg, rfl⟩ := opt_inv hf
  unfold rng2 at hg
  split at hg
  · rename_i lo n
    split at hg
    · rename_i hz
      cases hg
      refine ⟨B, F, ρ, _, _, c, h1, fun vs H1 F1 c1 l1 r1 => ?_⟩
      cases r1 with
      | cons r t =>
        cases t with
        | cons r' t' =>
          cases t'
          have e := r.int_inv
          have e' := r'.int_inv
          subst e e'
          exact ⟨lo, n, rfl, by omega, q _ H1 F1 c1 l1 (it_rng lo n)⟩
    · cases hg
  · cases hg
end
end Mir

set_option Elab.async false
set_option linter.all false
set_option maxRecDepth 100000
set_option maxHeartbeats 2000000
namespace Mir
open PySem L2

/-! ### targets -/
def Else (ts : List Nat) (σ σ' : L2.St) : Prop := σ'.length = σ.length ∧ ∀ i, i ∉ ts → σ'[i]? = σ[i]?
theorem Else.refl (ts : List Nat) (σ : L2.St) : Else ts σ σ := ⟨rfl, fun _ _ => rfl⟩
theorem Else.trans {ts us : List Nat} {σ σ1 σ2 : L2.St} (a : Else ts σ σ1) (b : Else us σ1 σ2) : Else (ts ++ us) σ σ2 := ⟨b.1.trans a.1, fun i h => by
  rw [List.mem_append, not_or] at h
  exact (b.2 i h.2).trans (a.2 i h.1)⟩
def gOf (K : PySem.W.Frag) (ow : List Nat) (ts : List Nat) (ft : Da → Sto → Option Sto) : TG := fun v σ H Q => ∃ B F ρ d ρ', Cr K B ow σ H F ρ ∧ Rp K H F v d ∧ ft d ρ = some ρ' ∧ ∀ σ', Cr K B ow σ' H F ρ' → Else ts σ σ' → Q σ' H
def gsOf (K : PySem.W.Frag) (ow : List Nat) (ts : List Nat) (ft : List Da → Sto → Option Sto) : TGs := fun vs σ H Q => ∃ B F ρ ds ρ', Cr K B ow σ H F ρ ∧ RpA K H F vs ds ∧ ft ds ρ = some ρ' ∧ ∀ σ', Cr K B ow σ' H F ρ' → Else ts σ σ' → Q σ' H
abbrev GG (X : Cx) (ow : List Nat) (tg : Expr) (ts : List Nat) (ft : Da → Sto → Option Sto) : Prop := PG X tg (gOf X.K ow ts ft)
abbrev GGs (X : Cx) (ow : List Nat) (tgs : List Expr) (ts : List Nat) (ft : List Da → Sto → Option Sto) : Prop := PGs X tgs (gsOf X.K ow ts ft)
def fName (i : Nat) : Da → Sto → Option Sto := fun d ρ => some (ρ.set i (some d))
def fNil : List Da → Sto → Option Sto
  | [], ρ => some ρ
  | _, _ => none
def fCons (f : Da → Sto → Option Sto) (g : List Da → Sto → Option Sto) : List Da → Sto → Option Sto
  | d :: ds, ρ => match f d ρ with
    | some ρ' => g ds ρ'
    | none => none
  | [], _ => none
def fTup (n : Nat) (g : List Da → Sto → Option Sto) : Da → Sto → Option Sto := fun d ρ => match asT d with
  | some ds => if ds.length = n then g ds ρ else none
  | none => none
section
variable {X : Cx} {ow : List Nat} {e : Expr} {es : List Expr} {pos : Pos} {ts us : List Nat} {f : Da → Sto → Option Sto} {g : List Da → Sto → Option Sto}
theorem pg_w {t t' : TG} (h : PG X e t) (w : ∀ v σ H Q, t' v σ H Q → t v σ H Q) : PG X e t' := ⟨fun pins s σ H v u Q I r q => h.run pins s σ H v u Q I r (w v σ H Q q)⟩
theorem pgs_w {t t' : TGs} (h : PGs X es t) (w : ∀ v σ H Q, t' v σ H Q → t v σ H Q) : PGs X es t' := ⟨fun pins s σ H v u Q I r q => h.run pins s σ H v u Q I r (w v σ H Q q)⟩
theorem g_name {i : Nat} (h : PG X e (gName i)) (hi : i ∉ ow) : GG X ow e [i] (fName i) := pg_w h fun v σ H Q ⟨B, F, ρ, d, ρ', c, r, hf, q⟩ => by
  cases hf
  refine q _ (c.set r hi) ⟨List.length_set .., fun j hj => ?_⟩
  rw [List.mem_singleton] at hj
  exact List.getElem?_set_ne (Ne.symm hj)
theorem gs_nil : GGs X ow [] [] fNil := pgs_w pgs_nil fun v σ H Q ⟨B, F, ρ, d, ρ', c, r, hf, q⟩ => by
  cases r with
  | nil =>
    cases hf
    exact ⟨rfl, q σ c (Else.refl _ _)⟩
  | cons a b => cases hf
theorem gs_cons (h1 : GG X ow e ts f) (h2 : GGs X ow es us g) (hs : (assignEach (e :: es) X.env).map (·.2) = assign e X.env :: (assignEach es X.env).map (·.2) := by rfl) : GGs X ow (e :: es) (ts ++ us) (fCons f g) := pgs_w (pgs_cons h1 h2 hs) fun v σ H Q ⟨B, F, ρ, d, ρ', c, r, hf, q⟩ => by
  cases r with
  | nil => cases hf
  | cons a b =>
    simp only [fCons] at hf
    split at hf
    · rename_i ρ1 h
      exact ⟨_, _, rfl, B, F, ρ, _, ρ1, c, a, h, fun σ1 c1 e1 => ⟨B, F, ρ1, _, ρ', c1, b, hf, fun σ2 c2 e2 => q σ2 c2 (e1.trans e2)⟩⟩
    · cases hf
theorem g_tup {k n : Nat} (hc : X.calm = true) (h : GGs X ow es ts g) (hn : (assignEach es X.env).length = n := by rfl) (hst : (assignEach es X.env).findIdx? (·.1) = none := by rfl) : GG X ow (.Tuple es k pos) ts (fTup n g) := pg_w (pg_tup hc h hn hst) fun v σ H Q ⟨B, F, ρ, d, ρ', c, r, hf, q⟩ => by
  unfold fTup at hf
  split at hf
  · rename_i ds hd
    have e := asT_inv hd
    subst e
    split at hf
    · rename_i hl
      obtain ⟨a, vs, e1, rt, t⟩ := r.tup_inv
      exact ⟨a, vs, e1, rt.sq, t.len.trans hl, B, F, ρ, _, ρ', c, t, hf, q⟩
    · cases hf
  · cases hf

/-! ### for -/
def mForL (ft : Da → Sto → Option Sto) (b : Sm) : List Da → Sm
  | [], ρ => some (.nx ρ)
  | d :: ds, ρ => match ft d ρ with
    | none => none
    | some ρ1 => match b ρ1 with
      | some (.nx ρ') => mForL ft b ds ρ'
      | some (.ct ρ') => mForL ft b ds ρ'
      | some (.bk ρ') => some (.nx ρ')
      | o => o
def mFor (fi : Md (List Da)) (ft : Da → Sto → Option Sto) (b : Sm) : Sm := mDo fi fun ds ρ => mForL ft b ds ρ
theorem drop_get {α : Type} {l : List α} {i : Nat} (h : i < l.length) : ∃ d, l[i]? = some d ∧ l.drop i = d :: l.drop (i + 1) := ⟨l[i], List.getElem?_eq_getElem h, List.drop_eq_getElem_cons h⟩
theorem s_for {tg iter : Expr} {body : List Stmt} {fi : Md (List Da)} {fb : Sm} (hp : PassesOwn (model X.prog X.w) X.A X.env X.xe) (hc : X.calm = true) (hi : GI X ow tg iter fi) (hg : GG X ow tg ts f) (hb : GB X ow body fb)
    (hs : ∀ x, foldedSetIterable iter X.env x = pure x := by intro _; rfl) : GS X ow (.For tg iter body [] pos) (mFor fi f fb) := ps_w (ps_for hp hc hi hg hb hs) fun D σ H ⟨B, F, ρ, o, c, hf, a⟩ => by
  obtain ⟨ds, ρ1, h1, hf⟩ := do_inv hf
  refine ⟨B, F, ρ, ds, ρ1, c, h1, fun J H1 F1 c1 l1 it => ?_⟩
  refine ⟨fun i m σ H => ∃ F ρ, Cr X.K B ow σ H F ρ ∧ Le F1 H1 F H ∧ m = ds.length - i ∧ i ≤ ds.length ∧ mForL f fb (ds.drop i) ρ = some o ∧ Aft X.K B ow F H D o, ⟨ds.length, F1, ρ1, c1, Le.refl, rfl, Nat.zero_le _, hf, a.le l1⟩, ?_⟩
  rintro i m σ H ⟨F, ρ, c, l, rfl, hi, hf, a⟩
  obtain ⟨stop, go⟩ := it i H F l.st c.fo
  by_cases hlt : i < ds.length
  · obtain ⟨d, hd, hdr⟩ := drop_get hlt
    rw [hdr] at hf
    obtain ⟨g1, g2⟩ := go d hd
    refine .inr ⟨g1, fun σ' H' => ∃ F' ρ', Cr X.K B ow σ' H' F' ρ' ∧ Le F1 H1 F' H' ∧ mForL f fb (ds.drop (i + 1)) ρ' = some o ∧ Aft X.K B ow F' H' D o, fun σ' H' ⟨F', ρ', c', l', hf', a'⟩ => ⟨ds.length - (i + 1), by omega, F', ρ', c', l', rfl, hlt, hf', a'⟩, fun x H' y => ?_⟩
    obtain ⟨F', gr, rx⟩ := g2 x H' y
    have c' := c.grow gr
    have l' := l.trans (gr.le c.fo)
    have a' := a.le (gr.le c.fo)
    unfold mForL at hf
    split at hf
    · cases hf
    · rename_i ρ2 ht
      refine ⟨B, F', ρ, d, ρ2, c', rx, ht, fun σ2 c2 _ => ?_⟩
      split at hf
      · rename_i ρ3 e
        exact ⟨B, F', ρ2, _, c2, e, fun σ3 H3 F3 c3 l3 => ⟨F3, ρ3, c3, l'.trans l3, hf, a'.le l3⟩⟩
      · rename_i ρ3 e
        exact ⟨B, F', ρ2, _, c2, e, fun σ3 H3 F3 c3 l3 => ⟨F3, ρ3, c3, l'.trans l3, hf, a'.le l3⟩⟩
      · rename_i ρ3 e
        cases hf
        exact ⟨B, F', ρ2, _, c2, e, fun σ3 H3 F3 c3 l3 => a' σ3 H3 F3 c3 l3⟩
      · rename_i h1 h2 h3
        refine ⟨B, F', ρ2, o, c2, hf, ?_⟩
        cases o with
        | nx ρ' => exact absurd hf (h1 ρ')
        | ct ρ' => exact absurd hf (h2 ρ')
        | bk ρ' => exact absurd hf (h3 ρ')
        | rt d ρ' => exact a'
  · have e : i = ds.length := by omega
    subst e
    rw [List.drop_length] at hf
    cases hf
    exact .inl ⟨stop (Nat.le_refl _), a σ H F c Le.refl⟩
/-- a, b = .. -/
def mAsg (fe : Md Da) (ft : Da → Sto → Option Sto) : Sm := mDo fe fun d ρ => match ft d ρ with
  | some ρ' => some (.nx ρ')
  | none => none
theorem s_asg {tg : Expr} {fe : Md Da} (he : GE X ow e fe) (hg : GG X ow tg ts f) (hs : swapsWithSole [tg] e pos.line X.env = pure false := by rfl) (hw : swappedStores [tg] e X.env = pure none := by rfl)
    (h1 : (assignEach [tg] X.env).map (·.2) = [assign tg X.env] := by rfl) : GS X ow (.Assign [tg] e pos) (mAsg fe f) := ps_w (ps_asg he hg hs hw h1) fun D σ H ⟨B, F, ρ, o, c, hf, a⟩ => by
  obtain ⟨d, ρ1, h1, hf⟩ := do_inv hf
  split at hf
  · rename_i ρ2 h2
    cases hf
    exact ⟨B, F, ρ, d, ρ1, c, h1, fun v H1 F1 c1 l1 r1 => ⟨B, F1, ρ1, d, ρ2, c1, r1, h2, fun σ' c' _ => a σ' H1 F1 c' l1⟩⟩
  · cases hf
/-- x, y = a, b with plain local names -/
def mPar (i j : Nat) (fs : Md (List Da)) : Sm := mDo fs fun ds ρ => match ds with
  | [x, y] => some (.nx ((ρ.set i (some x)).set j (some y)))
  | _ => none
theorem s_par {i j : Nat} {fs : Md (List Da)} {st : Stmt} (h : PS X st (tPar i j (tA X.K ow fs))) (hi : i ∉ ow) (hj : j ∉ ow) : GS X ow st (mPar i j fs) := ps_w h fun D σ H ⟨B, F, ρ, o, c, hf, a⟩ => by
  obtain ⟨ds, ρ1, h1, hf⟩ := do_inv hf
  split at hf
  · cases hf
    refine ⟨B, F, ρ, _, ρ1, c, h1, fun vs H1 F1 c1 l1 r1 => ?_⟩
    cases r1 with
    | cons r t =>
      cases t with
      | cons r' t' =>
        cases t'
        exact ⟨_, _, rfl, a _ H1 F1 ((c1.set r hi).set r' hj) l1⟩
  · cases hf

/-! ### comprehensions -/
def wipeS (ρ : Sto) : List Nat → Sto
  | [] => ρ
  | v :: vs => (wipeS ρ vs).set v none
theorem wipe_get (σ : L2.St) : ∀ (vs : List Nat) (i : Nat), (wipe σ vs)[i]? = if i ∈ vs then (if i < σ.length then some none else none) else σ[i]?
  | [], i => by simp [wipe]
  | v :: vs, i => by
    unfold wipe
    by_cases e : v = i
    · subst e
      rw [if_pos List.mem_cons_self]
      by_cases h : v < σ.length
      · rw [if_pos h, List.getElem?_set_self (by rw [wipe_length]; exact h)]
      · rw [if_neg h, List.getElem?_eq_none (by rw [List.length_set, wipe_length]; omega)]
    · rw [List.getElem?_set_ne e, wipe_get σ vs i]
      by_cases h : i ∈ vs
      · rw [if_pos h, if_pos (List.mem_cons_of_mem _ h)]
      · rw [if_neg h, if_neg (fun z => (List.mem_cons.mp z).elim (fun z => e z.symm) h)]
theorem Else.wipe {ts vs : List Nat} {σ σ' : L2.St} (h : Else ts (wipe σ vs) σ') (hs : ∀ t ∈ ts, t ∈ vs) : wipe σ' vs = wipe σ vs := by
  apply List.ext_getElem?
  intro i
  rw [wipe_get, wipe_get, h.1, wipe_length]
  by_cases hi : i ∈ vs
  · rw [if_pos hi, if_pos hi]
  · rw [if_neg hi, if_neg hi, h.2 i (fun z => hi (hs i z)), wipe_get, if_neg hi]
theorem Cr.wipe {K : PySem.W.Frag} {B : Bs} {σ : L2.St} {H : Hp} {F : Frz} {ρ : Sto} (c : Cr K B ow σ H F ρ) : ∀ vs : List Nat, (∀ v ∈ vs, v ∉ ow) → Cr K B ow (L2.wipe σ vs) H F (wipeS ρ vs)
  | [], _ => c
  | v :: vs, h => (Cr.wipe c vs fun u hu => h u (List.mem_cons_of_mem _ hu)).wipe1 (h v List.mem_cons_self)
/-- the store behind a comprehension: its own names as before it -/
def restS (ρ0 ρ : Sto) : List Nat → Sto
  | [] => ρ
  | v :: vs => (restS ρ0 ρ vs).set v ((ρ0[v]?).getD none)
theorem restS_len (ρ0 ρ : Sto) : ∀ vs : List Nat, (restS ρ0 ρ vs).length = ρ.length
  | [] => rfl
  | v :: vs => by unfold restS; rw [List.length_set, restS_len ρ0 ρ vs]
theorem restS_get (ρ0 ρ : Sto) : ∀ (vs : List Nat) (i : Nat) (d : Da), (restS ρ0 ρ vs)[i]? = some (some d) → (i ∈ vs ∧ ρ0[i]? = some (some d)) ∨ (i ∉ vs ∧ ρ[i]? = some (some d))
  | [], i, d, h => .inr ⟨by simp, h⟩
  | v :: vs, i, d, h => by
    unfold restS at h
    rcases set_get h with ⟨e, e2, _⟩ | ⟨n, h⟩
    · subst e
      refine .inl ⟨List.mem_cons_self, ?_⟩
      cases q : ρ0[i]? with
      | none => rw [q] at e2; cases e2
      | some x => rw [q] at e2; exact congrArg some e2
    · rcases restS_get ρ0 ρ vs i d h with ⟨h1, h2⟩ | ⟨h1, h2⟩
      · exact .inl ⟨List.mem_cons_of_mem _ h1, h2⟩
      · exact .inr ⟨fun z => (List.mem_cons.mp z).elim n h1, h2⟩
theorem restS_ow (ρ0 ρ : Sto) : ∀ (vs : List Nat) (i : Nat), i ∉ vs → (restS ρ0 ρ vs)[i]? = ρ[i]?
  | [], _, _ => rfl
  | v :: vs, i, h => by
    unfold restS
    rw [List.getElem?_set_ne (fun z => h (by rw [z]; exact List.mem_cons_self)), restS_ow ρ0 ρ vs i fun z => h (List.mem_cons_of_mem _ z)]
/-- the block's store and the store ahead of it, together -/
theorem Cr.rest {K : PySem.W.Frag} {B : Bs} {σ : L2.St} {H H' : Hp} {F F' : Frz} {ρ ρ' : Sto} {vs : List Nat} (c : Cr K B ow σ H F ρ) (c' : Cr K B ow (L2.wipe σ vs) H' F' ρ') (l : Le F H F' H') (hv : ∀ v ∈ vs, v ∉ ow) : Cr K B ow σ H' F' (restS ρ ρ' vs) := by
  have look : ∀ i v, (L2.wipe σ vs)[i]? = some (some v) → i ∉ vs ∧ σ[i]? = some (some v) := fun i v h => by
    have h2 := wipe_some h
    exact ⟨h2.2, h2.1⟩
  refine ⟨by rw [restS_len, ← c'.len, wipe_length], fun i d h1 h2 => ?_, fun i d h1 h2 => ?_, fun i j p hi hj n ⟨d, hd⟩ ⟨e, he⟩ e1 => ?_, c'.fo, c'.b1, c'.b2, c'.b3, fun p hp => ?_⟩
  · rcases restS_get ρ ρ' vs i d h1 with ⟨_, g⟩ | ⟨_, g⟩
    · obtain ⟨v, e, r⟩ := c.sl i d g h2
      exact ⟨v, e, r.st l.st⟩
    · obtain ⟨v, e, r⟩ := c'.sl i d g h2
      exact ⟨v, (look i v e).2, r⟩
  · rcases restS_get ρ ρ' vs i d h1 with ⟨g0, _⟩ | ⟨_, g⟩
    · exact absurd h2 (hv i g0)
    · obtain ⟨p, ds, us, f1, f2, f3⟩ := c'.lo i d g h2
      exact ⟨p, ds, us, f1, (look i _ f2).2, f3⟩
  · have gd : (ρ')[i]? = some (some d) := by
      rcases restS_get ρ ρ' vs i d hd with ⟨g0, _⟩ | ⟨_, g⟩
      · exact absurd hi (hv i g0)
      · exact g
    have ge : (ρ')[j]? = some (some e) := by
      rcases restS_get ρ ρ' vs j e he with ⟨g0, _⟩ | ⟨_, g⟩
      · exact absurd hj (hv j g0)
      · exact g
    have ni : i ∉ vs := fun z => hv i z hi
    have nj : j ∉ vs := fun z => hv j z hj
    have q := c'.dj i j p hi hj n ⟨d, gd⟩ ⟨e, ge⟩
    rw [wipe_get, wipe_get, if_neg ni, if_neg nj] at q
    exact q e1
  · obtain ⟨h0, h1, d, h2⟩ := c'.pn p hp
    refine ⟨h0, (look 0 _ h1).2, d, ?_⟩
    rw [restS_ow ρ ρ' vs 0 fun z => hv 0 z h0]
    exact h2
/-- one more thing that stays -/
def Bs.plus (B : Bs) (a : Addr) (o : HO) : Bs := ⟨upd B.H a o, B.F, B.pen⟩
theorem Cr.plus {K : PySem.W.Frag} {B : Bs} {σ : L2.St} {H : Hp} {F : Frz} {ρ : Sto} {a : Addr} {o : HO} (c : Cr K B ow σ H F ρ) (ha : H a = some o) (nf : ¬ F a) (nb : B.H a = none) (hn : ∀ i d, ρ[i]? = some (some d) → i ∈ ow → σ[i]? ≠ some (some (.ref a))) : Cr K (B.plus a o) ow σ H F ρ := by
  refine ⟨c.len, c.sl, fun i d h1 h2 => ?_, c.dj, c.fo, fun b u e => ?_, c.b2, fun b fb => ?_, c.pn⟩
  · obtain ⟨p, ds, vs, e1, e2, e3, e4, e5, e6⟩ := c.lo i d h1 h2
    refine ⟨p, ds, vs, e1, e2, e3, e4, ?_, e6⟩
    rcases e5 with z | z
    · exact .inl z
    · refine .inr ?_
      show upd B.H a o p = none
      rw [upd_ne (fun z2 => hn i d h1 h2 (by rw [z2] at e2; exact e2))]
      exact z
  · have e' : upd B.H a o b = some u := e
    by_cases q : b = a
    · subst q
      rw [upd_same] at e'
      cases e'
      exact .inr ha
    · rw [upd_ne q] at e'
      exact c.b1 b u e'
  · rcases c.b3 b fb with z | z
    · exact .inl z
    · refine .inr ?_
      show upd B.H a o b = none
      rw [upd_ne (fun z2 => nf (by rw [z2] at fb; exact fb))]
      exact z
theorem Cr.minus {K : PySem.W.Frag} {B : Bs} {σ : L2.St} {H : Hp} {F : Frz} {ρ : Sto} {a : Addr} {o : HO} (c : Cr K (B.plus a o) ow σ H F ρ) (nb : B.H a = none) (np : B.pen ≠ some a) (nf : ¬ B.F a) :
    Cr K B ow σ H F ρ ∧ H a = some o ∧ ¬ F a ∧ ∀ i d, ρ[i]? = some (some d) → i ∈ ow → σ[i]? ≠ some (some (.ref a)) := by
  have sub : ∀ b, upd B.H a o b = none → B.H b = none ∧ b ≠ a := fun b e => by
    by_cases q : b = a
    · rw [q, upd_same] at e; cases e
    · rw [upd_ne q] at e; exact ⟨e, q⟩
  refine ⟨⟨c.len, c.sl, fun i d h1 h2 => ?_, c.dj, c.fo, fun b u e => ?_, c.b2, fun b fb => ?_, c.pn⟩, ?_, fun z => ?_, fun i d h1 h2 z => ?_⟩
  · obtain ⟨p, ds, vs, e1, e2, e3, e4, e5, e6⟩ := c.lo i d h1 h2
    exact ⟨p, ds, vs, e1, e2, e3, e4, e5.imp id fun z => (sub p z).1, e6⟩
  · refine c.b1 b u ?_
    show upd B.H a o b = some u
    rw [upd_ne (fun z => by rw [z, nb] at e; cases e)]
    exact e
  · exact (c.b3 b fb).imp id fun z => (sub b z).1
  · rcases c.b1 a o upd_same with z | z
    · exact absurd z np
    · exact z
  · rcases c.b3 a z with y | y
    · exact nf y
    · exact (sub a y).2 rfl
  · obtain ⟨p, ds, vs, e1, e2, e3, e4, e5, e6⟩ := c.lo i d h1 h2
    rw [e2] at z
    cases z
    rcases e5 with y | y
    · exact np y
    · exact (sub a y).2 rfl
/-- the turns of a comprehension -/
def mLcL (ft : Da → Sto → Option Sto) (tt : Md Bool) (te : Md Da) (vs : List Nat) : List Da → List Da → Sto → Option (List Da × Sto)
  | [], acc, ρ => some (acc, ρ)
  | d :: ds, acc, ρ => match ft d ρ with
    | none => none
    | some ρ1 => match tt ρ1 with
      | none => none
      | some (false, ρ2) => mLcL ft tt te vs ds acc (wipeS ρ2 vs)
      | some (true, ρ2) => match te ρ2 with
        | none => none
        | some (y, ρ3) => if acc.length < 100000 then mLcL ft tt te vs ds (acc ++ [y]) (wipeS ρ3 vs) else none
def mLc (fi : Md (List Da)) (ft : Da → Sto → Option Sto) (tt : Md Bool) (te : Md Da) (vs : List Nat) : Md (List Da) := mBind fi fun ds ρ => match mLcL ft tt te vs ds [] (wipeS ρ vs) with
  | some (out, ρ') => some (out, restS ρ ρ' vs)
  | none => none
theorem lc_go {fi : Md (List Da)} {tt : Md Bool} {te : Md Da} {vs : List Nat} (hv : ∀ v ∈ vs, v ∉ ow) (hts : ∀ t ∈ ts, t ∈ vs) (σ : L2.St) (H : Hp) (Q : VK) (h : tL X.K ow (mLc fi f tt te vs) σ H Q) :
    tLc (tI X.K ow fi) (gOf X.K ow ts f) (tT X.K ow tt) (tE X.K ow te) vs σ H Q := by
  obtain ⟨B, F, ρ, out, ρ', c, hf, q⟩ := h
  obtain ⟨ds, ρ1, h1, hf⟩ := bind_inv hf
  refine ⟨B, F, ρ, ds, ρ1, c, h1, fun J H1 F1 c1 l1 it => ?_⟩
  intro D nD
  split at hf
  case h_2 => cases hf
  rename_i out' ρe he
  cases hf
  have nb := c1.new nD
  have nF : ¬ F1 D := fun z => c1.fo D z nD
  have nBF : ¬ B.F D := fun z => nF (c1.b2 D z)
  have np : B.pen ≠ some D := fun z => by
    obtain ⟨g0, g1, d, g2⟩ := c1.pn D z
    exact c1.away nD 0 d g2 g0 g1
  have g0 := Gr.new0 (o := .lst []) c1.fo nD
  have cw := (c1.grow g0).wipe vs hv
  refine ⟨fun i m H => ∃ F ρ acc vacc, Cr X.K B ow (wipe σ vs) H F ρ ∧ Le F1 H1 F H ∧ m = ds.length - i ∧ i ≤ ds.length ∧ H D = some (.lst vacc) ∧ ¬ F D ∧ (∀ i d, ρ[i]? = some (some d) → i ∈ ow → (wipe σ vs)[i]? ≠ some (some (.ref D))) ∧ RpA X.K H F vacc acc ∧
      mLcL f tt te vs (ds.drop i) acc ρ = some (out, ρe), ⟨ds.length, F1, wipeS ρ1 vs, [], [], cw, g0.le c1.fo, rfl, Nat.zero_le _, upd_same, nF, ?_, .nil, he⟩, ?_⟩
  · intro i d hd hi
    exact (c1.wipe vs hv).away nD i d hd hi
  rintro i m H2 ⟨F2, ρ2, acc, vacc, c2, l2, rfl, hi, hD, nf2, hn2, ra, hg⟩
  obtain ⟨stop, go⟩ := it i H2 F2 l2.st c2.fo
  by_cases hlt : i < ds.length
  · obtain ⟨d, hd, hdr⟩ := drop_get hlt
    rw [hdr] at hg
    obtain ⟨go1, go2⟩ := go d hd
    refine .inr ⟨go1, fun H' => ∃ F' ρ' acc' vacc', Cr X.K B ow (wipe σ vs) H' F' ρ' ∧ Le F1 H1 F' H' ∧ H' D = some (.lst vacc') ∧ ¬ F' D ∧ (∀ i d, ρ'[i]? = some (some d) → i ∈ ow → (wipe σ vs)[i]? ≠ some (some (.ref D))) ∧ RpA X.K H' F' vacc' acc' ∧
        mLcL f tt te vs (ds.drop (i + 1)) acc' ρ' = some (out, ρe), fun H' ⟨F', ρ', acc', vacc', c', l', a1, a2, a3, a4, a5⟩ => ⟨ds.length - (i + 1), by omega, F', ρ', acc', vacc', c', l', rfl, hlt, a1, a2, a3, a4, a5⟩, fun x H' y => ?_⟩
    obtain ⟨F3, gr, rx⟩ := go2 x H' y
    have nf3 : ¬ F3 D := fun z => by
      rcases gr.nw D z with z | z
      · exact nf2 z
      · rw [hD] at z; cases z
    have c3 := (c2.grow gr).plus (gr.ex D _ hD) nf3 nb hn2
    have ra3 := ra.st (gr.stay c2.fo)
    have l3 := l2.trans (gr.le c2.fo)
    unfold mLcL at hg
    split at hg
    · cases hg
    · rename_i ρ3 ht
      refine ⟨B.plus D (.lst vacc), F3, ρ2, d, ρ3, c3, rx, ht, fun σ4 c4 el => ?_⟩
      have ew := el.wipe hts
      refine ⟨ew, ?_⟩
      split at hg
      · cases hg
      · rename_i ρ5 h5
        refine ⟨_, F3, ρ3, false, ρ5, c4, h5, fun H5 F5 c5 l5 => ?_⟩
        refine iteF ?_
        obtain ⟨c6, a1, a2, a3⟩ := (c5.wipe vs hv).minus nb np nBF
        rw [ew] at c6 a3
        exact ⟨F5, _, acc, vacc, c6, l3.trans l5, a1, a2, a3, ra3.st l5.st, hg⟩
      · rename_i ρ5 h5
        refine ⟨_, F3, ρ3, true, ρ5, c4, h5, fun H5 F5 c5 l5 => ?_⟩
        refine iteT ?_
        split at hg
        · cases hg
        · rename_i y ρ6 h6
          split at hg
          · rename_i hz
            refine ⟨_, F5, ρ5, y, ρ6, c5, h6, fun v H6 F6 c6 l6 r6 => ?_⟩
            obtain ⟨c7, a1, a2, a3⟩ := (c6.wipe vs hv).minus nb np nBF
            rw [ew] at c7 a3
            have l56 := l3.trans (l5.trans l6)
            have ra6 := ra3.st (l5.trans l6).st
            refine ⟨vacc, a1, by rw [ra6.len]; exact Evl.sz_lt hz, ?_⟩
            have up := But.upd (vs' := vacc ++ [v]) c7.fo a1
            have le := up.le c7.fo a2 a1 upd_same
            have c8 : Cr X.K B ow (wipe σ vs) (upd H6 D (.lst (vacc ++ [v]))) F6 (wipeS ρ6 vs) := by
              refine ⟨c7.len, fun i d h1 h2 => ?_, fun i d h1 h2 => ?_, c7.dj, up.fo, fun a o e => ?_, c7.b2, c7.b3, c7.pn⟩
              · obtain ⟨u, e, r⟩ := c7.sl i d h1 h2
                exact ⟨u, e, r.st le.st⟩
              · obtain ⟨p, es, us, e1, e2, e3, e4, e5, e6⟩ := c7.lo i d h1 h2
                exact ⟨p, es, us, e1, e2, up.ex p _ (fun z => a3 i d h1 h2 (z ▸ e2)) e3, e4, e5, e6.st le.st⟩
              · rcases c7.b1 a o e with z | z
                · exact .inl z
                · exact .inr (up.ex a o (fun w => by rw [w, nb] at e; cases e) z)
            exact ⟨F6, _, acc ++ [y], vacc ++ [v], c8, l56.trans le, upd_same, a2, a3, (ra6.st le.st).app (RpA.one (r6.st le.st)), hg⟩
          · cases hg
  · have e : i = ds.length := by omega
    subst e
    rw [List.drop_length] at hg
    cases hg
    refine .inl ⟨stop (Nat.le_refl _), ?_⟩
    have cr := c1.rest c2 l2 hv
    refine q D vacc H2 F2 cr (l1.trans l2) (l1.back nD) hD nf2 (fun i d h1 h2 => ?_) ra
    have ni : i ∉ vs := fun z => hv i z h2
    have q2 := hn2 i d (by rw [restS_ow _ _ _ _ ni] at h1; exact h1) h2
    rw [wipe_get, if_neg ni] at q2
    exact q2
theorem l_lc {elt tg iter : Expr} {ifs : List Expr} {scope : Scope} {own : List (Str × Nat)} {fi : Md (List Da)} {tt : Md Bool} {te : Md Da} (hc : X.calm = true) (hN : X.N.Nodup) (hi : GI X ow tg iter fi) (ok : BlkOk X.N X.env.scope scope own)
    (hg : ∀ (s : Shared) (H : Hp) (C : Addr) (cl : List (Str × Addr)) (fp : List Addr), GG (X.blk s H scope (compEnvC scope cl C X.env) fp) ow tg ts f) (ht : ∀ (s : Shared) (H : Hp) (C : Addr) (cl : List (Str × Addr)) (fp : List Addr), PTs (X.blk s H scope (compEnvC scope cl C X.env) fp) ifs (tT X.K ow tt))
    (he : ∀ (s : Shared) (H : Hp) (C : Addr) (cl : List (Str × Addr)) (fp : List Addr), GE (X.blk s H scope (compEnvC scope cl C X.env) fp) ow elt te) (hv : ∀ v ∈ own.map (·.2), v ∉ ow) (hts : ∀ t ∈ ts, t ∈ own.map (·.2)) (hs : ∀ x, foldedSetIterable iter X.env x = pure x := by intro _; rfl) :
    GL X ow (.ListComp elt [⟨tg, iter, ifs, 0⟩] scope pos) (mLc fi f tt te (own.map (·.2))) := pe_w (pe_lc hc hN hi ok hg ht he hs) (lc_go hv hts)
theorem ts_nil : PTs X [] (tT X.K ow (mRet true)) := ⟨fun pins s σ H Q I ⟨B, F, ρ, b, ρ', c, hf, q⟩ => pts_nil.run pins s σ H Q I (by
  cases hf
  exact q H F c Le.refl)⟩
theorem ts_one {c : Expr} {ft : Md Bool} (h : GT X ow c ft) : PTs X [c] (tT X.K ow ft) := pts_one h
end
end Mir

set_option Elab.async false
set_option linter.all false
set_option maxRecDepth 100000
set_option maxHeartbeats 2000000
namespace Mir
open PySem L2

/-! ### list + list -/
def rCatL (K : PySem.W.Frag) : R2 := fun x y H Q => ∃ l b xs zs, x = .ref l ∧ y = .ref b ∧ SqL K H l xs ∧ SqL K H b zs ∧ xs.length + zs.length ≤ sizeLine ∧ ∀ p, H p = none → Q (.ref p) (upd H p (.lst (xs ++ zs)))
theorem op_catL {X : Cx} : OpR X (binaryOp .Add) (rCatL X.K) := by
  intro pins s σ H x y v u Q I rx ry h
  obtain ⟨l, b, xs, zs, e1, e2, hx, hz, hsz, q⟩ := h
  subst e1 e2
  cases rx
  cases ry
  obtain ⟨i1, r1, ⟨⟨c1, d1, da1, sl1⟩, n1, o1, k1, m1, g1⟩, _⟩ := I.list hx
  obtain ⟨i2, r2, ⟨⟨c2, d2, da2, sl2⟩, n2, o2, k2, m2, g2⟩, _⟩ := I.list hz
  simp only at k1 g1 k2 g2
  subst k1 g1 k2 g2
  have hl : i1.toArray.size + i2.toArray.size ≤ sizeLine := by
    rw [List.size_toArray, List.size_toArray, ← r1.length, ← r2.length]
    exact hsz
  have mt := PyProof.Rows.list_addW l b i1.toArray i2.toArray n1 n2 d1 d2 sl1 sl2 hl
  refine concat_meets ⟨_, o1, rfl⟩ ⟨_, o2, rfl⟩ noFill_list_add seq_list_add PySem.F.slot_list_add PySem.F.entry_list_add (PySem.F.args_list_add_2 _ _) mt ⟨o1, o2, ?_⟩
  rw [show i1.toArray ++ i2.toArray = (i1 ++ i2).toArray by simp]
  have hn : H s.heap.objs.size = none := I.hok.fresh (Nat.le_refl _)
  exact ⟨.ref _, _, I.lnew (t' := s.toks) (r1.append r2) (by rw [List.length_append]; exact hsz), rfl, q _ hn⟩

/-! ### what the operations give -/
def gAdd : Da → Da → Option Da
  | .int i, .int j => some (.int (i + j))
  | .str x, .str y => if x.length + y.length ≤ 100000 then some (.str (x ++ y)) else none
  | .list xs, .list ys => if xs.length + ys.length ≤ 100000 then some (.list (xs ++ ys)) else none
  | .tuple xs, .tuple ys => if xs.length + ys.length ≤ 100000 then some (.tuple (xs ++ ys)) else none
  | _, _ => none
def rAdd (K : PySem.W.Frag) : R2 := fun x y H Q => (rI0 (fun i j => .int (i + j)) x y H Q ∨ (∃ i j, x = V.str i ∧ y = V.str j ∧ i.length + j.length ≤ sizeLine ∧ Q (V.str (i ++ j)) H)) ∨ (rCatL K x y H Q ∨ rCatA K x y H Q)
theorem or_add {X : Cx} : OpR X (binaryOp .Add) (rAdd X.K) := (op_add.or op_add_str).or (op_catL.or op_catA)
theorem od_add {K : PySem.W.Frag} : OpD K (rAdd K) gAdd := fun H F x y dx dy d fo hx hy hg Q q => by
  unfold gAdd at hg
  split at hg
  · cases hg
    exact .inl (.inl ⟨_, _, hx.int_inv, hy.int_inv, q _ H F (Gr.refl fo) (.int _)⟩)
  · split at hg
    · rename_i hz
      cases hg
      exact .inl (.inr ⟨_, _, hx.str_inv, hy.str_inv, Evl.sz_of hz, q _ H F (Gr.refl fo) (.str _)⟩)
    · cases hg
  · split at hg
    · rename_i hz
      cases hg
      obtain ⟨a, vs, e1, h1, t1⟩ := hx.list_inv
      obtain ⟨b, ws, e2, h2, t2⟩ := hy.list_inv
      refine .inr (.inl ⟨a, b, vs, ws, e1, e2, h1, h2, by rw [t1.len, t2.len]; exact Evl.sz_of hz, fun p np => ?_⟩)
      exact q _ _ _ (Gr.new fo np) (rp_newL fo np (t1.app t2))
    · cases hg
  · split at hg
    · rename_i hz
      cases hg
      obtain ⟨a, vs, e1, h1, t1, r1⟩ := hx.tup_inv
      obtain ⟨b, ws, e2, h2, t2, r2⟩ := hy.tup_inv
      refine .inr (.inr ⟨a, b, vs, ws, e1, e2, h1, h2, by rw [t1.len, t2.len]; exact Evl.sz_of hz, fun e => ?_, fun _ e => ?_, fun _ _ p np => ?_⟩)
      · subst e
        cases t1
        rw [e2] at r2
        exact q _ H F (Gr.refl fo) r2
      · subst e
        cases t2
        rw [List.append_nil] at q
        rw [← e1]
        exact q _ H F (Gr.refl fo) r1
      · exact q _ _ _ (Gr.new fo np) (rp_newT fo np (t1.app t2))
    · cases hg
  · cases hg
def gI (C : Int → Int → Bool) (g : Int → Int → Int) : Da → Da → Option Da
  | .int i, .int j => if C i j = true then some (.int (g i j)) else none
  | _, _ => none
theorem od_i {K : PySem.W.Frag} {Cp : Int → Int → Prop} {C : Int → Int → Bool} {g : Int → Int → Int} (hC : ∀ i j, C i j = true → Cp i j) : OpD K (rI Cp fun i j => .int (g i j)) (gI C g) := fun H F x y dx dy d fo hx hy hg Q q => by
  unfold gI at hg
  split at hg
  · split at hg
    · rename_i hz
      cases hg
      exact ⟨_, _, hx.int_inv, hy.int_inv, hC _ _ hz, q _ H F (Gr.refl fo) (.int _)⟩
    · cases hg
  · cases hg
theorem od_i0 {K : PySem.W.Frag} {g : Int → Int → Int} : OpD K (rI0 fun i j => .int (g i j)) (gI (fun _ _ => true) g) := fun H F x y dx dy d fo hx hy hg Q q => by
  unfold gI at hg
  split at hg
  · rw [if_pos rfl] at hg
    cases hg
    exact ⟨_, _, hx.int_inv, hy.int_inv, q _ H F (Gr.refl fo) (.int _)⟩
  · cases hg
abbrev gSub : Da → Da → Option Da := gI (fun _ _ => true) (· - ·)
def cMod (i j : Int) : Bool := decide (0 < j)
abbrev gMod : Da → Da → Option Da := gI cMod (· % ·)
def cDiv (i j : Int) : Bool := decide (0 < j ∧ j.natAbs.log2 < 9000)
abbrev gDiv : Da → Da → Option Da := gI cDiv (· / ·)
def cMul (i j : Int) : Bool := decide (i.natAbs.log2 + j.natAbs.log2 < 1000000)
def cPow (i j : Int) : Bool := decide (0 ≤ j ∧ j ≤ 1000000 ∧ i.natAbs < 2 ^ 64)
abbrev gPow : Da → Da → Option Da := gI cPow (fun i j => i ^ j.toNat)
theorem od_sub {K : PySem.W.Frag} : OpD K (rI0 fun i j => .int (i - j)) Mir.gSub := od_i0
theorem od_mod {K : PySem.W.Frag} : OpD K (rI (fun _ j => 0 < j) fun i j => .int (i % j)) gMod := od_i fun i j h => by unfold cMod at h; exact of_decide_eq_true h
theorem od_div {K : PySem.W.Frag} : OpD K (rI CDivW fun i j => .int (i / j)) gDiv := od_i fun i j h => by unfold cDiv at h; exact of_decide_eq_true (p := 0 < j ∧ j.natAbs.log2 < 9000) h
theorem od_pow {K : PySem.W.Frag} : OpD K (rI CPow fun i j => .int (i ^ j.toNat)) gPow := od_i fun i j h => by unfold cPow at h; exact of_decide_eq_true (p := 0 ≤ j ∧ j ≤ 1000000 ∧ i.natAbs < 2 ^ 64) h
/-- tuple * 1 is the tuple -/
theorem tuple_mul1 (l : Addr) (items : Array Value) (n : Nat) (dd : Option Addr) (sl : Array (Option Value)) (u : Tok) :
    Meets (Builtin.«tuple.__mul__» ⟨[.ref l, .int 1 u], []⟩) (fun _ R s => s.heap.get? l = some { cls := .type "tuple", dict := dd, data := .seq items n, slots := sl } ∧ R (.ok (.ret (Value.ref l))) s) := .of_wp fun prog w A R s h => by
  obtain ⟨hp, g, d, tk, os⟩ := s
  obtain ⟨hl, h⟩ := h
  have f1 := AutoSeq1.idx_int
  have c1 : (items.isEmpty || (1 : Int) == 1) = true := by simp
  wp_walk using wpAny_loadPart' hl
  repeat (first
    | (refine wpAny_ite_false (decide_eq_false (by decide)) ?_; wp_walk using wpAny_loadPart' hl)
    | (refine wpAny_ite_true (decide_eq_true c1) ?_; wp_walk using wpAny_loadPart' hl))
  exact ⟨_, rfl, h⟩
def rRep1 (K : PySem.W.Frag) : R2 := fun x y H Q => ∃ l xs, x = .ref l ∧ y = .int 1 ∧ SqT K H l xs ∧ Q (.ref l) H
theorem op_rep1 {X : Cx} : OpR X (binaryOp .Mult) (rRep1 X.K) := by
  intro pins s σ H x y v u Q I rx ry h
  obtain ⟨l, xs, e1, e2, hT, q⟩ := h
  subst e1 e2
  cases rx
  obtain ⟨t, et⟩ := ry
  subst et
  obtain ⟨its, r, ⟨⟨c, dd, da, sl⟩, ho, hc, n, hd⟩, _⟩ := I.tuple hT
  simp only at hc hd
  subst hc hd
  refine wpAny_binaryOp_repeat_ref (T := "tuple") (U := "int") (by decide) ⟨_, ho, rfl⟩ (fun s' => typeIs_int s' 1 t) noFill_tuple_mul PySem.F.fills_int_mul PySem.F.slot_int_rmul repeat_tuple PySem.F.slot_int_index.lookup ?_
  refine call_meets PySem.F.slot_int_rmul (typeIs_int s 1 t) PySem.F.entry_int_rmul (PySem.F.args_int_rmul_2 _ _) (int_rmul_tuple 1 t l its.toArray n dd sl) ⟨ho, rfl, ⟨_, ho, rfl⟩, ?_⟩
  exact call_meets PySem.F.slot_tuple_mul ⟨_, ho, rfl⟩ PySem.F.entry_tuple_mul (PySem.F.args_tuple_mul_2 _ _) (tuple_mul1 l its.toArray n dd sl t) ⟨ho, V.ref l, H, I, rfl, q⟩
def repD (n : Nat) (xs : List Da) : List Da := (List.replicate n xs).flatten
theorem RpA.rep {K : PySem.W.Frag} {H : Hp} {F : Frz} {vs : List V} {ds : List Da} (h : RpA K H F vs ds) : ∀ n : Nat, RpA K H F (List.replicate n vs).flatten (repD n ds)
  | 0 => .nil
  | n + 1 => by
    unfold repD
    simp only [List.replicate_succ, List.flatten_cons]
    exact h.app (RpA.rep h n)
def gMul : Da → Da → Option Da
  | .int i, .int j => if cMul i j = true then some (.int (i * j)) else none
  | .tuple xs, .int k => if k = 1 then some (.tuple xs) else if xs ≠ [] ∧ 2 ≤ k ∧ k ≤ 1000 ∧ xs.length ≤ 1000 then some (.tuple (repD k.toNat xs)) else none
  | _, _ => none
def rMul (K : PySem.W.Frag) : R2 := fun x y H Q => rI CMulW (fun i j => .int (i * j)) x y H Q ∨ (rRep1 K x y H Q ∨ rRepT K x y H Q)
theorem or_mul {X : Cx} : OpR X (binaryOp .Mult) (rMul X.K) := op_mulW.or (op_rep1.or op_repT)
theorem od_mul {K : PySem.W.Frag} : OpD K (rMul K) Mir.gMul := fun H F x y dx dy d fo hx hy hg Q q => by
  unfold Mir.gMul at hg
  split at hg
  · split at hg
    · rename_i hz
      cases hg
      unfold cMul at hz
      exact .inl ⟨_, _, hx.int_inv, hy.int_inv, of_decide_eq_true (p := _ < 1000000) hz, q _ H F (Gr.refl fo) (.int _)⟩
    · cases hg
  · obtain ⟨a, vs, e1, h1, t1, r1⟩ := hx.tup_inv
    split at hg
    · rename_i hk
      cases hg
      have e2 := hy.int_inv
      rw [hk] at e2
      refine .inr (.inl ⟨a, vs, e1, e2, h1, ?_⟩)
      rw [← e1]
      exact q _ H F (Gr.refl fo) r1
    · split at hg
      · rename_i hz
        cases hg
        refine .inr (.inr ⟨a, _, vs, e1, hy.int_inv, h1, fun e => ?_, hz.2.1, hz.2.2.1, by rw [t1.len]; exact hz.2.2.2, fun p np => ?_⟩)
        · subst e
          cases t1
          exact hz.1 rfl
        · exact q _ _ _ (Gr.new fo np) (rp_newT fo np (t1.rep _))
      · cases hg
  · cases hg
/-! ### comparisons -/
def gC (g : Int → Int → Bool) : Da → Da → Option Da
  | .int i, .int j => some (.bool (g i j))
  | _, _ => none
theorem od_c {K : PySem.W.Frag} {g : Int → Int → Bool} : OpD K (rI0 fun i j => .bl (g i j)) (gC g) := fun H F x y dx dy d fo hx hy hg Q q => by
  unfold gC at hg
  split at hg
  · cases hg
    exact ⟨_, _, hx.int_inv, hy.int_inv, q _ H F (Gr.refl fo) (.bl _)⟩
  · cases hg
abbrev gLt : Da → Da → Option Da := gC fun i j => decide (i < j)
abbrev gLe : Da → Da → Option Da := gC fun i j => decide (i ≤ j)
abbrev gGt : Da → Da → Option Da := gC fun i j => decide (j < i)
abbrev gGe : Da → Da → Option Da := gC fun i j => decide (j ≤ i)
/-- == -/
def gEqB : Da → Da → Option Bool
  | .int i, .int j => some (decide (i = j))
  | .str i, .str j => some (decide (i = j))
  | .bool i, .bool j => some (decide (i = j))
  | .none, .none => some true
  | .str _, .none => some false
  | .none, .str _ => some false
  | x, y => if SeqAt.shaped x = true ∧ SeqAt.shaped y = true then some (PyData.eqv x y) else none
def gEq (x y : Da) : Option Da := (gEqB x y).map .bool
def gNe (x y : Da) : Option Da := (gEqB x y).map fun b => .bool (!b)
def rEqA (K : PySem.W.Frag) : R2 := fun x y H Q => rEq x y H Q ∨ rEqD K x y H Q
def rNeA (K : PySem.W.Frag) : R2 := fun x y H Q => rNe x y H Q ∨ rNeD K x y H Q
theorem or_eq {X : Cx} (hu : X.A.units + 64 < cLine) : OpR X (compareOp .Eq) (rEqA X.K) := op_eq.or (op_eqD hu)
theorem or_ne {X : Cx} (hu : X.A.units + 64 < cLine) : OpR X (compareOp .NotEq) (rNeA X.K) := op_ne.or (op_neD hu)
theorem eqB_go {K : PySem.W.Frag} {H : Hp} {F : Frz} {x y : V} {dx dy : Da} {b : Bool} (hx : Bw K H F x dx) (hy : Bw K H F y dy) (hg : gEqB dx dy = some b) :
    (scal x y = true ∧ decide (x = y) = b) ∨ (Dp K H x dx ∧ Dp K H y dy ∧ SeqAt.shaped dx = true ∧ SeqAt.shaped dy = true ∧ PyData.eqv dx dy = b) := by
  unfold gEqB at hg
  split at hg
  · cases hg
    rw [hx.int_inv, hy.int_inv]
    exact .inl ⟨rfl, by simp⟩
  · cases hg
    rw [hx.str_inv, hy.str_inv]
    exact .inl ⟨rfl, by simp⟩
  · cases hg
    rw [hx.bool_inv, hy.bool_inv]
    exact .inl ⟨rfl, by simp⟩
  · cases hg
    rw [hx.none_inv, hy.none_inv]
    exact .inl ⟨rfl, by simp⟩
  · cases hg
    rw [hx.str_inv, hy.none_inv]
    exact .inl ⟨rfl, by simp⟩
  · cases hg
    rw [hx.none_inv, hy.str_inv]
    exact .inl ⟨rfl, by simp⟩
  · split at hg
    · rename_i hz
      cases hg
      exact .inr ⟨hx.dp (Bool.and_eq_true _ _ ▸ hz.1 : _ ∧ _).1, hy.dp (Bool.and_eq_true _ _ ▸ hz.2 : _ ∧ _).1, hz.1, hz.2, rfl⟩
    · cases hg
theorem od_eq {K : PySem.W.Frag} : OpD K (rEqA K) gEq := fun H F x y dx dy d fo hx hy hg Q q => by
  obtain ⟨b, hb, e⟩ := Option.map_eq_some_iff.mp hg
  subst e
  rcases eqB_go hx hy hb with ⟨h1, h2⟩ | ⟨h1, h2, h3, h4, h5⟩
  · exact .inl ⟨h1, by rw [h2]; exact q _ H F (Gr.refl fo) (.bl _)⟩
  · exact .inr ⟨dx, dy, h1, h2, h3, h4, by rw [h5]; exact q _ H F (Gr.refl fo) (.bl _)⟩
theorem od_ne {K : PySem.W.Frag} : OpD K (rNeA K) gNe := fun H F x y dx dy d fo hx hy hg Q q => by
  obtain ⟨b, hb, e⟩ := Option.map_eq_some_iff.mp hg
  subst e
  rcases eqB_go hx hy hb with ⟨h1, h2⟩ | ⟨h1, h2, h3, h4, h5⟩
  · exact .inl ⟨h1, by rw [h2]; exact q _ H F (Gr.refl fo) (.bl _)⟩
  · exact .inr ⟨dx, dy, h1, h2, h3, h4, by rw [h5]; exact q _ H F (Gr.refl fo) (.bl _)⟩
/-- in -/
def flat : Da → Bool
  | .none => true
  | .bool _ => true
  | .int _ => true
  | .str _ => true
  | _ => false
def eqF : Da → Da → Bool
  | .none, .none => true
  | .bool a, .bool b => a == b
  | .bool a, .int b => (if a then 1 else 0) == b
  | .int a, .bool b => a == (if b then 1 else 0)
  | .int a, .int b => a == b
  | .str a, .str b => a == b
  | _, _ => false
def items : Da → Option (List Da)
  | .list ds => some ds
  | .tuple ds => some ds
  | _ => none
def inF (x : Da) (ds : List Da) : Bool := ds.any fun y => eqF y x
def gInB (x c : Da) : Option Bool := match items c with
  | some ds => if flat x = true ∧ ds.all flat = true then some (inF x ds) else match c with
    | .list ds => if SeqAt.shaped x = true ∧ SeqAt.shaped (.list ds) = true then some (ds.any fun z => PyData.eqv z x) else none
    | _ => none
  | none => none
def gIn (x c : Da) : Option Da := (gInB x c).map .bool
def gNotIn (x c : Da) : Option Da := (gInB x c).map fun b => .bool (!b)
theorem flat_rp {K : PySem.W.Frag} {H : Hp} {F : Frz} {v : V} {d : Da} (h : Rp K H F v d) (f : flat d = true) : flatV v = true := by
  cases h <;> first | rfl | cases f
theorem flat_bw {K : PySem.W.Frag} {H : Hp} {F : Frz} {v : V} {d : Da} (h : Bw K H F v d) (f : flat d = true) : flatV v = true := by
  cases h with
  | rp h => exact flat_rp h f
  | own h r => cases f
theorem eq_flat {K : PySem.W.Frag} {H : Hp} {F : Frz} {v u : V} {d e : Da} (h : Rp K H F v d) (h2 : Bw K H F u e) (f2 : flat e = true) (f : flat d = true) : eqV v u = eqF d e := by
  cases h2 with
  | own _ _ => cases f2
  | rp h2 =>
    cases h <;> first | (cases f; done) | (cases h2 <;> first | (cases f2; done) | rfl)
theorem all_flat {K : PySem.W.Frag} {H : Hp} {F : Frz} : ∀ {vs : List V} {ds : List Da}, RpA K H F vs ds → ds.all flat = true → vs.all flatV = true
  | _, _, .nil, _ => rfl
  | _, _, .cons a t, h => by
    rw [List.all_cons, Bool.and_eq_true] at h
    rw [List.all_cons, flat_rp a h.1, all_flat t h.2] <;> rfl
theorem in_flat {K : PySem.W.Frag} {H : Hp} {F : Frz} {u : V} {e : Da} (h2 : Bw K H F u e) (f2 : flat e = true) : ∀ {vs : List V} {ds : List Da}, RpA K H F vs ds → ds.all flat = true → inV u vs = inF e ds
  | _, _, .nil, _ => rfl
  | _, _, .cons a t, h => by
    rw [List.all_cons, Bool.and_eq_true] at h
    have e1 := eq_flat a h2 f2 h.1
    have e2 := in_flat h2 f2 t h.2
    show (eqV _ u || inV u _) = (eqF _ e || inF e _)
    rw [e1, e2]
def rInA (K : PySem.W.Frag) : R2 := fun x y H Q => rIn K false x y H Q ∨ rInD K x y H Q
def rNotInA (K : PySem.W.Frag) : R2 := fun x y H Q => rIn K true x y H Q ∨ rNotInD K x y H Q
theorem or_in {X : Cx} (hu : X.A.units + 65 < cLine) : OpR X (compareOp .In) (rInA X.K) := op_in_seq.or (op_inD hu)
theorem or_notIn {X : Cx} (hu : X.A.units + 65 < cLine) : OpR X (compareOp .NotIn) (rNotInA X.K) := op_notIn_seq.or (op_notInD hu)
theorem inB_go {K : PySem.W.Frag} {H : Hp} {F : Frz} {x y : V} {dx dy : Da} {b : Bool} (hx : Bw K H F x dx) (hy : Bw K H F y dy) (hg : gInB dx dy = some b) :
    (∃ p xs, y = .ref p ∧ (SqL K H p xs ∨ SqT K H p xs) ∧ flatV x = true ∧ xs.all flatV = true ∧ inV x xs = b) ∨ (∃ ds, Dp K H x dx ∧ Dp K H y (.list ds) ∧ SeqAt.shaped dx = true ∧ SeqAt.shaped (.list ds) = true ∧ (ds.any fun z => PyData.eqv z dx) = b) := by
  unfold gInB at hg
  split at hg
  · rename_i ds hi
    split at hg
    · rename_i hf
      cases hg
      have key : ∃ p xs, y = .ref p ∧ (SqL K H p xs ∨ SqT K H p xs) ∧ RpA K H F xs ds := by
        cases dy with
        | list es =>
          cases hi
          obtain ⟨a, vs, e, s, t⟩ := hy.list_inv
          exact ⟨a, vs, e, .inl s, t⟩
        | tuple es =>
          cases hi
          obtain ⟨a, vs, e, s, t, _⟩ := hy.tup_inv
          exact ⟨a, vs, e, .inr s, t⟩
        | _ => cases hi
      obtain ⟨p, xs, e, s, t⟩ := key
      exact .inl ⟨p, xs, e, s, flat_bw hx hf.1, all_flat t hf.2, in_flat hx hf.1 t hf.2⟩
    · split at hg
      · split at hg
        · rename_i hz
          cases hg
          exact .inr ⟨_, hx.dp (Bool.and_eq_true _ _ ▸ hz.1 : _ ∧ _).1, hy.dp (Bool.and_eq_true _ _ ▸ hz.2 : _ ∧ _).1, hz.1, hz.2, rfl⟩
        · cases hg
      · cases hg
  · cases hg
theorem od_in {K : PySem.W.Frag} : OpD K (rInA K) gIn := fun H F x y dx dy d fo hx hy hg Q q => by
  obtain ⟨b, hb, e⟩ := Option.map_eq_some_iff.mp hg
  subst e
  rcases inB_go hx hy hb with ⟨p, xs, h1, h2, h3, h4, h5⟩ | ⟨ds, h1, h2, h3, h4, h5⟩
  · refine .inl ⟨p, xs, h1, h2, h3, h4, ?_⟩
    rw [if_neg Bool.false_ne_true, h5]
    exact q _ H F (Gr.refl fo) (.bl _)
  · exact .inr ⟨dx, ds, h1, h2, h3, h4, by rw [h5]; exact q _ H F (Gr.refl fo) (.bl _)⟩
theorem od_notIn {K : PySem.W.Frag} : OpD K (rNotInA K) gNotIn := fun H F x y dx dy d fo hx hy hg Q q => by
  obtain ⟨b, hb, e⟩ := Option.map_eq_some_iff.mp hg
  subst e
  rcases inB_go hx hy hb with ⟨p, xs, h1, h2, h3, h4, h5⟩ | ⟨ds, h1, h2, h3, h4, h5⟩
  · refine .inl ⟨p, xs, h1, h2, h3, h4, ?_⟩
    rw [if_pos rfl, h5]
    exact q _ H F (Gr.refl fo) (.bl _)
  · exact .inr ⟨dx, ds, h1, h2, h3, h4, by rw [h5]; exact q _ H F (Gr.refl fo) (.bl _)⟩
/-- is, is not of bools and None -/
def isNo : Da → Bool
  | .none => true
  | _ => false
def gIsB : Da → Da → Option Bool
  | .bool a, .bool b => some (decide (a = b))
  | x, .none => some (isNo x)
  | _, _ => none
def gIs (x y : Da) : Option Da := (gIsB x y).map .bool
def gIsNot (x y : Da) : Option Da := (gIsB x y).map fun b => .bool (!b)
def rIsA : R2 := fun x y H Q => rIsB x y H Q ∨ rIsN x y H Q
def rIsNotA : R2 := fun x y H Q => rNotB x y H Q ∨ rNotN x y H Q
theorem or_is {X : Cx} : OpR X (compareOp .Is) rIsA := op_isBl.or op_isN1
theorem or_isNot {X : Cx} : OpR X (compareOp .IsNot) rIsNotA := op_notBl.or op_notN1
theorem isN_go {K : PySem.W.Frag} {H : Hp} {F : Frz} {x : V} {dx : Da} (hx : Bw K H F x dx) : decide (x = .non) = isNo dx := by
  cases hx with
  | own h r => rfl
  | rp h => cases h <;> rfl
theorem od_is {K : PySem.W.Frag} : OpD K rIsA gIs := fun H F x y dx dy d fo hx hy hg Q q => by
  obtain ⟨b, hb, e⟩ := Option.map_eq_some_iff.mp hg
  subst e
  unfold gIsB at hb
  split at hb
  · cases hb
    exact .inl ⟨_, _, hx.bool_inv, hy.bool_inv, q _ H F (Gr.refl fo) (.bl _)⟩
  · cases hb
    exact .inr ⟨hy.none_inv, by rw [isN_go hx]; exact q _ H F (Gr.refl fo) (.bl _)⟩
  · cases hb
theorem od_isNot {K : PySem.W.Frag} : OpD K rIsNotA gIsNot := fun H F x y dx dy d fo hx hy hg Q q => by
  obtain ⟨b, hb, e⟩ := Option.map_eq_some_iff.mp hg
  subst e
  unfold gIsB at hb
  split at hb
  · cases hb
    exact .inl ⟨_, _, hx.bool_inv, hy.bool_inv, q _ H F (Gr.refl fo) (.bl _)⟩
  · cases hb
    exact .inr ⟨hy.none_inv, by rw [isN_go hx]; exact q _ H F (Gr.refl fo) (.bl _)⟩
  · cases hb
/-! ### items -/
def gIx : Da → Da → Option Da := fun c i => match items c, i with
  | some ds, .int k => atI ds k
  | _, _ => none
def rIxA (K : PySem.W.Frag) : R2 := fun x y H Q => rIxL K x y H Q ∨ rIxT K x y H Q
theorem or_ix {X : Cx} : IxR X (rIxA X.K) := ix_list.or ix_tup
theorem at_get {K : PySem.W.Frag} {H : Hp} {F : Frz} {vs : List V} {ds : List Da} {k : Int} {d : Da} (t : RpA K H F vs ds) (h : atI ds k = some d) : ∃ v, atI vs k = some v ∧ Rp K H F v d := by
  unfold atI at h ⊢
  rw [t.len]
  cases e : ixN ds.length k with
  | none => rw [e] at h; cases h
  | some j =>
    rw [e] at h
    exact t.get h
theorem od_ix {K : PySem.W.Frag} : OpD K (rIxA K) gIx := fun H F x y dx dy d fo hx hy hg Q q => by
  unfold gIx at hg
  split at hg
  · rename_i ds k hi
    cases dx with
    | list es =>
      cases hi
      obtain ⟨a, vs, e, s, t⟩ := hx.list_inv
      obtain ⟨v, h1, rv⟩ := at_get t hg
      exact .inl ⟨a, vs, k, v, e, hy.int_inv, s, h1, q v H F (Gr.refl fo) rv⟩
    | tuple es =>
      cases hi
      obtain ⟨a, vs, e, s, t, _⟩ := hx.tup_inv
      obtain ⟨v, h1, rv⟩ := at_get t hg
      exact .inr ⟨a, vs, k, v, e, hy.int_inv, s, h1, q v H F (Gr.refl fo) rv⟩
    | _ => cases hi
  · cases hg
end Mir

set_option Elab.async false
set_option linter.all false
set_option maxRecDepth 100000
set_option maxHeartbeats 2000000
namespace Mir
open PySem L2

/-! ### built-in functions -/
section
variable {K : PySem.W.Frag}
def gLen : List Da → Option Da
  | [d] => (items d).map fun ds => .int ds.length
  | _ => none
theorem items_go {H : Hp} {F : Frz} {v : V} {d : Da} {ds : List Da} (h : Bw K H F v d) (e : items d = some ds) : ∃ p xs, v = .ref p ∧ (SqL K H p xs ∨ SqT K H p xs) ∧ RpA K H F xs ds := by
  cases d with
  | list es =>
    cases e
    obtain ⟨a, vs, e, s, t⟩ := h.list_inv
    exact ⟨a, vs, e, .inl s, t⟩
  | tuple es =>
    cases e
    obtain ⟨a, vs, e, s, t, _⟩ := h.tup_inv
    exact ⟨a, vs, e, .inr s, t⟩
  | _ => cases e
theorem cd_len : CallD K (fun xs H Q => ∃ p ys, xs = [.ref p] ∧ (SqL K H p ys ∨ SqT K H p ys) ∧ Q (.int ys.length) H) gLen := fun H F xs dx d fo hx hg Q q => by
  unfold gLen at hg
  split at hg
  · obtain ⟨ds, hi, e⟩ := Option.map_eq_some_iff.mp hg
    subst e
    obtain ⟨v, ev, hv⟩ := hx.one
    obtain ⟨p, ys, e2, s, t⟩ := items_go hv hi
    refine ⟨p, ys, by rw [ev, e2], s, ?_⟩
    rw [t.len]
    exact q _ H F (Gr.refl fo) (.int _)
  · cases hg
/-- tuple(xs), list(xs) -/
def gTupleOf : List Da → Option Da
  | [d] => (items d).map .tuple
  | _ => none
def gListOf : List Da → Option (List Da)
  | [d] => items d
  | _ => none
theorem cd_tuple : CallD K (fun xs H Q => ∃ p ys, xs = [.ref p] ∧ ((SqL K H p ys ∧ ∀ l, H l = none → Q (.ref l) (upd H l (.tup ys))) ∨ (SqT K H p ys ∧ Q (.ref p) H))) gTupleOf := fun H F xs dx d fo hx hg Q q => by
  unfold gTupleOf at hg
  split at hg
  · rename_i x
    obtain ⟨ds, hi, e⟩ := Option.map_eq_some_iff.mp hg
    subst e
    obtain ⟨v, ev, hv⟩ := hx.one
    subst ev
    cases x with
    | list es =>
      cases hi
      obtain ⟨a, vs, e, s, t⟩ := hv.list_inv
      exact ⟨a, vs, by rw [e], .inl ⟨s, fun l nl => q _ _ _ (Gr.new fo nl) (rp_newT fo nl t)⟩⟩
    | tuple es =>
      cases hi
      obtain ⟨a, vs, e, s, t, r⟩ := hv.tup_inv
      refine ⟨a, vs, by rw [e], .inr ⟨s, ?_⟩⟩
      rw [← e]
      exact q _ H F (Gr.refl fo) r
    | _ => cases hi
  · cases hg
/-- max, min of two ints -/
def gMax2 : List Da → Option Da
  | [.int i, .int j] => some (.int (if j > i then j else i))
  | _ => none
def gMin2 : List Da → Option Da
  | [.int i, .int j] => some (.int (if j < i then j else i))
  | _ => none
theorem cd_max2 : CallD K (fun xs H Q => ∃ i j, xs = [.int i, .int j] ∧ Q (.int (if j > i then j else i)) H) gMax2 := fun H F xs dx d fo hx hg Q q => by
  unfold gMax2 at hg
  split at hg
  · cases hg
    obtain ⟨v, u, e, h1, h2⟩ := hx.two
    exact ⟨_, _, by rw [e, h1.int_inv, h2.int_inv], q _ H F (Gr.refl fo) (.int _)⟩
  · cases hg
theorem cd_min2 : CallD K (fun xs H Q => ∃ i j, xs = [.int i, .int j] ∧ Q (.int (if j < i then j else i)) H) gMin2 := fun H F xs dx d fo hx hg Q q => by
  unfold gMin2 at hg
  split at hg
  · cases hg
    obtain ⟨v, u, e, h1, h2⟩ := hx.two
    exact ⟨_, _, by rw [e, h1.int_inv, h2.int_inv], q _ H F (Gr.refl fo) (.int _)⟩
  · cases hg
/-- any, all of a list of bools -/
def bools : List Da → Option (List Bool)
  | [] => some []
  | .bool b :: ds => (bools ds).map (b :: ·)
  | _ :: _ => none
theorem bools_go : ∀ {ds : List Da} {bs : List Bool}, bools ds = some bs → ds = bs.map PyData.bool
  | [], bs, h => by cases h; rfl
  | d :: ds, bs, h => by
    cases d with
    | bool b =>
      obtain ⟨cs, hc, e⟩ := Option.map_eq_some_iff.mp (show (bools ds).map (b :: ·) = some bs from h)
      subst e
      rw [List.map_cons, bools_go hc]
    | _ => cases h
def gAny : List Da → Option Da
  | [.list ds] => (bools ds).map fun bs => .bool (bs.any id)
  | _ => none
def gAll : List Da → Option Da
  | [.list ds] => (bools ds).map fun bs => .bool (bs.all id)
  | _ => none
theorem cd_any : CallD K (rAny K) gAny := fun H F xs dx d fo hx hg Q q => by
  unfold gAny at hg
  split at hg
  · obtain ⟨bs, hb, e⟩ := Option.map_eq_some_iff.mp hg
    subst e
    obtain ⟨v, ev, hv⟩ := hx.one
    obtain ⟨a, vs, e, s, t⟩ := hv.list_inv
    rw [bools_go hb] at t
    rw [bools_inv t] at s
    exact ⟨a, bs, by rw [ev, e], s, q _ H F (Gr.refl fo) (.bl _)⟩
  · cases hg
theorem cd_all : CallD K (rAll K) gAll := fun H F xs dx d fo hx hg Q q => by
  unfold gAll at hg
  split at hg
  · obtain ⟨bs, hb, e⟩ := Option.map_eq_some_iff.mp hg
    subst e
    obtain ⟨v, ev, hv⟩ := hx.one
    obtain ⟨a, vs, e, s, t⟩ := hv.list_inv
    rw [bools_go hb] at t
    rw [bools_inv t] at s
    exact ⟨a, bs, by rw [ev, e], s, q _ H F (Gr.refl fo) (.bl _)⟩
  · cases hg
/-- sum of ints -/
def intsD : List Da → Option (List Int)
  | [] => some []
  | .int b :: ds => (intsD ds).map (b :: ·)
  | _ :: _ => none
theorem intsD_go : ∀ {ds : List Da} {bs : List Int}, intsD ds = some bs → ds = bs.map PyData.int
  | [], bs, h => by cases h; rfl
  | d :: ds, bs, h => by
    cases d with
    | int b =>
      obtain ⟨cs, hc, e⟩ := Option.map_eq_some_iff.mp (show (intsD ds).map (b :: ·) = some bs from h)
      subst e
      rw [List.map_cons, intsD_go hc]
    | _ => cases h
theorem intsD_map (ns : List Int) : intsD (ns.map PyData.int) = some ns := by
  induction ns with
  | nil => rfl
  | cons n ns ih =>
    show (intsD (ns.map PyData.int)).map (n :: ·) = _
    rw [ih] <;> rfl
def gSum : List Da → Option Da
  | [.list ds] => (intsD ds).map fun bs => .int bs.sum
  | _ => none
theorem cd_sum : CallD K (rSum K) gSum := fun H F xs dx d fo hx hg Q q => by
  unfold gSum at hg
  split at hg
  · obtain ⟨bs, hb, e⟩ := Option.map_eq_some_iff.mp hg
    subst e
    obtain ⟨v, ev, hv⟩ := hx.one
    obtain ⟨a, vs, e, s, t⟩ := hv.list_inv
    rw [intsD_go hb] at t
    rw [ints_inv t] at s
    exact ⟨a, bs, by rw [ev, e], s, q _ H F (Gr.refl fo) (.int _)⟩
  · cases hg
/-- insertion sort: what sorted gives of ints -/
def ins (n : Int) : List Int → List Int
  | [] => [n]
  | m :: r => if n ≤ m then n :: m :: r else m :: ins n r
def isort : List Int → List Int
  | [] => []
  | n :: r => ins n (isort r)
theorem ins_perm (n : Int) : ∀ l : List Int, (ins n l).Perm (n :: l)
  | [] => .refl _
  | m :: r => by
    unfold ins
    split
    · exact .refl _
    · exact ((ins_perm n r).cons m).trans (.swap n m r)
theorem isort_perm : ∀ l : List Int, (isort l).Perm l
  | [] => .refl _
  | n :: r => (ins_perm n _).trans ((isort_perm r).cons n)
theorem ins_sorted (n : Int) : ∀ l : List Int, l.Pairwise (· ≤ ·) → (ins n l).Pairwise (· ≤ ·)
  | [], _ => List.pairwise_singleton _ _
  | m :: r, h => by
    have h' := List.pairwise_cons.mp h
    unfold ins
    split
    · rename_i hn
      refine List.pairwise_cons.mpr ⟨fun x hx => ?_, h⟩
      rcases List.mem_cons.mp hx with e | e
      · rw [e]; exact hn
      · exact Int.le_trans hn (h'.1 x e)
    · rename_i hn
      refine List.pairwise_cons.mpr ⟨fun x hx => ?_, ins_sorted n r h'.2⟩
      rcases List.mem_cons.mp ((ins_perm n r).mem_iff.mp hx) with e | e
      · rw [e]; omega
      · exact h'.1 x e
theorem isort_sorted : ∀ l : List Int, (isort l).Pairwise (· ≤ ·)
  | [] => .nil
  | n :: r => ins_sorted n _ (isort_sorted r)
theorem sorted_one {l m : List Int} (p : l.Perm m) (hl : l.Pairwise (· ≤ ·)) (hm : m.Pairwise (· ≤ ·)) : l = m :=
  p.eq_of_pairwise (fun a b _ _ h1 h2 => Int.le_antisymm h1 h2) hl hm
def gSorted : List Da → Option Da
  | [.list ds] => (intsD ds).map fun ns => .list ((isort ns).map .int)
  | _ => none
theorem cd_sorted : CallD K (rSortedI K) gSorted := fun H F xs dx d fo hx hg Q q => by
  unfold gSorted at hg
  split at hg
  · obtain ⟨ns, hb, e⟩ := Option.map_eq_some_iff.mp hg
    subst e
    obtain ⟨v, ev, hv⟩ := hx.one
    obtain ⟨a, vs, e, s, t⟩ := hv.list_inv
    rw [intsD_go hb] at t
    rw [ints_inv t] at s
    refine ⟨a, ns, by rw [ev, e], s, fun ms p pm ps np => ?_⟩
    have e2 := sorted_one (pm.trans (isort_perm ns).symm) ps (isort_sorted ns)
    rw [e2]
    exact q _ _ _ (Gr.new fo np) (rp_newL fo np ints_mk)
  · cases hg
end

/-! ### isinstance -/
def cls6 : List String := ["NoneType", "bool", "int", "str", "list", "tuple"]
def isi (c T : String) : Bool := c == T || (c == "bool" && T == "int")
def isiOk (T : String) : Bool := cls6.all fun c => kitB c T == some (isi c T)
def gIsi (T : String) (d : Da) : Option Da := (clsD d).map fun c => .bool (isi c T)
theorem cls_ty {K : PySem.W.Frag} {H : Hp} {F : Frz} {v : V} {d : Da} {c : String} (h : Bw K H F v d) (e : clsD d = some c) : c ∈ cls6 ∧ TyX K H v (.type c) := by
  have own : ∀ {p : Addr} {vs : List V}, SqL K H p vs → TyX K H (.ref p) (.type "list") := fun {p vs} s => by
    rcases s with (s | ⟨o, s⟩) | ⟨o, its, n, h1, h2, _⟩
    · exact .base (.lst s)
    · exact .base (.frz s)
    · exact .kList h1 h2
  have ownT : ∀ {p : Addr} {vs : List V}, SqT K H p vs → TyX K H (.ref p) (.type "tuple") := fun {p vs} s => by
    rcases s with (s | ⟨o, s⟩) | ⟨o, its, n, h1, h2, _⟩
    · exact .base (.tup s)
    · exact .fTuple s
    · exact .kTuple h1 h2
  cases h with
  | own h r => cases e; exact ⟨by decide, own (SqL.of h)⟩
  | rp h =>
    cases h with
    | non => cases e; exact ⟨by decide, .base .non⟩
    | bl b => cases e; exact ⟨by decide, .base (.bl b)⟩
    | int i => cases e; exact ⟨by decide, .base (.int i)⟩
    | str x => cases e; exact ⟨by decide, .base (.str x)⟩
    | lst r t => cases e; exact ⟨by decide, own r.sq⟩
    | tup r t => cases e; exact ⟨by decide, ownT r.sq⟩
    | dct f r t => cases e
section
variable {X : Cx} {ow : List Nat} {e : Expr} {fa : Md Da} {p q pos : Pos} {T : String} {x : Str}
theorem e_isi (hT : isiOk T = true) (hg : Gl X "isinstance") (hm : X.mg "isinstance" = none) (ht : PE X (.Name x q) (tC (.ty T))) (ha : GE X ow e fa)
    (he : starEach [e, .Name x q] X.env = (false, eval e X.env) :: starEach [.Name x q] X.env := by rfl) (he2 : starEach [.Name x q] X.env = (false, eval (.Name x q) X.env) :: starEach [] X.env := by rfl) (hpl : (backTo pos (starEach [.Name x q] X.env)).any (·.1) = false := by rfl) :
    GE X ow (.Call (.Name "isinstance" p) [e, .Name x q] [] pos) (mUn (gIsi T) fa) := pe_w (pe_callB call_isi hg hm (by decide +kernel) (pa_cons ha (pa_cons ht pa_nil he2) he) (by decide) (by decide) he hpl) fun σ H Q ⟨B, F, ρ, d, ρ', c, hf, q⟩ => by
  obtain ⟨y, ρ1, h1, hf⟩ := bind_inv hf
  obtain ⟨hg, rfl⟩ := opt_inv hf
  obtain ⟨cl, hc, ed⟩ := Option.map_eq_some_iff.mp hg
  subst ed
  refine ⟨B, F, ρ, y, _, c, h1, fun v H1 F1 c1 l1 r1 => ?_⟩
  obtain ⟨hm, ty⟩ := cls_ty (.rp r1) hc
  have k : kitB cl T = some (isi cl T) := by
    have := List.all_eq_true.mp hT cl hm
    simpa using this
  exact ⟨v, .ty T, .type cl, .type T, _, rfl, .ty T, ty, kit_ty k, q _ H1 F1 c1 l1 (.bl _)⟩
end

/-! ### repr of lists and tuples -/
def okRepr (d : Da) : Bool := d.leavesShort 13 && decide (d.weight ≤ 2 ^ 20) && d.showable && !d.hasDict && decide (d.depth ≤ 60)
def isRef : Da → Bool
  | .list _ => true
  | .tuple _ => true
  | _ => false
def gRepr : List Da → Option Da
  | [d] => if isRef d = true ∧ okRepr d = true then some (.str d.shown) else none
  | _ => none
def rRepr (K : PySem.W.Frag) : List V → Hp → VK → Prop := fun xs H Q => ∃ a d, xs = [.ref a] ∧ Dp K H (.ref a) d ∧ okRepr d = true ∧ Q (.str d.shown) H
theorem call_repr {X : Cx} {k : Nat} (hr : Room k X.A) (hgd : X.A.guards = some []) : CallR X (.builtin "repr") (rRepr X.K) := by
  intro pins s σ H xs us Q I r h
  obtain ⟨a, d, e, hd, ok, q⟩ := h
  subst e
  obtain ⟨u, e, ru⟩ := vals1 r
  subst e
  cases ru
  unfold okRepr at ok
  simp only [Bool.and_eq_true, decide_eq_true_eq, Bool.not_eq_true'] at ok
  obtain ⟨⟨⟨⟨h1, h2⟩, h3⟩, h4⟩, h5⟩ := ok
  obtain ⟨as, rd⟩ := Dp.reads I d _ _ hd rfl
  have un := hr.un
  refine repr_of_reads' rd h3 (PyData.noDict_hsm h4) hgd (by omega) (fun _ _ e => e) (fun h' u tk hk => ?_) (PyData.shown_fits (by decide) (by decide) h1 h2)
  exact ⟨.str d.shown, H, I.kept hk, ⟨u, rfl⟩, q⟩
theorem cd_repr {K : PySem.W.Frag} : CallD K (rRepr K) gRepr := fun H F xs dx d fo hx hg Q q => by
  unfold gRepr at hg
  split at hg
  · split at hg
    · rename_i hz
      cases hg
      obtain ⟨v, ev, hv⟩ := hx.one
      obtain ⟨a, ea⟩ : ∃ a, v = .ref a := by
        cases hv with
        | own h r => exact ⟨_, rfl⟩
        | rp h => cases h <;> first | exact ⟨_, rfl⟩ | (cases hz.1; done)
      subst ea
      exact ⟨a, _, ev, hv.dpN (by
        have ok := hz.2
        unfold okRepr at ok
        simp only [Bool.and_eq_true, Bool.not_eq_true'] at ok
        exact ok.1.2), hz.2, q _ H F (Gr.refl fo) (.str _)⟩
    · cases hg
  · cases hg
end Mir

set_option Elab.async false
set_option linter.all false
set_option maxRecDepth 100000
set_option maxHeartbeats 4000000

/-! ### enumerate(t), t a tuple: the library has lists and texts -/
namespace PySem
open AutoSeq1 (wpAny_loadPart')
abbrev tupIt (t : Addr) : Obj := { cls := .type "tuple_iterator", data := .fields #[.ref t, .int 0 0] }
abbrev enumOf (it : Addr) : Obj := { cls := .type "enumerate", data := .fields #[.none, .bool false, .ref it, rawInt 0, .none, .none] }
theorem mir_enumNew (t : Addr) (its : Array Value) (k : Nat) (dd : Option Addr) (sl : Array (Option Value)) : Meets (Builtin.«enumerate.__new__» ⟨[.type "enumerate", .ref t], []⟩) (fun _ R s =>
    s.heap.get? t = some { cls := .type "tuple", dict := dd, data := .seq its k, slots := sl } ∧ R (.ok (.ret (.ref (s.heap.push (tupIt t)).objs.size))) { s with heap := (s.heap.push (tupIt t)).push (enumOf s.heap.objs.size) }) := by
  refine .of_wp fun prog w A R s h => ?_
  obtain ⟨hp, gg, dd', tk, oo⟩ := s
  obtain ⟨ht, h⟩ := h
  have sub1 := sub_enumerate
  have isT : Heap.IsTuple (Shared.heap ⟨hp, gg, dd', tk, oo⟩) t its := ⟨_, ht, rfl, k, rfl⟩
  wp_walk using wpAny_loadPart' ht
  refine wpAny_stack_any fun st => wpAny_pure ?_
  split
  · rename_i c _ _ _ _ _
    cases c == Value.type "enumerate" <;> (wp_walk using wpAny_loadPart' ht, wpAny_pyIter_tuple isT; exact ⟨_, rfl, h⟩)
  · wp_walk using wpAny_loadPart' ht, wpAny_pyIter_tuple isT
    exact ⟨_, rfl, h⟩
theorem mir_callEnum {prog : Program} {w : World} {A : Around} {E : Value → Shared → Prop} {s : Shared} {t : Addr} {its : Array Value} {Q : Value → Shared → Prop} (hT : s.heap.IsTuple t its)
    (h : ∀ h', IsEnum h' (s.heap.objs.size + 1) s.heap.objs.size 0 .none → h'.IsTupleIter s.heap.objs.size t 0 → (∀ b o, s.heap.get? b = some o → h'.get? b = some o) → Q (.ref (s.heap.objs.size + 1)) { s with heap := h' }) :
    wpAny (model prog w) A (call (.type "enumerate") [.ref t]) Q E s := by
  obtain ⟨⟨c, dd, da, sl⟩, ht, hc, k, hd⟩ := hT
  simp only at hc hd
  subst hc hd
  have sz : (s.heap.push (tupIt t)).objs.size = s.heap.objs.size + 1 := Heap.size_push ..
  have g1 : ((s.heap.push (tupIt t)).push (enumOf s.heap.objs.size)).get? (s.heap.objs.size + 1) = some (enumOf s.heap.objs.size) := by
    rw [← sz]
    exact Heap.get?_push_size _ rfl
  have g0 : ((s.heap.push (tupIt t)).push (enumOf s.heap.objs.size)).get? s.heap.objs.size = some (tupIt t) := Heap.get?_push_of_some _ (Heap.get?_push_size _ rfl)
  refine callType_new F.called_enumerate (by decide) (F.typeCall_enumerate_1 _) (F.newCall_enumerate_1 _) (fun obj => F.args_object_init_2 obj _) F.entry_enumerate_new (mir_enumNew t its k dd sl) ⟨ht, ?_⟩
  show _ ∧ _
  rw [sz]
  exact ⟨⟨_, g1, rfl⟩, h _ g1 ⟨_, g0, rfl, rfl⟩ fun b o x => Heap.get?_push_of_some _ (Heap.get?_push_of_some _ x)⟩
end PySem

namespace Mir
open PySem L2
/-- the turns of enumerate over a tuple -/
def IteT (K : PySem.W.Frag) (a : Addr) : It := ⟨fun i H => ∃ (xs : List V) (x : V), SqT K H a xs ∧ xs[i]? = some x,
  fun i H v H' => ∃ T x, v = .ref T ∧ H T = none ∧ H' = upd H T (.tup [.int (i : Nat), x]) ∧ ∀ xs, SqT K H a xs → xs[i]? = some x, fun i H => ∃ xs : List V, SqT K H a xs ∧ xs.length ≤ i⟩
def EnSt (a e it : Addr) (i : Nat) (h : Heap) : Prop := (∃ old, IsEnum h e it ((i : Nat) : Int) old) ∧ h.IsTupleIter it a i ∧ e ≠ it ∧ a ≠ it ∧ a ≠ e
theorem turn_enT {P : Program} {w : World} {K : PySem.W.Frag} {elts : List Expr} {kk : Nat} {tpos : Pos} (a e it : Addr) : Turn P w K (.Tuple elts kk tpos) (IteT K a) [e, it] e (EnSt a e it) := by
  have two : ∀ {b : Addr}, b ∈ [e, it] → b = e ∨ b = it := fun {b} hb => by simpa using hb
  refine ⟨List.mem_cons_self, fun i h st b hb => ?_, fun i h h' st kp => ?_, ?_, ?_, fun A i s Q E st h => let ⟨⟨_, he⟩, _⟩ := st; wpAny_pyIter_enum he h⟩
  · obtain ⟨⟨old, he⟩, ⟨o, ho, _, hd⟩, _⟩ := st
    cases two hb with
    | inl z => subst z; exact ⟨_, he, fun v q => nomatch q⟩
    | inr z => subst z; exact ⟨o, ho, fun v q => by rw [hd] at q; cases q⟩
  · obtain ⟨⟨old, he⟩, hi, n1, n2, n3⟩ := st
    exact ⟨⟨old, kp e List.mem_cons_self _ he⟩, hi.at fun o q => kp it (List.mem_cons_of_mem _ List.mem_cons_self) o q, n1, n2, n3⟩
  · intro X hP hw hK hc i pins s σ H E I hf st hg
    subst hP hw hK
    obtain ⟨⟨old, he⟩, hi, n1, n2, n3⟩ := st
    obtain ⟨xs, x, hq, hx⟩ := hg
    obtain ⟨its, rv, pt, _⟩ := I.tuple hq
    obtain ⟨u, hu, ru⟩ := rv.get hx
    have le : e < s.heap.objs.size := Heap.lt_size he
    have li : it < s.heap.objs.size := let ⟨_, q, _⟩ := hi; Heap.lt_size q
    have lt : i < its.toArray.size := by rw [List.size_toArray]; exact (List.getElem?_eq_some_iff.mp hu).1
    have isT : s.heap.IsTuple a its.toArray := pt
    have Dr := Draws.tuple (prog := X.prog) (w := X.w) (A := X.A.in1) (show X.A.in1.handled = none from I.ok.hd hc) it a n2 its.toArray
    refine wpAny_pyNext_enum_itemD Dr he ⟨hi, isT⟩ lt n1 (by simp; exact ⟨n1, fun z => n3 z.symm⟩) fun y h' tk hy ho hst' hT hsz hk => ?_
    have ey : y = u := by
      have hy' : its.toArray[i]? = some y := hy
      rw [List.getElem?_toArray, hu] at hy'
      exact (Option.some.inj hy').symm
    subst ey
    refine ⟨_, rfl, wpAny_letOwnedTupleGo_enum (s := { s with heap := h', toks := tk + 1 }) ho fun h2 he2 sb => ?_⟩
    have hT2 : h2.get? s.heap.objs.size = some { cls := .type "tuple", data := .seq #[.int i tk, y] } := (sb.2 _ (Nat.ne_of_gt le)).trans hT
    have hn : H s.heap.objs.size = none := I.hok.fresh (Nat.le_refl _)
    have new : ObjOk X.prog X.w (upd H s.heap.objs.size (.tup [.int (i : Nat), x])) h2 s.heap.objs.size (.tup [.int (i : Nat), x]) := ⟨by show 2 ≤ sizeLine; decide, [.int i tk, y], .cons ⟨_, rfl⟩ (.cons ru .nil), ⟨_, hT2, rfl, _, rfl⟩⟩
    have kp : ∀ b ob, b ∉ [e, it] → s.heap.get? b = some ob → h2.get? b = some ob := fun b ob hb q => by
      have b1 : b ≠ e := fun z => hb (by rw [z]; exact List.mem_cons_self)
      have b2 : b ≠ it := fun z => hb (by rw [z]; exact List.mem_cons_of_mem _ List.mem_cons_self)
      exact (sb.2 b b1).trans (hk b ob b1 b2 q)
    have I1 := I.turnedNew (t' := tk + 1) (ch := [e, it]) kp hf (Nat.le_refl _) new
    refine ⟨.ref s.heap.objs.size, _, I1, rfl, ⟨_, x, rfl, hn, rfl, fun ys hy => by rw [I.tuple_inj hy hq]; exact hx⟩, ⟨⟨y, ?_⟩, hst'.1.at fun o q => (sb.2 it (Ne.symm n1)).trans q, n1, n2, n3⟩, fun b hb => ?_⟩
    · rw [show ((i + 1 : Nat) : Int) = (i : Int) + 1 by omega]
      exact he2
    · have lb : b < s.heap.objs.size := by
        cases two hb with
        | inl z => rw [z]; exact le
        | inr z => rw [z]; exact li
      rw [upd_ne (Nat.ne_of_lt lb)]
      exact (hf b hb).1
  · intro X hP hw hK hc i pins s σ H E I hf st hg
    subst hP hw hK
    obtain ⟨⟨old, he⟩, hi, n1, n2, n3⟩ := st
    obtain ⟨xs, hq, hx⟩ := hg
    obtain ⟨its, rv, pt, _⟩ := I.tuple hq
    obtain ⟨f0, f1, f2, f3, f4, f5⟩ := hf it (List.mem_cons_of_mem _ List.mem_cons_self)
    have isT : s.heap.IsTuple a its.toArray := pt
    have no : its.toArray[i]? = none := by
      rw [List.getElem?_toArray]
      exact List.getElem?_eq_none (by rw [← rv.length]; exact hx)
    -- the walk's end at turn i
    have De : Draws X.prog X.w X.A.in1 it [it, a] i (fun _ _ => True) (fun j h => j = i ∧ h.IsTupleIter it a j ∧ h.IsTuple a its.toArray) := by
      refine ⟨fun j h st => let ⟨o, ho, _⟩ := st.2.1; ⟨o, ho⟩, fun j h h' st hk => ⟨st.1, st.2.1.at fun o q => hk it List.mem_cons_self o q, st.2.2.at fun o q => hk a (List.mem_cons_of_mem _ List.mem_cons_self) o q⟩, fun j s Q E hj st hQ => absurd st.1 (Nat.ne_of_lt hj), fun s Q E st hE => ?_⟩
      exact wpAny_nextOf_tuple_end (show X.A.in1.handled = none from I.ok.hd hc) st.2.1 st.2.2 no hE
    exact wpAny_pyNext_enum_endD De he ⟨rfl, hi, isT⟩ fun h' eb => ⟨rfl, I.turned (t' := s.toks) (fun b o hb q => eb b o hb q) f0 f1 f3 f4 f5⟩
def iEnumT (K : PySem.W.Frag) (ta : TA) : TI := fun σ H R => ta σ H fun vs H1 => ∃ a xs, vs = [.ref a] ∧ SqT K H1 a xs ∧ R (IteT K a) H1
theorem pi_enumT {X : Cx} {e : Expr} {ta : TA} {p pos tpos : Pos} {elts : List Expr} {kk : Nat} (hg : Gl X "enumerate") (hm : X.mg "enumerate" = none) (ha : PA X [e] ta) (hs : starEach [e] X.env = [(false, eval e X.env)] := by rfl) :
    PI X (.Tuple elts kk tpos) (.Call (.Name "enumerate" p) [e] [] pos) (iEnumT X.K ta) := by
  constructor
  intro pins s σ H R I h
  have rd := thn (ha.run pos pins s σ H _ I h) (Q' := fun us s1 => wpAny (model X.prog X.w) X.A (call (.type "enumerate") us) (fun v s2 => wpAny (model X.prog X.w) X.A (pyIter v) (PIE X pins σ (.Tuple elts kk tpos) R) X.xe s2) X.xe s1) fun us s1 ⟨vs, H1, I1, r1, a, xs, ev, hq, q⟩ => by
    subst ev
    obtain ⟨u, eu, ru⟩ := vals1 r1
    subst eu
    cases ru
    obtain ⟨its, rv, pt, _⟩ := I1.tuple hq
    have isT : s1.heap.IsTuple a its.toArray := pt
    have la : a < s1.heap.objs.size := let ⟨_, z, _⟩ := pt; Heap.lt_size z
    refine mir_callEnum isT fun h' he hi hk => wpAny_pyIter_enum he ?_
    refine ⟨s1.heap.objs.size + 1, [s1.heap.objs.size + 1, s1.heap.objs.size], _, _, H1, rfl, I1.kept (t' := s1.toks) hk, turn_enT a (s1.heap.objs.size + 1) s1.heap.objs.size, ⟨⟨.none, he⟩, hi, Nat.succ_ne_self _, Nat.ne_of_lt la, Nat.ne_of_lt (Nat.lt_succ_of_lt la)⟩, fun b hb => ?_, q⟩
    have le : s1.heap.objs.size ≤ b := by
      rcases List.mem_cons.mp hb with z | z
      · rw [z]
        exact Nat.le_succ _
      · rw [List.mem_singleton.mp z]
        exact Nat.le_refl _
    exact I1.fpOk le (I1.hok.fresh le)
  exact PyProof.Rows.Call_ (ld_blt I hg hm PyProof.Rows.boot_enumerate (PyProof.Rows.callWith_type1 rd hs rfl))

/-! ### walks over data: enumerate, zip, a list that only this def holds -/
def enumD (ds : List Da) : List Da := ds.zipIdx.map fun p => .tuple [.int (p.2 : Nat), p.1]
theorem enumD_get (ds : List Da) (i : Nat) : (enumD ds)[i]? = ds[i]?.map fun d => .tuple [.int (i : Nat), d] := by
  unfold enumD
  rw [List.getElem?_map, List.getElem?_zipIdx, Nat.zero_add]
  cases ds[i]? <;> rfl
theorem enumD_len (ds : List Da) : (enumD ds).length = ds.length := by
  unfold enumD
  rw [List.length_map, List.length_zipIdx]
section
variable {K : PySem.W.Frag} {H1 : Hp} {F1 : Frz} {a b : Addr} {vs ws : List V} {ds es : List Da}
theorem pair_new {H : Hp} {F : Frz} {x y : V} {d e : Da} {T : Addr} (fo : Fo F H) (n : H T = none) (h1 : Rp K H F x d) (h2 : Rp K H F y e) : ∃ F', Gr F H F' (upd H T (.tup [x, y])) ∧ Rp K (upd H T (.tup [x, y])) F' (.ref T) (.tuple [d, e]) :=
  ⟨_, Gr.new fo n, rp_newT fo n (.cons h1 (.cons h2 .nil))⟩
theorem it_enumL (r : RL K H1 F1 a vs) (t : RpA K H1 F1 vs ds) : ItD K (Ite K a) (enumD ds) F1 H1 := fun i H F st fo => by
  have r' := r.stay st
  have t' := t.st st
  refine ⟨fun h => ⟨vs, r'.sq, by rw [t.len, ← enumD_len]; exact h⟩, fun d hd => ?_⟩
  rw [enumD_get] at hd
  obtain ⟨e, he, ed⟩ := Option.map_eq_some_iff.mp hd
  subst ed
  obtain ⟨v, h1, rv⟩ := t'.get he
  refine ⟨⟨vs, v, r'.sq, h1⟩, fun x H' ⟨T, y, e1, n, e2, hx⟩ => ?_⟩
  have e3 := hx vs r'.sq
  rw [h1] at e3
  cases e3
  subst e1 e2
  exact pair_new fo n (.int _) rv
theorem it_enumT (r : RT K H1 F1 a vs) (t : RpA K H1 F1 vs ds) : ItD K (IteT K a) (enumD ds) F1 H1 := fun i H F st fo => by
  have r' := r.stay st
  have t' := t.st st
  refine ⟨fun h => ⟨vs, r'.sq, by rw [t.len, ← enumD_len]; exact h⟩, fun d hd => ?_⟩
  rw [enumD_get] at hd
  obtain ⟨e, he, ed⟩ := Option.map_eq_some_iff.mp hd
  subst ed
  obtain ⟨v, h1, rv⟩ := t'.get he
  refine ⟨⟨vs, v, r'.sq, h1⟩, fun x H' ⟨T, y, e1, n, e2, hx⟩ => ?_⟩
  have e3 := hx vs r'.sq
  rw [h1] at e3
  cases e3
  subst e1 e2
  exact pair_new fo n (.int _) rv
def zipD : List Da → List Da → List Da
  | d :: ds, e :: es => .tuple [d, e] :: zipD ds es
  | _, _ => []
theorem zipD_get : ∀ (ds es : List Da) (i : Nat) (x : Da), (zipD ds es)[i]? = some x → ∃ d e, ds[i]? = some d ∧ es[i]? = some e ∧ x = .tuple [d, e]
  | [], _, _, _, h => by simp [zipD] at h
  | _ :: _, [], _, _, h => by simp [zipD] at h
  | d :: ds, e :: es, 0, x, h => by
    simp [zipD] at h
    exact ⟨d, e, rfl, rfl, h.symm⟩
  | d :: ds, e :: es, i + 1, x, h => by
    obtain ⟨d', e', h1, h2, h3⟩ := zipD_get ds es i x (by simpa [zipD] using h)
    exact ⟨d', e', by simpa using h1, by simpa using h2, h3⟩
theorem zipD_len : ∀ (ds es : List Da), (zipD ds es).length = min ds.length es.length
  | [], _ => by simp [zipD]
  | _ :: _, [] => by simp [zipD]
  | d :: ds, e :: es => by
    simp only [zipD, List.length_cons, zipD_len ds es]
    omega
theorem it_zipL (r : RL K H1 F1 a vs) (t : RpA K H1 F1 vs ds) (r2 : RL K H1 F1 b ws) (t2 : RpA K H1 F1 ws es) : ItD K (Itz K a b) (zipD ds es) F1 H1 := fun i H F st fo => by
  have ra := r.stay st
  have rb := r2.stay st
  have ta := t.st st
  have tb := t2.st st
  refine ⟨fun h => ⟨vs, ws, ra.sq, rb.sq, ?_⟩, fun x hx => ?_⟩
  · rw [zipD_len] at h
    rw [t.len, t2.len]
    omega
  · obtain ⟨d, e, hd, he, ex⟩ := zipD_get ds es i x hx
    subst ex
    obtain ⟨v, h1, rv⟩ := ta.get hd
    obtain ⟨w, h2, rw'⟩ := tb.get he
    refine ⟨⟨vs, ws, v, w, ra.sq, rb.sq, h1, h2⟩, fun x H' ⟨T, y, z, e1, n, e2, hy, hz⟩ => ?_⟩
    have e3 := hy vs ra.sq
    have e4 := hz ws rb.sq
    rw [h1] at e3
    rw [h2] at e4
    cases e3
    cases e4
    subst e1 e2
    exact pair_new fo n rv rw'
theorem it_zipT (r : RT K H1 F1 a vs) (t : RpA K H1 F1 vs ds) (r2 : RT K H1 F1 b ws) (t2 : RpA K H1 F1 ws es) : ItD K (RZ.ItzT K a b) (zipD ds es) F1 H1 := fun i H F st fo => by
  have ra := r.stay st
  have rb := r2.stay st
  have ta := t.st st
  have tb := t2.st st
  refine ⟨fun h => ⟨vs, ws, ra.sq, rb.sq, ?_⟩, fun x hx => ?_⟩
  · rw [zipD_len] at h
    rw [t.len, t2.len]
    omega
  · obtain ⟨d, e, hd, he, ex⟩ := zipD_get ds es i x hx
    subst ex
    obtain ⟨v, h1, rv⟩ := ta.get hd
    obtain ⟨w, h2, rw'⟩ := tb.get he
    refine ⟨⟨vs, ws, v, w, ra.sq, rb.sq, h1, h2⟩, fun x H' ⟨T, y, z, e1, n, e2, hy, hz⟩ => ?_⟩
    have e3 := hy vs ra.sq
    have e4 := hz ws rb.sq
    rw [h1] at e3
    rw [h2] at e4
    cases e3
    cases e4
    subst e1 e2
    exact pair_new fo n rv rw'
end
section
variable {X : Cx} {ow : List Nat} {e e2 : Expr} {fe : Md Da} {fl : Md (List Da)} {p pos tpos : Pos} {elts : List Expr} {kk : Nat} {tg : Expr}
def enL : List Da → Option (List Da)
  | [.list ds] => some (enumD ds)
  | _ => none
def enT : List Da → Option (List Da)
  | [.tuple ds] => some (enumD ds)
  | _ => none
theorem i_enumL (hg : Gl X "enumerate") (hm : X.mg "enumerate" = none) (ha : GA X ow [e] fl) (hs : starEach [e] X.env = [(false, eval e X.env)] := by rfl) : GI X ow (.Tuple elts kk tpos) (.Call (.Name "enumerate" p) [e] [] pos) (mBind fl fun ds => mOpt (enL ds)) :=
  pi_w (pi_enum hg hm ha hs) fun σ H R ⟨B, F, ρ, ds, ρ', c, hf, q⟩ => by
  obtain ⟨es, ρ1, h1, hf⟩ := bind_inv hf
  obtain ⟨hg, rfl⟩ := opt_inv hf
  unfold enL at hg
  split at hg
  · cases hg
    refine ⟨B, F, ρ, _, _, c, h1, fun vs H1 F1 c1 l1 r1 => ?_⟩
    cases r1 with
    | cons r t =>
      cases t
      obtain ⟨a, xs, ev, rl, ra⟩ := r.list_inv
      exact ⟨a, xs, by rw [ev], rl.sq, q _ H1 F1 c1 l1 (it_enumL rl ra)⟩
  · cases hg
theorem i_enumT (hg : Gl X "enumerate") (hm : X.mg "enumerate" = none) (ha : GA X ow [e] fl) (hs : starEach [e] X.env = [(false, eval e X.env)] := by rfl) : GI X ow (.Tuple elts kk tpos) (.Call (.Name "enumerate" p) [e] [] pos) (mBind fl fun ds => mOpt (enT ds)) :=
  pi_w (pi_enumT hg hm ha hs) fun σ H R ⟨B, F, ρ, ds, ρ', c, hf, q⟩ => by
  obtain ⟨es, ρ1, h1, hf⟩ := bind_inv hf
  obtain ⟨hg, rfl⟩ := opt_inv hf
  unfold enT at hg
  split at hg
  · cases hg
    refine ⟨B, F, ρ, _, _, c, h1, fun vs H1 F1 c1 l1 r1 => ?_⟩
    cases r1 with
    | cons r t =>
      cases t
      obtain ⟨a, xs, ev, rl, ra⟩ := r.tup_inv
      exact ⟨a, xs, by rw [ev], rl.sq, q _ H1 F1 c1 l1 (it_enumT rl ra)⟩
  · cases hg
def zp : List Da → Option (List Da)
  | [.tuple ds, .tuple es] => some (zipD ds es)
  | [.list ds, .list es] => some (zipD ds es)
  | _ => none
theorem i_zip (hg : Gl X "zip") (hm : X.mg "zip" = none) (ha : GA X ow [e, e2] fl) (hs : starEach [e, e2] X.env = (false, eval e X.env) :: starEach [e2] X.env := by rfl) (hpl : (backTo pos (starEach [e2] X.env)).any (·.1) = false := by rfl) :
    GI X ow (.Tuple elts kk tpos) (.Call (.Name "zip" p) [e, e2] [] pos) (mBind fl fun ds => mOpt (zp ds)) := pi_w (RZ.pi_zipA hg hm ha hs hpl) fun σ H R ⟨B, F, ρ, ds, ρ', c, hf, q⟩ => by
  obtain ⟨es, ρ1, h1, hf⟩ := bind_inv hf
  obtain ⟨hg, rfl⟩ := opt_inv hf
  unfold zp at hg
  split at hg
  · cases hg
    refine ⟨B, F, ρ, _, _, c, h1, fun vs H1 F1 c1 l1 r1 => ?_⟩
    cases r1 with
    | cons r t =>
      cases t with
      | cons r' t =>
        cases t
        obtain ⟨a, xs, ev, rl, ra⟩ := r.tup_inv
        obtain ⟨b, ys, ev2, rl2, ra2⟩ := r'.tup_inv
        exact ⟨a, b, xs, ys, by rw [ev, ev2], .inr ⟨rl.sq, rl2.sq, q _ H1 F1 c1 l1 (it_zipT rl ra rl2 ra2)⟩⟩
  · cases hg
    refine ⟨B, F, ρ, _, _, c, h1, fun vs H1 F1 c1 l1 r1 => ?_⟩
    cases r1 with
    | cons r t =>
      cases t with
      | cons r' t =>
        cases t
        obtain ⟨a, xs, ev, rl, ra⟩ := r.list_inv
        obtain ⟨b, ys, ev2, rl2, ra2⟩ := r'.list_inv
        exact ⟨a, b, xs, ys, by rw [ev, ev2], .inl ⟨rl.sq, rl2.sq, q _ H1 F1 c1 l1 (it_zipL rl ra rl2 ra2)⟩⟩
  · cases hg
end
end Mir

set_option Elab.async false
set_option linter.all false
set_option maxRecDepth 100000
set_option maxHeartbeats 4000000
namespace Mir
open PySem PySem.Spec PyProof.Rows L2

/-! ### the law's call, over a promise that wants no guard -/
section
variable {P : Program} {w : World} {K : PySem.W.Frag} {mg mb : Str → Option Value} {k : Nat} {fa a : Addr} {fd : FuncData} {x : Str} {sp : Sp} {s : Shared} {vs : List Value} {ns : List Int}
abbrev scr (vs : List Value) : Obj := { cls := .type "list", data := .seq vs.toArray }
/-- the base: the heap without the script -/
theorem base_get {h : Heap} {H : Hp} {b : Addr} {o : Obj} (e : h.get? b = some o) (n : H b = none) : (hidT h H).get? b = some o := hidT_get e n
theorem lawG1 (H : Hp) (hH : ∀ b u, H b = some u → b = a ∧ u = .frz (scr vs) (.lst (ns.map V.int))) (hK : H a ≠ none → K.lookup a = none) (hS : SqL K H a (ns.map V.int)) (ok : HOk P w H s.heap)
    (KX : K.In s.heap) (hns : s.heap.Ns mainGlobals mg) (hb : s.heap.Ns builtinsNs mb) (hbb : ∀ x : Str, x ≠ "__name__" → mb x = bootBuiltins x) (hlim : s.heap.NoLimit) (hg : s.gens = #[])
    (ha : s.heap.get? a = some (scr vs)) (hr : Room k callerA) (F : ∀ base : Heap, K.In base → base.Ns mainGlobals mg → FnG P w K mg base k fa fd [x] sp) (hbind : ∀ (s : Shared) (u : Value), BindsTo s fd ⟨[u], []⟩ [(x, u)])
    (hsp : sp [.ref a] H (fun v _ => v = .bl true) fun _ _ _ => False) :
    codeAny (model P w) callerA (.call (.ref fa) ⟨[.ref a], []⟩) (fun r s' => r = .ok (.ret (.bool true)) ∧ OldK s.heap s'.heap ∧ s'.os = s.os ∧ AllBare s'.gens) s := by
  -- a dict is never the script
  have nd : ∀ {b : Addr} {o : Obj} {es : Array DictEntry} {ep : Nat}, s.heap.get? b = some o → o.data = .dict es ep → H b = none := by
    intro b o es ep e d
    cases q : H b with
    | none => rfl
    | some u =>
      have eb := (hH b u q).1
      rw [eb, ha] at e
      cases e
      exact nomatch (show Data.seq vs.toArray _ = Data.dict es ep from d)
  have ns' : ∀ {b : Addr} {m : Str → Option Value}, s.heap.Ns b m → (hidT s.heap H).Ns b m := fun n => by
    obtain ⟨o, es, ep, e, d, r⟩ := n
    exact ⟨o, es, ep, base_get e (nd e d), d, r⟩
  have kin : K.In (hidT s.heap H) := by
    intro b o e
    refine base_get (KX b o e) ?_
    cases q : H b with
    | none => rfl
    | some u =>
      have eb := (hH b u q).1
      rw [eb] at e q
      rw [hK (by rw [q]; exact fun z => nomatch z)] at e
      cases e
  have lim : (hidT s.heap H).NoLimit := by
    obtain ⟨mc, h1, h2⟩ := hlim
    exact ⟨mc, ns' h1, h2⟩
  have en : Env0 P w K mg (hidT s.heap H) callerA [] s H := ⟨rfl, ⟨kin, ns' hns, ⟨mb, ns' hb, hbb⟩, lim⟩, fun b o e => of_hidT e, Nat.le_of_eq (hidT_size _ _), trivial, (fun b z => absurd (show b ∈ ([] : List Addr) from z) (by simp)), ok, .of_eq hg⟩
  have run := (F _ kin (ns' hns)).run callerA [] s H ⟨[.ref a], []⟩ [.ref a] [.ref a] _ _ hr rfl en (hbind s (.ref a)) (.cons rfl .nil) hsp
  refine codeAny_mono run fun r s' h => ?_
  match r, h with
  | .error _, z => exact False.elim z
  | .ok .next, z => exact False.elim z
  | .ok .brk, z => exact False.elim z
  | .ok .cont, z => exact False.elim z
  | .ok (.ret u), ⟨v, H', os, bare, un, ok', rv, ev⟩ =>
    have ev' : v = .bl true := ev
    subst ev'
    cases (show u = Value.bool true from rv)
    refine ⟨rfl, OldK.of_keep fun b o e => ?_, os, bare⟩
    cases q : H b with
    | none => exact un.keep b o e q (fun z => absurd (show b ∈ ([] : List Addr) from z) (by simp)) (fun z => absurd (show b ∈ ([] : List Addr) from z) (by simp))
    | some u =>
      obtain ⟨eb, eu⟩ := hH b u q
      subst eu
      have z1 := (ok b _ q).1
      have z2 := (ok' b _ (un.frzs b _ _ q)).1
      rw [e] at z1
      cases z1
      exact z2
theorem lawG (KX : K.In s.heap) (hns : s.heap.Ns mainGlobals mg) (hb : s.heap.Ns builtinsNs mb) (hbb : ∀ x : Str, x ≠ "__name__" → mb x = bootBuiltins x) (hlim : s.heap.NoLimit) (hg : s.gens = #[])
    (ha : s.heap.get? a = some (scr vs)) (hi : IntsAre vs ns) (hl : ns.length ≤ sizeLine) (hr : Room k callerA) (F : ∀ base : Heap, K.In base → base.Ns mainGlobals mg → FnG P w K mg base k fa fd [x] sp) (hbind : ∀ (s : Shared) (u : Value), BindsTo s fd ⟨[u], []⟩ [(x, u)])
    (hsp : ∀ (H : Hp) (F : Frz), Fo F H → RL K H F a (ns.map V.int) → sp [.ref a] H (fun v _ => v = .bl true) fun _ _ _ => False) :
    codeAny (model P w) callerA (.call (.ref fa) ⟨[.ref a], []⟩) (fun r s' => r = .ok (.ret (.bool true)) ∧ OldK s.heap s'.heap ∧ s'.os = s.os ∧ AllBare s'.gens) s := by
  have rv := vals_ints hi
  have ln := hi.length
  cases hk : K.lookup a with
  | some o =>
    have e := KX a o hk
    rw [ha] at e
    cases e
    have S : SqL K H00 a (ns.map V.int) := .inr ⟨_, vs.toArray, _, hk, rfl, rfl, rfl, by rw [List.size_toArray, ln]; exact hl, by simpa using rv⟩
    exact lawG1 H00 (fun b u z => by cases z) (fun z => absurd rfl z) S (fun b u z => by cases z) KX hns hb hbb hlim hg ha hr F hbind (hsp H00 (fun _ => False) (fun _ z => z.elim) (.inr S))
  | none =>
    let H : Hp := upd H00 a (.frz (scr vs) (.lst (ns.map V.int)))
    have hH : ∀ b u, H b = some u → b = a ∧ u = .frz (scr vs) (.lst (ns.map V.int)) := fun b u z => by
      by_cases e : b = a
      · rw [e, show H a = _ from upd_same] at z
        cases z
        exact ⟨e, rfl⟩
      · rw [show H b = _ from upd_ne e] at z
        cases z
    have rd : Rd H a (.lst (ns.map V.int)) := .inr ⟨scr vs, upd_same⟩
    refine lawG1 H hH (fun _ => hk) (.inl rd) (fun b u z => ?_) KX hns hb hbb hlim hg ha hr F hbind (hsp H (fun b => b = a) (fun b e => ?_) (.inl ⟨rfl, rd⟩))
    · obtain ⟨e, eu⟩ := hH b u z
      subst e eu
      exact ⟨ha, by rw [List.length_map]; exact hl, vs, _, rv, ha⟩
    · rw [e, show H a = _ from upd_same]
      exact fun z => nomatch z
end
theorem walkG {l : PySem.W.OpenLaw} {n k : Nat} {q : Program} {loose : List Str} {XP : (Str → Option Value) → Heap → Prop} {YP : World → Heap → Prop} {d : DefRec} {K : Params → PySem.W.Frag} {mf : List Da → Option Da} {x : Str} (hn : l.most = some n) (hn2 : n ≤ sizeLine) (hdf : d.params.defaults = []) (hr : Room k callerA)
    (hY : ∀ (w : World) (h : Heap), YP w h → (K w.params).In h)
    (Fd : ∀ (w : World) (tops : Str → Option Value) (fa : Addr) (h : Heap), (K w.params).In h → h.Ns mainGlobals tops →
      tops d.name = some (.ref fa) →
      ∃ fd : FuncData, (∀ (s : Shared) (u : Value), BindsTo s fd ⟨[u], []⟩ [(x, u)]) ∧ ∀ base : Heap, (K w.params).In base → base.Ns mainGlobals tops → FnG l.prog w (K w.params) tops base k fa fd [x] (spP (K w.params) 1 mf))
    (hm : ∀ ns : List Int, ns.length ≤ n → mf [.list (ns.map .int)] = some (.bool true)) : PySem.W.WalkO q loose XP YP l.row.toRowW d [] (fun f vs => PySem.call f vs) := by
  refine Att.attach_call hn hdf fun w s0 s1 tops mb fa o pm cd doc a vs ns G Y h1 h2 h3 hmg hobj hints hlen hg => ?_
  have kx := hY w _ Y
  obtain ⟨fd, hb, hF⟩ := Fd w tops fa _ kx G.T.g hmg
  refine lawG kx G.T.g G.T.b G.T.builtins G.T.nolimit hg hobj hints (Nat.le_trans hlen hn2) hr hF hb fun H Fz fo rl => ?_
  exact ⟨Fz, [.list (ns.map .int)], .bool true, fo, .cons (.lst rl ints_mk) .nil, rfl, hm ns hlen, fun v H' F' _ r => r.bool_inv⟩
end Mir

set_option Elab.async false
set_option linter.all false
set_option maxRecDepth 100000
set_option maxHeartbeats 4000000
namespace Mir
open PySem PySem.Spec PyProof.Rows L2

/-! ### a name = a list that is made on the spot -/
section
variable {X : Cx} {ow : List Nat} {st : Stmt} {fe : Md Da} {fl : Md (List Da)} {i : Nat}
theorem fz_go (σ : L2.St) (H : Hp) (Q : VK) (h : tE X.K ow (mOfL fl) σ H Q) : tL X.K ow fl σ H Q := by
  obtain ⟨B, F, ρ, d, ρ', c, hf, q⟩ := h
  obtain ⟨xs, ρ1, h1, hf⟩ := bind_inv hf
  cases hf
  refine ⟨B, F, ρ, _, _, c, h1, fun p vs H1 F1 c1 l1 np hp nf hn r1 => ?_⟩
  exact q (.ref p) H1 (frz1 F1 p) (c1.freeze hp nf hn (c.new np)) l1.freeze (.lst (.inl ⟨.inr rfl, .inl hp⟩) (r1.st fun a fa => ⟨.inl fa, rfl⟩))
theorem set_go {te : TE} (hE : ∀ σ H Q, tE X.K ow fe σ H Q → te σ H Q) (ho : i ∉ ow) (D : Ends) (σ : L2.St) (H : Hp) (h : tS X.K ow (mSet i fe) D σ H) : tAsg te (gName i) D σ H := by
  obtain ⟨B, F, ρ, o, c, hf, a⟩ := h
  obtain ⟨d, ρ1, h1, hf⟩ := do_inv hf
  cases hf
  exact hE σ H _ ⟨B, F, ρ, d, ρ1, c, h1, fun v H1 F1 c1 l1 r1 => a _ H1 F1 (c1.set r1 ho) l1⟩
variable {fi : Md (List Da)} {f : Da → Sto → Option Sto} {tt : Md Bool} {te : Md Da} {vs ts : List Nat}
theorem s_lcset (h : PS X st (tAsg (tLc (tI X.K ow fi) (gOf X.K ow ts f) (tT X.K ow tt) (tE X.K ow te) vs) (gName i))) (hv : ∀ v ∈ vs, v ∉ ow) (hts : ∀ t ∈ ts, t ∈ vs) (ho : i ∉ ow) : GS X ow st (mSet i (mOfL (mLc fi f tt te vs))) :=
  ps_w h (set_go (fun σ H Q q => lc_go hv hts σ H Q (fz_go σ H Q q)) ho)
theorem s_lcsetO (h : PS X st (tAsg (tLc (tI X.K ow fi) (gOf X.K ow ts f) (tT X.K ow tt) (tE X.K ow te) vs) (gName i))) (hv : ∀ v ∈ vs, v ∉ ow) (hts : ∀ t ∈ ts, t ∈ vs) (ho : i ∈ ow) (h0 : i ≠ 0) : GS X ow st (mSetO i (mLc fi f tt te vs)) :=
  ps_w h (setO_go (fun σ H Q q => lc_go hv hts σ H Q q) ho h0)
end

/-! ### a def that gives a new list -/
def spL (K : PySem.W.Frag) (n : Nat) (mf : List Da → Option (List Da)) : Sp := fun vs H Q _ => ∃ F ds es, Fo F H ∧ RpA K H F vs ds ∧ ds.length = n ∧ mf ds = some es ∧
  ∀ p us H' F', Gr F H F' H' → H p = none → H' p = some (.lst us) → ¬ F' p → RpA K H' F' us es → Q (.ref p) H'
def runL (n : Nat) (f : Md (List Da)) : List Da → Option (List Da) := fun ds => (f (sto0 n ds)).map (·.1)
section
variable {P : Program} {w : World} {K : PySem.W.Frag} {mg : Str → Option Value} {base : Heap} {k : Nat} {f : Addr} {fd : FuncData} {ps N : List Str} {x qual : Str} {st : Stmt} {fl : Md (List Da)} {e : Expr} {pos : Pos}
theorem cr0 {H : Hp} {F : Frz} {vs : List V} {ds : List Da} {ow : List Nat} (fo : Fo F H) (r : RpA K H F vs ds) (hl : vs.length ≤ N.length) (how : ∀ i ∈ ow, ds.length ≤ i) : Cr K ⟨H, F, none⟩ ow (L2.start N vs) H F (sto0 N.length ds) := by
  have hlv := r.len
  refine ⟨?_, fun i d h1 h2 => ?_, fun i d h1 h2 => ?_, fun i j p hi hj _ ⟨d, hd⟩ => ?_, fo, fun a o e => .inr e, fun a e => e, fun a e => .inl e, fun p e => nomatch e⟩
  · rw [start_len hl]
    unfold sto0
    rw [List.length_append, List.length_map, List.length_replicate]
    omega
  · obtain ⟨v, h3, rv⟩ := r.get (sto0_get h1).2
    exact ⟨v, start_get h3, rv⟩
  · have h3 := (sto0_get h1).1
    have h4 := how i h2
    omega
  · have h3 := (sto0_get hd).1
    have h4 := how i hi
    omega
/-- its body is: return e -/
theorem fnL (T : Fun K x qual st f fd) (S : FnScope N ps (defScope st)) (hbd : defBody st = [.Return (some e) pos])
    (hb : ∀ (cdv : Value) (A : Around) (outer : List Env) (s : Shared) (H : Hp) (E : XK), Room k (A.deeper (envOfC qual (defScope st) s.heap.objs.size f cdv)) → (A.deeper (envOfC qual (defScope st) s.heap.objs.size f cdv)).guards = some [] →
      PE (cxOf CX0 P w K mg base N qual (defScope st) f cdv A outer s H E).nox e (tL K [] fl)) : FnG P w K mg base (k + 1) f fd ps (spL K ps.length (runL N.length fl)) := by
  have hp := pre_le S
  refine fnG T S (fun vs H Q E ⟨F, ds, es, _, r, hl, _⟩ => r.len.trans hl) fun cdv A outer s H vs Q E hr hgd ⟨F, ds, es, fo, r, hl, hm, q⟩ => ⟨_, by rw [hbd]; exact pss_one (ps_ret (hb cdv A outer s H E hr hgd)), ?_⟩
  have c0 := cr0 (ow := []) (N := N) fo r (by rw [r.len]; omega) (fun i h => by cases h)
  unfold runL at hm
  obtain ⟨⟨es', ρ'⟩, h1, h2⟩ := Option.map_eq_some_iff.mp hm
  cases h2
  refine ⟨_, F, _, _, _, c0, h1, fun p us H' F' c l np hp nf hn r' => ?_⟩
  refine q p us H' F' ⟨fun a o e => ?_, c.b2, c.b3, c.fo⟩ np hp nf r'
  rcases c.b1 a o e with z | z
  · cases z
  · exact z
end
section
variable {X : Cx} {ow : List Nat} {k : Nat} {f : Addr} {fd : FuncData} {ps : List Str} {x : Str} {p pos : Pos} {e : Expr} {es : List Expr} {fs : Md (List Da)}
def mFnL (n : Nat) (g : List Da → Option (List Da)) (fs : Md (List Da)) : Md (List Da) := mBind fs fun ds => if ds.length = n then mOpt (g ds) else fun _ => none
theorem l_call {n : Nat} {mf : List Da → Option (List Da)} (G : FnG X.prog X.w X.K X.mg X.base k f fd ps (spL X.K n mf)) (hr : Room k X.A) (hgd : X.A.guards = some []) (hg : Gl X x) (hm : X.mg x = some (.ref f)) (hk : PySem.W.keepIn X.K (.ref f) = true) (hb : Binds X.K fd ps [])
    (ha : GA X ow (e :: es) fs) (hdb : (x == ("__debug__" : Str)) = false := by decide) (he : starEach (e :: es) X.env = (false, eval e X.env) :: starEach es X.env := by rfl) (hpl : (backTo pos (starEach es X.env)).any (·.1) = false := by rfl) :
    GL X ow (.Call (.Name x p) (e :: es) [] pos) (mFnL n mf fs) := pe_w (pe_callG G hr hgd hg hm hk hb ha hdb he hpl) fun σ H Q ⟨B, F, ρ, d, ρ', c, hf, q⟩ => by
  obtain ⟨ds, ρ1, h1, hf⟩ := bind_inv hf
  by_cases hl : ds.length = n
  · rw [if_pos hl] at hf
    obtain ⟨hg2, rfl⟩ := opt_inv hf
    refine ⟨B, F, ρ, ds, _, c, h1, fun vs H1 F1 c1 l1 r1 => ?_⟩
    refine ⟨F1, ds, d, c1.fo, r1, hl, hg2, fun p us H2 F2 gr np hp nf r2 => ?_⟩
    exact q p us H2 F2 (c1.grow gr) (l1.trans (gr.le c1.fo)) (l1.back np) hp nf (c1.away np) r2
  · rw [if_neg hl] at hf
    cases hf
/-- list(xs), as a new list -/
theorem l_list (hg : Gl X "list") (hm : X.mg "list" = none) (ha : GA X ow [e] fs) (he : starEach [e] X.env = (false, eval e X.env) :: starEach [] X.env := by rfl) (hpl : (backTo pos (starEach [] X.env)).any (·.1) = false := by rfl) :
    GL X ow (.Call (.Name "list" p) [e] [] pos) (mBind fs fun ds => mOpt (gListOf ds)) := pe_w (pe_callTy call_list_of hg hm (by decide +kernel) ha (by decide) (by decide) he hpl) fun σ H Q ⟨B, F, ρ, d, ρ', c, hf, q⟩ => by
  obtain ⟨ds, ρ1, h1, hf⟩ := bind_inv hf
  obtain ⟨hg2, rfl⟩ := opt_inv hf
  refine ⟨B, F, ρ, ds, _, c, h1, fun vs H1 F1 c1 l1 r1 => ?_⟩
  unfold gListOf at hg2
  split at hg2
  · obtain ⟨v, ev, hv⟩ := r1.bw.one
    obtain ⟨a, ys, e2, s, t⟩ := items_go hv hg2
    refine ⟨a, ys, by rw [ev, e2], s, fun l nl => ?_⟩
    have gr := Gr.new0 (o := .lst ys) c1.fo nl
    exact q l ys _ F1 (c1.grow gr) (l1.trans (gr.le c1.fo)) (l1.back nl) upd_same (fun z => c1.fo l z nl) (c1.away nl) (t.st (gr.stay c1.fo))
  · cases hg2
/-- f(new list, ..), f changes its first argument: that list is forgotten -/
def mFnIF (n : Nat) (g : List Da → List Da → Option (Da × List Da)) (fl fs : Md (List Da)) : Md Da := mBind fl fun pds => mBind fs fun ds => if ds.length + 1 = n then mOpt ((g pds ds).map (·.1)) else fun _ => none
theorem e_callIF {n : Nat} {fl : Md (List Da)} {mf : List Da → List Da → Option (Da × List Da)} (G : FnG X.prog X.w X.K X.mg X.base k f fd ps (spI X.K n mf)) (hr : Room k X.A) (hgd : X.A.guards = some []) (hg : Gl X x) (hm : X.mg x = some (.ref f)) (hk : PySem.W.keepIn X.K (.ref f) = true) (hb : Binds X.K fd ps [])
    (h1 : GL X ow e fl) (ha : GA X ow es fs) (hdb : (x == ("__debug__" : Str)) = false := by decide) (he : starEach (e :: es) X.env = (false, eval e X.env) :: starEach es X.env := by rfl) (hpl : (backTo pos (starEach es X.env)).any (·.1) = false := by rfl) :
    GE X ow (.Call (.Name x p) (e :: es) [] pos) (mFnIF n mf fl fs) := pe_w (pe_callG G hr hgd hg hm hk hb (pa_cons h1 ha he) hdb he hpl) fun σ H Q ⟨B, F, ρ, d, ρ', c, hf, q⟩ => by
  obtain ⟨pds, ρ1, g1, hf⟩ := bind_inv hf
  obtain ⟨ds, ρ2, g2, hf⟩ := bind_inv hf
  split at hf
  · rename_i hl
    obtain ⟨hg2, rfl⟩ := opt_inv hf
    obtain ⟨⟨d', pds'⟩, hg3, ed⟩ := Option.map_eq_some_iff.mp hg2
    cases ed
    refine ⟨B, F, ρ, pds, ρ1, c, g1, fun p0 pv H1 F1 c1 l1 np hp nf hn rp => ?_⟩
    have nb := c.new np
    have nBF : ¬ B.F p0 := fun z => nf (c1.b2 p0 z)
    have nP : B.pen ≠ some p0 := fun z => by
      obtain ⟨h0, h2, d, h3⟩ := c1.pn p0 z
      exact hn 0 d h3 h0 h2
    refine ⟨B.plus p0 (.lst pv), F1, ρ1, ds, _, c1.plus hp nf nb hn, g2, fun us H2 F2 c2 l2 r2 => ?_⟩
    obtain ⟨c3, hp3, nf3, hn3⟩ := c2.minus nb nP nBF
    refine ⟨F2, p0, pv, pds, us, ds, _, pds', rfl, c3.fo, nf3, hp3, rp.st l2.st, r2, hl, hg3, fun v H3 F3 pv' bt hp4 rp4 r4 => ?_⟩
    have le := bt.le c3.fo nf3 hp3 hp4
    have c4 : Cr X.K B ow σ H3 F3 ρ' := by
      refine ⟨c3.len, fun i d h1 h2 => ?_, fun i d h1 h2 => ?_, c3.dj, bt.fo, fun a o e => ?_, fun a z => bt.kp a (c3.b2 a z), fun a z => ?_, c3.pn⟩
      · obtain ⟨v, e, r⟩ := c3.sl i d h1 h2
        exact ⟨v, e, r.st le.st⟩
      · obtain ⟨q', es', us', e1, e2, e3, e4, e5, e6⟩ := c3.lo i d h1 h2
        refine ⟨q', es', us', e1, e2, bt.ex q' _ (fun z => hn3 i d h1 h2 (by rw [← z]; exact e2)) e3, fun z => ?_, e5, e6.st le.st⟩
        rcases bt.nw q' z with z | z
        · exact e4 z
        · rw [e3] at z; cases z
      · rcases c3.b1 a o e with z | z
        · exact .inl z
        · exact .inr (bt.ex a o (fun w => by rw [w, nb] at e; cases e) z)
      · rcases bt.nw a z with y | y
        · exact c3.b3 a y
        · exact .inr (c3.new y)
    exact q v H3 F3 c4 ((l1.trans l2).trans le) r4
  · cases hf
def gNeg : Da → Option Da
  | .int i => some (.int (-i))
  | _ => none
theorem od_neg {K : PySem.W.Frag} : UnD K (rU fun i => .int (-i)) gNeg := fun H F x dx d fo hx hg Q q => by
  unfold gNeg at hg
  split at hg
  · cases hg
    exact ⟨_, hx.int_inv, q _ H F (Gr.refl fo) (.int _)⟩
  · cases hg
end

/-! ### where the built-in names lead -/
theorem bt_len : bootBuiltins "len" = some (.builtin "len") := by decide +kernel
theorem bt_repr : bootBuiltins "repr" = some (.builtin "repr") := by decide +kernel
theorem bt_any : bootBuiltins "any" = some (.builtin "any") := by decide +kernel
theorem bt_all : bootBuiltins "all" = some (.builtin "all") := by decide +kernel
theorem bt_sum : bootBuiltins "sum" = some (.builtin "sum") := by decide +kernel
theorem bt_max : bootBuiltins "max" = some (.builtin "max") := by decide +kernel
theorem bt_min : bootBuiltins "min" = some (.builtin "min") := by decide +kernel
theorem bt_sorted : bootBuiltins "sorted" = some (.builtin "sorted") := by decide +kernel
theorem bt_tuple : bootBuiltins "tuple" = some (.type "tuple") := by decide +kernel
theorem bt_list : bootBuiltins "list" = some (.type "list") := by decide +kernel
theorem bt_int : bootBuiltins "int" = some (.type "int") := by decide +kernel
theorem bt_bool : bootBuiltins "bool" = some (.type "bool") := by decide +kernel
theorem bt_str : bootBuiltins "str" = some (.type "str") := by decide +kernel
theorem bt_set : bootBuiltins "set" = some (.type "set") := by decide +kernel
theorem io_tuple : isiOk "tuple" = true := by decide +kernel
theorem io_int : isiOk "int" = true := by decide +kernel
theorem io_bool : isiOk "bool" = true := by decide +kernel
theorem io_str : isiOk "str" = true := by decide +kernel
theorem io_list : isiOk "list" = true := by decide +kernel
end Mir

set_option Elab.async false
set_option linter.all false
set_option maxRecDepth 100000
set_option maxHeartbeats 4000000
namespace Mir
open PySem PySem.Spec PyProof.Rows L2
abbrev set00 (w : World) : Obj := { cls := .type "set", dict := none, data := .set #[] 0 (.fresh 0 0 (!w.params.followText "set-order")) }
section
variable {P : Program} {w : World} {s : Shared} {A : Around} {E : Value → Shared → Prop}
/-- set(xs), xs a list of ints -/
theorem set_of_list {l : Addr} {xs : Array Value} (ns : List Int) {Q : Value → Shared → Prop} (hn : A.handled = none) (lv : s.heap.IsList l xs) (iv : IntsAre xs.toList ns) (small : ns.length + 1 < scanBound)
    (y : ∀ (h1 : Heap) (k c : Nat), SetR w h1 s.heap.objs.size (fun j => decide (j ∈ ns)) c → c ≤ ns.length → (∀ b o, s.heap.get? b = some o → h1.get? b = some o) → Q (.ref s.heap.objs.size) { s with heap := h1, toks := k }) :
    wpAny (model P w) A (call (.type "set") [.ref l]) Q E s := by
  have sz : xs.size = ns.length := by rw [← Array.length_toList]; exact iv.length
  have ⟨c0, t0, mro0⟩ := F.called_set.mro
  have made0 := F.called_set.made
  have sub0 := F.called_set.sub
  have f1 := F.called_set.notType
  have f2 := F.called_set.canCreate
  have f3 := F.typeCall_set_1 (.ref l)
  apply wpAny_call; refine codeAny_of_tree ?_
  show wpAny _ _ (callAny (.type "set") ⟨[.ref l], []⟩) _ _ s
  apply wpAny_pure; refine ⟨Code.quiet_builtin _ (by decide +kernel), codeAny_builtin F.entry_type_call ?_⟩
  rw [Around.under_plain (weight_type_call_type "set" [Value.ref l] []) rfl]
  repeat (any_goals (first | wp_step | assumption))
  refine codeAny_mono (code_set_led1 (.ref l) (E := E) (Q₁ := fun v s1 => v = .ref s.heap.objs.size ∧ s1 = { s with heap := s.heap.push (set00 w) }) ⟨rfl, rfl⟩) fun r s1 hr => ?_
  match r, hr with
  | .error _, hr => exact hr
  | .ok .next, hr => exact hr.elim
  | .ok .brk, hr => exact hr.elim
  | .ok .cont, hr => exact hr.elim
  | .ok (.ret v), hr => ?_
  obtain ⟨rfl, rfl⟩ := hr
  have here : (s.heap.push (set00 w)).get? s.heap.objs.size = some (set00 w) := Heap.get?_push_size _ rfl
  have ty0 : Shared.TypeIs { s with heap := s.heap.push (set00 w) } (.ref s.heap.objs.size) "set" := ⟨_, here, rfl⟩
  have f4 := F.called_set.init.lookup
  have f5 := F.called_set.init.bind (.ref s.heap.objs.size)
  repeat (any_goals (first | wp_step | assumption))
  refine codeAny_mono (codeAny_call_builtin (R := wants (fun r s2 => r = .none ∧ ∃ h1 k c, s2 = { s with heap := h1, toks := k } ∧ SetR w h1 s.heap.objs.size (fun j => decide (j ∈ ns)) c ∧ c ≤ ns.length ∧ ∀ b o, s.heap.get? b = some o → h1.get? b = some o) E)
    F.called_set.init.plain F.entry_set_init (check_set_init_1 ty0 ?_)) fun r s2 hr => ?_
  · have lt : l < s.heap.objs.size := have ⟨_, z, _⟩ := lv; Heap.lt_size z
    have lv1 : (s.heap.push (set00 w)).IsList l xs := lv.push _
    obtain ⟨⟨oc, od, ob, os⟩, ho, hc, nl, hd⟩ := lv1
    simp only at hc hd
    cases hc; cases hd
    have f6 := F.sub_list_set
    have f7 := F.sub_list_frozenset
    have f8 : (Value.type "list" == Value.type "dict") = false := by decide
    unfold Builtin.«set.__init__» noKeywords Builtin.Frozenset.updateFrom
    generalize e : pyIter = it0; wp_walk; cases e
    have lv1 : (s.heap.push (set00 w)).IsList l xs := ⟨_, ho, rfl, nl, rfl⟩
    refine wpAny_pyIter_list lv1 ?_; refine wpAny_bind (wpAny_runValue ?_)
    have big : (s.heap.push (set00 w)).objs.size = s.heap.objs.size + 1 := Heap.size_push ..
    have ne1 : l ≠ (s.heap.push (set00 w)).objs.size := by rw [big]; exact Nat.ne_of_lt (Nat.lt_succ_of_lt lt)
    have nin : s.heap.objs.size ∉ [(s.heap.push (set00 w)).objs.size, l] := by
      rw [big]
      intro z
      rcases List.mem_cons.mp z with z | z
      · exact absurd z (Nat.ne_of_lt (Nat.lt_succ_self _))
      · exact absurd (List.mem_singleton.mp z) (Nat.ne_of_gt lt)
    refine set_update_ints ((Walks.list (by simp [hn]) _ l ne1 xs).toS) s.heap.objs.size nin ns sz small (fun i v hv => ?gv) (xs.size - 0) 0 _ (by omega) (Nat.zero_le _)
      ⟨⟨_, Heap.get?_push_size _ rfl, rfl, rfl⟩, lv1.push _⟩ ⟨0, Nat.le_refl 0, setR_new_at (Heap.get?_push_of_some _ here)⟩ fun s3 c3 mv le3 R3 => ?gf
    case gv =>
      have lt2 : i < ns.length := by rw [← sz]; exact (Array.getElem?_eq_some_iff.mp hv).1
      have ⟨t, e⟩ := IntsAre.int_at iv i v (by rw [Array.getElem?_toList]; exact hv)
      exact ⟨ns[i], t, List.getElem?_eq_getElem lt2, by rw [e, List.getD_eq_getElem?_getD, List.getElem?_eq_getElem lt2]; rfl⟩
    case gf =>
      obtain ⟨h3, g3, d3, t3, o3⟩ := s3
      obtain rfl : g3 = s.gens := mv.gens
      obtain rfl : d3 = s.drawn := mv.drawn
      obtain rfl : o3 = s.os := mv.os
      show wpAny _ _ _ _ _ _
      apply wpAny_pure; show wpAny _ _ (ret Value.none) _ _ _
      apply wpAny_pure; refine ⟨rfl, h3, t3, c3, rfl, R3, by omega, fun b o e => ?_⟩
      have lb : b < s.heap.objs.size := Heap.lt_size e
      refine mv.heap b o (fun z => ?_) (Heap.get?_push_of_some _ (Heap.get?_push_of_some _ e))
      rcases List.mem_cons.mp z with z | z
      · exact absurd z (Nat.ne_of_lt lb)
      · rw [big] at z
        exact absurd (List.mem_singleton.mp z) (Nat.ne_of_lt (Nat.lt_succ_of_lt lb))
  · match r, hr with
    | .error _, hr => exact hr
    | .ok .next, hr => exact hr.elim
    | .ok .brk, hr => exact hr.elim
    | .ok .cont, hr => exact hr.elim
    | .ok (.ret v), hr => ?_
    obtain ⟨rfl, h1, k, c, rfl, hR, hc, kp⟩ := hr
    repeat (any_goals (first | wp_step | assumption))
    exact y _ _ _ hR hc kp
end
end Mir
namespace Mir
open PySem PySem.Spec PyProof.Rows L2
section
variable {X : Cx}
def rSetL (K : PySem.W.Frag) (w : World) : List V → Hp → VK → Prop := fun xs H Q => ∃ (l : Addr) (ns : List Int), xs = [.ref l] ∧ SqL K H l (ns.map V.int) ∧ ns.length < 64 ∧
  ∀ (p : Addr) (c : Nat), H p = none → c ≤ ns.length → Q (.ref p) (upd H p (SetO w p (fun j => decide (j ∈ ns)) c))
theorem cr_setL (hc : X.calm = true) : CallR X (.type "set") (rSetL X.K X.w) := by
  intro pins s σ H xs us Q I r h
  obtain ⟨l, ns, rfl, hs, h64, q⟩ := h
  rw [Vals.ref1 r]
  obtain ⟨its, rv, ht, hz⟩ := I.list hs
  refine set_of_list ns (I.ok.hd hc) ht.isList (by simpa using ints_of_vals rv) (by unfold scanBound; omega) fun h1 k c R hcn kp => ?_
  exact ⟨.ref _, _, I.laid (t' := k) kp (Nat.le_refl _) (setO_new R), rfl, q _ c (I.hok.fresh (Nat.le_refl _)) hcn⟩
end
end Mir
namespace Mir
open PySem PySem.Spec PyProof.Rows L2
/-! ### sorted(set(xs)) -/
def sins (n : Int) : List Int → List Int
  | [] => [n]
  | m :: r => if n < m then n :: m :: r else if n = m then m :: r else m :: sins n r
theorem mem_sins (k n : Int) : ∀ l : List Int, k ∈ sins n l ↔ k = n ∨ k ∈ l
  | [] => by simp [sins]
  | m :: r => by
    unfold sins
    split
    · simp
    · split
      · rename_i e
        subst e
        simp
      · rw [List.mem_cons, mem_sins k n r, List.mem_cons]
        exact ⟨fun h => by rcases h with h | h | h <;> simp [h], fun h => by rcases h with h | h | h <;> simp [h]⟩
theorem sins_sorted (n : Int) : ∀ l : List Int, l.Pairwise (· < ·) → (sins n l).Pairwise (· < ·)
  | [], _ => by simp [sins]
  | m :: r, h => by
    unfold sins
    have h' := List.pairwise_cons.mp h
    split
    · refine List.pairwise_cons.mpr ⟨fun x hx => ?_, h⟩
      rcases List.mem_cons.mp hx with e | e
      · omega
      · have := h'.1 x e
        omega
    · split
      · exact h
      · refine List.pairwise_cons.mpr ⟨fun x hx => ?_, sins_sorted n r h'.2⟩
        rcases (mem_sins x n r).mp hx with e | e
        · omega
        · exact h'.1 x e
def sset : List Int → List Int
  | [] => []
  | n :: r => sins n (sset r)
theorem mem_sset (k : Int) : ∀ l : List Int, k ∈ sset l ↔ k ∈ l
  | [] => Iff.rfl
  | n :: r => by
    unfold sset
    rw [mem_sins, mem_sset k r, List.mem_cons]
theorem sset_sorted : ∀ l : List Int, (sset l).Pairwise (· < ·)
  | [] => .nil
  | n :: r => sins_sorted n _ (sset_sorted r)
theorem sset_one {l m : List Int} (hl : l.Pairwise (· < ·)) (hm : m.Pairwise (· < ·)) (e : ∀ k, k ∈ l ↔ k ∈ m) : l = m := by
  have n1 : l.Nodup := hl.imp (fun h => by omega)
  have n2 : m.Nodup := hm.imp (fun h => by omega)
  exact sorted_one ((List.perm_ext_iff_of_nodup n1 n2).mpr e) (hl.imp (fun h => by omega)) (hm.imp (fun h => by omega))
def gSset : Da → Option (List Da)
  | .list ds => (intsD ds).bind fun ns => if ns.length < 64 then some ((sset ns).map .int) else none
  | _ => none
section
variable {X : Cx} {ow : List Nat} {e : Expr} {fe : Md Da} {p p2 pos pos2 : Pos}
theorem sset_go {H : Hp} {F : Frz} {v : V} {ds : List Da} {es : List Da} (fo : Fo F H) (hv : Bw X.K H F v (.list ds)) (hg : gSset (.list ds) = some es) {Q : VK}
    (q : ∀ (l : Addr) (ys : List V) (H1 : Hp), Gr F H F H1 → H1 l = none → RpA X.K (upd H1 l (.lst ys)) F ys es → Q (.ref l) (upd H1 l (.lst ys))) : rSetL X.K X.w [v] H (fun v2 H2 => rSortedSet X.w [v2] H2 Q) := by
  unfold gSset at hg
  obtain ⟨ns, hb, e2⟩ := Option.bind_eq_some_iff.mp hg
  split at e2
  · rename_i h64
    cases e2
    obtain ⟨a, vs, e, s, t⟩ := hv.list_inv
    rw [intsD_go hb] at t
    rw [ints_inv t] at s
    refine ⟨a, ns, by rw [e], s, h64, fun p c np hc => ⟨p, _, c, rfl, upd_same, by omega, fun ms p3 ps hm hl np3 => ?_⟩⟩
    have e4 : ms = sset ns := sset_one ps (sset_sorted ns) fun k => by
      rw [hm k, mem_sset]
      simp
    rw [e4]
    have g1 := Gr.new0 (o := SetO X.w p (fun j => decide (j ∈ ns)) c) fo np
    exact q p3 _ _ g1 np3 (ints_mk)
  · cases e2
theorem l_sset (hc : X.calm = true) (hs : Gl X "set") (hsm : X.mg "set" = none) (hg : Gl X "sorted") (hm : X.mg "sorted" = none) (he : GE X ow e fe) (h1 : starEach [e] X.env = (false, eval e X.env) :: starEach [] X.env := by rfl) (h2 : (backTo pos2 (starEach [] X.env)).any (·.1) = false := by rfl)
    (h3 : starEach [.Call (.Name "set" p2) [e] [] pos2] X.env = (false, eval (.Call (.Name "set" p2) [e] [] pos2) X.env) :: starEach [] X.env := by rfl) (h4 : (backTo pos (starEach [] X.env)).any (·.1) = false := by rfl) :
    GL X ow (.Call (.Name "sorted" p) [.Call (.Name "set" p2) [e] [] pos2] [] pos) (mBind fe fun d => mOpt (gSset d)) :=
  pe_w (pe_callB (cr_sortedSet hc) hg hm (by decide +kernel) (pa_cons (pe_callTy (cr_setL hc) hs hsm (by decide +kernel) (pa_cons he pa_nil h1) (by decide) (by decide) h1 h2) pa_nil h3) (by decide) (by decide) h3 h4) fun σ H Q ⟨B, F, ρ, d, ρ', c, hf, q⟩ => by
  obtain ⟨d0, ρ1, h1, hf⟩ := bind_inv hf
  obtain ⟨hg2, rfl⟩ := opt_inv hf
  refine ⟨B, F, ρ, d0, _, c, h1, fun v H1 F1 c1 l1 r1 => ?_⟩
  cases d0 with
  | list ds =>
    refine sset_go c1.fo (.rp r1) hg2 fun l ys H2 g2 nl t => ?_
    have g3 := Gr.new0 (o := .lst ys) g2.fo nl
    have c2 := c1.grow g2
    have l2 := l1.trans (g2.le c1.fo)
    exact q l ys _ F1 (c2.grow g3) (l2.trans (g3.le c2.fo)) (l2.back nl) upd_same (fun z => c2.fo l z nl) (c2.away nl) t
  | _ => cases hg2
end
end Mir

set_option Elab.async false
set_option linter.all false
set_option maxRecDepth 100000
set_option maxHeartbeats 4000000
namespace Mir
open PySem PySem.Spec PyProof.Rows L2
/-! ### an own list handed on: frozen, its slot forgotten -/
def mMv (i : Nat) : Md Da := withL i fun ds ρ => some (.list ds, ρ.set i none)
section
variable {X : Cx} {ow : List Nat} {e : Expr} {fe : Md Da} {p p2 pos pos2 : Pos}
theorem e_mv {i : Nat} (h : PE X e (tVar i)) (hi : i ∈ ow) (h0 : i ≠ 0) : GE X ow e (mMv i) := pe_w h fun σ H Q ⟨B, F, ρ, d, ρ', c, hf, q⟩ => by
  obtain ⟨ds, g0, hf⟩ := with_inv hf
  cases hf
  have hd := own_get g0
  obtain ⟨p, vs, e2, e3, e4, e5, e6⟩ := c.own hi hd
  have np : B.pen ≠ some p := fun z => by
    obtain ⟨g0, g1, g2⟩ := c.pn p z
    exact c.dj i 0 p hi g0 h0 ⟨_, hd⟩ g2 e2 g1
  have c2 := (c.drop (i := i) (.inr h0)).freeze e3 e4 (fun j x hj ho z => by
    rcases set_get hj with ⟨_, y, _⟩ | ⟨n, hj⟩
    · cases y
    · exact c.dj i j p hi ho (Ne.symm n) ⟨_, hd⟩ ⟨_, hj⟩ e2 z) (e5.resolve_left np)
  exact ⟨.ref p, e2, q (.ref p) H _ c2 Le.refl.freeze (.lst (.inl ⟨.inr rfl, .inl e3⟩) (e6.st fun b fb => ⟨.inl fb, rfl⟩))⟩

/-! ### slices -/
def tO (K : PySem.W.Frag) (ow : List Nat) (f : Md (Option Int)) : TO := fun σ H Q => ∃ B F ρ d ρ', Cr K B ow σ H F ρ ∧ f ρ = some (d, ρ') ∧ ∀ H' F', Cr K B ow σ H' F' ρ' → Le F H F' H' → Q d H'
abbrev GO (X : Cx) (ow : List Nat) (e : Option Expr) (f : Md (Option Int)) : Prop := PO X e (tO X.K ow f)
theorem po_w {t t' : TO} {e : Option Expr} (h : PO X e t) (w : ∀ σ H Q, t' σ H Q → t σ H Q) : PO X e t' := ⟨fun pins s σ H Q I q => h.run pins s σ H Q I (w σ H Q q)⟩
def asI : Da → Option Int
  | .int i => some i
  | _ => none
theorem o_none : GO X ow none (mRet none) := po_w po_none fun σ H Q ⟨B, F, ρ, d, ρ', c, hf, q⟩ => by
  cases hf
  exact q H F c Le.refl
theorem o_some (h : GE X ow e fe) : GO X ow (some e) (mBind fe fun d => mOpt ((asI d).map some)) := po_w (po_some h) fun σ H Q ⟨B, F, ρ, d, ρ', c, hf, q⟩ => by
  obtain ⟨x, ρ1, h1, hf⟩ := bind_inv hf
  obtain ⟨hg, rfl⟩ := opt_inv hf
  refine ⟨B, F, ρ, x, _, c, h1, fun v H1 F1 c1 l1 r1 => ?_⟩
  cases x with
  | int i =>
    cases hg
    exact ⟨i, r1.int_inv, q H1 F1 c1 l1⟩
  | _ => cases hg
def cutD (xs : List Da) (lo hi : Option Int) : List Da := (xs.drop (HT.sIx xs.length 0 lo)).take (HT.sIx xs.length xs.length hi - HT.sIx xs.length 0 lo)
def gSl (d : Da) (lo hi : Option Int) : Option Da := match d with
  | .list ds => some (.list (cutD ds lo hi))
  | .tuple ds => some (.tuple (cutD ds lo hi))
  | _ => none
def rSlAny (K : PySem.W.Frag) : V → Option Int → Option Int → Hp → VK → Prop := fun x lo hi H Q => rSlL K x lo hi H Q ∨ rSlA K x lo hi H Q
theorem sl_any : SlR X (rSlAny X.K) := sl_list.or sl_tupA
theorem cut_r {K : PySem.W.Frag} {H : Hp} {F : Frz} {vs : List V} {ds : List Da} (t : RpA K H F vs ds) (lo hi : Option Int) : RpA K H F (cutV vs lo hi) (cutD ds lo hi) := by
  unfold cutV cutD
  rw [t.len]
  exact (t.drop _).take _
theorem cut_whole {ds : List Da} {lo hi : Option Int} (h : HT.sIx ds.length 0 lo = 0 ∧ HT.sIx ds.length ds.length hi = ds.length) : cutD ds lo hi = ds := by
  unfold cutD
  rw [h.1, h.2, List.drop_zero, Nat.sub_zero, List.take_length]
theorem sl_go {K : PySem.W.Frag} {H : Hp} {F : Frz} {v : V} {d r : Da} {lo hi : Option Int} (fo : Fo F H) (hv : Bw K H F v d) (hg : gSl d lo hi = some r) {Q : VK}
    (q : ∀ (x : V) (H1 : Hp) (F1 : Frz), Gr F H F1 H1 → Rp K H1 F1 x r → Q x H1) : rSlAny K v lo hi H Q := by
  cases d with
  | list ds =>
    cases hg
    obtain ⟨a, vs, e, s, t⟩ := hv.list_inv
    exact .inl ⟨a, vs, e, s, fun p np => q _ _ _ (Gr.new fo np) (rp_newL fo np (cut_r t lo hi))⟩
  | tuple ds =>
    cases hg
    obtain ⟨a, vs, e, s, t, rr⟩ := hv.tup_inv
    refine .inr ⟨a, vs, e, s, fun w => ?_, fun _ p np => q _ _ _ (Gr.new fo np) (rp_newT fo np (cut_r t lo hi))⟩
    rw [t.len] at w
    rw [← e]
    exact q v H F (Gr.refl fo) (by rw [cut_whole w]; exact rr)
  | _ => cases hg
def mSl (fe : Md Da) (fl fh : Md (Option Int)) : Md Da := mBind fe fun d => mBind fl fun lo => mBind fh fun hi => mOpt (gSl d lo hi)
theorem e_sl {lo hi : Option Expr} {fl fh : Md (Option Int)} (he : GE X ow e fe) (hl : GO X ow lo fl) (hh : GO X ow hi fh) : GE X ow (.Subscript e (.Slice lo hi none p2) pos) (mSl fe fl fh) := pe_w (pe_slice sl_any he hl hh) fun σ H Q ⟨B, F, ρ, d, ρ', c, hf, q⟩ => by
  obtain ⟨d0, ρ1, h1, hf⟩ := bind_inv hf
  obtain ⟨l0, ρ2, h2, hf⟩ := bind_inv hf
  obtain ⟨u0, ρ3, h3, hf⟩ := bind_inv hf
  obtain ⟨hg, rfl⟩ := opt_inv hf
  refine ⟨B, F, ρ, d0, ρ1, c, h1, fun v H1 F1 c1 l1 r1 => ⟨B, F1, ρ1, l0, ρ2, c1, h2, fun H2 F2 c2 l2 => ⟨B, F2, ρ2, u0, _, c2, h3, fun H3 F3 c3 l3 => ?_⟩⟩⟩
  exact sl_go c3.fo (.rp (r1.st (l2.trans l3).st)) hg fun x H4 F4 g r4 => q x H4 F4 (c3.grow g) ((l1.trans (l2.trans l3)).trans (g.le c3.fo)) r4
/-- a slice of an own list -/
def mSl1 (j : Nat) (fl fh : Md (Option Int)) : Md Da := withL j fun _ => mBind fl fun lo => mBind fh fun hi => withL j fun ds => mOpt (gSl (.list ds) lo hi)
theorem e_sl1 {lo hi : Option Expr} {fl fh : Md (Option Int)} {j : Nat} (he : PE X e (tVar j)) (hj : j ∈ ow) (hl : GO X ow lo fl) (hh : GO X ow hi fh) : GE X ow (.Subscript e (.Slice lo hi none p2) pos) (mSl1 j fl fh) := pe_w (pe_slice sl_any he hl hh) fun σ H Q ⟨B, F, ρ, d, ρ', c, hf, q⟩ => by
  obtain ⟨ds0, g0, hf⟩ := with_inv hf
  obtain ⟨l0, ρ2, h2, hf⟩ := bind_inv hf
  obtain ⟨u0, ρ3, h3, hf⟩ := bind_inv hf
  obtain ⟨ds, g1, hf⟩ := with_inv hf
  obtain ⟨hg, rfl⟩ := opt_inv hf
  obtain ⟨p0, vs0, e1, _⟩ := c.ownL hj g0
  refine ⟨.ref p0, e1, B, F, ρ, l0, ρ2, c, h2, fun H2 F2 c2 l2 => ⟨B, F2, ρ2, u0, _, c2, h3, fun H3 F3 c3 l3 => ?_⟩⟩
  obtain ⟨p', vs, f1, f2, f3, f4⟩ := c3.ownL hj g1
  rw [e1] at f1
  cases f1
  exact sl_go c3.fo (.own f2 f4) hg fun x H4 F4 g r4 => q x H4 F4 (c3.grow g) ((l2.trans l3).trans (g.le c3.fo)) r4

/-! ### extend -/
def mExt (i : Nat) (f : Md (List Da)) : Sm := withL i fun _ => mDo f fun es => withL i fun ds ρ => if ds.length + es.length ≤ 100000 then some (.nx (ρ.set i (some (.list (ds ++ es))))) else none
theorem s_ext {i : Nat} {cl : Expr} {fl : Md (List Da)} (h : PE X cl (tBM X.K "list" rExtend (tVar i) (tCons (tL X.K ow fl) tNil))) (hi : i ∈ ow) (hs : swapsWith cl none pos.line X.env = pure false := by rfl) : GS X ow (.Expr cl pos) (mExt i fl) := ps_w (ps_expr h hs) fun D σ H ⟨B, F, ρ, o, c, hf, a⟩ => by
  obtain ⟨ds0, g0, hf⟩ := with_inv hf
  obtain ⟨es, ρ1, h1, hf⟩ := do_inv hf
  obtain ⟨ds, g1, hf⟩ := with_inv hf
  split at hf
  · rename_i hz
    cases hf
    obtain ⟨p, vs0, e1, e2, e3, e4⟩ := c.ownL hi g0
    refine ⟨.ref p, e1, .inl ⟨rfl, vs0, SqL.of e2⟩, B, F, ρ, es, ρ1, c, h1, fun b ys H1 F1 c1 l1 nb hb nf hn r1 => ?_⟩
    obtain ⟨p', vs, f1, f2, f3, f4⟩ := c1.ownL hi g1
    rw [e1] at f1
    cases f1
    have up := But.upd (vs' := vs ++ ys) c1.fo f2
    have le := up.le c1.fo f3 f2 upd_same
    refine ⟨p, b, vs, ys, rfl, rfl, f2, hb, by rw [f4.len, r1.len]; exact Evl.sz_of hz, ?_⟩
    exact a σ _ F1 (c1.mut hi (own_get g1) e1 f2 f3 up upd_same ((f4.st le.st).app (r1.st le.st))) (l1.trans le)
  · cases hf
end
end Mir

set_option Elab.async false
set_option linter.all false
set_option maxRecDepth 100000
set_option maxHeartbeats 4000000
namespace Mir
open PySem PySem.Spec PyProof.Rows L2
/-! ### [.. for x in xs ..], xs an own list that stays own -/
def mLcLO (j : Nat) (ft : Da → Sto → Option Sto) (tt : Md Bool) (te : Md Da) (vs : List Nat) : Nat → Nat → List Da → Sto → Option (List Da × Sto)
  | 0, _, _, _ => none
  | n + 1, i, acc, ρ => match Mir.ownL j ρ with
    | none => none
    | some ds => match ds[i]? with
      | none => some (acc, ρ)
      | some d => match ft d ρ with
        | none => none
        | some ρ1 => match tt ρ1 with
          | none => none
          | some (false, ρ2) => mLcLO j ft tt te vs n (i + 1) acc (wipeS ρ2 vs)
          | some (true, ρ2) => match te ρ2 with
            | none => none
            | some (y, ρ3) => if acc.length < 100000 then mLcLO j ft tt te vs n (i + 1) (acc ++ [y]) (wipeS ρ3 vs) else none
def mLcO (n j : Nat) (ft : Da → Sto → Option Sto) (tt : Md Bool) (te : Md Da) (vs : List Nat) : Md (List Da) := withL j fun _ ρ => match mLcLO j ft tt te vs n 0 [] (wipeS ρ vs) with
  | some (out, ρ') => some (out, restS ρ ρ' vs)
  | none => none
section
variable {X : Cx} {ow ts : List Nat} {f : Da → Sto → Option Sto} {pos : Pos}
theorem lcO_go {n j : Nat} {tt : Md Bool} {te : Md Da} {vs : List Nat} (hj : j ∈ ow) (hv : ∀ v ∈ vs, v ∉ ow) (hts : ∀ t ∈ ts, t ∈ vs) (σ : L2.St) (H1 : Hp) (Q : VK) (h : tL X.K ow (mLcO n j f tt te vs) σ H1 Q) :
    tLc (iList X.K (tVar j)) (gOf X.K ow ts f) (tT X.K ow tt) (tE X.K ow te) vs σ H1 Q := by
  obtain ⟨B, F1, ρ1, out, ρ', c1, hf, q⟩ := h
  obtain ⟨ds0, g0, hf⟩ := with_inv hf
  obtain ⟨p, vs0, e1, e2, _, _⟩ := c1.ownL hj g0
  refine ⟨.ref p, e1, p, rfl, ⟨vs0, SqL.of e2⟩, ?_⟩
  intro D nD
  split at hf
  case h_2 => cases hf
  rename_i out' ρe he
  cases hf
  have nb := c1.new nD
  have nF : ¬ F1 D := fun z => c1.fo D z nD
  have nBF : ¬ B.F D := fun z => nF (c1.b2 D z)
  have np : B.pen ≠ some D := fun z => by
    obtain ⟨g0, g1, d, g2⟩ := c1.pn D z
    exact c1.away nD 0 d g2 g0 g1
  have g0 := Gr.new0 (o := .lst []) c1.fo nD
  have cw := (c1.grow g0).wipe vs hv
  have ew1 : (wipe σ vs)[j]? = some (some (.ref p)) := by
    rw [wipe_get, if_neg (fun z => hv j z hj)]
    exact e1
  refine ⟨fun i m H => ∃ F ρ acc vacc, Cr X.K B ow (wipe σ vs) H F ρ ∧ Le F1 H1 F H ∧ H D = some (.lst vacc) ∧ ¬ F D ∧ (∀ i d, ρ[i]? = some (some d) → i ∈ ow → (wipe σ vs)[i]? ≠ some (some (.ref D))) ∧ RpA X.K H F vacc acc ∧
      mLcLO j f tt te vs m i acc ρ = some (out, ρe), ⟨n, F1, wipeS ρ1 vs, [], [], cw, g0.le c1.fo, upd_same, nF, ?_, .nil, he⟩, ?_⟩
  · intro i d hd hi
    exact (c1.wipe vs hv).away nD i d hd hi
  rintro i m H2 ⟨F2, ρ2, acc, vacc, c2, l2, hD, nf2, hn2, ra, hg⟩
  cases m with
  | zero => cases hg
  | succ m =>
  unfold mLcLO at hg
  split at hg
  · cases hg
  rename_i ds gds
  obtain ⟨p', us, f1, f2, f3, f4⟩ := c2.ownL hj gds
  rw [ew1] at f1
  cases f1
  split at hg
  · rename_i hd
    cases hg
    have hl : ds.length ≤ i := List.getElem?_eq_none_iff.mp hd
    refine .inl ⟨⟨us, SqL.of f2, by rw [f4.len]; exact hl⟩, ?_⟩
    have cr := c1.rest c2 l2 hv
    refine q D vacc H2 F2 cr l2 nD hD nf2 (fun i d h1 h2 => ?_) ra
    have ni : i ∉ vs := fun z => hv i z h2
    have q2 := hn2 i d (by rw [restS_ow _ _ _ _ ni] at h1; exact h1) h2
    rw [wipe_get, if_neg ni] at q2
    exact q2
  · rename_i d hd
    obtain ⟨v, k1, k2⟩ := f4.get hd
    refine .inr ⟨⟨us, v, SqL.of f2, k1⟩, fun H' => ∃ F' ρ' acc' vacc', Cr X.K B ow (wipe σ vs) H' F' ρ' ∧ Le F1 H1 F' H' ∧ H' D = some (.lst vacc') ∧ ¬ F' D ∧ (∀ i d, ρ'[i]? = some (some d) → i ∈ ow → (wipe σ vs)[i]? ≠ some (some (.ref D))) ∧ RpA X.K H' F' vacc' acc' ∧
        mLcLO j f tt te vs m (i + 1) acc' ρ' = some (out, ρe), fun H' ⟨F', ρ', acc', vacc', c', l', a1, a2, a3, a4, a5⟩ => ⟨m, by omega, F', ρ', acc', vacc', c', l', a1, a2, a3, a4, a5⟩, fun x H' ⟨y1, y2⟩ => ?_⟩
    subst y1
    have y3 := y2 us (SqL.of f2)
    rw [k1] at y3
    cases y3
    have c3 := c2.plus hD nf2 nb hn2
    split at hg
    · cases hg
    · rename_i ρ3 ht
      refine ⟨B.plus D (.lst vacc), F2, ρ2, d, ρ3, c3, k2, ht, fun σ4 c4 el => ?_⟩
      have ew := el.wipe hts
      refine ⟨ew, ?_⟩
      split at hg
      · cases hg
      · rename_i ρ5 h5
        refine ⟨_, F2, ρ3, false, ρ5, c4, h5, fun H5 F5 c5 l5 => ?_⟩
        refine iteF ?_
        obtain ⟨c6, a1, a2, a3⟩ := (c5.wipe vs hv).minus nb np nBF
        rw [ew] at c6 a3
        exact ⟨F5, _, acc, vacc, c6, l2.trans l5, a1, a2, a3, ra.st l5.st, hg⟩
      · rename_i ρ5 h5
        refine ⟨_, F2, ρ3, true, ρ5, c4, h5, fun H5 F5 c5 l5 => ?_⟩
        refine iteT ?_
        split at hg
        · cases hg
        · rename_i y ρ6 h6
          split at hg
          · rename_i hz
            refine ⟨_, F5, ρ5, y, ρ6, c5, h6, fun v H6 F6 c6 l6 r6 => ?_⟩
            obtain ⟨c7, a1, a2, a3⟩ := (c6.wipe vs hv).minus nb np nBF
            rw [ew] at c7 a3
            have l56 := l2.trans (l5.trans l6)
            have ra6 := ra.st (l5.trans l6).st
            refine ⟨vacc, a1, by rw [ra6.len]; exact Evl.sz_lt hz, ?_⟩
            have up := But.upd (vs' := vacc ++ [v]) c7.fo a1
            have le := up.le c7.fo a2 a1 upd_same
            have c8 : Cr X.K B ow (wipe σ vs) (upd H6 D (.lst (vacc ++ [v]))) F6 (wipeS ρ6 vs) := by
              refine ⟨c7.len, fun i d h1 h2 => ?_, fun i d h1 h2 => ?_, c7.dj, up.fo, fun a o e => ?_, c7.b2, c7.b3, c7.pn⟩
              · obtain ⟨u, e, r⟩ := c7.sl i d h1 h2
                exact ⟨u, e, r.st le.st⟩
              · obtain ⟨p, es, us, e1, e2, e3, e4, e5, e6⟩ := c7.lo i d h1 h2
                exact ⟨p, es, us, e1, e2, up.ex p _ (fun z => a3 i d h1 h2 (z ▸ e2)) e3, e4, e5, e6.st le.st⟩
              · rcases c7.b1 a o e with z | z
                · exact .inl z
                · exact .inr (up.ex a o (fun w => by rw [w, nb] at e; cases e) z)
            exact ⟨F6, _, acc ++ [y], vacc ++ [v], c8, l56.trans le, upd_same, a2, a3, (ra6.st le.st).app (RpA.one (r6.st le.st)), hg⟩
          · cases hg
theorem l_lcO (n : Nat) {j : Nat} {elt tg iter : Expr} {ifs : List Expr} {scope : Scope} {own : List (Str × Nat)} {tt : Md Bool} {te : Md Da} (hc : X.calm = true) (hN : X.N.Nodup) (hi : PE X iter (tVar j)) (hj : j ∈ ow) (ok : BlkOk X.N X.env.scope scope own)
    (hg : ∀ (s : Shared) (H : Hp) (C : Addr) (cl : List (Str × Addr)) (fp : List Addr), GG (X.blk s H scope (compEnvC scope cl C X.env) fp) ow tg ts f) (ht : ∀ (s : Shared) (H : Hp) (C : Addr) (cl : List (Str × Addr)) (fp : List Addr), PTs (X.blk s H scope (compEnvC scope cl C X.env) fp) ifs (tT X.K ow tt))
    (he : ∀ (s : Shared) (H : Hp) (C : Addr) (cl : List (Str × Addr)) (fp : List Addr), GE (X.blk s H scope (compEnvC scope cl C X.env) fp) ow elt te) (hv : ∀ v ∈ own.map (·.2), v ∉ ow) (hts : ∀ t ∈ ts, t ∈ own.map (·.2)) (hs : ∀ x, foldedSetIterable iter X.env x = pure x := by intro _; rfl) :
    GL X ow (.ListComp elt [⟨tg, iter, ifs, 0⟩] scope pos) (mLcO n j f tt te (own.map (·.2))) := pe_w (pe_lc hc hN (pi_list hi) ok hg ht he hs) (lcO_go hj hv hts)
theorem s_lcsetJ {n i j : Nat} {st : Stmt} {tt : Md Bool} {te : Md Da} {vs : List Nat} (h : PS X st (tAsg (tLc (iList X.K (tVar j)) (gOf X.K ow ts f) (tT X.K ow tt) (tE X.K ow te) vs) (gName i))) (hj : j ∈ ow) (hv : ∀ v ∈ vs, v ∉ ow) (hts : ∀ t ∈ ts, t ∈ vs) (ho : i ∉ ow) :
    GS X ow st (mSet i (mOfL (mLcO n j f tt te vs))) := ps_w h (set_go (fun σ H Q q => lcO_go hj hv hts σ H Q (fz_go σ H Q q)) ho)
theorem s_lcsetOJ {n i j : Nat} {st : Stmt} {tt : Md Bool} {te : Md Da} {vs : List Nat} (h : PS X st (tAsg (tLc (iList X.K (tVar j)) (gOf X.K ow ts f) (tT X.K ow tt) (tE X.K ow te) vs) (gName i))) (hj : j ∈ ow) (hv : ∀ v ∈ vs, v ∉ ow) (hts : ∀ t ∈ ts, t ∈ vs) (ho : i ∈ ow) (h0 : i ≠ 0) :
    GS X ow st (mSetO i (mLcO n j f tt te vs)) := ps_w h (setO_go (lcO_go hj hv hts) ho h0)
end
end Mir

set_option Elab.async false
set_option linter.all false
set_option maxRecDepth 100000
set_option maxHeartbeats 4000000
namespace Mir
open PySem L2
/-! ### meanings, told: loops and comprehensions -/
theorem for_eq {fi : Md (List Da)} {ft : Da → Sto → Option Sto} {b : Sm} {ρ ρ1 : Sto} {ds : List Da} {o : Out} (h1 : fi ρ = some (ds, ρ1)) (h2 : mForL ft b ds ρ1 = some o) : mFor fi ft b ρ = some o := by
  unfold mFor mDo
  rw [h1]
  exact h2
theorem seq_nx {f g : Sm} {ρ ρ1 : Sto} {o : Out} (h1 : f ρ = some (.nx ρ1)) (h2 : g ρ1 = some o) : mSeq f g ρ = some o := by
  unfold mSeq
  rw [h1]
  exact h2
theorem seq_rt {f g : Sm} {ρ ρ1 : Sto} {d : Da} (h1 : f ρ = some (.rt d ρ1)) : mSeq f g ρ = some (.rt d ρ1) := by
  unfold mSeq
  rw [h1]
theorem ite_t {t : Md Bool} {f g : Sm} {ρ ρ1 : Sto} {o : Option Out} (h : t ρ = some (true, ρ1)) (h2 : f ρ1 = o) : mIte t f g ρ = o := by
  unfold mIte mDo
  rw [h]
  exact h2
theorem ite_f {t : Md Bool} {f g : Sm} {ρ ρ1 : Sto} {o : Option Out} (h : t ρ = some (false, ρ1)) (h2 : g ρ1 = o) : mIte t f g ρ = o := by
  unfold mIte mDo
  rw [h]
  exact h2
theorem run_rt {n : Nat} {f : Sm} {ds : List Da} {d : Da} {ρ : Sto} (h : f (ds.map some ++ List.replicate (n - ds.length) none) = some (.rt d ρ)) : runP n f ds = some d := by
  unfold runP
  rw [h]
theorem run_nx {n : Nat} {f : Sm} {ds : List Da} {ρ : Sto} (h : f (ds.map some ++ List.replicate (n - ds.length) none) = some (.nx ρ)) : runP n f ds = some .none := by
  unfold runP
  rw [h]
/-- for: an invariant by the number of turns done -/
theorem for_inv {ft : Da → Sto → Option Sto} {b : Sm} (P : Nat → Sto → Prop) (all : List Da) (step : ∀ (i : Nat) (d : Da) (ρ : Sto), all[i]? = some d → P i ρ → ∃ ρ1 ρ2, ft d ρ = some ρ1 ∧ (b ρ1 = some (.nx ρ2) ∨ b ρ1 = some (.ct ρ2)) ∧ P (i + 1) ρ2) :
    ∀ (ds : List Da) (i : Nat) (ρ : Sto), all.drop i = ds → i ≤ all.length → P i ρ → ∃ ρ', mForL ft b ds ρ = some (.nx ρ') ∧ P all.length ρ'
  | [], i, ρ, e, hi, p => by
    have z : all.length ≤ i := List.drop_eq_nil_iff.mp e
    have e2 : i = all.length := by omega
    exact ⟨ρ, rfl, e2 ▸ p⟩
  | d :: ds, i, ρ, e, hi, p => by
    have hd : all[i]? = some d := by
      have q := congrArg (fun l => l[0]?) e
      simpa using q
    have hlt : i < all.length := (List.getElem?_eq_some_iff.mp hd).1
    have ed : all.drop (i + 1) = ds := by
      rw [← List.tail_drop, e]; rfl
    obtain ⟨ρ1, ρ2, h1, h2, p2⟩ := step i d ρ hd p
    obtain ⟨ρ', h3, p3⟩ := for_inv P all step ds (i + 1) ρ2 ed hlt p2
    refine ⟨ρ', ?_, p3⟩
    unfold mForL
    rw [h1]
    rcases h2 with h2 | h2 <;> simp only [h2] <;> exact h3
theorem set_self {ρ : Sto} {v : Nat} (h : v < ρ.length) : (ρ.set v none).set v ((ρ[v]?).getD none) = ρ := by
  rw [List.set_set]
  refine List.ext_getElem? fun k => ?_
  rw [List.getElem?_set]
  split
  · rename_i e
    subst e
    rw [List.getElem?_eq_getElem h]
    rfl
  · rfl
/-- a comprehension that changes nothing but its own slot -/
theorem lcl_pure {v : Nat} {tt : Md Bool} {te : Md Da} {ρ : Sto} (t : Da → Bool) (e : Da → Da) : ∀ (ds acc : List Da), acc.length + ds.length ≤ 100000 →
    (∀ d ∈ ds, tt (ρ.set v (some d)) = some (t d, ρ.set v (some d)) ∧ (t d = true → te (ρ.set v (some d)) = some (e d, ρ.set v (some d)))) →
    mLcL (fName v) tt te [v] ds acc (ρ.set v none) = some (acc ++ (ds.filter t).map e, ρ.set v none)
  | [], acc, _, _ => by simp [mLcL]
  | d :: ds, acc, hz, h => by
    obtain ⟨h1, h2⟩ := h d (List.mem_cons_self ..)
    have hz' : acc.length + (ds.length + 1) ≤ 100000 := hz
    have tl : ∀ x ∈ ds, tt (ρ.set v (some x)) = some (t x, ρ.set v (some x)) ∧ (t x = true → te (ρ.set v (some x)) = some (e x, ρ.set v (some x))) := fun x hx => h x (List.mem_cons_of_mem _ hx)
    have w : wipeS (ρ.set v (some d)) [v] = ρ.set v none := by
      show (ρ.set v (some d)).set v none = _
      rw [List.set_set]
    unfold mLcL
    show (match some ((ρ.set v none).set v (some d)) with
      | none => none
      | some ρ1 => _) = _
    rw [List.set_set]
    simp only [h1]
    cases ht : t d with
    | false =>
      simp only [w]
      rw [lcl_pure t e ds acc (by omega) tl, List.filter_cons_of_neg (by rw [ht]; exact Bool.false_ne_true)]
    | true =>
      simp only [h2 ht, w]
      rw [if_pos (by omega), lcl_pure t e ds (acc ++ [e d]) (by rw [List.length_append]; show acc.length + 1 + ds.length ≤ _; omega) tl, List.filter_cons_of_pos ht]
      simp
theorem lc_pure {fi : Md (List Da)} {v : Nat} {tt : Md Bool} {te : Md Da} {ρ ρ1 : Sto} {ds : List Da} (t : Da → Bool) (e : Da → Da) (h1 : fi ρ = some (ds, ρ1)) (hv : v < ρ1.length) (hz : ds.length ≤ 100000)
    (h : ∀ d ∈ ds, tt (ρ1.set v (some d)) = some (t d, ρ1.set v (some d)) ∧ (t d = true → te (ρ1.set v (some d)) = some (e d, ρ1.set v (some d)))) : mLc fi (fName v) tt te [v] ρ = some ((ds.filter t).map e, ρ1) := by
  unfold mLc mBind
  rw [h1]
  show (match mLcL (fName v) tt te [v] ds [] (ρ1.set v none) with
    | some (out, ρ') => some (out, restS ρ1 ρ' [v])
    | none => none) = _
  rw [lcl_pure t e ds [] (by simpa using hz) h]
  show some (_, (ρ1.set v none).set v ((ρ1[v]?).getD none)) = _
  rw [set_self hv]
  rfl
/-- the same over an own list -/
theorem lclO_pure {j v : Nat} {tt : Md Bool} {te : Md Da} {ρ : Sto} {ds : List Da} (t : Da → Bool) (e : Da → Da) (hj : Mir.ownL j (ρ.set v none) = some ds)
    (h : ∀ d ∈ ds, tt (ρ.set v (some d)) = some (t d, ρ.set v (some d)) ∧ (t d = true → te (ρ.set v (some d)) = some (e d, ρ.set v (some d)))) :
    ∀ (n i : Nat) (acc : List Da), ds.length - i < n → acc.length + (ds.length - i) ≤ 100000 →
    mLcLO j (fName v) tt te [v] n i acc (ρ.set v none) = some (acc ++ ((ds.drop i).filter t).map e, ρ.set v none)
  | 0, _, _, hn, _ => absurd hn (Nat.not_lt_zero _)
  | n + 1, i, acc, hn, hz => by
    unfold mLcLO
    simp only [hj]
    cases hd : ds[i]? with
    | none =>
      have hl : ds.length ≤ i := List.getElem?_eq_none_iff.mp hd
      rw [List.drop_eq_nil_iff.mpr hl]
      simp
    | some d =>
      have hlt : i < ds.length := (List.getElem?_eq_some_iff.mp hd).1
      have hget : ds[i] = d := (List.getElem?_eq_some_iff.mp hd).2
      have hmem : d ∈ ds := hget ▸ List.getElem_mem hlt
      obtain ⟨h1, h2⟩ := h d hmem
      have w : wipeS (ρ.set v (some d)) [v] = ρ.set v none := by
        show (ρ.set v (some d)).set v none = _
        rw [List.set_set]
      have f1 : fName v d (ρ.set v none) = some (ρ.set v (some d)) := by
        show some ((ρ.set v none).set v (some d)) = _
        rw [List.set_set]
      have dr : ds.drop i = d :: ds.drop (i + 1) := by rw [List.drop_eq_getElem_cons hlt, hget]
      simp only [f1, h1]
      cases ht : t d with
      | false =>
        simp only [w]
        rw [lclO_pure t e hj h n (i + 1) acc (by omega) (by omega), dr, List.filter_cons_of_neg (by rw [ht]; exact Bool.false_ne_true)]
      | true =>
        simp only [h2 ht, w]
        rw [if_pos (by omega), lclO_pure t e hj h n (i + 1) (acc ++ [e d]) (by omega) (by rw [List.length_append]; show acc.length + 1 + _ ≤ _; omega), dr, List.filter_cons_of_pos ht]
        simp
theorem lcO_pure {n j v : Nat} {tt : Md Bool} {te : Md Da} {ρ : Sto} {ds : List Da} (t : Da → Bool) (e : Da → Da) (hj : Mir.ownL j ρ = some ds) (ne : j ≠ v) (hv : v < ρ.length) (hn : ds.length < n) (hz : ds.length ≤ 100000)
    (h : ∀ d ∈ ds, tt (ρ.set v (some d)) = some (t d, ρ.set v (some d)) ∧ (t d = true → te (ρ.set v (some d)) = some (e d, ρ.set v (some d)))) : mLcO n j (fName v) tt te [v] ρ = some ((ds.filter t).map e, ρ) := by
  have hj2 : Mir.ownL j (ρ.set v none) = some ds := by
    unfold Mir.ownL
    rw [List.getElem?_set_ne (Ne.symm ne)]
    exact hj
  unfold mLcO withL
  simp only [hj]
  show (match mLcLO j (fName v) tt te [v] n 0 [] (ρ.set v none) with
    | some (out, ρ') => some (out, restS ρ ρ' [v])
    | none => none) = _
  rw [lclO_pure t e hj2 h n 0 [] (by omega) (by simpa using hz)]
  show some (_, (ρ.set v none).set v ((ρ[v]?).getD none)) = _
  rw [set_self hv]
  rfl
end Mir

set_option Elab.async false
set_option linter.all false
set_option maxRecDepth 100000
set_option maxHeartbeats 4000000
namespace Mir
open PySem L2
/-- a comprehension whose test or item changes the store: an invariant by the number of turns -/
theorem lcl_inv {v : Nat} {tt : Md Bool} {te : Md Da} (P : Nat → List Da → Sto → Prop) (all : List Da)
    (step : ∀ (i : Nat) (d : Da) (acc : List Da) (ρ : Sto), all[i]? = some d → P i acc ρ → ∃ b ρ2, tt (ρ.set v (some d)) = some (b, ρ2) ∧ (b = false → P (i + 1) acc (ρ2.set v none)) ∧
      (b = true → ∃ y ρ3, te ρ2 = some (y, ρ3) ∧ acc.length < 100000 ∧ P (i + 1) (acc ++ [y]) (ρ3.set v none))) :
    ∀ (ds : List Da) (i : Nat) (acc : List Da) (ρ : Sto), all.drop i = ds → i ≤ all.length → P i acc ρ → ∃ out ρ', mLcL (fName v) tt te [v] ds acc ρ = some (out, ρ') ∧ P all.length out ρ'
  | [], i, acc, ρ, e, hi, p => by
    have z : all.length ≤ i := List.drop_eq_nil_iff.mp e
    have e2 : i = all.length := by omega
    exact ⟨acc, ρ, rfl, e2 ▸ p⟩
  | d :: ds, i, acc, ρ, e, hi, p => by
    have hd : all[i]? = some d := by
      have q := congrArg (fun l => l[0]?) e
      simpa using q
    have hlt : i < all.length := (List.getElem?_eq_some_iff.mp hd).1
    have ed : all.drop (i + 1) = ds := by
      rw [← List.tail_drop, e]; rfl
    obtain ⟨b, ρ2, h1, hf, ht⟩ := step i d acc ρ hd p
    have f1 : fName v d ρ = some (ρ.set v (some d)) := rfl
    cases b with
    | false =>
      obtain ⟨out, ρ', h3, p3⟩ := lcl_inv P all step ds (i + 1) acc (ρ2.set v none) ed hlt (hf rfl)
      refine ⟨out, ρ', ?_, p3⟩
      unfold mLcL
      simp only [f1, h1]
      exact h3
    | true =>
      obtain ⟨y, ρ3, h2, hz, p2⟩ := ht rfl
      obtain ⟨out, ρ', h3, p3⟩ := lcl_inv P all step ds (i + 1) (acc ++ [y]) (ρ3.set v none) ed hlt p2
      refine ⟨out, ρ', ?_, p3⟩
      unfold mLcL
      simp only [f1, h1, h2]
      rw [if_pos hz]
      exact h3
theorem lc_inv {fi : Md (List Da)} {v : Nat} {tt : Md Bool} {te : Md Da} {ρ ρ1 : Sto} {ds : List Da} (P : Nat → List Da → Sto → Prop) (h1 : fi ρ = some (ds, ρ1)) (h0 : P 0 [] (ρ1.set v none))
    (step : ∀ (i : Nat) (d : Da) (acc : List Da) (ρ : Sto), ds[i]? = some d → P i acc ρ → ∃ b ρ2, tt (ρ.set v (some d)) = some (b, ρ2) ∧ (b = false → P (i + 1) acc (ρ2.set v none)) ∧
      (b = true → ∃ y ρ3, te ρ2 = some (y, ρ3) ∧ acc.length < 100000 ∧ P (i + 1) (acc ++ [y]) (ρ3.set v none))) :
    ∃ out ρ', mLc fi (fName v) tt te [v] ρ = some (out, ρ'.set v ((ρ1[v]?).getD none)) ∧ P ds.length out ρ' := by
  obtain ⟨out, ρ', h2, p⟩ := lcl_inv P ds step ds 0 [] (ρ1.set v none) rfl (Nat.zero_le _) h0
  refine ⟨out, ρ', ?_, p⟩
  unfold mLc mBind
  rw [h1]
  show (match mLcL (fName v) tt te [v] ds [] (ρ1.set v none) with
    | some (out, ρ') => some (out, restS ρ1 ρ' [v])
    | none => none) = _
  rw [h2]
  rfl
end Mir

set_option Elab.async false
set_option linter.all false
set_option maxRecDepth 100000
set_option maxHeartbeats 4000000
namespace Mir
open PySem PySem.Spec PyProof.Rows L2
/-! ### list(range(n)), tuple(range(n)) -/
def rgD : Da → Option (List Da)
  | .int n => if -100000 ≤ n ∧ n ≤ 100000 then some (rngD 0 n) else none
  | _ => none
section
variable {X : Cx} {ow : List Nat} {a : Expr} {fe : Md Da} {p p2 pos pos2 : Pos}
theorem rgD_inv {d : Da} {ds : List Da} (h : rgD d = some ds) : ∃ n : Int, d = .int n ∧ -100000 ≤ n ∧ n ≤ 100000 ∧ ds = rngD 0 n := by
  cases d with
  | int n =>
    unfold rgD at h
    simp only at h
    split at h
    · rename_i z
      cases h
      exact ⟨n, rfl, z.1, z.2, rfl⟩
    · cases h
  | _ => cases h
theorem r_ints {K : PySem.W.Frag} {H : Hp} {F : Frz} (g : Nat → Int) : ∀ l : List Nat, RpA K H F (l.map fun i => V.int (g i)) (l.map fun i => PyData.int (g i))
  | [] => .nil
  | _ :: l => .cons (.int _) (r_ints g l)
theorem rgV_r {K : PySem.W.Frag} {H : Hp} {F : Frz} (n : Int) : RpA K H F (rgV 0 n) (rngD 0 n) := r_ints (fun (i : Nat) => 0 + (i : Int)) _
theorem e_tupRg (hc : X.calm = true) (ht : Gl X "tuple") (htm : X.mg "tuple" = none) (hg : Gl X "range") (hm : X.mg "range" = none) (ha : GE X ow a fe) (na : starEach [a] X.env = (false, eval a X.env) :: starEach [] X.env := by rfl)
    (nb : starEach [.Call (.Name "range" p2) [a] [] pos2] X.env = (false, eval (.Call (.Name "range" p2) [a] [] pos2) X.env) :: starEach [] X.env := by rfl) :
    GE X ow (.Call (.Name "tuple" p) [.Call (.Name "range" p2) [a] [] pos2] [] pos) (mBind fe fun d => mOpt ((rgD d).map .tuple)) := pe_w (pe_tupRg hc ht htm (prg_1 hg hm ha na) nb) fun σ H Q ⟨B, F, ρ, d, ρ', c, hf, q⟩ => by
  obtain ⟨d0, ρ1, h1, hf⟩ := bind_inv hf
  obtain ⟨hg2, rfl⟩ := opt_inv hf
  obtain ⟨ds, hds, rfl⟩ := Option.map_eq_some_iff.mp hg2
  obtain ⟨n, rfl, n1, n2, rfl⟩ := rgD_inv hds
  refine ⟨B, F, ρ, _, _, c, h1, fun v H1 F1 c1 l1 r1 => ⟨n, r1.int_inv, ⟨by omega, by omega, by omega, by omega, by omega⟩, fun t nt => ?_⟩⟩
  have g := Gr.new (o := .tup (rgV 0 n)) c1.fo nt
  exact q (.ref t) _ _ (c1.grow g) (l1.trans (g.le c1.fo)) (rp_newT c1.fo nt (rgV_r n))
theorem l_listRg (hc : X.calm = true) (ht : Gl X "list") (htm : X.mg "list" = none) (hg : Gl X "range") (hm : X.mg "range" = none) (ha : GE X ow a fe) (na : starEach [a] X.env = (false, eval a X.env) :: starEach [] X.env := by rfl)
    (nb : starEach [.Call (.Name "range" p2) [a] [] pos2] X.env = (false, eval (.Call (.Name "range" p2) [a] [] pos2) X.env) :: starEach [] X.env := by rfl) :
    GL X ow (.Call (.Name "list" p) [.Call (.Name "range" p2) [a] [] pos2] [] pos) (mBind fe fun d => mOpt (rgD d)) := pe_w (pe_listRg hc ht htm (prg_1 hg hm ha na) nb) fun σ H Q ⟨B, F, ρ, d, ρ', c, hf, q⟩ => by
  obtain ⟨d0, ρ1, h1, hf⟩ := bind_inv hf
  obtain ⟨hg2, rfl⟩ := opt_inv hf
  obtain ⟨n, rfl, n1, n2, rfl⟩ := rgD_inv hg2
  refine ⟨B, F, ρ, _, _, c, h1, fun v H1 F1 c1 l1 r1 => ⟨n, r1.int_inv, ⟨by omega, by omega, by omega, by omega, by omega⟩, fun l nl => ?_⟩⟩
  have g := Gr.new0 (o := .lst (rgV 0 n)) c1.fo nl
  exact q l _ _ F1 (c1.grow g) (l1.trans (g.le c1.fo)) (l1.back nl) upd_same (fun z => c1.fo l z nl) (c1.away nl) (rgV_r n)
end
end Mir

set_option Elab.async false
set_option linter.all false
set_option maxRecDepth 100000
set_option maxHeartbeats 4000000
namespace Mir
open PySem PySem.Spec PyProof.Rows L2
section
variable {X : Cx} {ow : List Nat} {fe : Md Da} {fl : Md (List Da)}
/-- a, b = e, new list -/
def mParO (i j : Nat) (fe : Md Da) (fl : Md (List Da)) : Sm := mDo fe fun d => mDo fl fun ds ρ => some (.nx ((ρ.set i (some d)).set j (some (.list ds))))
theorem s_parO {i j : Nat} {st : Stmt} (h : PS X st (tPar i j (tCons (tE X.K ow fe) (tCons (tL X.K ow fl) tNil)))) (hi : i ∉ ow) (hj : j ∈ ow) (h0 : j ≠ 0) : GS X ow st (mParO i j fe fl) := ps_w h fun D σ H ⟨B, F, ρ, o, c, hf, a⟩ => by
  obtain ⟨d, ρ1, h1, hf⟩ := do_inv hf
  obtain ⟨ds, ρ2, h2, hf⟩ := do_inv hf
  cases hf
  refine ⟨B, F, ρ, d, ρ1, c, h1, fun v H1 F1 c1 l1 r1 => ⟨B, F1, ρ1, ds, ρ2, c1, h2, fun p vs H2 F2 c2 l2 np hp nf hn r2 => ?_⟩⟩
  have hn2 : ∀ (k : Nat) (x : Da), (ρ2.set i (some d))[k]? = some (some x) → k ∈ ow → (σ.set i (some v))[k]? ≠ some (some (.ref p)) := fun k x hk ho => by
    have ne : i ≠ k := fun z => hi (z ▸ ho)
    rw [List.getElem?_set_ne ne] at hk ⊢
    exact hn k x hk ho
  exact ⟨_, _, rfl, a _ H2 F2 ((c2.set (r1.st l2.st) hi).setO hj h0 hp nf (c1.new np) hn2 r2) (l1.trans l2)⟩
end
end Mir

set_option Elab.async false
set_option linter.all false
set_option maxRecDepth 100000
set_option maxHeartbeats 2000000
/-! The top of a program in three parts: by the kernel up to an expression, by the logic over the expression, by the kernel on. -/
namespace HdB
open PySem PySem.W PySem.Calls PyProof.Rows HandSHeadRun

/-! ### one part by the kernel -/
section
variable (st : SharedT → Thread → Option (SharedT × Thread)) (n0 : Nat) (ann : Option Value)
def goP : Nat → SharedT → Thread → Option (SharedT × Thread)
  | 0, s, t => some (s, t)
  | m + 1, s, t => match through t with
    | true => none
    | false => match stepOk n0 ann t with
      | false => none
      | true => match st s t with
        | some (s', t') => frS s' fun s' => goP m s' t'
        | none => none
end
/-- from here to there: the run, and what it lets be -/
structure Way (p : Program) (w : World) (n0 : Nat) (ann : Option Value) (s : Shared) (t : Thread) (s' : Shared) (t' : Thread) : Prop where
  run : ∃ k, schedN (denote table) p w k (.single s t) = .running (.single s' t')
  life : s'.heap.life = s.heap.life
  os : s'.os = s.os
  keep : ∀ b o, b < n0 → b ≠ mainNs → b ≠ cStatics → ann ≠ some (.ref b) → s.heap.get? b = some o → s'.heap.get? b = some o
variable {p : Program} {w : World} {n0 : Nat} {ann : Option Value} {s s1 s' : Shared} {t t1 t' : Thread}
theorem sched_add {den : Code → Sem Fin} : ∀ (j k : Nat) (c c1 : Config), schedN den p w j c = .running c1 → schedN den p w (j + k) c = schedN den p w k c1
  | 0, k, c, c1, h => by
    have e : c = c1 := by injection h
    rw [Nat.zero_add, e]
  | j + 1, k, c, c1, h => by
    rw [show j + 1 + k = (j + k) + 1 by omega]
    have h1 : (match sstep den p w c with
      | .go c2 => schedN den p w j c2
      | .halt o u => .halted o u) = SRun.running c1 := h
    show (match sstep den p w c with
      | .go c2 => schedN den p w (j + k) c2
      | .halt o u => .halted o u) = _
    cases e : sstep den p w c with
    | go c2 =>
      rw [e] at h1
      exact sched_add j k c2 c1 h1
    | halt o u =>
      rw [e] at h1
      cases h1
theorem Way.trans (a : Way p w n0 ann s t s1 t1) (b : Way p w n0 ann s1 t1 s' t') : Way p w n0 ann s t s' t' := by
  obtain ⟨j, hj⟩ := a.run
  obtain ⟨k, hk⟩ := b.run
  exact ⟨⟨j + k, by rw [sched_add j k _ _ hj, hk]⟩, b.life.trans a.life, b.os.trans a.os, fun x o h1 h2 h3 h4 h5 => b.keep x o h1 h2 h3 h4 (a.keep x o h1 h2 h3 h4 h5)⟩
theorem Way.one (hz : s.asleep) (hk : stepOk n0 ann t = true) (hs : step (denote table) p w s t = .go s' t') : Way p w n0 ann s t s' t' := by
  obtain ⟨hc, hk⟩ := Bool.and_eq_true_iff.mp hk
  have e : sstep (denote table) p w (.single s t) = .go (.single s' t') := by
    rcases sstep_single (denote table) p w s t hc hz with e | e
    · rw [e, hs]
      rfl
    · rw [hs] at e
      cases e
  refine ⟨⟨1, by unfold schedN; rw [e]; rfl⟩, step_life (denote table) p w s s' t t' hs, step_os_same hs ?_, fun b o h1 h2 h3 h4 h5 => ?_⟩
  · revert hk
    cases t.cur <;> simp
  rw [step_heap (denote table) p w s s' t t' hs]
  revert hk
  cases t.cur with
  | update a q f k =>
    intro hk
    have nb : b ≠ a := by
      intro z
      subst z
      simp only [Bool.or_eq_true, Nat.ble_eq, beq_iff_eq] at hk
      rcases hk with ((q | q) | q) | q
      · exact absurd h1 (Nat.not_lt.mpr q)
      · exact h2 q
      · exact h3 q
      · exact h4 q
    exact (Heap.get?_update_ne _ _ _ _ nb).trans h5
  | alloc x k => intro _; exact Heap.get?_push_of_some x h5
  | _ => intro _; exact h5
/-- the kernel's part -/
theorem goP_way {tb : String → Option Builtin} (etb : tb = table) : ∀ {m : Nat} {s s' : SharedT} {t t' : Thread}, s.abs.asleep → goP (stepT (denote tb) p w) n0 ann m s t = some (s', t') → Way p w n0 ann s.abs t s'.abs t'
  | 0, s, s', t, t', hz, h => by
    cases h
    exact ⟨⟨0, rfl⟩, rfl, rfl, fun _ _ _ _ _ _ e => e⟩
  | m + 1, s, s', t, t', hz, h => by
    subst etb
    have h1 : (match through t with
      | true => none
      | false => match stepOk n0 ann t with
        | false => none
        | true => match stepT (denote table) p w s t with
          | some (s2, t2) => frS s2 fun s2 => goP (stepT (denote table) p w) n0 ann m s2 t2
          | none => none) = some (s', t') := h
    cases ht : through t with
    | true =>
      rw [ht] at h1
      cases h1
    | false =>
      rw [ht] at h1
      cases hk : stepOk n0 ann t with
      | false =>
        rw [hk] at h1
        cases h1
      | true =>
        rw [hk] at h1
        have h2 : (match stepT (denote table) p w s t with
          | some (s2, t2) => frS s2 fun s2 => goP (stepT (denote table) p w) n0 ann m s2 t2
          | none => none) = some (s', t') := h1
        cases hs : stepT (denote table) p w s t with
        | none =>
          rw [hs] at h2
          cases h2
        | some r =>
          obtain ⟨s2, t2⟩ := r
          rw [hs] at h2
          have h3 : (frS s2 fun s2 => goP (stepT (denote table) p w) n0 ann m s2 t2) = some (s', t') := h2
          rw [frS_eq] at h3
          have a : Way p w n0 ann s.abs t s2.abs t2 := Way.one hz hk (stepT_spec hs)
          exact a.trans (goP_way rfl (Shared.asleep_of_life a.life hz) h3)

/-! ### one part by the logic -/
variable {M : Model} {α β : Type}
/-- what the machine still does around an expression of a module's top -/
def around (J : α → Sem β) (K1 : β → Sem Flow) (h : Value → Sem Unit) (K2 : Flow → Sem Fin) (m : Sem α) : Sem Fin := (((m.bind J).bind K1).onRaise h).bind K2
theorem comes_in {Γ : Ctx} {st : List Frame} (hf : Γ.Fits st) (J : α → Sem β) (K1 : β → Sem Flow) (hr : Value → Sem Unit) (K2 : Flow → Sem Fin) (m : Sem α) :
    ∀ (Q : α → Pos → Shared → Prop) (q : Pos) (s : Shared), Sem.wp M Γ m Q (fun _ _ _ => False) q s →
      ∃ s' q' a, Q a q' s' ∧ Comes M s ⟨around J K1 hr K2 m, Γ.code, q, st⟩ s' ⟨around J K1 hr K2 (.pure a), Γ.code, q', st⟩ := by
  induction m with
  | pure a => exact fun Q q s h => ⟨s, q, a, h, .refl _ _⟩
  | raise e => exact fun Q q s h => h.elim
  | unsupported _ => exact fun Q q s h => h.elim
  | finish _ => exact fun Q q s h => h.elim
  | register a k _ => exact fun Q q s h => h.elim
  | yield v g l k _ => exact fun Q q s h => h.elim
  | fork c k _ => exact fun Q q s h => h.elim
  | await a f d l k _ => exact fun Q q s h => h.elim
  | rule tag k ih => exact fun Q q s h => let ⟨a, b, c, d, e⟩ := ih () Q q s h; ⟨a, b, c, d, .step (step_rule ..) e⟩
  | «at» q0 k ih => exact fun Q q s h => let ⟨a, b, c, d, e⟩ := ih () Q q0 s h; ⟨a, b, c, d, .step (step_at ..) e⟩
  | load x part k ih => exact fun Q q s ⟨o, ho, h⟩ => let ⟨a, b, c, d, e⟩ := ih o Q q s h; ⟨a, b, c, d, .step (step_load _ _ _ _ _ _ _ ho) e⟩
  | update x part f k ih => exact fun Q q s ⟨ho, h⟩ => let ⟨a, b, c, d, e⟩ := ih () Q q _ h; ⟨a, b, c, d, .step (step_update _ _ _ _ _ _ _ _ ho) e⟩
  | loadIfAlive x k ih => exact fun Q q s h => let ⟨a, b, c, d, e⟩ := ih _ Q q s h; ⟨a, b, c, d, .step (step_loadIfAlive ..) e⟩
  | point l k ih => exact fun Q q s h => let ⟨a, b, c, d, e⟩ := ih () Q q s h; ⟨a, b, c, d, .step (step_point ..) e⟩
  | alloc o k ih => exact fun Q q s h => let ⟨a, b, c, d, e⟩ := ih _ Q q _ h; ⟨a, b, c, d, .step (step_alloc ..) e⟩
  | fresh k ih => exact fun Q q s h => let ⟨a, b, c, d, e⟩ := ih _ Q q _ h; ⟨a, b, c, d, .step (step_fresh ..) e⟩
  | ask k ih => exact fun Q q s h => let ⟨a, b, c, d, e⟩ := ih _ Q q s h; ⟨a, b, c, d, .step (step_ask ..) e⟩
  | choose src n k ih => exact fun Q q s ⟨hn, h⟩ => let ⟨a, b, c, d, e⟩ := ih _ Q q _ h; ⟨a, b, c, d, .step (step_choose _ _ _ _ _ _ _ hn) e⟩
  | os r l k ih => exact fun Q q s h => let ⟨a, b, c, d, e⟩ := ih _ Q q _ h; ⟨a, b, c, d, .step (step_os ..) e⟩
  | call c h0 g l k ih =>
    intro Q q s ⟨r, s1, hr1, h⟩
    obtain ⟨t', c', p', pre', hc1, hx⟩ := (runs_reach hr1 _ (hf.enter c (fun r => around J K1 hr K2 (k r)) h0 g l q [])).comes
    obtain ⟨rfl, rfl⟩ := hx
    obtain ⟨a, b, c, d, e⟩ := ih r Q q s1 h
    exact ⟨a, b, c, d, .step (step_call ..) (.trans hc1 (.step (step_leaf_ret ..) e))⟩
  | handled own k ih =>
    intro Q q s h
    obtain ⟨a, b, c, d, e⟩ := ih _ Q q s h
    refine ⟨a, b, c, d, .step ?_ e⟩
    show M.step s ⟨.handled own _, Γ.code, q, st⟩ = _
    rw [step_handled]
    cases own
    · rw [hf.handled]; rfl
    · rw [hf.own]; rfl
  | genState g k ih => exact fun Q q s ⟨x, hg, h⟩ => let ⟨a, b, c, d, e⟩ := ih _ Q q s h; ⟨a, b, c, d, .step (step_genState _ _ _ _ _ _ hg) e⟩
  | newGen c k ih => exact fun Q q s h => let ⟨a, b, c, d, e⟩ := ih _ Q q _ h; ⟨a, b, c, d, .step (step_newGen ..) e⟩
  | resume g r l k ih => exact fun Q q s ⟨res, s1, hw, h⟩ => let ⟨a, b, c, d, e⟩ := ih res Q q s1 h; ⟨a, b, c, d, .trans (wakes_comes hf l _ hw) e⟩
  | stack k ih =>
    intro Q q s h
    obtain ⟨a, b, c, d, e⟩ := ih _ Q q s h
    exact ⟨a, b, c, d, .step (by rw [hf.below]; exact step_stack ..) e⟩
  | thread k ih => exact fun Q q s h => let ⟨a, b, c, d, e⟩ := ih _ Q q s h; ⟨a, b, c, d, .step (step_thread ..) e⟩
/-- .. by the machine itself -/
theorem sched_comes {s s' : Shared} {th th' : Thread} (hz : s.asleep) (hg : s'.gens = #[]) (h : Comes (model p w) s th s' th') :
    ∃ (n : Nat) (tau : Thread), schedN (denote table) p w n (.single s th) = .running (.single s' tau) ∧ tau.forget = th'.forget := by
  obtain ⟨n, hn⟩ := h
  have hn' : runNI (denote table) p w n s th = .running s' th' := hn
  obtain ⟨u, tau, hr, hu, ht⟩ := runNI_running_real hn'
  have eu : u = s' := by
    obtain ⟨u1, u2, u3, u4, u5⟩ := u
    obtain ⟨v1, v2, v3, v4, v5⟩ := s'
    have hg2 : v2 = #[] := hg
    subst hg2
    simp only [Shared.forget, Shared.mk.injEq] at hu
    obtain ⟨a1, a2, a3, a4, a5⟩ := hu
    have z : u2 = #[] := by
      have := congrArg Array.size a2
      simp at this
      exact this
    rw [a1, z, a3, a4, a5]
  subst eu
  refine ⟨n, tau, ?_, ht⟩
  rw [schedN_prefix (denote table) p w n s th hz (fun k s1 t1 hk h1 => ?_), hr]
  · rfl
  obtain ⟨s2, t2, h2⟩ := runNI_prefix (Nat.le_of_lt hk) hn'
  obtain ⟨v, ta, q1, q2, q3⟩ := runNI_running_real h2
  rw [h1] at q1
  cases q1
  obtain ⟨s4, t4, h4⟩ := runNI_prefix (show k + 1 ≤ n from hk) hn'
  obtain ⟨s5, t5, h5, _, _⟩ := runNI_running_real h4
  constructor
  · rw [← Thread.calm_forget, q3, Thread.calm_forget]
    rw [Thread.calm_eq]
    have go : ∀ (k : Nat) (a : Shared) (b : Thread), runNI (denote table) p w k a b = .running s2 t2 → (∃ s4 t4, runNI (denote table) p w (k + 1) a b = .running s4 t4) → ∃ s4 t4, stepI (denote table) p w s2 t2 = .go s4 t4 := by
      intro k
      induction k with
      | zero =>
        intro a b e ⟨s4, t4, e4⟩
        cases e
        have e5 : (match stepI (denote table) p w s2 t2 with
          | .go s' t' => runNI (denote table) p w 0 s' t'
          | .halt o s' => .halted o s') = Run.running s4 t4 := e4
        cases e6 : stepI (denote table) p w s2 t2 with
        | go x y => exact ⟨x, y, rfl⟩
        | halt x y =>
          rw [e6] at e5
          cases e5
      | succ k ih =>
        intro a b e ⟨s4, t4, e4⟩
        have e5 : (match stepI (denote table) p w a b with
          | .go s' t' => runNI (denote table) p w (k + 1) s' t'
          | .halt o s' => .halted o s') = Run.running s4 t4 := e4
        have e7 : (match stepI (denote table) p w a b with
          | .go s' t' => runNI (denote table) p w k s' t'
          | .halt o s' => .halted o s') = Run.running s2 t2 := e
        cases e6 : stepI (denote table) p w a b with
        | go x y =>
          rw [e6] at e5 e7
          exact ih x y e7 ⟨_, _, e5⟩
        | halt x y =>
          rw [e6] at e5
          cases e5
    obtain ⟨s6, t6, e6⟩ := go k s th h2 ⟨_, _, h4⟩
    have nl : t2.loud = false := by
      cases e : t2.loud with
      | false => rfl
      | true =>
        rw [stepI_loud _ _ _ e] at e6
        cases e6
    have nr : t2.refused = false := by
      cases e : t2.refused with
      | false => rfl
      | true =>
        rw [stepI_quiet _ _ _ nl] at e6
        obtain ⟨what, e7⟩ := stepK_refused (den := denote table) (prog := p) (w := w) (s := s2) e
        rw [e7] at e6
        cases e6
    rw [nl, nr]
    rfl
  · intro e
    have go : ∀ (k : Nat) (a : Shared) (b : Thread), runN (denote table) p w k a b = .running s1 t1 → runN (denote table) p w (k + 1) a b = .running s5 t5 → ∃ s4 t4, step (denote table) p w s1 t1 = .go s4 t4 := by
      intro k
      induction k with
      | zero =>
        intro a b e e4
        cases e
        have e5 : (match step (denote table) p w s1 t1 with
          | .go s' t' => runN (denote table) p w 0 s' t'
          | .halt o s' => .halted o s') = Run.running s5 t5 := e4
        cases e6 : step (denote table) p w s1 t1 with
        | go x y => exact ⟨x, y, rfl⟩
        | halt x y =>
          rw [e6] at e5
          cases e5
      | succ k ih =>
        intro a b e e4
        have e5 : (match step (denote table) p w a b with
          | .go s' t' => runN (denote table) p w (k + 1) s' t'
          | .halt o s' => .halted o s') = Run.running s5 t5 := e4
        have e7 : (match step (denote table) p w a b with
          | .go s' t' => runN (denote table) p w k s' t'
          | .halt o s' => .halted o s') = Run.running s1 t1 := e
        cases e6 : step (denote table) p w a b with
        | go x y =>
          rw [e6] at e5 e7
          exact ih x y e7 e5
        | halt x y =>
          rw [e6] at e5
          cases e5
    obtain ⟨x, y, e6⟩ := go k s th h1 h5
    rw [e6] at e
    cases e
theorem way_logic {Γ : Ctx} {st : List Frame} (hf : Γ.Fits st) {J : α → Sem β} {K1 : β → Sem Flow} {hr : Value → Sem Unit} {K2 : Flow → Sem Fin} {m : Sem α} {v : α} {s s2 : Shared} {q : Pos} (hz : s.asleep)
    (h : Sem.wp (model p w) Γ m (fun a _ s' => a = v ∧ s' = s2) (fun _ _ _ => False) q s) (hg : s2.gens = #[]) (hl : s2.heap.life = s.heap.life) (ho : s2.os = s.os) (hk : ∀ b o, s.heap.get? b = some o → s2.heap.get? b = some o) :
    ∃ (q' : Pos) (st' : List Frame), forgetAll st' = forgetAll st ∧ Way p w n0 ann s ⟨around J K1 hr K2 m, Γ.code, q, st⟩ s2 ⟨around J K1 hr K2 (.pure v), Γ.code, q', st'⟩ := by
  obtain ⟨s', q', a, ⟨ea, es⟩, hc⟩ := comes_in hf J K1 hr K2 m _ q s h
  subst ea es
  obtain ⟨n, tau, e1, e2⟩ := sched_comes hz hg hc
  obtain ⟨cur, code, pos, stack⟩ := tau
  simp only [Thread.forget, Thread.mk.injEq] at e2
  obtain ⟨a1, a2, a3, a4⟩ := e2
  subst a1 a2 a3
  exact ⟨_, stack, a4, ⟨⟨n, e1⟩, hl, ho, fun b o _ _ _ _ e => hk b o e⟩⟩
end HdB

set_option Elab.async false
set_option linter.all false
set_option maxRecDepth 100000
set_option maxHeartbeats 2000000
namespace HdB
open PySem PySem.W PySem.Calls PyProof.Rows HandSHeadRun
/-- what stands ahead of the top -/
noncomputable def ahead (w : World) (os : OsState) : Shared := ⟨boot_heap w.params, Array.mk [], boot_drawn, boot_toks, os⟩
/-- the top comes through, and what is seen then -/
noncomputable def Through (p q : Program) (loose : List PySem.Str) (Xt : Shared → Bool) (YP : World → Heap → Prop) (w : World) : Prop :=
  ∀ os : OsState, ∃ s t, Way p w (boot_heap w.params).objs.size (bootAnn w) (ahead w os) (topStub p) s t ∧ through t = true ∧ looksF p (boot_heap w.params) s = true ∧
    openSeen q loose (importedModules p.main.body) Xt true s = openGood q loose ∧ YP w s.heap
section
variable {p q : Program} {loose : List PySem.Str} {Xt : Shared → Bool} {YP : World → Heap → Prop}
theorem after_top (ho : opening p = plainProg p.main.scope.names) (hfe : ∀ s, fenceModules? p s = some s) (hch : chainsOk q = true) (H : ∀ w, Through p q loose Xt YP w)
    {XP : (PySem.Str → Option Value) → Heap → Prop} (hX : ∀ s, Xt s = true → XP (s.heap.nsMap mainGlobals) s.heap) (w : World) :
    (∃ s, AfterRun (opening p) w s) ∧ ∀ s, AfterRun (opening p) w s → ∃ s0, fenceModules? p s = some s0 ∧ s0.gens = #[] ∧ ∃ s1, TopRan p w s0 s1 ∧ s1.asleep ∧ s1.gens = #[] ∧ s1.heap.isNs mainGlobals = true ∧
      Ground q loose [] XP w s1 (s1.heap.nsMap mainGlobals) (s1.heap.nsMap builtinsNs) s1.heap ∧ YP w s1.heap := by
  have bo := boot_open (N := 600) ho rfl hfe w
  rw [← table_eq_tree] at bo
  obtain ⟨⟨h0, g0, d0, k0, os⟩, b1, b2⟩ := Option.map_eq_some_iff.mp bo
  simp only [Prod.mk.injEq] at b2
  obtain ⟨z1, z2, z3, z4⟩ := b2
  subst z1 z2 z3 z4
  obtain ⟨u, u1, u2⟩ := Option.bind_eq_some_iff.mp b1
  have au := AfterImport.of_importEnds u1
  refine ⟨⟨u, au⟩, fun s' a' => ?_⟩
  have es : s' = u := AfterImport.unique a' au
  subst es
  obtain ⟨s, t, wy, th, lk, sn, y⟩ := H w os
  have sleep : (ahead w os).asleep := Shared.asleep_of_life (fence_lifeW u2) au.life
  unfold looksF at lk
  simp only [Bool.and_eq_true] at lk
  obtain ⟨⟨⟨l1, l2⟩, l3⟩, l4⟩ := lk
  obtain ⟨gr, gn, gm, c1, c2, c3, c4⟩ := ground_of_open (w := w) hX hch sn
  obtain ⟨k, hk⟩ := wy.run
  have bns : (boot_heap w.params).isNs mainGlobals = true := boot_ns w.params
  refine ⟨_, u2, rfl, s, ⟨⟨k, t, hk, th⟩, wy.life, Shared.rest_eq wy.os, fun b o e no => ?_, c1, statics_of_ok l1, c2, c3, c4, gens_of_done l3, names_of_bound l2, laid_of_kept l4⟩, Shared.asleep_of_life wy.life sleep,
    Array.eq_empty_of_size_eq_zero (beq_iff_eq.mp gn), gm, gr, y⟩
  exact wy.keep b o (Heap.lt_size e) (fun x => no (.inl x)) (fun x => no (.inr (.inl x))) (fun x => no (.inr (.inr ((Pin.globalOf_eq bns _).trans x)))) e
end
/-- a row without records: by such a top, and its call -/
theorem holds_top {r : OpenRow} {q : Program} {loose : List PySem.Str} {YP : World → Heap → Prop} {d : DefRec} {kwd : List (PySem.Str × PySem.Expr)} (hrec : r.records = []) (hwri : r.writes = false)
    (ho : opening r.prog = plainProg r.prog.main.scope.names) (hfe : ∀ s, fenceModules? r.prog s = some s) (H : ∀ w, Through r.prog q loose (fun s => xlAt q [] s) YP w)
    (hYk : ∀ w h h', YP w h → (∀ b o, h.get? b = some o → h'.get? b = some o) → YP w h')
    (hdef : defOf q r.name = some (d, kwd)) (hp : r.prog.theDef r.name = some (d.params, d.body, d.scope)) (hkw : kwWritten? d.params.kwonlyargs d.params.kw_defaults = some kwd)
    (well : r.wellSaid = true) (ok : (chainsOk q && opensWell r.prog && (frees r.toRowW && r.within.isEmpty)) = true) (bare : r.prog.bare) (prom : r.toRowW.promised)
    (call : WalkO q loose (XL q []) YP r.toRowW d kwd fun f vs => PySem.call f vs) : r.Holds := by
  obtain ⟨ok1, ok2⟩ := Bool.and_eq_true_iff.mp ok
  obtain ⟨chn, opw⟩ := Bool.and_eq_true_iff.mp ok1
  obtain ⟨fre, wi⟩ := Bool.and_eq_true_iff.mp ok2
  obtain ⟨f1, f2, f3, f4, f5⟩ := frees_parts fre
  have at_ := fun w => after_top ho hfe chn H (XP := XL q []) (fun s z => xl_of s z) w
  have mk0 : r.toRowW.claim.makers = [] := by
    show r.makers.map _ = []
    rw [f5]
    rfl
  refine ⟨well, prom, ⟨bare, opw, mk0⟩, prom.witness, fun w => ⟨(at_ w).1, fun s a => ?_⟩⟩
  obtain ⟨s0, e0, g0, s1, ran, sleep, gens, isn, gr, y⟩ := (at_ w).2 s a
  have rec0 : r.toRowW.claim.records = [] := hrec
  have pin : isTheDefsW r.prog s1.heap r.name := pinned_of_view isn gr hdef hp hkw
  refine ⟨s0, e0, g0, s1, ran, fun n hn => ?_, fun x hx => ?_, fun x hx => ?_, ?_⟩
  · have e : n = r.name := by
      split at hn <;> simp_all
    rw [e]
    exact pin
  · rw [rec0] at hx
    exact nomatch hx
  · rw [rec0] at hx
    exact nomatch hx
  have gr' : Ground q loose r.records (XL q []) w s1 (s1.heap.nsMap mainGlobals) (s1.heap.nsMap builtinsNs) s1.heap := by
    rw [hrec]
    exact gr
  refine ClaimW.callFrom_of_specG (c := r.toRowW.claim) sleep gens fun args hpre hlay ord hord => ?_
  obtain ⟨⟨vs, s2⟩, laid⟩ := Option.isSome_iff_exists.mp (layAllW_isSome (P := w.params) (ord := ord) gr'.has args r.args s1 (pre_splitW hpre).1)
  have kp := layAllW_keeps _ _ _ laid
  have rs := layAllW_rest _ _ _ laid
  obtain ⟨as, r1, r2, r3⟩ := reads_layAllW hord _ _ _ laid hlay s2.heap fun _ _ e => e
  have L : Laid r.records w s1 s2 args vs as := ⟨⟨ord, hord, laid⟩, r1, r2, r3, kp, rs.1.trans gens, rs.2.2.1⟩
  have g2 := gr'.keeps XL.keeps kp
  obtain ⟨fa, o, pm, cd, doc, dV, kV, h1, h2, h3, h4, h5⟩ := g2.fn hdef
  have run := call w s1 s2 _ _ g2 (hYk _ _ _ y kp) fa o pm cd doc dV kV h2 h3 h4 h5 (defOf_name hdef ▸ h1) L.gens args vs as hpre hlay L.reads L.well (L.low gr'.low)
  have idn := ident_freeW f2 f3 f4
  have wi0 : r.toRowW.claim.within = [] := List.isEmpty_iff.mp wi
  refine ⟨vs, s2, laid, ?_⟩
  refine wpAny_bind (wpAny_nsGet g2.T.g ?_)
  rw [h1]
  refine wpAny_bind (wpAny_mono run (fun v s' g => wpAny_pure ?_) fun e s' g => ?_)
  · have z := g.laid (c := r.toRowW.claim) f1 wi0 idn L
    exact ⟨_, rfl, z.1, z.2.1, z.2.2, fun c => by rw [hwri] at c; cases c⟩
  · have z := g.laid (c := r.toRowW.claim) f1 wi0 idn L
    exact ⟨z.1, z.2.1, z.2.2, fun c => by rw [hwri] at c; cases c⟩
end HdB

set_option Elab.async false
set_option linter.all false
set_option maxRecDepth 100000
set_option maxHeartbeats 2000000
/-! Displays of a module's top: a tuple of tuples of int, a dict of such keys. -/
namespace HdB
open PySem PySem.W PySem.Calls PyProof.Rows

/-! ### a heap with more objects behind it -/
def app (h : Heap) (L : List Obj) : Heap := ⟨h.objs ++ L.toArray, h.life⟩
section
variable {h : Heap} {L L2 : List Obj} {o : Obj}
theorem app_nil : app h [] = h := by
  obtain ⟨x, y⟩ := h
  simp [app]
theorem app_app : app (app h L) L2 = app h (L ++ L2) := by
  simp [app]
theorem app_push : (app h L).push o = app h (L ++ [o]) := by
  show (⟨(h.objs ++ L.toArray).push o, h.life⟩ : Heap) = ⟨h.objs ++ (L ++ [o]).toArray, h.life⟩
  simp
theorem push_app : h.push o = app h [o] := by
  show (⟨h.objs.push o, h.life⟩ : Heap) = ⟨h.objs ++ [o].toArray, h.life⟩
  simp
theorem app_size : (app h L).objs.size = h.objs.size + L.length := by
  simp [app]
theorem app_at {i : Nat} (hi : h.objs.size ≤ i) : (app h L).objs[i]? = L[i - h.objs.size]? := by
  unfold app
  rw [Array.getElem?_append, if_neg (by omega)]
  simp
theorem app_get {i a : Nat} (hi : L[i]? = some o) (nf : o.data ≠ .freed) (ha : a = h.objs.size + i) : (app h L).get? a = some o := by
  unfold Heap.get?
  subst ha
  rw [app_at (by omega), show h.objs.size + i - h.objs.size = i by omega, hi]
  obtain ⟨c, d, dt, sl⟩ := o
  cases dt <;> first | rfl | exact absurd rfl nf
theorem app_old {b : Addr} (e : h.get? b = some o) : (app h L).get? b = some o := by
  have lt := Heap.lt_size e
  unfold Heap.get? at e ⊢
  have z : (app h L).objs[b]? = h.objs[b]? := by
    unfold app
    rw [Array.getElem?_append, if_pos lt]
  rw [z]
  exact e
theorem app_update {i a : Nat} {f : Obj → Obj} (ha : a = h.objs.size + i) : (app h L).update a f = app h (L.modify i f) := by
  subst ha
  unfold Heap.update app
  simp only [Heap.mk.injEq, and_true]
  apply Array.ext_getElem?
  intro j
  rw [Array.getElem?_modify]
  simp only [Array.getElem?_append, List.getElem?_toArray]
  by_cases hj : j < h.objs.size
  · simp only [hj, if_true]
    rw [if_neg (by omega)]
  · simp only [hj, if_false]
    rw [List.getElem?_modify]
    by_cases e : h.objs.size + i = j
    · subst e
      simp
    · have e2 : ¬ i = j - h.objs.size := by omega
      simp [e, e2]
theorem app_life : (app h L).life = h.life := rfl
end
/-- so many new objects and tokens later -/
def later (s : Shared) (L : List Obj) (n : Nat) : Shared := { s with heap := app s.heap L, toks := s.toks + n }
theorem later_later {s : Shared} {L L2 : List Obj} {n m : Nat} : later (later s L n) L2 m = later s (L ++ L2) (n + m) := by
  unfold later
  simp only [app_app, Nat.add_assoc]
theorem later_0 {s : Shared} : later s [] 0 = s := by
  obtain ⟨a, b, c, d, e⟩ := s
  unfold later
  simp [app_nil]

/-! ### tuples of int -/
def intsO : Nat → List Int → List Value
  | _, [] => []
  | tk, k :: ks => .int k tk :: intsO (tk + 1) ks
theorem intsO_length : ∀ (tk : Nat) (ks : List Int), (intsO tk ks).length = ks.length
  | _, [] => rfl
  | tk, _ :: ks => congrArg (· + 1) (intsO_length (tk + 1) ks)
def tupO (tk : Nat) (ks : List Int) : Obj := { cls := .type "tuple", data := .seq (intsO tk ks).toArray }
def cInt : Expr → Option Int
  | .Constant (.int k) _ _ => some k
  | _ => none
def cInts : List Expr → Option (List Int)
  | [] => some []
  | e :: r => match cInt e, cInts r with
    | some k, some ks => some (k :: ks)
    | _, _ => none
def cTup : Expr → Option (List Int)
  | .Tuple es _ _ => cInts es
  | _ => none
def cTups : List Expr → Option (List (List Int))
  | [] => some []
  | e :: r => match cTup e, cTups r with
    | some k, some ks => some (k :: ks)
    | _, _ => none
section
variable {prog : Program} {w : World} {A : Around} {E : Value → Shared → Prop} {env : Env} {pos : Pos}
theorem int_eval {e : Expr} {k : Int} {s : Shared} {Q : Value → Shared → Prop} (h : cInt e = some k) (q : Q (.int k s.toks) { s with toks := s.toks + 1 }) : wpAny (model prog w) A (eval e env) Q E s := by
  unfold cInt at h
  split at h
  · cases h
    exact wpAny_Constant_int q
  · cases h
theorem int_star {e : Expr} {k : Int} {r : List Expr} (h : cInt e = some k) : starEach (e :: r) env = (false, eval e env) :: starEach r env := by
  unfold cInt at h
  split at h
  · rfl
  · cases h
theorem intsO_spliced : ∀ (es : List Expr) (ks : List Int) (s : Shared) (Q : List Value → Shared → Prop), cInts es = some ks → Q (intsO s.toks ks) (later s [] ks.length) → wpAny (model prog w) A (spliced (backTo pos (starEach es env))) Q E s
  | [], ks, s, Q, h, q => by
    cases h
    refine spliced_none ?_
    rw [show s = later s [] 0 from later_0.symm]
    exact q
  | x :: r, ks, s, Q, h, q => by
    unfold cInts at h
    split at h
    next k ks' h1 h2 =>
      cases h
      refine spliced_more (int_eval h1 ?_) (int_star h1)
      refine intsO_spliced r ks' _ _ h2 ?_
      have e3 : later { s with toks := s.toks + 1 } [] ks'.length = later s [] (k :: ks').length := by
        unfold later
        simp only [app_nil, List.length_cons]
        congr 1
        omega
      rw [e3]
      exact q
    next => cases h
theorem tup_eval {e : Expr} {ks : List Int} {s : Shared} {Q : Value → Shared → Prop} (h : cTup e = some ks) (hz : ks.length ≤ sizeLine) (q : Q (.ref s.heap.objs.size) (later s [tupO s.toks ks] ks.length)) :
    wpAny (model prog w) A (eval e env) Q E s := by
  unfold cTup at h
  split at h
  · refine wpAny_Tuple_spliced (intsO_spliced _ ks s _ h ⟨by rw [intsO_length]; exact hz, ?_⟩)
    have e1 : ({ later s [] ks.length with heap := (later s [] ks.length).heap.push { cls := .type "tuple", data := .seq (intsO s.toks ks).toArray } } : Shared) = later s [tupO s.toks ks] ks.length := by
      unfold later
      simp only [app_nil, push_app]
      rfl
    have e2 : (later s [] ks.length).heap = s.heap := app_nil
    rw [e1, e2]
    exact q
  · cases h
/-! ### a tuple of such -/
def tups : Nat → List (List Int) → List Obj
  | _, [] => []
  | tk, ks :: r => tupO tk ks :: tups (tk + ks.length) r
def refs (n m : Nat) : List Value := (List.range' n m).map .ref
def total (kss : List (List Int)) : Nat := (kss.map List.length).sum
theorem tups_length : ∀ (tk : Nat) (kss : List (List Int)), (tups tk kss).length = kss.length
  | _, [] => rfl
  | tk, ks :: r => congrArg (· + 1) (tups_length (tk + ks.length) r)
theorem tups_spliced : ∀ (es : List Expr) (kss : List (List Int)) (s : Shared) (Q : List Value → Shared → Prop), cTups es = some kss → (∀ ks ∈ kss, ks.length ≤ sizeLine) →
    Q (refs s.heap.objs.size kss.length) (later s (tups s.toks kss) (total kss)) → wpAny (model prog w) A (spliced (backTo pos (starEach es env))) Q E s
  | [], kss, s, Q, h, hz, q => by
    cases h
    refine spliced_none ?_
    rw [show s = later s [] 0 from later_0.symm]
    exact q
  | e :: r, kss, s, Q, h, hz, q => by
    unfold cTups at h
    split at h
    next k ks h1 h2 =>
      cases h
      have hs : starEach (e :: r) env = (false, eval e env) :: starEach r env := by
        unfold cTup at h1
        split at h1
        · rfl
        · cases h1
      refine spliced_more (tup_eval h1 (hz k (by simp)) ?_) hs
      refine tups_spliced r ks _ _ h2 (fun x hx => hz x (by simp [hx])) ?_
      rw [later_later]
      have e1 : (later s [tupO s.toks k] k.length).heap.objs.size = s.heap.objs.size + 1 := app_size
      have e2 : (later s [tupO s.toks k] k.length).toks = s.toks + k.length := rfl
      rw [e1, e2]
      have e3 : refs s.heap.objs.size (k :: ks).length = .ref s.heap.objs.size :: refs (s.heap.objs.size + 1) ks.length := by
        unfold refs
        rw [List.length_cons, List.range'_succ]
        rfl
      rw [e3] at q
      exact q
    next => cases h
/-- the display's objects -/
def tabO (n tk : Nat) (kss : List (List Int)) : List Obj := tups tk kss ++ [{ cls := .type "tuple", data := .seq (refs n kss.length).toArray }]
theorem table_eval {es : List Expr} {j} {kss : List (List Int)} {s : Shared} {Q : Value → Shared → Prop} (h : cTups es = some kss) (hz : ∀ ks ∈ kss, ks.length ≤ sizeLine) (hk : kss.length ≤ sizeLine)
    (q : Q (.ref (s.heap.objs.size + kss.length)) (later s (tabO s.heap.objs.size s.toks kss) (total kss))) : wpAny (model prog w) A (eval (.Tuple es j pos) env) Q E s := by
  refine wpAny_Tuple_spliced (tups_spliced es kss s _ h hz ⟨by unfold refs; rw [List.length_map, List.length_range']; exact hk, ?_⟩)
  have e1 : (later s (tups s.toks kss) (total kss)).heap.objs.size = s.heap.objs.size + kss.length := by
    show (app s.heap _).objs.size = _
    rw [app_size, tups_length]
  have e2 : ({ later s (tups s.toks kss) (total kss) with heap := (later s (tups s.toks kss) (total kss)).heap.push { cls := .type "tuple", data := .seq (refs s.heap.objs.size kss.length).toArray } } : Shared) = later s (tabO s.heap.objs.size s.toks kss) (total kss) := by
    unfold later tabO
    simp only [app_push]
  rw [e1, e2]
  exact q
end
end HdB

set_option Elab.async false
set_option linter.all false
set_option maxRecDepth 100000
set_option maxHeartbeats 1000000
namespace HdB
open PySem PySem.W PySem.Calls PyProof.Rows
def dictO (es : List DictEntry) (ep : Nat) : Obj := { cls := .type "dict", data := .dict es.toArray ep }
theorem dictO_push {es : List DictEntry} {ep : Nat} {e : DictEntry} : Obj.mapDictKeys (·.push e) (dictO es ep) = dictO (es ++ [e]) (ep + 1) := by
  unfold dictO Obj.mapDictKeys
  simp
theorem modify_mid {α : Type} {x : α} {R : List α} {f : α → α} : ∀ {pre : List α}, (pre ++ x :: R).modify pre.length f = pre ++ f x :: R
  | [] => by simp
  | y :: pre => by
    show (y :: (pre ++ x :: R)).modify (pre.length + 1) f = y :: (pre ++ f x :: R)
    rw [List.modify_succ_cons, modify_mid]
abbrev Tri : Type := List Int × Addr × Value
def eOf (x : Tri) : DictEntry := ⟨reduceHash (Builtin.Tuple.tupleHashOf (x.1.map hashInt)), .ref x.2.1, x.2.2⟩
section
variable {prog : Program} {w : World} {A : Around} {E : Value → Shared → Prop} {env : Env} {pos : Pos}
abbrev kn (prog : Program) (w : World) : HeapKind prog w (List Int) := tupleKind (intKind prog w)
theorem eOf_eq : (eOf : Tri → DictEntry) = entryOfKey (kn prog w) := rfl
/-- at the base's end a dict of these, more behind it -/
structure At (prog : Program) (w : World) (s : Shared) (h0 : Heap) (pre : List Obj) (xs : List Tri) (R : List Obj) : Prop where
  hp : s.heap = app h0 (pre ++ dictO (xs.map eOf) xs.length :: R)
  ks : ∀ x ∈ xs, (kn prog w).is s.heap x.1 x.2.1
  nd : (xs.map (·.1)).Nodup
theorem is_push {h h' : Heap} {k : List Int} {a : Addr} (x : (kn prog w).is h k a) (hk : ∀ b o, h.get? b = some o → h'.get? b = some o) : (kn prog w).is h' k a := by
  obtain ⟨o, items, n, ho, hc, hd, hi⟩ := x
  exact ⟨o, items, n, hk _ _ ho, hc, hd, hi⟩
theorem At.get {s : Shared} {h0 : Heap} {pre : List Obj} {xs : List Tri} {R : List Obj} (a : At prog w s h0 pre xs R) : s.heap.get? (h0.objs.size + pre.length) = some (dictO (xs.map eOf) xs.length) := by
  rw [a.hp]
  exact app_get (i := pre.length) (by simp) (fun z => by cases z) rfl
/-- one more entry -/
theorem store_new {s : Shared} {h0 : Heap} {pre : List Obj} {xs : List Tri} {R : List Obj} {k : List Int} {a d : Addr} {v : Value} {Q : Unit → Shared → Prop} (hu : A.units < cLine) (c : At prog w s h0 pre xs R) (hd : d = h0.objs.size + pre.length)
    (hk : (kn prog w).is s.heap k a) (hn : k ∉ xs.map (·.1)) (hz : xs.length ≤ sizeLine)
    (q : ∀ s', s' = { s with heap := app h0 (pre ++ dictO ((xs ++ [(k, a, v)]).map eOf) (xs ++ [(k, a, v)]).length :: R) } → At prog w s' h0 pre (xs ++ [(k, a, v)]) R → Q () s') :
    wpAny (model prog w) A (dictSetHashed d (.ref a) ((kn prog w).hash k) v) Q E s := by
  unfold dictSetHashed
  refine wpAny_holding ?_
  have g := c.get
  rw [← hd] at g
  refine wpAny_bind (wpAny_dictFind_heap (knd := kn prog w) hu hk g rfl (xs := xs) (by simp [eOf_eq (prog := prog) (w := w)]) c.ks c.nd (fun hno => ?_) fun j p hj => ?_)
  · refine wpAny_bind (wpAny_rule (wpAny_updateDictKeys (hz := by simp; exact hz) g rfl ?_))
    have e : s.heap.update d (Obj.mapDictKeys (·.push ⟨(kn prog w).hash k, .ref a, v⟩)) = app h0 (pre ++ dictO ((xs ++ [(k, a, v)]).map eOf) (xs ++ [(k, a, v)]).length :: R) := by
      rw [c.hp, app_update hd]
      congr 1
      rw [modify_mid, dictO_push]
      simp only [List.map_append, List.map_cons, List.map_nil, List.length_append, List.length_cons, List.length_nil]
      rfl
    rw [e]
    refine q _ rfl ⟨rfl, fun x hx => ?_, ?_⟩
    · have keep : ∀ b o, s.heap.get? b = some o → (∀ z, o.data ≠ z) ∨ True := fun _ _ _ => .inr trivial
      have x1 : (kn prog w).is s.heap x.1 x.2.1 := by
        rcases List.mem_append.mp hx with hx | hx
        · exact c.ks x hx
        · simp only [List.mem_singleton] at hx
          subst hx
          exact hk
      exact (kn prog w).keeps x1 g rfl (by rw [← e]; exact Heap.SameBut.update ..)
    · rw [List.map_append, List.nodup_append]
      refine ⟨c.nd, by simp, fun x hx y hy => ?_⟩
      simp only [List.map_cons, List.map_nil, List.mem_singleton] at hy
      subst hy
      exact fun z => hn (z ▸ hx)
  · exact absurd (List.mem_map.mpr ⟨_, List.mem_of_getElem? hj, rfl⟩) hn
theorem put_new {s : Shared} {h0 : Heap} {pre : List Obj} {xs : List Tri} {R : List Obj} {k : List Int} {a d : Addr} {v : Value} {Q : Unit → Shared → Prop} (hu : A.units < cLine) (c : At prog w s h0 pre xs R) (hd : d = h0.objs.size + pre.length)
    (hk : (kn prog w).is s.heap k a) (hn : k ∉ xs.map (·.1)) (hz : xs.length ≤ sizeLine)
    (q : ∀ s', s' = { s with heap := app h0 (pre ++ dictO ((xs ++ [(k, a, v)]).map eOf) (xs ++ [(k, a, v)]).length :: R) } → At prog w s' h0 pre (xs ++ [(k, a, v)]) R → Q () s') :
    wpAny (model prog w) A (dictPut d ((kn prog w).hash k) (.ref a) v) Q E s := by
  unfold dictPut
  have g := c.get
  rw [← hd] at g
  refine wpAny_bind (wpAny_dictFind_heap (knd := kn prog w) hu hk g rfl (xs := xs) (by simp [eOf_eq (prog := prog) (w := w)]) c.ks c.nd (fun hno => ?_) fun j p hj => ?_)
  · refine wpAny_updateDictKeys (hz := by simp; exact hz) g rfl ?_
    have e : s.heap.update d (Obj.mapDictKeys (·.push ⟨(kn prog w).hash k, .ref a, v⟩)) = app h0 (pre ++ dictO ((xs ++ [(k, a, v)]).map eOf) (xs ++ [(k, a, v)]).length :: R) := by
      rw [c.hp, app_update hd]
      congr 1
      rw [modify_mid, dictO_push]
      simp only [List.map_append, List.map_cons, List.map_nil, List.length_append, List.length_cons, List.length_nil]
      rfl
    rw [e]
    refine q _ rfl ⟨rfl, fun x hx => ?_, ?_⟩
    · have keep : ∀ b o, s.heap.get? b = some o → (∀ z, o.data ≠ z) ∨ True := fun _ _ _ => .inr trivial
      have x1 : (kn prog w).is s.heap x.1 x.2.1 := by
        rcases List.mem_append.mp hx with hx | hx
        · exact c.ks x hx
        · simp only [List.mem_singleton] at hx
          subst hx
          exact hk
      exact (kn prog w).keeps x1 g rfl (by rw [← e]; exact Heap.SameBut.update ..)
    · rw [List.map_append, List.nodup_append]
      refine ⟨c.nd, by simp, fun x hx y hy => ?_⟩
      simp only [List.map_cons, List.map_nil, List.mem_singleton] at hy
      subst hy
      exact fun z => hn (z ▸ hx)
  · exact absurd (List.mem_map.mpr ⟨_, List.mem_of_getElem? hj, rfl⟩) hn
theorem set_new {s : Shared} {h0 : Heap} {pre : List Obj} {xs : List Tri} {R : List Obj} {k : List Int} {a d : Addr} {v : Value} {Q : Unit → Shared → Prop} (hu : A.units < cLine) (c : At prog w s h0 pre xs R) (hd : d = h0.objs.size + pre.length)
    (hk : (kn prog w).is s.heap k a) (hn : k ∉ xs.map (·.1)) (hz : xs.length ≤ sizeLine)
    (q : ∀ s', s' = { s with heap := app h0 (pre ++ dictO ((xs ++ [(k, a, v)]).map eOf) (xs ++ [(k, a, v)]).length :: R), toks := s.toks + (k.length + 1) } → At prog w s' h0 pre (xs ++ [(k, a, v)]) R → Q () s') :
    wpAny (model prog w) A (dictSet d (.ref a) v) Q E s := by
  unfold dictSet
  refine wpAny_holding (wpAny_bind ((kn prog w).pyHash hu hk ?_))
  exact store_new hu (s := { s with toks := s.toks + (k.length + 1) }) ⟨c.hp, c.ks, c.nd⟩ hd hk hn hz q
end
end HdB

set_option Elab.async false
set_option linter.all false
set_option maxRecDepth 100000
set_option maxHeartbeats 1000000
namespace HdB
open PySem PySem.W PySem.Calls PyProof.Rows
section
variable {prog : Program} {w : World} {A : Around} {E : Value → Shared → Prop} {env : Env} {pos : Pos}
theorem At.old {s : Shared} {h0 : Heap} {xs ys : List Tri} {R : List Obj} {s' : Shared} (c : At prog w s h0 [] xs R) (e : s'.heap = app h0 (dictO (ys.map eOf) ys.length :: R)) {k : List Int} {a : Addr} (h : (kn prog w).is s.heap k a) : (kn prog w).is s'.heap k a := by
  have g := c.get
  refine (kn prog w).keeps h g rfl ?_
  have : s'.heap = s.heap.update (h0.objs.size + ([] : List Obj).length) (fun _ => dictO (ys.map eOf) ys.length) := by
    rw [c.hp, app_update rfl, modify_mid, e]
    rfl
  rw [this]
  exact Heap.SameBut.update ..
theorem merge {s : Shared} {h0 : Heap} {xs ys : List Tri} {R : List Obj} {j d a : Nat} {Q : Unit → Shared → Prop} (hu : A.units < cLine) (c : At prog w s h0 [] xs R) (hd : d = h0.objs.size) (ha : a = h0.objs.size + 1 + j) (hs : 1 < h0.objs.size)
    (hj : R[j]? = some (dictO (ys.map eOf) ys.length)) (hy : ∀ y ∈ ys, (kn prog w).is s.heap y.1 y.2.1) (hn : ((xs ++ ys).map (·.1)).Nodup) (hx : xs ≠ []) (hz : (xs ++ ys).length ≤ sizeLine)
    (q : ∀ s', s' = { s with heap := app h0 (dictO ((xs ++ ys).map eOf) (xs ++ ys).length :: R) } → At prog w s' h0 [] (xs ++ ys) R → Q () s') :
    wpAny (model prog w) A (mergeMapping d (.ref a) false) Q E s := by
  have sub : ∀ {t : Shared} {zs : List Tri}, t.heap = app h0 (dictO (zs.map eOf) zs.length :: R) → t.heap.get? a = some (dictO (ys.map eOf) ys.length) := fun {t zs} e => by
    rw [e]
    refine app_get (i := j + 1) (by simpa using hj) (fun z => by cases z) ?_
    show a = h0.objs.size + (j + 1)
    rw [ha]
    exact Nat.add_right_comm _ _ _ |>.symm ▸ rfl
  have ti : s.TypeIs (.ref a) "dict" := ⟨_, sub c.hp, rfl⟩
  unfold mergeMapping
  refine wpAny_bind (wpAny_isInstance ti isSubtype_dict_dict ?_)
  rw [if_pos rfl]
  refine wpAny_bind (wpAny_specialOf ti F.slot_dict_iter.lookup (wpAny_bind (wpAny_pure ?_)))
  have g := c.get
  rw [show h0.objs.size + ([] : List Obj).length = d by rw [hd]; rfl] at g
  have ns : (a == sysModules) = false := by
    have : a ≠ 1 := by omega
    simpa [sysModules] using this
  show wpAny _ _ (if (a == sysModules) = true then _ else _) _ _ _
  rw [ns, if_neg Bool.false_ne_true]
  refine wpAny_bind (wpAny_dictEntries g rfl ?_)
  have ne : ((xs.map eOf).toArray).isEmpty = false := by
    cases xs with
    | nil => exact absurd rfl hx
    | cons x r => rfl
  rw [ne, if_neg Bool.false_ne_true]
  refine wpAny_bind (wpAny_dictEntries (sub c.hp) rfl ?_)
  refine wpAny_bind (wpAny_dictEpoch (sub c.hp) rfl ?_)
  have sz : ((ys.map eOf).toArray).size = ys.length := by simp
  rw [sz]
  refine wpAny_bind (wpAny_forIn_list _ (fun rest _ t => ∃ i, rest = (List.range' i (ys.length - i)) ∧ i ≤ ys.length ∧ t = { s with heap := app h0 (dictO ((xs ++ ys.take i).map eOf) (xs ++ ys.take i).length :: R) } ∧ At prog w t h0 [] (xs ++ ys.take i) R) _ (fun x rest b t hI => ?_) (fun b t hI => ?_) _ _ ?_)
  · obtain ⟨i, e1, e2, e3, e4⟩ := hI
    have lt : i < ys.length := by
      rcases Nat.lt_or_ge i ys.length with h | h
      · exact h
      · rw [Nat.sub_eq_zero_of_le h] at e1
        cases e1
    rw [show ys.length - i = (ys.length - (i + 1)) + 1 by omega, List.range'_succ] at e1
    cases e1
    refine wpAny_bind (wpAny_dictEntries (sub e4.hp) rfl ?_)
    have ge : ((ys.map eOf).toArray)[x]? = some (eOf ys[x]) := by simp [lt]
    rw [ge]
    have et : xs ++ ys.take (x + 1) = (xs ++ ys.take x) ++ [ys[x]] := by
      rw [List.append_assoc, List.take_succ_eq_append_getElem lt]
    have my : ys[x] ∈ ys := List.getElem_mem lt
    refine wpAny_bind (wpAny_holding ?_)
    show wpAny _ _ (dictPut d ((kn prog w).hash (ys[x]).1) (.ref (ys[x]).2.1) (ys[x]).2.2) _ _ _
    have hk : (kn prog w).is t.heap (ys[x]).1 (ys[x]).2.1 := c.old (by rw [e3]) (hy _ my)
    have hnd : ((xs ++ ys.take x) ++ [ys[x]]).map (·.1) |>.Nodup := by
      rw [← et]
      refine List.Nodup.sublist ?_ hn
      exact List.Sublist.map _ (List.Sublist.append (List.Sublist.refl _) (List.take_sublist _ _))
    have nk : (ys[x]).1 ∉ (xs ++ ys.take x).map (·.1) := fun z => by
      rw [List.map_append, List.nodup_append] at hnd
      exact hnd.2.2 _ z _ (by simp) rfl
    have ln : (xs ++ ys.take x).length ≤ sizeLine := by
      simp only [List.length_append, List.length_take] at hz ⊢
      omega
    refine put_new hu e4 (by rw [hd]; rfl) hk nk ln fun s' es' c' => ?_
    rw [← et] at es' c'
    refine wpAny_bind (wpAny_dictEpoch (sub c'.hp) rfl ?_)
    rw [bne_self_eq_false, if_neg Bool.false_ne_true]
    refine wpAny_pure ⟨x + 1, ?_, lt, ?_, c'⟩
    · rfl
    · rw [es', e3]
      rfl
  · obtain ⟨i, e1, e2, e3, e4⟩ := hI
    have ei : i = ys.length := by
      have := congrArg List.length e1
      simp at this
      omega
    subst ei
    rw [List.take_length] at e3 e4
    exact wpAny_pure (q _ e3 e4)
  · refine ⟨0, by rw [List.range_eq_range']; rfl, Nat.zero_le _, ?_, ?_⟩
    · have := c.hp
      simp only [List.nil_append] at this
      simp only [List.take_zero, List.append_nil, ← this]
    · simp only [List.take_zero, List.append_nil]
      exact c
/-! ### one run of a display -/
abbrev Pr : Type := List Int × Int
def tri : Nat → Nat → List Pr → List Tri
  | _, _, [] => []
  | n, tk, p :: r => (p.1, n, .int p.2 (tk + p.1.length)) :: tri (n + 1) (tk + (2 * p.1.length + 2)) r
def kO : Nat → List Pr → List Obj
  | _, [] => []
  | tk, p :: r => tupO tk p.1 :: kO (tk + (2 * p.1.length + 2)) r
def cost : List Pr → Nat
  | [] => 0
  | p :: r => (2 * p.1.length + 2) + cost r
theorem cost_app : ∀ (a b : List Pr), cost (a ++ b) = cost a + cost b
  | [], b => (Nat.zero_add _).symm
  | p :: a, b => by
    show _ + cost (a ++ b) = _ + cost a + cost b
    rw [cost_app a b]
    omega
theorem tri_app : ∀ (a b : List Pr) (n tk : Nat), tri n tk (a ++ b) = tri n tk a ++ tri (n + a.length) (tk + cost a) b
  | [], b, n, tk => rfl
  | p :: a, b, n, tk => by
    show _ :: tri _ _ (a ++ b) = _ :: (tri _ _ a ++ _)
    rw [tri_app a b, List.length_cons]
    show _ :: (_ ++ tri _ _ b) = _ :: (_ ++ tri _ (tk + (_ + cost a)) b)
    rw [Nat.add_assoc, Nat.add_comm 1, Nat.add_assoc]
theorem kO_app : ∀ (a b : List Pr) (tk : Nat), kO tk (a ++ b) = kO tk a ++ kO (tk + cost a) b
  | [], b, tk => rfl
  | p :: a, b, tk => by
    show _ :: kO _ (a ++ b) = _ :: (kO _ a ++ kO (tk + (_ + cost a)) b)
    rw [kO_app a b, Nat.add_assoc]
theorem tri_keys : ∀ (a : List Pr) (n tk : Nat), (tri n tk a).map (·.1) = a.map (·.1)
  | [], _, _ => rfl
  | p :: a, n, tk => by
    show p.1 :: (tri _ _ a).map _ = _
    rw [tri_keys a]
    rfl
theorem tri_length (a : List Pr) (n tk : Nat) : (tri n tk a).length = a.length := by
  have := congrArg List.length (tri_keys a n tk)
  simpa using this
theorem kO_length : ∀ (a : List Pr) (tk : Nat), (kO tk a).length = a.length
  | [], _ => rfl
  | p :: a, tk => congrArg (· + 1) (kO_length a _)
def cPair (e : Expr × Expr) : Option Pr := match cTup e.1, cInt e.2 with
  | some k, some v => some (k, v)
  | _, _ => none
def cPairs : List (Expr × Expr) → Option (List Pr)
  | [] => some []
  | e :: r => match cPair e, cPairs r with
    | some p, some ps => some (p :: ps)
    | _, _ => none
def semOf (env : Env) (pos : Pos) (e : Expr × Expr) : Sem Value × Sem Value := (eval e.1 env, do let x ← eval e.2 env; standAt pos; pure x)
def dO (n tk : Nat) (ps : List Pr) : List Obj := dictO ((tri (n + 1) tk ps).map eOf) (tri (n + 1) tk ps).length :: kO tk ps
theorem intsO_are : ∀ (ks : List Int) (tk : Nat), ItemsAre (intKind prog w) ks (intsO tk ks)
  | [], _ => .nil
  | k :: ks, tk => .cons (by show Value.isInt k (.int k tk) = true; simp [Value.isInt]) (intsO_are ks _)
/-- a pair's key and value -/
theorem pair_eval {e : Expr × Expr} {p : Pr} {s : Shared} {Q : Value → Value → Shared → Prop} (h : cPair e = some p) (hz : p.1.length ≤ sizeLine) (q : Q (.ref s.heap.objs.size) (.int p.2 (s.toks + p.1.length)) (later s [tupO s.toks p.1] (p.1.length + 1))) :
    wpAny (model prog w) A (semOf env pos e).1 (fun k s1 => wpAny (model prog w) A (holding [k] (semOf env pos e).2) (fun v s2 => Q k v s2) E s1) E s := by
  unfold cPair at h
  split at h
  next k v h1 h2 =>
    cases h
    refine tup_eval h1 hz ?_
    refine wpAny_holding (wpAny_bind (int_eval h2 (wpAny_bind (wpAny_standAt (wpAny_pure ?_)))))
    exact q
  next => cases h
/-- a step of a long run -/
theorem run_step {e : Expr × Expr} {p : Pr} {done : List Pr} {s0 s : Shared} {Q : Unit → Shared → Prop} (hu : A.units < cLine) (h : cPair e = some p) (hz : p.1.length ≤ sizeLine) (hl : done.length ≤ sizeLine) (hn : p.1 ∉ done.map (·.1))
    (hs : s = later s0 (dO s0.heap.objs.size s0.toks done) (cost done)) (c : At prog w s s0.heap [] (tri (s0.heap.objs.size + 1) s0.toks done) (kO s0.toks done))
    (q : At prog w (later s0 (dO s0.heap.objs.size s0.toks (done ++ [p])) (cost (done ++ [p]))) s0.heap [] (tri (s0.heap.objs.size + 1) s0.toks (done ++ [p])) (kO s0.toks (done ++ [p])) → Q () (later s0 (dO s0.heap.objs.size s0.toks (done ++ [p])) (cost (done ++ [p])))) :
    wpAny (model prog w) A (semOf env pos e).1 (fun k s1 => wpAny (model prog w) A (holding [k] (semOf env pos e).2) (fun v s2 => wpAny (model prog w) A (holding [k, v] (dictSet s0.heap.objs.size k v)) Q E s2) E s1) E s := by
  refine pair_eval h hz (wpAny_holding ?_)
  have sz : s.heap.objs.size = s0.heap.objs.size + 1 + done.length := by
    rw [hs]
    show (app s0.heap _).objs.size = _
    rw [app_size]
    unfold dO
    rw [List.length_cons, kO_length]
    omega
  have tk : s.toks = s0.toks + cost done := by rw [hs]; rfl
  have e1 : (later s [tupO s.toks p.1] (p.1.length + 1)).heap = app s0.heap ([] ++ dictO ((tri (s0.heap.objs.size + 1) s0.toks done).map eOf) (tri (s0.heap.objs.size + 1) s0.toks done).length :: (kO s0.toks done ++ [tupO s.toks p.1])) := by
    show app s.heap _ = _
    rw [c.hp, app_app]
    rfl
  have keep : ∀ b o, s.heap.get? b = some o → (later s [tupO s.toks p.1] (p.1.length + 1)).heap.get? b = some o := fun b o z => app_old z
  have c1 : At prog w (later s [tupO s.toks p.1] (p.1.length + 1)) s0.heap [] (tri (s0.heap.objs.size + 1) s0.toks done) (kO s0.toks done ++ [tupO s.toks p.1]) := ⟨e1, fun x hx => is_push (c.ks x hx) keep, c.nd⟩
  have hk : (kn prog w).is (later s [tupO s.toks p.1] (p.1.length + 1)).heap p.1 s.heap.objs.size :=
    ⟨tupO s.toks p.1, _, 0, app_get (i := 0) rfl (fun z => by cases z) rfl, rfl, rfl, by simpa using intsO_are p.1 s.toks⟩
  refine set_new hu c1 rfl hk (by rw [tri_keys]; exact hn) (by rw [tri_length]; exact hl) fun s' es' c' => ?_
  have et : tri (s0.heap.objs.size + 1) s0.toks done ++ [(p.1, s.heap.objs.size, .int p.2 (s.toks + p.1.length))] = tri (s0.heap.objs.size + 1) s0.toks (done ++ [p]) := by
    rw [tri_app, sz, tk]
    rfl
  have eo : kO s0.toks done ++ [tupO s.toks p.1] = kO s0.toks (done ++ [p]) := by
    rw [kO_app, tk]
    rfl
  have ec : s.toks + (p.1.length + 1) + (p.1.length + 1) = s0.toks + cost (done ++ [p]) := by
    rw [tk, cost_app]
    show _ = s0.toks + (cost done + (2 * p.1.length + 2 + 0))
    omega
  have ef : s' = later s0 (dO s0.heap.objs.size s0.toks (done ++ [p])) (cost (done ++ [p])) := by
    rw [es', et, eo]
    unfold later dO
    simp only [List.nil_append, ec]
    rw [hs]
    rfl
  rw [et, eo, ef] at c'
  rw [ef]
  exact q c'
end
end HdB

set_option Elab.async false
set_option linter.all false
set_option maxRecDepth 100000
set_option maxHeartbeats 2000000
namespace Mir
open PySem PySem.Spec PyProof.Rows L2
/-! ### bits -/
def gBAnd : Da → Da → Option Da
  | .int i, .int j => some (.int (Builtin.bitAnd i j))
  | _, _ => none
def gBOr : Da → Da → Option Da
  | .int i, .int j => some (.int (Builtin.bitOr i j))
  | _, _ => none
def gBNot : Da → Option Da
  | .int i => some (.int (Builtin.bitNot i))
  | _ => none
def gShl : Da → Da → Option Da
  | .int i, .int j => if 0 ≤ j ∧ j ≤ 1000 ∧ i.natAbs < 2 ^ 64 then some (.int (i * 2 ^ j.toNat)) else none
  | _, _ => none
def gShr : Da → Da → Option Da
  | .int i, .int j => if 0 ≤ j then some (.int (i / 2 ^ j.toNat)) else none
  | _, _ => none
section
variable {K : PySem.W.Frag}
theorem od_band : OpD K (rI0 fun i j => .int (Builtin.bitAnd i j)) gBAnd := fun H F x y dx dy d fo hx hy hg Q q => by
  unfold gBAnd at hg
  split at hg
  · cases hg
    exact ⟨_, _, hx.int_inv, hy.int_inv, q _ H F (Gr.refl fo) (.int _)⟩
  · cases hg
theorem od_bor : OpD K (rI0 fun i j => .int (Builtin.bitOr i j)) gBOr := fun H F x y dx dy d fo hx hy hg Q q => by
  unfold gBOr at hg
  split at hg
  · cases hg
    exact ⟨_, _, hx.int_inv, hy.int_inv, q _ H F (Gr.refl fo) (.int _)⟩
  · cases hg
theorem od_bnot : UnD K (rU fun i => .int (Builtin.bitNot i)) gBNot := fun H F x dx d fo hx hg Q q => by
  unfold gBNot at hg
  split at hg
  · cases hg
    exact ⟨_, hx.int_inv, q _ H F (Gr.refl fo) (.int _)⟩
  · cases hg
theorem od_shl : OpD K (rI CPow fun i j => .int (i * 2 ^ j.toNat)) gShl := fun H F x y dx dy d fo hx hy hg Q q => by
  unfold gShl at hg
  split at hg
  · split at hg
    · rename_i hc
      cases hg
      exact ⟨_, _, hx.int_inv, hy.int_inv, ⟨hc.1, by omega, hc.2.2⟩, q _ H F (Gr.refl fo) (.int _)⟩
    · cases hg
  · cases hg
theorem od_shr : OpD K (rI (fun _ j => 0 ≤ j) fun i j => .int (i / 2 ^ j.toNat)) gShr := fun H F x y dx dy d fo hx hy hg Q q => by
  unfold gShr at hg
  split at hg
  · split at hg
    · rename_i hc
      cases hg
      exact ⟨_, _, hx.int_inv, hy.int_inv, hc, q _ H F (Gr.refl fo) (.int _)⟩
    · cases hg
  · cases hg
end
/-! ### a module's dict whose keys are tuples of ints -/
open HdB in
def intsOf : List Da → Option (List Int)
  | [] => some []
  | .int i :: r => (intsOf r).map (i :: ·)
  | _ :: _ => none
def gBits (ps : List HdB.Pr) : Da → Da → Option Da
  | .tuple ds, dd => (intsOf ds).map fun ks => match ps.find? fun p => decide (p.1 = ks) with
    | some p => .int p.2
    | none => dd
  | _, _ => none
inductive Mat : List HdB.Tri → List HdB.Pr → Prop
  | nil : Mat [] []
  | cons {x : HdB.Tri} {p : HdB.Pr} {xs : List HdB.Tri} {ps : List HdB.Pr} {tk : Tok} : x.1 = p.1 → x.2.2 = .int p.2 tk → Mat xs ps → Mat (x :: xs) (p :: ps)
structure BitsAt (K : PySem.W.Frag) (a : Addr) (ps : List HdB.Pr) : Prop where
  ex : ∃ xs : List HdB.Tri, K.lookup a = some (HdB.dictO (xs.map HdB.eOf) xs.length) ∧ (∀ x ∈ xs, ∃ tk, K.lookup x.2.1 = some (HdB.tupO tk x.1)) ∧ (xs.map (·.1)).Nodup ∧ Mat xs ps
  ns : (a == sysModules) = false
theorem Mat.find {ks : List Int} : ∀ {xs : List HdB.Tri} {ps : List HdB.Pr}, Mat xs ps →
    (∀ p, ps.find? (fun p => decide (p.1 = ks)) = some p → ∃ a tk, atKey xs ks = some (a, Value.int p.2 tk)) ∧ (ps.find? (fun p => decide (p.1 = ks)) = none → atKey xs ks = none)
  | _, _, .nil => ⟨fun p h => by simp at h, fun _ => rfl⟩
  | x :: xs, p :: ps, .cons h1 h2 m => by
    obtain ⟨i1, i2⟩ := Mat.find (ks := ks) m
    unfold atKey at i1 i2 ⊢
    rw [List.find?_cons, List.find?_cons, h1]
    cases e : decide (p.1 = ks) with
    | true =>
      refine ⟨fun q hq => ?_, fun z => by cases z⟩
      cases hq
      exact ⟨x.2.1, _, by rw [← h2]; rfl⟩
    | false => exact ⟨i1, i2⟩
theorem ints_vals {H : Hp} {F : Frz} {K : PySem.W.Frag} : ∀ {ds : List Da} {ks : List Int} {vs : List V}, intsOf ds = some ks → RpA K H F vs ds → vs = ks.map V.int
  | [], ks, vs, h, r => by
    cases h
    cases r
    rfl
  | .int i :: r, ks, vs, h, t => by
    obtain ⟨ks', e, e2⟩ := Option.map_eq_some_iff.mp (show (intsOf r).map (i :: ·) = some ks from h)
    subst e2
    cases t with
    | cons a b =>
      rw [a.int_inv, ints_vals e b]
      rfl
  | .none :: r, _, _, h, _ => by cases h
  | .bool _ :: r, _, _, h, _ => by cases h
  | .str _ :: r, _, _, h, _ => by cases h
  | .list _ :: r, _, _, h, _ => by cases h
  | .tuple _ :: r, _, _, h, _ => by cases h
  | .dict _ :: r, _, _, h, _ => by cases h
theorem items_are {prog : Program} {w : World} : ∀ {ks : List Int} {us : List Value}, Vals (ks.map V.int) us → ItemsAre (intKind prog w) ks us
  | [], _, h => by
    cases h
    exact .nil
  | k :: ks, _, h => by
    cases h with
    | cons a b =>
      obtain ⟨t, rfl⟩ := a
      exact .cons (by show Value.isInt k (.int k t) = true; simp [Value.isInt]) (items_are b)
def tGetB (ps : List HdB.Pr) (K : PySem.W.Frag) (ty tx : TE) : TE := fun σ H Q => ty σ H fun y H2 => tx σ H2 fun z H3 => ∃ (b : Addr) (ks : List Int), y = .ref b ∧ SqT K H3 b (ks.map V.int) ∧ Q (match ps.find? fun p => decide (p.1 = ks) with
    | some p => .int p.2
    | none => z) H3
section
variable {X : Cx} {e f : Expr} {x : Str} {xp apos cpos : Pos} {ty tx : TE} {ps : List HdB.Pr} {a : Addr}
theorem pe_getB (hu : X.A.units + 1 < cLine) (B : BitsAt X.K a ps) (hg : Gl X x) (hm : X.mg x = some (.ref a)) (he : PE X e ty) (hf : PE X f tx) (m : M2 X (.Name x xp) "get" apos e f cpos) (hd : (x == ("__debug__" : Str)) = false := by decide) :
    PE X (.Call (.Attribute (.Name x xp) "get" apos) [e, f] [] cpos) (tGetB ps X.K ty tx) := by
  obtain ⟨xs, k1, k2, k3, k4⟩ := B.ex
  refine ⟨fun pins s σ H Q I h => ?_⟩
  have at_ : ∀ {s : Shared} {σ H}, Inv X pins σ H s → s.heap.DictOfH (HdB.kn X.prog X.w) a xs := fun I =>
    ⟨_, _, _, I.kIn _ _ k1, ⟨rfl, rfl, rfl⟩, rfl, by simp [HdB.eOf_eq (prog := X.prog) (w := X.w)], fun y hy => by
      obtain ⟨tk, e⟩ := k2 y hy
      exact ⟨_, _, _, I.kIn _ _ e, rfl, rfl, by simpa using HdB.intsO_are y.1 tk⟩, k3⟩
  refine wpAny_Call_method m.base m.few m.line PySem.F.plainAttrs_dict PySem.F.slot_dict_get PySem.F.type_dict_get (thn ((pe_glob (v := .ref a) hg hm rfl hd).run pins s σ H (fun v H1 => v = .ref a ∧ ty σ H1 fun y H2 => tx σ H2 fun z H3 => ∃ (b : Addr) (ks : List Int), y = .ref b ∧ SqT X.K H3 b (ks.map V.int) ∧ Q (match ps.find? fun p => decide (p.1 = ks) with
    | some p => .int p.2
    | none => z) H3) I ⟨rfl, h⟩) fun u s1 ⟨x, H1, I1, rx, ex, q1⟩ => ?_)
  subst ex
  obtain rfl : u = Value.ref a := rx
  have dd := at_ I1
  refine ⟨dd.typeIs, fun b q => ?_, ?_⟩
  · cases q
    exact ⟨_, I1.kIn _ _ k1, rfl⟩
  rw [m.trees]
  refine Calls.callWith_builtin rfl (Calls.evalArgs_plain (Calls.spliced_cons (thn (he.run pins s1 σ H1 _ I1 q1) fun iv s2 ⟨y, H2, I2, ry, q2⟩ =>
    Calls.spliced_cons (thn (hf.run pins s2 σ H2 _ I2 q2) fun fv s3 ⟨z, H3, I3, rz, b, ks, ey, sb, q3⟩ => Calls.spliced_nil ?_))))
  subst ey
  cases (show iv = Value.ref b from ry)
  obtain ⟨its, r1, ⟨o, o1, o2, n, o3⟩, _⟩ := I3.tuple sb
  have key : (HdB.kn X.prog X.w).is s3.heap ks b := ⟨o, its.toArray, n, o1, o2, o3, by simpa using items_are r1⟩
  refine call_meetsIn PySem.F.slot_dict_get (at_ I3).typeIs PySem.F.entry_dict_get (PySem.F.args_dict_get_3 _ _ _) (meetsH_dict_get_default (HdB.kn X.prog X.w) a b B.ns fv) ⟨?_, ks, xs, key, at_ I3, ?_⟩
  · show X.A.in1.units < cLine
    exact hu
  · obtain ⟨f1, f2⟩ := k4.find (ks := ks)
    refine ⟨_, H3, I3.tok _, ?_, q3⟩
    cases e1 : ps.find? (fun p => decide (p.1 = ks)) with
    | some p =>
      obtain ⟨ad, tk, e2⟩ := f1 p e1
      rw [e2]
      exact ⟨tk, rfl⟩
    | none =>
      rw [f2 e1]
      exact rz
variable {ow : List Nat} {fe ff : Md Da}
theorem e_getB (hu : X.A.units + 1 < cLine) (B : BitsAt X.K a ps) (hg : Gl X x) (hm : X.mg x = some (.ref a)) (he : GE X ow e fe) (hf : GE X ow f ff) (m : M2 X (.Name x xp) "get" apos e f cpos) (hd : (x == ("__debug__" : Str)) = false := by decide) :
    GE X ow (.Call (.Attribute (.Name x xp) "get" apos) [e, f] [] cpos) (mOp (gBits ps) fe ff) := pe_w (pe_getB hu B hg hm he hf m hd) fun σ H Q ⟨B, F, ρ, d, ρ', c, hf, q⟩ => by
  obtain ⟨x1, ρ1, h1, hf⟩ := bind_inv hf
  obtain ⟨y1, ρ2, h2, hf⟩ := bind_inv hf
  obtain ⟨hg, rfl⟩ := opt_inv hf
  unfold gBits at hg
  split at hg
  · obtain ⟨ks, hk, ed⟩ := Option.map_eq_some_iff.mp hg
    refine ⟨B, F, ρ, _, ρ1, c, h1, fun v H1 F1 c1 l1 r1 => ?_⟩
    refine ⟨B, F1, ρ1, y1, ρ', c1, h2, fun w H2 F2 c2 l2 r2 => ?_⟩
    obtain ⟨b, vs, e1, t1, t2⟩ := (r1.st l2.st).tup_inv
    refine ⟨b, ks, e1, ?_, ?_⟩
    · rw [← ints_vals hk t2]
      exact t1.sq
    · refine q _ H2 F2 c2 (l1.trans l2) ?_
      rw [← ed]
      cases ps.find? fun p => decide (p.1 = ks) with
      | some p => exact .int _
      | none => exact r2
  · cases hg
end
end Mir

set_option Elab.async false
set_option linter.all false
set_option maxRecDepth 100000
set_option maxHeartbeats 1000000
namespace HdB
open PySem PySem.W PySem.Calls PyProof.Rows
section
variable {prog : Program} {w : World} {A : Around} {E : Value → Shared → Prop} {env : Env} {pos : Pos}
theorem cPairs_cons {e : Expr × Expr} {r : List (Expr × Expr)} {ps : List Pr} (h : cPairs (e :: r) = some ps) : ∃ p ps', ps = p :: ps' ∧ cPair e = some p ∧ cPairs r = some ps' := by
  unfold cPairs at h
  split at h
  next p ps' h1 h2 => cases h; exact ⟨p, ps', rfl, h1, h2⟩
  next => cases h
theorem later_dict (s : Shared) : ({ s with heap := s.heap.push { cls := .type "dict", data := .dict #[] } } : Shared) = later s (dO s.heap.objs.size s.toks []) (cost []) := by
  unfold later dO
  rw [push_app]
  rfl
theorem at_new (s : Shared) : At prog w (later s (dO s.heap.objs.size s.toks []) (cost [])) s.heap [] (tri (s.heap.objs.size + 1) s.toks []) (kO s.toks []) :=
  ⟨rfl, fun x hx => (by cases hx), List.nodup_nil⟩
/-- a run of more than fifteen pairs, or of one -/
theorem sub_dict {items : List (Expr × Expr)} {ps : List Pr} {s0 : Shared} {Q : Addr → Shared → Prop} (hu : A.units < cLine) (h : cPairs items = some ps) (hl : 15 < items.length ∨ items.length = 1) (hz : ∀ p ∈ ps, p.1.length ≤ sizeLine) (hz2 : ps.length ≤ sizeLine) (hn : (ps.map (·.1)).Nodup)
    (q : At prog w (later s0 (dO s0.heap.objs.size s0.toks ps) (cost ps)) s0.heap [] (tri (s0.heap.objs.size + 1) s0.toks ps) (kO s0.toks ps) → Q s0.heap.objs.size (later s0 (dO s0.heap.objs.size s0.toks ps) (cost ps))) :
    wpAny (model prog w) A (subDict (items.map (semOf env pos))) Q E s0 := by
  unfold subDict
  refine wpAny_bind (wpAny_alloc ?_)
  refine wpAny_bind (wpAny_holding ?_)
  rw [later_dict]
  rcases hl with hl | hl
  · rw [if_neg (by rw [List.length_map]; omega)]
    refine wpAny_bind (wpAny_rule ?_)
    refine wpAny_bind (wpAny_forIn_list _ (fun rest _ t => ∃ done left its, ps = done ++ left ∧ cPairs its = some left ∧ rest = its.map (semOf env pos) ∧ t = later s0 (dO s0.heap.objs.size s0.toks done) (cost done) ∧ At prog w t s0.heap [] (tri (s0.heap.objs.size + 1) s0.toks done) (kO s0.toks done)) _ (fun x rest b t hI => ?_) (fun b t hI => ?_) _ _ ⟨[], ps, items, rfl, h, rfl, rfl, at_new s0⟩)
    · obtain ⟨done, left, its, e1, e2, e3, e4, e5⟩ := hI
      cases its with
      | nil => cases e3
      | cons e its =>
        rw [List.map_cons] at e3
        injection e3 with e3 e3'
        obtain ⟨p, left', rfl, h1, h2⟩ := cPairs_cons e2
        subst e3
        have mem : p ∈ ps := by rw [e1]; simp
        have nd : p.1 ∉ done.map (·.1) := fun z => by
          rw [e1, List.map_append, List.nodup_append] at hn
          exact hn.2.2 _ z _ (by simp) rfl
        have ln : done.length ≤ sizeLine := by
          have := congrArg List.length e1
          simp at this
          omega
        have st := run_step (E := E) (env := env) (pos := pos) hu h1 (hz p mem) ln nd e4 e5 (Q := fun _ s' => s' = later s0 (dO s0.heap.objs.size s0.toks (done ++ [p])) (cost (done ++ [p])) ∧ At prog w s' s0.heap [] (tri (s0.heap.objs.size + 1) s0.toks (done ++ [p])) (kO s0.toks (done ++ [p]))) fun c => ⟨rfl, c⟩
        refine wpAny_bind (wpAny_mono st (fun k s1 h1 => wpAny_bind (wpAny_mono h1 (fun v s2 h2' => wpAny_bind (wpAny_mono h2' (fun _ s3 h3 => wpAny_pure ⟨done ++ [p], left', its, by rw [e1]; simp, h2, e3', h3.1, h3.2⟩) fun _ _ z => z)) fun _ _ z => z)) fun _ _ z => z)
    · obtain ⟨done, left, its, e1, e2, e3, e4, e5⟩ := hI
      cases its with
      | cons e its => cases e3
      | nil =>
        cases e2
        rw [List.append_nil] at e1
        subst e1
        subst e4
        exact wpAny_pure (wpAny_pure (q e5))
  · rw [if_pos (by rw [List.length_map]; omega)]
    cases items with
    | nil => cases hl
    | cons e its =>
      cases its with
      | cons _ _ => simp at hl
      | nil =>
        obtain ⟨p, left', rfl, h1, h2⟩ := cPairs_cons h
        cases h2
        have st := run_step (E := E) (env := env) (pos := pos) (done := []) (s0 := s0) hu h1 (hz p (by simp)) (by simp) (by simp) rfl (at_new s0) (Q := fun _ s' => s' = later s0 (dO s0.heap.objs.size s0.toks ([] ++ [p])) (cost ([] ++ [p])) ∧ At prog w s' s0.heap [] (tri (s0.heap.objs.size + 1) s0.toks ([] ++ [p])) (kO s0.toks ([] ++ [p]))) fun c => ⟨rfl, c⟩
        rw [List.map_cons, List.map_nil]
        refine wpAny_bind ?_
        unfold evalPairs
        refine wpAny_bind (wpAny_mono st (fun k s1 h1 => wpAny_bind (wpAny_mono h1 (fun v s2 h2' => ?_) fun _ _ z => z)) fun _ _ z => z)
        unfold evalPairs
        refine wpAny_bind (wpAny_holding (wpAny_pure (wpAny_pure (wpAny_holding ?_))))
        have h3 : wpAny (model prog w) A (dictSet s0.heap.objs.size k v) _ E s2 := fun G q0 hG => by
          have z := h2' G q0 hG
          rw [Sem.wp_holding] at z
          exact z
        rw [List.forIn_cons]
        refine wpAny_bind (wpAny_bind (wpAny_bind (wpAny_mono h3 (fun _ s3 z => wpAny_pure ?_) fun _ _ z => z)))
        show wpAny _ _ (forIn ([] : List (Value × Value)) PUnit.unit _) _ _ _
        rw [List.forIn_nil]
        obtain ⟨z1, z2⟩ := z
        subst z1
        exact wpAny_pure (wpAny_pure (wpAny_pure (q z2)))
/-! ### the whole display -/
/-- the main dict's entries, the objects behind it, the next token -/
abbrev Dst : Type := List Tri × List Obj × Nat
def addC (n : Nat) (x : Dst) (c : List Pr) : Dst := (x.1 ++ tri (n + 1 + x.2.1.length + 1) x.2.2 c, x.2.1 ++ dO (n + 1 + x.2.1.length) x.2.2 c, x.2.2 + cost c)
def firstC (n tk : Nat) (c : List Pr) : Dst := (tri (n + 1) tk c, kO tk c, tk + cost c)
def allC (n tk : Nat) : List (List Pr) → Dst
  | [] => ([], [], tk)
  | c :: r => r.foldl (addC n) (firstC n tk c)
def outC (s : Shared) (x : Dst) : Shared := { s with heap := app s.heap (dictO (x.1.map eOf) x.1.length :: x.2.1), toks := x.2.2 }
/-- one more run behind others -/
theorem more_run {items : List (Expr × Expr)} {ps done : List Pr} {s0 : Shared} {x : Dst} {Q : Unit → Shared → Prop} (hu : A.units < cLine) (h : cPairs items = some ps) (hl : 15 < items.length ∨ items.length = 1) (hz : ∀ p ∈ ps, p.1.length ≤ sizeLine) (hs : 1 < s0.heap.objs.size)
    (hk : x.1.map (·.1) = done.map (·.1)) (hne : done ≠ []) (hn : ((done ++ ps).map (·.1)).Nodup) (hz2 : (done ++ ps).length ≤ sizeLine) (c : At prog w (outC s0 x) s0.heap [] x.1 x.2.1)
    (q : At prog w (outC s0 (addC s0.heap.objs.size x ps)) s0.heap [] (addC s0.heap.objs.size x ps).1 (addC s0.heap.objs.size x ps).2.1 → Q () (outC s0 (addC s0.heap.objs.size x ps))) :
    wpAny (model prog w) A (subDict (items.map (semOf env pos))) (fun sub s1 => wpAny (model prog w) A (mergeMapping s0.heap.objs.size (.ref sub) false) Q E s1) E (outC s0 x) := by
  have hn2 := hn
  rw [List.map_append, List.nodup_append] at hn2
  have hsz : (outC s0 x).heap.objs.size = s0.heap.objs.size + 1 + x.2.1.length := by
    show (app _ _).objs.size = _
    rw [app_size, List.length_cons]
    omega
  have htk : (outC s0 x).toks = x.2.2 := rfl
  refine sub_dict hu h hl hz (by simp at hz2; omega) hn2.2.1 fun c1 => ?_
  rw [hsz, htk] at c1
  rw [hsz, htk]
  have hh : (later (outC s0 x) (dO (s0.heap.objs.size + 1 + x.2.1.length) x.2.2 ps) (cost ps)).heap = app s0.heap ([] ++ dictO (x.1.map eOf) x.1.length :: (x.2.1 ++ dO (s0.heap.objs.size + 1 + x.2.1.length) x.2.2 ps)) := by
    show app (app _ _) _ = _
    rw [app_app]
    rfl
  have c2 : At prog w (later (outC s0 x) (dO (s0.heap.objs.size + 1 + x.2.1.length) x.2.2 ps) (cost ps)) s0.heap [] x.1 (x.2.1 ++ dO (s0.heap.objs.size + 1 + x.2.1.length) x.2.2 ps) :=
    ⟨hh, fun y hy => is_push (c.ks y hy) fun b o z => app_old z, c.nd⟩
  refine merge hu c2 rfl (j := x.2.1.length) rfl hs ?_ c1.ks ?_ ?_ ?_ fun s' es' c' => ?_
  · show (x.2.1 ++ dictO _ _ :: kO _ _)[x.2.1.length]? = _
    simp
  · rw [List.map_append, hk, tri_keys, ← List.map_append]
    exact hn
  · intro z
    rw [z] at hk
    cases done with
    | nil => exact hne rfl
    | cons p r => cases hk
  · have := congrArg List.length hk
    simp only [List.length_map] at this
    rw [List.length_append, tri_length, this]
    simpa using hz2
  · have e : s' = outC s0 (addC s0.heap.objs.size x ps) := by
      rw [es']
      rfl
    rw [e] at c'
    rw [e]
    exact q c'
end
end HdB

set_option Elab.async false
set_option linter.all false
set_option maxRecDepth 100000
set_option maxHeartbeats 1000000
namespace HdB
open PySem PySem.W PySem.Calls PyProof.Rows
def chunks {α : Type} : Nat → List α → List (List α)
  | 0, _ => []
  | _ + 1, [] => []
  | f + 1, x :: r => (x :: r).take 17 :: chunks f ((x :: r).drop 17)
theorem chunks_of {α : Type} {e : List α} (h1 : e.length < 17) (h2 : e ≠ []) : ∀ (L : List (List α)) (f : Nat), (∀ c ∈ L, c.length = 17) → L.length < f → chunks f (L.flatten ++ e) = L ++ [e]
  | [], 0, _, h => by cases h
  | [], f + 1, _, _ => by
    cases e with
    | nil => exact absurd rfl h2
    | cons x r =>
      show (x :: r).take 17 :: chunks f ((x :: r).drop 17) = [x :: r]
      rw [List.take_of_length_le (by omega), List.drop_eq_nil_of_le (by omega)]
      cases f <;> rfl
  | c :: L, 0, _, h => by cases h
  | c :: L, f + 1, hc, h => by
    have c17 : c.length = 17 := hc c (by simp)
    have ih := chunks_of h1 h2 L f (fun x hx => hc x (by simp [hx])) (by simp at h; omega)
    cases c with
    | nil => cases c17
    | cons x r =>
      show chunks (f + 1) ((x :: r) ++ L.flatten ++ e) = (x :: r) :: (L ++ [e])
      rw [List.append_assoc]
      show ((x :: r) ++ (L.flatten ++ e)).take 17 :: chunks f (((x :: r) ++ (L.flatten ++ e)).drop 17) = _
      rw [← c17, List.take_left, List.drop_left, ih]
theorem chunks_more {α : Type} : ∀ {f : Nat} {l : List α} (g : Nat), l.length ≤ 17 * f → chunks (f + g) l = chunks f l
  | 0, [], g, _ => by
    rw [Nat.zero_add]
    cases g <;> rfl
  | 0, x :: r, g, h => by simp at h
  | f + 1, [], g, _ => by
    rw [Nat.add_right_comm]
    rfl
  | f + 1, x :: r, g, h => by
    rw [Nat.add_right_comm]
    show _ :: chunks (f + g) _ = _ :: chunks f _
    rw [chunks_more g (by simp only [List.length_drop]; omega)]
section
variable {prog : Program} {w : World} {A : Around} {E : Value → Shared → Prop} {env : Env} {pos : Pos}
theorem zip_items : ∀ (its : List (Expr × Expr)), (evalEachOpt (its.map fun e => some e.1) env).zip ((evalEach (its.map (·.2)) env).map fun v => do let x ← v; standAt pos; pure x) = its.map fun e => (some (semOf env pos e).1, (semOf env pos e).2)
  | [] => rfl
  | e :: r => by
    show (_ :: _) = _ :: _
    rw [← zip_items r]
    rfl
def fl (run : List (Sem Value × Sem Value)) (main : Option Addr) : Sem (Option Addr) :=
  if run.isEmpty = true then pure main
  else match main with
    | none => do
      let a ← subDict run
      pure (some a)
    | some d => do
      let sub ← holding [Value.ref d] (subDict run)
      (holding [Value.ref d, Value.ref sub] (mergeMapping d (Value.ref sub) false)).onRaise fun x => do
        let _ ← holding [Value.ref d, x] (runValue (Code.builtin "proto.let_go" {}))
        pure ()
      pure (some d)
/-- what stands behind so many runs -/
def St (prog : Program) (w : World) (s0 : Shared) (main : Option Addr) (L : List (List Pr)) (t : Shared) : Prop :=
  (L = [] ∧ main = none ∧ t = s0) ∨ (L ≠ [] ∧ main = some s0.heap.objs.size ∧ t = outC s0 (allC s0.heap.objs.size s0.toks L) ∧
    At prog w t s0.heap [] (allC s0.heap.objs.size s0.toks L).1 (allC s0.heap.objs.size s0.toks L).2.1 ∧ (allC s0.heap.objs.size s0.toks L).1.map (·.1) = L.flatten.map (·.1))
theorem allC_more {n tk : Nat} {L : List (List Pr)} {c : List Pr} (h : L ≠ []) : allC n tk (L ++ [c]) = addC n (allC n tk L) c := by
  cases L with
  | nil => exact absurd rfl h
  | cons x r =>
    show (r ++ [c]).foldl (addC n) (firstC n tk x) = _
    rw [List.foldl_append]
    rfl
theorem flush {s0 t : Shared} {main : Option Addr} {L : List (List Pr)} {items : List (Expr × Expr)} {pr : List Pr} {Q : Option Addr → Shared → Prop} (hu : A.units < cLine) (hs : 1 < s0.heap.objs.size) (h : St prog w s0 main L t) (hr : cPairs items = some pr)
    (hl : 15 < items.length ∨ items.length = 1) (hz : ∀ p ∈ pr, p.1.length ≤ sizeLine) (hn : ((L.flatten ++ pr).map (·.1)).Nodup) (hz2 : (L.flatten ++ pr).length ≤ sizeLine) (hne : ∀ c ∈ L, c ≠ [])
    (q : ∀ m t', St prog w s0 m (L ++ [pr]) t' → Q m t') : wpAny (model prog w) A (fl (items.map (semOf env pos)) main) Q E t := by
  have ni : (items.map (semOf env pos)).isEmpty = false := by
    cases items with
    | nil => simp at hl
    | cons _ _ => rfl
  unfold fl
  rw [ni, if_neg Bool.false_ne_true]
  rcases h with ⟨rfl, rfl, rfl⟩ | ⟨h1, rfl, h3, h4, h5⟩
  · refine wpAny_bind (sub_dict hu hr hl hz (by simpa using hz2) (by simpa using hn) fun c => wpAny_pure (q _ _ (.inr ⟨by simp, rfl, rfl, c, ?_⟩)))
    show (tri _ _ pr).map _ = _
    rw [tri_keys]
    simp
  · have fne : L.flatten ≠ [] := by
      cases L with
      | nil => exact absurd rfl h1
      | cons c r =>
        intro z
        have := hne c (by simp)
        simp at z
        exact this z.1
    have mr := more_run (E := fun _ _ => False) (env := env) (pos := pos) (Q := fun _ t' => St prog w s0 (some s0.heap.objs.size) (L ++ [pr]) t') hu hr hl hz hs h5 fne hn hz2 (by rw [← h3]; exact h4) fun c => .inr ⟨by simp, rfl, by rw [allC_more h1], by rw [allC_more h1]; exact c, by
      rw [allC_more h1]
      show ((allC _ _ L).1 ++ tri _ _ pr).map _ = _
      rw [List.map_append, h5, tri_keys, List.flatten_append, List.map_append]
      simp⟩
    rw [← h3] at mr
    refine wpAny_bind (wpAny_holding (wpAny_mono mr (fun sub s1 h => ?_) fun _ _ z => z.elim))
    exact wpAny_bind (wpAny_onRaise (wpAny_holding (wpAny_mono h (fun _ t' z => wpAny_pure (q _ _ z)) fun _ _ z => z.elim)))
theorem cPairs_length : ∀ {its : List (Expr × Expr)} {ps : List Pr}, cPairs its = some ps → its.length = ps.length
  | [], ps, h => by cases h; rfl
  | e :: r, ps, h => by
    obtain ⟨p, ps', rfl, h1, h2⟩ := cPairs_cons h
    exact congrArg (· + 1) (cPairs_length h2)
theorem cPairs_snoc {e : Expr × Expr} {p : Pr} (he : cPair e = some p) : ∀ {its : List (Expr × Expr)} {ps : List Pr}, cPairs its = some ps → cPairs (its ++ [e]) = some (ps ++ [p])
  | [], ps, h => by
    cases h
    show (match cPair e, cPairs [] with | some p, some ps => some (p :: ps) | _, _ => none) = _
    rw [he]
    rfl
  | x :: r, ps, h => by
    obtain ⟨q, ps', rfl, h1, h2⟩ := cPairs_cons h
    show (match cPair x, cPairs (r ++ [e]) with | some p, some ps => some (p :: ps) | _, _ => none) = _
    rw [h1, cPairs_snoc he h2]
    rfl
theorem St.done {s0 t : Shared} {m : Option Addr} {L : List (List Pr)} (h : St prog w s0 m L t) (hl : L ≠ []) : m = some s0.heap.objs.size ∧ t = outC s0 (allC s0.heap.objs.size s0.toks L) ∧ At prog w t s0.heap [] (allC s0.heap.objs.size s0.toks L).1 (allC s0.heap.objs.size s0.toks L).2.1 := by
  rcases h with ⟨h1, _⟩ | ⟨_, h2, h3, h4, _⟩
  · exact absurd h1 hl
  · exact ⟨h2, h3, h4⟩
theorem len17 {α : Type} : ∀ {L : List (List α)}, (∀ c ∈ L, c.length = 17) → L.flatten.length = 17 * L.length
  | [], _ => rfl
  | c :: L, h => by
    rw [List.flatten_cons, List.length_append, h c (by simp), len17 fun x hx => h x (by simp [hx]), List.length_cons]
    omega
/-- a display of a dict whose keys are tuples of ints; the last run has one pair -/
theorem dict_eval {its : List (Expr × Expr)} {ps : List Pr} {s : Shared} {Q : Value → Shared → Prop} (hu : A.units < cLine) (hs : 1 < s.heap.objs.size) (h : cPairs its = some ps) (hm : ps.length % 17 = 1) (hz : ∀ p ∈ ps, p.1.length ≤ sizeLine) (hn : (ps.map (·.1)).Nodup) (hz2 : ps.length ≤ sizeLine)
    (q : ∀ f, ps.length / 17 < f → At prog w (outC s (allC s.heap.objs.size s.toks (chunks f ps))) s.heap [] (allC s.heap.objs.size s.toks (chunks f ps)).1 (allC s.heap.objs.size s.toks (chunks f ps)).2.1 → Q (.ref s.heap.objs.size) (outC s (allC s.heap.objs.size s.toks (chunks f ps)))) :
    wpAny (model prog w) A (eval (.Dict (its.map fun e => some e.1) (its.map (·.2)) pos) env) Q E s := by
  rw [arm_eval_Dict, zip_items]
  refine wpAny_bind (wpAny_standAt ?_)
  unfold dictDisplay
  dsimp only
  refine wpAny_bind (wpAny_forIn_list _ (fun rest b t => ∃ (L : List (List Pr)) (ri li : List (Expr × Expr)) (pr pl : List Pr), ps = L.flatten ++ pr ++ pl ∧ cPairs ri = some pr ∧ cPairs li = some pl ∧ rest = li.map (fun e => (some (semOf env pos e).1, (semOf env pos e).2)) ∧ b.2 = ri.map (semOf env pos) ∧ ri.length < 17 ∧ (∀ c ∈ L, c.length = 17) ∧ St prog w s b.1 L t)
    _ (fun x rest b t hI => ?_) (fun b t hI => ?_) _ _ ⟨[], [], its, [], ps, rfl, rfl, h, rfl, rfl, by decide, fun c hc => (by cases hc), .inl ⟨rfl, rfl, rfl⟩⟩)
  · obtain ⟨L, ri, li, pr, pl, e1, e2, e3, e4, e5, e6, e7, e8⟩ := hI
    cases li with
    | nil => cases e4
    | cons e li =>
      rw [List.map_cons] at e4
      injection e4 with e4 e4'
      obtain ⟨p, pl', rfl, h1, h2⟩ := cPairs_cons e3
      subst e4
      have er : b.2 ++ [((semOf env pos e).1, (semOf env pos e).2)] = (ri ++ [e]).map (semOf env pos) := by
        rw [e5, List.map_append]
        rfl
      have e2' := cPairs_snoc h1 e2
      show wpAny _ _ (if ((b.2 ++ [((semOf env pos e).1, (semOf env pos e).2)]).length == 17) = true then (do
        let main ← fl (b.2 ++ [((semOf env pos e).1, (semOf env pos e).2)]) b.1
        pure (ForInStep.yield (main, []))) else pure (ForInStep.yield (b.1, b.2 ++ [((semOf env pos e).1, (semOf env pos e).2)]))) _ _ _
      rw [er, List.length_map]
      by_cases full : (ri ++ [e]).length = 17
      · rw [if_pos (by simpa using full)]
        have app_eq : L.flatten ++ (pr ++ [p]) ++ pl' = ps := by rw [e1]; simp
        have sub1 : (L.flatten ++ (pr ++ [p])).Sublist ps := by
          rw [← app_eq]
          exact List.sublist_append_left _ _
        have pl17 : (pr ++ [p]).length = 17 := by rw [← cPairs_length e2']; exact full
        refine wpAny_bind (flush (env := env) (pos := pos) hu hs e8 e2' (.inl (by omega)) (fun y hy => hz y (sub1.subset (by simp at hy ⊢; right; exact hy))) (hn.sublist (sub1.map _)) (Nat.le_trans sub1.length_le hz2) (fun c hc z => by
          have := e7 c hc
          rw [z] at this
          cases this) fun m t' st => wpAny_pure ⟨L ++ [pr ++ [p]], [], li, [], pl', ?_, rfl, h2, e4', rfl, by decide, ?_, st⟩)
        · rw [← app_eq]
          simp
        · intro c hc
          rcases List.mem_append.mp hc with hc | hc
          · exact e7 c hc
          · simp only [List.mem_singleton] at hc
            rw [hc]
            exact pl17
      · rw [if_neg (by simpa using full)]
        refine wpAny_pure ⟨L, ri ++ [e], li, pr ++ [p], pl', by rw [e1]; simp, e2', h2, e4', rfl, ?_, e7, e8⟩
        simp only [List.length_append, List.length_cons, List.length_nil] at full ⊢
        omega
  · obtain ⟨L, ri, li, pr, pl, e1, e2, e3, e4, e5, e6, e7, e8⟩ := hI
    cases li with
    | cons e li => cases e4
    | nil =>
      cases e3
      rw [List.append_nil] at e1
      have ln := congrArg List.length e1
      rw [List.length_append, len17 e7] at ln
      have l1 := cPairs_length e2
      have one : ri.length = 1 := by omega
      have pne : pr ≠ [] := by
        intro z
        rw [z] at l1
        rw [one] at l1
        cases l1
      show wpAny _ _ (do
        let m ← fl b.2 b.1
        match m with
          | some d => pure (Value.ref d)
          | none => newDict) _ _ _
      rw [e5]
      refine wpAny_bind (flush (env := env) (pos := pos) hu hs e8 e2 (.inr one) (fun y hy => hz y (by rw [e1]; simp; right; exact hy)) (by rw [← e1]; exact hn) (by rw [← e1]; exact hz2) (fun c hc z => by
        have := e7 c hc
        rw [z] at this
        cases this) fun m t' st => ?_)
      obtain ⟨z1, z2, z3⟩ := st.done (by simp)
      subst z1
      have ck : chunks (L.length + 1) ps = L ++ [pr] := by
        rw [e1]
        exact chunks_of (by omega) pne L _ e7 (Nat.lt_succ_self _)
      have q' := q (L.length + 1) (by omega)
      rw [ck, ← z2] at q'
      exact wpAny_pure (q' z3)
end
end HdB

set_option Elab.async false
set_option linter.all false
set_option maxRecDepth 100000
set_option maxHeartbeats 1000000
namespace HdB
open PySem PySem.W PySem.Calls PyProof.Rows HandSHeadRun
/-- the top's body around a statement -/
def ctx (K : Flow → Sem Flow) (h : Value → Sem Unit) (K2 : Flow → Sem PySem.Fin) (m : Sem Flow) : Sem PySem.Fin := ((m.bind K).onRaise h).bind K2
noncomputable def ctxR (K : Flow → Sem Flow) (h : Value → Sem Unit) (K2 : Flow → Sem PySem.Fin) (m : Sem Flow) : Sem PySem.Fin := R.bindR (R.onRaiseR (R.bindR m K) h) K2
theorem ctx_R : @ctx = @ctxR := by
  funext K h K2 m
  unfold ctx ctxR
  rw [R.bindR_eq, R.onRaiseR_eq]
/-- after the expression of an assignment: its store; the statements behind it -/
def asgJ (targets : List Expr) (value : Expr) (env : Env) (v : Value) : Sem Flow := (swappedStores targets value env).bind fun ss => assignStores env v ss ((assignEach targets env).map (·.2))
def asgK (rest : List Stmt) (env : Env) : Flow → Sem Flow
  | .next => execs rest env
  | f => pure f
def doneK (f : Flow) : Sem PySem.Fin := Sem.pure (PySem.Fin.done f)
theorem around_ctx {J : Value → Sem Flow} {K : Flow → Sem Flow} {h : Value → Sem Unit} {K2 : Flow → Sem PySem.Fin} {m : Sem Value} : around J K h K2 m = ctx K h K2 (m.bind J) := rfl
theorem execs_app {env : Env} {b : List Stmt} : ∀ a : List Stmt, execs (a ++ b) env = (execs a env).bind (asgK b env)
  | [] => rfl
  | s :: a => by
    rw [List.cons_append, execs_cons, execs_cons]
    show ((exec s env).bind fun f => match f with | .next => execs (a ++ b) env | f => pure f) = ((exec s env).bind fun f => match f with | .next => execs a env | f => pure f).bind (asgK b env)
    have as : ∀ {α β γ : Type} (m : Sem α) (f : α → Sem β) (g : β → Sem γ), (m.bind f).bind g = m.bind fun x => (f x).bind g := fun m f g => bind_assoc m f g
    rw [as]
    congr 1
    funext f
    cases f with
    | next => exact execs_app a
    | brk => rfl
    | cont => rfl
    | ret v => rfl
theorem body_ctx {tb : String → Option Builtin} {env : Env} {B pre rest : List Stmt} (hB : B = pre ++ rest) (h1 : hasAnns B = false) (h2 : interactive env = false) (h3 : docOf B = none) :
    denote tb (.body B env) = ctx (asgK rest env) (leaving env) doneK (execs pre env) := by
  show ((blockStart B env).bind fun _ => ((execs B env).onRaise (leaving env)).bind fun f => Sem.pure (PySem.Fin.done f)) = _
  have e : blockStart B env = pure () := by
    unfold blockStart
    rw [h1, h2, h3]
    rfl
  rw [e, hB, execs_app]
  rfl
theorem next_ctx {env : Env} {K2 : Flow → Sem PySem.Fin} {h : Value → Sem Unit} {targets : List Expr} {value : Expr} {pos : Pos} {rest : List Stmt} (hs : swapsWithSole targets value pos.line env = pure false) :
    ctx (asgK (.Assign targets value pos :: rest) env) h K2 (pure .next) = .at pos fun _ => around (asgJ targets value env) (asgK rest env) h K2 (eval value env) := by
  have e : asgK (.Assign targets value pos :: rest) env .next = (exec (.Assign targets value pos) env).bind (asgK rest env) := by
    show execs _ env = _
    rw [execs_cons]
    show (exec _ env).bind _ = (exec _ env).bind _
    congr 1
  show ((asgK (.Assign targets value pos :: rest) env .next).onRaise h).bind K2 = _
  rw [e, arm_exec_Assign, hs]
  rfl
/-- the frame below the top's body -/
structure Fr0 where
  k : Result → Sem PySem.Fin
  h : Option Value
  g : Bool
  l : List Value
  c : Code
  p : Pos
def Fr0.at_ (f : Fr0) (kept : List Value) : Frame := .ret f.k f.h f.g f.l f.c f.p kept
/-- so far has the top come -/
def Got (p : Program) (w : World) (os : OsState) (S : SharedT) (cur : Sem PySem.Fin) (code : Code) (f : Fr0) : Prop :=
  ∃ pos kept, Way p w (boot_heap w.params).objs.size (bootAnn w) (ahead w os) (topStub p) S.abs ⟨cur, code, pos, [f.at_ kept]⟩
section
variable {p : Program} {w : World} {os : OsState} {S S' : SharedT} {cur cur' : Sem PySem.Fin} {code : Code} {f : Fr0}
theorem boot_sleeps (ho : opening p = plainProg p.main.scope.names) (hfe : ∀ s, fenceModules? p s = some s) (w : World) (os : OsState) : (ahead w os).asleep := by
  have bo := boot_open (N := 600) ho rfl hfe w
  rw [← table_eq_tree] at bo
  obtain ⟨⟨h0, g0, d0, k0, os'⟩, b1, b2⟩ := Option.map_eq_some_iff.mp bo
  simp only [Prod.mk.injEq] at b2
  obtain ⟨z1, z2, z3, z4⟩ := b2
  subst z1 z2 z3 z4
  obtain ⟨u, u1, u2⟩ := Option.bind_eq_some_iff.mp b1
  have z := Shared.asleep_of_life (fence_lifeW u2) (AfterImport.of_importEnds u1).life
  exact z
theorem got_start {m : Nat} {pos : Pos} {kept : List Value} (hz : (ahead w os).asleep) {t : PySem.W.BT} {n : Nat} (ht : putAll (boot_heap w.params).objs.toList .nil 0 = some (t, n))
    (h : goP (stepQ (denQ tabQ) p w) n (bootAnn w) m (bootT w os (t, n)) (topStub p) = some (S', ⟨cur', code, pos, [f.at_ kept]⟩)) : Got p w os S' cur' code f := by
  have eh := putAll_heap ht
  have en : (boot_heap w.params).objs.size = n := by
    rw [← eh]
    exact absHeap_size t n _
  have eb : (bootT w os (t, n)).abs = ahead w os := by
    show (⟨absHeap t n (boot_heap w.params).life, #[], boot_drawn, boot_toks, os⟩ : Shared) = _
    rw [eh] <;> rfl
  rw [← stepQ_eq, ← denQ_eq, ← tabQ_eq] at h
  have wy := goP_way (p := p) (w := w) (n0 := n) (ann := bootAnn w) table_eq_tree.symm (by rw [eb]; exact hz) h
  rw [eb] at wy
  exact ⟨pos, kept, by rw [en]; exact wy⟩
theorem got_run {m : Nat} (hz : (ahead w os).asleep) (g : Got p w os S cur code f) {n : Nat} (hn : (boot_heap w.params).objs.size = n)
    (h : ∀ pos kept, ∃ pos', goP (stepQ (denQ tabQ) p w) n (bootAnn w) m S ⟨cur, code, pos, [f.at_ kept]⟩ = some (S', ⟨cur', code, pos', [f.at_ kept]⟩)) : Got p w os S' cur' code f := by
  obtain ⟨pos, kept, wy⟩ := g
  obtain ⟨pos', e⟩ := h pos kept
  rw [← stepQ_eq, ← denQ_eq, ← tabQ_eq] at e
  have w2 := goP_way (p := p) (w := w) (n0 := n) (ann := bootAnn w) table_eq_tree.symm (Shared.asleep_of_life wy.life hz) e
  rw [← hn] at w2
  exact ⟨pos', kept, wy.trans w2⟩
/-- an expression by the logic: L more objects, n more tokens -/
theorem got_more {J : Value → Sem Flow} {K1 : Flow → Sem Flow} {hr : Value → Sem Unit} {K2 : Flow → Sem PySem.Fin} {m : Sem Value} {v : Value} {L : List Obj} {tk n2 : Nat} {T2 : PySem.W.BT} (hz : (ahead w os).asleep) (hg : S.gens = #[])
    (g : Got p w os S (around J K1 hr K2 m) code f) (hu : code.cUnits + f.c.cUnits < cLine) (hp : putAll L S.tree S.n = some (T2, n2))
    (h : ∀ (A : Around), A.units < cLine → wpAny (model p w) A m (fun a s' => a = v ∧ s' = { S.abs with heap := app S.abs.heap L, toks := tk }) (fun _ _ => False) S.abs) :
    Got p w os ⟨T2, n2, S.life, S.gens, S.drawn, tk, S.os⟩ (around J K1 hr K2 (.pure v)) code f := by
  obtain ⟨pos, kept, wy⟩ := g
  have e2 : ({ S.abs with heap := app S.abs.heap L, toks := tk } : Shared) = (⟨T2, n2, S.life, S.gens, S.drawn, tk, S.os⟩ : SharedT).abs := by
    have e := putAll_ok (life := S.life) hp
    rw [push_all] at e
    unfold SharedT.abs app
    rw [e]
  have wp1 := h ⟨(Ctx.of code [f.at_ kept]).handled, frameCount (Ctx.of code [f.at_ kept]).below + code.weight, none, none, (Ctx.of code [f.at_ kept]).units⟩ (by
    show code.cUnits + unitsOf [(f.c, f.p)] < cLine
    rw [unitsOf_cons, unitsOf_nil]
    exact hu) (Ctx.of code [f.at_ kept]) pos ⟨rfl, Nat.le_refl _, fun l z => (by cases z), fun l z => (by cases z), Nat.le_refl _⟩
  obtain ⟨pos', st', e3, w2⟩ := way_logic (n0 := (boot_heap w.params).objs.size) (ann := bootAnn w) (hf := Ctx.fits_of code [f.at_ kept]) (J := J) (K1 := K1) (hr := hr) (K2 := K2) (Shared.asleep_of_life wy.life hz) wp1 hg rfl rfl fun b o z => app_old z
  have e4 : ∃ kept', st' = [f.at_ kept'] := by
    cases st' with
    | nil => cases (show ([] : List Frame) = [_] from e3)
    | cons x r =>
      cases r with
      | cons y r =>
        have z := congrArg List.length e3
        unfold forgetAll at z
        rw [List.length_map, List.length_map] at z
        simp at z
      | nil =>
        have e5 : x.forget = (f.at_ kept).forget := (List.cons.inj (show [x.forget] = [(f.at_ kept).forget] from e3)).1
        cases x with
        | ret k h g l c p kp =>
          obtain ⟨fk, fh, fg, fl, fc, fp⟩ := f
          injection (show Frame.ret k h g l c p [] = Frame.ret fk fh fg fl fc fp [] from e5) with a1 a2 a3 a4 a5 a6
          subst a1 a2 a3 a4 a5 a6
          exact ⟨kp, rfl⟩
        | gen => cases (show Frame.gen _ _ _ _ _ = Frame.ret _ _ _ _ _ _ _ from e5)
  obtain ⟨kept', rfl⟩ := e4
  rw [e2] at w2
  exact ⟨pos', kept', wy.trans w2⟩
theorem got_end {q : Program} {loose : List PySem.Str} {H : Hook} {ob : SharedT → H.α} {M : Nat} (hob : ∀ s : SharedT, ob s = H.obs s.abs) {YP : World → Heap → Prop} (hz : (ahead w os).asleep) (g : Got p w os S cur code f) {n : Nat} (hn : (boot_heap w.params).objs.size = n)
    (h : ∀ pos kept, (goF (stepQ (denQ tabQ) p w) n (bootAnn w) M S ⟨cur, code, pos, [f.at_ kept]⟩).map (fun s => (looksF p (boot_heap w.params) s.abs, seenQ q loose (importedModules p.main.body) (fun s => xlAt q [] s) s.abs, ob s)) = some (true, openGood q loose, H.val w))
    (hY : ∀ s : Shared, H.obs s = H.val w → YP w s.heap) :
    ∃ s t, Way p w (boot_heap w.params).objs.size (bootAnn w) (ahead w os) (topStub p) s t ∧ through t = true ∧ looksF p (boot_heap w.params) s = true ∧
      openSeen q loose (importedModules p.main.body) (fun s => xlAt q [] s) true s = openGood q loose ∧ YP w s.heap := by
  obtain ⟨pos, kept, wy⟩ := g
  obtain ⟨s, e1, e2⟩ := Option.map_eq_some_iff.mp (h pos kept)
  simp only [Prod.mk.injEq] at e2
  obtain ⟨l1, l2, l3⟩ := e2
  rw [← stepQ_eq, ← denQ_eq, ← tabQ_eq] at e1
  have r := goF_ok e1
  rw [← table_eq_tree] at r
  obtain ⟨⟨m, t1, hm, ht⟩, hl, ho, hk⟩ := topRun_spec _ _ _ _ (Shared.asleep_of_life wy.life hz) r
  rw [← hn] at hk
  rw [← seenQ_eq] at l2
  rw [hob] at l3
  exact ⟨s.abs, t1, wy.trans ⟨⟨m, hm⟩, hl, ho, hk⟩, ht, l1, l2, hY _ l3⟩
theorem got_at {K : Unit → Sem PySem.Fin} {pos : Pos} (hz : (ahead w os).asleep) (g : Got p w os S (.at pos K) code f) : Got p w os S (K ()) code f := by
  obtain ⟨pos0, kept, wy⟩ := g
  exact ⟨pos, kept, wy.trans (Way.one (Shared.asleep_of_life wy.life hz) rfl rfl)⟩
theorem got_body {tb : String → Option Builtin} {env : Env} {B pre rest : List Stmt} (hB : B = pre ++ rest) (h1 : hasAnns B = false) (h2 : interactive env = false) (h3 : docOf B = none) (g : Got p w os S (denQ tabQ (.body B env)) code f) :
    Got p w os S (ctx (asgK rest env) (leaving env) doneK (execs pre env)) code f := by
  rw [← tabQ_eq, ← denQ_eq, body_ctx hB h1 h2 h3] at g
  exact g
/-- statements by the kernel, whatever is behind them -/
theorem got_stmts {m : Nat} {x xQ : Sem Flow} {K : Flow → Sem Flow} {h : Value → Sem Unit} {K2 : Flow → Sem PySem.Fin} (hz : (ahead w os).asleep) (hx : x = xQ) (g : Got p w os S (ctx K h K2 x) code f) {n : Nat} (hn : (boot_heap w.params).objs.size = n)
    (e : ∀ (K : Flow → Sem Flow) (h : Value → Sem Unit) (K2 : Flow → Sem PySem.Fin) pos kept, ∃ pos', goP (stepQ (denQ tabQ) p w) n (bootAnn w) m S ⟨ctxR K h K2 xQ, code, pos, [f.at_ kept]⟩ = some (S', ⟨ctxR K h K2 (.pure .next), code, pos', [f.at_ kept]⟩)) :
    Got p w os S' (ctx K h K2 (.pure .next)) code f := by
  subst hx
  rw [ctx_R] at g ⊢
  exact got_run hz g hn (e K h K2)
theorem abs_size (S : SharedT) : S.abs.heap.objs.size = S.n := absHeap_size _ _ _
theorem got_tuple {J : Value → Sem Flow} {K1 : Flow → Sem Flow} {hr : Value → Sem Unit} {K2 : Flow → Sem PySem.Fin} {value : Expr} {env : Env} {es : List Expr} {j : Nat} {pos : Pos} {kss : List (List Int)} {n tk n1 tk1 n2 : Nat} {T2 : PySem.W.BT} (hz : (ahead w os).asleep) (hg : S.gens = #[])
    (g : Got p w os S (around J K1 hr K2 (eval value env)) code f) (hu : code.cUnits + f.c.cUnits < cLine) (va : value = .Tuple es j pos) (ct : cTups es = some kss) (h1 : ∀ ks ∈ kss, ks.length ≤ sizeLine) (h2 : kss.length ≤ sizeLine)
    (en : S.n = n) (et : S.toks = tk) (en1 : n + kss.length = n1) (et1 : tk + total kss = tk1) (hp : putAll (tabO n tk kss) S.tree S.n = some (T2, n2)) :
    Got p w os ⟨T2, n2, S.life, S.gens, S.drawn, tk1, S.os⟩ (around J K1 hr K2 (.pure (.ref n1))) code f := by
  refine got_more hz hg g hu hp fun A hA => ?_
  subst va
  refine table_eval ct h1 h2 ?_
  rw [abs_size, en, en1]
  refine ⟨rfl, ?_⟩
  unfold later
  rw [show S.abs.toks = tk from et, et1]
theorem got_dict {J : Value → Sem Flow} {K1 : Flow → Sem Flow} {hr : Value → Sem Unit} {K2 : Flow → Sem PySem.Fin} {value : Expr} {env : Env} {its : List (Expr × Expr)} {pos : Pos} {ps : List Pr} {n tk tk1 n2 fu : Nat} {T2 : PySem.W.BT} (hz : (ahead w os).asleep) (hg : S.gens = #[])
    (g : Got p w os S (around J K1 hr K2 (eval value env)) code f) (hu : code.cUnits + f.c.cUnits < cLine) (va : value = .Dict (its.map fun e => some e.1) (its.map (·.2)) pos) (ct : cPairs its = some ps) (h0 : ps.length % 17 = 1) (h1 : ∀ q ∈ ps, q.1.length ≤ sizeLine) (h2 : ps.length ≤ sizeLine) (h3 : (ps.map (·.1)).Nodup)
    (hs : 1 < n) (hf : ps.length / 17 < fu) (en : S.n = n) (et : S.toks = tk) (et1 : (allC n tk (chunks fu ps)).2.2 = tk1) (hp : putAll (dictO ((allC n tk (chunks fu ps)).1.map eOf) (allC n tk (chunks fu ps)).1.length :: (allC n tk (chunks fu ps)).2.1) S.tree S.n = some (T2, n2)) :
    Got p w os ⟨T2, n2, S.life, S.gens, S.drawn, tk1, S.os⟩ (around J K1 hr K2 (.pure (.ref n))) code f := by
  refine got_more hz hg g hu hp fun A hA => ?_
  subst va
  refine dict_eval hA (by rw [abs_size, en]; exact hs) ct h0 h1 h3 h2 fun f' hf' c => ?_
  have ck : chunks f' ps = chunks fu ps := by
    have m : ∀ a b : Nat, ps.length / 17 < a → a ≤ b → chunks b ps = chunks a ps := fun a b h1 h2 => by
      obtain ⟨g, rfl⟩ : ∃ g, b = a + g := ⟨b - a, by omega⟩
      exact chunks_more g (by omega)
    rcases Nat.le_total f' fu with h | h
    · exact (m f' fu hf' h).symm
    · exact m fu f' hf h
  rw [ck, abs_size, en, show S.abs.toks = tk from et]
  refine ⟨rfl, ?_⟩
  unfold outC
  rw [abs_size, en, show S.abs.toks = tk from et] at *
  rw [et1]
end
end HdB

set_option Elab.async false
set_option linter.all false
set_option maxRecDepth 100000
set_option maxHeartbeats 1000000
/-! What the walk leans on, read off the heap behind the top. -/
namespace HdB
open PySem PySem.Spec PyProof.Rows L2
abbrev AlB : Type := He.Al × Bool × List (Option Obj)
/-- K: the objects at these addresses -/
structure SaysB (fa : List He.Fa) (fn : List He.FnD) (ex : PySem.W.Frag → Bool) (ta : List Addr) (tv : List Obj) (K : PySem.W.Frag) : Prop where
  e : He.SaysE fa fn K
  more : ex K = true
  tab : ta.map (fun a => K.lookup a) = tv.map some
def obsB (as : List Addr) (fa : List He.Fa) (fn : List He.FnD) (ex : PySem.W.Frag → Bool) (ta : List Addr) (g : Addr → Option Obj) : AlB := (He.obsE fa fn (He.frG g as), ex (He.frG g as), ta.map (fun a => (He.frG g as).lookup a))
def valB (fn : List He.FnD) (tv : List Obj) : AlB := (He.valE fn, true, tv.map some)
def hookB (as : List Addr) (fa : List He.Fa) (fn : List He.FnD) (ex : PySem.W.Frag → Bool) (ta : List Addr) (tv : List Obj) : PySem.W.Hook where
  α := AlB
  obs := fun s => obsB as fa fn ex ta s.heap.get?
  val := fun _ => valB fn tv
  says := fun _ h => ∃ K : PySem.W.Frag, K.In h ∧ SaysB fa fn ex ta tv K
  of := fun _ _ e => ⟨_, He.frG_in, ⟨congrArg (fun z : AlB => z.1) e, congrArg (fun z : AlB => z.2.1) e, congrArg (fun z : AlB => z.2.2) e⟩⟩
  keeps := fun _ _ _ ⟨K, hK, c⟩ k => ⟨K, PySem.W.Frag.In.keeps hK k, c⟩
theorem obsB_eq {as : List Addr} {fa : List He.Fa} {fn : List He.FnD} {ex : PySem.W.Frag → Bool} {ta : List Addr} {tv : List Obj} (s : PySem.W.SharedT) : obsB as fa fn ex ta (HandSHeadRun.getT s) = (hookB as fa fn ex ta tv).obs s.abs := by
  have e : HandSHeadRun.getT s = s.abs.heap.get? := funext (HandSHeadRun.getT_eq s)
  rw [e] <;> rfl
section
variable {fa : List He.Fa} {fn : List He.FnD} {ex : PySem.W.Frag → Bool} {ta : List Addr} {tv : List Obj} {K : PySem.W.Frag}
theorem SaysB.at_ (c : SaysB fa fn ex ta tv K) {i : Nat} {a : Addr} {o : Obj} (h1 : ta[i]? = some a) (h2 : tv[i]? = some o) : K.lookup a = some o := by
  have e : (ta.map (fun a => K.lookup a))[i]? = (tv.map some)[i]? := by rw [c.tab]
  rw [List.getElem?_map, List.getElem?_map, h1, h2] at e
  exact Option.some.inj e
end
end HdB
namespace Mir
open PySem PySem.Spec PyProof.Rows L2
theorem walkB {l : PySem.W.OpenLaw} {n k : Nat} {q : Program} {loose : List Str} {XP : (Str → Option Value) → Heap → Prop} {YP : World → Heap → Prop} {d : DefRec} {mf : List Da → Option Da} {x : Str} (hn : l.most = some n) (hn2 : n ≤ sizeLine) (hdf : d.params.defaults = []) (hr : Room k callerA)
    (Fd : ∀ (w : World) (tops : Str → Option Value) (fa : Addr) (h : Heap), YP w h → h.Ns mainGlobals tops → tops d.name = some (.ref fa) →
      ∃ (K : PySem.W.Frag) (fd : FuncData), K.In h ∧ (∀ (s : Shared) (u : Value), BindsTo s fd ⟨[u], []⟩ [(x, u)]) ∧ ∀ base : Heap, K.In base → base.Ns mainGlobals tops → FnG l.prog w K tops base k fa fd [x] (spP K 1 mf))
    (hm : ∀ ns : List Int, ns.length ≤ n → mf [.list (ns.map .int)] = some (.bool true)) : PySem.W.WalkO q loose XP YP l.row.toRowW d [] (fun f vs => PySem.call f vs) := by
  refine Att.attach_call hn hdf fun w s0 s1 tops mb fa o pm cd doc a vs ns G Y h1 h2 h3 hmg hobj hints hlen hg => ?_
  obtain ⟨K, fd, kx, hb, hF⟩ := Fd w tops fa _ Y G.T.g hmg
  refine lawG kx G.T.g G.T.b G.T.builtins G.T.nolimit hg hobj hints (Nat.le_trans hlen hn2) hr hF hb fun H Fz fo rl => ?_
  exact ⟨Fz, [.list (ns.map .int)], .bool true, fo, .cons (.lst rl ints_mk) .nil, rfl, hm ns hlen, fun v H' F' _ r => r.bool_inv⟩
end Mir

set_option Elab.async false
set_option linter.all false
set_option maxRecDepth 100000
set_option maxHeartbeats 2000000
namespace HdB
open PySem PySem.Spec PyProof.Rows L2
/-- all sets of up to eight, in the order of their bits -/
def PS : List Pr := (List.range 256).map fun b => (((List.range 8).filter fun i => b.testBit i).map Int.ofNat, Int.ofNat b)
def bitO (n tk : Nat) (ps : List Pr) : List Obj := dictO ((allC n tk (chunks 16 ps)).1.map eOf) (allC n tk (chunks 16 ps)).1.length :: (allC n tk (chunks 16 ps)).2.1
theorem look_at {ta : List Addr} {tv : List Obj} {K : PySem.W.Frag} (tab : ta.map (fun a => K.lookup a) = tv.map some) {i : Nat} {a : Addr} {o : Obj} (h1 : ta[i]? = some a) (h2 : tv[i]? = some o) : K.lookup a = some o := by
  have e : (ta.map (fun a => K.lookup a))[i]? = (tv.map some)[i]? := by rw [tab]
  rw [List.getElem?_map, List.getElem?_map, h1, h2] at e
  exact Option.some.inj e
theorem vals_ints0 : ∀ (ks : List Int) (tk : Nat), Vals (ks.map V.int) (intsO tk ks)
  | [], _ => .nil
  | k :: ks, tk => .cons ⟨tk, rfl⟩ (vals_ints0 ks _)
theorem tups_at : ∀ (kss : List (List Int)) (tk i : Nat) (ks : List Int), kss[i]? = some ks → ∃ t, (tups tk kss)[i]? = some (tupO t ks)
  | [], _, _, _, h => by simp at h
  | k :: r, tk, 0, ks, h => by
    simp at h
    subst h
    exact ⟨tk, rfl⟩
  | k :: r, tk, i + 1, ks, h => by
    obtain ⟨t, e⟩ := tups_at r (tk + k.length) i ks (by simpa using h)
    exact ⟨t, by simpa [tups] using e⟩
end HdB
namespace Mir
open PySem PySem.Spec PyProof.Rows L2
def setsD : Da := .tuple (HdB.PS.map fun p => .tuple (p.1.map .int))
theorem rp_ints {K : PySem.W.Frag} {H : Hp} {F : Frz} {a : Addr} {t : Nat} {ks : List Int} (h : K.lookup a = some (HdB.tupO t ks)) (hz : ks.length ≤ sizeLine) : Rp K H F (.ref a) (.tuple (ks.map .int)) :=
  .tup (.inr (.inr ⟨_, _, _, h, rfl, rfl, by rw [List.size_toArray, HdB.intsO_length]; exact hz, by simpa using HdB.vals_ints0 ks t⟩)) ints_mk
theorem rp_rows {K : PySem.W.Frag} {H : Hp} {F : Frz} : ∀ (kss : List (List Int)) (n : Nat), (∀ i ks, kss[i]? = some ks → ∃ t, K.lookup (n + i) = some (HdB.tupO t ks)) → (∀ ks ∈ kss, ks.length ≤ sizeLine) →
    RpA K H F ((List.range' n kss.length).map V.ref) (kss.map fun ks => .tuple (ks.map .int))
  | [], _, _, _ => .nil
  | ks :: r, n, h, hz => by
    obtain ⟨t, e⟩ := h 0 ks rfl
    rw [List.length_cons, List.range'_succ]
    exact .cons (rp_ints e (hz ks (by simp))) (rp_rows r (n + 1) (fun i ks' h' => by
      obtain ⟨t', e'⟩ := h (i + 1) ks' (by simpa using h')
      exact ⟨t', by rw [← e']; congr 1; omega⟩) fun x hx => hz x (by simp [hx]))
theorem vals_refs : ∀ (l : List Nat), Vals (l.map V.ref) (l.map Value.ref)
  | [] => .nil
  | a :: r => .cons rfl (vals_refs r)
theorem sets_rp {K : PySem.W.Frag} {ta : List Addr} {tv : List Obj} {n tk : Nat} (tab : ta.map (fun a => K.lookup a) = tv.map some) (h1 : ta.take 257 = List.range' n 257) (h2 : tv.take 257 = HdB.tabO n tk (HdB.PS.map (·.1))) (H : Hp) (F : Frz) : Rp K H F (.ref (n + 256)) setsD := by
  have ln : (HdB.PS.map (·.1)).length = 256 := by decide +kernel
  have sm : ∀ ks ∈ HdB.PS.map (·.1), ks.length ≤ sizeLine := fun ks h => by
    have e : ((HdB.PS.map (·.1)).all fun ks => decide (ks.length ≤ 8)) = true := by decide +kernel
    have := of_decide_eq_true (List.all_eq_true.mp e ks h)
    rw [sizeLine_eq]
    omega
  have lk : ∀ i o, (HdB.tabO n tk (HdB.PS.map (·.1)))[i]? = some o → i < 257 → K.lookup (n + i) = some o := fun i o h lt => by
    refine HdB.look_at tab (i := i) ?_ ?_
    · rw [← List.getElem?_take_of_lt lt, h1, List.getElem?_range' lt]
      simp
    · rw [← List.getElem?_take_of_lt lt, h2]
      exact h
  have last := lk 256 { cls := .type "tuple", data := .seq (HdB.refs n (HdB.PS.map (·.1)).length).toArray } (by
    unfold HdB.tabO
    rw [List.getElem?_append_right (by rw [HdB.tups_length, ln]; omega), HdB.tups_length, ln]
    rfl) (by omega)
  rw [ln] at last
  have rows := rp_rows (K := K) (H := H) (F := F) (HdB.PS.map (·.1)) n (fun i ks h => by
    obtain ⟨t, e⟩ := HdB.tups_at _ tk i ks h
    have lt : i < 256 := by
      rw [← ln]
      exact (List.getElem?_eq_some_iff.mp h).1
    refine ⟨t, lk i _ ?_ (by omega)⟩
    unfold HdB.tabO
    rw [List.getElem?_append_left (by rw [HdB.tups_length, ln]; exact lt)]
    exact e) sm
  rw [ln] at rows
  have e2 : setsD = .tuple ((HdB.PS.map (·.1)).map fun ks => .tuple (ks.map .int)) := by
    unfold setsD
    rw [List.map_map]
    rfl
  rw [e2]
  exact .tup (.inr (.inr ⟨_, _, _, last, rfl, rfl, by rw [sizeLine_eq]; simp [HdB.refs], by simpa [HdB.refs] using vals_refs (List.range' n 256)⟩)) rows
/-- what must be seen of the numbers -/
def keysOk (n tk : Nat) : Prop := (HdB.allC n tk (HdB.chunks 16 HdB.PS)).1.map (fun x => (x.1, x.2.2, decide (n ≤ x.2.1 ∧ x.2.1 < n + 272), (HdB.bitO n tk HdB.PS)[x.2.1 - n]?)) =
  HdB.PS.zipIdx.map fun p => (p.1.1, Value.int p.1.2 (tk + HdB.cost (HdB.PS.take p.2) + p.1.1.length), true, some (HdB.tupO (tk + HdB.cost (HdB.PS.take p.2)) p.1.1))
theorem mat_of : ∀ (xs : List HdB.Tri) (l : List (HdB.Pr × Nat)) (c : HdB.Pr × Nat → Nat), xs.map (fun x => (x.1, x.2.2)) = l.map (fun p => (p.1.1, Value.int p.1.2 (c p))) → Mat xs (l.map (·.1))
  | [], [], _, _ => .nil
  | [], _ :: _, _, h => by cases h
  | _ :: _, [], _, h => by cases h
  | x :: xs, p :: l, c, h => by
    rw [List.map_cons, List.map_cons] at h
    injection h with h1 h2
    injection h1 with h3 h4
    exact .cons h3 h4 (mat_of xs l c h2)
theorem bits_at {K : PySem.W.Frag} {ta : List Addr} {tv : List Obj} {n tk pre : Nat} (hs : (n == sysModules) = false) (tab : ta.map (fun a => K.lookup a) = tv.map some) (h1 : ta.drop pre = List.range' n 272) (h2 : tv.drop pre = HdB.bitO n tk HdB.PS) (hk : keysOk n tk) : BitsAt K n HdB.PS := by
  have lk : ∀ i o, (HdB.bitO n tk HdB.PS)[i]? = some o → i < 272 → K.lookup (n + i) = some o := fun i o h lt => by
    refine HdB.look_at tab (i := pre + i) ?_ ?_
    · rw [← List.getElem?_drop, h1, List.getElem?_range' lt]
      simp
    · rw [← List.getElem?_drop, h2]
      exact h
  unfold keysOk at hk
  have e1 := congrArg (List.map fun q : List Int × Value × Bool × Option Obj => (q.1, q.2.1)) hk
  rw [List.map_map, List.map_map] at e1
  have m := mat_of _ _ (fun p => tk + HdB.cost (HdB.PS.take p.2) + p.1.1.length) (show (HdB.allC n tk (HdB.chunks 16 HdB.PS)).1.map (fun x => (x.1, x.2.2)) = HdB.PS.zipIdx.map (fun p => (p.1.1, Value.int p.1.2 (tk + HdB.cost (HdB.PS.take p.2) + p.1.1.length))) from e1)
  have zi : (HdB.PS.zipIdx.map (·.1)) = HdB.PS := by simp
  rw [zi] at m
  have e2 := congrArg (List.map fun q : List Int × Value × Bool × Option Obj => q.1) hk
  rw [List.map_map, List.map_map] at e2
  have keys : (HdB.allC n tk (HdB.chunks 16 HdB.PS)).1.map (·.1) = HdB.PS.map (·.1) := by
    have e3 : (HdB.allC n tk (HdB.chunks 16 HdB.PS)).1.map (·.1) = HdB.PS.zipIdx.map (fun p => p.1.1) := e2
    rw [e3]
    have : (HdB.PS.zipIdx.map (·.1)).map (·.1) = HdB.PS.map (·.1) := by rw [zi]
    rw [← this, List.map_map]
    rfl
  refine ⟨⟨_, lk 0 _ rfl (by omega), fun x hx => ?_, ?_, m⟩, hs⟩
  · obtain ⟨i, hi, ex⟩ := List.mem_iff_getElem.mp hx
    have e4 : ((HdB.allC n tk (HdB.chunks 16 HdB.PS)).1.map (fun x => (x.1, x.2.2, decide (n ≤ x.2.1 ∧ x.2.1 < n + 272), (HdB.bitO n tk HdB.PS)[x.2.1 - n]?)))[i]? = some (x.1, x.2.2, decide (n ≤ x.2.1 ∧ x.2.1 < n + 272), (HdB.bitO n tk HdB.PS)[x.2.1 - n]?) := by
      rw [List.getElem?_map, List.getElem?_eq_getElem hi, ex]
      rfl
    rw [hk, List.getElem?_map] at e4
    obtain ⟨p, hp, e5⟩ := Option.map_eq_some_iff.mp e4
    simp only [Prod.mk.injEq] at e5
    obtain ⟨e6, e7, e8, e9⟩ := e5
    obtain ⟨r1, r2⟩ := of_decide_eq_true e8.symm
    refine ⟨tk + HdB.cost (HdB.PS.take p.2), ?_⟩
    have sub : ∀ a m : Nat, m ≤ a → a < m + 272 → a - m < 272 ∧ m + (a - m) = a := fun a m h1 h2 => ⟨by omega, by omega⟩
    obtain ⟨s1, s2⟩ := sub x.2.1 n r1 r2
    have z := lk (x.2.1 - n) _ (by rw [← e9, e6]) s1
    have s3 : n + (x.2.1 - n) = x.2.1 := s2
    rw [s3] at z
    exact z
  · rw [keys]
    decide +kernel
end Mir

set_option Elab.async false
set_option linter.all false
set_option maxRecDepth 100000
set_option maxHeartbeats 4000000
namespace MirT
open PySem PySem.Spec PyProof.Rows L2 Mir
theorem hu65 {k : Nat} {A : Around} (hr : Room k A) : A.units + 1 < cLine := by
  have := hr.un
  omega
theorem un9 {k : Nat} {A : Around} (hr : Room k A) : A.units + 9 < cLine := by
  have := hr.un
  omega
theorem un65 {k : Nat} {A : Around} (hr : Room k A) : A.units + 65 < cLine := by
  have := hr.un
  omega
abbrev topS (i : Nat) : Stmt := PySem.Challenge.pw_rootalarms_k39_groups_told.main.body.getD i (.Pass ⟨0, 0, 0, 0⟩)
abbrev s_Lsource : Stmt := topS 16
abbrev n_Lsource : List Str := ["_law_cell_here"]
theorem c_Lsource : FnScope n_Lsource ["_law_cell_here"] (defScope s_Lsource) := ⟨rfl, rfl, rfl, by decide +kernel, rfl, by decide +kernel, by decide +kernel⟩
abbrev s_Lcell : Stmt := topS 15
abbrev n_Lcell : List Str := ["_law_script", "_law_index"]
theorem c_Lcell : FnScope n_Lcell ["_law_script", "_law_index"] (defScope s_Lcell) := ⟨rfl, rfl, rfl, by decide +kernel, rfl, by decide +kernel, by decide +kernel⟩
abbrev s_Ldraw : Stmt := topS 17
abbrev n_Ldraw : List Str := ["_law_supply", "_law_many", "_law_found", "_law_mixed"]
theorem c_Ldraw : FnScope n_Ldraw ["_law_supply", "_law_many"] (defScope s_Ldraw) := ⟨rfl, rfl, rfl, by decide +kernel, rfl, by decide +kernel, by decide +kernel⟩
abbrev s_Lnet_of : Stmt := topS 19
abbrev n_Lnet_of : List Str := ["_law_supply", "_law_size", "_law_way", "_law_found", "_law_component", "_law_needs", "_law_other"]
theorem c_Lnet_of : FnScope n_Lnet_of ["_law_supply", "_law_size"] (defScope s_Lnet_of) := ⟨rfl, rfl, rfl, by decide +kernel, rfl, by decide +kernel, by decide +kernel⟩
abbrev s_Lsets : Stmt := topS 21
abbrev n_Lsets : List Str := ["_law_things", "_law_found", "_law_thing", "_law_row"]
theorem c_Lsets : FnScope n_Lsets ["_law_things"] (defScope s_Lsets) := ⟨rfl, rfl, rfl, by decide +kernel, rfl, by decide +kernel, by decide +kernel⟩
abbrev s_Lreaches : Stmt := topS 20
abbrev n_Lreaches : List Str := ["_law_net", "_law_found", "_law_turn", "_law_wider", "_law_own", "_law_far", "_law_near", "_law_component", "_law_needs"]
theorem c_Lreaches : FnScope n_Lreaches ["_law_net"] (defScope s_Lreaches) := ⟨rfl, rfl, rfl, by decide +kernel, rfl, by decide +kernel, by decide +kernel⟩
abbrev s_Lmeets : Stmt := topS 23
abbrev n_Lmeets : List Str := ["_law_one", "_law_other", "_law_thing"]
theorem c_Lmeets : FnScope n_Lmeets ["_law_one", "_law_other"] (defScope s_Lmeets) := ⟨rfl, rfl, rfl, by decide +kernel, rfl, by decide +kernel, by decide +kernel⟩
abbrev s_Ltable : Stmt := topS 22
abbrev n_Ltable : List Str := ["_law_net", "_law_reaches_here", "_law_found", "_law_broken", "_law_component", "_law_own"]
theorem c_Ltable : FnScope n_Ltable ["_law_net"] (defScope s_Ltable) := ⟨rfl, rfl, rfl, by decide +kernel, rfl, by decide +kernel, by decide +kernel⟩
abbrev s_Ldue : Stmt := topS 24
abbrev n_Ldue : List Str := ["_law_table_here", "_law_watched", "_law_found", "_law_broken", "_law_alarming", "_law_told", "_law_one"]
theorem c_Ldue : FnScope n_Ldue ["_law_table_here", "_law_watched"] (defScope s_Ldue) := ⟨rfl, rfl, rfl, by decide +kernel, rfl, by decide +kernel, by decide +kernel⟩
abbrev s_near_bits : Stmt := topS 9
abbrev n_near_bits : List Str := ["thing", "near", "bit", "limit", "needs", "bits", "part"]
theorem c_near_bits : FnScope n_near_bits ["thing"] (defScope s_near_bits) := ⟨rfl, rfl, rfl, by decide +kernel, rfl, by decide +kernel, by decide +kernel⟩
abbrev s_nears : Stmt := topS 10
abbrev n_nears : List Str := ["net", "near"]
theorem c_nears : FnScope n_nears ["net"] (defScope s_nears) := ⟨rfl, rfl, rfl, by decide +kernel, rfl, by decide +kernel, by decide +kernel⟩
abbrev s_bits_of : Stmt := topS 7
abbrev n_bits_of : List Str := ["thing", "many", "part", "bits"]
theorem c_bits_of : FnScope n_bits_of ["thing", "many"] (defScope s_bits_of) := ⟨rfl, rfl, rfl, by decide +kernel, rfl, by decide +kernel, by decide +kernel⟩
abbrev s_checked_bits : Stmt := topS 8
abbrev n_checked_bits : List Str := ["chosen", "many", "bits"]
theorem c_checked_bits : FnScope n_checked_bits ["chosen", "many"] (defScope s_checked_bits) := ⟨rfl, rfl, rfl, by decide +kernel, rfl, by decide +kernel, by decide +kernel⟩
abbrev s_heard_bits : Stmt := topS 11
abbrev n_heard_bits : List Str := ["near", "broken", "heard", "known", "bit", "bits"]
theorem c_heard_bits : FnScope n_heard_bits ["near", "broken"] (defScope s_heard_bits) := ⟨rfl, rfl, rfl, by decide +kernel, rfl, by decide +kernel, by decide +kernel⟩
abbrev s_groups : Stmt := topS 13
abbrev n_groups : List Str := ["net", "watched", "near", "seen", "found", "component", "members"]
theorem c_groups : FnScope n_groups ["net", "watched"] (defScope s_groups) := ⟨rfl, rfl, rfl, by decide +kernel, rfl, by decide +kernel, by decide +kernel⟩
abbrev s_Lis_equal : Stmt := topS 18
abbrev n_Lis_equal : List Str := ["_law_actual", "_law_due_here"]
theorem c_Lis_equal : FnScope n_Lis_equal ["_law_actual", "_law_due_here"] (defScope s_Lis_equal) := ⟨rfl, rfl, rfl, by decide +kernel, rfl, by decide +kernel, by decide +kernel⟩
abbrev s_law : Stmt := topS 25
abbrev n_law : List Str := ["_law_script", "_law_k", "_law_supply", "_law_lap", "_law_net", "_law_table_here", "_law_some", "_law_watched", "_law_kept", "_law_due_here", "_law_told", "_law_one"]
theorem c_law : FnScope n_law ["_law_script"] (defScope s_law) := ⟨rfl, rfl, rfl, by decide +kernel, rfl, by decide +kernel, by decide +kernel⟩
def FA : List He.Fa := [.glo "_law_source", .keep "_law_source", .glo "_law_cell", .keep "_law_cell", .glo "_law_draw", .keep "_law_draw", .glo "_law_net_of", .keep "_law_net_of", .glo "_law_sets", .keep "_law_sets", .glo "_law_reaches", .keep "_law_reaches", .glo "_law_meets", .keep "_law_meets", .glo "_law_table", .keep "_law_table", .glo "_law_due", .keep "_law_due", .glo "near_bits", .keep "near_bits", .glo "nears", .keep "nears", .glo "bits_of", .keep "bits_of", .glo "checked_bits", .keep "checked_bits", .glo "heard_bits", .keep "heard_bits", .glo "groups", .keep "groups", .glo "_law_is_equal", .keep "_law_is_equal", .glo "law", .keep "law", .int "MOST_COMPONENTS" 8, .free "enumerate", .free "int", .free "isinstance", .free "len", .free "list", .free "max", .free "min", .free "range", .free "repr", .free "set", .free "sorted", .free "tuple"]

def FN : List He.FnD := [⟨("_law_source", none), "_law_source", "_law_source", defArgs s_Lsource, defBody s_Lsource, defScope s_Lsource⟩,
  ⟨("_law_cell", none), "_law_cell", "_law_cell", defArgs s_Lcell, defBody s_Lcell, defScope s_Lcell⟩,
  ⟨("_law_draw", none), "_law_draw", "_law_draw", defArgs s_Ldraw, defBody s_Ldraw, defScope s_Ldraw⟩,
  ⟨("_law_net_of", none), "_law_net_of", "_law_net_of", defArgs s_Lnet_of, defBody s_Lnet_of, defScope s_Lnet_of⟩,
  ⟨("_law_sets", none), "_law_sets", "_law_sets", defArgs s_Lsets, defBody s_Lsets, defScope s_Lsets⟩,
  ⟨("_law_reaches", none), "_law_reaches", "_law_reaches", defArgs s_Lreaches, defBody s_Lreaches, defScope s_Lreaches⟩,
  ⟨("_law_meets", none), "_law_meets", "_law_meets", defArgs s_Lmeets, defBody s_Lmeets, defScope s_Lmeets⟩,
  ⟨("_law_table", none), "_law_table", "_law_table", defArgs s_Ltable, defBody s_Ltable, defScope s_Ltable⟩,
  ⟨("_law_due", none), "_law_due", "_law_due", defArgs s_Ldue, defBody s_Ldue, defScope s_Ldue⟩,
  ⟨("near_bits", none), "near_bits", "near_bits", defArgs s_near_bits, defBody s_near_bits, defScope s_near_bits⟩,
  ⟨("nears", none), "nears", "nears", defArgs s_nears, defBody s_nears, defScope s_nears⟩,
  ⟨("bits_of", none), "bits_of", "bits_of", defArgs s_bits_of, defBody s_bits_of, defScope s_bits_of⟩,
  ⟨("checked_bits", none), "checked_bits", "checked_bits", defArgs s_checked_bits, defBody s_checked_bits, defScope s_checked_bits⟩,
  ⟨("heard_bits", none), "heard_bits", "heard_bits", defArgs s_heard_bits, defBody s_heard_bits, defScope s_heard_bits⟩,
  ⟨("groups", none), "groups", "groups", defArgs s_groups, defBody s_groups, defScope s_groups⟩,
  ⟨("_law_is_equal", none), "_law_is_equal", "_law_is_equal", defArgs s_Lis_equal, defBody s_Lis_equal, defScope s_Lis_equal⟩,
  ⟨("law", none), "law", "law", defArgs s_law, defBody s_law, defScope s_law⟩]

def EX (K : PySem.W.Frag) : Bool := (decide (PySem.W.nsIn K mainGlobals "BITS" = some (some (.ref 52)))) && true

def TA : List Addr := List.range' 52 272

def TV : List Obj := HdB.bitO 52 239 HdB.PS

def AS : List Addr := 3 :: List.range' 11 416

end MirT
set_option Elab.async false
set_option linter.all false
set_option maxRecDepth 100000
set_option maxHeartbeats 0
namespace HeadT
open PySem PySem.W PySem.Calls PyProof.Rows HandSHeadRun HdB
abbrev P : Program := PySem.Challenge.pw_rootalarms_k39_groups_told
abbrev R : OpenRow := OpenLaw.row PySem.Challenge.rw_rootalarms_k39_groups_told
abbrev qv : Program := view P [25]
abbrev hk : PySem.W.Hook := HdB.hookB MirT.AS MirT.FA MirT.FN MirT.EX MirT.TA MirT.TV
def names0 : List PySem.Str := [PySem.Str.ofString "__name__", PySem.Str.ofString "AlarmError", PySem.Str.ofString "NetError", PySem.Str.ofString "SetError", PySem.Str.ofString "BITS", PySem.Str.ofString "MOST_COMPONENTS", PySem.Str.ofString "bits_of", PySem.Str.ofString "checked_bits", PySem.Str.ofString "near_bits", PySem.Str.ofString "nears", PySem.Str.ofString "heard_bits", PySem.Str.ofString "groups", PySem.Str.ofString "_law_cell", PySem.Str.ofString "_law_source", PySem.Str.ofString "_law_draw", PySem.Str.ofString "_law_is_equal", PySem.Str.ofString "_law_net_of", PySem.Str.ofString "_law_reaches", PySem.Str.ofString "_law_sets", PySem.Str.ofString "_law_table", PySem.Str.ofString "_law_meets", PySem.Str.ofString "_law_due"]
def names : List PySem.Str := names0
theorem pl2 : PS.length = 256 := by decide +kernel
theorem pln : (PS.map (·.1)).length = 256 := by rw [List.length_map, pl2]
theorem ptt : total (PS.map (·.1)) = 1024 := by decide +kernel
theorem psz2 (p : Pr) (h : p ∈ PS) : p.1.length ≤ sizeLine := by
  have e : (PS.all fun p => decide (p.1.length ≤ 8)) = true := by decide +kernel
  have := of_decide_eq_true (List.all_eq_true.mp e p h)
  rw [sizeLine_eq]
  omega
theorem psz (ks : List Int) (h : ks ∈ PS.map (·.1)) : ks.length ≤ sizeLine := by
  obtain ⟨p, hp, rfl⟩ := List.mem_map.mp h
  exact psz2 p hp
abbrev env1 : Env := { scope := P.main.scope, locals := mainNs, globals := mainNs, cells := [], code := .ref 13, frame := some 14 }
abbrev B1 : List Stmt := behindTheImports P
abbrev code1 : Code := .body B1 env1
def stT (i : Nat) : Option (List Expr × Expr × Pos) := match B1[i]? with
  | some (.Assign ts v p) => some (ts, v, p)
  | _ => none
def tgt (i : Nat) : List Expr := match stT i with
  | some x => x.1
  | none => []
def val (i : Nat) : Expr := match stT i with
  | some x => x.2.1
  | none => .Constant .none 0 default
def psn (i : Nat) : Pos := match stT i with
  | some x => x.2.2
  | none => default
noncomputable def asgQ (i : Nat) (v : Value) : Sem Flow := R.bindR (Fast.tw4016559146275205325 (tgt i) (val i) env1) fun ss => Fast.tw2470068587113613483 env1 v ss ((Fast.tw15628205474173192105 (tgt i) env1).map (·.2))
theorem asg_Q (i : Nat) (v : Value) : asgJ (tgt i) (val i) env1 v = asgQ i v := by
  unfold asgJ asgQ
  rw [R.bindR_eq, ← Fast.te4016559146275205325, ← Fast.te2470068587113613483, ← Fast.te15628205474173192105]
noncomputable def asgKQ (rest : List Stmt) : Flow → Sem Flow
  | .next => Fast.tw12563942051412417395 rest env1
  | f => .pure f
theorem asgK_Q (rest : List Stmt) : asgK rest env1 = asgKQ rest := by
  funext f
  cases f with
  | next => exact congrFun (congrFun Fast.te12563942051412417395 rest) env1
  | _ => rfl
abbrev ww (w : World) (b : Bool) : World := w.withFollow "special-get-raises" b
theorem boot11 (w : World) : (boot_heap w.params).objs.size = 11 := by kernel_rfl
theorem opn : opening P = plainProg P.main.scope.names := by kernel_rfl
theorem fen (s : Shared) : fenceModules? P s = some s := by kernel_rfl
noncomputable def T0 (w : World) : PySem.W.BT := match putAll (boot_heap w.params).objs.toList .nil 0 with
  | some (t, _) => t
  | none => .nil
theorem eqB (w : World) : putAll (boot_heap w.params).objs.toList .nil 0 = some (T0 w, 11) := by kernel_rfl
noncomputable def RA (w : World) (os : OsState) : Option (SharedT × Thread) := goP (stepQ (denQ tabQ) P w) 11 (bootAnn w) 12 (bootT w os (T0 w, 11)) (topStub P)
noncomputable def TA (w : World) (os : OsState) : PySem.W.BT := match RA w os with
  | some (s, _) => s.tree
  | none => .nil
noncomputable def f0 (w : World) (os : OsState) : Fr0 := match RA w os with
  | some (_, ⟨_, _, _, .ret k h g l c p _ :: _⟩) => ⟨k, h, g, l, c, p⟩
  | _ => ⟨fun _ => .pure (.done .next), none, false, [], .builtin "claim.caller" {}, default⟩
noncomputable def posA (w : World) (os : OsState) : Pos := match RA w os with
  | some (_, ⟨_, _, p, _⟩) => p
  | _ => default
noncomputable def SA (w : World) (os : OsState) : SharedT := ⟨TA w os, 15, (boot_heap w.params).life, #[], boot_drawn, 187, os⟩
theorem eqA (w : World) (os : OsState) : goP (stepQ (denQ tabQ) P w) 11 (bootAnn w) 12 (bootT w os (T0 w, 11)) (topStub P) = some (SA w os, ⟨denQ tabQ (.body B1 env1), code1, posA w os, [(f0 w os).at_ []]⟩) := by
  kernel_rfl
theorem fcl (w : World) (os : OsState) : code1.cUnits + (f0 w os).c.cUnits < cLine := by
  have e : (f0 w os).c = .builtin "claim.caller" {} := by kernel_rfl
  rw [e]
  decide +kernel
theorem hann : hasAnns B1 = false := by kernel_rfl
theorem hint : interactive env1 = false := by kernel_rfl
theorem hdoc : docOf B1 = none := by kernel_rfl
theorem slp (w : World) (os : OsState) : (ahead w os).asleep := boot_sleeps opn fen w os
theorem ga (w : World) (os : OsState) : Got P w os (SA w os) (ctx (asgK (B1.drop 4) env1) (leaving env1) doneK (execs (B1.take 4) env1)) code1 (f0 w os) :=
  got_body (tb := treeTable) (List.take_append_drop 4 B1).symm hann hint hdoc (got_start (slp w os) (eqB w) (eqA w os))
noncomputable def KX : Flow → Sem Flow := fun _ => .unsupported "x"
noncomputable def R1 (w : World) (os : OsState) : Option (SharedT × Thread) := goP (stepQ (denQ tabQ) P w) 11 (bootAnn w) 621 (SA w os) ⟨ctxR KX (fun _ => .pure ()) (fun _ => .pure (.done .next)) (Fast.tw12563942051412417395 (B1.take 4) env1), code1, default, [(f0 w os).at_ []]⟩
noncomputable def T1 (w : World) (os : OsState) : PySem.W.BT := match R1 w os with
  | some (s, _) => s.tree
  | none => .nil
noncomputable def pos1 (w : World) (os : OsState) : Pos := match R1 w os with
  | some (_, ⟨_, _, p, _⟩) => p
  | _ => default
noncomputable def S1 (w : World) (os : OsState) : SharedT := ⟨T1 w os, 52, (boot_heap w.params).life, #[], boot_drawn, 239, os⟩
theorem eq1 (b : Bool) (w : World) (os : OsState) (K : Flow → Sem Flow) (h : Value → Sem Unit) (K2 : Flow → Sem PySem.Fin) (pos : Pos) (kept : List Value) :
    goP (stepQ (denQ tabQ) P (ww w b)) 11 (bootAnn (ww w b)) 621 (SA (ww w b) os) ⟨ctxR K h K2 (Fast.tw12563942051412417395 (B1.take 4) env1), code1, pos, [(f0 (ww w b) os).at_ kept]⟩ = some (S1 (ww w b) os, ⟨ctxR K h K2 (.pure .next), code1, pos1 (ww w b) os, [(f0 (ww w b) os).at_ kept]⟩) := by
  cases b <;> kernel_rfl
theorem g1 (b : Bool) (w : World) (os : OsState) : Got P (ww w b) os (S1 (ww w b) os) (ctx (asgK (B1.drop 4) env1) (leaving env1) doneK (.pure .next)) code1 (f0 (ww w b) os) :=
  got_stmts (slp _ _) (congrFun (congrFun Fast.te12563942051412417395 _) _) (ga _ _) (boot11 _) fun K h K2 pos kept => ⟨_, eq1 b w os K h K2 pos kept⟩
theorem dr4 : B1.drop 4 = .Assign (tgt 4) (val 4) (psn 4) :: B1.drop 5 := by kernel_rfl
theorem sw4 : swapsWithSole (tgt 4) (val 4) (psn 4).line env1 = pure false := by kernel_rfl
theorem ev4 (b : Bool) (w : World) (os : OsState) : Got P (ww w b) os (S1 (ww w b) os) (around (asgJ (tgt 4) (val 4) env1) (asgK (B1.drop 5) env1) (leaving env1) doneK (eval (val 4) env1)) code1 (f0 (ww w b) os) := by
  have g := g1 b w os
  rw [dr4] at g
  have g2 : Got P (ww w b) os (S1 (ww w b) os) (.at (psn 4) fun _ => around (asgJ (tgt 4) (val 4) env1) (asgK (B1.drop 5) env1) (leaving env1) doneK (eval (val 4) env1)) code1 (f0 (ww w b) os) := by
    rw [← next_ctx sw4]
    exact g
  exact got_at (slp _ _) g2
def it4 : List (Expr × Expr) := match val 4 with
  | .Dict ks vs _ => (ks.filterMap id).zip vs
  | _ => []
def ep4 : Pos := match val 4 with
  | .Dict _ _ p => p
  | _ => default
theorem va4 : val 4 = .Dict (it4.map fun e => some e.1) (it4.map (·.2)) ep4 := by kernel_rfl
theorem ct4 : cPairs it4 = some PS := by kernel_rfl
theorem nd4 : (PS.map (·.1)).Nodup := by decide +kernel
theorem tk4 : (allC 52 239 (chunks 16 PS)).2.2 = 2799 := by decide +kernel
noncomputable def U4 (w : World) (os : OsState) : PySem.W.BT := match putAll (dictO ((allC 52 239 (chunks 16 PS)).1.map eOf) (allC 52 239 (chunks 16 PS)).1.length :: (allC 52 239 (chunks 16 PS)).2.1) (S1 w os).tree 52 with
  | some (t, _) => t
  | none => .nil
theorem pu4 (b : Bool) (w : World) (os : OsState) : putAll (dictO ((allC 52 239 (chunks 16 PS)).1.map eOf) (allC 52 239 (chunks 16 PS)).1.length :: (allC 52 239 (chunks 16 PS)).2.1) (S1 (ww w b) os).tree (S1 (ww w b) os).n = some (U4 (ww w b) os, 324) := by
  cases b <;> kernel_rfl
noncomputable def V4 (w : World) (os : OsState) : SharedT := ⟨U4 w os, 324, (boot_heap w.params).life, #[], boot_drawn, 2799, os⟩
theorem mo4 (b : Bool) (w : World) (os : OsState) : Got P (ww w b) os (V4 (ww w b) os) (ctx (asgK (B1.drop 5) env1) (leaving env1) doneK (asgJ (tgt 4) (val 4) env1 (.ref 52))) code1 (f0 (ww w b) os) :=
  got_dict (n := 52) (tk := 239) (tk1 := 2799) (fu := 16) (slp _ _) rfl (ev4 b w os) (fcl _ _) va4 ct4 (by rw [pl2]) psz2 (by rw [pl2, sizeLine_eq]; omega) nd4 (by omega) (by rw [pl2]; omega) rfl rfl tk4 (pu4 b w os)
theorem eqE (b : Bool) (w : World) (os : OsState) (pos : Pos) (kept : List Value) :
    (goF (stepQ (denQ tabQ) P (ww w b)) 11 (bootAnn (ww w b)) 20000 (V4 (ww w b) os) ⟨ctxR (asgKQ (B1.drop 5)) (leaving env1) doneK (asgQ 4 (.ref 52)), code1, pos, [(f0 (ww w b) os).at_ kept]⟩).map (fun s => (looksF P (boot_heap (ww w b).params) s.abs, seenQ qv names (importedModules P.main.body) (fun s => xlAt qv [] s) s.abs, (fun s => HdB.obsB MirT.AS MirT.FA MirT.FN MirT.EX MirT.TA (HandSHeadRun.getT s)) s)) = some (true, openGood qv names, (hk).val (ww w b)) := by
  cases b <;> kernel_rfl
theorem top (w : World) : Through P qv names (fun s => xlAt qv [] s) (hk.says) w := by
  refine byRow2 "special-get-raises" (P := fun w => Through P qv names (fun s => xlAt qv [] s) (hk.says) w) (fun w os => ?_) (fun w os => ?_) w
  · have g := mo4 false w os
    rw [asg_Q, asgK_Q, ctx_R] at g
    exact got_end (H := hk) (ob := (fun s => HdB.obsB MirT.AS MirT.FA MirT.FN MirT.EX MirT.TA (HandSHeadRun.getT s))) (fun s => HdB.obsB_eq s) (slp _ _) g (boot11 _) (eqE false w os) (fun s e => hk.of _ s e)
  · have g := mo4 true w os
    rw [asg_Q, asgK_Q, ctx_R] at g
    exact got_end (H := hk) (ob := (fun s => HdB.obsB MirT.AS MirT.FA MirT.FN MirT.EX MirT.TA (HandSHeadRun.getT s))) (fun s => HdB.obsB_eq s) (slp _ _) g (boot11 _) (eqE true w os) (fun s e => hk.of _ s e)
end HeadT
set_option Elab.async false
set_option linter.all false
set_option maxRecDepth 100000
set_option maxHeartbeats 2000000
namespace Mir
open PySem PySem.Spec PyProof.Rows L2
/-! ### is a bool, whatever stands on the left -/
def rIsX : R2 := fun x y H Q => ∃ b : Bool, y = .bl b ∧ Q (.bl (decide (x = .bl b))) H
theorem op_isX {X : Cx} : OpR X (compareOp .Is) rIsX := by
  intro pins s σ H x y v u Q I rx ry h
  obtain ⟨b, rfl, q⟩ := h
  cases (show u = Value.bool b from ry)
  by_cases e : x = .bl b
  · subst e
    cases (show v = Value.bool b from rx)
    exact wpAny_is_self rfl ⟨.bl true, H, I, rfl, by simpa using q⟩
  · have ne : v ≠ Value.bool b := fun z => by
      subst z
      apply e
      cases x with
      | non => cases (show Value.bool b = Value.none from rx)
      | bl c => cases (show Value.bool b = Value.bool c from rx); rfl
      | int i => obtain ⟨t, z⟩ := (show ∃ t, Value.bool b = Value.int i t from rx); cases z
      | str i => obtain ⟨t, z⟩ := (show ∃ t, Value.bool b = Value.str i t from rx); cases z
      | byt i => obtain ⟨t, z⟩ := (show ∃ t, Value.bool b = Value.bytes i t from rx); cases z
      | flt i => obtain ⟨t, z⟩ := (show ∃ t, Value.bool b = Value.float i t from rx); cases z
      | ref a => cases (show Value.bool b = Value.ref a from rx)
      | ty n => cases (show Value.bool b = Value.type n from rx)
    exact wpAny_is_other (by cases v <;> first | rfl | (exfalso; cases x <;> simp [L2.RelV] at rx)) ne ⟨.bl false, H, I, rfl, by simpa [e] using q⟩
def gIsX : Da → Da → Option Da
  | .bool a, .bool b => some (.bool (decide (a = b)))
  | _, .bool _ => some (.bool false)
  | x, .none => some (.bool (isNo x))
  | _, _ => none
theorem or_isX {X : Cx} : OpR X (compareOp .Is) (fun x y H Q => rIsX x y H Q ∨ rIsN x y H Q) := op_isX.or op_isN1
theorem od_isX {K : PySem.W.Frag} : OpD K (fun x y H Q => rIsX x y H Q ∨ rIsN x y H Q) gIsX := fun H F x y dx dy d fo hx hy hg Q q => by
  unfold gIsX at hg
  split at hg
  · cases hg
    rename_i a b
    refine .inl ⟨b, hy.bool_inv, ?_⟩
    rw [hx.bool_inv]
    have e : decide (V.bl a = V.bl b) = decide (a = b) := by
      by_cases z : a = b
      · rw [z]; simp
      · simp [z]
    rw [e]
    exact q _ H F (Gr.refl fo) (.bl _)
  · cases hg
    rename_i b nb
    refine .inl ⟨b, hy.bool_inv, ?_⟩
    have e : decide (x = V.bl b) = false := by
      refine decide_eq_false fun z => ?_
      subst z
      cases hx with
      | rp h =>
        cases h with
        | bl c => exact nb _ rfl
    rw [e]
    exact q _ H F (Gr.refl fo) (.bl _)
  · cases hg
    exact .inr ⟨hy.none_inv, by rw [isN_go hx]; exact q _ H F (Gr.refl fo) (.bl _)⟩
  · cases hg
/-- not e as a value, whatever e is -/
def mNotT (f : Md Da) : Md Da := mBind (mTru f) fun b => mRet (.bool (!b))
theorem e_notT {X : Cx} {ow : List Nat} {a : Expr} {pos : Pos} {fa : Md Da} (h : GE X ow a fa) : GE X ow (.UnaryOp .Not a pos) (mNotT fa) := pe_w (pe_notT h) fun σ H Q ⟨B, F, ρ, d, ρ', c, hf, q⟩ => by
  obtain ⟨b, ρ1, h1, hf⟩ := bind_inv hf
  obtain ⟨x, ρ2, h2, h3⟩ := bind_inv h1
  obtain ⟨hg, rfl⟩ := opt_inv h3
  cases hf
  exact ⟨B, F, ρ, x, _, c, h2, fun v H1 F1 c1 l1 r1 => ⟨b, tru_d r1 hg, q _ H1 F1 c1 l1 (.bl _)⟩⟩
end Mir

set_option Elab.async false
set_option linter.all false
set_option maxRecDepth 100000
set_option maxHeartbeats 2000000
namespace Mir
open PySem PySem.Spec PyProof.Rows L2
/-! ### what is walked may be a list or a tuple -/
def asS : Da → Option (List Da)
  | .list ds => some ds
  | .tuple ds => some ds
  | _ => none
section
variable {X : Cx} {ow : List Nat} {tg iter e : Expr} {fe : Md Da} {fl : Md (List Da)} {elts : List Expr} {kk : Nat} {tpos p pos : Pos}
theorem i_seq (h : GE X ow iter fe) : GI X ow tg iter (mBind fe fun d => mOpt (asS d)) := ⟨fun pins s σ H R I ⟨B, F, ρ, ds, ρ', c, hf, q⟩ => by
  obtain ⟨d, ρ1, h1, hf⟩ := bind_inv hf
  obtain ⟨hg, e1⟩ := opt_inv hf
  cases d with
  | list xs =>
    cases hg
    refine (i_list h).run pins s σ H R I ⟨B, F, ρ, ds, ρ', c, ?_, q⟩
    unfold mBind
    rw [h1, e1]
    rfl
  | tuple xs =>
    cases hg
    refine (i_tup h).run pins s σ H R I ⟨B, F, ρ, ds, ρ', c, ?_, q⟩
    unfold mBind
    rw [h1, e1]
    rfl
  | _ => cases hg⟩
def enS : List Da → Option (List Da)
  | [.list ds] => enL [.list ds]
  | [.tuple ds] => enT [.tuple ds]
  | _ => none
theorem i_enumS (hg : Gl X "enumerate") (hm : X.mg "enumerate" = none) (ha : GA X ow [e] fl) (hs : starEach [e] X.env = [(false, eval e X.env)] := by rfl) : GI X ow (.Tuple elts kk tpos) (.Call (.Name "enumerate" p) [e] [] pos) (mBind fl fun ds => mOpt (enS ds)) := ⟨fun pins s σ H R I ⟨B, F, ρ, ds, ρ', c, hf, q⟩ => by
  obtain ⟨d, ρ1, h1, hf⟩ := bind_inv hf
  obtain ⟨hg', e1⟩ := opt_inv hf
  unfold enS at hg'
  split at hg'
  · refine (i_enumL hg hm ha hs).run pins s σ H R I ⟨B, F, ρ, ds, ρ', c, ?_, q⟩
    unfold mBind
    rw [h1]
    show mOpt (enL [_]) ρ1 = _
    rw [hg', e1]
    rfl
  · refine (i_enumT hg hm ha hs).run pins s σ H R I ⟨B, F, ρ, ds, ρ', c, ?_, q⟩
    unfold mBind
    rw [h1]
    show mOpt (enT [_]) ρ1 = _
    rw [hg', e1]
    rfl
  · cases hg'⟩
end
end Mir

set_option Elab.async false
set_option linter.all false
set_option maxRecDepth 100000
set_option maxHeartbeats 2000000
namespace Mir
open PySem PySem.Spec PyProof.Rows L2
/-! ### t[::-1] -/
section
variable {prog : Program} {w : World} {A : Around} {E : Value → Shared → Prop} {s : Shared}
theorem rev_adjust (n : Nat) : Builtin.Slice.sliceAdjust none none (-1) (n : Int) = ((n : Int) - 1, -1) := by
  unfold Builtin.Slice.sliceAdjust
  simp
theorem rev_places (n : Nat) : Builtin.Slice.slicePlaces ((n : Int) - 1) (-1) (-1) = n := by
  unfold Builtin.Slice.slicePlaces
  have h1 : ¬ ((-1 : Int) > 0) := by omega
  simp only [h1, if_false]
  by_cases h : (n : Int) - 1 > -1
  · rw [if_pos h, show (- -1 : Int) = 1 by decide, Int.ediv_one]
    omega
  · rw [if_neg h]
    omega
theorem fm_congr {α β : Type} {f g : α → Option β} : ∀ {l : List α}, (∀ x ∈ l, f x = g x) → l.filterMap f = l.filterMap g
  | [], _ => rfl
  | x :: r, h => by
    rw [List.filterMap_cons, List.filterMap_cons, h x (by simp), fm_congr fun y hy => h y (by simp [hy])]
theorem rev_pick (xs : Array Value) : ((List.range xs.size).filterMap fun (m : Nat) => xs[((xs.size : Int) - 1 + (m : Int) * -1).toNat]?).toArray = xs.toList.reverse.toArray := by
  have e : (List.range xs.size).filterMap (fun (m : Nat) => xs[((xs.size : Int) - 1 + (m : Int) * -1).toNat]?) = ((List.range xs.size).map fun k => xs.size - 1 - k).filterMap (xs[·]?) := by
    rw [List.filterMap_map]
    refine fm_congr fun m hm => ?_
    have lt := List.mem_range.mp hm
    have e2 : ((xs.size : Int) - 1 + (m : Int) * -1).toNat = xs.size - 1 - m := by omega
    show xs[_]? = xs[xs.size - 1 - m]?
    rw [e2]
  rw [e, PySem.W.krv_range, List.filterMap_reverse, PySem.W.krv_all]
theorem rev_applied {sl : Addr} {t : Tok} {n : Nat} {Q : Int × Int × Nat → Shared → Prop} (hs : s.heap.IsSliceOf sl .none .none (.int (-1) t)) (h : Q ((n : Int) - 1, -1, n) s) : wpAny (model prog w) A (Builtin.Slice.sliceApplied (.ref sl) (pure (n : Int))) Q E s := by
  obtain ⟨os, hos, hcs, hds⟩ := id hs
  unfold Builtin.Slice.sliceApplied Builtin.Slice.sliceFields
  refine wpAny_bind (wpAny_bind (wpAny_field hos hds (x := .none) rfl (wpAny_bind (wpAny_field hos hds (x := .none) rfl (wpAny_bind (wpAny_field hos hds (x := .int (-1) t) rfl (wpAny_pure ?_)))))))
  refine wpAny_bind (slicePart_int ?_)
  show wpAny _ _ (if ((-1 : Int) == 0) = true then _ else _) _ _ s
  rw [if_neg (by decide)]
  refine wpAny_bind (slicePart_none (wpAny_bind (slicePart_none (wpAny_bind (wpAny_pure ?_)))))
  show wpAny _ _ (match Builtin.Slice.sliceAdjust none none (-1) (n : Int) with | (lo, hi) => pure (lo, (-1 : Int), Builtin.Slice.slicePlaces lo hi (-1))) _ _ s
  rw [rev_adjust]
  show wpAny _ _ (pure ((n : Int) - 1, (-1 : Int), Builtin.Slice.slicePlaces ((n : Int) - 1) (-1) (-1))) _ _ s
  rw [rev_places]
  exact wpAny_pure h
theorem tuple_rev {t sl : Addr} {items : Array Value} {tk : Tok} {Q : Value → Shared → Prop} (ht : IsTup s.heap t items) (hs : s.heap.IsSliceOf sl .none .none (.int (-1) tk))
    (h : Q (.ref s.heap.objs.size) { s with heap := s.heap.push { cls := .type "tuple", data := .seq items.toList.reverse.toArray } }) (hsz : items.size ≤ sizeLine) : wpAny (model prog w) A (getItem (.ref t) (.ref sl)) Q E s := by
  have hnew : sizeOk (.seq items.toList.reverse.toArray) := by
    show items.toList.reverse.toArray.size ≤ sizeLine
    rw [List.size_toArray, List.length_reverse, Array.length_toList]
    exact hsz
  obtain ⟨os, hos, hcs, hds⟩ := id hs
  have hTs : s.TypeIs (.ref sl) "slice" := ⟨os, hos, hcs⟩
  unfold getItem
  try with_reducible refine wpAny_holding ?_
  first | refine wpAny_bind (wpAny_pure ?_) | skip
  refine wpAny_bind (wpAny_sequenceKey ht.typeIs (by decide) ?_)
  refine wpAny_bind (wpAny_callSpecial?_slot (name := Str.ofString "__getitem__") ht.typeIs PyProof.Rows.slot_tuple_getitem
    (wpAny_call_entry PyProof.Rows.slot_tuple_getitem ht.typeIs entry_tuple_getitem ?_ (args_tuple_getitem _ _)))
  show wpAny _ _ (Builtin.Tuple.tupleItemsOf (.ref t) >>= _) _ _ s
  refine wpAny_bind (tupleItemsOf_ ht ?_)
  refine wpAny_bind (wpAny_typeOf hTs ?_)
  rw [if_pos (by decide)]
  refine wpAny_bind (rev_applied (n := items.size) hs ?_)
  have hno : ¬ ((((items.size : Int) - 1) == 0 && (-1 : Int) == 1 && items.size == items.size) = true) := by simp
  show wpAny _ _ (if (((items.size : Int) - 1) == 0 && (-1 : Int) == 1 && items.size == items.size) = true then _ else _) _ _ s
  rw [if_neg hno, rev_pick]
  first
    | exact wpAny_bind (m := Builtin.Tuple.tupleExact _) (wpAny_newObj_type (wpAny_pure ⟨_, rfl, wpAny_pure h⟩) hnew)
    | exact wpAny_bind (m := Builtin.Tuple.tupleExact _) (wpAny_newObj_type (wpAny_bind (wpAny_pure (wpAny_pure ⟨_, rfl, wpAny_pure h⟩))) hnew)
    | exact wpAny_bind (wpAny_bind (m := Builtin.Tuple.tupleExact _) (wpAny_newObj_type (wpAny_pure (wpAny_pure ⟨_, rfl, wpAny_pure h⟩)) hnew))
    | exact wpAny_bind (wpAny_bind (m := Builtin.Tuple.tupleExact _) (wpAny_newObj_type (wpAny_pure ⟨_, rfl, wpAny_pure h⟩) hnew))
end
def tRevS (K : PySem.W.Frag) (te : TE) : TE := fun σ H Q => te σ H fun x H1 => (∃ a xs, x = .ref a ∧ SqL K H1 a xs ∧ ∀ p, H1 p = none → Q (.ref p) (upd H1 p (.lst xs.reverse))) ∨ ∃ a xs, x = .ref a ∧ SqT K H1 a xs ∧ ∀ p, H1 p = none → Q (.ref p) (upd H1 p (.tup xs.reverse))
section
variable {X : Cx} {e : Expr} {te : TE} {k : Nat} {p1 p2 p3 pos : Pos} {ow : List Nat} {fe : Md Da}
theorem pe_revS (he : PE X e te) : PE X (.Subscript e (.Slice none none (some (.UnaryOp .USub (.Constant (.int 1) k p1) p2)) p3) pos) (tRevS X.K te) := by
  refine ⟨fun pins s σ H Q I h => ?_⟩
  refine Subscript_ (thn (he.run pins s σ H _ I h) fun v s1 ⟨x, H1, I1, r1, q1⟩ => ?_)
  have hst : PO X (some (.UnaryOp .USub (.Constant (.int 1) k p1) p2)) (tPart (tUn (rU fun i => .int (-i)) (tC (.int 1)))) := po_some (pe_un un_neg pe_int)
  refine wpAny_Slice (thn (po_none.run pins s1 σ H1 (fun o H2 => o = none ∧ H2 = H1) I1 ⟨rfl, rfl⟩) fun vl s2 ⟨l, H2, I2, pl, el, e2⟩ => ?_)
  subst el e2
  refine thn (po_none.run pins s2 σ H2 (fun o H3 => o = none ∧ H3 = H2) I2 ⟨rfl, rfl⟩) fun vu s3 ⟨u, H3, I3, pu, eu, e3⟩ => ?_
  subst eu e3
  refine thn (hst.run pins s3 σ H3 (fun o H4 => o = some (-1) ∧ H4 = H3) I3 ⟨1, rfl, -1, rfl, rfl, rfl⟩) fun vs s4 ⟨o, H4, I4, ps, eo, e4⟩ => ?_
  subst eo e4
  have I5 : Inv X pins σ H4 { s4 with heap := s4.heap.push { cls := .type "slice", data := .fields #[vl, vu, vs] } } := I4.kept (t' := s4.toks) fun b ob q => Heap.get?_push_of_some _ q
  rcases q1 with ⟨a, xs, ex, hx, q⟩ | ⟨a, xs, ex, hx, q⟩
  · subst ex
    cases r1
    obtain ⟨its, r, ht, hz⟩ := I5.list hx
    have hlen := r.length
    show wpAny (model X.prog X.w) X.A (subscriptTail e (.Slice none none (some (.UnaryOp .USub (.Constant (.int 1) k p1) p2)) p3) (.ref a) (.ref s4.heap.objs.size)) (EP X pins σ Q) X.xe { s4 with heap := s4.heap.push { cls := .type "slice", data := .fields #[vl, vu, vs] } }
    refine tail_any (ops := [.ref a, .ref s4.heap.objs.size]) ht.isList.typeIs (PySem.slot_list_getitem.lookup) ?_ (by with_unfolding_all rfl)
    refine wpAny_getItem_list_slice ht.isList (Heap.IsSliceOf.new _ vl vu vs) pl pu ps (by decide) ?_ (by rw [List.size_toArray]; omega)
    rw [PySem.W.krv_pick]
    refine ⟨.ref _, _, I5.laid (t' := s4.toks) (o := .lst xs.reverse) (fun b ob q => Heap.get?_push_of_some _ q) (Nat.le_refl _) ?_, rfl, q _ (I5.hok.fresh (Nat.le_refl _))⟩
    exact ⟨by rw [List.length_reverse]; exact hz, _, 0, r.reverse, Heap.get?_push_size _ rfl⟩
  · subst ex
    cases r1
    obtain ⟨its, r, ht, hz⟩ := I5.tuple hx
    have hlen := r.length
    cases pl
    cases pu
    cases ps
    show wpAny (model X.prog X.w) X.A (subscriptTail e (.Slice none none (some (.UnaryOp .USub (.Constant (.int 1) k p1) p2)) p3) (.ref a) (.ref s4.heap.objs.size)) (EP X pins σ Q) X.xe { s4 with heap := s4.heap.push { cls := .type "slice", data := .fields #[.none, .none, _] } }
    refine tail_any (ops := [.ref a, .ref s4.heap.objs.size]) ht.typeIs (PyProof.Rows.slot_tuple_getitem.lookup) ?_ (by with_unfolding_all rfl)
    refine tuple_rev ht (Heap.IsSliceOf.new _ _ _ _) ?_ (by rw [List.size_toArray]; omega)
    refine ⟨.ref _, _, I5.laid (t' := s4.toks) (o := .tup xs.reverse) (fun b ob q => Heap.get?_push_of_some _ q) (Nat.le_refl _) ?_, rfl, q _ (I5.hok.fresh (Nat.le_refl _))⟩
    exact ⟨by rw [List.length_reverse]; exact hz, its.reverse, r.reverse, _, Heap.get?_push_size _ rfl, rfl, 0, rfl⟩
def gRev : Da → Option Da
  | .list ds => some (.list ds.reverse)
  | .tuple ds => some (.tuple ds.reverse)
  | _ => none
theorem RpA.rev {K : PySem.W.Frag} {H : Hp} {F : Frz} : ∀ {vs : List V} {ds : List Da}, RpA K H F vs ds → RpA K H F vs.reverse ds.reverse
  | _, _, .nil => .nil
  | _, _, .cons a t => by
    rw [List.reverse_cons, List.reverse_cons]
    exact (RpA.rev t).app (.one a)
theorem e_rev (he : GE X ow e fe) : GE X ow (.Subscript e (.Slice none none (some (.UnaryOp .USub (.Constant (.int 1) k p1) p2)) p3) pos) (mUn gRev fe) := pe_w (pe_revS he) fun σ H Q ⟨B, F, ρ, d, ρ', c, hf, q⟩ => by
  obtain ⟨x, ρ1, h1, hf⟩ := bind_inv hf
  obtain ⟨hg, rfl⟩ := opt_inv hf
  refine ⟨B, F, ρ, x, _, c, h1, fun v H1 F1 c1 l1 r1 => ?_⟩
  unfold gRev at hg
  split at hg
  · cases hg
    obtain ⟨a, vs, e1, t1, t2⟩ := r1.list_inv
    refine .inl ⟨a, vs, e1, t1.sq, fun p np => ?_⟩
    have gr := Gr.new (o := .lst vs.reverse) c1.fo np
    exact q _ _ _ (c1.grow gr) (l1.trans (gr.le c1.fo)) (rp_newL c1.fo np t2.rev)
  · cases hg
    obtain ⟨a, vs, e1, t1, t2⟩ := r1.tup_inv
    refine .inr ⟨a, vs, e1, t1.sq, fun p np => ?_⟩
    have gr := Gr.new (o := .tup vs.reverse) c1.fo np
    exact q _ _ _ (c1.grow gr) (l1.trans (gr.le c1.fo)) (rp_newT c1.fo np t2.rev)
  · cases hg
end
end Mir

set_option Elab.async false
set_option linter.all false
set_option maxRecDepth 100000
set_option maxHeartbeats 2000000
namespace Mir
open PySem PySem.Spec PyProof.Rows L2
/-! ### list(zip(a, b)): the pairs are kept, so each turn after the first makes its own -/
section
variable {pg : Program} {wd : World} {Ar : Around} {Er : Value → Shared → Prop} {sh : Shared} {za TI TO T i1 i2 : Addr} {fl : Bool} {oT : Obj} {f1 f2 : List Addr} {n1 n2 i : Nat} {P1 P2 : Nat → Value → Prop} {S1 S2 : Nat → Heap → Prop}
theorem held_item {Q : Value → Shared → Prop} (Z : ZipSep2 za TI TO i1 i2 f1 f2) (D1 : Draws pg wd Ar i1 f1 n1 P1 S1) (D2 : Draws pg wd Ar i2 f2 n2 P2 S2) (zz : IsZipHeld sh.heap za TI TO T fl) (ot : sh.heap.get? T = some oT) (ti : IsTupOf2 sh.heap TI (.ref i1) (.ref i2)) (s1 : S1 i sh.heap) (s2 : S2 i sh.heap) (l1 : i < n1) (l2 : i < n2)
    (q : ∀ x y h tk, P1 i x → P2 i y → IsZipHeld h za TI TO T true → S1 (i + 1) h → S2 (i + 1) h → IsTupOf2 h sh.heap.objs.size x y → h.objs.size = sh.heap.objs.size + 1 → (∀ c o, c ≠ za → c ≠ i1 → c ≠ i2 → sh.heap.get? c = some o → h.get? c = some o) → Q (.ref sh.heap.objs.size) { sh with heap := h, toks := tk }) :
    wpAny (model pg wd) Ar (Builtin.«zip.__next__» ⟨[.ref za], []⟩) (fun fin t => ∃ v, fin = .done (.ret v) ∧ Q v t) Er sh := by
  obtain ⟨hp, gs, dr, tk0, os⟩ := sh
  replace zz : IsZipHeld hp za TI TO T fl := zz
  show wpAny (model pg wd) _ (PySem.field (.ref za) 2 >>= _) _ _ _
  refine wpAny_bind (wpAny_field zz rfl (x := Value.bool false) rfl ?_)
  show wpAny (model pg wd) _ (PySem.field (.ref za) 3 >>= _) _ _ _
  refine wpAny_bind (wpAny_field zz rfl (x := Value.ref TI) rfl ?_)
  refine wpAny_bind (wpAny_seqItems ti rfl ?_)
  show wpAny (model pg wd) _ (Builtin.SmallTypes.ownedTupleIsFree (.ref za) >>= _) _ _ _
  refine wpAny_bind (wpAny_tupleHeld_zip zz ot fun g0 z0 b0 => ?_)
  replace b0 : Heap.SameBut za hp g0 := b0
  simp only [if_false, Bool.false_eq_true]
  refine wpAny_bind ?_
  rw [← Array.forIn_toList]
  simp only [List.forIn_nil, List.forIn_cons]
  refine wpAny_bind (wpAny_bind ?_)
  refine wpAny_holding ?_
  show wpAny (model pg wd) _ (Builtin.SmallTypes.nextOf (.ref i1) >>= _) _ _ ⟨g0, gs, dr, tk0, os⟩
  refine wpAny_bind (D1.item i _ _ _ l1 (D1.over s1 b0 Z.zf1) fun x p1 tk1 hx sn1 c1 => wpAny_pure (wpAny_pure ?_))
  replace c1 : Heap.SameBut i1 g0 p1 := c1
  refine wpAny_bind (wpAny_bind ?_)
  refine wpAny_holding ?_
  show wpAny (model pg wd) _ (Builtin.SmallTypes.nextOf (.ref i2) >>= _) _ _ ⟨p1, gs, dr, tk1, os⟩
  refine wpAny_bind (D2.item i _ _ _ l2 (D2.over (D2.over s2 b0 Z.zf2) c1 Z.sep1_2) fun y p2 tk2 hy sn2 c2 => wpAny_pure ?_)
  replace c2 : Heap.SameBut i2 p1 p2 := c2
  refine wpAny_pure (wpAny_pure ?_)
  show wpAny (model pg wd) _ (newTuple [x, y] >>= _) _ _ ⟨p2, gs, dr, tk2, os⟩
  refine wpAny_bind (wpAny_newTuple ?_)
  have sz : p2.objs.size = hp.objs.size := by rw [c2.1, c1.1, b0.1]
  have z3 : IsZipHeld p2 za TI TO T true := c2.extBut _ _ Z.zi2 (c1.extBut _ _ Z.zi1 z0)
  have kp : ∀ c o, c ≠ za → c ≠ i1 → c ≠ i2 → hp.get? c = some o → p2.get? c = some o := fun c o w1 w2 w3 e => c2.extBut _ _ w3 (c1.extBut _ _ w2 (b0.extBut _ _ w1 e))
  have t1 : S1 (i + 1) p2 := D1.over sn1 c2 Z.sep2_1
  refine wpAny_pure ⟨_, rfl, ?_⟩
  show Q (.ref p2.objs.size) ⟨_, gs, dr, tk2, os⟩
  have pr : IsTupOf2 (p2.push { cls := .type "tuple", data := .seq #[x, y] }) p2.objs.size x y := Heap.get?_push_size _ rfl
  have sp : (p2.push { cls := .type "tuple", data := .seq #[x, y] }).objs.size = p2.objs.size + 1 := Heap.size_push ..
  rw [sz] at pr sp ⊢
  exact q x y _ tk2 hx hy (Heap.get?_push_of_some _ z3) (D1.frame _ _ _ t1 fun b _ o e => Heap.get?_push_of_some _ e) (D2.frame _ _ _ sn2 fun b _ o e => Heap.get?_push_of_some _ e) pr sp fun c o w1 w2 w3 e => Heap.get?_push_of_some _ (kp c o w1 w2 w3 e)
theorem held_end {Q : Fin → Shared → Prop} (Z : ZipSep2 za TI TO i1 i2 f1 f2) (D1 : Draws pg wd Ar i1 f1 n1 P1 S1) (D2 : Draws pg wd Ar i2 f2 n2 P2 S2) (zz : IsZipHeld sh.heap za TI TO T fl) (ot : sh.heap.get? T = some oT) (ti : IsTupOf2 sh.heap TI (.ref i1) (.ref i2)) (s1 : S1 i sh.heap) (s2 : S2 i sh.heap) (m1 : i ≤ n1) (m2 : i ≤ n2) (en : i = n1 ∨ i = n2)
    (q : ∀ h tk e, (∀ c o, c ≠ za → c ≠ i1 → c ≠ i2 → sh.heap.get? c = some o → h.get? c = some o) → (∃ o, h.get? e = some o ∧ o.cls = .type "StopIteration") → Er (.ref e) { sh with heap := h, toks := tk }) :
    wpAny (model pg wd) Ar (Builtin.«zip.__next__» ⟨[.ref za], []⟩) Q Er sh := by
  obtain ⟨hp, gs, dr, tk0, os⟩ := sh
  replace zz : IsZipHeld hp za TI TO T fl := zz
  show wpAny (model pg wd) _ (PySem.field (.ref za) 2 >>= _) _ _ _
  refine wpAny_bind (wpAny_field zz rfl (x := Value.bool false) rfl ?_)
  show wpAny (model pg wd) _ (PySem.field (.ref za) 3 >>= _) _ _ _
  refine wpAny_bind (wpAny_field zz rfl (x := Value.ref TI) rfl ?_)
  refine wpAny_bind (wpAny_seqItems ti rfl ?_)
  show wpAny (model pg wd) _ (Builtin.SmallTypes.ownedTupleIsFree (.ref za) >>= _) _ _ _
  refine wpAny_bind (wpAny_tupleHeld_zip zz ot fun g0 z0 b0 => ?_)
  replace b0 : Heap.SameBut za hp g0 := b0
  simp only [if_false, Bool.false_eq_true]
  refine wpAny_bind ?_
  rw [← Array.forIn_toList]
  simp only [List.forIn_nil, List.forIn_cons]
  refine wpAny_bind (wpAny_bind ?_)
  refine wpAny_holding ?_
  show wpAny (model pg wd) _ (Builtin.SmallTypes.nextOf (.ref i1) >>= _) _ _ ⟨g0, gs, dr, tk0, os⟩
  by_cases l1 : i < n1
  · have e2 : i = n2 := by omega
    refine wpAny_bind (D1.item i _ _ _ l1 (D1.over s1 b0 Z.zf1) fun x p1 tk1 hx sn1 c1 => wpAny_pure (wpAny_pure ?_))
    replace c1 : Heap.SameBut i1 g0 p1 := c1
    refine wpAny_bind (wpAny_bind ?_)
    refine wpAny_holding ?_
    show wpAny (model pg wd) _ (Builtin.SmallTypes.nextOf (.ref i2) >>= _) _ _ ⟨p1, gs, dr, tk1, os⟩
    refine wpAny_bind (D2.done ⟨p1, gs, dr, tk1, os⟩ _ _ (by rw [← e2]; exact D2.over (D2.over s2 b0 Z.zf2) c1 Z.sep1_2) fun h e c2 he => ?_)
    exact q h tk1 e (fun c o w1 w2 w3 x => c2 _ _ w3 (c1.extBut _ _ w2 (b0.extBut _ _ w1 x))) he
  · have e1 : i = n1 := by omega
    refine wpAny_bind (D1.done ⟨g0, gs, dr, tk0, os⟩ _ _ (by rw [← e1]; exact D1.over s1 b0 Z.zf1) fun h e c1 he => ?_)
    exact q h tk0 e (fun c o w1 w2 w3 x => c1 _ _ w2 (b0.extBut _ _ w1 x)) he
theorem held_nextItem {Q : Option Value → Shared → Prop} (Z : ZipSep2 za TI TO i1 i2 f1 f2) (D1 : Draws pg wd Ar.in1 i1 f1 n1 P1 S1) (D2 : Draws pg wd Ar.in1 i2 f2 n2 P2 S2) (zz : IsZipHeld sh.heap za TI TO T fl) (ot : sh.heap.get? T = some oT) (ti : IsTupOf2 sh.heap TI (.ref i1) (.ref i2)) (s1 : S1 i sh.heap) (s2 : S2 i sh.heap) (l1 : i < n1) (l2 : i < n2)
    (q : ∀ x y h tk, P1 i x → P2 i y → IsZipHeld h za TI TO T true → S1 (i + 1) h → S2 (i + 1) h → IsTupOf2 h sh.heap.objs.size x y → h.objs.size = sh.heap.objs.size + 1 → (∀ c o, c ≠ za → c ≠ i1 → c ≠ i2 → sh.heap.get? c = some o → h.get? c = some o) → Q (some (.ref sh.heap.objs.size)) { sh with heap := h, toks := tk }) :
    wpAny (model pg wd) Ar (pyNext (.ref za)) Q Er sh := by
  have ty : sh.TypeIs (.ref za) "zip" := ⟨_, zz, rfl⟩
  unfold pyNext
  exact wpAny_bind (wpAny_attempt (wpAny_callSpecial?_slot (name := Str.ofString "__next__") ty F.slot_zip_next (wpAny_call_entry F.slot_zip_next ty F.entry_zip_next (held_item Z D1 D2 zz ot ti s1 s2 l1 l2 fun x y h tk a1 a2 a3 a4 a5 a6 a7 a8 => wpAny_pure (q x y h tk a1 a2 a3 a4 a5 a6 a7 a8)) (F.args_zip_next_1 _))))
theorem held_nextEnd {Q : Option Value → Shared → Prop} (Z : ZipSep2 za TI TO i1 i2 f1 f2) (D1 : Draws pg wd Ar.in1 i1 f1 n1 P1 S1) (D2 : Draws pg wd Ar.in1 i2 f2 n2 P2 S2) (zz : IsZipHeld sh.heap za TI TO T fl) (ot : sh.heap.get? T = some oT) (ti : IsTupOf2 sh.heap TI (.ref i1) (.ref i2)) (s1 : S1 i sh.heap) (s2 : S2 i sh.heap) (m1 : i ≤ n1) (m2 : i ≤ n2) (en : i = n1 ∨ i = n2)
    (q : ∀ h tk, (∀ c o, c ≠ za → c ≠ i1 → c ≠ i2 → sh.heap.get? c = some o → h.get? c = some o) → Q none { sh with heap := h, toks := tk }) :
    wpAny (model pg wd) Ar (pyNext (.ref za)) Q Er sh := by
  have ty : sh.TypeIs (.ref za) "zip" := ⟨_, zz, rfl⟩
  unfold pyNext
  refine wpAny_bind (wpAny_attempt (wpAny_callSpecial?_slot (name := Str.ofString "__next__") ty F.slot_zip_next (wpAny_call_entry F.slot_zip_next ty F.entry_zip_next (held_end Z D1 D2 zz ot ti s1 s2 m1 m2 en fun h tk e kp ⟨o, he, hc⟩ => ?_) (F.args_zip_next_1 _))))
  exact wpAny_bind (wpAny_isInstance (T := "StopIteration") (b := true) ⟨o, he, hc⟩ isSubtype_stop (wpAny_pure (q _ _ kp)))
end
end Mir

set_option Elab.async false
set_option linter.all false
set_option maxRecDepth 100000
set_option maxHeartbeats 2000000
namespace Mir
open PySem PySem.Spec PyProof.Rows L2
section
variable {pg : Program} {wd : World} {Ar : Around} {Er : Value → Shared → Prop} {sh : Shared} {za TI TO i1 i2 : Addr} {f1 f2 : List Addr} {n1 n2 i : Nat} {P1 P2 : Nat → Value → Prop} {S1 S2 : Nat → Heap → Prop}
/-- where a zip stands at turn i: free, or its last pair is kept -/
def ZAt (za TI TO i1 i2 : Addr) (S1 S2 : Nat → Heap → Prop) (i : Nat) (L : Addr) (h : Heap) : Prop :=
  IsTupOf2 h TI (.ref i1) (.ref i2) ∧ S1 i h ∧ S2 i h ∧ ((IsZip h za TI TO .none ∧ ∃ a b, IsTupOf2 h TO a b) ∨ ∃ T fl oT, IsZipHeld h za TI TO T fl ∧ h.get? T = some oT ∧ T ≠ L)
structure ZOff (L za TI TO : Addr) (f1 f2 : List Addr) : Prop where
  z : L ≠ za
  ti : L ≠ TI
  to : L ≠ TO
  a : L ∉ f1
  b : L ∉ f2
theorem ZAt.up {L : Addr} {h h' : Heap} (x : ZAt za TI TO i1 i2 S1 S2 i L h) (D1 : Draws pg wd Ar i1 f1 n1 P1 S1) (D2 : Draws pg wd Ar i2 f2 n2 P2 S2) (o : ZOff L za TI TO f1 f2) (k : ∀ b q, b ≠ L → h.get? b = some q → h'.get? b = some q) : ZAt za TI TO i1 i2 S1 S2 i L h' := by
  obtain ⟨t, x1, x2, x3⟩ := x
  refine ⟨k _ _ o.ti.symm t, D1.frame _ _ _ x1 fun b hb q e => k b q (fun z => o.a (z ▸ hb)) e, D2.frame _ _ _ x2 fun b hb q e => k b q (fun z => o.b (z ▸ hb)) e, ?_⟩
  rcases x3 with ⟨w, a, b, e⟩ | ⟨T, fl, oT, w, e, ne⟩
  · exact .inl ⟨k _ _ o.z.symm w, a, b, k _ _ o.to.symm e⟩
  · exact .inr ⟨T, fl, oT, k _ _ o.z.symm w, k _ _ ne e, ne⟩
theorem z_next {L : Addr} {Q : Option Value → Shared → Prop} (Z : ZipSep2 za TI TO i1 i2 f1 f2) (D1 : Draws pg wd Ar.in1 i1 f1 n1 P1 S1) (D2 : Draws pg wd Ar.in1 i2 f2 n2 P2 S2) (x : ZAt za TI TO i1 i2 S1 S2 i L sh.heap) (ll : L < sh.heap.objs.size) (l1 : i < n1) (l2 : i < n2)
    (q : ∀ x y h tk, P1 i x → P2 i y → ZAt za TI TO i1 i2 S1 S2 (i + 1) L h → IsTupOf2 h sh.heap.objs.size x y → h.objs.size = sh.heap.objs.size + 1 → (∀ c o, c ≠ za → c ≠ TO → c ≠ i1 → c ≠ i2 → sh.heap.get? c = some o → h.get? c = some o) → Q (some (.ref sh.heap.objs.size)) { sh with heap := h, toks := tk }) :
    wpAny (model pg wd) Ar (pyNext (.ref za)) Q Er sh := by
  obtain ⟨t, x1, x2, x3⟩ := x
  rcases x3 with ⟨w, a, b, e⟩ | ⟨T, fl, oT, w, e, ne⟩
  · exact wpAny_pyNext_zipD2_item Z D1 D2 w t e x1 x2 l1 l2 fun x y h tk p1 p2 w' e' y1 y2 np sz kp => q x y h tk p1 p2 ⟨kp _ _ Z.TIz Z.TITO Z.TIi1 Z.TIi2 t, y1, y2, .inr ⟨_, false, _, w', np, Nat.ne_of_gt ll⟩⟩ np sz kp
  · by_cases hT : T = za
    · subst hT
      exact held_nextItem Z D1 D2 w e t x1 x2 l1 l2 fun x y h tk p1 p2 w' y1 y2 np sz kp => q x y h tk p1 p2 ⟨kp _ _ Z.TIz Z.TIi1 Z.TIi2 t, y1, y2, .inr ⟨_, true, _, w', w', ne⟩⟩ np sz fun c o c1 c2 c3 c4 => kp c o c1 c3 c4
    · by_cases h1 : T = i1
      · subst h1
        exact held_nextItem Z D1 D2 w e t x1 x2 l1 l2 fun x y h tk p1 p2 w' y1 y2 np sz kp => q x y h tk p1 p2 ⟨kp _ _ Z.TIz Z.TIi1 Z.TIi2 t, y1, y2, .inr ⟨_, true, _, w', (D1.live _ _ y1).choose_spec, ne⟩⟩ np sz fun c o c1 c2 c3 c4 => kp c o c1 c3 c4
      · by_cases h2 : T = i2
        · subst h2
          exact held_nextItem Z D1 D2 w e t x1 x2 l1 l2 fun x y h tk p1 p2 w' y1 y2 np sz kp => q x y h tk p1 p2 ⟨kp _ _ Z.TIz Z.TIi1 Z.TIi2 t, y1, y2, .inr ⟨_, true, _, w', (D2.live _ _ y2).choose_spec, ne⟩⟩ np sz fun c o c1 c2 c3 c4 => kp c o c1 c3 c4
        · exact held_nextItem Z D1 D2 w e t x1 x2 l1 l2 fun x y h tk p1 p2 w' y1 y2 np sz kp => q x y h tk p1 p2 ⟨kp _ _ Z.TIz Z.TIi1 Z.TIi2 t, y1, y2, .inr ⟨_, true, _, w', kp _ _ hT h1 h2 e, ne⟩⟩ np sz fun c o c1 c2 c3 c4 => kp c o c1 c3 c4
theorem z_end {L : Addr} {Q : Option Value → Shared → Prop} (Z : ZipSep2 za TI TO i1 i2 f1 f2) (D1 : Draws pg wd Ar.in1 i1 f1 n1 P1 S1) (D2 : Draws pg wd Ar.in1 i2 f2 n2 P2 S2) (x : ZAt za TI TO i1 i2 S1 S2 i L sh.heap) (m1 : i ≤ n1) (m2 : i ≤ n2) (en : i = n1 ∨ i = n2)
    (q : ∀ h tk, (∀ c o, c ≠ za → c ≠ TO → c ≠ i1 → c ≠ i2 → sh.heap.get? c = some o → h.get? c = some o) → Q none { sh with heap := h, toks := tk }) : wpAny (model pg wd) Ar (pyNext (.ref za)) Q Er sh := by
  obtain ⟨t, x1, x2, x3⟩ := x
  rcases x3 with ⟨w, a, b, e⟩ | ⟨T, fl, oT, w, e, ne⟩
  · exact wpAny_pyNext_zipD2_end Z D1 D2 w t e x1 x2 m1 m2 en q
  · exact held_nextEnd Z D1 D2 w e t x1 x2 m1 m2 en fun h tk kp => q h tk fun c o c1 c2 c3 c4 => kp c o c1 c3 c4
/-- the pairs made so far, at rising addresses above L -/
structure Grown (P1 P2 : Nat → Value → Prop) (L : Addr) (h : Heap) (as : List Addr) : Prop where
  rise : as.Pairwise (· < ·)
  above : ∀ a ∈ as, L < a
  prs : ∀ j a, as[j]? = some a → ∃ x y, P1 j x ∧ P2 j y ∧ IsTupOf2 h a x y
theorem Grown.size {L : Addr} {h : Heap} {as : List Addr} (g : Grown P1 P2 L h as) {a : Addr} (m : a ∈ as) : a < h.objs.size := by
  obtain ⟨j, hj⟩ := List.mem_iff_getElem?.mp m
  obtain ⟨_, _, _, _, e⟩ := g.prs j a hj
  exact Heap.lt_size e
theorem z_loop {R : Result → Shared → Prop} {L : Addr} (Z : ZipSep2 za TI TO i1 i2 f1 f2) (D1 : Draws pg wd Ar.in1.in1 i1 f1 n1 P1 S1) (D2 : Draws pg wd Ar.in1.in1 i2 f2 n2 P2 S2) (of : ZOff L za TI TO f1 f2) (hn : min n1 n2 ≤ sizeLine) (res : Value) (hlo : za < L ∧ TO < L ∧ i1 < L ∧ i2 < L) {h0 : Heap}
    (hR : ∀ h tk acc c as, (∀ b o, b ≠ L → b ≠ za → b ≠ TO → b ≠ i1 → b ≠ i2 → h0.get? b = some o → h.get? b = some o) → h.get? L = some { cls := .type "list", dict := none, data := .seq acc c, slots := #[] } → as.length = min n1 n2 → Grown P1 P2 L h as → acc.toList = as.map Value.ref → R (.ok (.ret res)) { sh with heap := h, toks := tk }) :
    ∀ (k i : Nat) (h : Heap) (tk c : Nat) (acc : Array Value) (as : List Addr), min n1 n2 - i = k → i ≤ min n1 n2 → ZAt za TI TO i1 i2 S1 S2 i L h → (∀ b o, b ≠ L → b ≠ za → b ≠ TO → b ≠ i1 → b ≠ i2 → h0.get? b = some o → h.get? b = some o) →
      h.get? L = some { cls := .type "list", dict := none, data := .seq acc c, slots := #[] } → acc.toList = as.map Value.ref → as.length = i → Grown P1 P2 L h as →
      codeAny (model pg wd) Ar (.builtin "list.extend.loop" ⟨[.ref L, .ref za, res], []⟩) R { sh with heap := h, toks := tk } := by
  intro k
  induction k with
  | zero =>
    intro i h tk c acc as hk hi st kp hS ha hl hG
    apply codeAny_builtin PySem.F.entry_extend_loop
    rw [Around.under_plainId (PySem.F.plain_extend_loop) _]
    show wpAny (model pg wd) Ar.in1 (pyNext (.ref za) >>= _) _ _ _
    refine wpAny_bind (z_end (sh := { sh with heap := h, toks := tk }) Z D1 D2 st (by omega) (by omega) (by omega) fun h' tk' he => ?_)
    refine wpAny_pure (hR h' tk' acc c as (fun b o w1 w2 w3 w4 w5 e => he b o w2 w3 w4 w5 (kp b o w1 w2 w3 w4 w5 e)) (he L _ of.z of.to (Nat.ne_of_gt hlo.2.2.1) (Nat.ne_of_gt hlo.2.2.2) hS) (by omega) ⟨hG.rise, hG.above, fun j a hj => ?_⟩ ha)
    obtain ⟨x, y, p1, p2, e⟩ := hG.prs j a hj
    have up := hG.above a (List.mem_of_getElem? hj)
    exact ⟨x, y, p1, p2, he a _ (Nat.ne_of_gt (Nat.lt_trans hlo.1 up)) (Nat.ne_of_gt (Nat.lt_trans hlo.2.1 up)) (Nat.ne_of_gt (Nat.lt_trans hlo.2.2.1 up)) (Nat.ne_of_gt (Nat.lt_trans hlo.2.2.2 up)) e⟩
  | succ k ih =>
    intro i h tk c acc as hk hi st kp hS ha hl hG
    have sz : acc.size = i := by rw [← Array.length_toList, ha, List.length_map, hl]
    have Ll : L < h.objs.size := Heap.lt_size hS
    apply codeAny_builtin PySem.F.entry_extend_loop
    rw [Around.under_plainId (PySem.F.plain_extend_loop) _]
    show wpAny (model pg wd) Ar.in1 (pyNext (.ref za) >>= _) _ _ _
    refine wpAny_bind (z_next (sh := { sh with heap := h, toks := tk }) (L := L) Z D1 D2 st Ll (by omega) (by omega) fun x y h' tk' p1 p2 st' np sp he => ?_)
    dsimp only at np sp he ⊢
    have hS' := he L _ of.z of.to (Nat.ne_of_gt hlo.2.2.1) (Nat.ne_of_gt hlo.2.2.2) hS
    have up : ∀ b o, b ≠ L → h'.get? b = some o → (h'.update L (Obj.mapSeq (·.push (Value.ref h.objs.size)))).get? b = some o := fun b o w e => (Heap.get?_update_other _ _ (Ne.symm w)).trans e
    show wpAny (model pg wd) Ar.in1 (updateSeq L (·.push (Value.ref h.objs.size)) >>= _) _ _ _
    refine wpAny_bind ?_
    refine wpAny_updateSeq hS' rfl (wpAny_pure ⟨plainId_quiet PySem.F.plain_extend_loop _, ih (i + 1) _ tk' _ (acc.push (Value.ref h.objs.size)) (as ++ [h.objs.size]) (by omega) (by omega) (st'.up D1 D2 of up) (fun b o w1 w2 w3 w4 w5 e => up b o w1 (he b o w2 w3 w4 w5 (kp b o w1 w2 w3 w4 w5 e))) (Heap.get?_update_self _ hS' rfl) (by rw [Array.toList_push, ha, List.map_append]; rfl) (by rw [List.length_append, hl]; rfl) ⟨?_, ?_, ?_⟩⟩) (by rw [sz]; omega) (by show (acc.push (Value.ref h.objs.size)).size ≤ sizeLine + 1; rw [Array.size_push, sz]; omega)
    · refine List.pairwise_append.mpr ⟨hG.rise, List.pairwise_singleton _ _, fun a m b hb => ?_⟩
      rw [List.mem_singleton.mp hb]
      exact hG.size m
    · intro a m
      rcases List.mem_append.mp m with m | m
      · exact hG.above a m
      · rw [List.mem_singleton.mp m]
        exact Ll
    · intro j b hj
      rcases Nat.lt_trichotomy j as.length with w | w | w
      · rw [List.getElem?_append_left w] at hj
        obtain ⟨x', y', q1, q2, e⟩ := hG.prs j b hj
        have ab := hG.above b (List.mem_of_getElem? hj)
        exact ⟨x', y', q1, q2, up b _ (Nat.ne_of_gt ab) (he b _ (Nat.ne_of_gt (Nat.lt_trans hlo.1 ab)) (Nat.ne_of_gt (Nat.lt_trans hlo.2.1 ab)) (Nat.ne_of_gt (Nat.lt_trans hlo.2.2.1 ab)) (Nat.ne_of_gt (Nat.lt_trans hlo.2.2.2 ab)) e)⟩
      · subst w
        have eb : h.objs.size = b := by simpa using hj
        subst eb
        exact ⟨x, y, by rw [hl]; exact p1, by rw [hl]; exact p2, up _ _ (Nat.ne_of_gt Ll) np⟩
      · have no : (as ++ [h.objs.size])[j]? = none := List.getElem?_eq_none (by rw [List.length_append, List.length_singleton]; omega)
        rw [no] at hj
        cases hj
end
end Mir

set_option Elab.async false
set_option linter.all false
set_option maxRecDepth 100000
set_option maxHeartbeats 2000000
namespace Mir
open PySem PySem.Spec PyProof.Rows L2
theorem zip_len0 : typeLookup (.type "zip") "__len__" = pure none := by
  rw [typeLookup_type, builtinLookup_eq_fast]
  kernel_rfl
theorem zip_hint0 : typeLookup (.type "zip") "__length_hint__" = pure none := by
  rw [typeLookup_type, builtinLookup_eq_fast]
  kernel_rfl
section
variable {pg : Program} {wd : World} {Ar : Around} {Er : Value → Shared → Prop} {sh : Shared} {za TI TO i1 i2 : Addr} {f1 f2 : List Addr} {n1 n2 i : Nat} {P1 P2 : Nat → Value → Prop} {S1 S2 : Nat → Heap → Prop} {R : Result → Shared → Prop} {L : Addr}
theorem ZAt.low {L : Addr} {h : Heap} (x : ZAt za TI TO i1 i2 S1 S2 i L h) (D1 : Draws pg wd Ar i1 f1 n1 P1 S1) (D2 : Draws pg wd Ar i2 f2 n2 P2 S2) : True := trivial
def Done (P1 P2 : Nat → Value → Prop) (n : Nat) (za TO i1 i2 L : Addr) (h0 h : Heap) (acc : Array Value) (c : Nat) (as : List Addr) : Prop :=
  (∀ b o, b ≠ L → b ≠ za → b ≠ TO → b ≠ i1 → b ≠ i2 → h0.get? b = some o → h.get? b = some o) ∧ h.get? L = some { cls := .type "list", dict := none, data := .seq acc c, slots := #[] } ∧ as.length = n ∧ Grown P1 P2 L h as ∧ acc.toList = as.map Value.ref
theorem z_extend (Z : ZipSep2 za TI TO i1 i2 f1 f2) (D1 : Draws pg wd Ar.in1.in1 i1 f1 n1 P1 S1) (D2 : Draws pg wd Ar.in1.in1 i2 f2 n2 P2 S2) (of : ZOff L za TI TO f1 f2) (hn : min n1 n2 ≤ sizeLine) (res : Value) (hlo : za < L ∧ TO < L ∧ i1 < L ∧ i2 < L) (st : ZAt za TI TO i1 i2 S1 S2 0 L sh.heap) (zz : IsZip sh.heap za TI TO .none) (c0 : Nat) (hS : sh.heap.get? L = some { cls := .type "list", data := .seq #[] c0 })
    (hR : ∀ h tk acc c as, Done P1 P2 (min n1 n2) za TO i1 i2 L sh.heap h acc c as → R (.ok (.ret res)) { sh with heap := h, toks := tk }) :
    wpAny (model pg wd) Ar.in1 (Builtin.List.listExtendWith (.ref L) (.ref za) res) (fun fin t => match fin with | .done f => R (.ok f) t | .again c => c.quiet = true ∧ codeAny (model pg wd) Ar c R t) (fun e t => R (.error e) t) sh := by
  have ty : sh.TypeIs (.ref za) "zip" := ⟨_, zz, rfl⟩
  unfold Builtin.List.listExtendWith
  refine wpAny_bind (wpAny_typeOf ty ?_)
  have b1 : Builtin.List.listSameRef (.ref L) (.ref za) = false := by simp [Builtin.List.listSameRef, of.z]
  have b2 : (Value.type "zip" == Value.type "list") = false := by decide
  have b3 : (Value.type "zip" == Value.type "tuple") = false := by decide
  simp only [b1, b2, b3, if_false, Bool.false_eq_true, Bool.or_false]
  refine wpAny_bind (wpAny_pyIter_zip zz ?_)
  refine wpAny_bind (wpAny_holding ?_)
  unfold Builtin.List.listLengthHint
  refine wpAny_bind (wpAny_specialOf ty zip_len0 ?_)
  show wpAny (model pg wd) Ar.in1 (specialOf (Value.ref za) (Str.ofString "__length_hint__") >>= _) _ _ _
  refine wpAny_bind (wpAny_specialOf ty zip_hint0 ?_)
  refine wpAny_pure ?_
  show wpAny (model pg wd) Ar.in1 (rule "list.extend.makes-room" >>= fun _ => Builtin.List.listTouch (.ref L) >>= fun _ => again (.builtin "list.extend.loop" ⟨[.ref L, .ref za, res], []⟩)) _ _ _
  refine wpAny_bind (wpAny_rule ?_)
  refine wpAny_bind ?_
  show wpAny (model pg wd) Ar.in1 (updateSeq L (·.push .none) >>= fun _ => updateSeq L (·.pop)) _ _ _
  refine wpAny_bind (wpAny_updateSeq hS rfl ?_)
  have hS2 := Heap.get?_update_self (Obj.mapSeq (·.push Value.none)) hS rfl
  refine wpAny_updateSeq (hz := by seq_fits) hS2 rfl ?_
  have hS3 := Heap.get?_update_self (Obj.mapSeq (·.pop)) hS2 rfl
  have ot : ∀ b o, b ≠ L → sh.heap.get? b = some o → ((sh.heap.update L (Obj.mapSeq (·.push Value.none))).update L (Obj.mapSeq (·.pop))).get? b = some o := fun b o w e => (Heap.get?_update_other _ _ (Ne.symm w)).trans ((Heap.get?_update_other _ _ (Ne.symm w)).trans e)
  refine wpAny_pure ⟨plainId_quiet PySem.F.plain_extend_loop _, ?_⟩
  exact z_loop (sh := { sh with heap := _ }) (h0 := sh.heap) Z D1 D2 of hn res hlo (fun h tk acc c as w1 w2 w3 w4 w5 => hR h tk acc c as ⟨w1, w2, w3, w4, w5⟩) _ 0 _ _ _ #[] [] rfl (Nat.zero_le _) (st.up D1 D2 of ot) (fun b o w _ _ _ _ e => ot b o w e) hS3 rfl rfl ⟨List.Pairwise.nil, (fun _ m => nomatch m), fun j a m => by simp at m⟩
theorem z_init (Z : ZipSep2 za TI TO i1 i2 f1 f2) (D1 : Draws pg wd Ar.in1.in1 i1 f1 n1 P1 S1) (D2 : Draws pg wd Ar.in1.in1 i2 f2 n2 P2 S2) (of : ZOff L za TI TO f1 f2) (hn : min n1 n2 ≤ sizeLine) (hlo : za < L ∧ TO < L ∧ i1 < L ∧ i2 < L) (st : ZAt za TI TO i1 i2 S1 S2 0 L sh.heap) (zz : IsZip sh.heap za TI TO .none) (hS : sh.heap.get? L = some { cls := .type "list", data := .seq #[] })
    (hR : ∀ h tk acc c as, Done P1 P2 (min n1 n2) za TO i1 i2 L sh.heap h acc c as → R (.ok (.ret .none)) { sh with heap := h, toks := tk }) :
    wpAny (model pg wd) Ar.in1 (Builtin.«list.__init__» ⟨[.ref L, .ref za], []⟩) (fun fin t => match fin with | .done f => R (.ok f) t | .again c => c.quiet = true ∧ codeAny (model pg wd) Ar c R t) (fun e t => R (.error e) t) sh := by
  show wpAny (model pg wd) Ar.in1 (do let was ← Builtin.List.listItems (.ref L); Builtin.List.listUpdate (.ref L) (fun _ => #[]); letGo was.toList.reverse; Builtin.List.listExtendWith (.ref L) (.ref za) .none) _ _ sh
  refine wpAny_bind ?_
  unfold Builtin.List.listItems
  refine wpAny_bind (wpAny_seqItems hS rfl (wpAny_pure ?_))
  show wpAny (model pg wd) Ar.in1 (updateSeq L (fun _ => #[]) >>= fun _ => letGo (#[] : Array Value).toList.reverse >>= fun _ => Builtin.List.listExtendWith (.ref L) (.ref za) .none) _ _ sh
  refine wpAny_bind (wpAny_updateSeq hS rfl ?_)
  have hS2 := Heap.get?_update_self (Obj.mapSeq (fun _ => (#[] : Array Value))) hS rfl
  have ot : ∀ b o, b ≠ L → sh.heap.get? b = some o → (sh.heap.update L (Obj.mapSeq (fun _ => (#[] : Array Value)))).get? b = some o := fun b o w e => (Heap.get?_update_other _ _ (Ne.symm w)).trans e
  refine wpAny_bind (wpAny_letGo ?_)
  exact z_extend (sh := { sh with heap := _ }) Z D1 D2 of hn .none hlo (st.up D1 D2 of ot) (ot _ _ of.z.symm zz) _ hS2 fun h tk acc c as ⟨w1, w2⟩ => hR h tk acc c as ⟨fun b o u1 u2 u3 u4 u5 e => w1 b o u1 u2 u3 u4 u5 (ot b o u1 e), w2⟩
theorem z_call {Q : Value → Shared → Prop} (Z : ZipSep2 za TI TO i1 i2 f1 f2) (D1 : ∀ A : Around, A.handled = none → Draws pg wd A i1 f1 n1 P1 S1) (D2 : ∀ A : Around, A.handled = none → Draws pg wd A i2 f2 n2 P2 S2) (hh : Ar.handled = none) (hn : min n1 n2 ≤ sizeLine) (st : ZAt za TI TO i1 i2 S1 S2 0 sh.heap.objs.size sh.heap) (zz : IsZip sh.heap za TI TO .none) (eo : ∃ a b, IsTupOf2 sh.heap TO a b) (lo1 : ∀ b ∈ f1, b < sh.heap.objs.size) (lo2 : ∀ b ∈ f2, b < sh.heap.objs.size)
    (q : ∀ h tk acc c as, Done P1 P2 (min n1 n2) za TO i1 i2 sh.heap.objs.size sh.heap h acc c as → Q (.ref sh.heap.objs.size) { sh with heap := h, toks := tk }) :
    wpAny (model pg wd) Ar (call (.type "list") [.ref za]) Q Er sh := by
  have ns : ∀ b, b < sh.heap.objs.size → sh.heap.objs.size ≠ b := fun b w => Nat.ne_of_gt w
  have tz : za < sh.heap.objs.size := Heap.lt_size zz
  have tti : TI < sh.heap.objs.size := Heap.lt_size st.1
  have tto : TO < sh.heap.objs.size := by
    obtain ⟨_, _, e⟩ := eo
    exact Heap.lt_size e
  refine callType_codes (Q₁ := fun ob t => ob = .ref sh.heap.objs.size ∧ t = { sh with heap := sh.heap.push { cls := .type "list", data := .seq #[] } }) PySem.F.called_list (PySem.F.typeCall_list_1 _) PySem.F.entry_list_init (code_list_new _ ⟨rfl, rfl⟩) fun ob t hb => ?_
  obtain ⟨rfl, rfl⟩ := hb
  have of : ZOff sh.heap.objs.size za TI TO f1 f2 := ⟨ns _ tz, ns _ tti, ns _ tto, fun m => Nat.lt_irrefl _ (lo1 _ m), fun m => Nat.lt_irrefl _ (lo2 _ m)⟩
  have hS : (sh.heap.push { cls := .type "list", data := .seq #[] }).get? sh.heap.objs.size = some { cls := .type "list", data := .seq #[] } := Heap.get?_push_size _ rfl
  refine ⟨⟨_, hS, rfl⟩, PySem.F.args_list_init_2 _ _, ?_⟩
  exact z_init (Ar := Ar.in1) (sh := { sh with heap := _ }) Z (D1 _ hh) (D2 _ hh) of hn ⟨tz, tto, lo1 _ Z.mem1, lo2 _ Z.mem2⟩ (st.up (D1 _ hh) (D2 _ hh) of fun b o _ e => Heap.get?_push_of_some _ e) (Heap.get?_push_of_some _ zz) hS fun h tk acc c as ⟨w1, w2⟩ => ⟨rfl, q h tk acc c as ⟨fun b o u1 u2 u3 u4 u5 e => w1 b o u1 u2 u3 u4 u5 (Heap.get?_push_of_some _ e), w2⟩⟩
end
end Mir

set_option Elab.async false
set_option linter.all false
set_option maxRecDepth 100000
set_option maxHeartbeats 2000000
namespace Mir
open PySem PySem.Spec PyProof.Rows L2
/-- pairs laid at new addresses, one after another -/
def layT : Hp → List Addr → List (V × V) → Hp
  | H, a :: as, p :: ps => layT (upd H a (.tup [p.1, p.2])) as ps
  | H, _, _ => H
theorem layT_off {b : Addr} : ∀ (as : List Addr) (ps : List (V × V)) (H : Hp), b ∉ as → layT H as ps b = H b
  | [], _, _, _ => rfl
  | _ :: _, [], _, _ => rfl
  | a :: as, p :: ps, H, h => by
    show layT (upd H a _) as ps b = H b
    rw [layT_off as ps _ (fun z => h (List.mem_cons_of_mem _ z)), upd_ne (fun z => h (by rw [z]; exact List.mem_cons_self))]
theorem layT_at : ∀ (as : List Addr) (ps : List (V × V)) (H : Hp), as.length = ps.length → as.Nodup → ∀ {b : Addr}, b ∈ as → ∃ (j : Nat) (p : V × V), as[j]? = some b ∧ ps[j]? = some p ∧ layT H as ps b = some (.tup [p.1, p.2])
  | [], _, _, _, _, b, m => by cases m
  | _ :: _, [], _, h, _, _, _ => by cases h
  | a :: as, p :: ps, H, h, nd, b, m => by
    have nd' := List.nodup_cons.mp nd
    by_cases e : b = a
    · subst e
      refine ⟨0, p, rfl, rfl, ?_⟩
      show layT (upd H b _) as ps b = _
      rw [layT_off as ps _ nd'.1, upd_same]
    · rcases List.mem_cons.mp m with m | m
      · exact absurd m e
      · obtain ⟨j, q, h1, h2, h3⟩ := layT_at as ps (upd H a (.tup [p.1, p.2])) (Nat.succ.inj h) nd'.2 m
        exact ⟨j + 1, q, h1, h2, h3⟩
theorem lay_rp {K : PySem.W.Frag} : ∀ (as : List Addr) (xs ys : List V) (ds es : List Da) (H : Hp) (F : Frz), Fo F H → as.length = (xs.zip ys).length → as.Nodup → (∀ a ∈ as, H a = none) → RpA K H F xs ds → RpA K H F ys es → ∃ F', Gr F H F' (layT H as (xs.zip ys)) ∧ RpA K (layT H as (xs.zip ys)) F' (as.map V.ref) (zipD ds es)
  | [], xs, ys, ds, es, H, F, fo, hl, _, _, r1, r2 => by
    refine ⟨F, Gr.refl fo, ?_⟩
    have z : zipD ds es = [] := by
      have l := zipD_len ds es
      rw [← r1.len, ← r2.len, ← List.length_zip, ← hl] at l
      exact List.eq_nil_of_length_eq_zero l
    rw [z]
    exact .nil
  | a :: as, [], ys, ds, es, H, F, fo, hl, _, _, r1, r2 => by simp at hl
  | a :: as, x :: xs, [], ds, es, H, F, fo, hl, _, _, r1, r2 => by simp at hl
  | a :: as, x :: xs, y :: ys, ds, es, H, F, fo, hl, nd, nw, r1, r2 => by
    cases r1 with
    | cons rx tx =>
      cases r2 with
      | cons ry ty =>
        have nd' := List.nodup_cons.mp nd
        have na := nw a List.mem_cons_self
        have g1 : Gr F H (frz1 F a) (upd H a (.tup [x, y])) := Gr.new fo na
        have st := g1.stay fo
        obtain ⟨F', g2, t2⟩ := lay_rp as xs ys _ _ (upd H a (.tup [x, y])) (frz1 F a) g1.fo (by simpa using hl) nd'.2 (fun b m => (upd_ne (fun z : b = a => nd'.1 (z ▸ m))).trans (nw b (List.mem_cons_of_mem _ m))) (tx.st st) (ty.st st)
        exact ⟨F', g1.trans g2, .cons ((rp_newT fo na (.cons rx (.cons ry .nil))).st (g2.stay g1.fo)) t2⟩
section
variable {X : Cx} {pins : List (Addr × Obj)} {σ : L2.St} {H : Hp} {s : Shared}
theorem zip_laid {h : Heap} {tk c : Nat} {L : Addr} {xs ys : List V} {us ws : List Value} {acc : Array Value} {as : List Addr} (I : Inv X pins σ H s) (vx : Vals xs us) (vy : Vals ys ws) (hz : xs.length ≤ sizeLine) (lo : s.heap.objs.size ≤ L) (hk : ∀ b o, s.heap.get? b = some o → h.get? b = some o)
    (hS : h.get? L = some { cls := .type "list", dict := none, data := .seq acc c, slots := #[] }) (hl : as.length = min us.toArray.size ws.toArray.size) (g : Grown (fun i v => us.toArray[i]? = some v) (fun i v => ws.toArray[i]? = some v) L h as) (ha : acc.toList = as.map Value.ref) :
    as.length = (xs.zip ys).length ∧ as.Nodup ∧ (∀ a ∈ as, H a = none) ∧ H L = none ∧ L ∉ as ∧ Inv X pins σ (upd (layT H as (xs.zip ys)) L (.lst (as.map V.ref))) { s with heap := h, toks := tk } := by
  have lx : xs.length = us.length := vx.length
  have ly : ys.length = ws.length := vy.length
  have lz : as.length = (xs.zip ys).length := by rw [hl, List.length_zip, lx, ly]; simp
  have Ln : L ∉ as := fun z => Nat.lt_irrefl _ (g.above _ z)
  have nd : as.Nodup := List.Pairwise.imp (fun {a b} (w : a < b) => Nat.ne_of_lt w) g.rise
  have new : ∀ a ∈ as, H a = none := fun a m => I.hok.fresh (Nat.le_of_lt (Nat.lt_of_le_of_lt lo (g.above a m)))
  have newL : H L = none := I.hok.fresh lo
  refine ⟨lz, nd, new, newL, Ln, ?_⟩
  have off : ∀ b, b ∉ as → b ≠ L → upd (layT H as (xs.zip ys)) L (.lst (as.map V.ref)) b = H b := fun b w1 w2 => by rw [upd_ne w2, layT_off as _ _ w1]
  have kp : ∀ b u, H b = some u → upd (layT H as (xs.zip ys)) L (.lst (as.map V.ref)) b = some u := fun b u e => by
    rw [off b (fun z => by rw [new b z] at e; cases e) (fun z => by rw [z, newL] at e; cases e)]
    exact e
  refine I.call' (ch := []) rfl ⟨fun b o q _ _ _ => hk b o q, fun b o q _ _ _ => ⟨o.slots, hk b o q⟩, fun b o q n _ => ?_, fun b o q _ => ⟨o, hk b o q⟩, fun b _ q => kp b _ q, fun b _ _ q => kp b _ q, fun b _ q => ⟨#[], by rw [kp b _ q]; simp⟩⟩ (fun b u q => ?_) I.bare fun b z => by simp at z
  · have lb := Heap.lt_size q
    rw [off b (fun z => absurd lb (Nat.not_lt.mpr (Nat.le_of_lt (Nat.lt_of_le_of_lt lo (g.above b z))))) (fun z => absurd lb (Nat.not_lt.mpr (z ▸ lo)))]
    exact n
  · by_cases eL : b = L
    · rw [eL] at q ⊢
      rw [upd_same] at q
      cases q
      refine ⟨by rw [List.length_map, lz, List.length_zip]; omega, acc.toList, c, by rw [ha]; exact LiI.vals_refs as, ?_⟩
      rw [Array.toArray_toList]
      exact hS
    · by_cases hb : b ∈ as
      · obtain ⟨j, p, e1, e2, e3⟩ := layT_at as (xs.zip ys) H lz nd hb
        rw [upd_ne eL, e3] at q
        cases q
        obtain ⟨x, y, p1, p2, f3⟩ := g.prs j b e1
        obtain ⟨z1, z2⟩ := List.getElem?_zip_eq_some.mp e2
        obtain ⟨u, hu, ru⟩ := vx.get z1
        obtain ⟨v, hv, rv⟩ := vy.get z2
        have eu : x = u := by
          have e : us[j]? = some x := by simpa using p1
          rw [hu] at e
          exact (Option.some.inj e).symm
        have ev : y = v := by
          have e : ws[j]? = some y := by simpa using p2
          rw [hv] at e
          exact (Option.some.inj e).symm
        subst eu ev
        exact ⟨by show 2 ≤ sizeLine; decide, [x, y], .cons ru (.cons rv .nil), ⟨_, f3, rfl, _, rfl⟩⟩
      · rw [off b hb eL] at q
        exact (I.hok b u q).stay (fun d v _ y => hk d v y) (fun d y => kp d _ y) fun d xs y => kp d _ y
end
end Mir

set_option Elab.async false
set_option linter.all false
set_option maxRecDepth 100000
set_option maxHeartbeats 4000000
namespace Mir
open PySem PySem.Spec PyProof.Rows L2
/-- a list or a tuple -/
def Sq (K : PySem.W.Frag) (H : Hp) (a : Addr) (xs : List V) : Prop := SqL K H a xs ∨ SqT K H a xs
/-- what zip wants to know of a thing that it walks -/
def Src (s : Shared) (pg : Program) (wd : World) (a : Addr) (us : List Value) : Prop :=
  ∃ (o : Obj) (Hc : Heap → Prop), Begins (.ref a) o Hc ∧ Hc s.heap ∧ a < s.heap.objs.size ∧
    ∀ it, a ≠ it → ∃ St : Nat → Heap → Prop, (∀ A : Around, A.handled = none → Draws pg wd A it [it, a] us.toArray.size (fun i v => us.toArray[i]? = some v) St) ∧
      ∀ h : Heap, h.get? it = some o → (∀ b q, s.heap.get? b = some q → h.get? b = some q) → St 0 h
section
variable {X : Cx} {pins : List (Addr × Obj)} {σ : L2.St} {H : Hp} {s : Shared} {a : Addr} {xs : List V}
theorem src_of (I : Inv X pins σ H s) (q : Sq X.K H a xs) : ∃ us : List Value, Vals xs us ∧ xs.length ≤ sizeLine ∧ Src s X.prog X.w a us := by
  rcases q with q | q
  · obtain ⟨us, r, p, z⟩ := I.list q
    refine ⟨us, r, z, _, _, begins_list a us.toArray, p.isList, p.lt, fun it ne => ⟨_, fun A hh => Draws.list hh it a ne us.toArray, fun h e k => ⟨⟨_, e, rfl, rfl⟩, p.isList.at fun o w => k a o w⟩⟩⟩
  · obtain ⟨us, r, p, z⟩ := I.tuple q
    have p' : s.heap.IsTuple a us.toArray := p
    refine ⟨us, r, z, _, _, begins_tuple a us.toArray, p', ?_, fun it ne => ⟨_, fun A hh => Draws.tuple hh it a ne us.toArray, fun h e k => ⟨⟨_, e, rfl, rfl⟩, p'.at fun o w => k a o w⟩⟩⟩
    obtain ⟨o, ho, _⟩ := p'
    exact Heap.lt_size ho
def tListZip (K : PySem.W.Frag) (ta : TA) : TE := fun σ H Q => ta σ H fun vs H1 => ∃ a b xs ys, vs = [.ref a, .ref b] ∧ Sq K H1 a xs ∧ Sq K H1 b ys ∧
  ∀ (L : Addr) (as : List Addr), as.length = (xs.zip ys).length → as.Nodup → (∀ t ∈ as, H1 t = none) → H1 L = none → L ∉ as → Q (.ref L) (upd (layT H1 as (xs.zip ys)) L (.lst (as.map V.ref)))
end
theorem ne_lt {a b : Addr} (h : Nat.lt a b) : a ≠ b := Nat.ne_of_lt h
theorem ne_gt {a b : Addr} (h : Nat.lt b a) : a ≠ b := Nat.ne_of_gt h
theorem zsep {n a b : Nat} (h1 : a < n) (h2 : b < n) : ZipSep2 (n + 4) (n + 2) (n + 3) n (n + 1) [n, a] [n + 1, b] := by
  have two : ∀ {x y z : Addr}, x ≠ y → x ≠ z → x ∉ [y, z] := fun u w m => by
    rcases List.mem_cons.mp m with m | m
    · exact u m
    · exact w (List.mem_singleton.mp m)
  have g : ∀ k j : Nat, k < j → Nat.lt (n + k) (n + j) := fun k j w => Nat.add_lt_add_left w n
  have f : ∀ {c : Nat} (k : Nat), c < n → Nat.lt c (n + k) := fun k w => Nat.lt_of_lt_of_le w (Nat.le_add_right n k)
  exact ⟨ne_lt (g 2 4 (by decide)), ne_lt (g 3 4 (by decide)), ne_lt (g 2 3 (by decide)), ne_gt (g 0 2 (by decide)), List.mem_cons_self, two (ne_gt (g 0 4 (by decide))) (ne_gt (f 4 h1)), two (ne_gt (g 0 3 (by decide))) (ne_gt (f 3 h1)), ne_gt (g 1 2 (by decide)), List.mem_cons_self, two (ne_gt (g 1 4 (by decide))) (ne_gt (f 4 h2)), two (ne_gt (g 1 3 (by decide))) (ne_gt (f 3 h2)), two (ne_lt (g 0 1 (by decide))) (ne_gt h2), two (ne_gt (g 0 1 (by decide))) (ne_gt (f 1 h1))⟩
section
variable {X : Cx} {e e2 : Expr} {ta : TA} {p p2 pos pos2 : Pos}
theorem pe_listZip (hc : X.calm = true) (hl : Gl X "list") (hlm : X.mg "list" = none) (hz : Gl X "zip") (hzm : X.mg "zip" = none) (ha : PA X [e, e2] ta)
    (na : starEach [e, e2] X.env = (false, eval e X.env) :: starEach [e2] X.env := by rfl) (np : (backTo pos2 (starEach [e2] X.env)).any (·.1) = false := by rfl)
    (nb : starEach [.Call (.Name "zip" p2) [e, e2] [] pos2] X.env = (false, eval (.Call (.Name "zip" p2) [e, e2] [] pos2) X.env) :: starEach [] X.env := by rfl) :
    PE X (.Call (.Name "list" p) [.Call (.Name "zip" p2) [e, e2] [] pos2] [] pos) (tListZip X.K ta) := by
  refine ⟨fun pins s σ H Q I h => ?_⟩
  refine Call_ (ld_blt I hl hlm boot_list (PyProof.Rows.callWith_type1 (args_cons ?_ nb) nb))
  refine Call_ (ld_blt I hz hzm PyProof.Rows.boot_zip (PyProof.Rows.callWith_type1 (thn (ha.run pos2 pins s σ H _ I h) fun us s1 ⟨vs, H1, I1, r1, q1⟩ => ?_) na np))
  obtain ⟨a, b, xs, ys, ex, qx, qy, q⟩ := q1
  subst ex
  cases r1 with
  | cons r rr =>
    cases rr with
    | cons r' rr =>
      cases rr
      cases r
      cases r'
      obtain ⟨us, vx, zx, o1, C1, B1, c1, al, w1⟩ := src_of I1 qx
      obtain ⟨ws, vy, zy, o2, C2, B2, c2, bl, w2⟩ := src_of I1 qy
      have lx : xs.length = us.length := vx.length
      refine zip_begins2 B1 B2 c1 c2 fun h' zz ti to e1 e2' sz hk => args_nil ?_
      obtain ⟨St1, D1, s1'⟩ := w1 s1.heap.objs.size (Nat.ne_of_lt al)
      obtain ⟨St2, D2, s2'⟩ := w2 (s1.heap.objs.size + 1) (ne_lt (Nat.lt_succ_of_lt bl))
      have Z := zsep al bl
      have hh := I1.ok.hd hc
      refine z_call (sh := { s1 with heap := h' }) Z D1 D2 hh ?_ ⟨ti, s1' _ e1 hk, s2' _ e2' hk, .inl ⟨zz, _, _, to⟩⟩ zz ⟨_, _, to⟩ ?_ ?_ fun h tk acc c as ⟨d1, d2, d3, d4, d5⟩ => ?_
      · refine Nat.le_trans (Nat.min_le_left _ _) ?_
        rw [List.size_toArray, ← lx]
        exact zx
      · intro b m
        show Nat.lt b h'.objs.size
        rw [sz]
        rcases List.mem_cons.mp m with m | m
        · rw [m]
          exact Nat.lt_add_of_pos_right (by decide)
        · rw [List.mem_singleton.mp m]
          exact Nat.lt_of_lt_of_le al (Nat.le_add_right _ _)
      · intro b' m
        show Nat.lt b' h'.objs.size
        rw [sz]
        rcases List.mem_cons.mp m with m | m
        · rw [m]
          exact Nat.add_lt_add_left (by decide) _
        · rw [List.mem_singleton.mp m]
          exact Nat.lt_of_lt_of_le bl (Nat.le_add_right _ _)
      · have kk : ∀ b o, s1.heap.get? b = some o → h.get? b = some o := fun b o w => by
          have lb := Heap.lt_size w
          have ls : ∀ k : Nat, b ≠ s1.heap.objs.size + k := fun k => ne_lt (Nat.lt_of_lt_of_le lb (Nat.le_add_right _ k))
          exact d1 b o (by show b ≠ h'.objs.size; rw [sz]; exact ls 5) (ls 4) (ls 3) (ls 0) (ls 1) (hk b o w)
        obtain ⟨l1, l2, l3, l4, l5, J⟩ := zip_laid (tk := tk) I1 vx vy zx (L := h'.objs.size) (by rw [sz]; exact Nat.le_add_right _ _) kk d2 d3 d4 d5
        exact ⟨.ref h'.objs.size, _, J, rfl, q _ as l1 l2 l3 l4 l5⟩
end
section
variable {X : Cx} {ow : List Nat} {e e2 : Expr} {fl : Md (List Da)} {p p2 pos pos2 : Pos}
def zpS : List Da → Option (List Da)
  | [x, y] => match asS x, asS y with
    | some ds, some es => some (zipD ds es)
    | _, _ => none
  | _ => none
theorem sq_of {K : PySem.W.Frag} {F : Frz} {H : Hp} {v : V} {d : Da} {ds : List Da} (r : Rp K H F v d) (h : asS d = some ds) : ∃ a vs, v = .ref a ∧ Sq K H a vs ∧ RpA K H F vs ds := by
  cases d with
  | list xs =>
    cases h
    obtain ⟨a, vs, e, s, t⟩ := r.list_inv
    exact ⟨a, vs, e, .inl s.sq, t⟩
  | tuple xs =>
    cases h
    obtain ⟨a, vs, e, s, t⟩ := r.tup_inv
    exact ⟨a, vs, e, .inr s.sq, t⟩
  | _ => cases h
theorem l_listZip (hc : X.calm = true) (hl : Gl X "list") (hlm : X.mg "list" = none) (hz : Gl X "zip") (hzm : X.mg "zip" = none) (ha : GA X ow [e, e2] fl)
    (na : starEach [e, e2] X.env = (false, eval e X.env) :: starEach [e2] X.env := by rfl) (np : (backTo pos2 (starEach [e2] X.env)).any (·.1) = false := by rfl)
    (nb : starEach [.Call (.Name "zip" p2) [e, e2] [] pos2] X.env = (false, eval (.Call (.Name "zip" p2) [e, e2] [] pos2) X.env) :: starEach [] X.env := by rfl) :
    GL X ow (.Call (.Name "list" p) [.Call (.Name "zip" p2) [e, e2] [] pos2] [] pos) (mBind fl fun ds => mOpt (zpS ds)) := pe_w (pe_listZip hc hl hlm hz hzm ha na np nb) fun σ H Q ⟨B, F, ρ, d, ρ', c, hf, q⟩ => by
  obtain ⟨ds, ρ1, h1, hf⟩ := bind_inv hf
  obtain ⟨hg2, rfl⟩ := opt_inv hf
  refine ⟨B, F, ρ, ds, _, c, h1, fun vs H1 F1 c1 l1 r1 => ?_⟩
  unfold zpS at hg2
  split at hg2
  · cases r1 with
    | cons r t =>
      cases t with
      | cons r' t =>
        cases t
        split at hg2
        · rename_i es fs g1 g2
          cases hg2
          obtain ⟨a, xs, ea, sa, ra⟩ := sq_of r g1
          obtain ⟨b, ys, eb, sb, rb⟩ := sq_of r' g2
          refine ⟨a, b, xs, ys, by rw [ea, eb], sa, sb, fun L as n1 n2 n3 n4 n5 => ?_⟩
          obtain ⟨F2, gr, rr⟩ := lay_rp as xs ys _ _ H1 F1 c1.fo n1 n2 n3 ra rb
          have nl : layT H1 as (xs.zip ys) L = none := by rw [layT_off as _ _ n5, n4]
          have g2 := Gr.new0 (o := .lst (as.map V.ref)) gr.fo nl
          have g3 := gr.trans g2
          exact q L _ _ F2 (c1.grow g3) (l1.trans (g3.le c1.fo)) (l1.back n4) upd_same (fun z => gr.fo L z nl) (c1.away n4) (rr.st (g2.stay gr.fo))
        · cases hg2
  · cases hg2
end
end Mir

set_option Elab.async false
set_option linter.all false
set_option maxRecDepth 100000
set_option maxHeartbeats 4000000
namespace Mir
open PySem PySem.Spec PyProof.Rows L2
/-! ### max(xs, key=len), min(xs, key=len, default=d) -/
section
variable {X : Cx} {pins : List (Addr × Obj)} {σ : L2.St} {H : Hp} {s1 : Shared}
def Kept (s1 s : Shared) : Prop := ∃ h tk, s = { s1 with heap := h, toks := tk } ∧ ∀ b o, s1.heap.get? b = some o → h.get? b = some o
theorem Kept.inv {s : Shared} (k : Kept s1 s) (I : Inv X pins σ H s1) : Inv X pins σ H s := by
  obtain ⟨h, tk, e, kp⟩ := k
  subst e
  exact I.kept kp
theorem Kept.moved {s s' : Shared} {wr : List Addr} (k : Kept s1 s) (nw : ∀ b ∈ wr, s1.heap.objs.size ≤ b) (m : Moved wr (fun a b => b = a) s s') : Kept s1 s' := by
  obtain ⟨h, tk, e, kp⟩ := k
  refine ⟨s'.heap, s'.toks, ?_, fun b o q => m.heap b o (fun z => absurd (Heap.lt_size q) (Nat.not_lt.mpr (nw b z))) (by rw [e]; exact kp b o q)⟩
  have := Moved.eq_with m
  rw [e] at this
  exact this
/-- the lengths of what vs holds -/
def Lens (K : PySem.W.Frag) (H : Hp) (vs : List V) (ln : Nat → Nat) : Prop := ∀ i v, vs[i]? = some v → ∃ b xs, v = .ref b ∧ Sq K H b xs ∧ xs.length = ln i
def btOf (up : Bool) (ln : Nat → Nat) (i j : Nat) : Bool := if up then decide (ln j < ln i) else decide (ln i < ln j)
theorem key_len {A : Around} {l it S : Addr} {vs : List V} {us : List Value} {ln : Nat → Nat} (I : Inv X pins σ H s1) (vu : Vals vs us) (le : Lens X.K H vs ln) (n1 : s1.heap.objs.size ≤ it) (n2 : s1.heap.objs.size ≤ S) (up : Bool) :
    KeyRun X.prog X.w A (.builtin "len") (if up then CmpOp.Gt else CmpOp.Lt) S [it] (fun a b => b = a) us.toArray.size (fun i v => us.toArray[i]? = some v) (fun i s => s.heap.IsListIter it l i ∧ s.heap.IsList l us.toArray) (Kept s1) (fun i k _ => ∃ t, k = .int (ln i : Int) t) (btOf up ln) where
  keep := fun s s' k m => k.moved (fun b z => by
    rcases List.mem_cons.mp z with z | z
    · rw [z]; exact n2
    · rw [List.mem_singleton.mp z]; exact n1) m
  keepV := fun _ _ _ _ x _ => x
  turn := fun i v s o Q E hi hv k st hS q => by
    have li : i < vs.length := by rw [vu.length]; simpa using hi
    obtain ⟨u, hu, ru⟩ := vu.get (List.getElem?_eq_getElem li)
    have ev : u = v := by
      have e : us[i]? = some v := by simpa using hv
      rw [hu] at e
      exact Option.some.inj e
    subst ev
    obtain ⟨b, xs, eb, sq, sl⟩ := le i _ (List.getElem?_eq_getElem li)
    rw [eb] at ru
    cases ru
    have J := k.inv I
    have fit := line63
    have again : ∀ tk, Kept s1 { s with toks := tk } := fun tk => by
      obtain ⟨h, t, e, kp⟩ := k
      subst e
      exact ⟨h, tk, rfl, kp⟩
    rcases sq with sq | sq
    · obtain ⟨its, r', pl, hz⟩ := J.list sq
      have hl := r'.length
      exact Calls.call_len_list pl.isList (by simp only [List.size_toArray]; omega) (q _ _ (again _) st hS ⟨_, by rw [List.size_toArray, ← hl, sl]⟩ fun _ _ x => x)
    · obtain ⟨its, r', pl, hz⟩ := J.tuple sq
      have hl := r'.length
      exact len_tuple pl (by simp only [List.size_toArray]; omega) (q _ _ (again _) st hS ⟨_, by rw [List.size_toArray, ← hl, sl]⟩ fun _ _ x => x)
  cmp := fun i j ki kj s Q E k ⟨t, e1⟩ ⟨u, e2⟩ q => by
    subst e1 e2
    cases up with
    | true =>
      refine richCompare_gives (op := .Gt) (typeIs_int s _ t) (typeIs_int s _ u) F.slot_int_gt F.entry_int_gt (F.args_int_gt_2 _ _) (gives_int_gt _ _ t u) (fun x => nomatch x) ?_
      have e : decide ((ln i : Int) > (ln j : Int)) = btOf true ln i j := by simp [btOf]
      first | (rw [← e] at q; exact q) | (rw [← e] at q; simpa using q)
    | false =>
      refine richCompare_gives (op := .Lt) (typeIs_int s _ t) (typeIs_int s _ u) F.slot_int_lt F.entry_int_lt (F.args_int_lt_2 _ _) (gives_int_lt _ _ t u) (fun x => nomatch x) ?_
      have e : decide ((ln i : Int) < (ln j : Int)) = btOf false ln i j := by simp [btOf]
      first | (rw [← e] at q; exact q) | (rw [← e] at q; simpa using q)
end
end Mir

set_option Elab.async false
set_option linter.all false
set_option maxRecDepth 100000
set_option maxHeartbeats 4000000
namespace Mir
open PySem PySem.Spec PyProof.Rows L2
section
variable {X : Cx} {pins : List (Addr × Obj)} {σ : L2.St} {H : Hp} {s : Shared}
theorem len_walk {A : Around} {E : Value → Shared → Prop} {l : Addr} {vs : List V} {ln : Nat → Nat} (I : Inv X pins σ H s) (hh : A.handled = none) (sq : SqL X.K H l vs) (le : Lens X.K H vs ln) (up : Bool) {F : Value → Shared → Prop}
    (q : ∀ (I0 : Addr) (us : List Value) (s2 : Shared), Vals vs us → WalksS X.prog X.w A.in1 I0 [I0, l] [I0] (fun a b => b = a) us.toArray.size (fun i v => us.toArray[i]? = some v) (fun i s => s.heap.IsListIter I0 l i ∧ s.heap.IsList l us.toArray) → (s2.heap.IsListIter I0 l 0 ∧ s2.heap.IsList l us.toArray) → (∀ b ∈ [I0, l], b < s2.heap.objs.size) →
      KeyRun X.prog X.w A.in1 (.builtin "len") (if up then CmpOp.Gt else CmpOp.Lt) s2.heap.objs.size [I0] (fun a b => b = a) us.toArray.size (fun i v => us.toArray[i]? = some v) (fun i s => s.heap.IsListIter I0 l i ∧ s.heap.IsList l us.toArray) (Kept s) (fun i k _ => ∃ t, k = .int (ln i : Int) t) (btOf up ln) → Kept s s2 → F (.ref I0) s2) :
    wpAny (model X.prog X.w) A.in1 (pyIter (.ref l)) F E s := by
  obtain ⟨us, r, p, z⟩ := I.list sq
  have ne : l ≠ s.heap.objs.size := Nat.ne_of_lt p.lt
  have sp : (s.heap.push { cls := .type "list_iterator", data := .fields #[.ref l, .int 0 0] }).objs.size = s.heap.objs.size + 1 := Heap.size_push ..
  refine wpAny_pyIter_list p.isList (q s.heap.objs.size us { s with heap := s.heap.push _ } r (Walks.list (A := A.in1) hh s.heap.objs.size l ne us.toArray).toS ⟨⟨_, Heap.get?_push_size _ rfl, rfl, rfl⟩, p.isList.push _⟩ (fun b m => ?_) (key_len I r le (Nat.le_refl _) ?_ up) ⟨_, s.toks, rfl, fun b o e => Heap.get?_push_of_some _ e⟩)
  · show Nat.lt b (s.heap.push _).objs.size
    rw [sp]
    rcases List.mem_cons.mp m with m | m
    · rw [m]
      exact Nat.lt_succ_self _
    · rw [List.mem_singleton.mp m]
      exact Nat.lt_succ_of_lt p.lt
  · show Nat.le _ (s.heap.push _).objs.size
    rw [sp]
    exact Nat.le_succ _
theorem best_at {vs : List V} {us : List Value} (r : Vals vs us) {i : Nat} {u : Value} (h : us.toArray[i]? = some u) : ∃ v, vs[i]? = some v ∧ RelV v u := by
  have e : us[i]? = some u := by simpa using h
  have li : i < us.length := (List.getElem?_eq_some_iff.mp e).1
  have lv : i < vs.length := by rw [r.length]; exact li
  obtain ⟨u', e', rv⟩ := r.get (List.getElem?_eq_getElem lv)
  rw [e] at e'
  cases e'
  exact ⟨_, List.getElem?_eq_getElem lv, rv⟩
end
section
variable {X : Cx} {e e2 : Expr} {te td : TE} {p p2 kp kp2 pos : Pos}
theorem one_of {f : V → Prop} {vs : List V} (h : match vs with | [x] => f x | _ => False) : ∃ x, vs = [x] ∧ f x := by
  split at h
  · exact ⟨_, rfl, h⟩
  · exact h.elim
def bestQ (K : PySem.W.Frag) (up : Bool) (x : V) (H : Hp) (Q : VK) : Prop := ∃ l vs ln, x = .ref l ∧ SqL K H l vs ∧ Lens K H vs ln ∧ vs ≠ [] ∧ ∀ v, vs[argBest (btOf up ln) (vs.length - 1)]? = some v → Q v H
def bestQD (K : PySem.W.Frag) (up : Bool) (x y : V) (H : Hp) (Q : VK) : Prop := ∃ l vs ln, x = .ref l ∧ SqL K H l vs ∧ Lens K H vs ln ∧ (vs = [] → Q y H) ∧ ∀ v, vs[argBest (btOf up ln) (vs.length - 1)]? = some v → Q v H
def tBest (K : PySem.W.Frag) (up : Bool) (te : TE) : TE := fun σ H Q => te σ H fun x H1 => bestQ K up x H1 Q
def tBestD (K : PySem.W.Frag) (up : Bool) (te td : TE) : TE := fun σ H Q => te σ H fun x H1 => td σ H1 fun y H2 => bestQD K up x y H2 Q
theorem pe_maxLen (hc : X.calm = true) (hg : Gl X "max") (hm : X.mg "max" = none) (hgl : Gl X "len") (hml : X.mg "len" = none) (he : PE X e te) (na : starEach [e] X.env = (false, eval e X.env) :: starEach [] X.env := by rfl) :
    PE X (.Call (.Name "max" p) [e] [⟨some "key", .Name "len" p2, kp⟩] pos) (tBest X.K true te) := by
  refine ⟨fun pins s σ H Q I h => ?_⟩
  refine wpAny_Call_Name_kw (ld_blt I hg hm (show bootBuiltins "max" = some (.builtin "max") by decide +kernel) ?_)
  refine PyProof.Rows.callWith_kw (thn ((pa_cons he pa_nil na).run pos pins s σ H (fun us H1 => match us with | [x] => bestQ X.K true x H1 Q | _ => False) I h) fun us s1 ⟨vs0, H1, I1, r1, q1⟩ => kws_cons (ld_blt I1 hgl hml bt_len (kws_nil ?_))) (by rw [na]; rfl) (by rw [na]; rfl)
  obtain ⟨x0, ev, l, vs, ln, ex, sq, le, ne, q⟩ := one_of (f := fun x => bestQ X.K true x H1 Q) q1
  subst ev
  cases r1 with
  | cons r rr =>
    cases rr
    subst ex
    cases r
    show wpAny _ _ (call (.builtin "max") [.ref l] [(Str.ofString "key", .builtin "len")]) _ _ _
    refine call_max_walkKB (len_walk I1 (I1.ok.hd hc) sq le true fun I0 us s2 vu W st lo kr k2 => ?_)
    have sz : us.toArray.size = vs.length := by rw [vu.length]; simp
    refine ⟨I0, _, _, _, _, _, _, _, _, _, rfl, W, st, lo, ?_, kr, k2, fun v s' hv k' => ?_⟩
    · rw [sz]
      exact List.length_pos_iff.mpr ne
    · rw [sz] at hv
      obtain ⟨x, hx, rx⟩ := best_at vu hv
      exact ⟨x, H1, k'.inv I1, rx, q x hx⟩
theorem pe_minLenD (hc : X.calm = true) (hg : Gl X "min") (hm : X.mg "min" = none) (hgl : Gl X "len") (hml : X.mg "len" = none) (he : PE X e te) (hd : PE X e2 td) (na : starEach [e] X.env = (false, eval e X.env) :: starEach [] X.env := by rfl) :
    PE X (.Call (.Name "min" p) [e] [⟨some "key", .Name "len" p2, kp⟩, ⟨some "default", e2, kp2⟩] pos) (tBestD X.K false te td) := by
  refine ⟨fun pins s σ H Q I h => ?_⟩
  refine wpAny_Call_Name_kw (ld_blt I hg hm (show bootBuiltins "min" = some (.builtin "min") by decide +kernel) ?_)
  refine PyProof.Rows.callWith_kw (thn ((pa_cons he pa_nil na).run pos pins s σ H (fun us H1 => match us with | [x] => td σ H1 fun y H2 => bestQD X.K false x y H2 Q | _ => False) I h) fun us s1 ⟨vs0, H1, I1, r1, q1⟩ => ?_) (by rw [na]; rfl) (by rw [na]; rfl)
  obtain ⟨x0, ev, q1⟩ := one_of (f := fun x => td σ H1 fun y H2 => bestQD X.K false x y H2 Q) q1
  subst ev
  cases r1 with
  | cons r rr =>
    cases rr
    refine kws_cons (ld_blt I1 hgl hml bt_len (kws_cons ?_))
    refine thn (hd.run pins s1 σ H1 _ I1 q1) fun d s2 ⟨y, H2, I2, ry, q2⟩ => kws_nil ?_
    obtain ⟨l, vs, ln, ex, sq, le, q0, q⟩ := q2
    subst ex
    cases r
    show wpAny _ _ (call (.builtin "min") [.ref l] [(Str.ofString "key", .builtin "len"), (Str.ofString "default", d)]) _ _ _
    refine call_min_walkKBD (len_walk I2 (I2.ok.hd hc) sq le false fun I0 us s3 vu W st lo kr k2 => ?_)
    have sz : us.toArray.size = vs.length := by rw [vu.length]; simp
    refine ⟨I0, _, _, _, _, _, _, _, _, _, rfl, W, st, lo, kr, k2, fun n0 s' k' => ?_, fun n0 v s' hv k' => ?_⟩
    · rw [sz] at n0
      exact ⟨y, H2, k'.inv I2, ry, q0 (List.eq_nil_of_length_eq_zero n0)⟩
    · rw [sz] at hv
      obtain ⟨x, hx, rx⟩ := best_at vu hv
      exact ⟨x, H2, k'.inv I2, rx, q x hx⟩
end
end Mir

set_option Elab.async false
set_option linter.all false
set_option maxRecDepth 100000
set_option maxHeartbeats 4000000
namespace Mir
open PySem PySem.Spec PyProof.Rows L2
def lnD (ds : List Da) (i : Nat) : Nat := match ds[i]? with
  | some d => match asS d with
    | some xs => xs.length
    | none => 0
  | none => 0
def bestD (up : Bool) (ds : List Da) : Option Da := ds[argBest (btOf up (lnD ds)) (ds.length - 1)]?
def gBest (up : Bool) : Da → Option Da
  | .list ds => if ds.all fun d => (asS d).isSome then bestD up ds else none
  | _ => none
def gBestD (up : Bool) : Da → Da → Option Da
  | .list ds, d => if ds.all fun d => (asS d).isSome then (if ds.isEmpty then some d else bestD up ds) else none
  | _, _ => none
theorem lens_of {K : PySem.W.Frag} {H : Hp} {F : Frz} {vs : List V} {ds : List Da} (t : RpA K H F vs ds) (h : (ds.all fun d => (asS d).isSome) = true) : Lens K H vs (lnD ds) := by
  intro i v hv
  have lv : i < vs.length := (List.getElem?_eq_some_iff.mp hv).1
  have ld : i < ds.length := by rw [← t.len]; exact lv
  obtain ⟨v', e', r⟩ := t.get (List.getElem?_eq_getElem ld)
  rw [hv] at e'
  cases e'
  have s := List.all_eq_true.mp h _ (List.getElem_mem ld)
  obtain ⟨xs, ex⟩ := Option.isSome_iff_exists.mp s
  obtain ⟨b, ws, eb, sq, rr⟩ := sq_of r ex
  refine ⟨b, ws, eb, sq, ?_⟩
  unfold lnD
  rw [List.getElem?_eq_getElem ld]
  simp only [ex]
  exact rr.len
section
variable {X : Cx} {ow : List Nat} {e e2 : Expr} {fe fd : Md Da} {p p2 kp kp2 pos : Pos}
theorem e_maxLen (hc : X.calm = true) (hg : Gl X "max") (hm : X.mg "max" = none) (hgl : Gl X "len") (hml : X.mg "len" = none) (he : GE X ow e fe) (na : starEach [e] X.env = (false, eval e X.env) :: starEach [] X.env := by rfl) :
    GE X ow (.Call (.Name "max" p) [e] [⟨some "key", .Name "len" p2, kp⟩] pos) (mBind fe fun d => mOpt (gBest true d)) := pe_w (pe_maxLen hc hg hm hgl hml he na) fun σ H Q ⟨B, F, ρ, d, ρ', c, hf, q⟩ => by
  obtain ⟨d0, ρ1, h1, hf⟩ := bind_inv hf
  obtain ⟨hg2, rfl⟩ := opt_inv hf
  refine ⟨B, F, ρ, d0, _, c, h1, fun v H1 F1 c1 l1 r1 => ?_⟩
  unfold gBest at hg2
  split at hg2
  · split at hg2
    · rename_i ds ok
      obtain ⟨a, vs, e', rl, t⟩ := r1.list_inv
      refine ⟨a, vs, lnD ds, e', rl.sq, lens_of t ok, fun z => ?_, fun w hw => ?_⟩
      · subst z
        have l0 := t.len
        unfold bestD at hg2
        rw [List.eq_nil_of_length_eq_zero l0.symm] at hg2
        simp at hg2
      · unfold bestD at hg2
        rw [← t.len] at hg2
        obtain ⟨w', e3, r3⟩ := t.get hg2
        rw [hw] at e3
        cases e3
        exact q w H1 F1 c1 l1 r3
    · cases hg2
  · cases hg2
theorem e_minLenD (hc : X.calm = true) (hg : Gl X "min") (hm : X.mg "min" = none) (hgl : Gl X "len") (hml : X.mg "len" = none) (he : GE X ow e fe) (hd : GE X ow e2 fd) (na : starEach [e] X.env = (false, eval e X.env) :: starEach [] X.env := by rfl) :
    GE X ow (.Call (.Name "min" p) [e] [⟨some "key", .Name "len" p2, kp⟩, ⟨some "default", e2, kp2⟩] pos) (mBind fe fun d => mBind fd fun d2 => mOpt (gBestD false d d2)) := pe_w (pe_minLenD hc hg hm hgl hml he hd na) fun σ H Q ⟨B, F, ρ, d, ρ', c, hf, q⟩ => by
  obtain ⟨d0, ρ1, h1, hf⟩ := bind_inv hf
  obtain ⟨d2, ρ2, h2, hf⟩ := bind_inv hf
  obtain ⟨hg2, rfl⟩ := opt_inv hf
  refine ⟨B, F, ρ, d0, _, c, h1, fun v H1 F1 c1 l1 r1 => ⟨B, F1, ρ1, d2, _, c1, h2, fun y H2 F2 c2 l2 r2 => ?_⟩⟩
  have r1' := r1.st l2.st
  cases d0 with
  | list ds =>
    replace hg2 : (if ds.all fun d => (asS d).isSome then (if ds.isEmpty then some d2 else bestD false ds) else none) = some d := hg2
    split at hg2
    · rename_i ok
      obtain ⟨a, vs, e', rl, t⟩ := r1'.list_inv
      refine ⟨a, vs, lnD ds, e', rl.sq, lens_of t ok, fun z => ?_, fun w hw => ?_⟩
      · subst z
        have l0 := t.len
        rw [List.eq_nil_of_length_eq_zero l0.symm] at hg2
        cases hg2
        exact q y H2 F2 c2 (l1.trans l2) r2
      · have ne : ds.isEmpty = false := by
          cases ds with
          | nil =>
            cases t
            simp at hw
          | cons _ _ => rfl
        rw [ne] at hg2
        simp only [if_false, Bool.false_eq_true] at hg2
        unfold bestD at hg2
        rw [← t.len] at hg2
        obtain ⟨w', e3, r3⟩ := t.get hg2
        rw [hw] at e3
        cases e3
        exact q w H2 F2 c2 (l1.trans l2) r3
    · cases hg2
  | _ => cases hg2
end
end Mir

set_option Elab.async false
set_option linter.all false
set_option maxRecDepth 100000
set_option maxHeartbeats 2000000
namespace Mir
open PySem PySem.Spec PyProof.Rows L2
/-! ### sorted of tuples of ints, the first of them empty -/
/-- a value is a tuple of whole numbers -/
def RowV (h : Heap) (v : Value) (ns : List Int) : Prop := ∃ a its, v = .ref a ∧ IsTup h a its.toArray ∧ Vals (ns.map V.int) its
theorem vi_one : ∀ {ns ms : List Int} {its : List Value}, Vals (ns.map V.int) its → Vals (ms.map V.int) its → ns = ms
  | [], [], _, _, _ => rfl
  | [], _ :: _, _, h1, h2 => by cases h1; cases h2
  | _ :: _, [], _, h1, h2 => by cases h2; cases h1
  | n :: ns, m :: ms, _, h1, h2 => by
    cases h1 with
    | cons a b =>
      cases h2 with
      | cons c d =>
        obtain ⟨t, e1⟩ := (show ∃ t, _ = Value.int n t from a)
        obtain ⟨u, e2⟩ := (show ∃ t, _ = Value.int m t from c)
        rw [e1] at e2
        cases e2
        rw [vi_one b d]
theorem RowV.one {h : Heap} {v : Value} {ns ms : List Int} (h1 : RowV h v ns) (h2 : RowV h v ms) : ns = ms := by
  obtain ⟨a, its, rfl, ⟨o, o1, o2, n, o3⟩, r1⟩ := h1
  obtain ⟨b, jts, e, ⟨p, p1, p2, m, p3⟩, r2⟩ := h2
  cases e
  rw [o1] at p1
  cases p1
  rw [o3] at p3
  have e2 : its = jts := by
    have e3 : its.toArray = jts.toArray := by cases p3; rfl
    exact List.toArray_inj e3
  subst e2
  exact vi_one r1 r2
theorem RowV.up {h h' : Heap} {v : Value} {ns : List Int} (r : RowV h v ns) (hk : ∀ b o, h.get? b = some o → h'.get? b = some o) : RowV h' v ns := by
  obtain ⟨a, its, e, ⟨o, o1, o2⟩, r1⟩ := r
  exact ⟨a, its, e, ⟨o, hk _ _ o1, o2⟩, r1⟩
open Classical in
noncomputable def rowKey (h : Heap) (v : Value) : Option (List Int) := if q : ∃ ns, RowV h v ns then some (Classical.choose q) else none
theorem rowKey_eq {h : Heap} {v : Value} {ns : List Int} (r : RowV h v ns) : rowKey h v = some ns := by
  unfold rowKey
  have q : ∃ ns, RowV h v ns := ⟨ns, r⟩
  rw [dif_pos q, (Classical.choose_spec q).one r]
theorem rowKey_inv {h : Heap} {v : Value} {ns : List Int} (e : rowKey h v = some ns) : RowV h v ns := by
  unfold rowKey at e
  split at e
  · rename_i q
    cases e
    exact Classical.choose_spec q
  · cases e
@[reducible] noncomputable def rowKind (h : Heap) : KeyKind := { toKeyOrd := listOrd intKind.toKeyOrd, keyOf := rowKey h, dflt := [] }
def rlt (a b : List Int) : Bool := lexLt intKind.toKeyOrd a b
/-- the order of tuples, told by places -/
theorem first_lt : ∀ (ns ms : List Int) (k : Nat) (e r : Nat → Bool) (fin : Bool), (∀ j (h1 : j < ns.length) (h2 : j < ms.length), e (k + j) = (ns[j] == ms[j]) ∧ r (k + j) = decide (ns[j] < ms[j])) → fin = decide (ns.length < ms.length) →
    SeqAt.firstLt e r fin (List.range' k (min ns.length ms.length)) = rlt ns ms
  | [], [], k, e, r, fin, _, hf => by
    rw [hf]
    rfl
  | [], m :: ms, k, e, r, fin, _, hf => by
    rw [hf]
    show decide (0 < ms.length + 1) = rlt [] (m :: ms)
    rw [decide_eq_true (Nat.succ_pos _)]
    rfl
  | n :: ns, [], k, e, r, fin, _, hf => by
    rw [hf]
    rfl
  | n :: ns, m :: ms, k, e, r, fin, h, hf => by
    have h0 := h 0 (Nat.succ_pos _) (Nat.succ_pos _)
    have ih := first_lt ns ms (k + 1) e r fin (fun j h1 h2 => by
      have := h (j + 1) (Nat.succ_lt_succ h1) (Nat.succ_lt_succ h2)
      rw [show k + 1 + j = k + (j + 1) by omega]
      exact this) (by
      rw [hf]
      show decide (ns.length + 1 < ms.length + 1) = decide (ns.length < ms.length)
      exact decide_eq_decide.mpr (by omega))
    have mm : min (ns.length + 1) (ms.length + 1) = min ns.length ms.length + 1 := by omega
    show SeqAt.firstLt e r fin (List.range' k (min (ns.length + 1) (ms.length + 1))) = _
    rw [mm, List.range'_succ, SeqAt.firstLt.eq_2]
    have e0 : e k = (n == m) := h0.1
    have r0 : r k = decide (n < m) := h0.2
    rw [e0, r0, ih]
    unfold rlt
    rw [PyProof.Rows.lexLt.eq_4]
    show (if (n == m) = true then PyProof.Rows.lexLt intKind.toKeyOrd ns ms else decide (n < m)) = (decide (n < m) || !decide (m < n) && PyProof.Rows.lexLt intKind.toKeyOrd ns ms)
    by_cases q : n = m
    · subst q
      simp
    · have : (n == m) = false := by simpa using q
      rw [this]
      by_cases w : n < m
      · simp [w]
      · have : m < n := by omega
        simp [w, this]
section
variable {prog : Program} {w : World} {A : Around} {s : Shared}
theorem rc_int (a b : Int) (t u : Tok) : SeqAt.RcLt A s (.int a t) (.int b u) (decide (a < b)) := fun prog w E Q q =>
  richCompare_gives (op := .Lt) (typeIs_int s _ t) (typeIs_int s _ u) F.slot_int_lt F.entry_int_lt (F.args_int_lt_2 _ _) (gives_int_lt _ _ t u) (fun x => nomatch x) q
theorem vi_at : ∀ {ns : List Int} {its : List Value} {j : Nat} (h1 : j < ns.length) (h2 : j < its.length), Vals (ns.map V.int) its → ∃ t, its[j] = .int ns[j] t
  | [], _, _, h1, _, _ => absurd h1 (Nat.not_lt_zero _)
  | n :: ns, _, 0, _, _, .cons a _ => a
  | n :: ns, _, j + 1, h1, h2, .cons _ b => vi_at (Nat.lt_of_succ_lt_succ h1) (Nat.lt_of_succ_lt_succ h2) b
theorem row_lt (hA : A.units < cLine) {x y : Value} {a b : List Int} {E : Value → Shared → Prop} {Q : Bool → Shared → Prop} (hx : RowV s.heap x a) (hy : RowV s.heap y b) (q : Q (rlt a b) s) : wpAny (model prog w) A (oneLt' true x y) Q E s := by
  obtain ⟨l, its, rfl, ⟨o, o1, o2, n, o3⟩, r1⟩ := hx
  obtain ⟨l2, jts, rfl, ⟨p, p1, p2, m, p3⟩, r2⟩ := hy
  obtain ⟨c1, d1, da1, s1⟩ := o
  obtain ⟨c2, d2, da2, s2⟩ := p
  simp only at o2 o3 p2 p3
  subst o2 o3 p2 p3
  have l1 : a.length = its.length := by have := r1.length; rwa [List.length_map] at this
  have l2' : b.length = jts.length := by have := r2.length; rwa [List.length_map] at this
  have ty : s.TypeIs (.ref l) "tuple" := ⟨_, o1, rfl⟩
  rw [oneLt'_eq]
  simp only [if_true]
  refine wpAny_bind (wpAny_cRoomFor hA (wpAny_bind (wpAny_callSpecialIfBound?_slot ty F.slot_tuple_lt ?_)))
  refine call_meets F.slot_tuple_lt ty F.entry_tuple_lt (F.args_tuple_lt_2 _ _) (SeqAt.tuple_ltAt l l2 its.toArray jts.toArray n m d1 d2 s1 s2 (fun j => (a.getD j 0 == b.getD j 0)) (fun j => decide (a.getD j 0 < b.getD j 0))) ⟨o1, p1, fun j h1 h2 => ?_, fun j h1 h2 _ => ?_, ?_⟩
  · have h1' : j < its.length := by simpa using h1
    have h2' : j < jts.length := by simpa using h2
    obtain ⟨t, e1⟩ := vi_at (by omega) h1' r1
    obtain ⟨u, e2⟩ := vi_at (by omega) h2' r2
    have g1 : its.toArray[j] = .int a[j] t := by simpa using e1
    have g2 : jts.toArray[j] = .int b[j] u := by simpa using e2
    rw [g1, g2]
    have z := SeqAt.EqAt.int_int (A := A.in1) (s := s) a[j] t b[j] u
    have d1 : a.getD j 0 = a[j] := by rw [List.getD_eq_getElem?_getD, List.getElem?_eq_getElem (by omega)]; rfl
    have d2 : b.getD j 0 = b[j] := by rw [List.getD_eq_getElem?_getD, List.getElem?_eq_getElem (by omega)]; rfl
    rw [d1, d2]
    exact z
  · have h1' : j < its.length := by simpa using h1
    have h2' : j < jts.length := by simpa using h2
    obtain ⟨t, e1⟩ := vi_at (by omega) h1' r1
    obtain ⟨u, e2⟩ := vi_at (by omega) h2' r2
    have g1 : its.toArray[j] = .int a[j] t := by simpa using e1
    have g2 : jts.toArray[j] = .int b[j] u := by simpa using e2
    rw [g1, g2]
    have d1 : a.getD j 0 = a[j] := by rw [List.getD_eq_getElem?_getD, List.getElem?_eq_getElem (by omega)]; rfl
    have d2 : b.getD j 0 = b[j] := by rw [List.getD_eq_getElem?_getD, List.getElem?_eq_getElem (by omega)]; rfl
    rw [d1, d2]
    exact rc_int _ _ t u
  · have fl := first_lt a b 0 (fun j => (a.getD j 0 == b.getD j 0)) (fun j => decide (a.getD j 0 < b.getD j 0)) (decide (its.toArray.size < jts.toArray.size)) (fun j h1 h2 => by
      have d1 : a.getD j 0 = a[j] := by rw [List.getD_eq_getElem?_getD, List.getElem?_eq_getElem h1]; rfl
      have d2 : b.getD j 0 = b[j] := by rw [List.getD_eq_getElem?_getD, List.getElem?_eq_getElem h2]; rfl
      rw [Nat.zero_add]
      refine ⟨?_, ?_⟩
      · show (a.getD j 0 == b.getD j 0) = _
        rw [d1, d2]
      · show decide (a.getD j 0 < b.getD j 0) = _
        rw [d1, d2]) (by rw [List.size_toArray, List.size_toArray, l1, l2'])
    have sz : min its.toArray.size jts.toArray.size = min a.length b.length := by rw [List.size_toArray, List.size_toArray, l1, l2']
    rw [sz, List.range_eq_range', fl]
    show wpAny (model prog w) A (pure (rlt a b)) Q E s
    exact wpAny_pure q
theorem row_ltAt (hA : A.units < cLine) : H.LtAt prog w A s (rowKind s.heap) oneType' := fun E x y a b Q hx hy q => by
  rw [keyLt'_oneType]
  exact row_lt hA (rowKey_inv hx) (rowKey_inv hy) q
theorem wp_mapM {β : Type} {M : Model} {E : Value → Shared → Prop} {f : Value → Sem β} {g : Value → β} : ∀ (vs : List Value) {Q : List β → Shared → Prop}, (∀ v ∈ vs, ∀ {R : β → Shared → Prop}, R (g v) s → wpAny M A (f v) R E s) → Q (vs.map g) s → wpAny M A (vs.mapM f) Q E s
  | [], Q, _, q => by
    rw [List.mapM_nil]
    exact wpAny_pure q
  | v :: vs, Q, h, q => by
    rw [List.mapM_cons]
    refine wpAny_bind (h v (List.mem_cons_self ..) ?_)
    refine wpAny_bind (wp_mapM vs (fun u hu => h u (List.mem_cons_of_mem _ hu)) ?_)
    exact wpAny_pure q
def firstV (h : Heap) : Value → Option Value
  | .ref a => match h.get? a with
    | some o => match o.data with
      | .seq its _ => its[0]?
      | _ => none
    | none => none
  | _ => none
theorem first_go {v : Value} {ns : List Int} {E : Value → Shared → Prop} {R : Option Value → Shared → Prop} (hv : RowV s.heap v ns) (q : R (firstV s.heap v) s) : wpAny (model prog w) A (firstOfTuple' v) R E s := by
  obtain ⟨l, its, rfl, ⟨o, o1, o2, n, o3⟩, r1⟩ := hv
  have ty : s.TypeIs (.ref l) "tuple" := ⟨_, o1, o2⟩
  rw [PySem.W.kas_first_eq]
  refine wpAny_bind (wpAny_typeOf ty ?_)
  have b1 : ((Value.type "tuple" : Value) != Value.type "tuple") = false := by decide
  rw [if_neg (by rw [b1]; exact Bool.false_ne_true)]
  refine wpAny_bind ?_
  unfold Builtin.List.listItems
  refine wpAny_bind (wpAny_seqItems o1 o3 (wpAny_pure (wpAny_pure ?_)))
  have e : firstV s.heap (.ref l) = its.toArray[0]? := by
    unfold firstV
    simp only [o1, o3]
  rw [← e]
  exact q
theorem first_nil {v : Value} {h : Heap} (hv : RowV h v []) : firstV h v = none := by
  obtain ⟨l, its, rfl, ⟨o, o1, o2, n, o3⟩, r1⟩ := hv
  cases r1
  unfold firstV
  simp only [o1, o3]
  rfl
theorem row_type {v : Value} {ns : List Int} (hv : RowV s.heap v ns) : s.TypeIs v "tuple" := by
  obtain ⟨l, its, rfl, ⟨o, o1, o2, n, o3⟩, r1⟩ := hv
  exact ⟨_, o1, o2⟩
theorem row_kind {v : Value} {vs : List Value} {E : Value → Shared → Prop} {Q : SortKind → Shared → Prop} (h0 : RowV s.heap v []) (hv : ∀ u ∈ vs, ∃ ns, RowV s.heap u ns) (q : Q oneType' s) : wpAny (model prog w) A (keyKind' (v :: vs).toArray) Q E s := by
  have all : ∀ u ∈ v :: vs, ∃ ns, RowV s.heap u ns := fun u hu => by
    rcases List.mem_cons.mp hu with rfl | hu
    · exact ⟨_, h0⟩
    · exact hv u hu
  rw [keyKind'_eq, List.mapM_toArray]
  refine wpAny_bind ?_
  rw [map_eq_pure_bind]
  refine wpAny_bind (wp_mapM (g := firstV s.heap) (v :: vs) (fun u hu R r => by
    obtain ⟨ns, hu⟩ := all u hu
    exact first_go hu r) (wpAny_pure ?_))
  have f0 := first_nil h0
  have a1 : ((List.map (firstV s.heap) (v :: vs)).toArray.all fun x => x.isSome) = false := by
    rw [List.map_cons, f0]
    simp
  have a2 : ((List.map (firstV s.heap) (v :: vs)).toArray[0]?.bind id).isSome = false := by
    rw [List.map_cons, f0]
    simp
  rw [if_neg (by rw [a1]; exact Bool.false_ne_true), if_neg (by rw [a2]; exact Bool.false_ne_true)]
  refine wpAny_bind ?_
  rw [oneTypeOnly'_eq, List.mapM_toArray]
  refine wpAny_bind ?_
  rw [map_eq_pure_bind]
  refine wpAny_bind (wp_mapM (g := fun _ => Value.type "tuple") (v :: vs) (fun u hu R r => by
    obtain ⟨ns, hu⟩ := all u hu
    exact wpAny_typeOf (row_type hu) r) (wpAny_pure ?_))
  have a3 : ((List.map (fun _ => Value.type "tuple") (v :: vs)).toArray.all fun x => x == Value.type "tuple") = true := by
    simp
  have a4 : (List.map (fun _ => Value.type "tuple") (v :: vs)).toArray[0]? = some (Value.type "tuple") := by simp
  simp only [a4, a3, if_true]
  exact wpAny_pure (wpAny_pure q)
end
end Mir

set_option Elab.async false
set_option linter.all false
set_option maxRecDepth 100000
set_option maxHeartbeats 2000000
namespace Mir
open PySem PySem.Spec PyProof.Rows L2
def rle (a b : List Int) : Bool := !rlt b a
/-- a value stands for a tuple of ints -/
def RowX (K : PySem.W.Frag) (H : Hp) (v : V) (ns : List Int) : Prop := ∃ t, v = .ref t ∧ SqT K H t (ns.map V.int)
/-- items with their rows, in the order of the rows -/
def byRow (ps : List (V × List Int)) : List (V × List Int) := ps.mergeSort fun p q => rle p.2 q.2
def rSortR (K : PySem.W.Frag) : List V → Hp → VK → Prop := fun xs H Q => ∃ (a : Addr) (ps : List (V × List Int)), xs = [.ref a] ∧ SqL K H a (ps.map (·.1)) ∧ (∀ p ∈ ps, RowX K H p.1 p.2) ∧ (ps.map (·.2)).head? = some [] ∧
  ∀ p, H p = none → Q (.ref p) (upd H p (.lst ((byRow ps).map (·.1))))
theorem vals_map {α : Type} {f : α → V} {g : α → Value} : ∀ (l : List α), (∀ x ∈ l, L2.RelV (f x) (g x)) → Vals (l.map f) (l.map g)
  | [], _ => .nil
  | x :: l, h => .cons (h x (List.mem_cons_self ..)) (vals_map l fun y hy => h y (List.mem_cons_of_mem _ hy))
theorem vals_zip : ∀ {ps : List (V × List Int)} {its : List Value}, Vals (ps.map (·.1)) its → ∀ t ∈ its.zip ps, L2.RelV t.2.1 t.1
  | [], _, _, t, ht => by simp at ht
  | p :: ps, _, h, t, ht => by
    cases h with
    | cons a b =>
      rcases List.mem_cons.mp ht with rfl | ht
      · exact a
      · exact vals_zip b t ht
section
variable {X : Cx} {pins : List (Addr × Obj)} {σ : L2.St} {H : Hp} {s : Shared}
theorem rowx_v (I : Inv X pins σ H s) {v : V} {u : Value} {ns : List Int} (r : L2.RelV v u) (h : RowX X.K H v ns) : RowV s.heap u ns := by
  obtain ⟨t, rfl, sq⟩ := h
  cases (show u = Value.ref t from r)
  obtain ⟨its, rv, it, _⟩ := I.tuple sq
  exact ⟨t, its, rfl, it, rv⟩
theorem sorting_old {h : Heap} {vs : List Value} {b : Addr} {o : Obj} (e : h.get? b = some o) : (W.sortingHeap (W.copyHeap h vs) (h.objs.size + 1) vs).get? b = some o := by
  have lt := Heap.lt_size e
  have n0 : h.objs.size ≠ b := Nat.ne_of_gt lt
  have n1 : h.objs.size + 1 ≠ b := Nat.ne_of_gt (Nat.lt_succ_of_lt lt)
  unfold W.sortingHeap W.copyHeap
  refine Heap.get?_push_of_some _ (Heap.get?_push_of_some _ ?_)
  rw [Heap.get?_update_other _ _ n1]
  refine Heap.get?_push_of_some _ ?_
  rw [Heap.get?_update_other _ _ n0]
  exact Heap.get?_push_of_some _ e
theorem sort_vals_eq {h : Heap} {its : List Value} {ps : List (V × List Int)} (hl : its.length = ps.length) (hr : ∀ t ∈ its.zip ps, rowKey h t.1 = some t.2.2) :
    ∃ T : List (Value × (V × List Int)), (∀ t ∈ T, t ∈ its.zip ps) ∧ W.sortVals (rowKind h) false its its = T.map (·.1) ∧ byRow ps = T.map (·.2) := by
  let T0 := its.zip ps
  let le : (Value × (V × List Int)) → (Value × (V × List Int)) → Bool := fun t u => rle t.2.2 u.2.2
  have e1 : its.zip its = T0.map fun t => (t.1, t.1) := by
    have : its = T0.map (·.1) := (List.map_fst_zip (by omega)).symm
    rw [show its.zip its = its.map fun x => (x, x) from by rw [List.zip_eq_zipWith, List.zipWith_self]]
    conv => lhs; rw [this]
    rw [List.map_map]
    rfl
  have e2 : ps = T0.map (·.2) := (List.map_snd_zip (by omega)).symm
  refine ⟨T0.mergeSort le, fun t ht => (List.mem_mergeSort.mp ht), ?_, ?_⟩
  · unfold W.sortVals
    rw [e1]
    have m := List.map_mergeSort (r := le) (s := W.sortLe (rowKind h).toKeyOrd false fun p => W.keyD (rowKind h) p.fst) (f := fun t : Value × (V × List Int) => (t.1, t.1)) (l := T0) (fun t ht u hu => by
      have a1 := hr t ht
      have a2 := hr u hu
      show rle t.2.2 u.2.2 = !PyProof.Rows.lexLt intKind.toKeyOrd (W.keyD (rowKind h) u.1) (W.keyD (rowKind h) t.1)
      have b1 : W.keyD (rowKind h) t.1 = t.2.2 := by
        show (rowKey h t.1).getD [] = _
        rw [a1]; rfl
      have b2 : W.keyD (rowKind h) u.1 = u.2.2 := by
        show (rowKey h u.1).getD [] = _
        rw [a2]; rfl
      rw [b1, b2]
      rfl)
    rw [← m, List.map_map]
    rfl
  · unfold byRow
    have m := List.map_mergeSort (r := le) (s := fun p q : V × List Int => rle p.2 q.2) (f := fun t : Value × (V × List Int) => t.2) (l := T0) (fun t ht u hu => rfl)
    rw [m, ← e2]
theorem cr_sortR (hA : X.A.units + 65 < cLine) : CallR X (.builtin "sorted") (rSortR X.K) := by
  intro pins s σ H xs us Q I r h
  obtain ⟨a, ps, e, sq, rows, hd, q⟩ := h
  subst e
  obtain ⟨u, e, ru⟩ := vals1 r
  subst e
  cases (show u = Value.ref a from ru)
  obtain ⟨its, rv, pl, hz⟩ := I.list sq
  rw [List.length_map] at hz
  have ln : its.length = ps.length := by have := rv.length; rw [List.length_map] at this; exact this.symm
  have rel := vals_zip rv
  have rowH : ∀ t ∈ its.zip ps, RowV s.heap t.1 t.2.2 := fun t ht => rowx_v I (rel t ht) (rows t.2 (List.of_mem_zip ht).2)
  let h2 := W.sortingHeap (W.copyHeap s.heap its) (s.heap.objs.size + 1) its
  have up : ∀ b o, s.heap.get? b = some o → h2.get? b = some o := fun b o e => sorting_old e
  have row2 : ∀ t ∈ its.zip ps, RowV h2 t.1 t.2.2 := fun t ht => (rowH t ht).up up
  have ofV : ∀ v ∈ its, ∃ ns, RowV h2 v ns := fun v hv => by
    obtain ⟨j, hj, e⟩ := List.mem_iff_getElem.mp hv
    have hj2 : j < ps.length := by omega
    have m : (its[j], ps[j]) ∈ its.zip ps := List.mem_iff_getElem.mpr ⟨j, by rw [List.length_zip]; omega, List.getElem_zip⟩
    exact ⟨ps[j].2, e ▸ row2 _ m⟩
  obtain ⟨T, hT, eo, es⟩ := sort_vals_eq (h := h2) ln (fun t ht => rowKey_eq (row2 t ht))
  refine W.sorted_vals (κ := rowKind h2) (vs := its) pl.isList ⟨fun v hv => ?_, oneType', row_ltAt (s := { heap := h2, gens := s.gens, drawn := s.drawn, toks := s.toks, os := s.os }) (show X.A.units + 1 + 1 < cLine by omega), fun h2l E R q' => ?_⟩ (by omega) ?_
  · obtain ⟨ns, hv⟩ := ofV v hv
    exact ⟨ns, rowKey_eq hv⟩
  · cases its with
    | nil => simp at h2l
    | cons v vs =>
      cases ps with
      | nil => simp at ln
      | cons p ps =>
        have hp : p.2 = [] := by simpa using hd
        have h0 := row2 (v, p) (by simp)
        rw [hp] at h0
        exact row_kind (s := { heap := h2, gens := s.gens, drawn := s.drawn, toks := s.toks, os := s.os }) h0 (fun w hw => ofV w (List.mem_cons_of_mem _ hw)) q'
  · have newL : H (s.heap.objs.size + 1) = none := I.hok.fresh (Nat.le_succ _)
    have vout : Vals ((byRow ps).map (·.1)) (W.sortVals (rowKind h2) false its its) := by
      rw [eo, es, List.map_map]
      exact vals_map T fun t ht => rel t (hT t ht)
    have lout : ((byRow ps).map (·.1)).length ≤ sizeLine := by
      unfold byRow
      rw [List.length_map, List.length_mergeSort]
      omega
    have old : ∀ b o, s.heap.get? b = some o → (sortedAll s.heap its (W.sortVals (rowKind h2) false its its).toArray).get? b = some o := fun b o e => sortedAll_old e
    have kp : ∀ b u, H b = some u → upd H (s.heap.objs.size + 1) (.lst ((byRow ps).map (·.1))) b = some u := fun b u e => by
      rw [upd_ne (fun z => by rw [z, newL] at e; cases e)]
      exact e
    refine ⟨.ref (s.heap.objs.size + 1), upd H (s.heap.objs.size + 1) (.lst ((byRow ps).map (·.1))), ?_, rfl, q _ newL⟩
    refine I.call' (ch := []) rfl ⟨fun b o q _ _ _ => old b o q, fun b o q _ _ _ => ⟨o.slots, old b o q⟩, fun b o q n _ => ?_, fun b o q _ => ⟨o, old b o q⟩, fun b _ q => kp b _ q, fun b _ _ q => kp b _ q, fun b _ q => ⟨#[], by rw [kp b _ q]; simp⟩⟩ (fun b u q => ?_) I.bare fun b z => by simp at z
    · have lb := Heap.lt_size q
      rw [upd_ne (fun z => absurd lb (Nat.not_lt.mpr (by rw [z]; exact Nat.le_succ _)))]
      exact n
    · by_cases eL : b = s.heap.objs.size + 1
      · rw [eL] at q ⊢
        rw [upd_same] at q
        cases q
        obtain ⟨e, at_⟩ := sortedAll_at s.heap its (W.sortVals (rowKind h2) false its its).toArray
        exact ⟨lout, W.sortVals (rowKind h2) false its its, e, vout, at_⟩
      · rw [upd_ne eL] at q
        exact (I.hok b u q).stay (fun d v _ y => old d v y) (fun d y => kp d _ y) fun d xs y => kp d _ y
end
/-! ### on data -/
def dRow (ns : List Int) : Da := .tuple (ns.map .int)
def rowsD : List Da → Option (List (List Int))
  | [] => some []
  | .tuple es :: r => match intsOf es, rowsD r with
    | some ns, some rs => some (ns :: rs)
    | _, _ => none
  | _ :: _ => none
theorem intsOf_inv : ∀ {es : List Da} {ns : List Int}, intsOf es = some ns → es = ns.map .int
  | [], ns, h => by cases h; rfl
  | .int i :: r, ns, h => by
    obtain ⟨ks, e, e2⟩ := Option.map_eq_some_iff.mp (show (intsOf r).map (i :: ·) = some ns from h)
    subst e2
    rw [intsOf_inv e]
    rfl
  | .none :: r, _, h => by cases h
  | .bool _ :: r, _, h => by cases h
  | .str _ :: r, _, h => by cases h
  | .list _ :: r, _, h => by cases h
  | .tuple _ :: r, _, h => by cases h
  | .dict _ :: r, _, h => by cases h
theorem rowsD_inv : ∀ {ds : List Da} {rs : List (List Int)}, rowsD ds = some rs → ds = rs.map dRow
  | [], _, h => by cases h; rfl
  | .tuple es :: r, rs, h => by
    unfold rowsD at h
    split at h
    · rename_i ns rs' h1 h2
      cases h
      rw [intsOf_inv h1, rowsD_inv h2]
      rfl
    · cases h
  | .none :: r, _, h => by cases h
  | .bool _ :: r, _, h => by cases h
  | .str _ :: r, _, h => by cases h
  | .list _ :: r, _, h => by cases h
  | .int _ :: r, _, h => by cases h
  | .dict _ :: r, _, h => by cases h
def gSortR : List Da → Option Da
  | [.list ds] => match rowsD ds with
    | some rs => if rs.head? = some [] then some (.list ((rs.mergeSort rle).map dRow)) else none
    | none => none
  | _ => none
theorem rpA_map {K : PySem.W.Frag} {H : Hp} {F : Frz} {α : Type} {f : α → V} {g : α → Da} : ∀ (l : List α), (∀ x ∈ l, Rp K H F (f x) (g x)) → RpA K H F (l.map f) (l.map g)
  | [], _ => .nil
  | x :: l, h => .cons (h x (List.mem_cons_self ..)) (rpA_map l fun y hy => h y (List.mem_cons_of_mem _ hy))
theorem rpA_zip {K : PySem.W.Frag} {H : Hp} {F : Frz} : ∀ {vs : List V} {rs : List (List Int)}, RpA K H F vs (rs.map dRow) → ∀ p ∈ vs.zip rs, Rp K H F p.1 (dRow p.2)
  | [], _, _, p, hp => by simp at hp
  | v :: vs, [], h, p, hp => by simp at hp
  | v :: vs, r :: rs, h, p, hp => by
    cases h with
    | cons a b =>
      rcases List.mem_cons.mp hp with rfl | hp
      · exact a
      · exact rpA_zip b p hp
theorem cd_sortR {K : PySem.W.Frag} : CallD K (rSortR K) gSortR := fun H F xs dx d fo hx hg Q q => by
  unfold gSortR at hg
  split at hg
  · split at hg
    · rename_i rs hrs
      split at hg
      · rename_i hd
        cases hg
        obtain ⟨v, ev, hv⟩ := hx.one
        obtain ⟨a, vs, e, s, t⟩ := hv.list_inv
        rw [rowsD_inv hrs] at t
        have ln : vs.length = rs.length := by have := t.len; rwa [List.length_map] at this
        have z := rpA_zip t
        have e1 : (vs.zip rs).map (·.1) = vs := List.map_fst_zip (by omega)
        have e2 : (vs.zip rs).map (·.2) = rs := List.map_snd_zip (by omega)
        refine ⟨a, vs.zip rs, by rw [ev, e], by rw [e1]; exact s, fun p hp => ?_, by rw [e2]; exact hd, fun p np => ?_⟩
        · obtain ⟨b, ws, e3, r, t3⟩ := (z p hp).tup_inv
          rw [ints_inv t3] at r
          exact ⟨b, e3, r.sq⟩
        · refine q _ _ _ (Gr.new fo np) (rp_newL fo np ?_)
          have m := List.map_mergeSort (r := fun p q : V × List Int => rle p.2 q.2) (s := rle) (f := fun p : V × List Int => p.2) (l := vs.zip rs) (fun p _ q _ => rfl)
          rw [e2] at m
          rw [← m, List.map_map]
          exact rpA_map _ fun p hp => z p (List.mem_mergeSort.mp hp)
      · cases hg
    · cases hg
  · cases hg
end Mir

set_option Elab.async false
set_option linter.all false
set_option maxRecDepth 100000
set_option maxHeartbeats 2000000
namespace Mir
open PySem PySem.Spec PyProof.Rows L2
/-! ### xs.extend(ys), ys a list or a tuple from anywhere -/
theorem ext_meets (l b : Addr) (its its2 : Array Value) (n n2 : Nat) (o : Obj) (hc : o.cls = .type "list" ∨ o.cls = .type "tuple") (hd : o.data = .seq its2 n2) (hz : its.size + its2.size ≤ sizeLine) :
    Meets (Builtin.«list.extend» ⟨[.ref l, .ref b], []⟩) (fun _ R s => s.heap.get? l = some { cls := .type "list", data := .seq its n } ∧ s.heap.get? b = some o ∧ R (.ok (.ret .none)) { s with heap := s.heap.update l (Obj.mapSeq fun x => x ++ its2) }) := .of_wp fun prog w A R s h => by
  obtain ⟨h1, h2, q⟩ := h
  show wpAny (model prog w) A.in1 (Builtin.List.listExtendWith (.ref l) (.ref b) .none) _ _ s
  unfold Builtin.List.listExtendWith
  have ty : ∃ T, s.TypeIs (.ref b) T ∧ (Builtin.List.listSameRef (.ref l) (.ref b) || Value.type T == Value.type "list" || Value.type T == Value.type "tuple") = true := by
    rcases hc with c | c
    · exact ⟨"list", ⟨_, h2, c⟩, by simp⟩
    · exact ⟨"tuple", ⟨_, h2, c⟩, by simp⟩
  obtain ⟨T, ty, tt⟩ := ty
  refine wpAny_bind (wpAny_typeOf ty ?_)
  rw [if_pos tt]
  refine wpAny_bind ?_
  unfold Builtin.List.listItems
  refine wpAny_bind (wpAny_seqItems h2 hd (wpAny_pure ?_))
  refine wpAny_bind ?_
  refine wpAny_bind (wpAny_seqItems h1 rfl (wpAny_pure ?_))
  have tl : (!its.isEmpty && Builtin.List.listTooLong (its.size + its2.size)) = false := by
    have : Builtin.List.listTooLong (its.size + its2.size) = false := decide_eq_false (by omega)
    rw [this, Bool.and_false]
  show wpAny (model prog w) A.in1 (if (!its.isEmpty && Builtin.List.listTooLong (its.size + its2.size)) = true then _ else _) _ _ s
  rw [if_neg (by rw [tl]; exact Bool.false_ne_true)]
  refine wpAny_bind ?_
  show wpAny (model prog w) A.in1 (updateSeq l fun x => x ++ its2) _ _ s
  refine wpAny_updateSeq h1 rfl ?_ (by omega) (by rw [Array.size_append]; omega)
  exact wpAny_pure ⟨_, rfl, q⟩
def rExtA (K : PySem.W.Frag) : V → List V → Hp → VK → Prop := fun x vs H Q => ∃ l b xs zs, x = .ref l ∧ vs = [.ref b] ∧ H l = some (.lst xs) ∧ (SqL K H b zs ∨ SqT K H b zs) ∧ xs.length + zs.length ≤ sizeLine ∧ Q .non (upd H l (.lst (xs ++ zs)))
theorem mt_extA {X : Cx} : MtM X "list.extend" (rExtA X.K) := by
  intro pins s σ H x vs v us Q I rx r h
  obtain ⟨l, b, xs, zs, e1, e2, hl, hb, hz, q⟩ := h
  subst e1 e2
  cases (show v = Value.ref l from rx)
  obtain ⟨u, e, ru⟩ := vals1 r
  subst e
  cases (show u = Value.ref b from ru)
  obtain ⟨its, n, r1, h1, z1⟩ := I.lst hl
  have src : ∃ (o : Obj) (its2 : List Value) (n2 : Nat), s.heap.get? b = some o ∧ (o.cls = .type "list" ∨ o.cls = .type "tuple") ∧ o.data = .seq its2.toArray n2 ∧ Vals zs its2 := by
    rcases hb with hb | hb
    · obtain ⟨i2, r2, ⟨o, n2, o2, k2, m2, g2⟩, _⟩ := I.list hb
      exact ⟨o, i2, n2, o2, .inl k2, g2, r2⟩
    · obtain ⟨i2, r2, ⟨o, o2, k2, n2, g2⟩, _⟩ := I.tuple hb
      exact ⟨o, i2, n2, o2, .inr k2, g2, r2⟩
  obtain ⟨o, its2, n2, o2, k2, g2, r2⟩ := src
  have e1 := r1.length
  have e2 := r2.length
  refine call_meets PySem.F.slot_list_extend ⟨_, h1, rfl⟩ PySem.F.entry_list_extend (PySem.F.args_list_extend_2 _ _) (ext_meets l b its.toArray its2.toArray n n2 o k2 g2 (by rw [List.size_toArray, List.size_toArray, ← e1, ← e2]; exact hz)) ⟨h1, o2, ?_⟩
  exact ⟨.non, _, I.lset (ys := xs ++ zs) (its' := its ++ its2) (f := fun x => x ++ its2.toArray) hl h1 (by simp) (r1.append r2) (by rw [List.length_append]; exact hz), rfl, q⟩
section
variable {X : Cx} {ow : List Nat} {pos : Pos}
/-- xs.extend(e), e an item -/
def mExtE (i : Nat) (f : Md Da) : Sm := withL i fun _ => mDo f fun d => withL i fun ds ρ => match asS d with
  | some es => if ds.length + es.length ≤ 100000 then some (.nx (ρ.set i (some (.list (ds ++ es))))) else none
  | none => none
theorem s_extE {i : Nat} {cl : Expr} {fe : Md Da} (h : PE X cl (tBM X.K "list" (rExtA X.K) (tVar i) (tCons (tE X.K ow fe) tNil))) (hi : i ∈ ow) (hs : swapsWith cl none pos.line X.env = pure false := by rfl) : GS X ow (.Expr cl pos) (mExtE i fe) := ps_w (ps_expr h hs) fun D σ H ⟨B, F, ρ, o, c, hf, a⟩ => by
  obtain ⟨ds0, g0, hf⟩ := with_inv hf
  obtain ⟨d, ρ1, h1, hf⟩ := do_inv hf
  obtain ⟨ds, g1, hf⟩ := with_inv hf
  revert hf
  split
  · rename_i es hes
    intro hf
    split at hf
    · rename_i hz
      cases hf
      obtain ⟨p, vs0, e1, e2, e3, e4⟩ := c.ownL hi g0
      refine ⟨.ref p, e1, .inl ⟨rfl, vs0, SqL.of e2⟩, B, F, ρ, d, ρ1, c, h1, fun v H1 F1 c1 l1 r1 => ?_⟩
      obtain ⟨p', vs, f1, f2, f3, f4⟩ := c1.ownL hi g1
      rw [e1] at f1
      cases f1
      obtain ⟨b, ys, ev, sq, r2⟩ := sq_of r1 hes
      have up := But.upd (vs' := vs ++ ys) c1.fo f2
      have le := up.le c1.fo f3 f2 upd_same
      refine ⟨p, b, vs, ys, rfl, by rw [ev], f2, sq, by rw [f4.len, r2.len]; exact Evl.sz_of hz, ?_⟩
      exact a σ _ F1 (c1.mut hi (own_get g1) e1 f2 f3 up upd_same ((f4.st le.st).app (r2.st le.st))) (l1.trans le)
    · cases hf
  · exact fun hf => nomatch hf
end
end Mir

set_option Elab.async false
set_option linter.all false
set_option maxRecDepth 100000
set_option maxHeartbeats 4000000
namespace Mir
open PySem PySem.Spec PyProof.Rows L2
section
variable {X : Cx} {ow : List Nat} {fe : Md Da} {fl : Md (List Da)}
/-- a, b = e, new list; through a tuple -/
theorem s_parOT {i j : Nat} {st : Stmt} (h : PS X st (tAsg (tTup (tCons (tE X.K ow fe) (tCons (tL X.K ow fl) tNil))) (gTup X.K 2 (gCons (gName i) (gCons (gName j) gNil))))) (hi : i ∉ ow) (hj : j ∈ ow) (h0 : j ≠ 0) : GS X ow st (mParO i j fe fl) := ps_w h fun D σ H ⟨B, F, ρ, o, c, hf, a⟩ => by
  obtain ⟨d, ρ1, h1, hf⟩ := do_inv hf
  obtain ⟨ds, ρ2, h2, hf⟩ := do_inv hf
  cases hf
  refine ⟨B, F, ρ, d, ρ1, c, h1, fun v H1 F1 c1 l1 r1 => ⟨B, F1, ρ1, ds, ρ2, c1, h2, fun p vs H2 F2 c2 l2 np hp nf hn r2 => ⟨show 2 ≤ sizeLine by decide, fun t nt => ?_⟩⟩⟩
  have gr := Gr.new0 (o := .tup [v, .ref p]) c2.fo nt
  have c3 := c2.grow gr
  have hp3 : upd H2 t (.tup [v, .ref p]) p = some (.lst vs) := gr.ex p _ hp
  have hn2 : ∀ (k : Nat) (x : Da), (ρ2.set i (some d))[k]? = some (some x) → k ∈ ow → (σ.set i (some v))[k]? ≠ some (some (.ref p)) := fun k x hk ho => by
    have ne : i ≠ k := fun z => hi (z ▸ ho)
    rw [List.getElem?_set_ne ne] at hk ⊢
    exact hn k x hk ho
  have st3 := gr.stay c2.fo
  exact ⟨t, _, rfl, SqT.of upd_same, rfl, v, _, rfl, .ref p, _, rfl, rfl, a _ _ F2 ((c3.set ((r1.st l2.st).st st3) hi).setO hj h0 hp3 nf (c1.new np) hn2 (r2.st st3)) ((l1.trans l2).trans (gr.le c2.fo))⟩
end
end Mir

set_option Elab.async false
set_option linter.all false
set_option maxRecDepth 100000
set_option maxHeartbeats 4000000
namespace Mir
open PySem PySem.Spec PyProof.Rows L2
/-! ### sorted(set(xs)), a long list with few different numbers -/
section
variable {X : Cx}
theorem setR_few {w : World} {h : Heap} {a : Addr} {ns : List Int} {c : Nat} (R : SetR w h a (fun j => decide (j ∈ ns)) c) : c ≤ (sset ns).length := by
  obtain ⟨o, es, ep, t, _, _, _, _, nd, mem, _, _, sz, _⟩ := R
  have l1 : (List.map keyOf es.toList).length = c := by rw [List.length_map, Array.length_toList]; exact sz
  rw [← l1]
  refine nd.length_le_of_subset fun k hk => ?_
  rw [mem_sset]
  exact of_decide_eq_true ((mem k).mpr hk)
def rSetL2 (K : PySem.W.Frag) (w : World) : List V → Hp → VK → Prop := fun xs H Q => ∃ (l : Addr) (ns : List Int), xs = [.ref l] ∧ SqL K H l (ns.map V.int) ∧ ns.length < 4000 ∧
  ∀ (p : Addr) (c : Nat), H p = none → c ≤ (sset ns).length → Q (.ref p) (upd H p (SetO w p (fun j => decide (j ∈ ns)) c))
theorem cr_setL2 (hc : X.calm = true) : CallR X (.type "set") (rSetL2 X.K X.w) := by
  intro pins s σ H xs us Q I r h
  obtain ⟨l, ns, rfl, hs, h64, q⟩ := h
  rw [Vals.ref1 r]
  obtain ⟨its, rv, ht, hz⟩ := I.list hs
  refine set_of_list ns (I.ok.hd hc) ht.isList (by simpa using ints_of_vals rv) (by unfold scanBound; omega) fun h1 k c R hcn kp => ?_
  exact ⟨.ref _, _, I.laid (t' := k) kp (Nat.le_refl _) (setO_new R), rfl, q _ c (I.hok.fresh (Nat.le_refl _)) (setR_few R)⟩
end
def gSset2 : Da → Option (List Da)
  | .list ds => (intsD ds).bind fun ns => if ns.length < 4000 ∧ (sset ns).length < 64 then some ((sset ns).map .int) else none
  | _ => none
section
variable {X : Cx} {ow : List Nat} {e : Expr} {fe : Md Da} {p p2 pos pos2 : Pos}
theorem sset_go2 {H : Hp} {F : Frz} {v : V} {ds : List Da} {es : List Da} (fo : Fo F H) (hv : Bw X.K H F v (.list ds)) (hg : gSset2 (.list ds) = some es) {Q : VK}
    (q : ∀ (l : Addr) (ys : List V) (H1 : Hp), Gr F H F H1 → H1 l = none → RpA X.K (upd H1 l (.lst ys)) F ys es → Q (.ref l) (upd H1 l (.lst ys))) : rSetL2 X.K X.w [v] H (fun v2 H2 => rSortedSet X.w [v2] H2 Q) := by
  unfold gSset2 at hg
  obtain ⟨ns, hb, e2⟩ := Option.bind_eq_some_iff.mp hg
  split at e2
  · rename_i h64
    cases e2
    obtain ⟨a, vs, e, s, t⟩ := hv.list_inv
    rw [intsD_go hb] at t
    rw [ints_inv t] at s
    refine ⟨a, ns, by rw [e], s, h64.1, fun p c np hc => ⟨p, _, c, rfl, upd_same, by have := h64.2; omega, fun ms p3 ps hm hl np3 => ?_⟩⟩
    have e4 : ms = sset ns := sset_one ps (sset_sorted ns) fun k => by
      rw [hm k, mem_sset]
      simp
    rw [e4]
    have g1 := Gr.new0 (o := SetO X.w p (fun j => decide (j ∈ ns)) c) fo np
    exact q p3 _ _ g1 np3 (ints_mk)
  · cases e2
theorem l_sset2 (hc : X.calm = true) (hs : Gl X "set") (hsm : X.mg "set" = none) (hg : Gl X "sorted") (hm : X.mg "sorted" = none) (he : GE X ow e fe) (h1 : starEach [e] X.env = (false, eval e X.env) :: starEach [] X.env := by rfl) (h2 : (backTo pos2 (starEach [] X.env)).any (·.1) = false := by rfl)
    (h3 : starEach [.Call (.Name "set" p2) [e] [] pos2] X.env = (false, eval (.Call (.Name "set" p2) [e] [] pos2) X.env) :: starEach [] X.env := by rfl) (h4 : (backTo pos (starEach [] X.env)).any (·.1) = false := by rfl) :
    GL X ow (.Call (.Name "sorted" p) [.Call (.Name "set" p2) [e] [] pos2] [] pos) (mBind fe fun d => mOpt (gSset2 d)) :=
  pe_w (pe_callB (cr_sortedSet hc) hg hm (by decide +kernel) (pa_cons (pe_callTy (cr_setL2 hc) hs hsm (by decide +kernel) (pa_cons he pa_nil h1) (by decide) (by decide) h1 h2) pa_nil h3) (by decide) (by decide) h3 h4) fun σ H Q ⟨B, F, ρ, d, ρ', c, hf, q⟩ => by
  obtain ⟨d0, ρ1, h1, hf⟩ := bind_inv hf
  obtain ⟨hg2, rfl⟩ := opt_inv hf
  refine ⟨B, F, ρ, d0, _, c, h1, fun v H1 F1 c1 l1 r1 => ?_⟩
  cases d0 with
  | list ds =>
    refine sset_go2 c1.fo (.rp r1) hg2 fun l ys H2 g2 nl t => ?_
    have g3 := Gr.new0 (o := .lst ys) g2.fo nl
    have c2 := c1.grow g2
    have l2 := l1.trans (g2.le c1.fo)
    exact q l ys _ F1 (c2.grow g3) (l2.trans (g3.le c2.fo)) (l2.back nl) upd_same (fun z => c2.fo l z nl) (c2.away nl) t
  | _ => cases hg2
end
end Mir

set_option Elab.async false
set_option linter.all false
set_option maxRecDepth 100000
set_option maxHeartbeats 2000000
namespace Mir
open PySem PySem.Spec PyProof.Rows L2
/-! ### min of a list of ints -/
def lmin (n : Int) (ns : List Int) : Int := ns.foldl min n
theorem lmin_mem : ∀ (ns : List Int) (n : Int), lmin n ns ∈ n :: ns
  | [], n => List.mem_cons_self
  | m :: ns, n => by
    have := lmin_mem ns (min n m)
    show lmin (min n m) ns ∈ _
    rcases List.mem_cons.mp this with h | h
    · rw [h]
      rcases Int.le_total n m with q | q
      · rw [Int.min_eq_left q]; exact List.mem_cons_self
      · rw [Int.min_eq_right q]; exact List.mem_cons_of_mem _ List.mem_cons_self
    · exact List.mem_cons_of_mem _ (List.mem_cons_of_mem _ h)
theorem lmin_le : ∀ (ns : List Int) (n y : Int), y ∈ n :: ns → lmin n ns ≤ y
  | [], n, y, h => by rw [List.mem_singleton.mp h]; exact Int.le_refl _
  | m :: ns, n, y, h => by
    show lmin (min n m) ns ≤ y
    rcases List.mem_cons.mp h with rfl | h
    · exact Int.le_trans (lmin_le ns _ _ List.mem_cons_self) (Int.min_le_left _ _)
    · rcases List.mem_cons.mp h with rfl | h
      · exact Int.le_trans (lmin_le ns _ _ List.mem_cons_self) (Int.min_le_right _ _)
      · exact lmin_le ns _ y (List.mem_cons_of_mem _ h)
def gMinL : List Da → Option Da
  | [.list ds] => match intsD ds with
    | some (n :: ns) => some (.int (lmin n ns))
    | _ => none
  | _ => none
theorem cd_minL {K : PySem.W.Frag} : CallD K (rMin K) gMinL := fun H F xs dx d fo hx hg Q q => by
  unfold gMinL at hg
  split at hg
  · split at hg
    · rename_i n ns hb
      cases hg
      obtain ⟨v, ev, hv⟩ := hx.one
      obtain ⟨a, vs, e, s, t⟩ := hv.list_inv
      rw [intsD_go hb] at t
      rw [ints_inv t] at s
      refine ⟨a, n :: ns, by rw [ev, e], s, Nat.succ_pos _, fun m hm hle => ?_⟩
      have e2 : m = lmin n ns := Int.le_antisymm (hle _ (lmin_mem ns n)) (lmin_le ns n m hm)
      rw [e2]
      exact q _ H F (Gr.refl fo) (.int _)
    · cases hg
  · cases hg
end Mir

set_option Elab.async false
set_option linter.all false
set_option maxRecDepth 100000
set_option maxHeartbeats 2000000
namespace Mir
open PySem PySem.Spec PyProof.Rows L2
/-! ### xs.count(b), a list of bools -/
def rCntB (K : PySem.W.Frag) : V → List V → Hp → VK → Prop := fun x xs H Q => ∃ (p : Addr) (bs : List Bool) (b : Bool), x = .ref p ∧ xs = [.bl b] ∧ SqL K H p (bs.map V.bl) ∧ Q (.int (bs.count b : Nat)) H
def isB_ (b : Bool) : Value → Bool
  | .bool c => c == b
  | _ => false
theorem cnt_vals (b : Bool) : ∀ {bs : List Bool} {its : List Value}, Vals (bs.map V.bl) its → its.countP (isB_ b) = bs.count b
  | [], _, h => by cases h; rfl
  | c :: bs, _, h => by
    cases h with
    | cons a t =>
      cases (show _ = Value.bool c from a)
      rw [List.countP_cons, List.count_cons, cnt_vals b t]
      rfl
theorem mem_bools : ∀ {bs : List Bool} {its : List Value}, Vals (bs.map V.bl) its → ∀ u ∈ its, ∃ c, u = Value.bool c
  | [], _, h, u, hu => by cases h; cases hu
  | c :: bs, _, h, u, hu => by
    cases h with
    | cons a t =>
      rcases List.mem_cons.mp hu with rfl | hu
      · exact ⟨c, a⟩
      · exact mem_bools t u hu
theorem mt_cntB {X : Cx} : MtR X "list.count" (rCntB X.K) := by
  intro pins s σ H x xs v us Q I rx r h
  obtain ⟨p, bs, b, e1, e2, sq, q⟩ := h
  subst e1 e2
  cases (show v = Value.ref p from rx)
  obtain ⟨u, e, ru⟩ := vals1 r
  subst e
  cases (show u = Value.bool b from ru)
  obtain ⟨its, rv, ⟨⟨c1, d1, da1, sl1⟩, n1, o1, k1, m1, g1⟩, _⟩ := I.list sq
  simp only at k1 g1
  subst k1 g1
  refine call_meets PySem.F.slot_list_count ⟨_, o1, rfl⟩ PySem.F.entry_list_count (PySem.F.args_list_count_2 _ _) (SeqAt.list_countAt p its.toArray n1 d1 sl1 (.bool b) (isB_ b)) ⟨o1, fun y hy => ?_, ?_⟩
  · obtain ⟨c, rfl⟩ := mem_bools rv y (by simpa using hy)
    exact SeqAt.EqAt.bool_bool c b
  · have e : (its.toArray.toList.countP (isB_ b)) = bs.count b := by rw [List.toList_toArray]; exact cnt_vals b rv
    rw [e]
    exact ⟨.int (bs.count b : Nat), H, I.tok _, ⟨_, rfl⟩, q⟩
def boolsD : List Da → Option (List Bool)
  | [] => some []
  | .bool b :: r => (boolsD r).map (b :: ·)
  | _ :: _ => none
theorem boolsD_inv : ∀ {ds : List Da} {bs : List Bool}, boolsD ds = some bs → ds = bs.map .bool
  | [], _, h => by cases h; rfl
  | .bool b :: r, bs, h => by
    obtain ⟨ks, e, e2⟩ := Option.map_eq_some_iff.mp (show (boolsD r).map (b :: ·) = some bs from h)
    subst e2
    rw [boolsD_inv e]
    rfl
  | .none :: r, _, h => by cases h
  | .int _ :: r, _, h => by cases h
  | .str _ :: r, _, h => by cases h
  | .list _ :: r, _, h => by cases h
  | .tuple _ :: r, _, h => by cases h
  | .dict _ :: r, _, h => by cases h
def gCnt : Da → Da → Option Da
  | .list ds, .bool b => (boolsD ds).map fun bs => .int (bs.count b : Nat)
  | _, _ => none
section
variable {X : Cx} {ow : List Nat} {cl : Expr} {fx fe : Md Da}
theorem e_cntB (h : PE X cl (tBM X.K "list" (rCntB X.K) (tE X.K ow fx) (tCons (tE X.K ow fe) tNil))) : GE X ow cl (mOp gCnt fx fe) := pe_w h fun σ H Q ⟨B, F, ρ, d, ρ', c, hf, q⟩ => by
  obtain ⟨x, ρ1, h1, hf⟩ := bind_inv hf
  obtain ⟨y, ρ2, h2, hf⟩ := bind_inv hf
  obtain ⟨hg, rfl⟩ := opt_inv hf
  unfold gCnt at hg
  split at hg
  · rename_i ds b _
    obtain ⟨bs, hb, e⟩ := Option.map_eq_some_iff.mp hg
    subst e
    refine ⟨B, F, ρ, _, ρ1, c, h1, fun v H1 F1 c1 l1 r1 => ?_⟩
    obtain ⟨a, vs, ev, rl, t⟩ := r1.list_inv
    subst ev
    refine ⟨.inl ⟨rfl, vs, rl.sq⟩, B, F1, ρ1, _, _, c1, h2, fun w H2 F2 c2 l2 r2 => ?_⟩
    rw [boolsD_inv hb] at t
    have sq := (rl.stay l2.st).sq
    rw [bools_inv t] at sq
    refine ⟨a, bs, b, rfl, by rw [r2.bool_inv], sq, ?_⟩
    exact q _ H2 F2 c2 (l1.trans l2) (.int _)
  · cases hg
end
end Mir

set_option Elab.async false
set_option linter.all false
set_option maxRecDepth 100000
set_option maxHeartbeats 2000000
namespace Mir
open PySem PySem.Spec PyProof.Rows L2
/-! ### max and min of a pair of ints -/
def rMmT (K : PySem.W.Frag) (up : Bool) : List V → Hp → VK → Prop := fun xs H Q => ∃ (a : Addr) (i j : Int), xs = [.ref a] ∧ SqT K H a [.int i, .int j] ∧ Q (.int (if up then (if i < j then j else i) else (if j < i then j else i))) H
theorem alike2 (i j : Int) : W.AlikeAll [.int i, .int j] := by
  refine ⟨fun x hx y hy => ?_, fun x hx => ?_⟩
  · simp only [List.mem_cons, List.not_mem_nil, or_false] at hx hy
    rcases hx with rfl | rfl <;> rcases hy with rfl | rfl <;> rfl
  · simp only [List.mem_cons, List.not_mem_nil, or_false] at hx
    rcases hx with rfl | rfl <;> exact fun h => nomatch h
section
variable {X : Cx}
theorem cr_maxT (hc : X.calm = true) (hA : X.A.units + 65 < cLine) : CallR X (.builtin "max") (rMmT X.K true) := by
  intro pins s σ H xs us Q I r h
  obtain ⟨a, i, j, e, sq, q⟩ := h
  subst e
  obtain ⟨u, e, ru⟩ := vals1 r
  subst e
  cases (show u = Value.ref a from ru)
  obtain ⟨its, rv, it, _⟩ := I.tuple sq
  cases rv with
  | cons r1 rr =>
    cases rr with
    | cons r2 rr =>
      cases rr
      obtain ⟨t, rfl⟩ := (show ∃ t, _ = Value.int i t from r1)
      obtain ⟨u, rfl⟩ := (show ∃ t, _ = Value.int j t from r2)
      have it' : s.heap.IsTuple a #[.int i t, .int j u] := it
      refine W.max_tuple_data (I.ok.hd hc) it' (.cons (.int i t) (.cons (.int j u) .nil)) (alike2 i j) (by show X.A.units + 1 + 0 < cLine; omega) fun k v h' tk bs hk rd old => ?_
      have e : W.maxD (.int i) [.int j] = .int (if i < j then j else i) := by
        show (if W.dataLt (.int i) (.int j) = true then PyData.int j else .int i) = _
        rw [W.dataLt_int]
        by_cases w : i < j
        · rw [decide_eq_true w, if_pos rfl, if_pos w]
        · rw [decide_eq_false w, if_neg Bool.false_ne_true, if_neg w]
      rw [e] at rd
      cases rd with
      | int _ t' => exact ⟨.int (if i < j then j else i), H, I.kept old, ⟨t', rfl⟩, q⟩
theorem cr_minT (hc : X.calm = true) (hA : X.A.units + 65 < cLine) : CallR X (.builtin "min") (rMmT X.K false) := by
  intro pins s σ H xs us Q I r h
  obtain ⟨a, i, j, e, sq, q⟩ := h
  subst e
  obtain ⟨u, e, ru⟩ := vals1 r
  subst e
  cases (show u = Value.ref a from ru)
  obtain ⟨its, rv, it, _⟩ := I.tuple sq
  cases rv with
  | cons r1 rr =>
    cases rr with
    | cons r2 rr =>
      cases rr
      obtain ⟨t, rfl⟩ := (show ∃ t, _ = Value.int i t from r1)
      obtain ⟨u, rfl⟩ := (show ∃ t, _ = Value.int j t from r2)
      have it' : s.heap.IsTuple a #[.int i t, .int j u] := it
      refine W.min_tuple_data (I.ok.hd hc) it' (.cons (.int i t) (.cons (.int j u) .nil)) (alike2 i j) (by show X.A.units + 1 + 0 < cLine; omega) fun k v h' tk bs hk rd old => ?_
      have e : W.minD (.int i) [.int j] = .int (if j < i then j else i) := by
        show (if W.dataLt (.int j) (.int i) = true then PyData.int j else .int i) = _
        rw [W.dataLt_int]
        by_cases w : j < i
        · rw [decide_eq_true w, if_pos rfl, if_pos w]
        · rw [decide_eq_false w, if_neg Bool.false_ne_true, if_neg w]
      rw [e] at rd
      cases rd with
      | int _ t' => exact ⟨.int (if j < i then j else i), H, I.kept old, ⟨t', rfl⟩, q⟩
end
def gMmT (up : Bool) : List Da → Option Da
  | [.tuple [.int i, .int j]] => some (.int (if up then (if i < j then j else i) else (if j < i then j else i)))
  | _ => none
theorem cd_mmT {K : PySem.W.Frag} {up : Bool} : CallD K (rMmT K up) (gMmT up) := fun H F xs dx d fo hx hg Q q => by
  unfold gMmT at hg
  split at hg
  · rename_i i j
    cases hg
    obtain ⟨v, ev, hv⟩ := hx.one
    obtain ⟨a, vs, e, s, t, _⟩ := hv.tup_inv
    cases t with
    | cons r1 rr =>
      cases rr with
      | cons r2 rr =>
        cases rr
        rw [r1.int_inv, r2.int_inv] at s
        exact ⟨a, i, j, by rw [ev, e], s, q _ H F (Gr.refl fo) (.int _)⟩
  · cases hg
end Mir

set_option Elab.async false
set_option linter.all false
set_option maxRecDepth 100000
set_option maxHeartbeats 4000000
namespace Mir
open PySem PySem.Spec PyProof.Rows L2
/-! ### dicts that only this def holds: keys are ints or texts -/
def sameK : Da → Da → Bool
  | .int i, .int j => decide (i = j)
  | .str x, .str y => decide (x = y)
  | _, _ => false
def keyQ : Da → Option Key
  | .int i => some (.inl i)
  | .str x => some (.inr x)
  | _ => none
theorem keyQ_inv {d : Da} {k : Key} (h : keyQ d = some k) : d = keyD k := by
  unfold keyQ at h
  split at h <;> cases h <;> rfl
theorem same_key (a b : Key) : sameK (keyD a) (keyD b) = decide (a = b) := by
  cases a with
  | inl i => cases b with
    | inl j => show decide (i = j) = _; exact decide_eq_decide.mpr ⟨fun h => congrArg _ h, fun h => Sum.inl.inj h⟩
    | inr y => exact (decide_eq_false (fun h => nomatch h)).symm
  | inr x => cases b with
    | inl j => exact (decide_eq_false (fun h => nomatch h)).symm
    | inr y => show decide (x = y) = _; exact decide_eq_decide.mpr ⟨fun h => congrArg _ h, fun h => Sum.inr.inj h⟩
def hasD (t : List (Da × Da)) (k : Da) : Bool := t.any fun p => sameK p.1 k
def getD (t : List (Da × Da)) (k : Da) : Option Da := (t.find? fun p => sameK p.1 k).map (·.2)
def putD (t : List (Da × Da)) (k d : Da) : List (Da × Da) := if hasD t k = true then t.map fun p => if sameK p.1 k = true then (p.1, d) else p else t ++ [(k, d)]
section
variable {K : PySem.W.Frag} {H : Hp} {F : Frz} {v : V} {d : Da}
theorem rp_key {k : Key} (h : Rp K H F v (keyD k)) : v = kV k := by
  cases k with
  | inl i => exact h.int_inv
  | inr x => exact h.str_inv
theorem RpD.len : ∀ {r : List (Key × V)} {t : List (Da × Da)}, RpD K H F r t → r.length = t.length
  | _, _, .nil => rfl
  | _, _, .cons _ t => congrArg (· + 1) (RpD.len t)
theorem RpD.has (k : Key) : ∀ {r : List (Key × V)} {t : List (Da × Da)}, RpD K H F r t → (r.any fun kv => decide (kv.1 = k)) = hasD t (keyD k)
  | _, _, .nil => rfl
  | _, _, .cons (k := k1) _ t => by
    unfold hasD
    rw [List.any_cons, List.any_cons, same_key, RpD.has k t]
    rfl
theorem RpD.app : ∀ {r r' : List (Key × V)} {t t' : List (Da × Da)}, RpD K H F r t → RpD K H F r' t' → RpD K H F (r ++ r') (t ++ t')
  | _, _, _, _, .nil, h => h
  | _, _, _, _, .cons a t, h => .cons a (RpD.app t h)
theorem RpD.upd (k : Key) (h : Rp K H F v d) : ∀ {r : List (Key × V)} {t : List (Da × Da)}, RpD K H F r t → RpD K H F (r.map fun kv => if kv.1 = k then (kv.1, v) else kv) (t.map fun p => if sameK p.1 (keyD k) = true then (p.1, d) else p)
  | _, _, .nil => .nil
  | _, _, .cons (k := k1) (v := v1) (d := d1) a t => by
    rw [List.map_cons, List.map_cons]
    show RpD K H F ((if k1 = k then (k1, v) else (k1, v1)) :: _) ((if sameK (keyD k1) (keyD k) = true then (keyD k1, d) else (keyD k1, d1)) :: _)
    rw [same_key]
    by_cases q : k1 = k
    · rw [if_pos q, if_pos (decide_eq_true q)]
      exact .cons h (RpD.upd k h t)
    · rw [if_neg q, if_neg (by rw [decide_eq_false q]; exact Bool.false_ne_true)]
      exact .cons a (RpD.upd k h t)
theorem RpD.put {r : List (Key × V)} {t : List (Da × Da)} (k : Key) (h : Rp K H F v d) (s : RpD K H F r t) : RpD K H F (putK r k v) (putD t (keyD k) d) := by
  unfold putK putD
  rw [s.has k]
  by_cases q : hasD t (keyD k) = true
  · rw [if_pos q, if_pos q]
    exact s.upd k h
  · rw [if_neg q, if_neg q]
    exact s.app (.cons h .nil)
theorem RpD.get (k : Key) : ∀ {r : List (Key × V)} {t : List (Da × Da)}, RpD K H F r t → (∀ e, getD t (keyD k) = some e → ∃ v, valV r k = some v ∧ Rp K H F v e) ∧ (getD t (keyD k) = none → valV r k = none)
  | _, _, .nil => ⟨(fun e h => nomatch h), fun _ => rfl⟩
  | _, _, .cons (k := k1) (v := v1) (d := d1) (r := r) (s := s) a t => by
    obtain ⟨i1, i2⟩ := RpD.get k t
    have e1 : getD ((keyD k1, d1) :: s) (keyD k) = if k1 = k then some d1 else getD s (keyD k) := by
      unfold getD
      rw [List.find?_cons]
      show Option.map _ (match sameK (keyD k1) (keyD k) with | true => some (keyD k1, d1) | false => _) = _
      rw [same_key]
      by_cases q : k1 = k
      · rw [decide_eq_true q, if_pos q]
        rfl
      · rw [decide_eq_false q, if_neg q]
    rw [e1]
    by_cases q : k1 = k
    · rw [if_pos q, valV_pos (p := (k1, v1)) q]
      exact ⟨fun e h => ⟨v1, rfl, by cases h; exact a⟩, fun h => nomatch h⟩
    · rw [if_neg q, valV_neg (p := (k1, v1)) q]
      exact ⟨i1, i2⟩
end
/-- the dict of a slot -/
def ownD (i : Nat) (ρ : Sto) : Option (List (Da × Da)) := match ρ[i]? with
  | some (some (.dict ds)) => some ds
  | _ => none
theorem ownD_get {i : Nat} {ρ : Sto} {ds : List (Da × Da)} (h : ownD i ρ = some ds) : ρ[i]? = some (some (.dict ds)) := by
  unfold ownD at h
  split at h
  · cases h; assumption
  · cases h
def withD {α : Type} (i : Nat) (k : List (Da × Da) → Sto → Option α) : Sto → Option α := fun ρ => match Mir.ownD i ρ with
  | some ds => k ds ρ
  | none => none
theorem withD_inv {α : Type} {i : Nat} {k : List (Da × Da) → Sto → Option α} {ρ : Sto} {o : α} (h : withD i k ρ = some o) : ∃ ds, Mir.ownD i ρ = some ds ∧ k ds ρ = some o := by
  unfold withD at h
  split at h
  · exact ⟨_, by assumption, h⟩
  · cases h
section
variable {X : Cx} {ow : List Nat} {e a b : Expr} {fe fk fv : Md Da} {p pos pos' : Pos}
theorem Cr.ownD {K : PySem.W.Frag} {B : Bs} {σ : L2.St} {H : Hp} {F : Frz} {ρ : Sto} {i : Nat} {ds : List (Da × Da)} (c : Cr K B ow σ H F ρ) (hi : i ∈ ow) (h : Mir.ownD i ρ = some ds) :
    ∃ p kvs, σ[i]? = some (some (.ref p)) ∧ H p = some (.dK kvs) ∧ ¬ F p ∧ RpD K H F kvs ds := by
  obtain ⟨p, vs, e2, e3, e4, _, e6⟩ := c.ownK hi (ownD_get h)
  exact ⟨p, vs, e2, e3, e4, e6⟩
/-- x = {} -/
def mSetD (i : Nat) : Sm := fun ρ => some (.nx (ρ.set i (some (.dict []))))
theorem s_setD {i : Nat} {x : Str} (hN : X.N.Nodup) (hi : X.N[i]? = some x) (hx : Loc X.env.scope x) (ho : i ∈ ow) (h0 : i ≠ 0) (hs : swapsWith (.Dict [] [] p) (some (.Name x pos')) pos.line X.env = pure false := by rfl)
    (hf : X.fn x = true ∨ X.env.scope.names.lookup x = some .local := by first | exact .inl rfl | exact .inr rfl) : GS X ow (.Assign [.Name x pos'] (.Dict [] [] p) pos) (mSetD i) := ps_w (ps_set hN hi hx pe_dnewK hs hf) fun D σ H ⟨B, F, ρ, o, c, hf, a⟩ => by
  cases hf
  intro q nq
  have gr := Gr.new0 (o := .dK []) c.fo nq
  exact a _ _ F ((c.grow gr).setOw ho h0 upd_same (fun z => c.fo q z nq) (c.new nq) (c.away nq) (.dct .nil)) (gr.le c.fo)
/-- x[k] = v -/
def mPutD (j : Nat) (fk fv : Md Da) : Sm := mDo fv fun v => withD j fun _ => mDo fk fun k => withD j fun t ρ => if (keyQ k).isSome = true ∧ t.length < 100000 then some (.nx (ρ.set j (some (.dict (putD t k v))))) else none
theorem s_putD {j : Nat} {o i : Expr} (hu : X.A.units + 1 < cLine) (h : PE X o (tVar j)) (hi : GE X ow i fk) (he : GE X ow e fv) (hj : j ∈ ow) (hs : swapsWith e (some (.Subscript o i pos')) pos.line X.env = pure false := by rfl) : GS X ow (.Assign [.Subscript o i pos'] e pos) (mPutD j fk fv) :=
  ps_w (ps_dput hu h hi he hs) fun D σ H ⟨B, F, ρ, o, c, hf, a⟩ => by
  obtain ⟨d, ρ1, h1, hf⟩ := do_inv hf
  obtain ⟨t0, g0, hf⟩ := withD_inv hf
  obtain ⟨x, ρ2, h2, hf⟩ := do_inv hf
  obtain ⟨t, g1, hf⟩ := withD_inv hf
  split at hf
  · rename_i hz
    cases hf
    obtain ⟨k, hk⟩ := Option.isSome_iff_exists.mp hz.1
    have ek := keyQ_inv hk
    subst ek
    refine ⟨B, F, ρ, d, ρ1, c, h1, fun v H1 F1 c1 l1 r1 => ?_⟩
    obtain ⟨p0, kvs0, e1, _⟩ := c1.ownD hj g0
    refine ⟨.ref p0, e1, B, F1, ρ1, _, ρ2, c1, h2, fun w H2 F2 c2 l2 r2 => ?_⟩
    obtain ⟨p, kvs, f1, f2, f3, f4⟩ := c2.ownD hj g1
    rw [e1] at f1
    cases f1
    have up := But.updO (o1' := .dK (putK kvs k v)) c2.fo f2
    have le := up.le c2.fo f3 f2 upd_same
    have ew := rp_key r2
    subst ew
    refine ⟨p0, _, rfl, DPut.k f2 (by rw [f4.len]; exact Evl.sz_lt hz.2), ?_⟩
    exact a σ _ F2 (c2.mutO hj (ownD_get g1) e1 f2 f3 up upd_same (.dct (RpD.put k ((r1.st l2.st).st le.st) (f4.st le.st)))) ((l1.trans l2).trans le)
  · cases hf
/-- x[k] -/
def mGetD (j : Nat) (fk : Md Da) : Md Da := withD j fun _ => mBind fk fun k => withD j fun t => mOpt (if (keyQ k).isSome = true then getD t k else none)
theorem e_getD {j : Nat} {o i : Expr} (hu : X.A.units + 1 < cLine) (h : PE X o (tVar j)) (hi : GE X ow i fk) (hj : j ∈ ow) (hs : NoSl i) : GE X ow (.Subscript o i pos) (mGetD j fk) :=
  pe_w (pe_dget hu h hi hs) fun σ H Q ⟨B, F, ρ, d, ρ', c, hf, q⟩ => by
  obtain ⟨t0, g0, hf⟩ := withD_inv hf
  obtain ⟨x, ρ1, h1, hf⟩ := bind_inv hf
  obtain ⟨t, g1, hf⟩ := withD_inv hf
  obtain ⟨hg, rfl⟩ := opt_inv hf
  split at hg
  · rename_i hz
    obtain ⟨k, hk⟩ := Option.isSome_iff_exists.mp hz
    have ek := keyQ_inv hk
    subst ek
    obtain ⟨p0, kvs0, e1, _⟩ := c.ownD hj g0
    refine ⟨.ref p0, e1, B, F, ρ, _, _, c, h1, fun w H1 F1 c1 l1 r1 => ?_⟩
    obtain ⟨p, kvs, f1, f2, f3, f4⟩ := c1.ownD hj g1
    rw [e1] at f1
    cases f1
    obtain ⟨v, hv, rv⟩ := (f4.get k).1 d hg
    have ew := rp_key r1
    subst ew
    refine ⟨p0, v, rfl, ?_, q v H1 F1 c1 l1 rv⟩
    rw [← hv]
    exact DGet.k f2
  · cases hg
/-- x.setdefault(k, v), its value not used -/
theorem mt_setdefault {X : Cx} : MtR X "dict.setdefault" rSetd := by
  intro pins s σ H x xs v us Q I rx rxs h
  obtain ⟨a, kvs, k, dv, rfl, rfl, ea, hl, w1, w2⟩ := h
  cases rx
  obtain ⟨u1, u2, rfl, ry, rd⟩ := vals2 rxs
  obtain ⟨z, hd, vs0, rel, dd⟩ := dk_of I.hok ea
  have hz : vs0.length ≤ sizeLine := by rw [← rel.length]; exact z
  refine call_meetsIn PySem.F.slot_dict_setdefault dd.typeIs PySem.F.entry_dict_setdefault (PySem.F.args_dict_setdefault_3 _ _ _) (kt_meets_setdefault (mixKind X.prog X.w) _ (kV_is ry) hd _) ⟨vs0, dd, hz, fun u hu => ?_, fun hn h' dd' hs => ?_⟩
  · have rr := rel.val k
    rw [hu] at rr
    cases hv : valV kvs k with
    | none => rw [hv] at rr; exact False.elim rr
    | some x =>
      rw [hv] at rr
      exact (⟨x, H, I.tok _, rr, w1 x hv⟩ : EP X pins σ Q u _)
  · have rr := rel.val k
    rw [hn] at rr
    cases hv : valV kvs k with
    | some x => rw [hv] at rr; exact False.elim rr
    | none =>
      have hl2 : (putK kvs k dv).length ≤ sizeLine := by have := length_putK kvs k dv; omega
      exact (⟨dv, _, d_write (t' := s.toks + 1) I (by rw [ea]; exact True.intro) hs (let ⟨q, _, _, hq, _⟩ := dd'; ⟨q, hq⟩) (dk_new hl2 hd (rel.put k rd) dd'), rd, w2 hv⟩ : EP X pins σ Q _ _)
def mSetdD (j : Nat) (fk fv : Md Da) : Sm := withD j fun _ => mDo fk fun k => mDo fv fun v => withD j fun t ρ => if (keyQ k).isSome = true ∧ t.length < 100000 then some (.nx (if hasD t k = true then ρ else ρ.set j (some (.dict (t ++ [(k, v)]))))) else none
theorem s_setdD {j : Nat} {cl : Expr} (h : PE X cl (tBM X.K "dict" rSetd (tVar j) (tCons (tE X.K ow fk) (tCons (tE X.K ow fv) tNil)))) (hj : j ∈ ow) (hs : swapsWith cl none pos.line X.env = pure false := by rfl) : GS X ow (.Expr cl pos) (mSetdD j fk fv) := ps_w (ps_expr h hs) fun D σ H ⟨B, F, ρ, o, c, hf, a⟩ => by
  obtain ⟨t0, g0, hf⟩ := withD_inv hf
  obtain ⟨x, ρ1, h1, hf⟩ := do_inv hf
  obtain ⟨d, ρ2, h2, hf⟩ := do_inv hf
  obtain ⟨t, g1, hf⟩ := withD_inv hf
  split at hf
  · rename_i hz
    obtain ⟨k, hk⟩ := Option.isSome_iff_exists.mp hz.1
    have ek := keyQ_inv hk
    subst ek
    obtain ⟨p0, kvs0, e1, e2, _⟩ := c.ownD hj g0
    refine ⟨.ref p0, e1, .inr (.inr (.inl ⟨rfl, .inl ⟨_, e2⟩⟩)), B, F, ρ, _, ρ1, c, h1, fun w H1 F1 c1 l1 r1 => ⟨B, F1, ρ1, d, ρ2, c1, h2, fun v H2 F2 c2 l2 r2 => ?_⟩⟩
    obtain ⟨p, kvs, f1, f2, f3, f4⟩ := c2.ownD hj g1
    rw [e1] at f1
    cases f1
    have ew := rp_key r1
    subst ew
    have hh : hasD t (keyD k) = (valV kvs k).isSome := by rw [← f4.has k, valV_any]
    refine ⟨p0, kvs, k, v, rfl, rfl, f2, by rw [f4.len]; exact Evl.sz_lt hz.2, fun u hu => ?_, fun hn => ?_⟩
    · rw [hu] at hh
      rw [if_pos (show hasD t (keyD k) = true from hh)] at hf
      cases hf
      exact a σ H2 F2 c2 (l1.trans l2)
    · rw [hn] at hh
      have hh' : ¬ hasD t (keyD k) = true := by rw [hh]; exact Bool.false_ne_true
      rw [if_neg hh'] at hf
      cases hf
      have up := But.updO (o1' := .dK (putK kvs k v)) c2.fo f2
      have le := up.le c2.fo f3 f2 upd_same
      have ep : putD t (keyD k) d = t ++ [(keyD k, d)] := by
        unfold putD
        rw [if_neg hh']
      have r := RpD.put k (r2.st le.st) (f4.st le.st)
      rw [ep] at r
      exact a σ _ F2 (c2.mutO hj (ownD_get g1) e1 f2 f3 up upd_same (.dct r)) ((l1.trans l2).trans le)
  · cases hf
end
end Mir

set_option Elab.async false
set_option linter.all false
set_option maxRecDepth 100000
set_option maxHeartbeats 4000000
namespace Mir
open PySem PySem.Spec PyProof.Rows L2
/-! ### dicts handed on: locked for good, read from then on -/
def tKeep (t : TS) : TS := fun D σ H => ∃ d u, H d = some u ∧ Mut (some u) ∧ ∀ od, t D σ (upd H d (.frz od u))
theorem ps_keep {X : Cx} {st : Stmt} {t : TS} (h : PS X st t) : PS X st (tKeep t) := by
  refine ⟨fun pins s σ H D I hw => ?_⟩
  obtain ⟨d, u, hd, mu, hw⟩ := hw
  obtain ⟨od, I1⟩ := I.lock hd mu
  exact h.run pins s σ _ _ I1 (hw od)
section
variable {X : Cx} {ow : List Nat} {e a b tg iter : Expr} {fe fa fb : Md Da} {p pos pos' : Pos}
theorem Cr.swap {K : PySem.W.Frag} {B : Bs} {σ : L2.St} {H : Hp} {F : Frz} {ρ : Sto} {p : Addr} {o1 o2 : HO} (c : Cr K B ow σ H F ρ) (hp : H p = some o1) (nf : ¬ F p) (hn : ∀ j d, ρ[j]? = some (some d) → j ∈ ow → σ[j]? ≠ some (some (.ref p))) (nb : B.H p = none) : Cr K B ow σ (upd H p o2) F ρ := by
  have up := But.updO (o1' := o2) c.fo hp
  have le := up.le c.fo nf hp upd_same
  refine ⟨c.len, fun i d h1 h2 => ?_, fun i d h1 h2 => ?_, c.dj, up.fo, fun a o e => ?_, c.b2, c.b3, c.pn⟩
  · obtain ⟨u, e, r⟩ := c.sl i d h1 h2
    exact ⟨u, e, r.st le.st⟩
  · obtain ⟨p', es, us, e1, e2, e3, e4, e5, e6⟩ := c.lo i d h1 h2
    exact ⟨p', es, us, e1, e2, up.ex p' _ (fun z => hn i d h1 h2 (z ▸ e2)) e3, e4, e5, e6.st le.st⟩
  · rcases c.b1 a o e with z | z
    · exact .inl z
    · exact .inr (up.ex a o (fun w => by rw [w, nb] at e; cases e) z)
/-- the lists' way of freezing, for any object -/
def mRtD (i : Nat) : Sm := fun ρ => match ρ[i]? with
  | some (some (.dict t)) => some (.rt (.dict t) (ρ.set i none))
  | _ => none
theorem s_retD {i : Nat} (h : PE X e (tVar i)) (hi : i ∈ ow) (h0 : i ≠ 0) : GS X ow (.Return (some e) pos) (mRtD i) := ps_w (ps_keep (ps_ret h)) fun D σ H ⟨B, F, ρ, o, c, hf, a⟩ => by
  unfold mRtD at hf
  split at hf
  · rename_i t hd
    cases hf
    obtain ⟨p, kvs, e2, e3, e4, e5, e6⟩ := c.ownK hi hd
    have c1 := c.drop (i := i) (.inr h0)
    have np : B.pen ≠ some p := fun z => by
      obtain ⟨g0, g1, g2⟩ := c.pn p z
      exact c.dj i 0 p hi g0 h0 ⟨_, hd⟩ g2 e2 g1
    have nb := e5.resolve_left np
    have hn : ∀ j d, (ρ.set i none : Sto)[j]? = some (some d) → j ∈ ow → σ[j]? ≠ some (some (.ref p)) := fun j x hj ho z => by
      rcases set_get hj with ⟨_, y, _⟩ | ⟨n, hj⟩
      · cases y
      · exact c.dj i j p hi ho (Ne.symm n) ⟨_, hd⟩ ⟨_, hj⟩ e2 z
    refine ⟨p, .dK kvs, e3, trivial, fun od => ?_⟩
    have c2 := (c1.swap (o2 := .frz od (.dK kvs)) e3 e4 hn nb).freeze upd_same e4 hn nb
    have st : Stay F H (frz1 F p) (upd H p (.frz od (.dK kvs))) := fun b fb => ⟨.inl fb, upd_ne (fun z => e4 (z ▸ fb))⟩
    exact ⟨.ref p, e2, a (.ref p) σ _ _ c2 (.dct (.inr rfl) upd_same (e6.st st))⟩
  · cases hf
/-- d[k] of a dict that is only read -/
def gDGet : Da → Da → Option Da
  | .dict t, k => if (keyQ k).isSome = true then getD t k else none
  | _, _ => none
theorem e_dget (hu : X.A.units + 1 < cLine) (ha : GE X ow a fa) (hb : GE X ow b fb) (hs : NoSl b) : GE X ow (.Subscript a b pos) (mOp gDGet fa fb) := pe_w (pe_dget hu ha hb hs) fun σ H Q ⟨B, F, ρ, d, ρ', c, hf, q⟩ => by
  obtain ⟨x, ρ1, h1, hf⟩ := bind_inv hf
  obtain ⟨y, ρ2, h2, hf⟩ := bind_inv hf
  obtain ⟨hg, rfl⟩ := opt_inv hf
  refine ⟨B, F, ρ, x, ρ1, c, h1, fun v H1 F1 c1 l1 r1 => ⟨B, F1, ρ1, y, _, c1, h2, fun w H2 F2 c2 l2 r2 => ?_⟩⟩
  have r1' := r1.st l2.st
  cases x with
  | dict t =>
    have hg' : (if (keyQ y).isSome = true then getD t y else none) = some d := hg
    by_cases hz : (keyQ y).isSome = true
    · rw [if_pos hz] at hg'
      obtain ⟨k, hk⟩ := Option.isSome_iff_exists.mp hz
      have ek := keyQ_inv hk
      subst ek
      cases r1' with
      | dct f r s =>
        obtain ⟨v', hv, rv⟩ := (s.get k).1 d hg'
        have ew := rp_key r2
        subst ew
        exact ⟨_, v', rfl, by rw [← hv]; exact .inl ⟨_, k, .inr ⟨_, r⟩, rfl, rfl⟩, q v' H2 F2 c2 (l1.trans l2) rv⟩
    · rw [if_neg hz] at hg'
      cases hg'
  | _ => cases hg
/-- its keys, one after another -/
def keysQ : Da → Option (List Da)
  | .dict t => some (t.map (·.1))
  | _ => none
theorem RpD.at {K : PySem.W.Frag} {H : Hp} {F : Frz} : ∀ {r : List (Key × V)} {t : List (Da × Da)} {i : Nat} {d : Da}, RpD K H F r t → (t.map (·.1))[i]? = some d → ∃ k v, r[i]? = some (k, v) ∧ d = keyD k
  | _, _, _, _, .nil, h => by simp at h
  | _, _, 0, d, .cons (k := k) (v := v) _ _, h => ⟨k, v, rfl, by simpa using h.symm⟩
  | _, _, i + 1, d, .cons _ t, h => by
    obtain ⟨k, v, h1, h2⟩ := RpD.at (i := i) (d := d) t (by simpa using h)
    exact ⟨k, v, by simpa using h1, h2⟩
theorem rp_keyD {K : PySem.W.Frag} {H : Hp} {F : Frz} (k : Key) : Rp K H F (kV k) (keyD k) := by
  cases k with
  | inl i => exact .int i
  | inr x => exact .str x
theorem it_keys {K : PySem.W.Frag} {H1 : Hp} {F1 : Frz} {p : Addr} {o : Obj} {kvs : List (Key × V)} {t : List (Da × Da)} (f : F1 p) (r : H1 p = some (.frz o (.dK kvs))) (s : RpD K H1 F1 kvs t) : ItD K (Itk p o kvs) (t.map (·.1)) F1 H1 := fun i H F st fo => by
  have hp : H p = some (.frz o (.dK kvs)) := (st p f).2.trans r
  have hl := s.len
  refine ⟨fun h => ⟨hp, by rw [List.length_map] at h; omega⟩, fun d hd => ?_⟩
  have hi : i < kvs.length := by
    have := (List.getElem?_eq_some_iff.mp hd).1
    rw [List.length_map] at this
    omega
  refine ⟨⟨hp, hi⟩, fun x H' ⟨e1, k, v, e2, e3⟩ => ?_⟩
  obtain ⟨k2, v2, g1, g2⟩ := s.at hd
  rw [g1] at e2
  cases e2
  subst e1 e3 g2
  exact ⟨F, Gr.refl fo, rp_keyD k⟩
theorem i_keys (h : GE X ow iter fe) : GI X ow tg iter (mBind fe fun d => mOpt (keysQ d)) := pi_w (pi_keys h) fun σ H R ⟨B, F, ρ, ds, ρ', c, hf, q⟩ => by
  obtain ⟨d, ρ1, h1, hf⟩ := bind_inv hf
  obtain ⟨hg, rfl⟩ := opt_inv hf
  cases d with
  | dict t =>
    cases hg
    refine ⟨B, F, ρ, _, _, c, h1, fun v H1 F1 c1 l1 r1 => ?_⟩
    cases r1 with
    | dct f r s => exact ⟨_, _, rfl, .inl ⟨_, r, q _ H1 F1 c1 l1 (it_keys f r s)⟩⟩
  | _ => cases hg
end
end Mir

set_option Elab.async false
set_option linter.all false
set_option maxRecDepth 100000
set_option maxHeartbeats 4000000
namespace Mir
open PySem PySem.Spec PyProof.Rows L2
/-! ### int of a truth value -/
def rInt1 : List V → Hp → VK → Prop := fun xs H Q => (∃ i, xs = [.int i] ∧ Q (.int i) H) ∨ ∃ k, xs = [.bl k] ∧ Q (.int (if k then 1 else 0)) H
def gInt1 : List Da → Option Da
  | [.int i] => some (.int i)
  | [.bool k] => some (.int (if k then 1 else 0))
  | _ => none
theorem cr_int1 {X : Cx} : CallR X (.type "int") rInt1 := call_int1
theorem cd_int1 {K : PySem.W.Frag} : CallD K rInt1 gInt1 := fun H F xs dx d fo hx hg Q q => by
  unfold gInt1 at hg
  split at hg
  · cases hg
    obtain ⟨v, ev, hv⟩ := hx.one
    exact .inl ⟨_, by rw [ev, hv.int_inv], q _ H F (Gr.refl fo) (.int _)⟩
  · cases hg
    obtain ⟨v, ev, hv⟩ := hx.one
    exact .inr ⟨_, by rw [ev, hv.bool_inv], q _ H F (Gr.refl fo) (.int _)⟩
  · cases hg
/-! ### a, b = new list, e -/
section
variable {X : Cx} {ow : List Nat} {fe : Md Da} {fl : Md (List Da)}
def mParO1 (i j : Nat) (fl : Md (List Da)) (fe : Md Da) : Sm := mDo fl fun ds => mDo fe fun d ρ => some (.nx ((ρ.set i (some (.list ds))).set j (some d)))
theorem s_parO1 {i j : Nat} {st : Stmt} (h : PS X st (tPar i j (tCons (tL X.K ow fl) (tCons (tE X.K ow fe) tNil)))) (hi : i ∈ ow) (h0 : i ≠ 0) (hj : j ∉ ow) : GS X ow st (mParO1 i j fl fe) := ps_w h fun D σ H ⟨B, F, ρ, o, c, hf, a⟩ => by
  obtain ⟨ds, ρ1, h1, hf⟩ := do_inv hf
  obtain ⟨d, ρ2, h2, hf⟩ := do_inv hf
  cases hf
  refine ⟨B, F, ρ, ds, ρ1, c, h1, fun p vs H1 F1 c1 l1 np hp nf hn r1 => ?_⟩
  have nb := c.new np
  have nBF : ¬ B.F p := fun z => nf (c1.b2 p z)
  have nP : B.pen ≠ some p := fun z => by
    obtain ⟨h0, h2, d, h3⟩ := c1.pn p z
    exact hn 0 d h3 h0 h2
  refine ⟨B.plus p (.lst vs), F1, ρ1, d, ρ2, c1.plus hp nf nb hn, h2, fun v H2 F2 c2 l2 r2 => ?_⟩
  obtain ⟨c3, hp3, nf3, hn3⟩ := c2.minus nb nP nBF
  exact ⟨_, _, rfl, a _ H2 F2 ((c3.setO hi h0 hp3 nf3 nb hn3 (r1.st l2.st)).set r2 hj) (l1.trans l2)⟩
end
end Mir

set_option Elab.async false
set_option linter.all false
set_option maxRecDepth 100000
set_option maxHeartbeats 4000000
namespace Mir
open PySem PySem.Spec PyProof.Rows L2
/-! ### sorted of data of one kind -/
def rSortD (K : PySem.W.Frag) : List V → Hp → VK → Prop := fun xs H Q => ∃ (a : Addr) (ps : List (V × Da)), xs = [.ref a] ∧ SqL K H a (ps.map (·.1)) ∧ (∀ p ∈ ps, Dp K H p.1 p.2) ∧ PySem.W.AllAlike (ps.map (·.2)) ∧ PySem.W.Sortable (ps.map (·.2)) ∧ (∀ p ∈ ps, p.2.depth ≤ 40) ∧
  ∀ p, H p = none → Q (.ref p) (upd H p (.lst ((ps.mergeSort (PySem.W.dataLe false (·.2))).map (·.1))))
theorem each_zip {α β : Type} {R : α → β → Prop} : ∀ {as : List α} {bs : List β}, as.length = bs.length → (∀ t ∈ as.zip bs, R t.1 t.2) → PySem.W.EachIs R as bs
  | [], [], _, _ => .nil
  | [], _ :: _, h, _ => by simp at h
  | _ :: _, [], h, _ => by simp at h
  | a :: as, b :: bs, h, z => .cons (z (a, b) (List.mem_cons_self ..)) (each_zip (by simpa using h) fun t ht => z t (List.mem_cons_of_mem _ ht))
theorem vals_zip2 {α : Type} {f : α → V} : ∀ {ps : List α} {its : List Value}, Vals (ps.map f) its → ∀ t ∈ its.zip ps, L2.RelV (f t.2) t.1
  | [], _, _, t, ht => by simp at ht
  | p :: ps, _, h, t, ht => by
    cases h with
    | cons a b =>
      rcases List.mem_cons.mp ht with rfl | ht
      · exact a
      · exact vals_zip2 b t ht
theorem each_vals {α : Type} {f : α → V} : ∀ {ps : List α} {its : List Value}, PySem.W.EachIs (fun v p => L2.RelV (f p) v) its ps → Vals (ps.map f) its
  | _, _, .nil => .nil
  | _, _, .cons a b => .cons a (each_vals b)
section
variable {X : Cx} {pins : List (Addr × Obj)} {σ : L2.St} {H : Hp} {s : Shared}
theorem cr_sortD (hA : X.A.units + 65 < cLine) : CallR X (.builtin "sorted") (rSortD X.K) := by
  intro pins s σ H xs us Q I r h
  obtain ⟨a, ps, e, sq, dp, hal, hso, hde, q⟩ := h
  subst e
  obtain ⟨u, e, ru⟩ := vals1 r
  subst e
  cases (show u = Value.ref a from ru)
  obtain ⟨its, rv, pl, hz⟩ := I.list sq
  rw [List.length_map] at hz
  have ln : its.length = ps.length := by have := rv.length; rw [List.length_map] at this; exact this.symm
  have rel := vals_zip2 (f := fun p : V × Da => p.1) rv
  refine PySem.W.sorted_data (β := V × Da) (enc := fun p => p.2) (R := fun v p => L2.RelV p.1 v) (vs := its) (bs := ps) pl.isList (each_zip ln rel) (each_zip ln fun t ht => ?_) hal hso (by omega) (fun b hb => ?_) fun out ho eo => ?_
  · exact Dp.reads I _ _ _ (dp t.2 (List.of_mem_zip ht).2) (rel t ht)
  · have := hde b hb
    omega
  · have newL : H (s.heap.objs.size + 1) = none := I.hok.fresh (Nat.le_succ _)
    have vout : Vals ((ps.mergeSort (PySem.W.dataLe false (·.2))).map (·.1)) out := each_vals (f := fun p : V × Da => p.1) eo
    have lout : ((ps.mergeSort (PySem.W.dataLe false (·.2))).map (·.1)).length ≤ sizeLine := by
      rw [List.length_map, List.length_mergeSort]
      omega
    have old : ∀ b o, s.heap.get? b = some o → (sortedAll s.heap its out.toArray).get? b = some o := fun b o e => sortedAll_old e
    have kp : ∀ b u, H b = some u → upd H (s.heap.objs.size + 1) (.lst ((ps.mergeSort (PySem.W.dataLe false (·.2))).map (·.1))) b = some u := fun b u e => by
      rw [upd_ne (fun z => by rw [z, newL] at e; cases e)]
      exact e
    refine ⟨.ref (s.heap.objs.size + 1), upd H (s.heap.objs.size + 1) (.lst ((ps.mergeSort (PySem.W.dataLe false (·.2))).map (·.1))), ?_, rfl, q _ newL⟩
    refine I.call' (ch := []) rfl ⟨fun b o q _ _ _ => old b o q, fun b o q _ _ _ => ⟨o.slots, old b o q⟩, fun b o q n _ => ?_, fun b o q _ => ⟨o, old b o q⟩, fun b _ q => kp b _ q, fun b _ _ q => kp b _ q, fun b _ q => ⟨#[], by rw [kp b _ q]; simp⟩⟩ (fun b u q => ?_) I.bare fun b z => by simp at z
    · have lb := Heap.lt_size q
      rw [upd_ne (fun z => absurd lb (Nat.not_lt.mpr (by rw [z]; exact Nat.le_succ _)))]
      exact n
    · by_cases eL : b = s.heap.objs.size + 1
      · rw [eL] at q ⊢
        rw [upd_same] at q
        cases q
        obtain ⟨e, at_⟩ := sortedAll_at s.heap its out.toArray
        exact ⟨lout, out, e, vout, at_⟩
      · rw [upd_ne eL] at q
        exact (I.hok b u q).stay (fun d v _ y => old d v y) (fun d y => kp d _ y) fun d xs y => kp d _ y
end
/-! ### on data -/
def alikeB (ds : List Da) : Bool := ds.all fun d => ds.all fun e => PySem.W.alike d e
theorem alikeB_all {ds : List Da} (h : alikeB ds = true) : PySem.W.AllAlike ds := fun d hd e he => List.all_eq_true.mp (List.all_eq_true.mp h d hd) e he
def fullT : Da → Bool
  | .tuple (_ :: _) => true
  | _ => false
def otherB : Da → Bool
  | .tuple _ => false
  | .none => false
  | _ => true
def sortB (ds : List Da) : Bool := ds.all fullT || ds.all otherB
theorem sortB_all {ds : List Da} (h : sortB ds = true) : PySem.W.Sortable ds := by
  unfold sortB at h
  rcases Bool.or_eq_true_iff.mp h with h | h
  · refine .inl fun d hd => ?_
    have := List.all_eq_true.mp h d hd
    cases d <;> first | (cases this; done) | skip
    rename_i xs
    cases xs with
    | nil => cases this
    | cons x r => exact ⟨x, r, rfl⟩
  · refine .inr fun d hd => ?_
    have := List.all_eq_true.mp h d hd
    cases d <;> first | (cases this; done) | exact ⟨(by simp), (by simp)⟩
noncomputable def dle (a b : Da) : Bool := PySem.W.dataLe false (fun d : Da => d) a b
noncomputable def gSortD : List Da → Option Da
  | [.list ds] => if alikeB ds = true ∧ sortB ds = true ∧ ds.all (fun d => decide (d.depth ≤ 40)) = true ∧ PyData.hasDictAll ds = false then some (.list (ds.mergeSort dle)) else none
  | _ => none
theorem rpA_zipD {K : PySem.W.Frag} {H : Hp} {F : Frz} : ∀ {vs : List V} {ds : List Da}, RpA K H F vs ds → ∀ p ∈ vs.zip ds, Rp K H F p.1 p.2
  | _, _, .nil, p, hp => by simp at hp
  | _, _, .cons a b, p, hp => by
    rcases List.mem_cons.mp hp with rfl | hp
    · exact a
    · exact rpA_zipD b p hp
theorem hasDict_at : ∀ {ds : List Da}, PyData.hasDictAll ds = false → ∀ d ∈ ds, d.hasDict = false
  | [], _, d, hd => by simp at hd
  | e :: ds, h, d, hd => by
    rcases List.mem_cons.mp hd with rfl | hd
    · exact (hasDict_all h).1
    · exact hasDict_at (hasDict_all h).2 d hd
theorem cd_sortD {K : PySem.W.Frag} : CallD K (rSortD K) gSortD := fun H F xs dx d fo hx hg Q q => by
  unfold gSortD at hg
  split at hg
  · split at hg
    · rename_i ds hc
      obtain ⟨h1, h2, h3, h4⟩ := hc
      cases hg
      obtain ⟨v, ev, hv⟩ := hx.one
      obtain ⟨a, vs, e, s, t⟩ := hv.list_inv
      have ln : vs.length = ds.length := t.len
      have z := rpA_zipD t
      have e1 : (vs.zip ds).map (·.1) = vs := List.map_fst_zip (by omega)
      have e2 : (vs.zip ds).map (·.2) = ds := List.map_snd_zip (by omega)
      refine ⟨a, vs.zip ds, by rw [ev, e], by rw [e1]; exact s, fun p hp => ?_, by rw [e2]; exact alikeB_all h1, by rw [e2]; exact sortB_all h2, fun p hp => ?_, fun p np => ?_⟩
      · exact (z p hp).dpN (hasDict_at h4 _ (List.of_mem_zip hp).2)
      · exact of_decide_eq_true (List.all_eq_true.mp h3 _ (List.of_mem_zip hp).2)
      · refine q _ _ _ (Gr.new fo np) (rp_newL fo np ?_)
        have m := List.map_mergeSort (r := PySem.W.dataLe false (·.2)) (s := dle) (f := fun p : V × Da => p.2) (l := vs.zip ds) (fun p _ q _ => rfl)
        rw [e2] at m
        rw [← m]
        exact rpA_map _ fun p hp => z p (List.mem_mergeSort.mp hp)
    · cases hg
  · cases hg
end Mir

set_option Elab.async false
set_option linter.all false
set_option maxRecDepth 100000
set_option maxHeartbeats 4000000
namespace Mir
open PySem PySem.Spec PyProof.Rows L2 GenW
/-! ### for in a generator -/
section
variable {M : Model} {A : Around} {R : GenEnd} {Y : Protocol} {n : Nat} {s₀ : Shared} {c : Code} {fs : List PySem.Frame} {s : Shared} {env : Env}
  {K : Flow → Sem PySem.Fin} {H : Value → Sem PySem.Fin} {gd : Bool → Bool} {lv : List Value → List Value}
theorem seg_For {target iter : Expr} {body orelse : List Stmt} {pos : Pos} (hs : ∀ x, foldedSetIterable iter env x = pure x)
    (h : wpAny M (A.over c fs) (eval iter env) (fun x s₁ => wpAny M (A.over c fs) (pyIter x) (fun it s₂ => ∀ p, Seg M A R Y n s₀ (.forLoop target it body orelse env) (M.den (.forLoop target it body orelse env))
      (.ret (fun r => ((match r with | .ok f => (.pure f : Sem Flow) | .error e => .raise e).onRaise fun (x : Value) => do
        if (← field x 1) == Value.none then unsupported "frame.own-activation:exception-without-traceback"
        setFlight x env.frame).wrap K H gd lv) none (gd false) (lv []) c p [] :: fs) s₂) (fun x s' => Seg M A R Y n s₀ c (H x) fs s') s₁) (fun x s' => Seg M A R Y n s₀ c (H x) fs s') s) :
    Seg M A R Y n s₀ c ((exec (.For target iter body orelse pos) env).wrap K H gd lv) fs s := by
  rw [exec_For]
  refine seg_bind_wrap (wpAny_standAt ?_)
  refine seg_bind_wrap (wpAny_mono h (fun x s₁ h₁ => ?_) fun _ _ z => z)
  rw [hs x]
  refine seg_bind_wrap (wpAny_pure ?_)
  refine seg_bind_wrap (wpAny_standAt ?_)
  refine seg_bind_wrap (wpAny_holding (wpAny_mono h₁ (fun it s₂ h₂ => ?_) fun _ _ z => z))
  exact seg_call h₂
end
section
variable {prog : Program} {w : World} {A : Around} {R : GenEnd} {Y : Protocol} {n : Nat} {s₀ : Shared} {fs : List PySem.Frame} {s : Shared} {env : Env}
def flEE (env : Env) (e : Value) : Sem PySem.Fin := (do noteFrame e env; theTreesLotGoes e : Sem Unit).wrap (fun _ => .raise e) .raise id id
theorem seg_forLoop {target : Expr} {it : Value} {body orelse : List Stmt}
    (h : wpAny (model prog w) (A.over (.forLoop target it body orelse env) fs) (pyNext it) (fun r s₁ => match r with
      | none => Seg (model prog w) A R Y n s₀ (.forLoop target it body orelse env) (.pure (.again (.block orelse env))) fs s₁
      | some v => wpAny (model prog w) (A.over (.forLoop target it body orelse env) fs) (letOwnedTupleGo target it v) (fun _ s₂ => wpAny (model prog w) (A.over (.forLoop target it body orelse env) fs) (assign target env v) (fun _ s₃ =>
          Seg (model prog w) A R Y n s₀ (.forLoop target it body orelse env) ((execs body env).wrap (fun f => match f with
            | .next | .cont => .pure (.again (.forLoop target it body orelse env))
            | .brk => .pure (.done .next)
            | .ret v => .pure (.done (.ret v))) (flEE env) id id) fs s₃)
          (fun x s' => Seg (model prog w) A R Y n s₀ (.forLoop target it body orelse env) (flEE env x) fs s') s₂)
          (fun x s' => Seg (model prog w) A R Y n s₀ (.forLoop target it body orelse env) (flEE env x) fs s') s₁)
      (fun x s' => Seg (model prog w) A R Y n s₀ (.forLoop target it body orelse env) (flEE env x) fs s') s) :
    Seg (model prog w) A R Y n s₀ (.forLoop target it body orelse env) ((model prog w).den (.forLoop target it body orelse env)) fs s := by
  show Seg _ A R Y n s₀ _ ((forTurn target it body orelse env).onRaise (fun x => do noteFrame x env; theTreesLotGoes x)) fs s
  have conv : ∀ (x : Value) (s' : Shared), Seg (model prog w) A R Y n s₀ (.forLoop target it body orelse env) (flEE env x) fs s' → Seg (model prog w) A R Y n s₀ (.forLoop target it body orelse env) ((do noteFrame x env; theTreesLotGoes x : Sem Unit).bind fun _ => .raise x) fs s' := fun x s' hx => by
    rw [Sem.bind_eq_wrap]
    exact hx
  unfold forTurn
  rw [Sem.onRaise_eq_wrap]
  refine seg_bind_wrap (wpAny_standAt ?_)
  refine seg_bind_wrap (wpAny_onRaise (wpAny_mono h (fun r s₁ h₁ => ?_) fun x s' hx => wpAny_standAt (conv x s' hx)))
  cases r with
  | none => exact h₁
  | some v =>
    refine seg_bind_wrap (wpAny_mono h₁ (fun _ s₂ h₂ => ?_) fun x s' hx => conv x s' hx)
    refine seg_bind_wrap (wpAny_mono h₂ (fun _ s₃ h₃ => ?_) fun x s' hx => conv x s' hx)
    rw [Sem.bind_eq_wrap', Sem.wrap_wrap]
    rw [Sem.wrap_congr (execs body env) _ _ (K' := fun f => match f with
            | .next | .cont => .pure (.again (.forLoop target it body orelse env))
            | .brk => .pure (.done .next)
            | .ret v => .pure (.done (.ret v))) (H' := flEE env)
        (fun f => by cases f <;> rfl)
        (fun e => by first | exact Sem.bind_eq_wrap _ _ | (show (do noteFrame e env; theTreesLotGoes e : Sem Unit).bind (fun _ => .raise e) = _; rw [Sem.bind_eq_wrap]; rfl))]
    exact h₃
theorem seg_block0 (h : Seg (model prog w) A R Y n s₀ (.block [] env) (.pure (.done .next)) fs s) : Seg (model prog w) A R Y n s₀ (.block [] env) ((model prog w).den (.block [] env)) fs s := h
end
section
variable {X : Cx}
def tGFor (wi : TI) (g : L2.TG) (tb : TGn) : TGn := fun D ys σ H => wi σ H fun J H1 => ∃ W : Nat → Nat → List V → L2.St → Hp → Prop, (∃ m, W 0 m ys σ H1) ∧ ∀ i m ys σ H, W i m ys σ H →
  (J.stop i H ∧ D.nx ys σ H) ∨ (J.go i H ∧ ∃ N : List V → L2.St → Hp → Prop, (∀ ys' σ' H', N ys' σ' H' → ∃ m', m' < m ∧ W (i + 1) m' ys' σ' H') ∧ ∀ x H', J.yld i H x H' → g x σ H' fun σ2 H2 => tb { D with nx := N, ct := N, bk := D.nx } ys σ2 H2)
theorem gs_for {tg iter : Expr} {body : List Stmt} {wi : TI} {g : L2.TG} {tb : TGn} {pos : Pos} (hp : PassesOwn (model X.prog X.w) X.A X.env X.xe) (hc : X.calm = true) (hi : PI X tg iter wi) (hg : PG X tg g) (hb : L2.GSs X body tb)
    (hs : ∀ x, foldedSetIterable iter X.env x = pure x := by intro _; rfl) : L2.GS X (.For tg iter body [] pos) (tGFor wi g tb) := by
  refine ⟨fun A S ip R n ys s₀ c fs K J gd lv s σ H D gc hn k hI ht => ?_⟩
  obtain ⟨acc, cc, r, I⟩ := hI
  refine seg_For hs ?_
  rw [gc.over]
  refine wpAny_mono (hi.run _ s σ H _ I ht) (fun v s1 h1 => wpAny_mono h1 (fun itv s2 h2 => ?_) (fun x s' hx => k.exc n s₀ x s' hx)) (fun x s' hx => k.exc n s₀ x s' hx)
  obtain ⟨it, fp, tn, J', H2, e, I2, T, st2, f2, W, ⟨m0, w0⟩, turn⟩ := h2
  subst e
  intro p
  have gl := fun (kk : Result → Sem PySem.Fin) => gc_loop (k := kk) (c' := .forLoop tg (.ref it) body [] X.env) (l := lv []) (kp := []) (p := p) gc rfl rfl
  have stat : ∀ {acc' : Array Value} {c' : Nat} {H' : Hp}, (∀ b ∈ fp, H' b = none) → ∀ b ∈ fp, FpOk X ((S, lstObj acc' c') :: ip) H' b := fun {acc' c' H'} hn b hb => by
    obtain ⟨_, h1, h2, h3, h4, h5⟩ := f2 b hb
    refine ⟨hn b hb, h1, h2, h3, h4, fun p hp => ?_⟩
    rcases List.mem_append.mp hp with hp | hp
    · exact h5 p (List.mem_append_left _ hp)
    · rcases List.mem_cons.mp hp with hp | hp
      · rw [hp]
        exact h5 (S, lstObj acc cc) (List.mem_append_right _ List.mem_cons_self)
      · exact h5 p (List.mem_append_right _ (List.mem_cons_of_mem _ hp))
  have nS : ∀ b ∈ fp, b ≠ S := fun b hb z => by
    have := (f2 b hb).2.2.2.2.2 (S, lstObj acc cc) (List.mem_append_right _ List.mem_cons_self)
    exact this z.symm
  have loop : ∀ (m n : Nat) (i : Nat) (ys : List V) (s₀ s : Shared) (σ : L2.St) (H : Hp), n + ys.length = sizeLine → W i m ys σ H → L2.GI X S ip ys σ H s → tn i s.heap → (∀ b ∈ fp, H b = none) →
      Seg (model X.prog X.w) A R (GY X S) n s₀ (.forLoop tg (.ref it) body [] X.env) ((model X.prog X.w).den (.forLoop tg (.ref it) body [] X.env))
        (.ret (fun r => ((match r with | .ok f => (.pure f : Sem Flow) | .error e => .raise e).onRaise (cameBack X.env)).wrap K J gd lv) none (gd false) (lv []) c p [] :: fs) s := by
    intro m
    induction m using Nat.strongRecOn with
    | ind m ih =>
      intro n i ys s₀ s σ H hn w hI st fr
      have ee : ∀ (n : Nat) (s₀ : Shared) (x : Value) (s' : Shared), X.xe x s' → Seg (model X.prog X.w) A R (GY X S) n s₀ (.forLoop tg (.ref it) body [] X.env)
          (flEE X.env x)
          (.ret (fun r => ((match r with | .ok f => (.pure f : Sem Flow) | .error e => .raise e).onRaise (cameBack X.env)).wrap K J gd lv) none (gd false) (lv []) c p [] :: fs) s' := fun n s₀ x s' hx => by
        refine seg_wrap ?_
        rw [(gl _).over]
        refine wpAny_bind (wpAny_mono (hp x s' hx) (fun _ s'' hcb => wpAny_theTreesLotGoes ?_) fun y s'' hcb => ?_)
        · exact seg_leaf (.error x) (seg_cameBack gc k hcb)
        · exact seg_leaf (.error y) (seg_cameBack gc k hcb)
      refine seg_forLoop ?_
      rw [(gl _).over]
      obtain ⟨acc, cc, r, I⟩ := hI
      rcases turn i m ys σ H w with ⟨stop, qn⟩ | ⟨go, N, hN, step⟩
      · refine wpAny_mono (T.done X rfl rfl rfl hc i _ s σ H X.xe I (stat fr) st stop) (fun r0 s4 ⟨hr, I4⟩ => ?_) fun x s' hx => ee n s₀ x s' hx
        subst hr
        exact seg_again rfl (seg_block0 (seg_leaf (.ok .next) (k.ok n ys s₀ s4 .next hn ⟨σ, H, ⟨acc, cc, r, I4⟩, qn⟩)))
      · refine wpAny_mono (T.item X rfl rfl rfl hc i _ s σ H X.xe I (stat fr) st go) (fun r0 s4 ⟨u, hr, h4⟩ => ?_) fun x s' hx => ee n s₀ x s' hx
        subst hr
        refine wpAny_mono h4 (fun _ s5 ⟨x, H5, I5, r5, y5, st5, fr5⟩ => ?_) fun x s' hx => ee n s₀ x s' hx
        have I5' := I5.pinned (stat fr5) (T.obj _ _ st5)
        refine wpAny_mono (hg.run _ s5 σ H5 x u _ I5' r5 (step x H5 y5)) (fun _ s6 ⟨σ6, H6, I6, q6⟩ => ?_) fun x s' hx => ee n s₀ x s' hx
        have gc' : GC X S (ip ++ pinsAt fp s5.heap) A (.forLoop tg (.ref it) body [] X.env) (.ret (fun r => ((match r with | .ok f => (.pure f : Sem Flow) | .error e => .raise e).onRaise (cameBack X.env)).wrap K J gd lv) none (gd false) (lv []) c p [] :: fs) id :=
          ⟨gc.pn, fun q hq => (List.mem_append.mp hq).elim (gc.ip q) fun z => nS _ (of_pinsAt z).1, gc.apart, (gl _).over, (gl _).split, (gl _).guard, rfl⟩
        have down : ∀ {ys' : List V} {σ7 : L2.St} {H7 : Hp} {s7 : Shared}, L2.GI X S (ip ++ pinsAt fp s5.heap) ys' σ7 H7 s7 → L2.GI X S ip ys' σ7 H7 s7 ∧ tn (i + 1) s7.heap ∧ ∀ b ∈ fp, H7 b = none := fun {ys' σ7 H7 s7} ⟨a7, c7, r7, I7⟩ => by
          refine ⟨⟨a7, c7, r7, Inv.unpinned (pins := (S, lstObj a7 c7) :: ip) I7⟩, T.keep _ _ _ st5 fun b hb o e => (I7.pin (b, o) (List.mem_append_right _ (List.mem_cons_of_mem _ (List.mem_append_right _ (mem_pinsAt hb e))))).1, fun b hb => ?_⟩
          obtain ⟨o, e, d⟩ := T.obj _ _ st5 b hb
          exact (I7.pin (b, o) (List.mem_append_right _ (List.mem_cons_of_mem _ (List.mem_append_right _ (mem_pinsAt hb e))))).2.1
        refine hb.run A S (ip ++ pinsAt fp s5.heap) R n ys s₀ _ _ _ _ id id s6 σ6 H6 { D with nx := N, ct := N, bk := D.nx } gc' hn ⟨fun n' ys' s₀' s7 f hn' hs => ?_, fun n' s₀' x s' hx => ee n' s₀' x s' hx⟩ ⟨acc, cc, r, I6⟩ q6
        cases f with
        | next =>
          obtain ⟨σ7, H7, I7, n7⟩ := hs
          obtain ⟨m', hm, w7⟩ := hN ys' σ7 H7 n7
          obtain ⟨d1, d2, d3⟩ := down I7
          exact seg_again rfl (ih m' hm n' (i + 1) ys' s₀' s7 σ7 H7 hn' w7 d1 d2 d3)
        | cont =>
          obtain ⟨σ7, H7, I7, n7⟩ := hs
          obtain ⟨m', hm, w7⟩ := hN ys' σ7 H7 n7
          obtain ⟨d1, d2, d3⟩ := down I7
          exact seg_again rfl (ih m' hm n' (i + 1) ys' s₀' s7 σ7 H7 hn' w7 d1 d2 d3)
        | brk =>
          obtain ⟨σ7, H7, I7, q7⟩ := hs
          exact seg_leaf (.ok .next) (k.ok n' ys' s₀' s7 .next hn' ⟨σ7, H7, (down I7).1, q7⟩)
        | ret v =>
          obtain ⟨x7, σ7, H7, I7, r7, q7⟩ := hs
          exact seg_leaf (.ok (.ret v)) (k.ok n' ys' s₀' s7 (.ret v) hn' ⟨x7, σ7, H7, (down I7).1, r7, q7⟩)
  exact loop m0 n 0 ys s₀ s2 σ H2 hn w0 ⟨acc, cc, r, I2⟩ st2 fun b hb => (f2 b hb).1
end
end Mir

set_option Elab.async false
set_option linter.all false
set_option maxRecDepth 100000
set_option maxHeartbeats 4000000
namespace Mir
open PySem PySem.Spec PyProof.Rows L2
/-! ### defs that ask nothing of what is being shown (no repr in them) -/
section
variable {P : Program} {w : World} {K : PySem.W.Frag} {mg : Str → Option Value} {base : Heap} {k : Nat} {f : Addr} {fd : FuncData} {ps N : List Str} {ow : List Nat} {fb : Sm} {x qual : Str} {st : Stmt}
theorem gOfU {sp : Sp} (G : FnOk P w K mg base CX0 k f fd ps sp) : FnG P w K mg base k f fd ps sp := ⟨G.len, fun A outer s H args us vs Q E hr _ en bd rv hs => G.run A outer s H args us vs Q E hr en bd rv hs⟩
theorem start_cr {H : Hp} {F : Frz} {vs : List V} {ds : List Da} (fo : Fo F H) (r : RpA K H F vs ds) (hl : ds.length = ps.length) (hp : ps.length ≤ N.length) (how : ∀ i ∈ ow, ps.length ≤ i) : Cr K ⟨H, F, none⟩ ow (start N vs) H F (sto0 N.length ds) := by
  have hlv := r.len
  refine ⟨?_, fun i d h1 h2 => ?_, fun i d h1 h2 => ?_, fun i j p hi hj _ ⟨d, hd⟩ => ?_, fo, fun a o e => .inr e, fun a e => e, fun a e => .inl e, fun p e => nomatch e⟩
  · rw [start_len (by omega)]
    unfold sto0
    rw [List.length_append, List.length_map, List.length_replicate]
    omega
  · obtain ⟨v, h3, rv⟩ := r.get (sto0_get h1).2
    exact ⟨v, start_get h3, rv⟩
  · have h3 := (sto0_get h1).1
    have h4 := how i h2
    omega
  · have h3 := (sto0_get hd).1
    have h4 := how i hi
    omega
theorem back_gr {H H' : Hp} {F F' : Frz} {σ' : L2.St} {ρ : Sto} (c : Cr K ⟨H, F, none⟩ ow σ' H' F' ρ) : Gr F H F' H' := by
  refine ⟨fun a o e => ?_, c.b2, c.b3, c.fo⟩
  rcases c.b1 a o e with z | z
  · cases z
  · exact z
theorem fnPU (T : Fun K x qual st f fd) (S : FnScope N ps (defScope st)) (how : ∀ i ∈ ow, ps.length ≤ i)
    (hb : ∀ (cdv : Value) (A : Around) (outer : List Env) (s : Shared) (H : Hp) (E : XK), Room k (A.deeper (envOfC qual (defScope st) s.heap.objs.size f cdv)) →
      PSs (cxOf CX0 P w K mg base N qual (defScope st) f cdv A outer s H E).nox (defBody st) (tS K ow fb)) : FnOk P w K mg base CX0 (k + 1) f fd ps (spP K ps.length (runP N.length fb)) := by
  have hp := pre_le S
  refine T.ok S (fun vs H Q E ⟨F, ds, d, _, r, hl, _⟩ => r.len.trans hl) fun cdv A outer s H vs Q E hr ⟨F, ds, d, fo, r, hl, hm, q⟩ => ⟨_, hb cdv A outer s H E hr, ?_⟩
  have c0 : Cr K ⟨H, F, none⟩ ow (start N vs) H F (sto0 N.length ds) := start_cr fo r hl hp how
  unfold runP at hm
  have fin : ∀ {v : V} {H' : Hp} {F' : Frz} {σ' : L2.St} {ρ : Sto}, Cr K ⟨H, F, none⟩ ow σ' H' F' ρ → Rp K H' F' v d → Q v H' := fun {v H' F' σ' ρ} c r' => q v H' F' (back_gr c) r'
  split at hm
  · rename_i d' ρ e
    cases hm
    exact ⟨_, F, _, _, c0, e, fun v σ' H' F' c r' => fin c r'⟩
  · rename_i ρ e
    cases hm
    exact ⟨_, F, _, _, c0, e, fun σ' H' F' c l => fin c .non⟩
  · cases hm
end
section
variable {X : Cx} {ow : List Nat} {k : Nat} {f : Addr} {fd : FuncData} {ps : List Str} {x : Str} {p pos : Pos} {e : Expr} {es : List Expr} {fs : Md (List Da)}
theorem e_callU {n : Nat} {mf : List Da → Option Da} (G : FnOk X.prog X.w X.K X.mg X.base CX0 k f fd ps (spP X.K n mf)) (hr : Room k X.A) (hg : Gl X x) (hm : X.mg x = some (.ref f)) (hk : PySem.W.keepIn X.K (.ref f) = true) (hb : Binds X.K fd ps [])
    (ha : GA X ow (e :: es) fs) (hdb : (x == ("__debug__" : Str)) = false := by decide) (he : starEach (e :: es) X.env = (false, eval e X.env) :: starEach es X.env := by rfl) (hpl : (backTo pos (starEach es X.env)).any (·.1) = false := by rfl) :
    GE X ow (.Call (.Name x p) (e :: es) [] pos) (mFn n mf fs) := pe_w (pe_call (E := E0) G hr hg hm hk hb .nil pass0 ha hdb he hpl) fun σ H Q ⟨B, F, ρ, d, ρ', c, hf, q⟩ => by
  obtain ⟨ds, ρ1, h1, hf⟩ := bind_inv hf
  by_cases hl : ds.length = n
  · rw [if_pos hl] at hf
    obtain ⟨hg2, rfl⟩ := opt_inv hf
    refine ⟨B, F, ρ, ds, _, c, h1, fun vs H1 F1 c1 l1 r1 => ?_⟩
    show spP X.K n mf (vs ++ []) H1 Q E0
    rw [List.append_nil]
    exact ⟨F1, ds, d, c1.fo, r1, hl, hg2, fun v H2 F2 gr r2 => q v H2 F2 (c1.grow gr) (l1.trans (gr.le c1.fo)) r2⟩
  · rw [if_neg hl] at hf
    cases hf
end
/-! ### generators: what is handed out, and the store behind it -/
abbrev Gm := Sto → Option (List Da × Sto)
def gPl (f : Sm) : Gm := fun ρ => match f ρ with
  | some (.nx ρ') => some ([], ρ')
  | _ => none
def gYd (f : Md Da) : Gm := fun ρ => match f ρ with
  | some (d, ρ') => some ([d], ρ')
  | none => none
def gNil : Gm := fun ρ => some ([], ρ)
def gSeq (f g : Gm) : Gm := fun ρ => match f ρ with
  | some (l, ρ1) => match g ρ1 with
    | some (m, ρ2) => some (l ++ m, ρ2)
    | none => none
  | none => none
def gForL (ft : Da → Sto → Option Sto) (b : Gm) : List Da → Gm
  | [], ρ => some ([], ρ)
  | d :: ds, ρ => match ft d ρ with
    | none => none
    | some ρ1 => match b ρ1 with
      | none => none
      | some (l, ρ2) => match gForL ft b ds ρ2 with
        | some (m, ρ3) => some (l ++ m, ρ3)
        | none => none
def gFor (fi : Md (List Da)) (ft : Da → Sto → Option Sto) (b : Gm) : Gm := fun ρ => match fi ρ with
  | some (ds, ρ1) => gForL ft b ds ρ1
  | none => none
def tG (K : PySem.W.Frag) (ow : List Nat) (f : Gm) : TGn := fun D ys σ H => ∃ B F ρ l ρ', Cr K B ow σ H F ρ ∧ f ρ = some (l, ρ') ∧ ys.length + l.length ≤ 1000000 ∧
  ∀ zs σ' H' F', Cr K B ow σ' H' F' ρ' → Le F H F' H' → RpA K H' F' zs l → D.nx (ys ++ zs) σ' H'
section
variable {X : Cx} {ow : List Nat} {st : Stmt} {rest : List Stmt} {f g : Gm}
theorem gs_w {t t' : TGn} (h : L2.GS X st t) (w : ∀ D ys σ H, t' D ys σ H → t D ys σ H) : L2.GS X st t' :=
  ⟨fun A S ip R n ys s₀ c fs K J gd lv s σ H D gc hn k hI ht => h.run A S ip R n ys s₀ c fs K J gd lv s σ H D gc hn k hI (w D ys σ H ht)⟩
theorem gss_w {t t' : TGn} (h : L2.GSs X rest t) (w : ∀ D ys σ H, t' D ys σ H → t D ys σ H) : L2.GSs X rest t' :=
  ⟨fun A S ip R n ys s₀ c fs K J gd lv s σ H D gc hn k hI ht => h.run A S ip R n ys s₀ c fs K J gd lv s σ H D gc hn k hI (w D ys σ H ht)⟩
theorem y_plain {fb : Sm} (h : GS X ow st fb) : L2.GS X st (tG X.K ow (gPl fb)) := gs_w (gs_ps h) fun D ys σ H ⟨B, F, ρ, l, ρ', c, hf, hz, q⟩ => by
  unfold gPl at hf
  split at hf
  · rename_i ρ1 e
    cases hf
    refine ⟨B, F, ρ, _, c, e, fun σ' H' F' c' l' => ?_⟩
    have := q [] σ' H' F' c' l' .nil
    rw [List.append_nil] at this
    exact this
  · cases hf
theorem y_nil : L2.GSs X [] (tG X.K ow gNil) := gss_w gss_nil fun D ys σ H ⟨B, F, ρ, l, ρ', c, hf, hz, q⟩ => by
  cases hf
  have := q [] σ H F c Le.refl .nil
  rw [List.append_nil] at this
  exact this
theorem y_yield {e : Expr} {yp pos : Pos} {fe : Md Da} (he : GE X ow e fe) (hco : X.env.scope.isCoroutine = false := by rfl) (hi : interactive X.env = false := by rfl) : L2.GS X (.Expr (.Yield (some e) yp) pos) (tG X.K ow (gYd fe)) :=
  gs_w (gs_yield he hco hi) fun D ys σ H ⟨B, F, ρ, l, ρ', c, hf, hz, q⟩ => by
  unfold gYd at hf
  split at hf
  · rename_i d ρ1 e
    cases hf
    have hz' : ys.length + 1 ≤ 1000000 := hz
    exact ⟨Nat.lt_of_lt_of_le (show ys.length < 1000000 by omega) (by decide), B, F, ρ, d, _, c, e, fun v H' F' c' l' r' => q [v] σ H' F' c' l' (.cons r' .nil)⟩
  · cases hf
theorem y_seq (h1 : L2.GS X st (tG X.K ow f)) (h2 : L2.GSs X rest (tG X.K ow g)) : L2.GSs X (st :: rest) (tG X.K ow (gSeq f g)) := gss_w (gss_cons h1 h2) fun D ys σ H ⟨B, F, ρ, l, ρ', c, hf, hz, q⟩ => by
  unfold gSeq at hf
  split at hf
  · rename_i l1 ρ1 e1
    split at hf
    · rename_i l2 ρ2 e2
      cases hf
      rw [List.length_append] at hz
      refine ⟨B, F, ρ, l1, ρ1, c, e1, by omega, fun zs σ' H' F' c' l' r' => ?_⟩
      refine ⟨B, F', ρ1, l2, _, c', e2, by rw [List.length_append, r'.len]; omega, fun zs2 σ2 H2 F2 c2 le2 r2 => ?_⟩
      rw [List.append_assoc]
      exact q (zs ++ zs2) σ2 H2 F2 c2 (l'.trans le2) ((r'.st le2.st).app r2)
    · cases hf
  · cases hf
theorem gforL_len {ft : Da → Sto → Option Sto} {b : Gm} : ∀ (ds : List Da) (ρ : Sto), ∀ l ρ', gForL ft b ds ρ = some (l, ρ') → True := fun _ _ _ _ _ => trivial
theorem y_for {tg iter : Expr} {body : List Stmt} {fi : Md (List Da)} {ts : List Nat} {ft : Da → Sto → Option Sto} {fb : Gm} {pos : Pos} (hp : PassesOwn (model X.prog X.w) X.A X.env X.xe) (hc : X.calm = true) (hi : GI X ow tg iter fi) (hg : GG X ow tg ts ft) (hb : L2.GSs X body (tG X.K ow fb))
    (hs : ∀ x, foldedSetIterable iter X.env x = pure x := by intro _; rfl) : L2.GS X (.For tg iter body [] pos) (tG X.K ow (gFor fi ft fb)) := gs_w (gs_for hp hc hi hg hb hs) fun D ys0 σ H ⟨B, F, ρ, L, ρE, c, hf, hz, q⟩ => by
  unfold gFor at hf
  split at hf
  · rename_i ds ρ1 h1
    refine ⟨B, F, ρ, ds, ρ1, c, h1, fun J H1 F1 c1 l1 it => ?_⟩
    refine ⟨fun i m ys σ H => ∃ F ρ zs l l', Cr X.K B ow σ H F ρ ∧ Le F1 H1 F H ∧ m = ds.length - i ∧ i ≤ ds.length ∧ gForL ft fb (ds.drop i) ρ = some (l', ρE) ∧ ys = ys0 ++ zs ∧ RpA X.K H F zs l ∧ L = l ++ l', ⟨ds.length, F1, ρ1, [], [], L, c1, Le.refl, rfl, Nat.zero_le _, hf, (List.append_nil _).symm, .nil, rfl⟩, ?_⟩
    rintro i m ys σ H ⟨F, ρ, zs, l, l', c, le, rfl, hi, hf2, rfl, rz, rfl⟩
    obtain ⟨stop, go⟩ := it i H F le.st c.fo
    by_cases hlt : i < ds.length
    · obtain ⟨d, hd, hdr⟩ := drop_get hlt
      rw [hdr] at hf2
      unfold gForL at hf2
      split at hf2
      · cases hf2
      · rename_i ρ2 ht
        split at hf2
        · cases hf2
        · rename_i m1 ρ3 e3
          split at hf2
          · rename_i m2 ρ4 e4
            cases hf2
            obtain ⟨g1, g2⟩ := go d hd
            refine .inr ⟨g1, fun ys' σ' H' => ∃ F' zs', Cr X.K B ow σ' H' F' ρ3 ∧ Le F1 H1 F' H' ∧ ys' = ys0 ++ zs' ∧ RpA X.K H' F' zs' (l ++ m1), fun ys' σ' H' ⟨F', zs', c', le', e', r'⟩ => ⟨ds.length - (i + 1), by omega, F', ρ3, zs', l ++ m1, m2, c', le', rfl, hlt, e4, e', r', by rw [List.append_assoc]⟩, fun x H' y => ?_⟩
            obtain ⟨F', gr, rx⟩ := g2 x H' y
            have c' := c.grow gr
            have le' := le.trans (gr.le c.fo)
            refine ⟨B, F', ρ, d, ρ2, c', rx, ht, fun σ2 c2 _ => ?_⟩
            refine ⟨B, F', ρ2, m1, ρ3, c2, e3, ?_, fun zs2 σ3 H3 F3 c3 l3 r3 => ?_⟩
            · rw [List.length_append, rz.len]
              rw [List.length_append, List.length_append] at hz
              omega
            · refine ⟨F3, zs ++ zs2, c3, le'.trans l3, by rw [List.append_assoc], ?_⟩
              exact ((rz.st (gr.stay c.fo)).st l3.st).app r3
          · cases hf2
    · have e : i = ds.length := by omega
      subst e
      rw [List.drop_length] at hf2
      cases hf2
      refine .inl ⟨stop (Nat.le_refl _), ?_⟩
      refine q zs σ H F c (l1.trans le) ?_
      rw [List.append_nil]
      exact rz
  · cases hf
end
/-! ### a generator def; list(g(..)) -/
def spGP (K : PySem.W.Frag) (n : Nat) (mf : List Da → Option (List Da)) : SpG := fun vs H Q _ => ∃ F ds out, Fo F H ∧ RpA K H F vs ds ∧ ds.length = n ∧ mf ds = some out ∧ out.length ≤ 1000000 ∧ ∀ ys H' F', Gr F H F' H' → RpA K H' F' ys out → Q ys H'
def runG (n : Nat) (f : Gm) : List Da → Option (List Da) := fun ds => (f (sto0 n ds)).map (·.1)
section
variable {P : Program} {w : World} {K : PySem.W.Frag} {mg : Str → Option Value} {base : Heap} {k : Nat} {f : Addr} {fd : FuncData} {ps N : List Str} {ow : List Nat} {fb : Gm} {x qual : Str} {st : Stmt}
theorem gfnP (T : Fun K x qual st f fd) (S : GScope N ps (defScope st)) (how : ∀ i ∈ ow, ps.length ≤ i)
    (hb : ∀ (cdv : Value) (A : Around) (outer : List Env) (s : Shared) (H : Hp) (E : XK) (pn : List (Addr × Obj)), Room k (A.deeper (envOfC qual (defScope st) s.heap.objs.size f cdv)) →
      L2.GSs (gcxOf P w K mg base N qual (defScope st) f cdv A outer s H E pn) (defBody st) (tG K ow fb)) : GFn P w K mg base (k + 1) f fd ps (spGP K ps.length (runG N.length fb)) := by
  obtain ⟨oc, od, kV, doc, pm, an, cdv, ct, osl, rfl, lk, hcd⟩ := T.ex
  have hp : ps.length ≤ N.length := by have := congrArg List.length S.pre; rw [List.length_take] at this; omega
  refine gfn_of lk hcd S (fun vs H Q E ⟨F, ds, out, _, r, hl, _⟩ => r.len.trans hl) fun A outer s H vs Q E pn hr ⟨F, ds, out, fo, r, hl, hm, ho, q⟩ => ⟨_, hb cdv A outer s H E pn hr, ?_⟩
  have c0 : Cr K ⟨H, F, none⟩ ow (start N vs) H F (sto0 N.length ds) := start_cr fo r hl hp how
  unfold runG at hm
  obtain ⟨⟨l, ρ'⟩, e, ez⟩ := Option.map_eq_some_iff.mp hm
  cases ez
  refine ⟨_, F, _, l, ρ', c0, e, by simpa using ho, fun zs σ' H' F' c' le r' => ?_⟩
  rw [List.nil_append]
  exact q zs H' F' (back_gr c') r'
end
theorem nox_cx {P : Program} {w : World} {outer : List Env} {H : Hp} {s : Shared} {u : Value} {s' : Shared} {C : Prop} (h : L2.CX P w outer H s E0 u s') : C := by
  obtain ⟨_, _, _, _, _, _, _, _, _, _, _, _, z⟩ := h
  exact z.elim
section
variable {X : Cx} {ow : List Nat} {k : Nat} {f : Addr} {fd : FuncData} {ps : List Str} {x : Str} {p p2 pos pos' : Pos} {e : Expr} {es : List Expr} {fs : Md (List Da)}
def mFnG (n : Nat) (g : List Da → Option (List Da)) (fs : Md (List Da)) : Md (List Da) := mBind fs fun ds => if ds.length = n then mOpt ((g ds).bind fun l => if l.length ≤ 100000 then some l else none) else fun _ => none
theorem l_listG {n : Nat} {mf : List Da → Option (List Da)} (G : GFn X.prog X.w X.K X.mg X.base k f fd ps (spGP X.K n mf)) (hr : Room (k + 3) X.A) (hg : Gl X x) (hm : X.mg x = some (.ref f)) (hk : PySem.W.keepIn X.K (.ref f) = true) (hb : Binds X.K fd ps [])
    (ha : GA X ow (e :: es) fs) (hgl : Gl X "list") (hml : X.mg "list" = none) (hdb : (x == ("__debug__" : Str)) = false := by decide) (he : starEach (e :: es) X.env = (false, eval e X.env) :: starEach es X.env := by rfl) (hpl : (backTo pos' (starEach es X.env)).any (·.1) = false := by rfl)
    (he2 : starEach [.Call (.Name x p) (e :: es) [] pos'] X.env = (false, eval (.Call (.Name x p) (e :: es) [] pos') X.env) :: starEach [] X.env := by rfl) :
    GL X ow (.Call (.Name "list" p2) [.Call (.Name x p) (e :: es) [] pos'] [] pos) (mFnG n mf fs) :=
  pe_w (pe_listG (E := E0) (pgen_call (E := E0) G (hr.mono (by omega)) hg hm hk hb .nil ha hdb he hpl) (fun _ _ _ _ _ _ _ h => nox_cx h) (fun _ _ _ z => z.elim) hr hgl hml (by decide +kernel) (by decide) (by decide) he2) fun σ H Q ⟨B, F, ρ, l, ρ', c, hf, q⟩ => by
  obtain ⟨ds, ρ1, h1, hf⟩ := bind_inv hf
  by_cases hl : ds.length = n
  · rw [if_pos hl] at hf
    obtain ⟨hg2, rfl⟩ := opt_inv hf
    obtain ⟨l2, hg3, hz⟩ := Option.bind_eq_some_iff.mp hg2
    split at hz
    · rename_i hz'
      cases hz
      refine ⟨B, F, ρ, ds, _, c, h1, fun vs H1 F1 c1 l1 r1 => ?_⟩
      show spGP X.K n mf (vs ++ []) H1 _ E0
      rw [List.append_nil]
      refine ⟨F1, ds, l, c1.fo, r1, hl, hg3, by omega, fun ys H2 F2 gr r2 p np => ?_⟩
      have gr0 := Gr.new0 (p := p) (o := .lst ys) gr.fo np
      have c2 := c1.grow gr
      have le2 := l1.trans (gr.le c1.fo)
      exact q p ys _ F2 (c2.grow gr0) (le2.trans (gr0.le c2.fo)) (le2.back np) upd_same (fun z => c2.fo p z np) (c2.away np) (r2.st (gr0.stay c2.fo))
    · cases hz
  · rw [if_neg hl] at hf
    cases hf
end
end Mir

set_option Elab.async false
set_option linter.all false
set_option maxRecDepth 100000
set_option maxHeartbeats 4000000
namespace Mir
open PySem PySem.Spec PyProof.Rows L2
/-! ### sorted(set(xs)), xs a list or a tuple of ints -/
section
variable {X : Cx}
def rSetLT (K : PySem.W.Frag) (w : World) : List V → Hp → VK → Prop := fun xs H Q => ∃ (l : Addr) (ns : List Int), xs = [.ref l] ∧ (SqL K H l (ns.map V.int) ∨ SqT K H l (ns.map V.int)) ∧ ns.length < 64 ∧
  ∀ (p : Addr) (c : Nat), H p = none → c ≤ ns.length → Q (.ref p) (upd H p (SetO w p (fun j => decide (j ∈ ns)) c))
theorem cr_setLT (hc : X.calm = true) : CallR X (.type "set") (rSetLT X.K X.w) := by
  intro pins s σ H xs us Q I r h
  obtain ⟨l, ns, rfl, hs, h64, q⟩ := h
  rw [Vals.ref1 r]
  rcases hs with hs | hs
  · obtain ⟨its, rv, ht, hz⟩ := I.list hs
    refine set_of_list ns (I.ok.hd hc) ht.isList (by simpa using ints_of_vals rv) (by unfold scanBound; omega) fun h1 k c R hcn kp => ?_
    exact ⟨.ref _, _, I.laid (t' := k) kp (Nat.le_refl _) (setO_new R), rfl, q _ c (I.hok.fresh (Nat.le_refl _)) hcn⟩
  · obtain ⟨its, rv, ht, hz⟩ := I.tuple hs
    refine call_set_tupI ns (I.ok.hd hc) ht (by simpa using ints_of_vals rv) (by unfold scanBound; omega) fun h1 k c R hcn kp => ?_
    exact ⟨.ref _, _, I.laid (t' := k) kp (Nat.le_refl _) (setO_new R), rfl, q _ c (I.hok.fresh (Nat.le_refl _)) hcn⟩
end
def gSset3 : Da → Option (List Da)
  | .list ds => (intsD ds).bind fun ns => if ns.length < 64 then some ((sset ns).map .int) else none
  | .tuple ds => (intsD ds).bind fun ns => if ns.length < 64 then some ((sset ns).map .int) else none
  | _ => none
section
variable {X : Cx} {ow : List Nat} {e : Expr} {fe : Md Da} {p p2 pos pos2 : Pos}
theorem sset_go3 {H : Hp} {F : Frz} {v : V} {d : Da} {es : List Da} (fo : Fo F H) (hv : Bw X.K H F v d) (hg : gSset3 d = some es) {Q : VK}
    (q : ∀ (l : Addr) (ys : List V) (H1 : Hp), Gr F H F H1 → H1 l = none → RpA X.K (upd H1 l (.lst ys)) F ys es → Q (.ref l) (upd H1 l (.lst ys))) : rSetLT X.K X.w [v] H (fun v2 H2 => rSortedSet X.w [v2] H2 Q) := by
  have fin : ∀ (a : Addr) (ns : List Int), v = .ref a → (SqL X.K H a (ns.map V.int) ∨ SqT X.K H a (ns.map V.int)) → ns.length < 64 → es = (sset ns).map .int → rSetLT X.K X.w [v] H (fun v2 H2 => rSortedSet X.w [v2] H2 Q) := fun a ns e s h64 ee => by
    subst ee
    refine ⟨a, ns, by rw [e], s, h64, fun p c np hc => ⟨p, _, c, rfl, upd_same, by omega, fun ms p3 ps hm hl np3 => ?_⟩⟩
    have e4 : ms = sset ns := sset_one ps (sset_sorted ns) fun k => by
      rw [hm k, mem_sset]
      simp
    rw [e4]
    have g1 := Gr.new0 (o := SetO X.w p (fun j => decide (j ∈ ns)) c) fo np
    exact q p3 _ _ g1 np3 (ints_mk)
  cases d with
  | list ds =>
    obtain ⟨ns, hb, e2⟩ := Option.bind_eq_some_iff.mp hg
    split at e2
    · rename_i h64
      cases e2
      obtain ⟨a, vs, e, s, t⟩ := hv.list_inv
      rw [intsD_go hb] at t
      rw [ints_inv t] at s
      exact fin a ns e (.inl s) h64 rfl
    · cases e2
  | tuple ds =>
    obtain ⟨ns, hb, e2⟩ := Option.bind_eq_some_iff.mp hg
    split at e2
    · rename_i h64
      cases e2
      obtain ⟨a, vs, e, s, t, _⟩ := hv.tup_inv
      rw [intsD_go hb] at t
      rw [ints_inv t] at s
      exact fin a ns e (.inr s) h64 rfl
    · cases e2
  | _ => cases hg
theorem l_sset3 (hc : X.calm = true) (hs : Gl X "set") (hsm : X.mg "set" = none) (hg : Gl X "sorted") (hm : X.mg "sorted" = none) (he : GE X ow e fe) (h1 : starEach [e] X.env = (false, eval e X.env) :: starEach [] X.env := by rfl) (h2 : (backTo pos2 (starEach [] X.env)).any (·.1) = false := by rfl)
    (h3 : starEach [.Call (.Name "set" p2) [e] [] pos2] X.env = (false, eval (.Call (.Name "set" p2) [e] [] pos2) X.env) :: starEach [] X.env := by rfl) (h4 : (backTo pos (starEach [] X.env)).any (·.1) = false := by rfl) :
    GL X ow (.Call (.Name "sorted" p) [.Call (.Name "set" p2) [e] [] pos2] [] pos) (mBind fe fun d => mOpt (gSset3 d)) :=
  pe_w (pe_callB (cr_sortedSet hc) hg hm (by decide +kernel) (pa_cons (pe_callTy (cr_setLT hc) hs hsm (by decide +kernel) (pa_cons he pa_nil h1) (by decide) (by decide) h1 h2) pa_nil h3) (by decide) (by decide) h3 h4) fun σ H Q ⟨B, F, ρ, d, ρ', c, hf, q⟩ => by
  obtain ⟨d0, ρ1, h1, hf⟩ := bind_inv hf
  obtain ⟨hg2, rfl⟩ := opt_inv hf
  refine ⟨B, F, ρ, d0, _, c, h1, fun v H1 F1 c1 l1 r1 => ?_⟩
  refine sset_go3 c1.fo (.rp r1) hg2 fun l ys H2 g2 nl t => ?_
  have g3 := Gr.new0 (o := .lst ys) g2.fo nl
  have c2 := c1.grow g2
  have l2 := l1.trans (g2.le c1.fo)
  exact q l ys _ F1 (c2.grow g3) (l2.trans (g3.le c2.fo)) (l2.back nl) upd_same (fun z => c2.fo l z nl) (c2.away nl) t
end
end Mir

set_option Elab.async false
set_option linter.all false
set_option maxRecDepth 100000
set_option maxHeartbeats 4000000
namespace Mir
open PySem PySem.Spec PyProof.Rows L2
/-! ### [..] * n -/
theorem rm_list (a : Int) (t : Tok) (l : Addr) (items : Array Value) (n : Nat) (d : Option Addr) (sl : Array (Option Value)) :
    Meets (Builtin.«int.__rmul__» ⟨[.int a t, .ref l], []⟩) (fun _ R s => s.heap.get? l = some { cls := .type "list", dict := d, data := .seq items n, slots := sl } ∧ R (.ok (.ret Value.notImplemented)) s) :=
  .of_wp fun prog w A R s h => by obtain ⟨hp, g, d, tk, os⟩ := s; obtain ⟨hl, h⟩ := h; wp_walk; exact ⟨_, rfl, h⟩
theorem mul_listI (l : Addr) (items : Array Value) (n : Nat) (d : Option Addr) (sl : Array (Option Value)) (x : Int) (u : Tok) (hc0 : ¬(!Builtin.List.listFitsIndex x) = true)
    (hc1 : ¬items.size * x.toNat > (2 ^ 63 - 1) / 8) (hc2 : ¬Builtin.List.listTooLong (items.size * x.toNat) = true) :
    Meets (Builtin.«list.__mul__» ⟨[.ref l, .int x u], []⟩) (fun _ R s => s.heap.get? l = some { cls := .type "list", dict := d, data := .seq items n, slots := sl } ∧ R (.ok (.ret (Value.ref s.heap.objs.size))) { s with heap := s.heap.push { cls := Value.type "list", data := Data.seq (List.foldl (fun x1 x2 => x1 ++ x2) #[] (List.replicate (if items.isEmpty = true then 0 else x.toNat) items)) }, toks := s.toks }) :=
  .of_wp fun prog w A R s h => by
    obtain ⟨hp, g, d, tk, os⟩ := s; obtain ⟨hl, h⟩ := h
    have hsz := AutoListH.joined_fits hc2
    have f1 := AutoSeq1.idx_int
    wp_walk; refine wpAny_ite_false (decide_eq_false (Nat.not_lt.mpr hsz)) ?_; wp_walk; exact ⟨_, rfl, h⟩
def rRepL (K : PySem.W.Frag) : R2 := fun x y H Q => ∃ l k xs, x = .ref l ∧ y = .int k ∧ SqL K H l xs ∧ 0 ≤ k ∧ k ≤ 1000 ∧ xs.length ≤ 1000 ∧ ∀ p, H p = none → Q (.ref p) (upd H p (.lst (List.replicate k.toNat xs).flatten))
theorem op_repL {X : Cx} : OpR X (binaryOp .Mult) (rRepL X.K) := by
  intro pins s σ H x y v u Q I rx ry h
  obtain ⟨l, k, xs, rfl, rfl, hs, h1, h2, hz, q⟩ := h
  cases rx
  obtain ⟨t, rfl⟩ := ry
  obtain ⟨its, r, ⟨⟨cls, dd, data, sl⟩, n, ho, hc, hdn, hd⟩, hlen⟩ := I.list hs
  have hc1 : cls = Value.type "list" := hc
  have hd1 : data = Data.seq its.toArray n := hd
  subst hc1 hd1
  have hle : its.length = xs.length := r.length.symm
  have hm : its.toArray.size * k.toNat ≤ 1000000 := by
    rw [List.size_toArray, hle]
    exact Nat.mul_le_mul hz (show k.toNat ≤ 1000 by omega)
  have hsl := sizeLine_eq
  have hfit : ¬ (!Builtin.List.listFitsIndex k) = true := by
    rw [fitsIndex_both (by omega) (by omega)]
    exact Bool.false_ne_true
  have hlong : ¬ Builtin.List.listTooLong (its.toArray.size * k.toNat) = true := by
    rw [notLongL (by omega)]
    exact Bool.false_ne_true
  have hnew : List.foldl (fun x1 x2 => x1 ++ x2) #[] (List.replicate (if its.toArray.isEmpty = true then 0 else k.toNat) its.toArray) = (List.replicate k.toNat its).flatten.toArray := by
    have f0 : ∀ m : Nat, List.foldl (fun x1 x2 => x1 ++ x2) #[] (List.replicate m its.toArray) = (List.replicate m its).flatten.toArray := fun m => by
      have := foldl_rep its m []
      rw [List.nil_append] at this
      exact this
    rw [f0]
    cases its with
    | nil => simp
    | cons a r' => rw [if_neg (by simp)]
  refine wpAny_binaryOp_repeat_ref (T := "list") (U := "int") (by decide) ⟨_, ho, rfl⟩ (fun s' => typeIs_int s' k t) noFill_list_mul PySem.F.fills_int_mul PySem.F.slot_int_rmul repeat_list PySem.F.slot_int_index.lookup
    (call_meets PySem.F.slot_int_rmul (typeIs_int s k t) PySem.F.entry_int_rmul (PySem.F.args_int_rmul_2 _ _) (rm_list k t l its.toArray n dd sl)
      ⟨ho, rfl, ⟨_, ho, rfl⟩, call_meets PySem.F.slot_list_mul ⟨_, ho, rfl⟩ PySem.F.entry_list_mul (PySem.F.args_list_mul_2 _ _) (mul_listI l its.toArray n dd sl k t hfit (by omega) hlong) ⟨ho, ?_⟩⟩)
  rw [hnew]
  exact ⟨.ref _, _, I.lnew (t' := s.toks) (r.rep k.toNat) (by
    rw [PyProof.Rows.lm_len_rep_flat, Nat.mul_comm, ← hle, ← List.size_toArray]
    omega), rfl, q _ I.fresh⟩
def gMul2 : Da → Da → Option Da
  | .list xs, .int k => if 0 ≤ k ∧ k ≤ 1000 ∧ xs.length ≤ 1000 then some (.list (repD k.toNat xs)) else none
  | _, _ => none
theorem od_mul2 {K : PySem.W.Frag} : OpD K (rRepL K) gMul2 := fun H F x y dx dy d fo hx hy hg Q q => by
  unfold gMul2 at hg
  split at hg
  · obtain ⟨a, vs, e1, h1, t1⟩ := hx.list_inv
    split at hg
    · rename_i hz
      cases hg
      exact ⟨a, _, vs, e1, hy.int_inv, h1, hz.1, hz.2.1, by rw [t1.len]; exact hz.2.2, fun p np => q _ _ _ (Gr.new fo np) (rp_newL fo np (t1.rep _))⟩
    · cases hg
  · cases hg
end Mir

set_option Elab.async false
set_option linter.all false
set_option maxRecDepth 100000
set_option maxHeartbeats 4000000
namespace Mir
open PySem PySem.Spec PyProof.Rows L2
/-! ### a dict of lists: x = {}, then for ..: x.setdefault(k, []).append(e); from its end on it is only read -/
def addK : List (Da × Da) → Da → Da → List (Da × Da)
  | [], k, e => [(k, .list [e])]
  | (k1, l) :: t, k, e => if sameK k1 k = true then (k1, match l with
    | .list ds => .list (ds ++ [e])
    | l => l) :: t else (k1, l) :: addK t k e
def okL : Da → Bool
  | .list ds => decide (ds.length < 100000)
  | _ => false
def ads (kvs : List (Key × V)) : List Addr := kvs.filterMap fun kv => match kv.2 with
  | .ref p => some p
  | _ => none
theorem ads_cons (k : Key) (p : Addr) (r : List (Key × V)) : ads ((k, .ref p) :: r) = p :: ads r := rfl
theorem ads_app (r : List (Key × V)) (k : Key) (p : Addr) : ads (r ++ [(k, .ref p)]) = ads r ++ [p] := by
  unfold ads
  rw [List.filterMap_append]
  rfl
inductive DLs (K : PySem.W.Frag) (H : Hp) (F : Frz) : List (Key × V) → List (Da × Da) → Prop
  | nil : DLs K H F [] []
  | cons {k : Key} {p : Addr} {us : List V} {ds : List Da} {r : List (Key × V)} {t : List (Da × Da)} : H p = some (.lst us) → ¬ F p → RpA K H F us ds → DLs K H F r t → DLs K H F ((k, .ref p) :: r) ((keyD k, .list ds) :: t)
section
variable {K : PySem.W.Frag} {H H' : Hp} {F F' : Frz} {r : List (Key × V)} {t : List (Da × Da)}
theorem DLs.len : ∀ {r : List (Key × V)} {t : List (Da × Da)}, DLs K H F r t → r.length = t.length
  | _, _, .nil => rfl
  | _, _, .cons _ _ _ d => congrArg (· + 1) (DLs.len d)
theorem DLs.grow (ex : ∀ a o, H a = some o → H' a = some o) (nw : ∀ a, F' a → F a ∨ H a = none) (st : Stay F H F' H') : ∀ {r : List (Key × V)} {t : List (Da × Da)}, DLs K H F r t → DLs K H' F' r t
  | _, _, .nil => .nil
  | _, _, .cons h n a d => .cons (ex _ _ h) (fun z => by
      rcases nw _ z with z | z
      · exact n z
      · rw [h] at z; cases z) (a.st st) (DLs.grow ex nw st d)
theorem stay_upd {p : Addr} {o : HO} (n : ¬ F p) : Stay F H F (upd H p o) := fun a fa => ⟨fa, upd_ne (fun z => n (z ▸ fa))⟩
theorem DLs.other {p : Addr} {o : HO} (n : ¬ F p) : ∀ {r : List (Key × V)} {t : List (Da × Da)}, DLs K H F r t → p ∉ ads r → DLs K (upd H p o) F r t
  | _, _, .nil, _ => .nil
  | _, _, .cons e nf a d, h => by
    rw [ads_cons, List.mem_cons, not_or] at h
    exact .cons ((upd_ne (fun z => h.1 z.symm)).trans e) nf (a.st (stay_upd n)) (DLs.other n d h.2)
theorem DLs.old : ∀ {r : List (Key × V)} {t : List (Da × Da)}, DLs K H F r t → ∀ p ∈ ads r, (∃ us, H p = some (.lst us)) ∧ ¬ F p
  | _, _, .nil, p, h => absurd h List.not_mem_nil
  | _, _, .cons e nf _ d, p, h => by
    rw [ads_cons, List.mem_cons] at h
    rcases h with h | h
    · rw [h]; exact ⟨⟨_, e⟩, nf⟩
    · exact DLs.old d p h
theorem DLs.got {k : Key} {u : V} : ∀ {r : List (Key × V)} {t : List (Da × Da)}, DLs K H F r t → (ads r).Nodup → valV r k = some u → ∃ p us, u = .ref p ∧ p ∈ ads r ∧ H p = some (.lst us) ∧ ¬ F p ∧ ((t.all fun q => okL q.2) = true → us.length < 100000) ∧
    ∀ y e, Rp K H F y e → DLs K (upd H p (.lst (us ++ [y]))) F r (addK t (keyD k) e)
  | _, _, .nil, _, h => by cases h
  | _, _, .cons (k := k1) (p := p) (us := us) (ds := ds) (r := r) (t := t) e nf a d, nd, h => by
    rw [ads_cons, List.nodup_cons] at nd
    by_cases q : k1 = k
    · rw [valV_pos (p := (k1, V.ref p)) q] at h
      cases h
      refine ⟨p, us, rfl, List.mem_cons_self, e, nf, fun al => ?_, fun y x ry => ?_⟩
      · rw [List.all_cons, Bool.and_eq_true] at al
        rw [a.len]
        exact of_decide_eq_true al.1
      · show DLs K _ F _ (if sameK (keyD k1) (keyD k) = true then (keyD k1, .list (ds ++ [x])) :: t else _)
        rw [same_key, if_pos (decide_eq_true q)]
        exact .cons upd_same nf ((a.st (stay_upd nf)).app (.one (ry.st (stay_upd nf)))) (DLs.other nf d nd.1)
    · rw [valV_neg (p := (k1, V.ref p)) q] at h
      obtain ⟨p', us', h1, h2, h3, h4, h5, h6⟩ := DLs.got d nd.2 h
      refine ⟨p', us', h1, by rw [ads_cons]; exact List.mem_cons_of_mem _ h2, h3, h4, fun al => ?_, fun y x ry => ?_⟩
      · rw [List.all_cons, Bool.and_eq_true] at al
        exact h5 al.2
      · show DLs K _ F _ (if sameK (keyD k1) (keyD k) = true then _ else (keyD k1, .list ds) :: addK t (keyD k) x)
        rw [same_key, if_neg (by rw [decide_eq_false q]; exact Bool.false_ne_true)]
        exact .cons ((upd_ne (fun z => nd.1 (by rw [z]; exact h2))).trans e) nf (a.st (stay_upd h4)) (h6 y x ry)
theorem DLs.put {k : Key} {b : Addr} {y : V} {e : Da} (hb : ¬ F b) (ry : Rp K H F y e) : ∀ {r : List (Key × V)} {t : List (Da × Da)}, DLs K H F r t → b ∉ ads r → valV r k = none → DLs K (upd H b (.lst ([] ++ [y]))) F (r ++ [(k, .ref b)]) (addK t (keyD k) e)
  | _, _, .nil, _, _ => .cons upd_same hb (.one (ry.st (stay_upd hb))) .nil
  | _, _, .cons (k := k1) (p := p) (ds := ds) (t := t) e1 nf a d, nb, h => by
    rw [ads_cons, List.mem_cons, not_or] at nb
    by_cases q : k1 = k
    · rw [valV_pos (p := (k1, V.ref p)) q] at h
      cases h
    · rw [valV_neg (p := (k1, V.ref p)) q] at h
      show DLs K _ F ((k1, .ref p) :: (_ ++ _)) (if sameK (keyD k1) (keyD k) = true then _ else (keyD k1, .list ds) :: addK t (keyD k) e)
      rw [same_key, if_neg (by rw [decide_eq_false q]; exact Bool.false_ne_true)]
      exact .cons ((upd_ne (fun z => nb.1 z.symm)).trans e1) nf (a.st (stay_upd hb)) (DLs.put hb ry d nb.2 h)
theorem DLs.rd (st : Stay F H F' H') (h : ∀ p ∈ ads r, F' p ∧ H' p = H p) (d : DLs K H F r t) : RpD K H' F' r t := by
  induction d with
  | nil => exact .nil
  | cons e nf a d ih =>
    rw [ads_cons] at h
    have h1 := h _ List.mem_cons_self
    exact .cons (.lst (.inl ⟨h1.1, .inl (h1.2.trans e)⟩) (a.st st)) (ih fun p hp => h p (List.mem_cons_of_mem _ hp))
end
section
variable {K : PySem.W.Frag} {B : Bs} {σ σ0 : L2.St} {H H0 H' : Hp} {F F0 F' : Frz} {ρ ρ0 : Sto}
/-- the heap as it is now as the entry's -/
theorem Cr.snap (c : Cr K B [] σ H F ρ) : Cr K ⟨H, F, none⟩ [] σ H F ρ := ⟨c.len, c.sl, fun i d _ h => absurd h List.not_mem_nil, fun i j p h => absurd h List.not_mem_nil, c.fo, fun a o e => .inr e, fun a h => h, fun a h => .inl h, fun p h => nomatch h⟩
theorem Cr.rebase (c0 : Cr K B [] σ0 H0 F0 ρ0) (c : Cr K ⟨H0, F0, none⟩ [] σ H F ρ) : Cr K B [] σ H F ρ := by
  have np : ∀ a, B.pen ≠ some a := fun a z => absurd (c0.pn a z).1 List.not_mem_nil
  refine ⟨c.len, c.sl, fun i d _ h => absurd h List.not_mem_nil, fun i j p h => absurd h List.not_mem_nil, c.fo, fun a o e => ?_, fun a h => c.b2 a (c0.b2 a h), fun a h => ?_, fun p h => absurd h (np p)⟩
  · rcases c0.b1 a o e with z | z
    · exact absurd z (np a)
    · rcases c.b1 a o z with y | y
      · cases y
      · exact .inr y
  · rcases c.b3 a h with z | z
    · exact c0.b3 a z
    · refine .inr ?_
      cases q : B.H a with
      | none => rfl
      | some o =>
        rcases c0.b1 a o q with y | y
        · exact absurd y (np a)
        · have z' : H0 a = none := z
          rw [y] at z'; cases z'
theorem Cr.ex (c : Cr K ⟨H0, F0, none⟩ [] σ H F ρ) : ∀ a o, H0 a = some o → H a = some o := fun a o e => by
  rcases c.b1 a o e with z | z
  · cases z
  · exact z
theorem Cr.unset {j : Nat} (v : Option V) (c : Cr K B [] σ H F ρ) : Cr K B [] (σ.set j v) H F (ρ.set j none) := by
  refine ⟨by rw [List.length_set, List.length_set]; exact c.len, fun i d h1 h2 => ?_, fun i d _ h => absurd h List.not_mem_nil, fun i j p h => absurd h List.not_mem_nil, c.fo, c.b1, c.b2, c.b3, fun p h => absurd (c.pn p h).1 List.not_mem_nil⟩
  by_cases e : j = i
  · subst e
    have lt : j < ρ.length := by
      have := (List.getElem?_eq_some_iff.mp h1).1
      rw [List.length_set] at this
      exact this
    rw [List.getElem?_set_self lt] at h1
    cases h1
  · rw [List.getElem?_set_ne e] at h1
    obtain ⟨u, e1, r⟩ := c.sl i d h1 h2
    exact ⟨u, by rw [List.getElem?_set_ne e]; exact e1, r⟩
end
def mCollL (ft : Da → Sto → Option Sto) (fk fe : Md Da) : List Da → List (Da × Da) → Sto → Option (List (Da × Da) × Sto)
  | [], t, ρ => some (t, ρ)
  | d :: ds, t, ρ => match ft d ρ with
    | none => none
    | some ρ1 => match fk ρ1 with
      | none => none
      | some (k, ρ2) => match fe ρ2 with
        | none => none
        | some (e, ρ3) => if (keyQ k).isSome = true ∧ t.length < 100000 ∧ (t.all fun p => okL p.2) = true then mCollL ft fk fe ds (addK t k e) ρ3 else none
def mColl (j : Nat) (fi : Md (List Da)) (ft : Da → Sto → Option Sto) (fk fe : Md Da) : Sm := fun ρ => if j < ρ.length then match fi (ρ.set j none) with
  | none => none
  | some (ds, ρ1) => match mCollL ft fk fe ds [] ρ1 with
    | none => none
    | some (t, ρ2) => some (.nx (ρ2.set j (some (.dict t)))) else none
theorem pss_keep {X : Cx} {st : List Stmt} {t : TS} (h : PSs X st t) : PSs X st (tKeep t) := by
  refine ⟨fun pins s σ H D I hw => ?_⟩
  obtain ⟨d, u, hd, mu, hw⟩ := hw
  obtain ⟨od, I1⟩ := I.lock hd mu
  exact h.run pins s σ _ _ I1 (hw od)
/-- what stands in the midst of the loop -/
structure Mid (K : PySem.W.Frag) (H0 : Hp) (F0 : Frz) (j : Nat) (d : Addr) (σ : L2.St) (H : Hp) (F : Frz) (ρ : Sto) (t : List (Da × Da)) (kvs : List (Key × V)) : Prop where
  c : Cr K ⟨H0, F0, none⟩ [] σ H F ρ
  s : σ[j]? = some (some (.ref d))
  d0 : H0 d = none
  nf : ¬ F d
  hd : H d = some (.dK kvs)
  dl : DLs K H F kvs t
  nd : (ads kvs).Nodup
  dn : d ∉ ads kvs
  p0 : ∀ p ∈ ads kvs, H0 p = none
section
variable {K : PySem.W.Frag} {H0 H H' : Hp} {F0 F F' : Frz} {j : Nat} {d : Addr} {σ σ' : L2.St} {ρ ρ' : Sto} {t : List (Da × Da)} {kvs : List (Key × V)}
theorem Mid.grow (m : Mid K H0 F0 j d σ H F ρ t kvs) (g : Gr F H F' H') : Mid K H0 F0 j d σ H' F' ρ t kvs :=
  ⟨m.c.grow g, m.s, m.d0, (fun z => by
    rcases g.nw d z with z | z
    · exact m.nf z
    · rw [m.hd] at z; cases z), g.ex _ _ m.hd, m.dl.grow g.ex g.nw (g.stay m.c.fo), m.nd, m.dn, m.p0⟩
/-- an expression has been worked out -/
theorem Mid.ev (m : Mid K H0 F0 j d σ H F ρ t kvs) (c : Cr K ⟨H, F, none⟩ [] σ H' F' ρ') (l : Le F H F' H') : Mid K H0 F0 j d σ H' F' ρ' t kvs :=
  ⟨m.c.rebase c, m.s, m.d0, (fun z => by
    rcases c.b3 d z with z | z
    · exact m.nf z
    · have z' : H d = none := z
      rw [m.hd] at z'; cases z'), c.ex _ _ m.hd, m.dl.grow c.ex c.b3 l.st, m.nd, m.dn, m.p0⟩
theorem Mid.put {p : Addr} {o : HO} (m : Mid K H0 F0 j d σ H F ρ t kvs) (hp : H p = some o) (o2 : HO) (nf : ¬ F p) (p0 : H0 p = none) : Cr K ⟨H0, F0, none⟩ [] σ (upd H p o2) F ρ :=
  m.c.swap hp nf (fun j d _ h => absurd h List.not_mem_nil) p0
end
section
variable {X : Cx} {tg iter key : Expr} {fi : Md (List Da)} {ft : Da → Sto → Option Sto} {fk fe : Md Da} {g : Sm} {s1 st : Stmt} {rest : List Stmt} {j : Nat} {ts : List Nat} {pos : Pos}
abbrev tSda (K : PySem.W.Frag) (j : Nat) (fk fe : Md Da) : TE := tBM K "list" rAppend (tBM K "dict" rSetd (tVar j) (tCons (tE K [] fk) (tCons (tL K [] (mSz mNil)) tNil))) (tCons (tE K [] fe) tNil)
/-- one turn -/
theorem sda_go {K : PySem.W.Frag} {H0 H : Hp} {F0 F : Frz} {d : Addr} {σ : L2.St} {ρ ρ2 ρ3 : Sto} {t : List (Da × Da)} {kvs : List (Key × V)} {k e : Da} {Q : VK} (m : Mid K H0 F0 j d σ H F ρ t kvs) (h1 : fk ρ = some (k, ρ2)) (h2 : fe ρ2 = some (e, ρ3)) (hk : (keyQ k).isSome = true) (hz : t.length < 100000)
    (ha : (t.all fun p => okL p.2) = true) (q : ∀ v H' F' kvs', Mid K H0 F0 j d σ H' F' ρ3 (addK t k e) kvs' → Le F H F' H' → Q v H') : tSda K j fk fe σ H Q := by
  obtain ⟨k, hk⟩ := Option.isSome_iff_exists.mp hk
  have ek := keyQ_inv hk
  subst ek
  refine ⟨.ref d, m.s, .inr (.inr (.inl ⟨rfl, .inl ⟨kvs, m.hd⟩⟩)), ⟨H, F, none⟩, F, ρ, _, ρ2, m.c.snap, h1, fun kv H1 F1 c1 l1 r1 => ?_⟩
  have m1 := m.ev c1 l1
  have ew := rp_key r1
  subst ew
  refine ⟨⟨H1, F1, none⟩, F1, ρ2, [], ρ2, m1.c.snap, rfl, fun b vs H2 F2 c2 l2 nb hb nfb _ r2 => ?_⟩
  cases r2
  have m2 := m1.ev c2 l2
  have l12 := l1.trans l2
  have b0 : H0 b = none := by
    cases q0 : H0 b with
    | none => rfl
    | some o =>
      have := m1.c.ex b o q0
      rw [nb] at this; cases this
  have bd : b ≠ d := fun z => by
    have := m1.hd
    rw [← z, nb] at this; cases this
  have ba : b ∉ ads kvs := fun z => by
    obtain ⟨⟨us, e1⟩, _⟩ := m1.dl.old b z
    rw [nb] at e1; cases e1
  refine ⟨d, kvs, k, .ref b, rfl, rfl, m2.hd, by rw [m2.dl.len]; exact Evl.sz_lt hz, fun u hu => ?_, fun hn => ?_⟩
  · obtain ⟨p, us, eu, pa, hp, nfp, _, _⟩ := m2.dl.got m2.nd hu
    subst eu
    refine ⟨.inl ⟨rfl, us, SqL.of hp⟩, ⟨H2, F2, none⟩, F2, ρ2, e, ρ3, m2.c.snap, h2, fun y H3 F3 c3 l3 r3 => ?_⟩
    have m3 := m2.ev c3 l3
    obtain ⟨p', us', eu', pa', hp', nfp', hl, hgo⟩ := m3.dl.got m3.nd hu
    cases eu'
    have p0 := m3.p0 p pa
    have pd : d ≠ p := fun z => m3.dn (z ▸ pa)
    have up := But.upd (vs' := us' ++ [y]) m3.c.fo hp'
    have le := up.le m3.c.fo nfp' hp' upd_same
    refine ⟨p, us', y, rfl, rfl, hp', Evl.sz_lt (hl ha), q _ _ F3 kvs ⟨m3.put hp' _ nfp' p0, m3.s, m3.d0, m3.nf, (upd_ne pd).trans m3.hd, hgo y e r3, m3.nd, m3.dn, m3.p0⟩ ((l12.trans l3).trans le)⟩
  · have pk : putK kvs k (.ref b) = kvs ++ [(k, .ref b)] := putK_new _ hn
    rw [pk]
    -- the dict has the new list
    have up2 := But.updO (o1' := .dK (kvs ++ [(k, .ref b)])) m2.c.fo m2.hd
    have le2 := up2.le m2.c.fo m2.nf m2.hd upd_same
    have hb2 : (upd H2 d (.dK (kvs ++ [(k, .ref b)]))) b = some (.lst []) := (upd_ne bd).trans hb
    have cr2 : Cr K ⟨H0, F0, none⟩ [] σ (upd H2 d (.dK (kvs ++ [(k, .ref b)]))) F2 ρ2 := m2.put m2.hd _ m2.nf m2.d0
    refine ⟨.inl ⟨rfl, [], SqL.of hb2⟩, ⟨upd H2 d (.dK (kvs ++ [(k, .ref b)])), F2, none⟩, F2, ρ2, e, ρ3, cr2.snap, h2, fun y H3 F3 c3 l3 r3 => ?_⟩
    have cr3 := cr2.rebase c3
    have hb3 := c3.ex _ _ hb2
    have nfb3 : ¬ F3 b := fun z => by
      rcases c3.b3 b z with z | z
      · exact nfb z
      · have z' : (upd H2 d (.dK (kvs ++ [(k, .ref b)]))) b = none := z
        rw [hb2] at z'; cases z'
    have hd3 := c3.ex d _ upd_same
    have nfd3 : ¬ F3 d := fun z => by
      rcases c3.b3 d z with z | z
      · exact m2.nf z
      · have z' : (upd H2 d (.dK (kvs ++ [(k, .ref b)]))) d = none := z
        rw [upd_same] at z'; cases z'
    have dl3 := (DLs.other (o := .dK (kvs ++ [(k, .ref b)])) m2.nf m2.dl m2.dn).grow c3.ex c3.b3 l3.st
    have dl4 := DLs.put (k := k) (y := y) nfb3 r3 dl3 ba hn
    have up := But.upd (vs' := [] ++ [y]) cr3.fo hb3
    have le := up.le cr3.fo nfb3 hb3 upd_same
    refine ⟨b, [], y, rfl, rfl, hb3, by show 0 < sizeLine; rw [sizeLine_eq]; omega, q _ _ F3 (kvs ++ [(k, .ref b)]) ⟨cr3.swap hb3 nfb3 (fun j d _ h => absurd h List.not_mem_nil) b0, m2.s, m2.d0, nfd3, (upd_ne (Ne.symm bd)).trans hd3, dl4, ?_, ?_, ?_⟩ (((l12.trans le2).trans l3).trans le)⟩
    · rw [ads_app, List.nodup_append]
      exact ⟨m2.nd, List.pairwise_singleton _ _, fun x hx y hy z => ba (by rw [List.mem_singleton] at hy; rw [← hy, ← z]; exact hx)⟩
    · rw [ads_app, List.mem_append, List.mem_singleton]
      rintro (z | z)
      · exact m2.dn z
      · exact bd z.symm
    · intro p hp
      rw [ads_app, List.mem_append, List.mem_singleton] at hp
      rcases hp with z | z
      · exact m2.p0 p z
      · rw [z]; exact b0
theorem b_coll (h1 : PS X s1 (tAsg tDNewK (gName j))) (hp : PassesOwn (model X.prog X.w) X.A X.env X.xe) (hc : X.calm = true) (hi : GI X [] tg iter fi) (hg : GG X [] tg ts ft) (hj : j ∉ ts) (hb : PS X st (tDrop (tSda X.K j fk fe))) (hr : GB X [] rest g)
    (hs : ∀ x, foldedSetIterable iter X.env x = pure x := by intro _; rfl) : GB X [] (s1 :: .For tg iter [st] [] pos :: rest) (mSeq (mColl j fi ft fk fe) g) :=
  pss_w (pss_cons h1 (pss_cons (ps_for hp hc hi hg (pss_one hb) hs) (pss_keep hr))) fun D σ H0 ⟨B, F0, ρ, o, c0, hf, a⟩ => by
  obtain ⟨ρF, hm, hgo⟩ : ∃ ρF, mColl j fi ft fk fe ρ = some (.nx ρF) ∧ g ρF = some o := by
    unfold mSeq at hf
    split at hf
    · rename_i ρ' h
      exact ⟨ρ', h, hf⟩
    · rename_i h
      exfalso
      unfold mColl at hf h
      split at hf
      · rename_i hlt
        rw [if_pos hlt] at h
        cases e1 : fi (ρ.set j none) with
        | none => simp only [e1] at hf; cases hf
        | some x =>
          obtain ⟨ds, ρ1⟩ := x
          simp only [e1] at hf h
          cases e2 : mCollL ft fk fe ds [] ρ1 with
          | none => simp only [e2] at hf; cases hf
          | some y =>
            obtain ⟨t, ρ2⟩ := y
            simp only [e2] at h
            exact h _ rfl
      · cases hf
  unfold mColl at hm
  have hlt : j < ρ.length := Classical.byContradiction fun n => by
    rw [if_neg n] at hm
    cases hm
  rw [if_pos hlt] at hm
  split at hm
  · cases hm
  rename_i ds ρ1 e1
  split at hm
  · cases hm
  rename_i T ρE e2
  cases hm
  intro d nd
  show tFor (tI X.K [] fi) (gOf X.K [] ts ft) (tDrop (tSda X.K j fk fe)) { D with nx := tKeep (tS X.K [] g) D } (σ.set j (some (.ref d))) (upd H0 d (.dK []))
  have gr := Gr.new0 (o := .dK []) c0.fo nd
  have cA : Cr X.K ⟨H0, F0, none⟩ [] (σ.set j (some (.ref d))) (upd H0 d (.dK [])) F0 (ρ.set j none) := (c0.snap.grow gr).unset _
  have sj : (σ.set j (some (V.ref d)))[j]? = some (some (.ref d)) := List.getElem?_set_self (by rw [c0.len]; exact hlt)
  have nf0 : ¬ F0 d := fun z => c0.fo d z nd
  have mA : Mid X.K H0 F0 j d (σ.set j (some (.ref d))) (upd H0 d (.dK [])) F0 (ρ.set j none) [] [] := ⟨cA, sj, nd, nf0, upd_same, .nil, List.nodup_nil, List.not_mem_nil, fun p hp => absurd hp List.not_mem_nil⟩
  refine ⟨⟨upd H0 d (.dK []), F0, none⟩, F0, ρ.set j none, ds, ρ1, cA.snap, e1, fun J H1 F1 c1 l1 it => ?_⟩
  have mB := mA.ev c1 l1
  have lA : Le F0 H0 F1 H1 := (gr.le c0.fo).trans l1
  refine ⟨fun i m σ H => ∃ F ρ t kvs, Mid X.K H0 F0 j d σ H F ρ t kvs ∧ Le F1 H1 F H ∧ m = ds.length - i ∧ i ≤ ds.length ∧ mCollL ft fk fe (ds.drop i) t ρ = some (T, ρE), ⟨ds.length, F1, ρ1, [], [], mB, Le.refl, rfl, Nat.zero_le _, e2⟩, ?_⟩
  rintro i m σ H ⟨F, ρ, t, kvs, M, l, rfl, hi, hf⟩
  obtain ⟨stop, go⟩ := it i H F l.st M.c.fo
  by_cases hlt : i < ds.length
  · obtain ⟨x, hx, hdr⟩ := drop_get hlt
    rw [hdr] at hf
    obtain ⟨g1, g2⟩ := go x hx
    refine .inr ⟨g1, fun σ' H' => ∃ F' ρ' t' kvs', Mid X.K H0 F0 j d σ' H' F' ρ' t' kvs' ∧ Le F1 H1 F' H' ∧ mCollL ft fk fe (ds.drop (i + 1)) t' ρ' = some (T, ρE), fun σ' H' ⟨F', ρ', t', kvs', M', l', hf'⟩ => ⟨ds.length - (i + 1), by omega, F', ρ', t', kvs', M', l', rfl, hlt, hf'⟩, fun y H' hy => ?_⟩
    obtain ⟨F', gr, ry⟩ := g2 y H' hy
    have M' := M.grow gr
    have l' := l.trans (gr.le M.c.fo)
    unfold mCollL at hf
    split at hf
    · cases hf
    rename_i ρ2 ht
    split at hf
    · cases hf
    rename_i k ρ3 hk
    split at hf
    · cases hf
    rename_i e ρ4 he
    have hz : (keyQ k).isSome = true ∧ t.length < 100000 ∧ (t.all fun p => okL p.2) = true := Classical.byContradiction fun n => by
      rw [if_neg n] at hf
      cases hf
    rw [if_pos hz] at hf
    refine ⟨⟨H0, F0, none⟩, F', ρ, x, ρ2, M'.c, ry, ht, fun σ2 c2 els => ?_⟩
    have M2 : Mid X.K H0 F0 j d σ2 H' F' ρ2 t kvs := ⟨c2, (els.2 j hj).trans M'.s, M'.d0, M'.nf, M'.hd, M'.dl, M'.nd, M'.dn, M'.p0⟩
    exact sda_go M2 hk he hz.1 hz.2.1 hz.2.2 fun v H3 F3 kvs3 M3 l3 => ⟨F3, ρ4, addK t k e, kvs3, M3, l'.trans l3, hf⟩
  · have e : i = ds.length := by omega
    subst e
    rw [List.drop_length] at hf
    cases hf
    refine .inl ⟨stop (Nat.le_refl _), d, .dK kvs, M.hd, trivial, fun od => ?_⟩
    let F' : Frz := fun a => F a ∨ a = d ∨ a ∈ ads kvs
    let H' : Hp := upd H d (.frz od (.dK kvs))
    have st : Stay F H F' H' := fun a fa => ⟨.inl fa, upd_ne (fun z => M.nf (z ▸ fa))⟩
    have le : Le F H F' H' := ⟨st, fun a n => by
      by_cases z : a = d
      · rw [z]
        show (upd H d _) d ≠ none
        rw [upd_same]; exact fun w => nomatch w
      · show (upd H d _) a ≠ none
        rw [upd_ne z]; exact n⟩
    have rd : RpD X.K H' F' kvs T := M.dl.rd st fun p hp => ⟨.inr (.inr hp), upd_ne (fun z => M.dn (z ▸ hp))⟩
    have len : σ.length = (ρE.set j (some (PyData.dict T))).length := by rw [List.length_set]; exact M.c.len
    have cF : Cr X.K ⟨H0, F0, none⟩ [] σ H' F' (ρE.set j (some (.dict T))) := by
      refine ⟨len, fun i x h1 h2 => ?_, fun i d _ h => absurd h List.not_mem_nil, fun i j p h => absurd h List.not_mem_nil, fun a fa => ?_, fun a o e => .inr ?_, fun a h => .inl (M.c.b2 a h), fun a h => ?_, fun p h => nomatch h⟩
      · rcases set_get h1 with ⟨z1, z2, _⟩ | ⟨n, hn⟩
        · cases z2
          subst z1
          exact ⟨.ref d, M.s, .dct (.inr (.inl rfl)) upd_same rd⟩
        · obtain ⟨v, e, r⟩ := M.c.sl i x hn h2
          exact ⟨v, e, r.st st⟩
      · rcases fa with z | z | z
        · exact le.tk a (M.c.fo a z)
        · rw [z]
          show (upd H d _) d ≠ none
          rw [upd_same]; exact fun w => nomatch w
        · obtain ⟨⟨us, e⟩, _⟩ := M.dl.old a z
          exact le.tk a (by rw [e]; exact fun w => nomatch w)
      · have e0 : H0 a = some o := e
        show (upd H d _) a = some o
        rw [upd_ne (fun z => by rw [z, M.d0] at e0; cases e0)]
        exact M.c.ex a o e0
      · rcases h with z | z | z
        · exact M.c.b3 a z
        · rw [z]; exact .inr M.d0
        · exact .inr (M.p0 a z)
    exact ⟨B, F', _, o, c0.rebase cF, hgo, a.le ((lA.trans l).trans le)⟩
/-- d.values() -/
def valsQ : Da → Option (List Da)
  | .dict t => some (t.map (·.2))
  | _ => none
theorem RpD.atV {K : PySem.W.Frag} {H : Hp} {F : Frz} : ∀ {r : List (Key × V)} {t : List (Da × Da)} {i : Nat} {d : Da}, RpD K H F r t → (t.map (·.2))[i]? = some d → ∃ k v, r[i]? = some (k, v) ∧ Rp K H F v d
  | _, _, _, _, .nil, h => by simp at h
  | _, _, 0, d, .cons (k := k) (v := v) (d := d1) a _, h => ⟨k, v, rfl, by
    have : d1 = d := by simpa using h
    rw [← this]; exact a⟩
  | _, _, i + 1, d, .cons _ t, h => by
    obtain ⟨k, v, h1, h2⟩ := RpD.atV (i := i) (d := d) t (by simpa using h)
    exact ⟨k, v, by simpa using h1, h2⟩
theorem it_vals {K : PySem.W.Frag} {H1 : Hp} {F1 : Frz} {p : Addr} {o : Obj} {kvs : List (Key × V)} {t : List (Da × Da)} (f : F1 p) (r : H1 p = some (.frz o (.dK kvs))) (s : RpD K H1 F1 kvs t) : ItD K (Itd p o kvs) (t.map (·.2)) F1 H1 := fun i H F st fo => by
  have hp : H p = some (.frz o (.dK kvs)) := (st p f).2.trans r
  have hl := s.len
  refine ⟨fun h => ⟨hp, by rw [List.length_map] at h; omega⟩, fun d hd => ?_⟩
  have hi : i < kvs.length := by
    have := (List.getElem?_eq_some_iff.mp hd).1
    rw [List.length_map] at this
    omega
  refine ⟨⟨hp, hi⟩, fun x H' ⟨e1, k, e2⟩ => ?_⟩
  obtain ⟨k2, v2, g1, g2⟩ := s.atV hd
  rw [g1] at e2
  cases e2
  subst e1
  exact ⟨F, Gr.refl fo, g2.st st⟩
theorem i_vals {ow : List Nat} {e : Expr} {fe : Md Da} {apos cpos : Pos} (h : GE X ow e fe) (hbase : attributeBase e "values" X.env (eval e X.env) = eval e X.env := by rfl) (hline : (apos.endLine == cpos.line) = true := by rfl) : GI X ow tg (.Call (.Attribute e "values" apos) [] [] cpos) (mBind fe fun d => mOpt (valsQ d)) := pi_w (pi_values h hbase hline) fun σ H R ⟨B, F, ρ, ds, ρ', c, hf, q⟩ => by
  obtain ⟨d, ρ1, h1, hf⟩ := bind_inv hf
  obtain ⟨hg, rfl⟩ := opt_inv hf
  cases d with
  | dict t =>
    cases hg
    refine ⟨B, F, ρ, _, _, c, h1, fun v H1 F1 c1 l1 r1 => ?_⟩
    cases r1 with
    | dct f r s => exact ⟨_, _, _, rfl, r, q _ H1 F1 c1 l1 (it_vals f r s)⟩
  | _ => cases hg
end
end Mir

set_option Elab.async false
set_option linter.all false
set_option maxRecDepth 100000
set_option maxHeartbeats 4000000
namespace Mir
open PySem PySem.Spec PyProof.Rows L2
/-! ### k in d, k not in d, of a dict that only this def holds -/
def mHasD (n : Bool) (fk : Md Da) (j : Nat) : Md Da := mBind fk fun k => withD j fun t => mOpt (if (keyQ k).isSome = true then some (.bool (n != hasD t k)) else none)
section
variable {X : Cx} {ow : List Nat} {a b : Expr} {fa : Md Da} {j : Nat} {pos : Pos}
theorem hasD_go {K : PySem.W.Frag} {n : Bool} {σ : L2.St} {H : Hp} {Q : VK} (hj : j ∈ ow) (h : tE K ow (mHasD n fa j) σ H Q) : tE K ow fa σ H fun y H1 => tVar j σ H1 fun x H2 => ∃ a o, x = .ref a ∧ DGet H2 a y o ∧ Q (.bl (n != o.isSome)) H2 := by
  obtain ⟨B, F, ρ, d, ρ', c, hf, q⟩ := h
  obtain ⟨x, ρ1, h1, hf⟩ := bind_inv hf
  obtain ⟨t, g1, hf⟩ := withD_inv hf
  obtain ⟨hg, rfl⟩ := opt_inv hf
  split at hg
  · rename_i hz
    cases hg
    obtain ⟨k, hk⟩ := Option.isSome_iff_exists.mp hz
    have ek := keyQ_inv hk
    subst ek
    refine ⟨B, F, ρ, _, _, c, h1, fun w H1 F1 c1 l1 r1 => ?_⟩
    obtain ⟨p, kvs, f1, f2, f3, f4⟩ := c1.ownD hj g1
    have ew := rp_key r1
    subst ew
    have hh : hasD t (keyD k) = (valV kvs k).isSome := by rw [← f4.has k, valV_any]
    refine ⟨.ref p, f1, p, _, rfl, DGet.k f2, ?_⟩
    rw [hh] at q
    exact q _ H1 F1 c1 l1 (.bl _)
  · cases hg
theorem e_notInD (hu : X.A.units + 1 < cLine) (ha : GE X ow a fa) (hb : PE X b (tVar j)) (hj : j ∈ ow) (hm : behindInMarks .NotIn b = false) : GE X ow (.Compare a [.NotIn] [b] pos) (mHasD true fa j) := pe_w (pe_cmp (pc_dnotin hu ha hb) hm) fun σ H Q h => by
  obtain ⟨B, F, ρ, d, ρ', c, hf, q⟩ := hasD_go hj h
  exact ⟨B, F, ρ, d, ρ', c, hf, fun v H' F' c' l' r' => by
    obtain ⟨w, e, a, o, ea, g, z⟩ := q v H' F' c' l' r'
    exact ⟨w, e, a, o, ea, g, by cases o <;> exact z⟩⟩
theorem e_inD (hu : X.A.units + 1 < cLine) (ha : GE X ow a fa) (hb : PE X b (tVar j)) (hj : j ∈ ow) (hm : behindInMarks .In b = false) : GE X ow (.Compare a [.In] [b] pos) (mHasD false fa j) := pe_w (pe_cmp (pc_din hu ha hb) hm) fun σ H Q h => by
  obtain ⟨B, F, ρ, d, ρ', c, hf, q⟩ := hasD_go hj h
  exact ⟨B, F, ρ, d, ρ', c, hf, fun v H' F' c' l' r' => by
    obtain ⟨w, e, a, o, ea, g, z⟩ := q v H' F' c' l' r'
    exact ⟨w, e, a, o, ea, g, by cases o <;> exact z⟩⟩
theorem tb_go {t : TE} {f : Md Da} (h : ∀ σ H Q, tE X.K ow f σ H Q → t σ H Q) (σ : L2.St) (H : Hp) (Q : Bool → Hp → Prop) (hq : tT X.K ow (mB f) σ H Q) : tB t σ H Q := by
  obtain ⟨B, F, ρ, k, ρ', c, hf, q⟩ := hq
  obtain ⟨x, ρ1, h1, hf⟩ := bind_inv hf
  obtain ⟨hg, rfl⟩ := opt_inv hf
  have hx := isB_inv hg
  subst hx
  refine h σ H _ ⟨B, F, ρ, .bool k, ρ', c, h1, fun v H1 F1 c1 l1 r1 => ?_⟩
  cases r1
  exact ⟨k, rfl, q H1 F1 c1 l1⟩
theorem t_notInD (hu : X.A.units + 1 < cLine) (ha : GE X ow a fa) (hb : PE X b (tVar j)) (hj : j ∈ ow) (hm : behindInMarks .NotIn b = false) : GT X ow (.Compare a [.NotIn] [b] pos) (mB (mHasD true fa j)) := pt_w (pt_cmp (pc_dnotin hu ha hb) hm) (tb_go fun σ H Q h => by
  obtain ⟨B, F, ρ, d, ρ', c, hf, q⟩ := hasD_go hj h
  exact ⟨B, F, ρ, d, ρ', c, hf, fun v H' F' c' l' r' => by
    obtain ⟨w, e, a, o, ea, g, z⟩ := q v H' F' c' l' r'
    exact ⟨w, e, a, o, ea, g, by cases o <;> exact z⟩⟩)
theorem t_inD (hu : X.A.units + 1 < cLine) (ha : GE X ow a fa) (hb : PE X b (tVar j)) (hj : j ∈ ow) (hm : behindInMarks .In b = false) : GT X ow (.Compare a [.In] [b] pos) (mB (mHasD false fa j)) := pt_w (pt_cmp (pc_din hu ha hb) hm) (tb_go fun σ H Q h => by
  obtain ⟨B, F, ρ, d, ρ', c, hf, q⟩ := hasD_go hj h
  exact ⟨B, F, ρ, d, ρ', c, hf, fun v H' F' c' l' r' => by
    obtain ⟨w, e, a, o, ea, g, z⟩ := q v H' F' c' l' r'
    exact ⟨w, e, a, o, ea, g, by cases o <;> exact z⟩⟩)
end
end Mir

set_option Elab.async false
set_option linter.all false
set_option maxRecDepth 100000
set_option maxHeartbeats 4000000
namespace Mir
open PySem PySem.Spec PyProof.Rows L2
/-! ### list(d) of a dict that is only read -/
def rListK : List V → Hp → VK → Prop := fun xs H Q => ∃ (d : Addr) (o : Obj) (kvs : List (Key × V)), xs = [.ref d] ∧ H d = some (.frz o (.dK kvs)) ∧ kvs.length ≤ 100000 ∧ ∀ p, H p = none → Q (.ref p) (upd H p (.lst (kvs.map fun kv => kV kv.1)))
theorem cr_listK {X : Cx} (hc : X.calm = true) : CallR X (.type "list") rListK := by
  intro pins s σ H xs us Q I r h
  obtain ⟨d, o, kvs, rfl, hd, hz, q⟩ := h
  rw [Vals.ref1 r]
  obtain ⟨lo, hgd, hx, es, ep, vs, hdt, hsz, kv, hm⟩ := I.frzK hd
  have hl : kvs.length = vs.length := Paired.length kv
  have hs := sizeLine_eq
  refine PySem.W.kdl_call (PySem.W.kdl_dict (knd := mixKind X.prog X.w) (kvs := vs) (ep := ep) lo) (I.ok.hd hc) hm (by omega) fun h' tk acc c hk hS hit => ?_
  have hv : Vals (kvs.map fun kv => kV kv.1) acc.toList := by
    have e0 : acc.toList.length = vs.length := Array.length_toList.trans hit.1
    refine vals_of_at (by rw [List.length_map, e0, hl]) fun j x u hx hu => ?_
    rw [Array.getElem?_toList] at hu
    obtain ⟨k, y, e1, e2⟩ := hit.2 j u hu
    rw [List.getElem?_map] at hx
    obtain ⟨⟨k2, v2⟩, e3, e4⟩ := Option.map_eq_some_iff.mp hx
    obtain ⟨u2, e5, _⟩ := kv_get kv e3
    rw [e1] at e5
    cases e5
    rw [← e4]
    exact relV_key (show keyIs k u = true from e2)
  have hS' : h'.get? s.heap.objs.size = some { cls := .type "list", dict := none, data := .seq acc.toList.toArray c, slots := #[] } := by rw [Array.toArray_toList]; exact hS
  exact ⟨.ref _, _, I.laid (t' := tk) (o := .lst (kvs.map fun kv => kV kv.1)) hk (Nat.le_refl _) ⟨by rw [List.length_map]; omega, acc.toList, c, hv, hS'⟩, rfl, q _ (I.hok.fresh (Nat.le_refl _))⟩
section
variable {X : Cx} {ow : List Nat} {e : Expr} {fe : Md Da} {p pos : Pos}
theorem RpD.keys {K : PySem.W.Frag} {H H' : Hp} {F F' : Frz} : ∀ {r : List (Key × V)} {t : List (Da × Da)}, RpD K H F r t → RpA K H' F' (r.map fun kv => kV kv.1) (t.map (·.1))
  | _, _, .nil => .nil
  | _, _, .cons (k := k) _ t => .cons (rp_keyD k) (RpD.keys t)
def keysS (d : Da) : Option (List Da) := (keysQ d).bind fun ds => if ds.length ≤ 100000 then some ds else none
theorem l_listK (hc : X.calm = true) (hs : Gl X "list") (hsm : X.mg "list" = none) (he : GE X ow e fe) (h1 : starEach [e] X.env = (false, eval e X.env) :: starEach [] X.env := by rfl) (h2 : (backTo pos (starEach [] X.env)).any (·.1) = false := by rfl) :
    GL X ow (.Call (.Name "list" p) [e] [] pos) (mBind fe fun d => mOpt (keysS d)) :=
  pe_w (pe_callTy (cr_listK hc) hs hsm (by decide +kernel) (pa_cons he pa_nil h1) (by decide) (by decide) h1 h2) fun σ H Q ⟨B, F, ρ, d, ρ', c, hf, q⟩ => by
  obtain ⟨d0, ρ1, h1, hf⟩ := bind_inv hf
  obtain ⟨hg, rfl⟩ := opt_inv hf
  refine ⟨B, F, ρ, d0, _, c, h1, fun v H1 F1 c1 l1 r1 => ?_⟩
  unfold keysS at hg
  obtain ⟨ds, hb, hz⟩ := Option.bind_eq_some_iff.mp hg
  split at hz
  · rename_i hlen
    cases hz
    cases d0 with
    | dict t =>
      cases hb
      cases r1 with
      | @dct a0 o0 kvs0 _ f r s =>
        refine ⟨_, _, _, rfl, r, by rw [s.len]; rw [List.length_map] at hlen; exact hlen, fun p np => ?_⟩
        have g3 := Gr.new0 (o := .lst (kvs0.map fun kv => kV kv.1)) c1.fo np
        exact q p _ _ F1 (c1.grow g3) (l1.trans (g3.le c1.fo)) (l1.back np) upd_same (fun z => c1.fo p z np) (c1.away np) s.keys
    | _ => cases hb
  · cases hz
end
/-! ### an own dict is locked for what follows: from here on it is only read -/
def Out.unset (j : Nat) : Out → Out
  | .nx ρ => .nx (ρ.set j none)
  | .rt d ρ => .rt d (ρ.set j none)
  | .bk ρ => .bk (ρ.set j none)
  | .ct ρ => .ct (ρ.set j none)
def mLockD (j : Nat) (g : Sm) : Sm := fun ρ => match ρ[j]? with
  | some (some (.dict _)) => (g ρ).map (Out.unset j)
  | _ => none
theorem Cr.wide {K : PySem.W.Frag} {B : Bs} {ow ow' : List Nat} {σ : L2.St} {H : Hp} {F : Frz} {ρ : Sto} {j : Nat} (h0 : j ≠ 0) (sub : ∀ i, i ∈ ow ↔ i = j ∨ i ∈ ow') (c : Cr K B ow' σ H F ρ) : Cr K B ow σ H F (ρ.set j none) := by
  have get : ∀ {i : Nat} {d : Da}, (ρ.set j none : Sto)[i]? = some (some d) → i ≠ j ∧ ρ[i]? = some (some d) := fun {i d} h => by
    rcases set_get h with ⟨_, y, _⟩ | ⟨n, h⟩
    · cases y
    · exact ⟨n, h⟩
  refine ⟨by rw [List.length_set]; exact c.len, fun i d h1 h2 => ?_, fun i d h1 h2 => ?_, fun i k q h1 h2 h3 h4 h5 => ?_, c.fo, c.b1, c.b2, c.b3, fun q h => ?_⟩
  · obtain ⟨_, h1⟩ := get h1
    exact c.sl i d h1 fun w => h2 ((sub i).mpr (.inr w))
  · obtain ⟨n, h1⟩ := get h1
    exact c.lo i d h1 (((sub i).mp h2).resolve_left n)
  · obtain ⟨d1, h4⟩ := h4
    obtain ⟨d2, h5⟩ := h5
    obtain ⟨n1, h4⟩ := get h4
    obtain ⟨n2, h5⟩ := get h5
    exact c.dj i k q (((sub i).mp h1).resolve_left n1) (((sub k).mp h2).resolve_left n2) h3 ⟨d1, h4⟩ ⟨d2, h5⟩
  · obtain ⟨g0, g1, d, g2⟩ := c.pn q h
    exact ⟨(sub 0).mpr (.inr g0), g1, d, by rw [List.getElem?_set_ne h0]; exact g2⟩
theorem b_lockD {X : Cx} {ow ow' : List Nat} {rest : List Stmt} {g : Sm} (j : Nat) (hj : j ∈ ow) (h0 : j ≠ 0) (sub : ∀ i, i ∈ ow ↔ i = j ∨ i ∈ ow') (nj : j ∉ ow') (hr : GB X ow' rest g) : GB X ow rest (mLockD j g) := pss_w (pss_keep hr) fun D σ H ⟨B, F, ρ, o2, c, hf, a2⟩ => by
  unfold mLockD at hf
  split at hf
  · rename_i t hd
    obtain ⟨o, hg, eo⟩ := Option.map_eq_some_iff.mp hf
    subst eo
    obtain ⟨p, kvs, e2, e3, e4, e5, e6⟩ := c.ownK hj hd
    have np : B.pen ≠ some p := fun z => by
      obtain ⟨g0, g1, g2⟩ := c.pn p z
      exact c.dj j 0 p hj g0 h0 ⟨_, hd⟩ g2 e2 g1
    have nb := e5.resolve_left np
    have hn : ∀ i d, ρ[i]? = some (some d) → i ∈ ow' → σ[i]? ≠ some (some (.ref p)) := fun i x hi ho z => by
      have ne : j ≠ i := fun w => nj (w ▸ ho)
      exact c.dj j i p hj ((sub i).mpr (.inr ho)) ne ⟨_, hd⟩ ⟨_, hi⟩ e2 z
    refine ⟨p, .dK kvs, e3, trivial, fun od => ?_⟩
    have st : Stay F H (frz1 F p) (upd H p (.frz od (.dK kvs))) := fun b fb => ⟨.inl fb, upd_ne (fun z => e4 (z ▸ fb))⟩
    have le : Le F H (frz1 F p) (upd H p (.frz od (.dK kvs))) := ⟨st, fun b n => by
      by_cases z : b = p
      · rw [z, upd_same]; exact fun w => nomatch w
      · rw [upd_ne z]; exact n⟩
    have cF : Cr X.K B ow' σ (upd H p (.frz od (.dK kvs))) (frz1 F p) ρ := by
      refine ⟨c.len, fun i d h1 h2 => ?_, fun i d h1 h2 => ?_, fun i k q h1 h2 h3 h4 h5 => c.dj i k q ((sub i).mpr (.inr h1)) ((sub k).mpr (.inr h2)) h3 h4 h5, fun b fb => ?_, fun b u e => ?_, fun b h => .inl (c.b2 b h), fun b h => ?_, fun q h => ?_⟩
      · by_cases z : i = j
        · subst z
          rw [hd] at h1
          cases h1
          exact ⟨.ref p, e2, .dct (.inr rfl) upd_same (e6.st st)⟩
        · obtain ⟨v, e, r⟩ := c.sl i d h1 (fun w => by
            rcases (sub i).mp w with w | w
            · exact z w
            · exact h2 w)
          exact ⟨v, e, r.st st⟩
      · obtain ⟨q, u1, u2, u3, f2, f3, f4, f5, f6⟩ := c.lo i d h1 ((sub i).mpr (.inr h2))
        have ne : q ≠ p := fun z => hn i d h1 h2 (z ▸ f2)
        exact ⟨q, u1, u2, u3, f2, (upd_ne ne).trans f3, (fun z => by
          rcases z with z | z
          · exact f4 z
          · exact ne z), f5, f6.st st⟩
      · rcases fb with z | z
        · exact le.tk b (c.fo b z)
        · rw [z, upd_same]; exact fun w => nomatch w
      · rcases c.b1 b u e with z | z
        · exact .inl z
        · exact .inr ((upd_ne (fun w => by rw [w, nb] at e; cases e)).trans z)
      · rcases h with z | z
        · exact c.b3 b z
        · rw [z]; exact .inr nb
      · obtain ⟨g0, g1, g2⟩ := c.pn q h
        refine ⟨?_, g1, g2⟩
        rcases (sub 0).mp g0 with w | w
        · exact absurd w.symm h0
        · exact w
    refine ⟨B, _, ρ, o, cF, hg, ?_⟩
    cases o with
    | nx ρ' => exact fun σ' H' F' c' l' => a2 σ' H' F' (c'.wide h0 sub) (le.trans l')
    | rt d ρ' => exact fun v σ' H' F' c' r => a2 v σ' H' F' (c'.wide h0 sub) r
    | bk ρ' => exact fun σ' H' F' c' l' => a2 σ' H' F' (c'.wide h0 sub) (le.trans l')
    | ct ρ' => exact fun σ' H' F' c' l' => a2 σ' H' F' (c'.wide h0 sub) (le.trans l')
  · cases hf
/-! ### a, b = {}, e -/
def mParD (i j : Nat) (fb : Md Da) : Sm := fun ρ => match fb ρ with
  | some (d, ρ1) => some (.nx ((ρ1.set i (some (.dict []))).set j (some d)))
  | none => none
theorem s_parD {X : Cx} {ow : List Nat} {i j : Nat} {st : Stmt} {fb : Md Da} (h : PS X st (tPar i j (tCons tDNewK (tCons (tE X.K ow fb) tNil)))) (hi : i ∈ ow) (hj : j ∉ ow) (h0 : i ≠ 0) : GS X ow st (mParD i j fb) := ps_w h fun D σ H ⟨B, F, ρ, o, c, hf, a⟩ => by
  unfold mParD at hf
  split at hf
  · rename_i d ρ1 h1
    cases hf
    intro p np
    let B' : Bs := ⟨fun b => if b = p then some (.dK []) else B.H b, B.F, B.pen⟩
    have gr := Gr.new0 (o := .dK []) c.fo np
    have cg := c.grow gr
    have pn : ∀ q, B.pen = some q → q ≠ p := fun q z w => by
      obtain ⟨g0, g1, x, g2⟩ := c.pn q z
      exact c.away np 0 x g2 g0 (w ▸ g1)
    have bp := c.new np
    have cB : Cr X.K B' ow σ (upd H p (.dK [])) F ρ := by
      refine ⟨cg.len, cg.sl, fun k x h1 h2 => ?_, cg.dj, cg.fo, fun b u e => ?_, cg.b2, fun b fb => ?_, cg.pn⟩
      · obtain ⟨q, u1, u2, u3, e2, e3, e4, e5, e6⟩ := cg.lo k x h1 h2
        refine ⟨q, u1, u2, u3, e2, e3, e4, ?_, e6⟩
        rcases e5 with z | z
        · exact .inl z
        · refine .inr ?_
          have ne : q ≠ p := fun w => c.away np k x h1 h2 (w ▸ e2)
          show (if q = p then _ else B.H q) = none
          rw [if_neg ne]; exact z
      · have e' : (if b = p then some (HO.dK []) else B.H b) = some u := e
        by_cases w : b = p
        · rw [if_pos w] at e'
          cases e'
          rw [w]
          exact .inr upd_same
        · rw [if_neg w] at e'
          exact cg.b1 b u e'
      · rcases cg.b3 b fb with z | z
        · exact .inl z
        · by_cases w : b = p
          · exact absurd np (c.fo p (w ▸ fb))
          · refine .inr ?_
            show (if b = p then _ else B.H b) = none
            rw [if_neg w]; exact z
    refine ⟨B', F, ρ, d, ρ1, cB, h1, fun w H1 F1 c1 l1 r1 => ⟨.ref p, w, rfl, ?_⟩⟩
    have bp' : B'.H p = some (.dK []) := if_pos rfl
    have hp : H1 p = some (.dK []) := by
      rcases c1.b1 p _ bp' with z | z
      · exact absurd rfl (pn p z)
      · exact z
    have nf : ¬ F1 p := fun z => by
      rcases c1.b3 p z with y | y
      · exact c.fo p (c.b2 p y) np
      · rw [bp'] at y; cases y
    have cC : Cr X.K B ow σ H1 F1 ρ1 := by
      refine ⟨c1.len, c1.sl, fun k x h1 h2 => ?_, c1.dj, c1.fo, fun b u e => ?_, c1.b2, fun b fb => ?_, c1.pn⟩
      · obtain ⟨q, u1, u2, u3, e2, e3, e4, e5, e6⟩ := c1.lo k x h1 h2
        refine ⟨q, u1, u2, u3, e2, e3, e4, ?_, e6⟩
        rcases e5 with z | z
        · exact .inl z
        · refine .inr ?_
          have z' : (if q = p then some (HO.dK []) else B.H q) = none := z
          by_cases y : q = p
          · rw [if_pos y] at z'; cases z'
          · rw [if_neg y] at z'; exact z'
      · refine c1.b1 b u ?_
        show (if b = p then some (HO.dK []) else B.H b) = some u
        rw [if_neg (fun y => by rw [y, bp] at e; cases e)]
        exact e
      · rcases c1.b3 b fb with z | z
        · exact .inl z
        · refine .inr ?_
          have z' : (if b = p then some (HO.dK []) else B.H b) = none := z
          by_cases y : b = p
          · rw [if_pos y] at z'; cases z'
          · rw [if_neg y] at z'; exact z'
    have aw : ∀ k x, ρ1[k]? = some (some x) → k ∈ ow → σ[k]? ≠ some (some (.ref p)) := fun k x h1 h2 z => by
      obtain ⟨q, _, _, _, e2, _, _, e5, _⟩ := c1.lo k x h1 h2
      rw [e2] at z
      cases z
      rcases e5 with y | y
      · exact pn p y rfl
      · rw [bp'] at y; cases y
    exact a _ _ F1 ((cC.setOw hi h0 hp nf bp aw (.dct .nil)).set r1 hj) ((gr.le c.fo).trans l1)
  · cases hf
theorem lk_sub {ow ow' : List Nat} {j : Nat} (h1 : (ow.all fun i => decide (i = j) || ow'.contains i) = true) (h2 : (j :: ow').all (fun i => ow.contains i) = true) : ∀ i, i ∈ ow ↔ i = j ∨ i ∈ ow' := fun i => by
  constructor
  · intro h
    have := List.all_eq_true.mp h1 i h
    rw [Bool.or_eq_true, decide_eq_true_iff, List.contains_iff_mem] at this
    exact this
  · intro h
    have := List.all_eq_true.mp h2 i (by rw [List.mem_cons]; exact h)
    rw [List.contains_iff_mem] at this
    exact this
end Mir

set_option Elab.async false
set_option linter.all false
set_option maxRecDepth 100000
set_option maxHeartbeats 4000000
namespace L2
open PySem PySem.Spec PyProof.Rows
/-! ### sorted(set of tuples of ints) -/
def encT (p : Addr × List Int) : PyData := .tuple (p.2.map .int)
theorem reads_ints {P : Program} {w : World} {h : Heap} : ∀ {ks : List Int} {vs : List Value}, ItemsAre (intKind P w) ks vs → ReadsAll h vs (ks.map .int) []
  | _, _, .nil => .nil
  | k :: _, v :: _, .cons hk t => by
    have r : Reads h v (.int k) [] := PyProof.V.reads_key_int k v hk
    have := ReadsAll.cons r (reads_ints t)
    simpa using this
theorem reads_isT {P : Program} {w : World} {h : Heap} {k : List Int} {a : Addr} (t : IsT P w h k a) : Reads h (.ref a) (.tuple (k.map .int)) [] := by
  obtain ⟨o, its, n, h1, h2, h3, h4⟩ := t
  exact .tuple h1 h2 h3 (reads_ints h4)
theorem alike_ints : ∀ xs ys : List Int, PySem.W.alikeAll (xs.map .int) (ys.map .int) = true
  | [], [] => rfl
  | [], _ :: _ => rfl
  | _ :: _, [] => rfl
  | x :: xs, y :: ys => by
    have := alike_ints xs ys
    simpa [PySem.W.alikeAll, PySem.W.alike] using this
theorem depth_ints (xs : List Int) : PyData.depth (.tuple (xs.map .int)) ≤ 2 := by
  rw [PyData.depth.eq_2]
  have : ∀ l : List Int, PyData.depthAll (l.map .int) ≤ 1 := fun l => by
    induction l with
    | nil => decide
    | cons x l ih =>
      simp only [List.map_cons, PyData.depthAll, PyData.depth]
      omega
  have := this xs
  omega
theorem each_self {α : Type} {f : α → Value} {R : Value → α → Prop} : ∀ {l : List α}, (∀ x ∈ l, R (f x) x) → PySem.W.EachIs R (l.map f) l
  | [], _ => .nil
  | x :: l, h => .cons (h x List.mem_cons_self) (each_self fun y hy => h y (List.mem_cons_of_mem _ hy))
theorem each_ref : ∀ {out : List Value} {L : List (Addr × List Int)}, PySem.W.EachIs (fun v q => v = Value.ref q.1) out L → out = L.map fun q => Value.ref q.1
  | _, _, .nil => rfl
  | _, _, .cons a b => by rw [List.map_cons, ← each_ref b, ← a]
theorem le_encT (q r : Addr × List Int) : PySem.W.dataLe false encT q r = decide (¬ r.2 < q.2) := by
  rw [PySem.W.dataLe_eq]
  show (!PySem.W.dataLt (encT r) (encT q)) = _
  have e : PySem.W.dataLt (encT r) (encT q) = decide (r.2 < q.2) := by
    unfold encT
    rw [PySem.W.dataLt_tuple]
    exact PySem.W.dataLt_ints r.2 q.2
  rw [e]
  by_cases h : r.2 < q.2
  · rw [decide_eq_true h, decide_eq_false (fun z => z h)]; rfl
  · rw [decide_eq_false h, decide_eq_true h]; rfl
theorem pair_encT (L : List (Addr × List Int)) : (L.mergeSort (PySem.W.dataLe false encT)).Pairwise fun q r => ¬ r.2 < q.2 := by
  have := List.pairwise_mergeSort (le := PySem.W.dataLe false encT) (fun a b c h1 h2 => by
    rw [le_encT, decide_eq_true_iff] at h1 h2 ⊢
    exact List.le_trans h1 h2) (fun a b => by
    rw [le_encT, le_encT, Bool.or_eq_true, decide_eq_true_iff, decide_eq_true_iff]
    exact List.le_total a.2 b.2) L
  exact this.imp fun {q r} h => by
    rw [le_encT, decide_eq_true_iff] at h
    exact h
section
variable {P : Program} {w : World} {A : Around} {E : Value → Shared → Prop} {s : Shared}
theorem sorted_setD {a : Addr} {L : List (Addr × List Int)} {es : Array (Int × Value)} {ep : Nat} {t : SetTable} {Q : Value → Shared → Prop} (R : SetTR P w s.heap a L es ep t) (hh : A.handled = none) (hu : A.units + 9 < cLine)
    (hne : ∀ p ∈ L, p.2 ≠ [])
    (hQ : ∀ s' p (out : Array Value) (c : Nat) (L' : List (Addr × List Int)), (∀ b o, s.heap.get? b = some o → s'.heap.get? b = some o) → s'.gens = s.gens → s'.os = s.os → s.heap.objs.size ≤ p →
      s'.heap.get? p = some (seqObj "list" out c) → out.toList = L'.map (fun q => Value.ref q.1) → L'.Perm L → L'.Pairwise (fun q r => ¬ r.2 < q.2) → Q (.ref p) s') :
    wpAny (model P w) A (call (.builtin "sorted") [.ref a]) Q E s := by
  obtain ⟨o, ho, hex, hd⟩ := R.ob
  have hsz := R.size
  have hfew := R.few
  refine Calls.call_function_entry kind_sorted plain_sorted entry_sorted (args_sorted1 _) ?_
  unfold Builtin.«sorted»
  refine wpAny_bind (m := checkCount "sorted" 1 1 _) (wpAny_pure ?_)
  refine wpAny_bind (collect_set (A := A.in1) hh ⟨o, ho, hex.1, hd⟩ R.fits (by unfold scanBound; omega) R.tab.ris R.led fun s1 vs k1 hz g1 o1 pm => ?_)
  have hes : es.toList.map (·.2) = L.map fun q => Value.ref q.1 := by
    rw [R.rows]
    unfold rowsOf
    rw [List.map_map] <;> rfl
  rw [hes] at pm
  have ord : ∀ vs : List Value, (∀ v ∈ vs, ∃ q ∈ L, v = Value.ref q.1) → ∃ L1 : List (Addr × List Int), vs = L1.map (fun q => Value.ref q.1) ∧ ∀ q ∈ L1, q ∈ L := by
    intro vs
    induction vs with
    | nil => intro _; exact ⟨[], rfl, fun q hq => (by cases hq)⟩
    | cons v vs ih =>
      intro hv
      obtain ⟨q, hq, e⟩ := hv v List.mem_cons_self
      obtain ⟨L1, e1, hs⟩ := ih fun u hu => hv u (List.mem_cons_of_mem _ hu)
      refine ⟨q :: L1, by rw [List.map_cons, e, e1], fun r hr => ?_⟩
      rcases List.mem_cons.mp hr with z | z
      · rw [z]; exact hq
      · exact hs r z
  have one : ∀ q ∈ L, ∀ r ∈ L, q.1 = r.1 → q = r := fun q hq r hr e => by
    have a1 := R.tup q hq
    have a2 := R.tup r hr
    rw [e] at a1
    have e2 : q.2 = r.2 := a1.inj a2
    exact Prod.ext e e2
  have perm_of : ∀ L1 : List (Addr × List Int), (∀ q ∈ L1, q ∈ L) → (L1.map (fun q => Value.ref q.1)).Perm (L.map fun q => Value.ref q.1) → L1.Perm L := by
    intro L1 hs pm1
    have nL : L.Nodup := nodup_of_map R.nd
    have nref : (L.map fun q => Value.ref q.1).Nodup := by
      refine List.pairwise_map.mpr (List.Pairwise.imp_of_mem (fun {q r} hq hr hne e => ?_) nL)
      injection e with e
      exact hne (one q hq r hr e)
    have n1 : L1.Nodup := nodup_of_map (pm1.nodup_iff.mpr nref)
    refine (List.perm_ext_iff_of_nodup n1 nL).mpr fun q => ⟨hs q, fun hq => ?_⟩
    have hm : Value.ref q.1 ∈ L1.map (fun q => Value.ref q.1) := pm1.mem_iff.mpr (List.mem_map.mpr ⟨q, hq, rfl⟩)
    obtain ⟨r, hr, e⟩ := List.mem_map.mp hm
    injection e with e
    rw [← one r (hs r hr) q hq e]
    exact hr
  have hvl : vs.length < 64 := by rw [pm.length_eq, List.length_map]; exact hfew
  obtain ⟨L1, ev, hs1⟩ := ord vs fun v hv => by
    obtain ⟨q, hq, e⟩ := List.mem_map.mp (pm.mem_iff.mp hv)
    exact ⟨q, hq, e.symm⟩
  subst ev
  have p1 : L1.Perm L := perm_of L1 hs1 pm
  refine wpAny_bind (wpAny_newList ?_ (by rw [sizeLine_eq]; omega))
  have hoL : (s1.heap.push (seqObj "list" (L1.map fun q => Value.ref q.1).toArray 0)).get? s1.heap.objs.size = some (seqObj "list" (L1.map fun q => Value.ref q.1).toArray 0) := Heap.get?_push_size _ rfl
  have tk : ∀ q ∈ L, IsT P w (s1.heap.push (seqObj "list" (L1.map fun q => Value.ref q.1).toArray 0)) q.2 q.1 := fun q hq => isT_keep (R.tup q hq) fun b u e => Heap.get?_push_of_some _ (k1 b u e)
  refine wpAny_bind (wpAny_holding (PySem.W.list_sort_data (s := { s1 with heap := s1.heap.push (seqObj "list" (L1.map fun q => Value.ref q.1).toArray 0) }) (β := Addr × List Int) (enc := encT) (R := fun v q => v = Value.ref q.1) (vs := L1.map fun q => Value.ref q.1) (bs := L1) hoL ?_ ?_ ?_ ?_ ?_ ?_ fun out hol eo => ?_))
  · exact each_self fun q _ => rfl
  · exact each_self fun q hq => ⟨[], reads_isT (tk q (hs1 q hq)), List.not_mem_nil⟩
  · intro d hd d' hd'
    obtain ⟨q, _, rfl⟩ := List.mem_map.mp hd
    obtain ⟨r, _, rfl⟩ := List.mem_map.mp hd'
    show PySem.W.alike (.tuple _) (.tuple _) = true
    rw [PySem.W.alike]
    exact alike_ints _ _
  · refine .inl fun d hd => ?_
    obtain ⟨q, hq, rfl⟩ := List.mem_map.mp hd
    have := hne q (hs1 q hq)
    unfold encT
    cases e : q.2 with
    | nil => exact absurd e this
    | cons x r => exact ⟨_, _, rfl⟩
  · rw [p1.length_eq, sizeLine_eq]; omega
  · intro b _
    have := depth_ints b.2
    show A.in1.units + 1 + (PyData.tuple (b.2.map .int)).depth < cLine
    have e1 : A.in1.units ≤ A.units + 1 := by
      show _ ≤ _
      simp [Around.in1, Around.units]
    omega
  · have eo' := each_ref eo
    obtain ⟨c, hc⟩ := sortedHeap_at (vs := L1.map fun q => Value.ref q.1) (out := out.toArray) hoL
    refine wpAny_pure ⟨_, rfl, hQ _ s1.heap.objs.size out.toArray c (L1.mergeSort (PySem.W.dataLe false encT)) (fun b u e => ?_) g1 o1 hz hc (by simpa using eo') ((List.mergeSort_perm _ _).trans p1) (pair_encT L1)⟩
    have q := k1 b u e
    have hlt := Heap.lt_size q
    show (sortedHeap (s1.heap.push (seqObj "list" (L1.map fun q => Value.ref q.1).toArray 0)) s1.heap.objs.size (L1.map fun q => Value.ref q.1) out.toArray).get? b = some u
    rw [sortedHeap_old (Nat.ne_of_lt hlt) (by rw [size_push']; exact Nat.lt_succ_of_lt hlt)]
    exact Heap.get?_push_of_some _ q
end
end L2
namespace L2
open PySem PySem.Spec PyProof.Rows
section
variable {X : Cx}
def rSortedU (K : PySem.W.Frag) (P : Program) (w : World) : List V → Hp → VK → Prop := fun vs H Q => ∃ (a : Addr) (L : List (Addr × List Int)), vs = [V.ref a] ∧ H a = some (SetTO P w a L) ∧ (∀ p ∈ L, SqT K H p.1 (p.2.map V.int)) ∧ (∀ p ∈ L, p.2 ≠ []) ∧
  ∀ (L' : List (Addr × List Int)) (p : Addr), L'.Perm L → (L'.map (·.2)).Nodup → L'.length < 64 → L'.Pairwise (fun q r => ¬ r.2 < q.2) → H p = none → Q (.ref p) (upd H p (.lst (L'.map fun q => V.ref q.1)))
theorem cr_sortedU (hc : X.calm = true) (hu : X.A.units + 9 < cLine) : CallR X (.builtin "sorted") (rSortedU X.K X.prog X.w) := by
  intro pins s σ H vs us Q I r h
  obtain ⟨a, L, rfl, ha, hk, hB, q⟩ := h
  have R0 : SetT0 X.prog X.w s.heap a L := (I.hok a _ ha).1
  obtain ⟨es, ep, t, R⟩ := R0.full fun p hp => I.isT (hk p hp)
  rw [Vals.ref1 r]
  refine sorted_setD R (I.ok.hd hc) hu hB fun s' p out c L' k g o hp hg hout pm pw => ?_
  have hfew : L'.length < 64 := by rw [pm.length_eq]; exact R.few
  have hlen : (L'.map fun q => V.ref q.1).length ≤ sizeLine := by rw [List.length_map, sizeLine_eq]; omega
  have hn : H p = none := I.hok.fresh hp
  have hv : Vals (L'.map fun q => V.ref q.1) out.toList := by rw [hout]; exact vals_of_refs L'
  have J : Inv X pins σ (upd H p (.lst (L'.map fun q => V.ref q.1))) { s with heap := s'.heap, gens := s'.gens, drawn := s'.drawn, toks := s'.toks } :=
    I.call (ch := []) (Un.laid k hp hn) (I.hok.laid k hp ⟨hlen, out.toList, c, hv, hg⟩) (by rw [g]; exact I.bare) (fun _ z => nomatch z)
  have e : s' = { s with heap := s'.heap, gens := s'.gens, drawn := s'.drawn, toks := s'.toks } := by
    cases s'
    cases s
    cases o
    rfl
  rw [e]
  exact ⟨.ref p, _, J, rfl, q L' p pm ((pm.map (·.2)).nodup_iff.mpr R.nd) hfew pw hn⟩
end
end L2
namespace Mir
open PySem PySem.Spec PyProof.Rows L2
/-! ### on data -/
def sinsT (n : List Int) : List (List Int) → List (List Int)
  | [] => [n]
  | m :: r => if n < m then n :: m :: r else if n = m then m :: r else m :: sinsT n r
def ssetT : List (List Int) → List (List Int)
  | [] => []
  | n :: r => sinsT n (ssetT r)
theorem mem_sinsT (k n : List Int) : ∀ l : List (List Int), k ∈ sinsT n l ↔ k = n ∨ k ∈ l
  | [] => by simp [sinsT]
  | m :: r => by
    unfold sinsT
    split
    · simp
    · split
      · rename_i e
        subst e
        simp
      · rw [List.mem_cons, mem_sinsT k n r, List.mem_cons]
        exact ⟨fun h => by rcases h with h | h | h <;> simp [h], fun h => by rcases h with h | h | h <;> simp [h]⟩
theorem lt_of_not {a b : List Int} (h1 : ¬ b < a) (h2 : a ≠ b) : a < b := Classical.byContradiction fun n => h2 (List.le_antisymm h1 n)
theorem sinsT_sorted (n : List Int) : ∀ l : List (List Int), l.Pairwise (· < ·) → (sinsT n l).Pairwise (· < ·)
  | [], _ => by simp [sinsT]
  | m :: r, h => by
    unfold sinsT
    have h' := List.pairwise_cons.mp h
    split
    · rename_i lt
      refine List.pairwise_cons.mpr ⟨fun x hx => ?_, h⟩
      rcases List.mem_cons.mp hx with e | e
      · rw [e]; exact lt
      · exact List.lt_trans lt (h'.1 x e)
    · rename_i nlt
      split
      · exact h
      · rename_i ne
        refine List.pairwise_cons.mpr ⟨fun x hx => ?_, sinsT_sorted n r h'.2⟩
        rcases (mem_sinsT x n r).mp hx with e | e
        · rw [e]; exact lt_of_not nlt (Ne.symm ne)
        · exact h'.1 x e
theorem mem_ssetT (k : List Int) : ∀ l : List (List Int), k ∈ ssetT l ↔ k ∈ l
  | [] => Iff.rfl
  | n :: r => by
    unfold ssetT
    rw [mem_sinsT, mem_ssetT k r, List.mem_cons]
theorem ssetT_sorted : ∀ l : List (List Int), (ssetT l).Pairwise (· < ·)
  | [] => .nil
  | n :: r => sinsT_sorted n _ (ssetT_sorted r)
theorem ssetT_one {l m : List (List Int)} (hl : l.Pairwise (· < ·)) (hm : m.Pairwise (· < ·)) (e : ∀ k, k ∈ l ↔ k ∈ m) : l = m := by
  have n1 : l.Nodup := hl.imp fun {a b} h z => by subst z; exact List.lt_irrefl _ h
  have n2 : m.Nodup := hm.imp fun {a b} h z => by subst z; exact List.lt_irrefl _ h
  exact List.Perm.eq_of_pairwise (le := (· < ·)) (fun a b _ _ h1 h2 => absurd (List.lt_trans h1 h2) (List.lt_irrefl a)) hl hm ((List.perm_ext_iff_of_nodup n1 n2).mpr e)
def rowT : Da → Option (List Int)
  | .tuple es => (intsD es).bind fun ns => if ns = [] then none else some ns
  | _ => none
def rowsT : List Da → Option (List (List Int))
  | [] => some []
  | d :: ds => (rowT d).bind fun r => (rowsT ds).map (r :: ·)
def gSetT : Da → Option (List Da)
  | .list ds => (rowsT ds).bind fun rs => if rs.length < 64 then some ((ssetT rs).map fun r => .tuple (r.map .int)) else none
  | _ => none
theorem rowT_go {d : Da} {r : List Int} (h : rowT d = some r) : d = .tuple (r.map .int) ∧ r ≠ [] := by
  unfold rowT at h
  split at h
  · rename_i es
    obtain ⟨ns, h1, h2⟩ := Option.bind_eq_some_iff.mp h
    split at h2
    · cases h2
    · rename_i ne
      cases h2
      exact ⟨by rw [intsD_go h1], ne⟩
  · cases h
theorem rows_ks {K : PySem.W.Frag} {H : Hp} {F : Frz} : ∀ {vs : List V} {ds : List Da} {rs : List (List Int)}, RpA K H F vs ds → rowsT ds = some rs → ∃ ks : List (Addr × List Int), vs = ks.map (fun p => V.ref p.1) ∧ ks.map (·.2) = rs ∧ ∀ p ∈ ks, Rp K H F (.ref p.1) (.tuple (p.2.map .int)) ∧ p.2 ≠ []
  | _, _, rs, .nil, h => by
    cases h
    exact ⟨[], rfl, rfl, fun p hp => absurd hp List.not_mem_nil⟩
  | _, _, rs, .cons a t, h => by
    unfold rowsT at h
    obtain ⟨r, h1, h2⟩ := Option.bind_eq_some_iff.mp h
    obtain ⟨rs', h3, rfl⟩ := Option.map_eq_some_iff.mp h2
    obtain ⟨e1, ne⟩ := rowT_go h1
    obtain ⟨ks, k1, k2, k3⟩ := rows_ks t h3
    subst e1
    obtain ⟨b, us, e2, _, _⟩ := a.tup_inv
    subst e2
    refine ⟨(b, r) :: ks, by rw [List.map_cons, ← k1], by rw [List.map_cons, k2], fun p hp => ?_⟩
    rcases List.mem_cons.mp hp with z | z
    · rw [z]; exact ⟨a, ne⟩
    · exact k3 p z
theorem rp_sqI {K : PySem.W.Frag} {H : Hp} {F : Frz} {b : Addr} {r : List Int} (h : Rp K H F (.ref b) (.tuple (r.map .int))) : SqT K H b (r.map V.int) := by
  obtain ⟨b', us, e, s, t⟩ := h.tup_inv
  cases e
  rw [ints_inv t] at s
  exact s.sq
theorem rpA_of {K : PySem.W.Frag} {H : Hp} {F : Frz} : ∀ {L : List (Addr × List Int)}, (∀ p ∈ L, Rp K H F (.ref p.1) (.tuple (p.2.map .int))) → RpA K H F (L.map fun p => V.ref p.1) ((L.map (·.2)).map fun r => PyData.tuple (r.map .int))
  | [], _ => .nil
  | p :: L, h => .cons (h p List.mem_cons_self) (rpA_of fun q hq => h q (List.mem_cons_of_mem _ hq))
section
variable {X : Cx} {ow : List Nat} {e : Expr} {fe : Md Da} {p p2 pos pos2 : Pos}
theorem l_ssetT (hc : X.calm = true) (hu : X.A.units + 65 < cLine) (hs : Gl X "set") (hsm : X.mg "set" = none) (hg : Gl X "sorted") (hm : X.mg "sorted" = none) (he : GE X ow e fe) (h1 : starEach [e] X.env = (false, eval e X.env) :: starEach [] X.env := by rfl) (h2 : (backTo pos2 (starEach [] X.env)).any (·.1) = false := by rfl)
    (h3 : starEach [.Call (.Name "set" p2) [e] [] pos2] X.env = (false, eval (.Call (.Name "set" p2) [e] [] pos2) X.env) :: starEach [] X.env := by rfl) (h4 : (backTo pos (starEach [] X.env)).any (·.1) = false := by rfl) :
    GL X ow (.Call (.Name "sorted" p) [.Call (.Name "set" p2) [e] [] pos2] [] pos) (mBind fe fun d => mOpt (gSetT d)) :=
  pe_w (pe_callB (cr_sortedU hc (by omega)) hg hm (by decide +kernel) (pa_cons (pe_callTy (cr_setOfT hc (by omega)) hs hsm (by decide +kernel) (pa_cons he pa_nil h1) (by decide) (by decide) h1 h2) pa_nil h3) (by decide) (by decide) h3 h4) fun σ H Q ⟨B, F, ρ, d, ρ', c, hf, q⟩ => by
  obtain ⟨d0, ρ1, h1, hf⟩ := bind_inv hf
  obtain ⟨hg2, rfl⟩ := opt_inv hf
  refine ⟨B, F, ρ, d0, _, c, h1, fun v H1 F1 c1 l1 r1 => ?_⟩
  cases d0 with
  | list ds =>
    obtain ⟨rs, hr, h5⟩ := Option.bind_eq_some_iff.mp hg2
    split at h5
    · rename_i h64
      cases h5
      obtain ⟨a, vs, ev, s, t⟩ := (Bw.rp r1).list_inv
      obtain ⟨ks, k1, k2, k3⟩ := rows_ks t hr
      subst ev
      refine ⟨a, ks, rfl, by rw [← k1]; exact s, fun z hz => rp_sqI (k3 z hz).1, by rw [← List.length_map (f := fun z : Addr × List Int => z.2), k2]; exact h64, fun b L nb sub all => ?_⟩
      have g1 := Gr.new0 (o := SetTO X.prog X.w b L) c1.fo nb
      have st1 := g1.stay c1.fo
      refine ⟨b, L, rfl, upd_same, fun z hz => rp_sqI ((k3 z (sub z hz)).1.st st1), fun z hz => (k3 z (sub z hz)).2, fun L' y pm nd hl pw ny => ?_⟩
      have g2 := Gr.new0 (o := .lst (L'.map fun z => V.ref z.1)) g1.fo ny
      have st2 := st1.trans (g2.stay g1.fo)
      have e4 : L'.map (·.2) = ssetT rs := by
        refine ssetT_one (List.pairwise_map.mpr ?_) (ssetT_sorted rs) fun k => ?_
        · refine (List.Pairwise.and pw (List.pairwise_map.mp nd)).imp fun {z w} h => lt_of_not h.1 h.2
        · rw [mem_ssetT, ← k2]
          constructor
          · intro hk
            obtain ⟨z, hz, rfl⟩ := List.mem_map.mp hk
            exact List.mem_map.mpr ⟨z, sub z (pm.mem_iff.mp hz), rfl⟩
          · intro hk
            obtain ⟨z, hz, rfl⟩ := List.mem_map.mp hk
            exact ((pm.map (·.2)).mem_iff).mpr (all z hz)
      have r3 := rpA_of (K := X.K) (H := upd (upd H1 b (SetTO X.prog X.w b L)) y (.lst (L'.map fun z => V.ref z.1))) (F := F1) (L := L') fun z hz => (k3 z (sub z (pm.mem_iff.mp hz))).1.st st2
      rw [e4] at r3
      have c2 := (c1.grow g1).grow g2
      exact q y _ _ F1 c2 ((l1.trans (g1.le c1.fo)).trans (g2.le g1.fo)) ((l1.trans (g1.le c1.fo)).back ny) upd_same (fun z => g1.fo y z ny) ((c1.grow g1).away ny) r3
    · cases h5
  | _ => cases hg2
end
end Mir

set_option Elab.async false
set_option linter.all false
set_option maxRecDepth 100000
set_option maxHeartbeats 4000000
namespace Mir
open PySem PySem.Spec PyProof.Rows L2
/-! ### x = e where x was an own list: for what follows x is a plain name -/
def mSetFree (j : Nat) (fe : Md Da) (g : Sm) : Sm := fun ρ => match fe ρ with
  | some (d, ρ1) => if j < ρ1.length then (g (ρ1.set j (some d))).map (Out.unset j) else none
  | none => none
theorem Cr.narrow {K : PySem.W.Frag} {B : Bs} {ow ow' : List Nat} {σ : L2.St} {H : Hp} {F : Frz} {ρ : Sto} {j : Nat} (h0 : j ≠ 0) (sub : ∀ i, i ∈ ow ↔ i = j ∨ i ∈ ow') (nj : j ∉ ow') (c : Cr K B ow σ H F ρ) : Cr K B ow' σ H F (ρ.set j none) := by
  have get : ∀ {i : Nat} {d : Da}, (ρ.set j none : Sto)[i]? = some (some d) → i ≠ j ∧ ρ[i]? = some (some d) := fun {i d} h => by
    rcases set_get h with ⟨_, y, _⟩ | ⟨n, h⟩
    · cases y
    · exact ⟨Ne.symm (Ne.symm n), h⟩
  refine ⟨by rw [List.length_set]; exact c.len, fun i d h1 h2 => ?_, fun i d h1 h2 => ?_, fun i k q h1 h2 h3 h4 h5 => ?_, c.fo, c.b1, c.b2, c.b3, fun q h => ?_⟩
  · obtain ⟨n, h1⟩ := get h1
    exact c.sl i d h1 fun w => by
      rcases (sub i).mp w with z | z
      · exact n z
      · exact h2 z
  · obtain ⟨_, h1⟩ := get h1
    exact c.lo i d h1 ((sub i).mpr (.inr h2))
  · obtain ⟨d1, h4⟩ := h4
    obtain ⟨d2, h5⟩ := h5
    obtain ⟨_, h4⟩ := get h4
    obtain ⟨_, h5⟩ := get h5
    exact c.dj i k q ((sub i).mpr (.inr h1)) ((sub k).mpr (.inr h2)) h3 ⟨d1, h4⟩ ⟨d2, h5⟩
  · obtain ⟨g0, g1, d, g2⟩ := c.pn q h
    refine ⟨?_, g1, d, by rw [List.getElem?_set_ne h0]; exact g2⟩
    rcases (sub 0).mp g0 with w | w
    · exact absurd w.symm h0
    · exact w
theorem b_setFree {X : Cx} {ow ow' : List Nat} {rest : List Stmt} {g : Sm} {j : Nat} {st : Stmt} {fe : Md Da} (h : PS X st (tAsg (tE X.K ow fe) (gName j))) (h0 : j ≠ 0) (sub : ∀ i, i ∈ ow ↔ i = j ∨ i ∈ ow') (nj : j ∉ ow') (hr : GB X ow' rest g) : GB X ow (st :: rest) (mSetFree j fe g) := pss_w (pss_cons h hr) fun D σ H ⟨B, F, ρ, o2, c, hf, a2⟩ => by
  unfold mSetFree at hf
  split at hf
  · rename_i d ρ1 h1
    split at hf
    · rename_i hlt
      obtain ⟨o, hg, eo⟩ := Option.map_eq_some_iff.mp hf
      subst eo
      refine ⟨B, F, ρ, d, ρ1, c, h1, fun v H1 F1 c1 l1 r1 => ?_⟩
      have c2 := (c1.narrow h0 sub nj).set r1 nj
      rw [List.set_set] at c2
      refine ⟨B, F1, _, o, c2, hg, ?_⟩
      cases o with
      | nx ρ' => exact fun σ' H' F' c' l' => a2 σ' H' F' (c'.wide h0 sub) (l1.trans l')
      | rt d ρ' => exact fun v σ' H' F' c' r => a2 v σ' H' F' (c'.wide h0 sub) r
      | bk ρ' => exact fun σ' H' F' c' l' => a2 σ' H' F' (c'.wide h0 sub) (l1.trans l')
      | ct ρ' => exact fun σ' H' F' c' l' => a2 σ' H' F' (c'.wide h0 sub) (l1.trans l')
    · cases hf
  · cases hf
end Mir

set_option Elab.async false
set_option linter.all false
set_option maxRecDepth 100000
set_option maxHeartbeats 4000000
namespace Mir
open PySem PySem.Spec PyProof.Rows L2
/-! ### a, b, c = e, e', new list -/
def mPar3O (i j l : Nat) (fa fb : Md Da) (fl : Md (List Da)) : Sm := mDo fa fun d => mDo fb fun e => mDo fl fun ds ρ => some (.nx (((ρ.set i (some d)).set j (some e)).set l (some (.list ds))))
theorem s_par3O {X : Cx} {ow : List Nat} {i j l : Nat} {st : Stmt} {fa fb : Md Da} {fl : Md (List Da)} (h : PS X st (tPar3 i j l (tCons (tE X.K ow fa) (tCons (tE X.K ow fb) (tCons (tL X.K ow fl) tNil))))) (hi : i ∉ ow) (hj : j ∉ ow) (hl : l ∈ ow) (h0 : l ≠ 0) : GS X ow st (mPar3O i j l fa fb fl) := ps_w h fun D σ H ⟨B, F, ρ, o, c, hf, a⟩ => by
  obtain ⟨d, ρ1, h1, hf⟩ := do_inv hf
  obtain ⟨e, ρ2, h2, hf⟩ := do_inv hf
  obtain ⟨ds, ρ3, h3, hf⟩ := do_inv hf
  cases hf
  refine ⟨B, F, ρ, d, ρ1, c, h1, fun v H1 F1 c1 l1 r1 => ⟨B, F1, ρ1, e, ρ2, c1, h2, fun w H2 F2 c2 l2 r2 => ⟨B, F2, ρ2, ds, ρ3, c2, h3, fun p vs H3 F3 c3 l3 np hp nf hn r3 => ⟨v, w, .ref p, rfl, ?_⟩⟩⟩⟩
  have st3 := l3.st
  have c4 := (c3.set (i := i) ((r1.st l2.st).st st3) hi).set (i := j) (r2.st st3) hj
  have hn2 : ∀ (k : Nat) (x : Da), ((ρ3.set i (some d)).set j (some e))[k]? = some (some x) → k ∈ ow → ((σ.set i (some v)).set j (some w))[k]? ≠ some (some (.ref p)) := fun k x hk ho => by
    have ni : i ≠ k := fun z => hi (z ▸ ho)
    have nj : j ≠ k := fun z => hj (z ▸ ho)
    rw [List.getElem?_set_ne nj, List.getElem?_set_ne ni] at hk ⊢
    exact hn k x hk ho
  exact a _ _ F3 (c4.setO hl h0 hp nf (c2.new np) hn2 r3) ((l1.trans l2).trans l3)
end Mir

set_option Elab.async false
set_option linter.all false
set_option maxRecDepth 100000
set_option maxHeartbeats 4000000
namespace L2
open PySem PySem.Spec PyProof.Rows
/-! ### min of a list of pairs of ints -/
def encQ (p : Int × Int) : PyData := .tuple [.int p.1, .int p.2]
def ltQ (y a : Int × Int) : Bool := decide (y.1 < a.1 ∨ (y.1 = a.1 ∧ y.2 < a.2))
def lmin2 (n : Int × Int) (ns : List (Int × Int)) : Int × Int := ns.foldl (fun a y => if ltQ y a = true then y else a) n
theorem minD_pairs : ∀ (ns : List (Int × Int)) (n : Int × Int), PySem.W.minD (encQ n) (ns.map encQ) = encQ (lmin2 n ns)
  | [], _ => rfl
  | m :: ns, n => by
    have h := minD_pairs ns (if ltQ m n = true then m else n)
    unfold PySem.W.minD at h ⊢
    rw [List.map_cons, List.foldl_cons]
    have e : PySem.W.dataLt (encQ m) (encQ n) = ltQ m n := by
      unfold encQ ltQ
      exact PySem.W.dataLt_ii _ _ _ _
    rw [e]
    show _ = encQ (lmin2 (if ltQ m n = true then m else n) ns)
    rw [← h]
    split <;> rfl
theorem lmin2_mem : ∀ (ns : List (Int × Int)) (n : Int × Int), lmin2 n ns ∈ n :: ns
  | [], n => List.mem_cons_self
  | m :: ns, n => by
    have := lmin2_mem ns (if ltQ m n = true then m else n)
    show lmin2 (if ltQ m n = true then m else n) ns ∈ _
    rcases List.mem_cons.mp this with h | h
    · rw [h]
      split
      · exact List.mem_cons_of_mem _ List.mem_cons_self
      · exact List.mem_cons_self
    · exact List.mem_cons_of_mem _ (List.mem_cons_of_mem _ h)
theorem ltQ_not {y a : Int × Int} : ltQ y a = false ↔ a.1 < y.1 ∨ (a.1 = y.1 ∧ a.2 ≤ y.2) := by
  unfold ltQ
  rw [decide_eq_false_iff_not]
  omega
theorem lmin2_le : ∀ (ns : List (Int × Int)) (n y : Int × Int), y ∈ n :: ns → ltQ y (lmin2 n ns) = false
  | [], n, y, h => by
    rw [List.mem_singleton.mp h]
    exact ltQ_not.mpr (.inr ⟨rfl, Int.le_refl _⟩)
  | m :: ns, n, y, h => by
    show ltQ y (lmin2 (if ltQ m n = true then m else n) ns) = false
    have tr : ∀ {x y z : Int × Int}, ltQ y x = false → ltQ z y = false → ltQ z x = false := fun {x y z} h1 h2 => by
      rw [ltQ_not] at h1 h2 ⊢
      omega
    have hd := lmin2_le ns (if ltQ m n = true then m else n) _ List.mem_cons_self
    rcases List.mem_cons.mp h with rfl | h
    · refine tr hd ?_
      split
      · rename_i q
        rw [ltQ_not]
        unfold ltQ at q
        rw [decide_eq_true_iff] at q
        omega
      · exact ltQ_not.mpr (.inr ⟨rfl, Int.le_refl _⟩)
    · rcases List.mem_cons.mp h with rfl | h
      · refine tr hd ?_
        split
        · exact ltQ_not.mpr (.inr ⟨rfl, Int.le_refl _⟩)
        · rename_i q
          exact Bool.not_eq_true _ ▸ q
      · exact lmin2_le ns _ y (List.mem_cons_of_mem _ h)
theorem readsAll_pairs {P : Program} {w : World} {h : Heap} : ∀ {L : List (Addr × Int × Int)} {us : List Value}, Vals (L.map fun q => V.ref q.1) us → (∀ q ∈ L, IsT P w h [q.2.1, q.2.2] q.1) → ReadsAll h us (L.map fun q => encQ q.2) []
  | [], _, r, _ => by cases r; exact .nil
  | q :: L, _, r, ht => by
    cases r with
    | cons r1 rr =>
      cases (show _ = Value.ref q.1 from r1)
      have a := reads_isT (ht q List.mem_cons_self)
      have b := readsAll_pairs rr fun z hz => ht z (List.mem_cons_of_mem _ hz)
      exact ReadsAll.cons (as := []) (bs := []) a b
theorem vals_refs_mem : ∀ {L : List (Addr × Int × Int)} {us : List Value} {v : Value}, Vals (L.map fun q => V.ref q.1) us → v ∈ us → ∃ q ∈ L, v = Value.ref q.1
  | [], _, _, r, hv => by cases r; cases hv
  | q :: L, _, v, r, hv => by
    cases r with
    | cons r1 rr =>
      cases (show _ = Value.ref q.1 from r1)
      rcases List.mem_cons.mp hv with z | z
      · exact ⟨q, List.mem_cons_self, z⟩
      · obtain ⟨q', h1, h2⟩ := vals_refs_mem rr z
        exact ⟨q', List.mem_cons_of_mem _ h1, h2⟩
theorem alike_pairs (L : List (Int × Int)) : PySem.W.AlikeAll (L.map encQ) := by
  refine ⟨fun x hx y hy => ?_, fun x hx => ?_⟩
  · obtain ⟨a, _, rfl⟩ := List.mem_map.mp hx
    obtain ⟨b, _, rfl⟩ := List.mem_map.mp hy
    rfl
  · obtain ⟨a, _, rfl⟩ := List.mem_map.mp hx
    exact fun h => nomatch h
theorem depth_pairs : ∀ L : List (Int × Int), PyData.depthAll (L.map encQ) ≤ 2
  | [] => by decide
  | p :: L => by
    have := depth_pairs L
    rw [List.map_cons]
    show max (encQ p).depth (PyData.depthAll (L.map encQ)) ≤ 2
    have e : (encQ p).depth ≤ 2 := depth_ints [p.1, p.2]
    omega
def rMinTT (K : PySem.W.Frag) : List V → Hp → VK → Prop := fun xs H Q => ∃ (a : Addr) (p : Addr × Int × Int) (L : List (Addr × Int × Int)), xs = [.ref a] ∧ SqL K H a ((p :: L).map fun q => V.ref q.1) ∧ (∀ q ∈ p :: L, SqT K H q.1 ([q.2.1, q.2.2].map V.int)) ∧ ∀ q ∈ p :: L, q.2 = lmin2 p.2 (L.map (·.2)) → Q (.ref q.1) H
section
variable {X : Cx}
theorem cr_minTT (hc : X.calm = true) (hu : X.A.units + 65 < cLine) : CallR X (.builtin "min") (rMinTT X.K) := by
  intro pins s σ H xs us Q I r h
  obtain ⟨a, p, L, rfl, hs, ht, q⟩ := h
  rw [Vals.ref1 r]
  obtain ⟨its, rv, hl, _⟩ := I.list hs
  have hr := readsAll_pairs (P := X.prog) (w := X.w) rv fun z hz => I.isT (ht z hz)
  have hr' : ReadsAll s.heap its (encQ p.2 :: (L.map (·.2)).map encQ) [] := by
    rw [List.map_map]
    exact hr
  have ha : PySem.W.AlikeAll (encQ p.2 :: (L.map (·.2)).map encQ) := alike_pairs (p.2 :: L.map Prod.snd)
  have hd : PyData.depthAll (encQ p.2 :: (L.map (·.2)).map encQ) ≤ 2 := depth_pairs (p.2 :: L.map Prod.snd)
  refine PySem.W.min_list_data (I.ok.hd hc) hl.isList hr' ha (by omega) fun i v h' tk bs hi rd old => ?_
  have hm : v ∈ its := by
    rw [← Array.getElem?_toList] at hi
    exact List.mem_of_getElem? hi
  obtain ⟨z, hz, rfl⟩ := vals_refs_mem rv hm
  have rz : Reads s.heap (.ref z.1) (encQ z.2) [] := reads_isT (I.isT (ht z hz))
  have e := (PyProof.Rows.reads_det (fun b o h _ => old b o h) rz rd).1
  rw [minD_pairs] at e
  have e2 : z.2 = lmin2 p.2 (L.map (·.2)) := by
    unfold encQ at e
    injection e with e
    injection e with e1 e
    injection e with e3 _
    injection e1 with e1
    injection e3 with e3
    exact Prod.ext e1.symm e3.symm
  exact ⟨.ref z.1, H, I.kept old, rfl, q z hz e2⟩
end
end L2
namespace Mir
open PySem PySem.Spec PyProof.Rows L2
def twoD : Da → Option (Int × Int)
  | .tuple [.int i, .int j] => some (i, j)
  | _ => none
def twosD : List Da → Option (List (Int × Int))
  | [] => some []
  | d :: ds => (twoD d).bind fun p => (twosD ds).map (p :: ·)
def gMinLT : List Da → Option Da
  | [.list ds] => match twosD ds with
    | some (n :: ns) => some (encQ (lmin2 n ns))
    | _ => none
  | _ => none
theorem twoD_go {d : Da} {p : Int × Int} (h : twoD d = some p) : d = encQ p := by
  unfold twoD at h
  split at h
  · cases h; rfl
  · cases h
theorem twos_ks {K : PySem.W.Frag} {H : Hp} {F : Frz} : ∀ {vs : List V} {ds : List Da} {rs : List (Int × Int)}, RpA K H F vs ds → twosD ds = some rs → ∃ ks : List (Addr × Int × Int), vs = ks.map (fun p => V.ref p.1) ∧ ks.map (·.2) = rs ∧ ∀ p ∈ ks, Rp K H F (.ref p.1) (encQ p.2)
  | _, _, rs, .nil, h => by
    cases h
    exact ⟨[], rfl, rfl, fun p hp => absurd hp List.not_mem_nil⟩
  | _, _, rs, .cons a t, h => by
    unfold twosD at h
    obtain ⟨r, h1, h2⟩ := Option.bind_eq_some_iff.mp h
    obtain ⟨rs', h3, rfl⟩ := Option.map_eq_some_iff.mp h2
    have e1 := twoD_go h1
    obtain ⟨ks, k1, k2, k3⟩ := twos_ks t h3
    subst e1
    obtain ⟨b, us, e2, _, _⟩ := a.tup_inv
    subst e2
    refine ⟨(b, r) :: ks, by rw [List.map_cons, ← k1], by rw [List.map_cons, k2], fun p hp => ?_⟩
    rcases List.mem_cons.mp hp with z | z
    · rw [z]; exact a
    · exact k3 p z
theorem cd_minLT {K : PySem.W.Frag} : CallD K (rMinTT K) gMinLT := fun H F xs dx d fo hx hg Q q => by
  unfold gMinLT at hg
  split at hg
  · split at hg
    · rename_i n ns hb
      cases hg
      obtain ⟨v, ev, hv⟩ := hx.one
      obtain ⟨a, vs, e, s, t⟩ := hv.list_inv
      obtain ⟨ks, k1, k2, k3⟩ := twos_ks t hb
      subst k1
      cases ks with
      | nil => cases k2
      | cons p L =>
        rw [List.map_cons] at k2
        injection k2 with k2 k4
        refine ⟨a, p, L, by rw [ev, e], s, fun z hz => ?_, fun z hz e2 => ?_⟩
        · exact rp_sqI (r := [z.2.1, z.2.2]) (k3 z hz)
        · rw [k2, k4] at e2
          have := k3 z hz
          rw [e2] at this
          exact q _ H F (Gr.refl fo) this
    · cases hg
  · cases hg
/-! ### max of a list of ints -/
def lmax (n : Int) (ns : List Int) : Int := ns.foldl max n
theorem lmax_mem : ∀ (ns : List Int) (n : Int), lmax n ns ∈ n :: ns
  | [], n => List.mem_cons_self
  | m :: ns, n => by
    have := lmax_mem ns (max n m)
    show lmax (max n m) ns ∈ _
    rcases List.mem_cons.mp this with h | h
    · rw [h]
      rcases Int.le_total n m with q | q
      · rw [Int.max_eq_right q]; exact List.mem_cons_of_mem _ List.mem_cons_self
      · rw [Int.max_eq_left q]; exact List.mem_cons_self
    · exact List.mem_cons_of_mem _ (List.mem_cons_of_mem _ h)
theorem lmax_le : ∀ (ns : List Int) (n y : Int), y ∈ n :: ns → y ≤ lmax n ns
  | [], n, y, h => by rw [List.mem_singleton.mp h]; exact Int.le_refl _
  | m :: ns, n, y, h => by
    show y ≤ lmax (max n m) ns
    rcases List.mem_cons.mp h with rfl | h
    · exact Int.le_trans (Int.le_max_left _ _) (lmax_le ns _ _ List.mem_cons_self)
    · rcases List.mem_cons.mp h with rfl | h
      · exact Int.le_trans (Int.le_max_right _ _) (lmax_le ns _ _ List.mem_cons_self)
      · exact lmax_le ns _ y (List.mem_cons_of_mem _ h)
def gMaxL : List Da → Option Da
  | [.list ds] => match intsD ds with
    | some (n :: ns) => some (.int (lmax n ns))
    | _ => none
  | _ => none
theorem cd_maxL {K : PySem.W.Frag} : CallD K (rMax K) gMaxL := fun H F xs dx d fo hx hg Q q => by
  unfold gMaxL at hg
  split at hg
  · split at hg
    · rename_i n ns hb
      cases hg
      obtain ⟨v, ev, hv⟩ := hx.one
      obtain ⟨a, vs, e, s, t⟩ := hv.list_inv
      rw [intsD_go hb] at t
      rw [ints_inv t] at s
      refine ⟨a, n :: ns, by rw [ev, e], s, Nat.succ_pos _, fun m hm hle => ?_⟩
      have e2 : m = lmax n ns := Int.le_antisymm (lmax_le ns n m hm) (hle _ (lmax_mem ns n))
      rw [e2]
      exact q _ H F (Gr.refl fo) (.int _)
    · cases hg
  · cases hg
end Mir

set_option Elab.async false
set_option linter.all false
set_option maxRecDepth 100000
set_option maxHeartbeats 4000000
namespace Mir
open PySem PySem.Spec PyProof.Rows L2
/-! ### xs.pop(i) of an own list -/
def ixP (n : Nat) (i : Int) : Option Nat := if -1000000 ≤ i ∧ i < 1000000 then seqIndex? i n else none
def mPopAt (j : Nat) (fi : Md Da) : Md Da := withL j fun _ => mBind fi fun x => withL j fun ds ρ => match x with
  | .int k => match ixP ds.length k with
    | some n => match ds[n]? with
      | some d => some (d, ρ.set j (some (.list (ds.eraseIdx n))))
      | none => none
    | none => none
  | _ => none
theorem RpA.erase {K : PySem.W.Frag} {H : Hp} {F : Frz} : ∀ {vs : List V} {ds : List Da} (n : Nat), RpA K H F vs ds → RpA K H F (vs.eraseIdx n) (ds.eraseIdx n)
  | _, _, _, .nil => .nil
  | _, _, 0, .cons _ t => t
  | _, _, n + 1, .cons a t => .cons a (RpA.erase n t)
section
variable {X : Cx} {ow : List Nat} {fe : Md Da}
theorem e_popAt {i : Nat} {cl : Expr} (h : PE X cl (tBM X.K "list" rPopAt (tVar i) (tCons (tE X.K ow fe) tNil))) (hi : i ∈ ow) : GE X ow cl (mPopAt i fe) := pe_w h fun σ H Q ⟨B, F, ρ, d, ρ', c, hf, q⟩ => by
  obtain ⟨ds0, g0, hf⟩ := with_inv hf
  obtain ⟨x, ρ1, h1, hf⟩ := bind_inv hf
  obtain ⟨ds, g1, hf⟩ := with_inv hf
  revert hf
  split
  · rename_i k
    intro hf
    split at hf
    · rename_i n hn
      split at hf
      · rename_i y hy
        cases hf
        obtain ⟨p, vs0, e1, e2, e3, e4⟩ := c.ownL hi g0
        refine ⟨.ref p, e1, .inl ⟨rfl, vs0, SqL.of e2⟩, B, F, ρ, _, ρ1, c, h1, fun v H1 F1 c1 l1 r1 => ?_⟩
        obtain ⟨p', vs, f1, f2, f3, f4⟩ := c1.ownL hi g1
        rw [e1] at f1
        cases f1
        obtain ⟨w, hw, rw'⟩ := f4.get hy
        have up := But.upd (vs' := vs.eraseIdx n) c1.fo f2
        have le := up.le c1.fo f3 f2 upd_same
        unfold ixP at hn
        split at hn
        · rename_i hz
          refine ⟨p, vs, k, n, w, rfl, by rw [r1.int_inv], f2, by omega, by omega, by rw [f4.len]; exact hn, hw, ?_⟩
          exact q w _ F1 (c1.mut hi (own_get g1) e1 f2 f3 up upd_same ((f4.erase n).st le.st)) (l1.trans le) (rw'.st le.st)
        · cases hn
      · cases hf
    · cases hf
  · exact fun hf => nomatch hf
end
end Mir

set_option Elab.async false
set_option linter.all false
set_option maxRecDepth 100000
set_option maxHeartbeats 4000000
namespace Mir
open PySem PySem.Spec PyProof.Rows L2
/-! ### a, b = new list, new list -/
section
variable {X : Cx} {ow : List Nat} {f1 f2 : Md (List Da)}
def mParOO (i j : Nat) (f1 f2 : Md (List Da)) : Sm := mDo f1 fun ds => mDo f2 fun es ρ => some (.nx ((ρ.set i (some (.list ds))).set j (some (.list es))))
theorem s_parOO {i j : Nat} {st : Stmt} (h : PS X st (tPar i j (tCons (tL X.K ow f1) (tCons (tL X.K ow f2) tNil)))) (hi : i ∈ ow) (hj : j ∈ ow) (hij : i ≠ j) (h0 : i ≠ 0) (h00 : j ≠ 0) : GS X ow st (mParOO i j f1 f2) := ps_w h fun D σ H ⟨B, F, ρ, o, c, hf, a⟩ => by
  obtain ⟨ds, ρ1, h1, hf⟩ := do_inv hf
  obtain ⟨es, ρ2, h2, hf⟩ := do_inv hf
  cases hf
  refine ⟨B, F, ρ, ds, ρ1, c, h1, fun p vs H1 F1 c1 l1 np hp nf hn r1 => ?_⟩
  have nb := c.new np
  have nBF : ¬ B.F p := fun z => nf (c1.b2 p z)
  have nP : B.pen ≠ some p := fun z => by
    obtain ⟨h0, h2, d, h3⟩ := c1.pn p z
    exact hn 0 d h3 h0 h2
  refine ⟨B.plus p (.lst vs), F1, ρ1, es, ρ2, c1.plus hp nf nb hn, h2, fun q us H2 F2 c2 l2 nq hq nfq hnq r2 => ?_⟩
  obtain ⟨c3, hp3, nf3, hn3⟩ := c2.minus nb nP nBF
  have pq : p ≠ q := fun z => by
    rw [← z, hp] at nq
    cases nq
  have hn4 : ∀ (k : Nat) (x : Da), (ρ2.set i (some (.list ds)))[k]? = some (some x) → k ∈ ow → (σ.set i (some (.ref p)))[k]? ≠ some (some (.ref q)) := fun k x hk ho z => by
    by_cases e : i = k
    · subst e
      rcases set_get z with ⟨_, y, _⟩ | ⟨n, _⟩
      · cases y
        exact pq rfl
      · exact n rfl
    · rw [List.getElem?_set_ne e] at hk z
      exact hnq k x hk ho z
  exact ⟨_, _, rfl, a _ H2 F2 ((c3.setO hi h0 hp3 nf3 nb hn3 (r1.st l2.st)).setO hj h00 hq nfq (c1.new nq) hn4 r2) (l1.trans l2)⟩
end
/-! ### len(set(xs)), xs a list of bools -/
open PpSet
def nB (bs : List Bool) : Nat := (if true ∈ bs then 1 else 0) + (if false ∈ bs then 1 else 0)
theorem nB_snoc (bs : List Bool) (b : Bool) : (if decide (b ∈ bs) = true then nB bs else nB bs + 1) = nB (bs ++ [b]) := by
  unfold nB
  cases b <;> simp only [List.mem_append, List.mem_singleton, decide_eq_true_eq] <;> by_cases h1 : true ∈ bs <;> by_cases h2 : false ∈ bs <;> simp [h1, h2]
theorem nB_le (bs : List Bool) : nB bs ≤ 2 := by
  unfold nB
  split <;> split <;> omega
section
variable {P : Program} {w : World} {s : Shared} {A : Around} {E : Value → Shared → Prop}
theorem setB_at0 {h : Heap} {a : Addr} (here : h.get? a = some (set00 w)) (bs : List Bool) : SetB w h a (fun j => decide (j ∈ bs.take 0)) (nB (bs.take 0)) := by
  have led : w.params.followText "set-order" = true ∨ (!w.params.followText "set-order") = true := by cases w.params.followText "set-order" <;> decide
  exact ⟨_, #[], 0, .fresh 0 0 (!w.params.followText "set-order"), here, ⟨rfl, rfl, rfl⟩, rfl, fun e z => (by simp at z), by simp, fun k => (by simp), by decide, rfl, rfl, .nil, led⟩
theorem upd_bools {I : Addr} {fp wr : List Addr} {G : Array GenState → Array GenState → Prop} {n : Nat} {Pv : Nat → Value → Prop} {St : Nat → Shared → Prop} {R : Result → Shared → Prop} (W : WalksS P w A.in1 I fp wr G n Pv St) (S : Addr) (ap : S ∉ fp) (bs : List Bool) (len : n = bs.length) (its : ∀ i v, Pv i v → ∃ b, bs[i]? = some b ∧ v = .bool b) :
    ∀ (m i : Nat) (s : Shared), m = n - i → i ≤ n → St i s → SetB w s.heap S (fun j => decide (j ∈ bs.take i)) (nB (bs.take i)) →
      (∀ s1, Moved (S :: wr) G s s1 → SetB w s1.heap S (fun j => decide (j ∈ bs)) (nB bs) → R (.ok (.ret .none)) s1) → codeAny (model P w) A (.builtin "set.update.loop" ⟨[.ref S, .ref I], []⟩) R s
  | 0, i, s, hm, hi, st, hS, fin => by
    have e : i = n := by omega
    subst e
    have out : S ∉ wr := fun z => ap (W.sub _ z)
    apply codeAny_builtin F.entry_set_update_loop; rw [Around.under_plainId F.plain_set_update_loop _]
    show wpAny _ A.in1 (pyNext (Value.ref I) >>= _) _ _ _
    apply wpAny_bind; refine W.done s _ _ st fun s1 mv => ?_
    rw [List.take_of_length_le (Nat.le_of_eq len.symm)] at hS
    show wpAny _ A.in1 (ret .none) _ _ _
    exact wpAny_pure (fin s1 (mv.mono fun b z => List.mem_cons_of_mem S z) (hS.at fun o e => mv.heap S o out e))
  | m + 1, i, s, hm, hi, st, hS, fin => by
    have lt : i < n := by omega
    have out : S ∉ wr := fun z => ap (W.sub _ z)
    apply codeAny_builtin F.entry_set_update_loop; rw [Around.under_plainId F.plain_set_update_loop _]
    show wpAny _ A.in1 (pyNext (Value.ref I) >>= _) _ _ _
    apply wpAny_bind; refine W.item i s _ _ lt st fun v s1 hv st1 mv => ?_
    have ⟨b, hb, ev⟩ := its i v hv
    subst ev
    have hS1 : SetB w s1.heap S (fun j => decide (j ∈ bs.take i)) (nB (bs.take i)) := hS.at fun o e => mv.heap S o out e
    have small : nB (bs.take i) + 1 < scanBound := by
      have := nB_le (bs.take i)
      unfold scanBound
      omega
    show wpAny _ A.in1 (holding [Value.bool b] (setAdd S (.bool b)) >>= _) _ _ s1
    apply wpAny_bind; apply wpAny_holding; unfold setAdd; apply wpAny_holding; apply wpAny_bind
    refine (boolK P w).pyHash (k := b) (boolK_is P w b) (setB_add_hashed (s := { s1 with toks := s1.toks + 1 }) hS1 small fun h2 sb hS2 => ?_)
    have hS3 : SetB w h2 S (fun j => decide (j ∈ bs.take (i + 1))) (nB (bs.take (i + 1))) := by
      rw [nB_snoc] at hS2
      have e : bs.take (i + 1) = bs.take i ++ [b] := by rw [List.take_add_one, hb]; rfl
      rw [e]
      exact hS2.congr fun j => by
        rw [Bool.eq_iff_iff, Bool.or_eq_true, decide_eq_true_iff, decide_eq_true_iff, decide_eq_true_iff, List.mem_append, List.mem_singleton]
    have old : ∀ b ∈ fp, ∀ o, s1.heap.get? b = some o → h2.get? b = some o := fun b z o e => by
      rw [sb.2 b fun y => ap (y ▸ z)]
      exact e
    apply wpAny_pure; refine ⟨plainId_quiet F.plain_set_update_loop _, upd_bools W S ap bs len its m (i + 1) _ (by omega) lt (W.frame _ s1 _ _ st1 (Nat.le_succ _) old) hS3 fun s2 mv2 hS4 => ?_⟩
    have mv1 : Moved (S :: wr) G s s1 := mv.mono fun b z => List.mem_cons_of_mem S z
    exact fin s2 (Moved.trans W.gtrans (mv1.then_heap (Nat.le_succ _) fun b o z e => by
      rw [sb.2 b fun y => z (y ▸ List.mem_cons_self)]
      exact e) mv2) hS4
theorem set_of_bools {l : Addr} {xs : Array Value} (bs : List Bool) {Q : Value → Shared → Prop} (hn : A.handled = none) (lv : s.heap.IsList l xs) (sz : xs.size = bs.length) (iv : ∀ (i : Nat) (v : Value), xs[i]? = some v → ∃ b, bs[i]? = some b ∧ v = .bool b)
    (y : ∀ (h1 : Heap) (k : Nat), SetB w h1 s.heap.objs.size (fun j => decide (j ∈ bs)) (nB bs) → (∀ b o, s.heap.get? b = some o → h1.get? b = some o) → Q (.ref s.heap.objs.size) { s with heap := h1, toks := k }) :
    wpAny (model P w) A (call (.type "set") [.ref l]) Q E s := by
  have ⟨c0, t0, mro0⟩ := F.called_set.mro
  have made0 := F.called_set.made
  have sub0 := F.called_set.sub
  have f1 := F.called_set.notType
  have f2 := F.called_set.canCreate
  have f3 := F.typeCall_set_1 (.ref l)
  apply wpAny_call; refine codeAny_of_tree ?_
  show wpAny _ _ (callAny (.type "set") ⟨[.ref l], []⟩) _ _ s
  apply wpAny_pure; refine ⟨Code.quiet_builtin _ (by decide +kernel), codeAny_builtin F.entry_type_call ?_⟩
  rw [Around.under_plain (weight_type_call_type "set" [Value.ref l] []) rfl]
  repeat (any_goals (first | wp_step | assumption))
  refine codeAny_mono (code_set_led1 (.ref l) (E := E) (Q₁ := fun v s1 => v = .ref s.heap.objs.size ∧ s1 = { s with heap := s.heap.push (set00 w) }) ⟨rfl, rfl⟩) fun r s1 hr => ?_
  match r, hr with
  | .error _, hr => exact hr
  | .ok .next, hr => exact hr.elim
  | .ok .brk, hr => exact hr.elim
  | .ok .cont, hr => exact hr.elim
  | .ok (.ret v), hr => ?_
  obtain ⟨rfl, rfl⟩ := hr
  have here : (s.heap.push (set00 w)).get? s.heap.objs.size = some (set00 w) := Heap.get?_push_size _ rfl
  have ty0 : Shared.TypeIs { s with heap := s.heap.push (set00 w) } (.ref s.heap.objs.size) "set" := ⟨_, here, rfl⟩
  have f4 := F.called_set.init.lookup
  have f5 := F.called_set.init.bind (.ref s.heap.objs.size)
  repeat (any_goals (first | wp_step | assumption))
  refine codeAny_mono (codeAny_call_builtin (R := wants (fun r s2 => r = .none ∧ ∃ h1 k, s2 = { s with heap := h1, toks := k } ∧ SetB w h1 s.heap.objs.size (fun j => decide (j ∈ bs)) (nB bs) ∧ ∀ b o, s.heap.get? b = some o → h1.get? b = some o) E)
    F.called_set.init.plain F.entry_set_init (check_set_init_1 ty0 ?_)) fun r s2 hr => ?_
  · have lt : l < s.heap.objs.size := have ⟨_, z, _⟩ := lv; Heap.lt_size z
    have lv1 : (s.heap.push (set00 w)).IsList l xs := lv.push _
    obtain ⟨⟨oc, od, ob, os⟩, ho, hc, nl, hd⟩ := lv1
    simp only at hc hd
    cases hc; cases hd
    have f6 := F.sub_list_set
    have f7 := F.sub_list_frozenset
    have f8 : (Value.type "list" == Value.type "dict") = false := by decide
    unfold Builtin.«set.__init__» noKeywords Builtin.Frozenset.updateFrom
    generalize e : pyIter = it0; wp_walk; cases e
    have lv1 : (s.heap.push (set00 w)).IsList l xs := ⟨_, ho, rfl, nl, rfl⟩
    refine wpAny_pyIter_list lv1 ?_; refine wpAny_bind (wpAny_runValue ?_)
    have big : (s.heap.push (set00 w)).objs.size = s.heap.objs.size + 1 := Heap.size_push ..
    have ne1 : l ≠ (s.heap.push (set00 w)).objs.size := by rw [big]; exact Nat.ne_of_lt (Nat.lt_succ_of_lt lt)
    have nin : s.heap.objs.size ∉ [(s.heap.push (set00 w)).objs.size, l] := by
      rw [big]
      intro z
      rcases List.mem_cons.mp z with z | z
      · exact absurd z (Nat.ne_of_lt (Nat.lt_succ_self _))
      · exact absurd (List.mem_singleton.mp z) (Nat.ne_of_gt lt)
    refine upd_bools ((Walks.list (by simp [hn]) _ l ne1 xs).toS) s.heap.objs.size nin bs sz (fun i v hv => iv i v hv) (xs.size - 0) 0 _ rfl (Nat.zero_le _)
      ⟨⟨_, Heap.get?_push_size _ rfl, rfl, rfl⟩, lv1.push _⟩ (setB_at0 (Heap.get?_push_of_some _ here) bs) fun s3 mv R3 => ?gf
    case gf =>
      obtain ⟨h3, g3, d3, t3, o3⟩ := s3
      obtain rfl : g3 = s.gens := mv.gens
      obtain rfl : d3 = s.drawn := mv.drawn
      obtain rfl : o3 = s.os := mv.os
      show wpAny _ _ _ _ _ _
      apply wpAny_pure; show wpAny _ _ (ret Value.none) _ _ _
      apply wpAny_pure; refine ⟨rfl, h3, t3, rfl, R3, fun b o e => ?_⟩
      have lb : b < s.heap.objs.size := Heap.lt_size e
      refine mv.heap b o (fun z => ?_) (Heap.get?_push_of_some _ (Heap.get?_push_of_some _ e))
      rcases List.mem_cons.mp z with z | z
      · exact absurd z (Nat.ne_of_lt lb)
      · rw [big] at z
        exact absurd (List.mem_singleton.mp z) (Nat.ne_of_lt (Nat.lt_succ_of_lt lb))
  · match r, hr with
    | .error _, hr => exact hr
    | .ok .next, hr => exact hr.elim
    | .ok .brk, hr => exact hr.elim
    | .ok .cont, hr => exact hr.elim
    | .ok (.ret v), hr => ?_
    obtain ⟨rfl, h1, k, rfl, hR, kp⟩ := hr
    repeat (any_goals (first | wp_step | assumption))
    exact y _ _ hR kp
end
section
variable {X : Cx}
theorem bools_at : ∀ {bs : List Bool} {its : List Value}, Vals (bs.map V.bl) its → ∀ (i : Nat) (v : Value), its[i]? = some v → ∃ b, bs[i]? = some b ∧ v = .bool b
  | [], _, h, i, v, hv => by cases h; simp at hv
  | b :: bs, _, h, i, v, hv => by
    cases h with
    | cons a t =>
      cases i with
      | zero =>
        refine ⟨b, rfl, ?_⟩
        rw [← Option.some.inj hv]
        exact a
      | succ i => exact bools_at t i v hv
def rSetB (K : PySem.W.Frag) (w : World) : List V → Hp → VK → Prop := fun xs H Q => ∃ (l : Addr) (bs : List Bool), xs = [.ref l] ∧ SqL K H l (bs.map V.bl) ∧ ∀ (p : Addr), H p = none → Q (.ref p) (upd H p (SetBO w p (fun j => decide (j ∈ bs)) (nB bs)))
theorem cr_setB (hc : X.calm = true) : CallR X (.type "set") (rSetB X.K X.w) := by
  intro pins s σ H xs us Q I r h
  obtain ⟨l, bs, rfl, hs, q⟩ := h
  rw [Vals.ref1 r]
  obtain ⟨its, rv, ht, hz⟩ := I.list hs
  refine set_of_bools bs (I.ok.hd hc) ht.isList (by rw [List.size_toArray, ← rv.length, List.length_map]) (fun i v hv => bools_at rv i v (by simpa using hv)) fun h1 k R kp => ?_
  exact ⟨.ref _, _, I.laid (t' := k) kp (Nat.le_refl _) (setBO_new R), rfl, q _ (I.hok.fresh (Nat.le_refl _))⟩
def rLenB (w : World) : List V → Hp → VK → Prop := fun xs H Q => ∃ (a : Addr) (S : Bool → Bool) (n : Nat), xs = [.ref a] ∧ H a = some (SetBO w a S n) ∧ n ≤ 2 ∧ Q (.int n) H
theorem cr_lenB : CallR X (.builtin "len") (rLenB X.w) := by
  intro pins s σ H xs us Q I r h
  obtain ⟨a, S, n, rfl, ha, hn, q⟩ := h
  rw [Vals.ref1 r]
  obtain ⟨o, es, ep, t, ho, hex, hd, _, _, _, _, hf, en, _⟩ := setBO_get I ha
  exact call_len_set ho hex hd hf (by omega) ⟨.int n, H, I.tok _, ⟨_, by rw [en]⟩, q⟩
end
def gLenSetB : Da → Option Da
  | .list ds => (boolsD ds).map fun bs => .int (nB bs : Nat)
  | _ => none
section
variable {X : Cx} {ow : List Nat} {e : Expr} {fe : Md Da} {p p2 pos pos2 : Pos}
theorem e_lenSetB (hc : X.calm = true) (hs : Gl X "set") (hsm : X.mg "set" = none) (hg : Gl X "len") (hm : X.mg "len" = none) (he : GE X ow e fe) (h1 : starEach [e] X.env = (false, eval e X.env) :: starEach [] X.env := by rfl) (h2 : (backTo pos2 (starEach [] X.env)).any (·.1) = false := by rfl)
    (h3 : starEach [.Call (.Name "set" p2) [e] [] pos2] X.env = (false, eval (.Call (.Name "set" p2) [e] [] pos2) X.env) :: starEach [] X.env := by rfl) (h4 : (backTo pos (starEach [] X.env)).any (·.1) = false := by rfl) :
    GE X ow (.Call (.Name "len" p) [.Call (.Name "set" p2) [e] [] pos2] [] pos) (mBind fe fun d => mOpt (gLenSetB d)) :=
  pe_w (pe_callB cr_lenB hg hm (by decide +kernel) (pa_cons (pe_callTy (cr_setB hc) hs hsm (by decide +kernel) (pa_cons he pa_nil h1) (by decide) (by decide) h1 h2) pa_nil h3) (by decide) (by decide) h3 h4) fun σ H Q ⟨B, F, ρ, d, ρ', c, hf, q⟩ => by
  obtain ⟨d0, ρ1, h1, hf⟩ := bind_inv hf
  obtain ⟨hg2, rfl⟩ := opt_inv hf
  refine ⟨B, F, ρ, d0, _, c, h1, fun v H1 F1 c1 l1 r1 => ?_⟩
  cases d0 with
  | list ds =>
    obtain ⟨bs, hb, e2⟩ := Option.map_eq_some_iff.mp hg2
    cases e2
    obtain ⟨a, vs, ev, rl, t⟩ := r1.list_inv
    rw [boolsD_inv hb] at t
    have sq := rl.sq
    rw [bools_inv t] at sq
    refine ⟨a, bs, by rw [ev], sq, fun p np => ?_⟩
    have g1 := Gr.new0 (o := SetBO X.w p (fun j => decide (j ∈ bs)) (nB bs)) c1.fo np
    exact ⟨p, _, _, rfl, upd_same, nB_le bs, q _ _ F1 (c1.grow g1) (l1.trans (g1.le c1.fo)) (.int _)⟩
  | _ => cases hg2
end
end Mir

set_option Elab.async false
set_option linter.all false
set_option maxRecDepth 100000
set_option maxHeartbeats 4000000
namespace L2
open PySem PySem.Spec PyProof.Rows
/-! ### sorted(t), t a tuple of tuples of ints, none of them empty -/
section
variable {P : Program} {w : World} {A : Around} {E : Value → Shared → Prop} {s : Shared}
theorem sorted_tupD {a : Addr} {L : List (Addr × List Int)} {Q : Value → Shared → Prop} (ht : IsTup s.heap a (L.map fun q => Value.ref q.1).toArray) (tup : ∀ p ∈ L, IsT P w s.heap p.2 p.1) (few : L.length ≤ 1000) (hh : A.handled = none) (hu : A.units + 9 < cLine)
    (hne : ∀ p ∈ L, p.2 ≠ [])
    (hQ : ∀ s' p (out : Array Value) (c : Nat), (∀ b o, s.heap.get? b = some o → s'.heap.get? b = some o) → s'.gens = s.gens → s'.drawn = s.drawn → s'.os = s.os → s.heap.get? p = none →
      s'.heap.get? p = some (seqObj "list" out c) → out.toList = (L.mergeSort (PySem.W.dataLe false encT)).map (fun q => Value.ref q.1) → Q (.ref p) s') :
    wpAny (model P w) A (call (.builtin "sorted") [.ref a]) Q E s := by
  obtain ⟨o, ho, hc, n, hd⟩ := ht
  refine Calls.call_function_entry kind_sorted plain_sorted entry_sorted (args_sorted1 _) ?_
  unfold Builtin.«sorted»
  apply wpAny_bind (m := checkCount "sorted" 1 1 _); apply wpAny_pure
  apply wpAny_bind; refine wpAny_collect_seq (A := A.in1) a (T := "tuple") (.inr rfl) ho hc hd (fun h1 k1 => ?_) (by rw [List.size_toArray, List.length_map, sizeLine_eq]; omega)
  rw [List.toList_toArray]
  refine wpAny_bind (wpAny_newList ?_ (by rw [List.length_map, sizeLine_eq]; omega))
  have hoL : (h1.push (seqObj "list" (L.map fun q => Value.ref q.1).toArray 0)).get? h1.objs.size = some (seqObj "list" (L.map fun q => Value.ref q.1).toArray 0) := Heap.get?_push_size _ rfl
  have tk : ∀ q ∈ L, IsT P w (h1.push (seqObj "list" (L.map fun q => Value.ref q.1).toArray 0)) q.2 q.1 := fun q hq => isT_keep (tup q hq) fun b u e => Heap.get?_push_of_some _ (k1 b u e)
  have hz : s.heap.get? h1.objs.size = none := by
    cases e1 : s.heap.get? h1.objs.size with
    | none => rfl
    | some o1 => exact absurd (Heap.lt_size (k1 _ _ e1)) (Nat.lt_irrefl _)
  refine wpAny_bind (wpAny_holding (PySem.W.list_sort_data (s := { s with heap := h1.push (seqObj "list" (L.map fun q => Value.ref q.1).toArray 0) }) (β := Addr × List Int) (enc := encT) (R := fun v q => v = Value.ref q.1) (vs := L.map fun q => Value.ref q.1) (bs := L) hoL ?_ ?_ ?_ ?_ ?_ ?_ fun out hol eo => ?_))
  · exact each_self fun q _ => rfl
  · exact each_self fun q hq => ⟨[], reads_isT (tk q hq), List.not_mem_nil⟩
  · intro d hd d' hd'
    obtain ⟨q, _, rfl⟩ := List.mem_map.mp hd
    obtain ⟨r, _, rfl⟩ := List.mem_map.mp hd'
    show PySem.W.alike (.tuple _) (.tuple _) = true
    rw [PySem.W.alike]
    exact alike_ints _ _
  · refine .inl fun d hd => ?_
    obtain ⟨q, hq, rfl⟩ := List.mem_map.mp hd
    have := hne q hq
    unfold encT
    cases e : q.2 with
    | nil => exact absurd e this
    | cons x r => exact ⟨_, _, rfl⟩
  · rw [sizeLine_eq]; omega
  · intro b _
    have := depth_ints b.2
    show A.in1.units + 1 + (PyData.tuple (b.2.map .int)).depth < cLine
    have e1 : A.in1.units ≤ A.units + 1 := by
      show _ ≤ _
      simp [Around.in1, Around.units]
    omega
  · have eo' := each_ref eo
    obtain ⟨c, hc⟩ := sortedHeap_at (vs := L.map fun q => Value.ref q.1) (out := out.toArray) hoL
    refine wpAny_pure ⟨_, rfl, hQ _ h1.objs.size out.toArray c (fun b u e => ?_) rfl rfl rfl hz hc (by simpa using eo')⟩
    have q := k1 b u e
    have hlt := Heap.lt_size q
    show (sortedHeap (h1.push (seqObj "list" (L.map fun q => Value.ref q.1).toArray 0)) h1.objs.size (L.map fun q => Value.ref q.1) out.toArray).get? b = some u
    rw [sortedHeap_old (Nat.ne_of_lt hlt) (by rw [size_push']; exact Nat.lt_succ_of_lt hlt)]
    exact Heap.get?_push_of_some _ q
end
/-- what is tracked stands in the heap -/
theorem ObjOk.some_ {P : Program} {w : World} {H : Hp} {h : Heap} {a : Addr} {o : HO} (x : ObjOk P w H h a o) : ∃ b, h.get? a = some b := by
  cases o with
  | lst xs => have ⟨_, _, _, _, z⟩ := x; exact ⟨_, z⟩
  | tup xs => have ⟨_, _, _, ⟨_, z, _⟩⟩ := x; exact ⟨_, z⟩
  | dK kvs => have ⟨_, _, _, _, _, _, _, z, _⟩ := x; exact ⟨_, z⟩
  | dT kvs => have ⟨_, _, _, _, _, _, _, z, _⟩ := x; exact ⟨_, z⟩
  | set S n => have ⟨_, _, _, _, z, _⟩ := x; exact ⟨_, z⟩
  | ins C dx fs => have ⟨_, _, _, z, _⟩ := x; exact ⟨_, z⟩
  | own y => exact x
  | xd fs => have ⟨_, ⟨_, _, _, z, _⟩, _⟩ := x; exact ⟨_, z⟩
  | rng lo hi => have ⟨_, _, _, z⟩ := x; exact ⟨_, z⟩
  | frz ob u => have ⟨z, _⟩ := x; exact ⟨_, z⟩
  | tbl ps => exact ⟨_, x⟩
  | met f y => exact ⟨_, x⟩
  | ext φ => have ⟨_, z, _⟩ := x; exact z
theorem HOk.freshN {P : Program} {w : World} {H : Hp} {h : Heap} {a : Addr} (x : HOk P w H h) (n : h.get? a = none) : H a = none := by
  cases e : H a with
  | none => rfl
  | some o =>
    obtain ⟨b, z⟩ := (x a o e).some_
    rw [n] at z
    cases z
section
variable {X : Cx}
def rSortedTT (K : PySem.W.Frag) : List V → Hp → VK → Prop := fun vs H Q => ∃ (a : Addr) (L : List (Addr × List Int)), vs = [V.ref a] ∧ SqT K H a (L.map fun q => V.ref q.1) ∧ (∀ p ∈ L, SqT K H p.1 (p.2.map V.int)) ∧ L.length ≤ 1000 ∧ (∀ p ∈ L, p.2 ≠ []) ∧
  ∀ p, H p = none → Q (.ref p) (upd H p (.lst ((L.mergeSort (PySem.W.dataLe false encT)).map fun q => V.ref q.1)))
theorem cr_sortedTT (hc : X.calm = true) (hu : X.A.units + 9 < cLine) : CallR X (.builtin "sorted") (rSortedTT X.K) := by
  intro pins s σ H vs us Q I r h
  obtain ⟨a, L, rfl, ha, hk, hz, hB, q⟩ := h
  rw [Vals.ref1 r]
  obtain ⟨its, rv, ht, _⟩ := I.tuple ha
  rw [refs_of_vals rv] at ht
  refine sorted_tupD ht (fun p hp => I.isT (hk p hp)) hz (I.ok.hd hc) hu hB fun s' p out c k g dr o hp hg hout => ?_
  have hlen : ((L.mergeSort (PySem.W.dataLe false encT)).map fun q => V.ref q.1).length ≤ sizeLine := by rw [List.length_map, List.length_mergeSort, sizeLine_eq]; omega
  have hn : H p = none := I.hok.freshN hp
  have hv : Vals ((L.mergeSort (PySem.W.dataLe false encT)).map fun q => V.ref q.1) out.toList := by rw [hout]; exact vals_of_refs _
  have J : Inv X pins σ (upd H p (.lst ((L.mergeSort (PySem.W.dataLe false encT)).map fun q => V.ref q.1))) { s with heap := s'.heap, toks := s'.toks } := I.laidN k hp hn ⟨hlen, out.toList, c, hv, hg⟩
  have e : s' = { s with heap := s'.heap, toks := s'.toks } := by
    cases s'
    cases s
    cases o
    cases g
    cases dr
    rfl
  rw [e]
  exact ⟨.ref p, _, J, rfl, q p hn⟩
end
end L2
namespace Mir
open PySem PySem.Spec PyProof.Rows L2
/-! ### on data -/
def rleT (a b : List Int) : Bool := decide (¬ b < a)
theorem rle_encT (q r : Addr × List Int) : PySem.W.dataLe false encT q r = rleT q.2 r.2 := by
  rw [le_encT]
  rfl
def gSortTT : List Da → Option Da
  | [.tuple ds] => match rowsD ds with
    | some rs => if rs.all (fun r => !r.isEmpty) = true ∧ rs.length ≤ 1000 then some (.list ((rs.mergeSort rleT).map dRow)) else none
    | none => none
  | _ => none
theorem cd_sortTT {K : PySem.W.Frag} : CallD K (rSortedTT K) gSortTT := fun H F xs dx d fo hx hg Q q => by
  unfold gSortTT at hg
  split at hg
  · split at hg
    · rename_i rs hrs
      split at hg
      · rename_i hd
        cases hg
        obtain ⟨v, ev, hv⟩ := hx.one
        obtain ⟨a, vs, e, s, t, _⟩ := hv.tup_inv
        rw [rowsD_inv hrs] at t
        have ln : vs.length = rs.length := by have := t.len; rwa [List.length_map] at this
        have z := rpA_zip t
        have adr : ∀ p ∈ vs.zip rs, ∃ b, p.1 = V.ref b ∧ SqT K H b (p.2.map V.int) := fun p hp => by
          obtain ⟨b, ws, e3, r, t3⟩ := (z p hp).tup_inv
          rw [ints_inv t3] at r
          exact ⟨b, e3, r.sq⟩
        let ad : V → Addr := fun v => match v with
          | .ref b => b
          | _ => 0
        let L : List (Addr × List Int) := (vs.zip rs).map fun p => (ad p.1, p.2)
        have e1 : (L.map fun q => V.ref q.1) = vs := by
          show ((vs.zip rs).map _).map _ = _
          rw [List.map_map]
          have : ∀ p ∈ vs.zip rs, ((fun q : Addr × List Int => V.ref q.1) ∘ fun p => (ad p.1, p.2)) p = p.1 := fun p hp => by
            obtain ⟨b, eb, _⟩ := adr p hp
            show V.ref (ad p.1) = p.1
            rw [eb]
          rw [List.map_congr_left this]
          exact List.map_fst_zip (by omega)
        have e2 : L.map (·.2) = rs := by
          show ((vs.zip rs).map _).map _ = _
          rw [List.map_map]
          exact List.map_snd_zip (by omega)
        have ofL : ∀ q ∈ L, Rp K H F (.ref q.1) (dRow q.2) ∧ SqT K H q.1 (q.2.map V.int) := fun q hq => by
          obtain ⟨p, hp, rfl⟩ := List.mem_map.mp hq
          obtain ⟨b, eb, sq⟩ := adr p hp
          have rp := z p hp
          rw [eb] at rp
          refine ⟨?_, ?_⟩
          · show Rp K H F (.ref (ad p.1)) (dRow p.2)
            rw [eb]
            exact rp
          · show SqT K H (ad p.1) (p.2.map V.int)
            rw [eb]
            exact sq
        have lL : L.length = rs.length := by
          have := congrArg List.length e2
          rwa [List.length_map] at this
        refine ⟨a, L, by rw [ev, e], by rw [e1]; exact s, fun p hp => (ofL p hp).2, by rw [lL]; exact hd.2, fun p hp en => ?_, fun p np => ?_⟩
        · have hm : p.2 ∈ rs := by rw [← e2]; exact List.mem_map.mpr ⟨p, hp, rfl⟩
          have := List.all_eq_true.mp hd.1 _ hm
          rw [en] at this
          cases this
        · refine q _ _ _ (Gr.new fo np) (rp_newL fo np ?_)
          have m := List.map_mergeSort (r := PySem.W.dataLe false encT) (s := rleT) (f := fun p : Addr × List Int => p.2) (l := L) (fun p _ q _ => rle_encT p q)
          rw [e2] at m
          rw [← m, List.map_map]
          exact rpA_map _ fun p hp => (ofL p (List.mem_mergeSort.mp hp)).1
      · cases hg
    · cases hg
  · cases hg
end Mir

set_option Elab.async false
set_option linter.all false
set_option maxRecDepth 100000
set_option maxHeartbeats 4000000
namespace Mir
open PySem PySem.Spec PyProof.Rows L2
/-! ### x = {}; for ..: if c: k = tuple(ints); x[k] = x.get(k, z) + e; then return tuple(f([x[k] for k in x])) -/
abbrev kI (k : List Int) : List Key := k.map Sum.inl
theorem kI_inj : ∀ {a b : List Int}, kI a = kI b → a = b
  | [], [], _ => rfl
  | [], _ :: _, h => by cases h
  | _ :: _, [], h => by cases h
  | x :: a, y :: b, h => by
    injection h with h1 h2
    injection h1 with h1
    rw [h1, kI_inj h2]
theorem kI_kV (k : List Int) : (kI k).map kV = k.map V.int := by
  rw [List.map_map]
  rfl
inductive RpT (K : PySem.W.Frag) (H : Hp) (F : Frz) : List (List Key × V) → List (List Int × Da) → Prop
  | nil : RpT K H F [] []
  | cons {k : List Int} {v : V} {d : Da} {r : List (List Key × V)} {t : List (List Int × Da)} : Rp K H F v d → RpT K H F r t → RpT K H F ((kI k, v) :: r) ((k, d) :: t)
def getT (t : List (List Int × Da)) (k : List Int) : Option Da := (t.find? fun p => decide (p.1 = k)).map (·.2)
def putT (t : List (List Int × Da)) (k : List Int) (d : Da) : List (List Int × Da) := if (t.any fun p => decide (p.1 = k)) = true then t.map fun p => if p.1 = k then (p.1, d) else p else t ++ [(k, d)]
section
variable {K : PySem.W.Frag} {H H' : Hp} {F F' : Frz} {v : V} {d : Da}
theorem dec_kI (a b : List Int) : decide (kI a = kI b) = decide (a = b) := decide_eq_decide.mpr ⟨kI_inj, fun h => by rw [h]⟩
theorem RpT.len : ∀ {r : List (List Key × V)} {t : List (List Int × Da)}, RpT K H F r t → r.length = t.length
  | _, _, .nil => rfl
  | _, _, .cons _ t => congrArg (· + 1) (RpT.len t)
theorem RpT.st (s : Stay F H F' H') : ∀ {r : List (List Key × V)} {t : List (List Int × Da)}, RpT K H F r t → RpT K H' F' r t
  | _, _, .nil => .nil
  | _, _, .cons a t => .cons (a.st s) (RpT.st s t)
theorem RpT.has (k : List Int) : ∀ {r : List (List Key × V)} {t : List (List Int × Da)}, RpT K H F r t → (r.any fun kv => decide (kv.1 = kI k)) = t.any fun p => decide (p.1 = k)
  | _, _, .nil => rfl
  | _, _, .cons (k := k1) _ t => by
    rw [List.any_cons, List.any_cons, dec_kI, RpT.has k t]
theorem RpT.app : ∀ {r r' : List (List Key × V)} {t t' : List (List Int × Da)}, RpT K H F r t → RpT K H F r' t' → RpT K H F (r ++ r') (t ++ t')
  | _, _, _, _, .nil, h => h
  | _, _, _, _, .cons a t, h => .cons a (RpT.app t h)
theorem RpT.upd (k : List Int) (h : Rp K H F v d) : ∀ {r : List (List Key × V)} {t : List (List Int × Da)}, RpT K H F r t → RpT K H F (r.map fun kv => if kv.1 = kI k then (kv.1, v) else kv) (t.map fun p => if p.1 = k then (p.1, d) else p)
  | _, _, .nil => .nil
  | _, _, .cons (k := k1) (v := v1) (d := d1) a t => by
    rw [List.map_cons, List.map_cons]
    show RpT K H F ((if kI k1 = kI k then (kI k1, v) else (kI k1, v1)) :: _) ((if k1 = k then (k1, d) else (k1, d1)) :: _)
    by_cases q : k1 = k
    · rw [if_pos q, if_pos (congrArg kI q)]
      exact .cons h (RpT.upd k h t)
    · rw [if_neg q, if_neg (fun z => q (kI_inj z))]
      exact .cons a (RpT.upd k h t)
theorem RpT.put {r : List (List Key × V)} {t : List (List Int × Da)} (k : List Int) (h : Rp K H F v d) (s : RpT K H F r t) : RpT K H F (putK r (kI k) v) (putT t k d) := by
  unfold putK putT
  rw [s.has k]
  by_cases q : (t.any fun p => decide (p.1 = k)) = true
  · rw [if_pos q, if_pos q]
    exact s.upd k h
  · rw [if_neg q, if_neg q]
    exact s.app (.cons h .nil)
theorem RpT.get (k : List Int) : ∀ {r : List (List Key × V)} {t : List (List Int × Da)}, RpT K H F r t → (∀ e, getT t k = some e → ∃ v, valV r (kI k) = some v ∧ Rp K H F v e) ∧ (getT t k = none → valV r (kI k) = none)
  | _, _, .nil => ⟨(fun e h => nomatch h), fun _ => rfl⟩
  | _, _, .cons (k := k1) (v := v1) (d := d1) (r := r) (t := s) a t => by
    obtain ⟨i1, i2⟩ := RpT.get k t
    have e1 : getT ((k1, d1) :: s) k = if k1 = k then some d1 else getT s k := by
      unfold getT
      rw [List.find?_cons]
      by_cases q : k1 = k
      · simp only [decide_eq_true q, if_pos q]
        rfl
      · simp only [decide_eq_false q, if_neg q]
    rw [e1]
    by_cases q : k1 = k
    · rw [if_pos q, valV_pos (p := (kI k1, v1)) (congrArg kI q)]
      exact ⟨fun e h => ⟨v1, rfl, by cases h; exact a⟩, fun h => nomatch h⟩
    · rw [if_neg q, valV_neg (p := (kI k1, v1)) (fun z => q (kI_inj z))]
      exact ⟨i1, i2⟩
theorem RpT.getD (k : List Int) {r : List (List Key × V)} {t : List (List Int × Da)} {z : V} {dz : Da} (s : RpT K H F r t) (hz : Rp K H F z dz) : Rp K H F ((valV r (kI k)).getD z) ((getT t k).getD dz) := by
  obtain ⟨g1, g2⟩ := s.get k
  cases e : getT t k with
  | none => rw [g2 e]; exact hz
  | some x =>
    obtain ⟨v, ev, rv⟩ := g1 x e
    rw [ev]
    exact rv
/-- the entry at i: its key isn't any earlier one -/
theorem RpT.at : ∀ {r : List (List Key × V)} {t : List (List Int × Da)} {i : Nat} {k : List Key} {v : V}, RpT K H F r t → r[i]? = some (k, v) → ∃ k1 d, k = kI k1 ∧ t[i]? = some (k1, d) ∧ Rp K H F v d
  | _, _, _, _, _, .nil, h => by simp at h
  | _, _, 0, k, v, .cons (k := k1) (v := v1) (d := d1) a _, h => by
    have h : (kI k1, v1) = (k, v) := by simpa using h
    cases h
    exact ⟨k1, d1, rfl, rfl, a⟩
  | _, _, i + 1, k, v, .cons _ t, h => by
    obtain ⟨k1, d, h1, h2, h3⟩ := RpT.at (i := i) t (by simpa using h)
    exact ⟨k1, d, h1, by simpa using h2, h3⟩
end
theorem putT_nd {t : List (List Int × Da)} {k : List Int} {d : Da} (h : (t.map (·.1)).Nodup) : ((putT t k d).map (·.1)).Nodup := by
  unfold putT
  split
  · have e : (t.map fun p => if p.1 = k then (p.1, d) else p).map (·.1) = t.map (·.1) := by
      rw [List.map_map]
      refine List.map_congr_left fun p _ => ?_
      show (if p.1 = k then (p.1, d) else p).1 = p.1
      split <;> rfl
    rw [e]
    exact h
  · rename_i q
    rw [List.map_append, List.nodup_append]
    refine ⟨h, List.pairwise_singleton _ _, fun a ha b hb z => q ?_⟩
    rw [List.map_cons, List.map_nil, List.mem_singleton] at hb
    obtain ⟨p, hp, rfl⟩ := List.mem_map.mp ha
    exact List.any_eq_true.mpr ⟨p, hp, decide_eq_true (z.trans hb)⟩
theorem getT_at : ∀ {t : List (List Int × Da)} {i : Nat} {k : List Int} {d : Da}, (t.map (·.1)).Nodup → t[i]? = some (k, d) → getT t k = some d
  | [], _, _, _, _, h => by simp at h
  | (k1, d1) :: t, 0, k, d, _, h => by
    have h : (k1, d1) = (k, d) := by simpa using h
    cases h
    unfold getT
    rw [List.find?_cons]
    simp only [decide_true]
    rfl
  | (k1, d1) :: t, i + 1, k, d, nd, h => by
    have h : t[i]? = some (k, d) := by simpa using h
    rw [List.map_cons, List.nodup_cons] at nd
    have hm : k ∈ t.map (·.1) := List.mem_map.mpr ⟨(k, d), List.mem_of_getElem? h, rfl⟩
    have ne : ¬ k1 = k := fun z => nd.1 (by rw [z]; exact hm)
    have ih := getT_at nd.2 h
    unfold getT at ih ⊢
    rw [List.find?_cons]
    simp only [decide_eq_false ne]
    exact ih
def intsQ : List Da → Option (List Int)
  | [] => some []
  | .int i :: t => (intsQ t).map (i :: ·)
  | _ => none
theorem intsQ_inv : ∀ {ds : List Da} {k : List Int}, intsQ ds = some k → ds = k.map .int
  | [], k, h => by cases h; rfl
  | .int i :: t, k, h => by
    obtain ⟨r, h1, h2⟩ := Option.map_eq_some_iff.mp (show (intsQ t).map (i :: ·) = some k from h)
    rw [← h2, List.map_cons, ← intsQ_inv h1]
  | .none :: _, _, h => by cases h
  | .bool _ :: _, _, h => by cases h
  | .str _ :: _, _, h => by cases h
  | .list _ :: _, _, h => by cases h
  | .tuple _ :: _, _, h => by cases h
  | .dict _ :: _, _, h => by cases h
theorem rpA_ints {K : PySem.W.Frag} {H : Hp} {F : Frz} : ∀ {vs : List V} {k : List Int}, RpA K H F vs (k.map .int) → vs = k.map V.int
  | [], [], _ => rfl
  | [], _ :: _, h => by cases h
  | _ :: _, [], h => by cases h
  | v :: vs, i :: k, h => by
    cases h with
    | cons a b => rw [List.map_cons, a.int_inv, rpA_ints b]
/-- what stands in the midst of the loop -/
structure MidT (n : Nat) (K : PySem.W.Frag) (H0 : Hp) (F0 : Frz) (j : Nat) (d : Addr) (σ : L2.St) (H : Hp) (F : Frz) (ρ : Sto) (t : List (List Int × Da)) (kvs : List (List Key × V)) : Prop where
  c : Cr K ⟨H0, F0, none⟩ [] σ H F ρ
  s : σ[j]? = some (some (.ref d))
  d0 : H0 d = none
  nf : ¬ F d
  hd : H d = some (.dT kvs)
  rt : RpT K H F kvs t
  nd : (t.map (·.1)).Nodup
  sz : σ.length = n
section
variable {n : Nat} {K : PySem.W.Frag} {H0 H H' : Hp} {F0 F F' : Frz} {j : Nat} {d : Addr} {σ σ' : L2.St} {ρ ρ' : Sto} {t : List (List Int × Da)} {kvs : List (List Key × V)}
theorem MidT.grow (m : MidT n K H0 F0 j d σ H F ρ t kvs) (g : Gr F H F' H') : MidT n K H0 F0 j d σ H' F' ρ t kvs :=
  ⟨m.c.grow g, m.s, m.d0, (fun z => by
    rcases g.nw d z with z | z
    · exact m.nf z
    · rw [m.hd] at z; cases z), g.ex _ _ m.hd, m.rt.st (g.stay m.c.fo), m.nd, m.sz⟩
/-- an expression has been worked out -/
theorem MidT.ev (m : MidT n K H0 F0 j d σ H F ρ t kvs) (c : Cr K ⟨H, F, none⟩ [] σ H' F' ρ') (l : Le F H F' H') : MidT n K H0 F0 j d σ H' F' ρ' t kvs :=
  ⟨m.c.rebase c, m.s, m.d0, (fun z => by
    rcases c.b3 d z with z | z
    · exact m.nf z
    · have z' : H d = none := z
      rw [m.hd] at z'; cases z'), c.ex _ _ m.hd, m.rt.st l.st, m.nd, m.sz⟩
end
def mTupL (jt : Nat) (ft : Da → Sto → Option Sto) (fc : Md Bool) (f1 fx fe : Md Da) (ga : Da → Da → Option Da) : List Da → List (List Int × Da) → Sto → Option (List (List Int × Da) × Sto)
  | [], t, ρ => some (t, ρ)
  | d :: ds, t, ρ => match ft d ρ with
    | none => none
    | some ρ1 => match fc ρ1 with
      | none => none
      | some (false, ρ2) => mTupL jt ft fc f1 fx fe ga ds t ρ2
      | some (true, ρ2) => match f1 ρ2 with
        | some (.list ks, ρ3) => match intsQ ks with
          | none => none
          | some k => match fx (ρ3.set jt none) with
            | none => none
            | some (z, ρ4) => match fe ρ4 with
              | none => none
              | some (e, ρ5) => match ga ((getT t k).getD z) e with
                | none => none
                | some v => if t.length < 100000 then mTupL jt ft fc f1 fx fe ga ds (putT t k v) ρ5 else none
        | _ => none
def mCollT (j jt jk : Nat) (fi : Md (List Da)) (ft : Da → Sto → Option Sto) (fc : Md Bool) (f1 fx fe : Md Da) (ga : Da → Da → Option Da) (gs : List Da → Option Da) : Sm := fun ρ => if j < ρ.length ∧ jt < ρ.length ∧ jk < ρ.length then match fi (ρ.set j none) with
  | none => none
  | some (ds, ρ1) => match mTupL jt ft fc f1 fx fe ga ds [] ρ1 with
    | none => none
    | some (t, ρ2) => if t.length < 100000 then match gs [.list (t.map (·.2))] with
      | none => none
      | some s => match gTupleOf [s] with
        | none => none
        | some r => some (.rt r ρ2) else none else none
section
variable {X : Cx} {tg iter c : Expr} {fi : Md (List Da)} {ft : Da → Sto → Option Sto} {fc : Md Bool} {f1 fx fe : Md Da} {ga : Da → Da → Option Da} {gs : List Da → Option Da} {s1 s3 s4 s5 : Stmt} {j jt jk : Nat} {ts vs : List Nat} {pos pos2 : Pos} {rA : R2} {rS : List V → Hp → VK → Prop}
abbrev rTupOf (K : PySem.W.Frag) : List V → Hp → VK → Prop := fun xs H Q => ∃ p ys, xs = [.ref p] ∧ ((SqL K H p ys ∧ ∀ l, H l = none → Q (.ref l) (upd H l (.tup ys))) ∨ (SqT K H p ys ∧ Q (.ref p) H))
abbrev tKey (K : PySem.W.Frag) (jt : Nat) (f1 : Md Da) : TS := tAsg (tCB (rTupOf K) (tCons (tE K [] f1) tNil)) (gName jt)
abbrev tPutT (K : PySem.W.Frag) (j jt : Nat) (fx fe : Md Da) (rA : R2) : TS := sDPut (tVar j) (tVar jt) (tOp rA (tDGet2 (tVar j) (tVar jt) (tE K [] fx)) (tE K [] fe))
abbrev tRetT (K : PySem.W.Frag) (j jk : Nat) (vs : List Nat) (rS : List V → Hp → VK → Prop) : TS := tRet (tCB (rTupOf K) (tCons (tCB rS (tCons (tLc (iKeys (tVar j)) (gName jk) tYes (tDGet (tVar j) (tVar jk)) vs) tNil)) tNil))
/-- one turn -/
theorem sdt_go {n : Nat} {K : PySem.W.Frag} {H0 H : Hp} {F0 F : Frz} {d : Addr} {σ : L2.St} {ρ ρ3 ρ4 ρ5 : Sto} {t : List (List Int × Da)} {kvs : List (List Key × V)} {ks : List Da} {k : List Int} {z e v : Da} {D : Ends} (hA : OpD K rA ga) (hj : j ≠ jt) (m : MidT n K H0 F0 j d σ H F ρ t kvs)
    (h1 : f1 ρ = some (.list ks, ρ3)) (hk : intsQ ks = some k) (hx : fx (ρ3.set jt none) = some (z, ρ4)) (he : fe ρ4 = some (e, ρ5)) (hv : ga ((getT t k).getD z) e = some v) (hz : t.length < 100000) (hlt : jt < n)
    (q : ∀ σ' H' F' kvs', MidT n K H0 F0 j d σ' H' F' ρ5 (putT t k v) kvs' → Le F H F' H' → D.nx σ' H') : tSeq (tKey K jt f1) (tPutT K j jt fx fe rA) D σ H := by
  refine ⟨⟨H, F, none⟩, F, ρ, _, ρ3, m.c.snap, h1, fun w H1 F1 c1 l1 r1 => ?_⟩
  have m1 := m.ev c1 l1
  obtain ⟨a, ws, ew, sq, ra⟩ := r1.list_inv
  have eks := intsQ_inv hk
  subst eks
  have ews := rpA_ints ra
  refine ⟨a, ws, by rw [ew], .inl ⟨sq.sq, fun b nb => ?_⟩⟩
  show tPutT K j jt fx fe rA D (σ.set jt (some (.ref b))) (upd H1 b (.tup ws))
  have gr := Gr.new0 (o := .tup ws) c1.fo nb
  have m2g := m1.grow gr
  have l2 := l1.trans (gr.le c1.fo)
  have sl : jt < σ.length := by rw [m.sz]; exact hlt
  have m2 : MidT n K H0 F0 j d (σ.set jt (some (.ref b))) (upd H1 b (.tup ws)) F1 (ρ3.set jt none) t kvs := ⟨m2g.c.unset _, (List.getElem?_set_ne (Ne.symm hj)).trans m.s, m.d0, m2g.nf, m2g.hd, m2g.rt, m.nd, (List.length_set ..).trans m.sz⟩
  have sb : (σ.set jt (some (V.ref b)))[jt]? = some (some (.ref b)) := List.getElem?_set_self sl
  have hb : (upd H1 b (.tup ws)) b = some (.tup ((kI k).map kV)) := by
    rw [upd_same, ews, kI_kV]
  refine ⟨.ref d, m2.s, d, rfl, .inr ⟨kvs, .inl m2.hd⟩, .ref b, sb, ⟨_, F1, none⟩, F1, _, z, ρ4, m2.c.snap, hx, fun y H3 F3 c3 l3 r3 => ?_⟩
  have m3 := m2.ev c3 l3
  have hb3 := c3.ex _ _ hb
  refine ⟨_, DGet.t m3.hd hb3, ⟨H3, F3, none⟩, F3, ρ4, e, ρ5, m3.c.snap, he, fun y2 H4 F4 c4 l4 r4 => ?_⟩
  have m4 := m3.ev c4 l4
  have hb4 := c4.ex _ _ hb3
  have rg := (m3.rt.getD k r3).st l4.st
  refine hA H4 F4 _ _ _ _ _ c4.fo (.rp rg) (.rp r4) hv _ fun v5 H5 F5 g5 r5 => ?_
  have m5 := m4.grow g5
  have hb5 := g5.ex _ _ hb4
  refine ⟨.ref d, m5.s, .ref b, sb, d, _, rfl, DPut.t m5.hd hb5 (by rw [m5.rt.len]; exact Evl.sz_lt hz), ?_⟩
  have up := But.updO (o1' := .dT (putK kvs (kI k) v5)) m5.c.fo m5.hd
  have le := up.le m5.c.fo m5.nf m5.hd upd_same
  exact q _ _ F5 _ ⟨m5.c.swap m5.hd m5.nf (fun j d _ h => absurd h List.not_mem_nil) m5.d0, m5.s, m5.d0, m5.nf, upd_same, (m5.rt.st le.st).put k (r5.st le.st), putT_nd m5.nd, m5.sz⟩ ((((l2.trans l3).trans l4).trans (g5.le m4.c.fo)).trans le)
theorem mCollT_inv {ρ : Sto} {o : Out} (h : mCollT j jt jk fi ft fc f1 fx fe ga gs ρ = some o) : (j < ρ.length ∧ jt < ρ.length ∧ jk < ρ.length) ∧ ∃ ds ρ1 t ρ2 s r, fi (ρ.set j none) = some (ds, ρ1) ∧ mTupL jt ft fc f1 fx fe ga ds [] ρ1 = some (t, ρ2) ∧ t.length < 100000 ∧ gs [.list (t.map (·.2))] = some s ∧ gTupleOf [s] = some r ∧ o = .rt r ρ2 := by
  unfold mCollT at h
  split at h
  case isFalse => cases h
  rename_i hlt
  split at h
  · cases h
  rename_i ds ρ1 e1
  split at h
  · cases h
  rename_i t ρ2 e2
  split at h
  case isFalse => cases h
  rename_i hz
  split at h
  · cases h
  rename_i s e3
  split at h
  · cases h
  rename_i r e4
  cases h
  exact ⟨hlt, ds, ρ1, t, ρ2, s, r, e1, e2, hz, e3, e4, rfl⟩
theorem b_collT {ts : List Nat} (h1 : PS X s1 (tAsg tDNewT (gName j))) (hp : PassesOwn (model X.prog X.w) X.A X.env X.xe) (hc : X.calm = true) (hi : GI X [] tg iter fi) (hg : GG X [] tg ts ft) (hj : j ∉ ts) (hjt : j ≠ jt) (hT : GT X [] c fc) (h3 : PS X s3 (tKey X.K jt f1)) (hA : OpD X.K rA ga) (h4 : PS X s4 (tPutT X.K j jt fx fe rA))
    (hS : CallD X.K rS gs) (hjk : jk ∈ vs) (hjv : j ∉ vs) (h5 : PS X s5 (tRetT X.K j jk vs rS)) (hs : ∀ x, foldedSetIterable iter X.env x = pure x := by intro _; rfl) :
    GB X [] (s1 :: .For tg iter [.If c [s3, s4] [] pos2] [] pos :: [s5]) (mCollT j jt jk fi ft fc f1 fx fe ga gs) :=
  pss_w (pss_cons h1 (pss_cons (ps_for hp hc hi hg (pss_one (ps_if hT (pss_cons h3 (pss_one h4)) pss_nil)) hs) (pss_keep (pss_one h5)))) fun D σ H0 ⟨B, F0, ρ, o, c0, hf, a⟩ => by
  obtain ⟨⟨hlt, hlt2, hlt3⟩, ds, ρ1, T, ρE, srt, res, e1, e2, hz, e3, e4, rfl⟩ := mCollT_inv hf
  intro d nd
  obtain ⟨n, hn⟩ : ∃ n, n = σ.length := ⟨_, rfl⟩
  show tFor (tI X.K [] fi) (gOf X.K [] ts ft) (tIfS (tT X.K [] fc) (tSeq (tKey X.K jt f1) (tPutT X.K j jt fx fe rA)) tNext) { D with nx := tKeep (tRetT X.K j jk vs rS) D } (σ.set j (some (.ref d))) (upd H0 d (.dT []))
  have gr := Gr.new0 (o := .dT []) c0.fo nd
  have cA : Cr X.K ⟨H0, F0, none⟩ [] (σ.set j (some (.ref d))) (upd H0 d (.dT [])) F0 (ρ.set j none) := (c0.snap.grow gr).unset _
  have sj : (σ.set j (some (V.ref d)))[j]? = some (some (.ref d)) := List.getElem?_set_self (by rw [c0.len]; exact hlt)
  have nf0 : ¬ F0 d := fun z => c0.fo d z nd
  have mA : MidT n X.K H0 F0 j d (σ.set j (some (.ref d))) (upd H0 d (.dT [])) F0 (ρ.set j none) [] [] := ⟨cA, sj, nd, nf0, upd_same, .nil, List.nodup_nil, (List.length_set ..).trans hn.symm⟩
  refine ⟨⟨upd H0 d (.dT []), F0, none⟩, F0, ρ.set j none, ds, ρ1, cA.snap, e1, fun J H1 F1 c1 l1 it => ?_⟩
  have mB := mA.ev c1 l1
  have lA : Le F0 H0 F1 H1 := (gr.le c0.fo).trans l1
  refine ⟨fun i m σ H => ∃ F ρ t kvs, MidT n X.K H0 F0 j d σ H F ρ t kvs ∧ Le F1 H1 F H ∧ m = ds.length - i ∧ i ≤ ds.length ∧ mTupL jt ft fc f1 fx fe ga (ds.drop i) t ρ = some (T, ρE), ⟨ds.length, F1, ρ1, [], [], mB, Le.refl, rfl, Nat.zero_le _, e2⟩, ?_⟩
  rintro i m σ H ⟨F, ρ, t, kvs, M, l, rfl, hi, hf⟩
  obtain ⟨stop, go⟩ := it i H F l.st M.c.fo
  by_cases hlt : i < ds.length
  · obtain ⟨x, hx, hdr⟩ := drop_get hlt
    rw [hdr] at hf
    obtain ⟨g1, g2⟩ := go x hx
    refine .inr ⟨g1, fun σ' H' => ∃ F' ρ' t' kvs', MidT n X.K H0 F0 j d σ' H' F' ρ' t' kvs' ∧ Le F1 H1 F' H' ∧ mTupL jt ft fc f1 fx fe ga (ds.drop (i + 1)) t' ρ' = some (T, ρE), fun σ' H' ⟨F', ρ', t', kvs', M', l', hf'⟩ => ⟨ds.length - (i + 1), by omega, F', ρ', t', kvs', M', l', rfl, hlt, hf'⟩, fun y H' hy => ?_⟩
    obtain ⟨F', gr, ry⟩ := g2 y H' hy
    have M' := M.grow gr
    have l' := l.trans (gr.le M.c.fo)
    unfold mTupL at hf
    split at hf
    · cases hf
    rename_i ρ2 ht
    refine ⟨⟨H0, F0, none⟩, F', ρ, x, ρ2, M'.c, ry, ht, fun σ2 c2 els => ?_⟩
    have M2 : MidT n X.K H0 F0 j d σ2 H' F' ρ2 t kvs := ⟨c2, (els.2 j hj).trans M'.s, M'.d0, M'.nf, M'.hd, M'.rt, M'.nd, els.1.trans M'.sz⟩
    split at hf
    · cases hf
    · rename_i ρ3 hb
      refine ⟨⟨H', F', none⟩, F', ρ2, false, ρ3, M2.c.snap, hb, fun H3 F3 c3 l3 => ?_⟩
      refine iteF ?_
      exact ⟨F3, ρ3, t, kvs, M2.ev c3 l3, l'.trans l3, hf⟩
    · rename_i ρ3 hb
      refine ⟨⟨H', F', none⟩, F', ρ2, true, ρ3, M2.c.snap, hb, fun H3 F3 c3 l3 => ?_⟩
      refine iteT ?_
      have M3 := M2.ev c3 l3
      split at hf
      · rename_i ks ρ4 h4
        split at hf
        · cases hf
        rename_i k hk
        split at hf
        · cases hf
        rename_i z ρ5 hx5
        split at hf
        · cases hf
        rename_i e ρ6 he6
        split at hf
        · cases hf
        rename_i v hv
        split at hf
        case isFalse => cases hf
        rename_i hz1
        have len3 : jt < n := by
          rw [hn, c0.len]
          exact hlt2
        exact sdt_go hA hjt M3 h4 hk hx5 he6 hv hz1 len3 fun σ' H4 F4 kvs4 M4 l4 => ⟨F4, ρ6, putT t k v, kvs4, M4, (l'.trans l3).trans l4, hf⟩
      · cases hf
  · have e : i = ds.length := by omega
    subst e
    rw [List.drop_length] at hf
    cases hf
    refine .inl ⟨stop (Nat.le_refl _), d, .dT kvs, M.hd, trivial, fun od => ?_⟩
    show tRetT X.K j jk vs rS D σ (upd H d (.frz od (.dT kvs)))
    have up := But.updO (o1' := .frz od (.dT kvs)) M.c.fo M.hd
    have le := up.le M.c.fo M.nf M.hd upd_same
    have cF : Cr X.K ⟨H0, F0, none⟩ [] σ (upd H d (.frz od (.dT kvs))) F ρE := M.c.swap M.hd M.nf (fun j d _ h => absurd h List.not_mem_nil) M.d0
    have rt := M.rt.st le.st
    generalize hHL : upd H d (.frz od (.dT kvs)) = HL at cF rt
    have hd : HL d = some (.frz od (.dT kvs)) := by rw [← hHL]; exact upd_same
    have ln := M.rt.len
    -- the comprehension
    refine ⟨.ref d, M.s, d, od, rfl, .inr ⟨kvs, hd, ?_⟩⟩
    intro L nL
    have dL : d ≠ L := ne_of_none hd nL
    refine ⟨fun i m H => ∃ ws, H = upd HL L (.lst ws) ∧ m = kvs.length - i ∧ i ≤ kvs.length ∧ RpA X.K HL F ws ((T.map (·.2)).take i), ⟨kvs.length, [], rfl, rfl, Nat.zero_le _, .nil⟩, ?_⟩
    rintro i m H' ⟨ws, rfl, rfl, hi, ra⟩
    have hdU : (upd HL L (.lst ws)) d = some (.frz od (.dT kvs)) := (upd_ne dL).trans hd
    by_cases hlt : i < kvs.length
    · refine .inr ⟨⟨hdU, hlt⟩, fun H' => ∃ ws', H' = upd HL L (.lst ws') ∧ RpA X.K HL F ws' ((T.map (·.2)).take (i + 1)), fun H' ⟨ws', e, r⟩ => ⟨kvs.length - (i + 1), by omega, ws', e, rfl, hlt, r⟩, ?_⟩
      rintro x H' ⟨rfl, k, v, q, hk, rfl, hq⟩
      obtain ⟨k1, dd, ek, hT1, _⟩ := rt.at hk
      subst ek
      obtain ⟨v', hv', rv'⟩ := (rt.get k1).1 dd (getT_at M.nd hT1)
      have ln1 : jk < (L2.wipe σ vs).length := by
        rw [L2.wipe_length, M.sz, hn, c0.len]
        exact hlt3
      have nej : jk ≠ j := fun z => hjv (z ▸ hjk)
      have el : Else [jk] (L2.wipe σ vs) ((L2.wipe σ vs).set jk (some (.ref q))) := ⟨List.length_set .., fun i hi => by
        rw [List.mem_singleton] at hi
        exact List.getElem?_set_ne (Ne.symm hi)⟩
      refine ⟨el.wipe (fun t ht => by rw [List.mem_singleton.mp ht]; exact hjk), ?_⟩
      dsimp only [tYes]
      rw [if_pos rfl]
      refine ⟨.ref d, ?_, .ref q, List.getElem?_set_self ln1, d, v', rfl, .inr ⟨kvs, kI k1, q, .inr ⟨od, hdU⟩, rfl, hq, hv'.symm⟩, ws, upd_same, ?_, ws ++ [v'], upd_upd, ?_⟩
      · rw [List.getElem?_set_ne nej, wipe_get, if_neg hjv]
        exact M.s
      · rw [ra.len, List.length_take, List.length_map]
        exact Evl.sz_lt (by omega)
      · have hTi : (T.map (·.2))[i]? = some dd := by rw [List.getElem?_map, hT1]; rfl
        have hli : i < (T.map (·.2)).length := (List.getElem?_eq_some_iff.mp hTi).1
        rw [List.take_succ, hTi]
        exact ra.app (.one rv')
    · have e : i = kvs.length := by omega
      subst e
      refine .inl ⟨⟨hdU, Nat.le_refl _⟩, ?_⟩
      rw [List.take_of_length_le (by rw [List.length_map]; omega)] at ra
      have gL := Gr.new0 (o := .lst ws) cF.fo nL
      have raL := ra.st (gL.stay cF.fo)
      have cL := cF.grow gL
      refine hS _ F [.ref L] [.list (T.map (·.2))] srt cL.fo (.cons (.own upd_same raL) .nil) e3 _ fun v2 H2 F2 g2 r2 => ?_
      have c2 := cL.grow g2
      exact cd_tuple H2 F2 [v2] [srt] res c2.fo (.cons (.rp r2) .nil) e4 _ fun v3 H3 F3 g3 r3 => a v3 σ H3 F3 (c0.rebase (c2.grow g3)) r3
end
end Mir

set_option Elab.async false
set_option linter.all false
set_option maxRecDepth 100000
set_option maxHeartbeats 4000000
namespace MirT
open PySem PySem.Spec PyProof.Rows L2 Mir
structure Txt (K : PySem.W.Frag) (mg : Str → Option Value) where
  a_Lsource : Addr
  d_Lsource : FuncData
  F_Lsource : Fun K "_law_source" "_law_source" s_Lsource a_Lsource d_Lsource
  B_Lsource : Binds K d_Lsource ["_law_cell_here"] []
  g_Lsource : mg "_law_source" = some (.ref a_Lsource)
  a_Lcell : Addr
  d_Lcell : FuncData
  F_Lcell : Fun K "_law_cell" "_law_cell" s_Lcell a_Lcell d_Lcell
  B_Lcell : Binds K d_Lcell ["_law_script", "_law_index"] []
  g_Lcell : mg "_law_cell" = some (.ref a_Lcell)
  a_Ldraw : Addr
  d_Ldraw : FuncData
  F_Ldraw : Fun K "_law_draw" "_law_draw" s_Ldraw a_Ldraw d_Ldraw
  B_Ldraw : Binds K d_Ldraw ["_law_supply", "_law_many"] []
  g_Ldraw : mg "_law_draw" = some (.ref a_Ldraw)
  a_Lnet_of : Addr
  d_Lnet_of : FuncData
  F_Lnet_of : Fun K "_law_net_of" "_law_net_of" s_Lnet_of a_Lnet_of d_Lnet_of
  B_Lnet_of : Binds K d_Lnet_of ["_law_supply", "_law_size"] []
  g_Lnet_of : mg "_law_net_of" = some (.ref a_Lnet_of)
  a_Lsets : Addr
  d_Lsets : FuncData
  F_Lsets : Fun K "_law_sets" "_law_sets" s_Lsets a_Lsets d_Lsets
  B_Lsets : Binds K d_Lsets ["_law_things"] []
  g_Lsets : mg "_law_sets" = some (.ref a_Lsets)
  a_Lreaches : Addr
  d_Lreaches : FuncData
  F_Lreaches : Fun K "_law_reaches" "_law_reaches" s_Lreaches a_Lreaches d_Lreaches
  B_Lreaches : Binds K d_Lreaches ["_law_net"] []
  g_Lreaches : mg "_law_reaches" = some (.ref a_Lreaches)
  a_Lmeets : Addr
  d_Lmeets : FuncData
  F_Lmeets : Fun K "_law_meets" "_law_meets" s_Lmeets a_Lmeets d_Lmeets
  B_Lmeets : Binds K d_Lmeets ["_law_one", "_law_other"] []
  g_Lmeets : mg "_law_meets" = some (.ref a_Lmeets)
  a_Ltable : Addr
  d_Ltable : FuncData
  F_Ltable : Fun K "_law_table" "_law_table" s_Ltable a_Ltable d_Ltable
  B_Ltable : Binds K d_Ltable ["_law_net"] []
  g_Ltable : mg "_law_table" = some (.ref a_Ltable)
  a_Ldue : Addr
  d_Ldue : FuncData
  F_Ldue : Fun K "_law_due" "_law_due" s_Ldue a_Ldue d_Ldue
  B_Ldue : Binds K d_Ldue ["_law_table_here", "_law_watched"] []
  g_Ldue : mg "_law_due" = some (.ref a_Ldue)
  a_near_bits : Addr
  d_near_bits : FuncData
  F_near_bits : Fun K "near_bits" "near_bits" s_near_bits a_near_bits d_near_bits
  B_near_bits : Binds K d_near_bits ["thing"] []
  g_near_bits : mg "near_bits" = some (.ref a_near_bits)
  a_nears : Addr
  d_nears : FuncData
  F_nears : Fun K "nears" "nears" s_nears a_nears d_nears
  B_nears : Binds K d_nears ["net"] []
  g_nears : mg "nears" = some (.ref a_nears)
  a_bits_of : Addr
  d_bits_of : FuncData
  F_bits_of : Fun K "bits_of" "bits_of" s_bits_of a_bits_of d_bits_of
  B_bits_of : Binds K d_bits_of ["thing", "many"] []
  g_bits_of : mg "bits_of" = some (.ref a_bits_of)
  a_checked_bits : Addr
  d_checked_bits : FuncData
  F_checked_bits : Fun K "checked_bits" "checked_bits" s_checked_bits a_checked_bits d_checked_bits
  B_checked_bits : Binds K d_checked_bits ["chosen", "many"] []
  g_checked_bits : mg "checked_bits" = some (.ref a_checked_bits)
  a_heard_bits : Addr
  d_heard_bits : FuncData
  F_heard_bits : Fun K "heard_bits" "heard_bits" s_heard_bits a_heard_bits d_heard_bits
  B_heard_bits : Binds K d_heard_bits ["near", "broken"] []
  g_heard_bits : mg "heard_bits" = some (.ref a_heard_bits)
  a_groups : Addr
  d_groups : FuncData
  F_groups : Fun K "groups" "groups" s_groups a_groups d_groups
  B_groups : Binds K d_groups ["net", "watched"] []
  g_groups : mg "groups" = some (.ref a_groups)
  a_Lis_equal : Addr
  d_Lis_equal : FuncData
  F_Lis_equal : Fun K "_law_is_equal" "_law_is_equal" s_Lis_equal a_Lis_equal d_Lis_equal
  B_Lis_equal : Binds K d_Lis_equal ["_law_actual", "_law_due_here"] []
  g_Lis_equal : mg "_law_is_equal" = some (.ref a_Lis_equal)
  a_law : Addr
  d_law : FuncData
  F_law : Fun K "law" "law" s_law a_law d_law
  B_law : Binds K d_law ["_law_script"] []
  g_law : mg "law" = some (.ref a_law)
  a_BITS : Addr
  g_BITS : mg "BITS" = some (.ref a_BITS)
  k_BITS : BitsAt K a_BITS HdB.PS
  t_MOST_COMPONENTS : Tok
  g_MOST_COMPONENTS : mg "MOST_COMPONENTS" = some (.int 8 t_MOST_COMPONENTS)
  z_enumerate : mg "enumerate" = none
  z_int : mg "int" = none
  z_isinstance : mg "isinstance" = none
  z_len : mg "len" = none
  z_list : mg "list" = none
  z_max : mg "max" = none
  z_min : mg "min" = none
  z_range : mg "range" = none
  z_repr : mg "repr" = none
  z_set : mg "set" = none
  z_sorted : mg "sorted" = none
  z_tuple : mg "tuple" = none
section
variable {P : Program} {w : World} {K : PySem.W.Frag} {mg : Str → Option Value} {base : Heap}
def b_Lsource : Md (List Da) := (mSz (mCons (mCall gMax2 (mCons (mRet (.int 0)) (mCons (mOp Mir.gSub (mVar 0) (mOp gPow (mRet (.int 10)) (mRet (.int 18)))) mNil))) (mCons (mOp gAdd (mOp gMod (mVar 0) (mRet (.int 2147483629))) (mRet (.int 1))) (mCons (mRet (.int 0)) mNil))))
def m_Lsource : List Da → Option (List Da) := runL 1 b_Lsource
theorem ok_Lsource (T : Txt K mg) : FnG P w K mg base 1 T.a_Lsource T.d_Lsource ["_law_cell_here"] (spL K 1 m_Lsource) :=
  fnL (k := 0) (N := n_Lsource) (fl := b_Lsource) T.F_Lsource c_Lsource rfl fun cdv A outer s H E hr hgd =>
    (l_lst (a_cons (e_callB (call_max2 rfl) cd_max2 (by rfl) T.z_max bt_max (a_cons e_int (a_cons (e_op op_sub od_sub (e_var (pv 0) (by decide)) (e_op op_pow od_pow e_int e_int)) a_nil))) (a_cons (e_op or_add od_add (e_op op_mod od_mod (e_var (pv 0) (by decide)) e_int) e_int) (a_cons e_int a_nil))))
def b_Lcell : Sm :=
    (mSeq (mIte (mB (mOp gLt (mVar 1) (mCall gLen (mCons (mVar 0) mNil)))) (mRt (mOp gIx (mVar 0) (mVar 1))) mNx)
    (mRt (mRet (.int 0))))
def m_Lcell : List Da → Option Da := runP 2 b_Lcell
theorem ok_Lcell (T : Txt K mg) : FnG P w K mg base 1 T.a_Lcell T.d_Lcell ["_law_script", "_law_index"] (spP K 2 m_Lcell) :=
  fnP (k := 0) (N := n_Lcell) (ow := []) (fb := b_Lcell) T.F_Lcell c_Lcell (by decide) fun cdv A outer s H E hr hgd =>
    (b_cons (s_if (t_cmp op_lt od_c (e_var (pv 1) (by decide)) (e_callB call_len_seq cd_len (by rfl) T.z_len bt_len (a_cons (e_var (pv 0) (by decide)) a_nil)) (nomark _)) (b_one (s_ret (e_ix or_ix od_ix (e_var (pv 0) (by decide)) (e_var (pv 1) (by decide)) (fun _ _ => rfl)))) b_nil)
    (b_one (s_ret e_int)))
def b_Ldraw : Sm :=
    (mSeq (mIte (mB (mOp gGt (mOp1 gIx 0 (mRet (.int 0))) (mRet (.int 0)))) (mSeq (mSet 2 (mOp gMod (mOp1 gIx 0 (mRet (.int 0))) (mVar 1)))
    (mSeq (mSetI 0 (mRet (.int 0)) (mOp gDiv (mOp1 gIx 0 (mRet (.int 0))) (mVar 1)))
    (mRt (mVar 2)))) mNx)
    (mSeq (mSetI 0 (mRet (.int 2)) (mOp gAdd (mOp1 gIx 0 (mRet (.int 2))) (mRet (.int 1))))
    (mSeq (mSetI 0 (mRet (.int 1)) (mOp gMod (mOp gAdd (mOp gAdd (mOp Mir.gMul (mOp1 gIx 0 (mRet (.int 1))) (mRet (.int 48271))) (mOp Mir.gMul (mRet (.int 1009)) (mOp1 gIx 0 (mRet (.int 2))))) (mRet (.int 7))) (mRet (.int 2147483647))))
    (mSeq (mSet 3 (mOp gMod (mOp gAdd (mOp gAdd (mOp Mir.gMul (mOp1 gIx 0 (mRet (.int 1))) (mOp1 gIx 0 (mRet (.int 1)))) (mOp Mir.gMul (mRet (.int 69621)) (mOp1 gIx 0 (mRet (.int 1))))) (mRet (.int 11))) (mRet (.int 2147483629))))
    (mSeq (mSet 3 (mOp gMod (mOp gAdd (mOp Mir.gMul (mVar 3) (mVar 3)) (mOp Mir.gMul (mRet (.int 40014)) (mVar 3))) (mRet (.int 2147483587))))
    (mRt (mOp gMod (mOp gDiv (mVar 3) (mRet (.int 16))) (mVar 1))))))))
def m_Ldraw : List Da → List Da → Option (Da × List Da) := runI 4 b_Ldraw
theorem ok_Ldraw (T : Txt K mg) : FnG P w K mg base 1 T.a_Ldraw T.d_Ldraw ["_law_supply", "_law_many"] (spI K 2 m_Ldraw) :=
  fnI (k := 0) (N := n_Ldraw) (ow := [0]) (fb := b_Ldraw) T.F_Ldraw c_Ldraw (by decide) (by decide) (by decide) fun cdv A outer s H E hr hgd =>
    (b_cons (s_if (t_cmp op_gt od_c (e_ix1 or_ix od_ix (pv 0) (by decide) e_int (fun _ _ => rfl)) e_int (nomark _)) (b_cons (s_set (i := 2) c_Ldraw.nd rfl (Or.inl rfl) (by decide) (e_op op_mod od_mod (e_ix1 or_ix od_ix (pv 0) (by decide) e_int (fun _ _ => rfl)) (e_var (pv 1) (by decide))))
    (b_cons (s_setI (ps_asg (e_op op_fdivW od_div (e_ix1 or_ix od_ix (pv 0) (by decide) e_int (fun _ _ => rfl)) (e_var (pv 1) (by decide))) (pg_sub (pv 0) e_int set_list)) (by decide))
    (b_one (s_ret (e_var (pv 2) (by decide)))))) b_nil)
    (b_cons (s_setI (ps_asg (e_op or_add od_add (e_ix1 or_ix od_ix (pv 0) (by decide) e_int (fun _ _ => rfl)) e_int) (pg_sub (pv 0) e_int set_list)) (by decide))
    (b_cons (s_setI (ps_asg (e_op op_mod od_mod (e_op or_add od_add (e_op or_add od_add (e_op or_mul od_mul (e_ix1 or_ix od_ix (pv 0) (by decide) e_int (fun _ _ => rfl)) e_int) (e_op or_mul od_mul e_int (e_ix1 or_ix od_ix (pv 0) (by decide) e_int (fun _ _ => rfl)))) e_int) e_int) (pg_sub (pv 0) e_int set_list)) (by decide))
    (b_cons (s_set (i := 3) c_Ldraw.nd rfl (Or.inl rfl) (by decide) (e_op op_mod od_mod (e_op or_add od_add (e_op or_add od_add (e_op or_mul od_mul (e_ix1 or_ix od_ix (pv 0) (by decide) e_int (fun _ _ => rfl)) (e_ix1 or_ix od_ix (pv 0) (by decide) e_int (fun _ _ => rfl))) (e_op or_mul od_mul e_int (e_ix1 or_ix od_ix (pv 0) (by decide) e_int (fun _ _ => rfl)))) e_int) e_int))
    (b_cons (s_set (i := 3) c_Ldraw.nd rfl (Or.inl rfl) (by decide) (e_op op_mod od_mod (e_op or_add od_add (e_op or_mul od_mul (e_var (pv 3) (by decide)) (e_var (pv 3) (by decide))) (e_op or_mul od_mul e_int (e_var (pv 3) (by decide)))) e_int))
    (b_one (s_ret (e_op op_mod od_mod (e_op op_fdivW od_div (e_var (pv 3) (by decide)) e_int) (e_var (pv 1) (by decide))))))))))
def b_Lnet_of : Sm :=
    (mSeq (mParO 2 3 (mFnI 2 0 m_Ldraw (mCons (mRet (.int 4)) mNil)) (mSz mNil))
    (mSeq (mFor (mBind (mCons (mVar 1) mNil) fun ds => mOpt (rng1 ds)) (fName 4) (mSeq (mSetO 5 (mLc (mBind (mCons (mVar 1) mNil) fun ds => mOpt (rng1 ds)) (fName 6) (mB (mOp gEq (mFnI 2 0 m_Ldraw (mCons (mOp gIx (mOfL (mSz (mCons (mRet (.int 5)) (mCons (mRet (.int 4)) (mCons (mOp Mir.gMul (mRet (.int 2)) (mVar 1)) (mCons (mRet (.int 2)) mNil)))))) (mVar 2)) mNil)) (mRet (.int 0)))) (mVar 6) [6]))
    (mSeq (mIte (mB (mOp gEq (mVar 2) (mRet (.int 0)))) (mApp 5 (mOp gMod (mOp gAdd (mVar 4) (mRet (.int 1))) (mVar 1))) mNx)
    (mSeq (mIte (mAnd (mB (mOp gEq (mVar 2) (mRet (.int 2)))) (mB (mOp gGt (mVar 4) (mRet (.int 0))))) (mApp 5 (mFnI 2 0 m_Ldraw (mCons (mVar 4) mNil))) mNx)
    (mApp 3 (mCall gTupleOf (mCons (mOfL (mBind (mOfL (mLcO 200 5 (fName 6) (mB (mOp gNe (mVar 6) (mVar 4))) (mVar 6) [6])) fun d => mOpt (gSset d))) mNil)))))))
    (mRt (mCall1 gTupleOf 3))))
def m_Lnet_of : List Da → List Da → Option (Da × List Da) := runI 7 b_Lnet_of
theorem ok_Lnet_of (T : Txt K mg) : FnG P w K mg base 2 T.a_Lnet_of T.d_Lnet_of ["_law_supply", "_law_size"] (spI K 2 m_Lnet_of) :=
  fnI (k := 1) (N := n_Lnet_of) (ow := [0, 3, 5]) (fb := b_Lnet_of) T.F_Lnet_of c_Lnet_of (by decide) (by decide) (by decide) fun cdv A outer s H E hr hgd =>
    (b_cons (s_parOT (ps_asg (pe_tup (pa_cons (e_callI (ok_Ldraw T) (hr.mono (by decide)) hgd (by rfl) T.g_Ldraw T.F_Ldraw.kp T.B_Ldraw (by decide) (pv 0) (a_cons e_int a_nil)) (pa_cons (l_lst a_nil) pa_nil))) (pg_tup rfl (pgs_cons (pg_name (i := 2) c_Lnet_of.nd rfl (by first | exact Or.inl rfl | exact Or.inr rfl)) (pgs_cons (pg_name (i := 3) c_Lnet_of.nd rfl (by first | exact Or.inl rfl | exact Or.inr rfl)) pgs_nil)))) (by decide) (by decide) (by decide))
    (b_cons (s_for (ts := [4]) PassesOwn.never rfl (i_rng1 (by rfl) T.z_range (a_cons (e_var (pv 1) (by decide)) a_nil)) (g_name (pg_name (i := 4) c_Lnet_of.nd rfl (by first | exact Or.inl rfl | exact Or.inr rfl)) (by decide)) (b_cons (s_lcsetO (ts := [6]) (ps_setLc (i := 5) (own := [("_law_other", 6)]) rfl c_Lnet_of.nd rfl rfl (sw_true rfl rfl rfl (by decide +kernel)) (i_rng1 (by rfl) T.z_range (a_cons (e_var (pv 1) (by decide)) a_nil)) (blkOk_by (N := n_Lnet_of) (sc := (defScope s_Lnet_of)) (own := [("_law_other", 6)]) (by decide +kernel)) (fun _ _ _ _ _ => (g_name (pg_name (i := 6) c_Lnet_of.nd rfl (by first | exact Or.inl rfl | exact Or.inr rfl)) (by decide))) (fun _ _ _ _ _ => (ts_one (t_cmp (or_eq hr.units) od_eq (e_callI (ok_Ldraw T) (hr.mono (by decide)) hgd (by rfl) T.g_Ldraw T.F_Ldraw.kp T.B_Ldraw (by decide) (pv 0) (a_cons (e_ix or_ix od_ix (e_fz (l_lst (a_cons e_int (a_cons e_int (a_cons (e_op or_mul od_mul e_int (e_var (pv 1) (by decide))) (a_cons e_int a_nil)))))) (e_var (pv 2) (by decide)) (fun _ _ => rfl)) a_nil)) e_int (nomark _)))) (fun _ _ _ _ _ => (e_var (pv 6) (by decide)))) (by decide) (by decide) (by decide) (by decide))
    (b_cons (s_if (t_cmp (or_eq hr.units) od_eq (e_var (pv 2) (by decide)) e_int (nomark _)) (b_one (s_app (pe_bm PySem.F.plainAttrs_list PySem.F.slot_list_append PySem.F.type_list_append mt_append (pv 5) (pa_cons (e_op op_mod od_mod (e_op or_add od_add (e_var (pv 4) (by decide)) e_int) (e_var (pv 1) (by decide))) pa_nil)) (by decide))) b_nil)
    (b_cons (s_if (t_w (w_and (t_cmp (or_eq hr.units) od_eq (e_var (pv 2) (by decide)) e_int (nomark _)) (w_and1 (t_cmp op_gt od_c (e_var (pv 4) (by decide)) e_int (nomark _))))) (b_one (s_app (pe_bm PySem.F.plainAttrs_list PySem.F.slot_list_append PySem.F.type_list_append mt_append (pv 5) (pa_cons (e_callI (ok_Ldraw T) (hr.mono (by decide)) hgd (by rfl) T.g_Ldraw T.F_Ldraw.kp T.B_Ldraw (by decide) (pv 0) (a_cons (e_var (pv 4) (by decide)) a_nil)) pa_nil)) (by decide))) b_nil)
    (b_one (s_app (pe_bm PySem.F.plainAttrs_list PySem.F.slot_list_append PySem.F.type_list_append mt_append (pv 3) (pa_cons (e_callTy call_tuple_of cd_tuple (by rfl) T.z_tuple bt_tuple (a_cons (e_fz (l_sset rfl (by rfl) T.z_set (by rfl) T.z_sorted (e_fz (l_lcO 200 (own := [("_law_other", 6)]) (ts := [6]) rfl c_Lnet_of.nd (pv 5) (by decide) (blkOk_by (N := n_Lnet_of) (sc := (defScope s_Lnet_of)) (own := [("_law_other", 6)]) (by decide +kernel)) (fun _ _ _ _ _ => (g_name (pg_name (i := 6) c_Lnet_of.nd rfl (by first | exact Or.inl rfl | exact Or.inr rfl)) (by decide))) (fun _ _ _ _ _ => (ts_one (t_cmp (or_ne hr.units) od_ne (e_var (pv 6) (by decide)) (e_var (pv 4) (by decide)) (nomark _)))) (fun _ _ _ _ _ => (e_var (pv 6) (by decide))) (by decide) (by decide))))) a_nil)) pa_nil)) (by decide)))))))
    (b_one (s_ret (e_callTy1 call_tuple_of cd_tuple (by rfl) T.z_tuple bt_tuple (pv 3) (by decide))))))
def b_Lsets : Sm :=
    (mSeq (mSet 1 (mOfL (mSz (mCons (mTup mNil) mNil))))
    (mSeq (mFor (mBind (mVar 0) fun d => mOpt (asS d)) (fName 2) (mSet 1 (mOp gAdd (mVar 1) (mOfL (mLc (mBind (mVar 1) fun d => mOpt (asS d)) (fName 3) (mRet true) (mOp gAdd (mVar 3) (mTup (mCons (mVar 2) mNil))) [3])))))
    (mRt (mCall gSortR (mCons (mVar 1) mNil)))))
def m_Lsets : List Da → Option Da := runP 4 b_Lsets
theorem ok_Lsets (T : Txt K mg) : FnG P w K mg base 1 T.a_Lsets T.d_Lsets ["_law_things"] (spP K 1 m_Lsets) :=
  fnP (k := 0) (N := n_Lsets) (ow := []) (fb := b_Lsets) T.F_Lsets c_Lsets (by decide) fun cdv A outer s H E hr hgd =>
    (b_cons (s_set (i := 1) c_Lsets.nd rfl (Or.inl rfl) (by decide) (e_fz (l_lst (a_cons (e_tup a_nil) a_nil))))
    (b_cons (s_for (ts := [2]) PassesOwn.never rfl (i_seq (e_var (pv 0) (by decide))) (g_name (pg_name (i := 2) c_Lsets.nd rfl (by first | exact Or.inl rfl | exact Or.inr rfl)) (by decide)) (b_one (s_set (i := 1) c_Lsets.nd rfl (Or.inl rfl) (by decide) (e_op or_add od_add (e_var (pv 1) (by decide)) (e_fz (l_lc (own := [("_law_row", 3)]) (ts := [3]) rfl c_Lsets.nd (i_seq (e_var (pv 1) (by decide))) (blkOk_by (N := n_Lsets) (sc := (defScope s_Lsets)) (own := [("_law_row", 3)]) (by decide +kernel)) (fun _ _ _ _ _ => (g_name (pg_name (i := 3) c_Lsets.nd rfl (by first | exact Or.inl rfl | exact Or.inr rfl)) (by decide))) (fun _ _ _ _ _ => ts_nil) (fun _ _ _ _ _ => (e_op or_add od_add (e_var (pv 3) (by decide)) (e_tup (a_cons (e_var (pv 2) (by decide)) a_nil)))) (by decide) (by decide)))))))
    (b_one (s_ret (e_callB (cr_sortR (un65 hr)) cd_sortR (by rfl) T.z_sorted bt_sorted (a_cons (e_var (pv 1) (by decide)) a_nil))))))
def b_Lreaches : Sm :=
    (mSeq (mSet 1 (mOfL (mLc (mBind (mCons (mVar 0) mNil) fun ds => mOpt (enS ds)) (fTup 2 (fCons (fName 7) (fCons (fName 8) fNil))) (mRet true) (mOp gAdd (mOfL (mSz (mCons (mVar 7) mNil))) (mOfL (mBind (mCons (mVar 8) mNil) fun ds => mOpt (gListOf ds)))) [7, 8])))
    (mSeq (mFor (mBind (mCons (mCall gLen (mCons (mVar 0) mNil)) mNil) fun ds => mOpt (rng1 ds)) (fName 2) (mSeq (mSetO 3 (mSz mNil))
    (mSeq (mFor (mBind (mVar 1) fun d => mOpt (asS d)) (fName 4) (mSeq (mSetO 5 (mSz mNil))
    (mSeq (mFor (mBind (mVar 4) fun d => mOpt (asS d)) (fName 6) (mExtE 5 (mOp gIx (mVar 1) (mVar 6))))
    (mApp 3 (mOfL (mBind (mMv 5) fun d => mOpt (gSset2 d)))))))
    (mSet 1 (mMv 3)))))
    (mRt (mVar 1))))
def m_Lreaches : List Da → Option Da := runP 9 b_Lreaches
theorem ok_Lreaches (T : Txt K mg) : FnG P w K mg base 1 T.a_Lreaches T.d_Lreaches ["_law_net"] (spP K 1 m_Lreaches) :=
  fnP (k := 0) (N := n_Lreaches) (ow := [3, 5]) (fb := b_Lreaches) T.F_Lreaches c_Lreaches (by decide) fun cdv A outer s H E hr hgd =>
    (b_cons (s_lcset (ts := ([7] ++ ([8] ++ []))) (ps_setLc (i := 1) (own := [("_law_component", 7), ("_law_needs", 8)]) rfl c_Lreaches.nd rfl rfl (sw_true rfl rfl rfl (by decide +kernel)) (i_enumS (by rfl) T.z_enumerate (a_cons (e_var (pv 0) (by decide)) a_nil)) (blkOk_by (N := n_Lreaches) (sc := (defScope s_Lreaches)) (own := [("_law_component", 7), ("_law_needs", 8)]) (by decide +kernel)) (fun _ _ _ _ _ => (g_tup rfl (gs_cons (g_name (pg_name (i := 7) c_Lreaches.nd rfl (by first | exact Or.inl rfl | exact Or.inr rfl)) (by decide)) (gs_cons (g_name (pg_name (i := 8) c_Lreaches.nd rfl (by first | exact Or.inl rfl | exact Or.inr rfl)) (by decide)) gs_nil)))) (fun _ _ _ _ _ => ts_nil) (fun _ _ _ _ _ => (e_op or_add od_add (e_fz (l_lst (a_cons (e_var (pv 7) (by decide)) a_nil))) (e_fz (l_list (by rfl) T.z_list (a_cons (e_var (pv 8) (by decide)) a_nil)))))) (by decide) (by decide) (by decide))
    (b_cons (s_for (ts := [2]) PassesOwn.never rfl (i_rng1 (by rfl) T.z_range (a_cons (e_callB call_len_seq cd_len (by rfl) T.z_len bt_len (a_cons (e_var (pv 0) (by decide)) a_nil)) a_nil)) (g_name (pg_name (i := 2) c_Lreaches.nd rfl (by first | exact Or.inl rfl | exact Or.inr rfl)) (by decide)) (b_cons (s_setO (i := 3) c_Lreaches.nd rfl (Or.inl rfl) (by decide) (by decide) (l_lst a_nil))
    (b_cons (s_for (ts := [4]) PassesOwn.never rfl (i_seq (e_var (pv 1) (by decide))) (g_name (pg_name (i := 4) c_Lreaches.nd rfl (by first | exact Or.inl rfl | exact Or.inr rfl)) (by decide)) (b_cons (s_setO (i := 5) c_Lreaches.nd rfl (Or.inl rfl) (by decide) (by decide) (l_lst a_nil))
    (b_cons (s_for (ts := [6]) PassesOwn.never rfl (i_seq (e_var (pv 4) (by decide))) (g_name (pg_name (i := 6) c_Lreaches.nd rfl (by first | exact Or.inl rfl | exact Or.inr rfl)) (by decide)) (b_one (s_extE (pe_bm PySem.F.plainAttrs_list PySem.F.slot_list_extend PySem.F.type_list_extend mt_extA (pv 5) (pa_cons (e_ix or_ix od_ix (e_var (pv 1) (by decide)) (e_var (pv 6) (by decide)) (fun _ _ => rfl)) pa_nil)) (by decide))))
    (b_one (s_app (pe_bm PySem.F.plainAttrs_list PySem.F.slot_list_append PySem.F.type_list_append mt_append (pv 3) (pa_cons (e_fz (l_sset2 rfl (by rfl) T.z_set (by rfl) T.z_sorted (e_mv (pv 5) (by decide) (by decide)))) pa_nil)) (by decide))))))
    (b_one (s_set (i := 1) c_Lreaches.nd rfl (Or.inl rfl) (by decide) (e_mv (pv 3) (by decide) (by decide)))))))
    (b_one (s_ret (e_var (pv 1) (by decide))))))
def b_Lmeets : Sm :=
    (mRt (mOp gNe (mOfL (mLc (mBind (mVar 0) fun d => mOpt (asS d)) (fName 2) (mB (mOp gIn (mVar 2) (mVar 1))) (mRet (.int 1)) [2])) (mOfL (mSz mNil))))
def m_Lmeets : List Da → Option Da := runP 3 b_Lmeets
theorem ok_Lmeets (T : Txt K mg) : FnG P w K mg base 1 T.a_Lmeets T.d_Lmeets ["_law_one", "_law_other"] (spP K 2 m_Lmeets) :=
  fnP (k := 0) (N := n_Lmeets) (ow := []) (fb := b_Lmeets) T.F_Lmeets c_Lmeets (by decide) fun cdv A outer s H E hr hgd =>
    (b_one (s_ret (e_cmp (or_ne hr.units) od_ne (e_fz (l_lc (own := [("_law_thing", 2)]) (ts := [2]) rfl c_Lmeets.nd (i_seq (e_var (pv 0) (by decide))) (blkOk_by (N := n_Lmeets) (sc := (defScope s_Lmeets)) (own := [("_law_thing", 2)]) (by decide +kernel)) (fun _ _ _ _ _ => (g_name (pg_name (i := 2) c_Lmeets.nd rfl (by first | exact Or.inl rfl | exact Or.inr rfl)) (by decide))) (fun _ _ _ _ _ => (ts_one (t_cmp (or_in (un65 hr)) od_in (e_var (pv 2) (by decide)) (e_var (pv 1) (by decide)) (by rfl)))) (fun _ _ _ _ _ => e_int) (by decide) (by decide))) (e_fz (l_lst a_nil)) (nomark _))))
def b_Ltable : Sm :=
    (mSeq (mParO 1 2 (mFn 1 m_Lreaches (mCons (mVar 0) mNil)) (mSz mNil))
    (mSeq (mFor (mBind (mFn 1 m_Lsets (mCons (mOfL (mBind (mCall gLen (mCons (mVar 0) mNil)) fun d => mOpt (rgD d))) mNil)) fun d => mOpt (asS d)) (fName 3) (mApp 2 (mTup (mCons (mVar 3) (mCons (mOfL (mLc (mBind (mCons (mVar 1) mNil) fun ds => mOpt (enS ds)) (fTup 2 (fCons (fName 4) (fCons (fName 5) fNil))) (mTru (mFn 2 m_Lmeets (mCons (mVar 5) (mCons (mVar 3) mNil)))) (mVar 4) [4, 5])) mNil)))))
    (mRtO 2)))
def m_Ltable : List Da → Option Da := runP 6 b_Ltable
theorem ok_Ltable (T : Txt K mg) : FnG P w K mg base 2 T.a_Ltable T.d_Ltable ["_law_net"] (spP K 1 m_Ltable) :=
  fnP (k := 1) (N := n_Ltable) (ow := [2]) (fb := b_Ltable) T.F_Ltable c_Ltable (by decide) fun cdv A outer s H E hr hgd =>
    (b_cons (s_parO (ps_par (i := 1) (j := 2) rfl c_Ltable.nd rfl rfl (by decide) rfl rfl (pa_cons (e_call (ok_Lreaches T) (hr.mono (by decide)) hgd (by rfl) T.g_Lreaches T.F_Lreaches.kp T.B_Lreaches (a_cons (e_var (pv 0) (by decide)) a_nil)) (pa_cons (l_lst a_nil) pa_nil)) rfl) (by decide) (by decide) (by decide))
    (b_cons (s_for (ts := [3]) PassesOwn.never rfl (i_seq (e_call (ok_Lsets T) (hr.mono (by decide)) hgd (by rfl) T.g_Lsets T.F_Lsets.kp T.B_Lsets (a_cons (e_fz (l_listRg rfl (by rfl) T.z_list (by rfl) T.z_range (e_callB call_len_seq cd_len (by rfl) T.z_len bt_len (a_cons (e_var (pv 0) (by decide)) a_nil)))) a_nil))) (g_name (pg_name (i := 3) c_Ltable.nd rfl (by first | exact Or.inl rfl | exact Or.inr rfl)) (by decide)) (b_one (s_app (pe_bm PySem.F.plainAttrs_list PySem.F.slot_list_append PySem.F.type_list_append mt_append (pv 2) (pa_cons (e_tup (a_cons (e_var (pv 3) (by decide)) (a_cons (e_fz (l_lc (own := [("_law_component", 4), ("_law_own", 5)]) (ts := ([4] ++ ([5] ++ []))) rfl c_Ltable.nd (i_enumS (by rfl) T.z_enumerate (a_cons (e_var (pv 1) (by decide)) a_nil)) (blkOk_by (N := n_Ltable) (sc := (defScope s_Ltable)) (own := [("_law_component", 4), ("_law_own", 5)]) (by decide +kernel)) (fun _ _ _ _ _ => (g_tup rfl (gs_cons (g_name (pg_name (i := 4) c_Ltable.nd rfl (by first | exact Or.inl rfl | exact Or.inr rfl)) (by decide)) (gs_cons (g_name (pg_name (i := 5) c_Ltable.nd rfl (by first | exact Or.inl rfl | exact Or.inr rfl)) (by decide)) gs_nil)))) (fun _ _ _ _ _ => (ts_one (t_val (e_call (ok_Lmeets T) (hr.mono (by decide)) hgd (by rfl) T.g_Lmeets T.F_Lmeets.kp T.B_Lmeets (a_cons (e_var (pv 5) (by decide)) (a_cons (e_var (pv 3) (by decide)) a_nil)))))) (fun _ _ _ _ _ => (e_var (pv 4) (by decide))) (by decide) (by decide))) a_nil))) pa_nil)) (by decide))))
    (b_one (s_retO (i := 2) (pv 2) (by decide) (by decide)))))
noncomputable def b_Ldue : Sm :=
    (mCollT 2 5 5 (mBind (mVar 0) fun d => mOpt (asS d)) (fTup 2 (fCons (fName 3) (fCons (fName 4) fNil))) (mB (mOp gEq (mCall gLen (mCons (mVar 3) mNil)) (mRet (.int 1)))) (mOfL (mLc (mBind (mVar 1) fun d => mOpt (asS d)) (fName 6) (mB (mOp gIn (mVar 6) (mVar 4))) (mVar 6) [6])) (mTup mNil) (mVar 3) gAdd gSortD)
noncomputable def m_Ldue : List Da → Option Da := runP 7 b_Ldue
theorem ok_Ldue (T : Txt K mg) : FnG P w K mg base 1 T.a_Ldue T.d_Ldue ["_law_table_here", "_law_watched"] (spP K 2 m_Ldue) :=
  fnP (k := 0) (N := n_Ldue) (ow := []) (fb := b_Ldue) T.F_Ldue c_Ldue (by decide) fun cdv A outer s H E hr hgd =>
    (b_collT (j := 2) (jt := 5) (jk := 5) (vs := [5]) (ts := ([3] ++ ([4] ++ []))) (ps_set (i := 2) c_Ldue.nd rfl (Or.inr rfl) pe_dnewT) PassesOwn.never rfl (i_seq (e_var (pv 0) (by decide))) (g_tup rfl (gs_cons (g_name (pg_name (i := 3) c_Ldue.nd rfl (by first | exact Or.inl rfl | exact Or.inr rfl)) (by decide)) (gs_cons (g_name (pg_name (i := 4) c_Ldue.nd rfl (by first | exact Or.inl rfl | exact Or.inr rfl)) (by decide)) gs_nil))) (by decide) (by decide) (t_cmp (or_eq hr.units) od_eq (e_callB call_len_seq cd_len (by rfl) T.z_len bt_len (a_cons (e_var (pv 3) (by decide)) a_nil)) e_int (nomark _))
    (ps_set (i := 5) c_Ldue.nd rfl (Or.inl rfl) (pe_callTy call_tuple_of (by rfl) T.z_tuple bt_tuple (pa_cons (e_fz (l_lc (own := [("_law_one", 6)]) (ts := [6]) rfl c_Ldue.nd (i_seq (e_var (pv 1) (by decide))) (blkOk_by (N := n_Ldue) (sc := (defScope s_Ldue)) (own := [("_law_one", 6)]) (by decide +kernel)) (fun _ _ _ _ _ => (g_name (pg_name (i := 6) c_Ldue.nd rfl (by first | exact Or.inl rfl | exact Or.inr rfl)) (by decide))) (fun _ _ _ _ _ => (ts_one (t_cmp (or_in (un65 hr)) od_in (e_var (pv 6) (by decide)) (e_var (pv 4) (by decide)) (by rfl)))) (fun _ _ _ _ _ => (e_var (pv 6) (by decide))) (by decide) (by decide))) pa_nil))) od_add
    (ps_dput (hu65 hr) (pv 2) (pv 5) (pe_op or_add (pe_dget2 (hu65 hr) (pv 2) (pv 5) (e_tup a_nil) ⟨by rfl, by rfl, by rfl, by rfl⟩) (e_var (pv 3) (by decide))) (by rfl)) cd_sortD (by decide) (by decide)
    (ps_ret (pe_callTy call_tuple_of (by rfl) T.z_tuple bt_tuple (pa_cons (pe_callB (cr_sortD (un65 hr)) (by rfl) T.z_sorted bt_sorted (pa_cons (pe_lc (own := [("_law_told", 5)]) rfl c_Ldue.nd (pi_keys (pv 2)) (blkOk_by (N := n_Ldue) (sc := (defScope s_Ldue)) (own := [("_law_told", 5)]) (by decide +kernel)) (fun _ _ _ _ _ => pg_name (i := 5) c_Ldue.nd rfl (by first | exact Or.inl rfl | exact Or.inr rfl)) (fun _ _ _ _ _ => pts_nil) (fun _ _ _ _ _ => pe_dget (hu65 hr) (pv 2) (pv 5) (fun _ _ => rfl)) (by intro _; rfl)) pa_nil)) pa_nil))))
def b_near_bits : Sm :=
    (mSeq (mSetO 1 (mSz mNil))
    (mSeq (mIte (mOr (mNot (mTru (mUn (gIsi "tuple") (mVar 0)))) (mB (mOp gGt (mCall gLen (mCons (mVar 0) mNil)) (mRet (.int 8))))) (mRtO 1) mNx)
    (mSeq (mSet 2 (mRet (.int 1)))
    (mSeq (mSet 3 (mOp gShl (mRet (.int 1)) (mCall gLen (mCons (mVar 0) mNil))))
    (mSeq (mFor (mBind (mVar 0) fun d => mOpt (asS d)) (fName 4) (mSeq (mIte (mNot (mTru (mUn (gIsi "tuple") (mVar 4)))) (mRt (mOfL (mSz mNil))) mNx)
    (mSeq (mSet 5 (mRet (.int 0)))
    (mSeq (mIte (mTru (mVar 4)) (mSeq (mFor (mBind (mVar 4) fun d => mOpt (asS d)) (fName 6) (mIte (mOr (mB (mOp gIsX (mVar 6) (mRet (.bool true)))) (mOr (mB (mOp gIsX (mVar 6) (mRet (.bool false)))) (mNot (mTru (mUn (gIsi "int") (mVar 6)))))) (mRt (mOfL (mSz mNil))) mNx))
    (mSeq (mSet 5 (mOp (gBits HdB.PS) (mVar 4) (mVar 3)))
    (mIte (mOr (mB (mOp gGe (mVar 5) (mVar 3))) (mTru (mOp gBAnd (mVar 5) (mVar 2)))) (mRt (mOfL (mSz mNil))) mNx))) mNx)
    (mSeq (mApp 1 (mOp gBOr (mVar 5) (mVar 2)))
    (mSet 2 (mOp gShl (mVar 2) (mRet (.int 1)))))))))
    (mRtO 1))))))
def m_near_bits : List Da → Option Da := runP 7 b_near_bits
theorem ok_near_bits (T : Txt K mg) : FnG P w K mg base 1 T.a_near_bits T.d_near_bits ["thing"] (spP K 1 m_near_bits) :=
  fnP (k := 0) (N := n_near_bits) (ow := [1]) (fb := b_near_bits) T.F_near_bits c_near_bits (by decide) fun cdv A outer s H E hr hgd =>
    (b_cons (s_setO (i := 1) c_near_bits.nd rfl (Or.inl rfl) (by decide) (by decide) (l_lst a_nil))
    (b_cons (s_if (t_w (w_or (t_not (t_val (e_isi io_tuple (by rfl) T.z_isinstance (pe_bltn (by rfl) T.z_tuple bt_tuple rfl) (e_var (pv 0) (by decide))))) (w_or1 (t_cmp op_gt od_c (e_callB call_len_seq cd_len (by rfl) T.z_len bt_len (a_cons (e_var (pv 0) (by decide)) a_nil)) (e_c (pe_glob (v := .int 8) (by rfl) T.g_MOST_COMPONENTS ⟨_, rfl⟩) (fun _ _ => .int 8)) (nomark _))))) (b_one (s_retO (i := 1) (pv 1) (by decide) (by decide))) b_nil)
    (b_cons (s_set (i := 2) c_near_bits.nd rfl (Or.inl rfl) (by decide) e_int)
    (b_cons (s_set (i := 3) c_near_bits.nd rfl (Or.inl rfl) (by decide) (e_op op_shl od_shl e_int (e_callB call_len_seq cd_len (by rfl) T.z_len bt_len (a_cons (e_var (pv 0) (by decide)) a_nil))))
    (b_cons (s_for (ts := [4]) PassesOwn.never rfl (i_seq (e_var (pv 0) (by decide))) (g_name (pg_name (i := 4) c_near_bits.nd rfl (by first | exact Or.inl rfl | exact Or.inr rfl)) (by decide)) (b_cons (s_if (t_not (t_val (e_isi io_tuple (by rfl) T.z_isinstance (pe_bltn (by rfl) T.z_tuple bt_tuple rfl) (e_var (pv 4) (by decide))))) (b_one (s_ret (e_fz (l_lst a_nil)))) b_nil)
    (b_cons (s_set (i := 5) c_near_bits.nd rfl (Or.inl rfl) (by decide) e_int)
    (b_cons (s_if (t_val (e_var (pv 4) (by decide))) (b_cons (s_for (ts := [6]) PassesOwn.never rfl (i_seq (e_var (pv 4) (by decide))) (g_name (pg_name (i := 6) c_near_bits.nd rfl (by first | exact Or.inl rfl | exact Or.inr rfl)) (by decide)) (b_one (s_if (t_w (w_or (t_cmp or_isX od_isX (e_var (pv 6) (by decide)) e_bl (nomark _)) (w_or (t_cmp or_isX od_isX (e_var (pv 6) (by decide)) e_bl (nomark _)) (w_or1 (t_not (t_val (e_isi io_int (by rfl) T.z_isinstance (pe_bltn (by rfl) T.z_int bt_int rfl) (e_var (pv 6) (by decide))))))))) (b_one (s_ret (e_fz (l_lst a_nil)))) b_nil)))
    (b_cons (s_set (i := 5) c_near_bits.nd rfl (Or.inl rfl) (by decide) (e_getB (hu65 hr) T.k_BITS (by rfl) T.g_BITS (e_var (pv 4) (by decide)) (e_var (pv 3) (by decide)) ⟨by rfl, by rfl, by rfl, by rfl⟩))
    (b_one (s_if (t_w (w_or (t_cmp op_ge od_c (e_var (pv 5) (by decide)) (e_var (pv 3) (by decide)) (nomark _)) (w_or1 (t_val (e_op op_and od_band (e_var (pv 5) (by decide)) (e_var (pv 2) (by decide))))))) (b_one (s_ret (e_fz (l_lst a_nil)))) b_nil)))) b_nil)
    (b_cons (s_app (pe_bm PySem.F.plainAttrs_list PySem.F.slot_list_append PySem.F.type_list_append mt_append (pv 1) (pa_cons (e_op op_or od_bor (e_var (pv 5) (by decide)) (e_var (pv 2) (by decide))) pa_nil)) (by decide))
    (b_one (s_set (i := 2) c_near_bits.nd rfl (Or.inl rfl) (by decide) (e_op op_shl od_shl (e_var (pv 2) (by decide)) e_int))))))))
    (b_one (s_retO (i := 1) (pv 1) (by decide) (by decide))))))))
def b_nears : Sm :=
    (mSeq (mSet 1 (mFn 1 m_near_bits (mCons (mVar 0) mNil)))
    (mSeq (mIte (mNot (mTru (mVar 1))) mNever mNx)
    (mRt (mVar 1))))
def m_nears : List Da → Option Da := runP 2 b_nears
theorem ok_nears (T : Txt K mg) : FnG P w K mg base 2 T.a_nears T.d_nears ["net"] (spP K 1 m_nears) :=
  fnP (k := 1) (N := n_nears) (ow := []) (fb := b_nears) T.F_nears c_nears (by decide) fun cdv A outer s H E hr hgd =>
    (b_cons (s_set (i := 1) c_nears.nd rfl (Or.inl rfl) (by decide) (e_call (ok_near_bits T) (hr.mono (by decide)) hgd (by rfl) T.g_near_bits T.F_near_bits.kp T.B_near_bits (a_cons (e_var (pv 0) (by decide)) a_nil)))
    (b_cons (s_if (t_not (t_val (e_var (pv 1) (by decide)))) (b_one s_never) b_nil)
    (b_one (s_ret (e_var (pv 1) (by decide))))))
def b_bits_of : Sm :=
    (mSeq (mIte (mNot (mTru (mUn (gIsi "tuple") (mVar 0)))) (mRt (mUn gNeg (mRet (.int 1)))) mNx)
    (mSeq (mFor (mBind (mVar 0) fun d => mOpt (asS d)) (fName 2) (mIte (mOr (mB (mOp gIsX (mVar 2) (mRet (.bool true)))) (mOr (mB (mOp gIsX (mVar 2) (mRet (.bool false)))) (mNot (mTru (mUn (gIsi "int") (mVar 2)))))) (mRt (mUn gNeg (mRet (.int 1)))) mNx))
    (mSeq (mSet 3 (mOp (gBits HdB.PS) (mVar 0) (mUn gNeg (mRet (.int 1)))))
    (mSeq (mIte (mTru (mOp gShr (mVar 3) (mVar 1))) (mRt (mUn gNeg (mRet (.int 1)))) mNx)
    (mRt (mVar 3))))))
def m_bits_of : List Da → Option Da := runP 4 b_bits_of
theorem ok_bits_of (T : Txt K mg) : FnG P w K mg base 1 T.a_bits_of T.d_bits_of ["thing", "many"] (spP K 2 m_bits_of) :=
  fnP (k := 0) (N := n_bits_of) (ow := []) (fb := b_bits_of) T.F_bits_of c_bits_of (by decide) fun cdv A outer s H E hr hgd =>
    (b_cons (s_if (t_not (t_val (e_isi io_tuple (by rfl) T.z_isinstance (pe_bltn (by rfl) T.z_tuple bt_tuple rfl) (e_var (pv 0) (by decide))))) (b_one (s_ret (e_un un_neg od_neg e_int))) b_nil)
    (b_cons (s_for (ts := [2]) PassesOwn.never rfl (i_seq (e_var (pv 0) (by decide))) (g_name (pg_name (i := 2) c_bits_of.nd rfl (by first | exact Or.inl rfl | exact Or.inr rfl)) (by decide)) (b_one (s_if (t_w (w_or (t_cmp or_isX od_isX (e_var (pv 2) (by decide)) e_bl (nomark _)) (w_or (t_cmp or_isX od_isX (e_var (pv 2) (by decide)) e_bl (nomark _)) (w_or1 (t_not (t_val (e_isi io_int (by rfl) T.z_isinstance (pe_bltn (by rfl) T.z_int bt_int rfl) (e_var (pv 2) (by decide))))))))) (b_one (s_ret (e_un un_neg od_neg e_int))) b_nil)))
    (b_cons (s_set (i := 3) c_bits_of.nd rfl (Or.inl rfl) (by decide) (e_getB (hu65 hr) T.k_BITS (by rfl) T.g_BITS (e_var (pv 0) (by decide)) (e_un un_neg od_neg e_int) ⟨by rfl, by rfl, by rfl, by rfl⟩))
    (b_cons (s_if (t_val (e_op op_shr od_shr (e_var (pv 3) (by decide)) (e_var (pv 1) (by decide)))) (b_one (s_ret (e_un un_neg od_neg e_int))) b_nil)
    (b_one (s_ret (e_var (pv 3) (by decide))))))))
def b_checked_bits : Sm :=
    (mSeq (mSet 2 (mFn 2 m_bits_of (mCons (mVar 0) (mCons (mVar 1) mNil))))
    (mSeq (mIte (mB (mOp gLt (mVar 2) (mRet (.int 0)))) mNever mNx)
    (mRt (mVar 2))))
def m_checked_bits : List Da → Option Da := runP 3 b_checked_bits
theorem ok_checked_bits (T : Txt K mg) : FnG P w K mg base 2 T.a_checked_bits T.d_checked_bits ["chosen", "many"] (spP K 2 m_checked_bits) :=
  fnP (k := 1) (N := n_checked_bits) (ow := []) (fb := b_checked_bits) T.F_checked_bits c_checked_bits (by decide) fun cdv A outer s H E hr hgd =>
    (b_cons (s_set (i := 2) c_checked_bits.nd rfl (Or.inl rfl) (by decide) (e_call (ok_bits_of T) (hr.mono (by decide)) hgd (by rfl) T.g_bits_of T.F_bits_of.kp T.B_bits_of (a_cons (e_var (pv 0) (by decide)) (a_cons (e_var (pv 1) (by decide)) a_nil))))
    (b_cons (s_if (t_cmp op_lt od_c (e_var (pv 2) (by decide)) e_int (nomark _)) (b_one s_never) b_nil)
    (b_one (s_ret (e_var (pv 2) (by decide))))))
def b_heard_bits : Sm :=
    (mSeq (mSet 2 (mVar 1))
    (mSeq (mSet 3 (mUn gNeg (mRet (.int 1))))
    (mSeq (mWhile (mB (mOp gNe (mVar 2) (mVar 3))) (mSeq (mSet 3 (mVar 2))
    (mSeq (mSet 4 (mRet (.int 1)))
    (mFor (mBind (mVar 0) fun d => mOpt (asS d)) (fName 5) (mSeq (mIte (mTru (mOp gBAnd (mVar 5) (mVar 2))) (mSet 2 (mOp gBOr (mVar 2) (mVar 4))) mNx)
    (mSet 4 (mOp gShl (mVar 4) (mRet (.int 1)))))))) 200)
    (mRt (mVar 2)))))
def m_heard_bits : List Da → Option Da := runP 6 b_heard_bits
theorem ok_heard_bits (T : Txt K mg) : FnG P w K mg base 1 T.a_heard_bits T.d_heard_bits ["near", "broken"] (spP K 2 m_heard_bits) :=
  fnP (k := 0) (N := n_heard_bits) (ow := []) (fb := b_heard_bits) T.F_heard_bits c_heard_bits (by decide) fun cdv A outer s H E hr hgd =>
    (b_cons (s_set (i := 2) c_heard_bits.nd rfl (Or.inl rfl) (by decide) (e_var (pv 1) (by decide)))
    (b_cons (s_set (i := 3) c_heard_bits.nd rfl (Or.inl rfl) (by decide) (e_un un_neg od_neg e_int))
    (b_cons (s_while 200 PassesOwn.never (t_cmp (or_ne hr.units) od_ne (e_var (pv 2) (by decide)) (e_var (pv 3) (by decide)) (nomark _)) (b_cons (s_set (i := 3) c_heard_bits.nd rfl (Or.inl rfl) (by decide) (e_var (pv 2) (by decide)))
    (b_cons (s_set (i := 4) c_heard_bits.nd rfl (Or.inl rfl) (by decide) e_int)
    (b_one (s_for (ts := [5]) PassesOwn.never rfl (i_seq (e_var (pv 0) (by decide))) (g_name (pg_name (i := 5) c_heard_bits.nd rfl (by first | exact Or.inl rfl | exact Or.inr rfl)) (by decide)) (b_cons (s_if (t_val (e_op op_and od_band (e_var (pv 5) (by decide)) (e_var (pv 2) (by decide)))) (b_one (s_set (i := 2) c_heard_bits.nd rfl (Or.inl rfl) (by decide) (e_op op_or od_bor (e_var (pv 2) (by decide)) (e_var (pv 4) (by decide))))) b_nil)
    (b_one (s_set (i := 4) c_heard_bits.nd rfl (Or.inl rfl) (by decide) (e_op op_shl od_shl (e_var (pv 4) (by decide)) e_int)))))))))
    (b_one (s_ret (e_var (pv 2) (by decide)))))))
def b_groups : Sm :=
    (mSeq (mSet 2 (mFn 1 m_nears (mCons (mVar 0) mNil)))
    (mSeq (mSet 3 (mFn 2 m_checked_bits (mCons (mVar 1) (mCons (mCall gLen (mCons (mVar 2) mNil)) mNil))))
    (mSeq (mColl 4 (mBind (mCons (mCall gLen (mCons (mVar 2) mNil)) mNil) fun ds => mOpt (rng1 ds)) (fName 5) (mOp gBAnd (mFn 2 m_heard_bits (mCons (mVar 2) (mCons (mOp gShl (mRet (.int 1)) (mVar 5)) mNil))) (mVar 3)) (mVar 5))
    (mRt (mCall gTupleOf (mCons (mOfL (mLc (mBind (mVar 4) fun d => mOpt (valsQ d)) (fName 6) (mRet true) (mCall gTupleOf (mCons (mVar 6) mNil)) [6])) mNil))))))
def m_groups : List Da → Option Da := runP 7 b_groups
theorem ok_groups (T : Txt K mg) : FnG P w K mg base 3 T.a_groups T.d_groups ["net", "watched"] (spP K 2 m_groups) :=
  fnP (k := 2) (N := n_groups) (ow := []) (fb := b_groups) T.F_groups c_groups (by decide) fun cdv A outer s H E hr hgd =>
    (b_cons (s_set (i := 2) c_groups.nd rfl (Or.inl rfl) (by decide) (e_call (ok_nears T) (hr.mono (by decide)) hgd (by rfl) T.g_nears T.F_nears.kp T.B_nears (a_cons (e_var (pv 0) (by decide)) a_nil)))
    (b_cons (s_set (i := 3) c_groups.nd rfl (Or.inl rfl) (by decide) (e_call (ok_checked_bits T) (hr.mono (by decide)) hgd (by rfl) T.g_checked_bits T.F_checked_bits.kp T.B_checked_bits (a_cons (e_var (pv 1) (by decide)) (a_cons (e_callB call_len_seq cd_len (by rfl) T.z_len bt_len (a_cons (e_var (pv 2) (by decide)) a_nil)) a_nil))))
    (b_coll (j := 4) (ts := [5]) (ps_set (i := 4) c_groups.nd rfl (Or.inl rfl) pe_dnewK) PassesOwn.never rfl (i_rng1 (by rfl) T.z_range (a_cons (e_callB call_len_seq cd_len (by rfl) T.z_len bt_len (a_cons (e_var (pv 2) (by decide)) a_nil)) a_nil)) (g_name (pg_name (i := 5) c_groups.nd rfl (by first | exact Or.inl rfl | exact Or.inr rfl)) (by decide)) (by decide) (ps_expr (pe_bm PySem.F.plainAttrs_list PySem.F.slot_list_append PySem.F.type_list_append mt_append (pe_bm PySem.F.plainAttrs_dict PySem.F.slot_dict_setdefault PySem.F.type_dict_setdefault mt_setdefault (pv 4) (pa_cons (e_op op_and od_band (e_call (ok_heard_bits T) (hr.mono (by decide)) hgd (by rfl) T.g_heard_bits T.F_heard_bits.kp T.B_heard_bits (a_cons (e_var (pv 2) (by decide)) (a_cons (e_op op_shl od_shl e_int (e_var (pv 5) (by decide))) a_nil))) (e_var (pv 3) (by decide))) (pa_cons (l_lst a_nil) pa_nil))) (pa_cons (e_var (pv 5) (by decide)) pa_nil)))
    (b_one (s_ret (e_callTy call_tuple_of cd_tuple (by rfl) T.z_tuple bt_tuple (a_cons (e_fz (l_lc (own := [("members", 6)]) (ts := [6]) rfl c_groups.nd (i_vals (e_var (pv 4) (by decide))) (blkOk_by (N := n_groups) (sc := (defScope s_groups)) (own := [("members", 6)]) (by decide +kernel)) (fun _ _ _ _ _ => (g_name (pg_name (i := 6) c_groups.nd rfl (by first | exact Or.inl rfl | exact Or.inr rfl)) (by decide))) (fun _ _ _ _ _ => ts_nil) (fun _ _ _ _ _ => (e_callTy call_tuple_of cd_tuple (by rfl) T.z_tuple bt_tuple (a_cons (e_var (pv 6) (by decide)) a_nil))) (by decide) (by decide))) a_nil)))))))
def b_Lis_equal : Sm :=
    (mRt (mOp gEq (mCall gRepr (mCons (mVar 0) mNil)) (mCall gRepr (mCons (mVar 1) mNil))))
def m_Lis_equal : List Da → Option Da := runP 2 b_Lis_equal
theorem ok_Lis_equal (T : Txt K mg) : FnG P w K mg base 1 T.a_Lis_equal T.d_Lis_equal ["_law_actual", "_law_due_here"] (spP K 2 m_Lis_equal) :=
  fnP (k := 0) (N := n_Lis_equal) (ow := []) (fb := b_Lis_equal) T.F_Lis_equal c_Lis_equal (by decide) fun cdv A outer s H E hr hgd =>
    (b_one (s_ret (e_cmp (or_eq hr.units) od_eq (e_callB (call_repr hr hgd) cd_repr (by rfl) T.z_repr bt_repr (a_cons (e_var (pv 0) (by decide)) a_nil)) (e_callB (call_repr hr hgd) cd_repr (by rfl) T.z_repr bt_repr (a_cons (e_var (pv 1) (by decide)) a_nil)) (nomark _))))
noncomputable def b_law : Sm :=
    (mSeq (mFor (mBind (mCons (mCall gMax2 (mCons (mRet (.int 1)) (mCons (mCall gMin2 (mCons (mCall gLen (mCons (mVar 0) mNil)) (mCons (mRet (.int 3)) mNil))) mNil))) mNil) fun ds => mOpt (rng1 ds)) (fName 1) (mSeq (mSetO 2 (mFnL 1 m_Lsource (mCons (mFn 2 m_Lcell (mCons (mVar 0) (mCons (mVar 1) mNil))) mNil)))
    (mFor (mBind (mCons (mRet (.int 5)) mNil) fun ds => mOpt (rng1 ds)) (fName 3) (mSeq (mSet 4 (mFnI 2 2 m_Lnet_of (mCons (mOp gAdd (mRet (.int 1)) (mFnI 2 2 m_Ldraw (mCons (mRet (.int 8)) mNil))) mNil)))
    (mSeq (mSet 5 (mFn 1 m_Ltable (mCons (mVar 4) mNil)))
    (mSeq (mSet 6 (mCall gTupleOf (mCons (mOfL (mLc (mBind (mCons (mCall gLen (mCons (mVar 4) mNil)) mNil) fun ds => mOpt (rng1 ds)) (fName 11) (mB (mOp gEq (mFnI 2 2 m_Ldraw (mCons (mRet (.int 2)) mNil)) (mRet (.int 0)))) (mVar 11) [11])) mNil)))
    (mFor (mBind (mTup (mCons (mVar 6) (mCons (mTup mNil) (mCons (mBind (mCall gLen (mCons (mVar 4) mNil)) fun d => mOpt ((rgD d).map .tuple)) mNil)))) fun d => mOpt (asS d)) (fName 7) (mSeq (mPar 8 9 (mCons (mCall gRepr (mCons (mTup (mCons (mVar 4) (mCons (mVar 7) mNil))) mNil)) (mCons (mFn 2 m_Ldue (mCons (mVar 5) (mCons (mVar 7) mNil))) mNil)))
    (mSeq (mSet 10 (mOfL (mSz (mCons (mFn 2 m_groups (mCons (mVar 4) (mCons (mVar 7) mNil))) (mCons (mFn 2 m_groups (mCons (mVar 4) (mCons (mVar 7) mNil))) mNil)))))
    (mIte (mOr (mNot (mTru (mFn 2 m_Lis_equal (mCons (mVar 10) (mCons (mOfL (mSz (mCons (mVar 9) (mCons (mVar 9) mNil)))) mNil))))) (mB (mOp gNe (mCall gRepr (mCons (mTup (mCons (mVar 4) (mCons (mVar 7) mNil))) mNil)) (mVar 8)))) (mRt (mRet (.bool false))) mNx))))))))))
    (mRt (mRet (.bool true))))
noncomputable def m_law : List Da → Option Da := runP 12 b_law
theorem ok_law (T : Txt K mg) : FnG P w K mg base 4 T.a_law T.d_law ["_law_script"] (spP K 1 m_law) :=
  fnP (k := 3) (N := n_law) (ow := [2]) (fb := b_law) T.F_law c_law (by decide) fun cdv A outer s H E hr hgd =>
    (b_cons (s_for (ts := [1]) PassesOwn.never rfl (i_rng1 (by rfl) T.z_range (a_cons (e_callB (call_max2 rfl) cd_max2 (by rfl) T.z_max bt_max (a_cons e_int (a_cons (e_callB (call_min2 rfl) cd_min2 (by rfl) T.z_min bt_min (a_cons (e_callB call_len_seq cd_len (by rfl) T.z_len bt_len (a_cons (e_var (pv 0) (by decide)) a_nil)) (a_cons e_int a_nil))) a_nil))) a_nil)) (g_name (pg_name (i := 1) c_law.nd rfl (by first | exact Or.inl rfl | exact Or.inr rfl)) (by decide)) (b_cons (s_setO (i := 2) c_law.nd rfl (Or.inr rfl) (by decide) (by decide) (l_call (ok_Lsource T) (hr.mono (by decide)) hgd (by rfl) T.g_Lsource T.F_Lsource.kp T.B_Lsource (a_cons (e_call (ok_Lcell T) (hr.mono (by decide)) hgd (by rfl) T.g_Lcell T.F_Lcell.kp T.B_Lcell (a_cons (e_var (pv 0) (by decide)) (a_cons (e_var (pv 1) (by decide)) a_nil))) a_nil)))
    (b_one (s_for (ts := [3]) PassesOwn.never rfl (i_rng1 (by rfl) T.z_range (a_cons e_int a_nil)) (g_name (pg_name (i := 3) c_law.nd rfl (by first | exact Or.inl rfl | exact Or.inr rfl)) (by decide)) (b_cons (s_set (i := 4) c_law.nd rfl (Or.inl rfl) (by decide) (e_callI (ok_Lnet_of T) (hr.mono (by decide)) hgd (by rfl) T.g_Lnet_of T.F_Lnet_of.kp T.B_Lnet_of (by decide) (pv 2) (a_cons (e_op or_add od_add e_int (e_callI (ok_Ldraw T) (hr.mono (by decide)) hgd (by rfl) T.g_Ldraw T.F_Ldraw.kp T.B_Ldraw (by decide) (pv 2) (a_cons e_int a_nil))) a_nil)))
    (b_cons (s_set (i := 5) c_law.nd rfl (Or.inl rfl) (by decide) (e_call (ok_Ltable T) (hr.mono (by decide)) hgd (by rfl) T.g_Ltable T.F_Ltable.kp T.B_Ltable (a_cons (e_var (pv 4) (by decide)) a_nil)))
    (b_cons (s_set (i := 6) c_law.nd rfl (Or.inl rfl) (by decide) (e_callTy call_tuple_of cd_tuple (by rfl) T.z_tuple bt_tuple (a_cons (e_fz (l_lc (own := [("_law_one", 11)]) (ts := [11]) rfl c_law.nd (i_rng1 (by rfl) T.z_range (a_cons (e_callB call_len_seq cd_len (by rfl) T.z_len bt_len (a_cons (e_var (pv 4) (by decide)) a_nil)) a_nil)) (blkOk_by (N := n_law) (sc := (defScope s_law)) (own := [("_law_one", 11)]) (by decide +kernel)) (fun _ _ _ _ _ => (g_name (pg_name (i := 11) c_law.nd rfl (by first | exact Or.inl rfl | exact Or.inr rfl)) (by decide))) (fun _ _ _ _ _ => (ts_one (t_cmp (or_eq hr.units) od_eq (e_callI (ok_Ldraw T) (hr.mono (by decide)) hgd (by rfl) T.g_Ldraw T.F_Ldraw.kp T.B_Ldraw (by decide) (pv 2) (a_cons e_int a_nil)) e_int (nomark _)))) (fun _ _ _ _ _ => (e_var (pv 11) (by decide))) (by decide) (by decide))) a_nil)))
    (b_one (s_for (ts := [7]) PassesOwn.never rfl (i_seq (e_tup (a_cons (e_var (pv 6) (by decide)) (a_cons (e_tup a_nil) (a_cons (e_tupRg rfl (by rfl) T.z_tuple (by rfl) T.z_range (e_callB call_len_seq cd_len (by rfl) T.z_len bt_len (a_cons (e_var (pv 4) (by decide)) a_nil))) a_nil))))) (g_name (pg_name (i := 7) c_law.nd rfl (by first | exact Or.inl rfl | exact Or.inr rfl)) (by decide)) (b_cons (s_par (ps_par (i := 8) (j := 9) rfl c_law.nd rfl rfl (by decide) rfl rfl (a_cons (e_callB (call_repr hr hgd) cd_repr (by rfl) T.z_repr bt_repr (a_cons (e_tup (a_cons (e_var (pv 4) (by decide)) (a_cons (e_var (pv 7) (by decide)) a_nil))) a_nil)) (a_cons (e_call (ok_Ldue T) (hr.mono (by decide)) hgd (by rfl) T.g_Ldue T.F_Ldue.kp T.B_Ldue (a_cons (e_var (pv 5) (by decide)) (a_cons (e_var (pv 7) (by decide)) a_nil))) a_nil)) rfl) (by decide) (by decide))
    (b_cons (s_set (i := 10) c_law.nd rfl (Or.inl rfl) (by decide) (e_fz (l_lst (a_cons (e_call (ok_groups T) (hr.mono (by decide)) hgd (by rfl) T.g_groups T.F_groups.kp T.B_groups (a_cons (e_var (pv 4) (by decide)) (a_cons (e_var (pv 7) (by decide)) a_nil))) (a_cons (e_call (ok_groups T) (hr.mono (by decide)) hgd (by rfl) T.g_groups T.F_groups.kp T.B_groups (a_cons (e_var (pv 4) (by decide)) (a_cons (e_var (pv 7) (by decide)) a_nil))) a_nil)))))
    (b_one (s_if (t_w (w_or (t_not (t_val (e_call (ok_Lis_equal T) (hr.mono (by decide)) hgd (by rfl) T.g_Lis_equal T.F_Lis_equal.kp T.B_Lis_equal (a_cons (e_var (pv 10) (by decide)) (a_cons (e_fz (l_lst (a_cons (e_var (pv 9) (by decide)) (a_cons (e_var (pv 9) (by decide)) a_nil)))) a_nil))))) (w_or1 (t_cmp (or_ne hr.units) od_ne (e_callB (call_repr hr hgd) cd_repr (by rfl) T.z_repr bt_repr (a_cons (e_tup (a_cons (e_var (pv 4) (by decide)) (a_cons (e_var (pv 7) (by decide)) a_nil))) a_nil)) (e_var (pv 8) (by decide)) (nomark _))))) (b_one (s_ret e_bl)) b_nil)))))))))))))
    (b_one (s_ret e_bl)))
end
theorem ta_b : TA.drop 0 = List.range' 52 272 := by decide +kernel
theorem tv_b : TV.drop 0 = HdB.bitO 52 239 HdB.PS := by kernel_rfl
theorem ko : keysOk 52 239 := by
  unfold keysOk
  kernel_rfl
theorem facts {l : PySem.W.OpenLaw} {w : World} {K : PySem.W.Frag} {h : Heap} {mg : Str → Option Value} {fa : Addr} (X : K.In h) (G : h.Ns mainGlobals mg) (hfa : mg "law" = some (.ref fa)) (c : HdB.SaysB FA FN EX TA TV K) :
    ∃ fd : FuncData, (∀ (s : Shared) (v : Value), BindsTo s fd ⟨[v], []⟩ [("_law_script", v)]) ∧ ∀ base : Heap, K.In base → base.Ns mainGlobals mg → FnG l.prog w K mg base 4 fa fd ["_law_script"] (spP K 1 m_law) := by
  obtain ⟨oc0, od0, sl0, kV0, dc0, pm0, an0, cd0, ct0, l0, c0⟩ := c.e.def_ 0 (d := FN[0]) rfl
  have a0 := He.glo_ok X G (c.e.fact 0 (f := .glo "_law_source") rfl)
  have k0 := He.keep_ok (c.e.fact 1 (f := .keep "_law_source") rfl)
  obtain ⟨oc1, od1, sl1, kV1, dc1, pm1, an1, cd1, ct1, l1, c1⟩ := c.e.def_ 1 (d := FN[1]) rfl
  have a1 := He.glo_ok X G (c.e.fact 2 (f := .glo "_law_cell") rfl)
  have k1 := He.keep_ok (c.e.fact 3 (f := .keep "_law_cell") rfl)
  obtain ⟨oc2, od2, sl2, kV2, dc2, pm2, an2, cd2, ct2, l2, c2⟩ := c.e.def_ 2 (d := FN[2]) rfl
  have a2 := He.glo_ok X G (c.e.fact 4 (f := .glo "_law_draw") rfl)
  have k2 := He.keep_ok (c.e.fact 5 (f := .keep "_law_draw") rfl)
  obtain ⟨oc3, od3, sl3, kV3, dc3, pm3, an3, cd3, ct3, l3, c3⟩ := c.e.def_ 3 (d := FN[3]) rfl
  have a3 := He.glo_ok X G (c.e.fact 6 (f := .glo "_law_net_of") rfl)
  have k3 := He.keep_ok (c.e.fact 7 (f := .keep "_law_net_of") rfl)
  obtain ⟨oc4, od4, sl4, kV4, dc4, pm4, an4, cd4, ct4, l4, c4⟩ := c.e.def_ 4 (d := FN[4]) rfl
  have a4 := He.glo_ok X G (c.e.fact 8 (f := .glo "_law_sets") rfl)
  have k4 := He.keep_ok (c.e.fact 9 (f := .keep "_law_sets") rfl)
  obtain ⟨oc5, od5, sl5, kV5, dc5, pm5, an5, cd5, ct5, l5, c5⟩ := c.e.def_ 5 (d := FN[5]) rfl
  have a5 := He.glo_ok X G (c.e.fact 10 (f := .glo "_law_reaches") rfl)
  have k5 := He.keep_ok (c.e.fact 11 (f := .keep "_law_reaches") rfl)
  obtain ⟨oc6, od6, sl6, kV6, dc6, pm6, an6, cd6, ct6, l6, c6⟩ := c.e.def_ 6 (d := FN[6]) rfl
  have a6 := He.glo_ok X G (c.e.fact 12 (f := .glo "_law_meets") rfl)
  have k6 := He.keep_ok (c.e.fact 13 (f := .keep "_law_meets") rfl)
  obtain ⟨oc7, od7, sl7, kV7, dc7, pm7, an7, cd7, ct7, l7, c7⟩ := c.e.def_ 7 (d := FN[7]) rfl
  have a7 := He.glo_ok X G (c.e.fact 14 (f := .glo "_law_table") rfl)
  have k7 := He.keep_ok (c.e.fact 15 (f := .keep "_law_table") rfl)
  obtain ⟨oc8, od8, sl8, kV8, dc8, pm8, an8, cd8, ct8, l8, c8⟩ := c.e.def_ 8 (d := FN[8]) rfl
  have a8 := He.glo_ok X G (c.e.fact 16 (f := .glo "_law_due") rfl)
  have k8 := He.keep_ok (c.e.fact 17 (f := .keep "_law_due") rfl)
  obtain ⟨oc9, od9, sl9, kV9, dc9, pm9, an9, cd9, ct9, l9, c9⟩ := c.e.def_ 9 (d := FN[9]) rfl
  have a9 := He.glo_ok X G (c.e.fact 18 (f := .glo "near_bits") rfl)
  have k9 := He.keep_ok (c.e.fact 19 (f := .keep "near_bits") rfl)
  obtain ⟨oc10, od10, sl10, kV10, dc10, pm10, an10, cd10, ct10, l10, c10⟩ := c.e.def_ 10 (d := FN[10]) rfl
  have a10 := He.glo_ok X G (c.e.fact 20 (f := .glo "nears") rfl)
  have k10 := He.keep_ok (c.e.fact 21 (f := .keep "nears") rfl)
  obtain ⟨oc11, od11, sl11, kV11, dc11, pm11, an11, cd11, ct11, l11, c11⟩ := c.e.def_ 11 (d := FN[11]) rfl
  have a11 := He.glo_ok X G (c.e.fact 22 (f := .glo "bits_of") rfl)
  have k11 := He.keep_ok (c.e.fact 23 (f := .keep "bits_of") rfl)
  obtain ⟨oc12, od12, sl12, kV12, dc12, pm12, an12, cd12, ct12, l12, c12⟩ := c.e.def_ 12 (d := FN[12]) rfl
  have a12 := He.glo_ok X G (c.e.fact 24 (f := .glo "checked_bits") rfl)
  have k12 := He.keep_ok (c.e.fact 25 (f := .keep "checked_bits") rfl)
  obtain ⟨oc13, od13, sl13, kV13, dc13, pm13, an13, cd13, ct13, l13, c13⟩ := c.e.def_ 13 (d := FN[13]) rfl
  have a13 := He.glo_ok X G (c.e.fact 26 (f := .glo "heard_bits") rfl)
  have k13 := He.keep_ok (c.e.fact 27 (f := .keep "heard_bits") rfl)
  obtain ⟨oc14, od14, sl14, kV14, dc14, pm14, an14, cd14, ct14, l14, c14⟩ := c.e.def_ 14 (d := FN[14]) rfl
  have a14 := He.glo_ok X G (c.e.fact 28 (f := .glo "groups") rfl)
  have k14 := He.keep_ok (c.e.fact 29 (f := .keep "groups") rfl)
  obtain ⟨oc15, od15, sl15, kV15, dc15, pm15, an15, cd15, ct15, l15, c15⟩ := c.e.def_ 15 (d := FN[15]) rfl
  have a15 := He.glo_ok X G (c.e.fact 30 (f := .glo "_law_is_equal") rfl)
  have k15 := He.keep_ok (c.e.fact 31 (f := .keep "_law_is_equal") rfl)
  obtain ⟨oc16, od16, sl16, kV16, dc16, pm16, an16, cd16, ct16, l16, c16⟩ := c.e.def_ 16 (d := FN[16]) rfl
  have a16 := He.glo_ok X G (c.e.fact 32 (f := .glo "law") rfl)
  have k16 := He.keep_ok (c.e.fact 33 (f := .keep "law") rfl)
  have e := hfa.symm.trans a16
  cases e
  have more : EX K = true := c.more
  unfold EX at more
  simp only [Bool.and_eq_true] at more
  obtain ⟨m0, _⟩ := more
  have gBITS : mg "BITS" = some (.ref 52) := PySem.W.mg_of X G (of_decide_eq_true m0)
  obtain ⟨tk1, e1⟩ := He.int_ok X G (c.e.fact 34 (f := .int "MOST_COMPONENTS" 8) rfl)
  let T : Txt K mg := {
    a_Lsource := He.ga K "_law_source", d_Lsource := _, F_Lsource := fun_mk (st := s_Lsource) l0 c0 k0, B_Lsource := (fun_mk (st := s_Lsource) l0 c0 k0).binds (ps := ["_law_cell_here"]) (fun _ _ _ _ _ _ us hl => match us, hl with | [_], _ => rfl), g_Lsource := a0,
    a_Lcell := He.ga K "_law_cell", d_Lcell := _, F_Lcell := fun_mk (st := s_Lcell) l1 c1 k1, B_Lcell := (fun_mk (st := s_Lcell) l1 c1 k1).binds (ps := ["_law_script", "_law_index"]) (fun _ _ _ _ _ _ us hl => match us, hl with | [_, _], _ => rfl), g_Lcell := a1,
    a_Ldraw := He.ga K "_law_draw", d_Ldraw := _, F_Ldraw := fun_mk (st := s_Ldraw) l2 c2 k2, B_Ldraw := (fun_mk (st := s_Ldraw) l2 c2 k2).binds (ps := ["_law_supply", "_law_many"]) (fun _ _ _ _ _ _ us hl => match us, hl with | [_, _], _ => rfl), g_Ldraw := a2,
    a_Lnet_of := He.ga K "_law_net_of", d_Lnet_of := _, F_Lnet_of := fun_mk (st := s_Lnet_of) l3 c3 k3, B_Lnet_of := (fun_mk (st := s_Lnet_of) l3 c3 k3).binds (ps := ["_law_supply", "_law_size"]) (fun _ _ _ _ _ _ us hl => match us, hl with | [_, _], _ => rfl), g_Lnet_of := a3,
    a_Lsets := He.ga K "_law_sets", d_Lsets := _, F_Lsets := fun_mk (st := s_Lsets) l4 c4 k4, B_Lsets := (fun_mk (st := s_Lsets) l4 c4 k4).binds (ps := ["_law_things"]) (fun _ _ _ _ _ _ us hl => match us, hl with | [_], _ => rfl), g_Lsets := a4,
    a_Lreaches := He.ga K "_law_reaches", d_Lreaches := _, F_Lreaches := fun_mk (st := s_Lreaches) l5 c5 k5, B_Lreaches := (fun_mk (st := s_Lreaches) l5 c5 k5).binds (ps := ["_law_net"]) (fun _ _ _ _ _ _ us hl => match us, hl with | [_], _ => rfl), g_Lreaches := a5,
    a_Lmeets := He.ga K "_law_meets", d_Lmeets := _, F_Lmeets := fun_mk (st := s_Lmeets) l6 c6 k6, B_Lmeets := (fun_mk (st := s_Lmeets) l6 c6 k6).binds (ps := ["_law_one", "_law_other"]) (fun _ _ _ _ _ _ us hl => match us, hl with | [_, _], _ => rfl), g_Lmeets := a6,
    a_Ltable := He.ga K "_law_table", d_Ltable := _, F_Ltable := fun_mk (st := s_Ltable) l7 c7 k7, B_Ltable := (fun_mk (st := s_Ltable) l7 c7 k7).binds (ps := ["_law_net"]) (fun _ _ _ _ _ _ us hl => match us, hl with | [_], _ => rfl), g_Ltable := a7,
    a_Ldue := He.ga K "_law_due", d_Ldue := _, F_Ldue := fun_mk (st := s_Ldue) l8 c8 k8, B_Ldue := (fun_mk (st := s_Ldue) l8 c8 k8).binds (ps := ["_law_table_here", "_law_watched"]) (fun _ _ _ _ _ _ us hl => match us, hl with | [_, _], _ => rfl), g_Ldue := a8,
    a_near_bits := He.ga K "near_bits", d_near_bits := _, F_near_bits := fun_mk (st := s_near_bits) l9 c9 k9, B_near_bits := (fun_mk (st := s_near_bits) l9 c9 k9).binds (ps := ["thing"]) (fun _ _ _ _ _ _ us hl => match us, hl with | [_], _ => rfl), g_near_bits := a9,
    a_nears := He.ga K "nears", d_nears := _, F_nears := fun_mk (st := s_nears) l10 c10 k10, B_nears := (fun_mk (st := s_nears) l10 c10 k10).binds (ps := ["net"]) (fun _ _ _ _ _ _ us hl => match us, hl with | [_], _ => rfl), g_nears := a10,
    a_bits_of := He.ga K "bits_of", d_bits_of := _, F_bits_of := fun_mk (st := s_bits_of) l11 c11 k11, B_bits_of := (fun_mk (st := s_bits_of) l11 c11 k11).binds (ps := ["thing", "many"]) (fun _ _ _ _ _ _ us hl => match us, hl with | [_, _], _ => rfl), g_bits_of := a11,
    a_checked_bits := He.ga K "checked_bits", d_checked_bits := _, F_checked_bits := fun_mk (st := s_checked_bits) l12 c12 k12, B_checked_bits := (fun_mk (st := s_checked_bits) l12 c12 k12).binds (ps := ["chosen", "many"]) (fun _ _ _ _ _ _ us hl => match us, hl with | [_, _], _ => rfl), g_checked_bits := a12,
    a_heard_bits := He.ga K "heard_bits", d_heard_bits := _, F_heard_bits := fun_mk (st := s_heard_bits) l13 c13 k13, B_heard_bits := (fun_mk (st := s_heard_bits) l13 c13 k13).binds (ps := ["near", "broken"]) (fun _ _ _ _ _ _ us hl => match us, hl with | [_, _], _ => rfl), g_heard_bits := a13,
    a_groups := He.ga K "groups", d_groups := _, F_groups := fun_mk (st := s_groups) l14 c14 k14, B_groups := (fun_mk (st := s_groups) l14 c14 k14).binds (ps := ["net", "watched"]) (fun _ _ _ _ _ _ us hl => match us, hl with | [_, _], _ => rfl), g_groups := a14,
    a_Lis_equal := He.ga K "_law_is_equal", d_Lis_equal := _, F_Lis_equal := fun_mk (st := s_Lis_equal) l15 c15 k15, B_Lis_equal := (fun_mk (st := s_Lis_equal) l15 c15 k15).binds (ps := ["_law_actual", "_law_due_here"]) (fun _ _ _ _ _ _ us hl => match us, hl with | [_, _], _ => rfl), g_Lis_equal := a15,
    a_law := He.ga K "law", d_law := _, F_law := fun_mk (st := s_law) l16 c16 k16, B_law := (fun_mk (st := s_law) l16 c16 k16).binds (ps := ["_law_script"]) (fun _ _ _ _ _ _ us hl => match us, hl with | [_], _ => rfl), g_law := a16,
    a_BITS := 52, g_BITS := gBITS, k_BITS := bits_at (n := 52) (tk := 239) (pre := 0) (by decide) c.tab ta_b tv_b ko,
    t_MOST_COMPONENTS := tk1, g_MOST_COMPONENTS := e1,
    z_enumerate := He.free_ok X G (c.e.fact 35 (f := .free "enumerate") rfl),
    z_int := He.free_ok X G (c.e.fact 36 (f := .free "int") rfl),
    z_isinstance := He.free_ok X G (c.e.fact 37 (f := .free "isinstance") rfl),
    z_len := He.free_ok X G (c.e.fact 38 (f := .free "len") rfl),
    z_list := He.free_ok X G (c.e.fact 39 (f := .free "list") rfl),
    z_max := He.free_ok X G (c.e.fact 40 (f := .free "max") rfl),
    z_min := He.free_ok X G (c.e.fact 41 (f := .free "min") rfl),
    z_range := He.free_ok X G (c.e.fact 42 (f := .free "range") rfl),
    z_repr := He.free_ok X G (c.e.fact 43 (f := .free "repr") rfl),
    z_set := He.free_ok X G (c.e.fact 44 (f := .free "set") rfl),
    z_sorted := He.free_ok X G (c.e.fact 45 (f := .free "sorted") rfl),
    z_tuple := He.free_ok X G (c.e.fact 46 (f := .free "tuple") rfl) }
  exact ⟨_, fun s v => .of_eq rfl, fun base _ _ => ok_law T⟩
end MirT

set_option Elab.async false
set_option linter.all false
set_option maxRecDepth 100000
namespace Nt
/-! nets, what is reached: pure -/
abbrev Net := List (List Nat)
def Adj (N : Net) (a b : Nat) : Prop := ∃ r, N[a]? = some r ∧ b ∈ r
structure Ok (N : Net) : Prop where
  lo : 1 ≤ N.length
  hi : N.length ≤ 8
  row : ∀ (i : Nat) (r : List Nat), N[i]? = some r → r.Pairwise (· < ·) ∧ (∀ x ∈ r, x < N.length) ∧ i ∉ r
theorem Ok.lt {N : Net} (h : Ok N) {a b : Nat} (e : Adj N a b) : b < N.length := let ⟨r, hr, hb⟩ := e; (h.row a r hr).2.1 b hb
inductive Rch (N : Net) (a : Nat) : Nat → Prop
  | refl : Rch N a a
  | step {b c : Nat} : Rch N a b → Adj N b c → Rch N a c
def Closed (N : Net) (S : List Nat) : Prop := ∀ x ∈ S, ∀ y, Adj N x y → y ∈ S
theorem rch_in {N : Net} {a : Nat} {S : List Nat} (ha : a ∈ S) (hc : Closed N S) : ∀ {x : Nat}, Rch N a x → x ∈ S
  | _, .refl => ha
  | _, .step h e => hc _ (rch_in ha hc h) _ e
theorem Rch.lt {N : Net} (h : Ok N) {a : Nat} (ha : a < N.length) : ∀ {x : Nat}, Rch N a x → x < N.length
  | _, .refl => ha
  | _, .step _ e => h.lt e
open Classical in
noncomputable def far (N : Net) (a : Nat) : List Nat := (List.range N.length).filter fun x => decide (Rch N a x)
open Classical in
theorem mem_far {N : Net} (h : Ok N) {a x : Nat} (ha : a < N.length) : x ∈ far N a ↔ Rch N a x := by
  unfold far
  rw [List.mem_filter, List.mem_range]
  constructor
  · exact fun z => of_decide_eq_true z.2
  · exact fun z => ⟨z.lt h ha, decide_eq_true z⟩
open Classical in
theorem far_sorted (N : Net) (a : Nat) : (far N a).Pairwise (· < ·) := List.Pairwise.filter _ List.pairwise_lt_range
theorem len_le {n : Nat} {S : List Nat} (nd : S.Nodup) (h : ∀ x ∈ S, x < n) : S.length ≤ n := by
  have := nd.length_le_of_subset (l₂ := List.range n) (fun x hx => List.mem_range.mpr (h x hx))
  simpa using this
/-- a turn of the search: every neighbour of what was found is found, or nothing is new -/
structure Turn (N : Net) (a : Nat) (S0 S : List Nat) (i : Nat) : Prop where
  pre : ∃ ext, S = S0 ++ ext
  nd : S.Nodup
  rch : ∀ x ∈ S, Rch N a x
  got : ∀ o, o < i → (∃ x ∈ S0, Adj N x o) → o ∈ S
  stay : Closed N S0 → S = S0
theorem Turn.start {N : Net} {a : Nat} {S : List Nat} (nd : S.Nodup) (r : ∀ x ∈ S, Rch N a x) : Turn N a S S 0 := ⟨⟨[], by simp⟩, nd, r, fun _ z => absurd z (Nat.not_lt_zero _), fun _ => rfl⟩
theorem Turn.keep {N : Net} {a : Nat} {S0 S : List Nat} {i : Nat} (t : Turn N a S0 S i) (h : i ∈ S ∨ ∀ x ∈ S, ¬ Adj N x i) : Turn N a S0 S (i + 1) := by
  refine ⟨t.pre, t.nd, t.rch, fun o ho ⟨x, hx, e⟩ => ?_, t.stay⟩
  by_cases q : o < i
  · exact t.got o q ⟨x, hx, e⟩
  · have e2 : o = i := by omega
    subst e2
    rcases h with h | h
    · exact h
    · obtain ⟨ext, rfl⟩ := t.pre
      exact absurd e (h x (List.mem_append_left _ hx))
theorem Turn.add {N : Net} {a : Nat} {S0 S : List Nat} {i : Nat} (t : Turn N a S0 S i) (n : i ∉ S) {x : Nat} (hx : x ∈ S) (e : Adj N x i) : Turn N a S0 (S ++ [i]) (i + 1) := by
  obtain ⟨ext, rfl⟩ := t.pre
  refine ⟨⟨ext ++ [i], by simp⟩, ?_, ?_, fun o ho z => ?_, fun c => ?_⟩
  · refine List.nodup_append.mpr ⟨t.nd, by simp, fun y hy z hz => ?_⟩
    rw [List.mem_singleton.mp hz]
    exact fun q => n (q ▸ hy)
  · intro y hy
    rcases List.mem_append.mp hy with hy | hy
    · exact t.rch y hy
    · rw [List.mem_singleton.mp hy]
      exact .step (t.rch x hx) e
  · by_cases q : o < i
    · exact List.mem_append_left _ (t.got o q z)
    · have e2 : o = i := by omega
      subst e2
      simp
  · have s := t.stay c
    rw [s] at hx n
    exact absurd (c x hx i e) n
/-- after k turns: closed, or more than k are found -/
def After (N : Net) (a : Nat) (k : Nat) (S : List Nat) : Prop := a ∈ S ∧ S.Nodup ∧ (∀ x ∈ S, Rch N a x) ∧ (Closed N S ∨ k + 1 ≤ S.length)
theorem After.start (N : Net) (a : Nat) : After N a 0 [a] := ⟨by simp, by simp, fun x hx => by rw [List.mem_singleton.mp hx]; exact .refl, .inr (by simp)⟩
theorem After.next {N : Net} (h : Ok N) {a k : Nat} {S0 S : List Nat} (p : After N a k S0) (t : Turn N a S0 S N.length) : After N a (k + 1) S := by
  obtain ⟨ha, nd, r, c⟩ := p
  obtain ⟨ext, e⟩ := t.pre
  refine ⟨by rw [e]; exact List.mem_append_left _ ha, t.nd, t.rch, ?_⟩
  rcases c with c | c
  · rw [t.stay c]
    exact .inl c
  · cases ext with
    | nil =>
      refine .inl fun x hx y ey => t.got y (h.lt ey) ⟨x, ?_, ey⟩
      rw [e, List.append_nil] at hx
      exact hx
    | cons b ext =>
      refine .inr ?_
      rw [e, List.length_append, List.length_cons]
      omega
theorem After.done {N : Net} (h : Ok N) {a : Nat} (ha : a < N.length) {S : List Nat} (p : After N a N.length S) : ∀ x, x ∈ S ↔ x ∈ far N a := by
  obtain ⟨hs, nd, r, c⟩ := p
  have c' : Closed N S := by
    rcases c with c | c
    · exact c
    · have := len_le nd fun x hx => (r x hx).lt h ha
      omega
  intro x
  rw [mem_far h ha]
  exact ⟨r x, rch_in hs c'⟩
end Nt

set_option Elab.async false
set_option linter.all false
set_option maxRecDepth 100000
namespace Nt
/-! sets of numbers below 8, as bits -/
/-- the bits of a set -/
def bm : List Nat → Nat
  | [] => 0
  | x :: r => 2 ^ x ||| bm r
/-- the set of bits -/
def sl (b : Nat) : List Nat := (List.range 8).filter fun i => b.testBit i
theorem bm_bit : ∀ (r : List Nat) (i : Nat), (bm r).testBit i = decide (i ∈ r)
  | [], i => by simp [bm]
  | x :: r, i => by
    unfold bm
    rw [Nat.testBit_or, Nat.testBit_two_pow, bm_bit r i, Bool.eq_iff_iff]
    simp only [Bool.or_eq_true, decide_eq_true_eq, List.mem_cons]
    constructor
    · rintro (h | h)
      · exact .inl h.symm
      · exact .inr h
    · rintro (h | h)
      · exact .inl h.symm
      · exact .inr h
theorem lt_of_bits {b n : Nat} (h : ∀ i, b.testBit i = true → i < n) : b < 2 ^ n := by
  refine Nat.lt_pow_two_of_testBit b fun i hi => ?_
  cases e : b.testBit i with
  | false => rfl
  | true => have := h i e; omega
theorem bit_lt {b n i : Nat} (h : b < 2 ^ n) (hi : b.testBit i = true) : i < n := by
  by_cases q : i < n
  · exact q
  · have := Nat.testBit_lt_two_pow (x := b) (i := i) (Nat.lt_of_lt_of_le h (Nat.pow_le_pow_right (by decide) (by omega)))
    rw [this] at hi
    cases hi
theorem bm_lt {r : List Nat} {n : Nat} (h : ∀ x ∈ r, x < n) : bm r < 2 ^ n := lt_of_bits fun i hi => by
  rw [bm_bit] at hi
  exact h i (of_decide_eq_true hi)
theorem sl_sorted (b : Nat) : (sl b).Pairwise (· < ·) := List.Pairwise.filter _ List.pairwise_lt_range
theorem mem_sl {b i : Nat} (h : b < 256) : i ∈ sl b ↔ b.testBit i = true := by
  unfold sl
  rw [List.mem_filter, List.mem_range]
  exact ⟨fun z => z.2, fun z => ⟨bit_lt (n := 8) h z, z⟩⟩
/-- two ascending lists with the same members are one -/
theorem asc_one {l m : List Nat} (hl : l.Pairwise (· < ·)) (hm : m.Pairwise (· < ·)) (e : ∀ x, x ∈ l ↔ x ∈ m) : l = m := by
  have p : l.Perm m := (List.perm_ext_iff_of_nodup (hl.imp fun h => by omega) (hm.imp fun h => by omega)).mpr e
  refine List.Perm.eq_of_pairwise (le := fun a b => a < b) (fun a b _ _ h1 h2 => by omega) hl hm p
theorem sl_bm {r : List Nat} (hp : r.Pairwise (· < ·)) (h : ∀ x ∈ r, x < 8) : sl (bm r) = r := by
  refine asc_one (sl_sorted _) hp fun x => ?_
  rw [mem_sl (bm_lt (n := 8) h), bm_bit, decide_eq_true_iff]
/-- a & ~b -/
theorem diff_xor {a b : Nat} (ha : a < 256) (hb : b < 256) : a - (a &&& b) = a ^^^ (a &&& b) := by
  have h : ((List.range 256).all fun a => (List.range 256).all fun b => Nat.beq (a - (a &&& b)) (a ^^^ (a &&& b))) = true := by decide +kernel
  exact Nat.eq_of_beq_eq_true (List.all_eq_true.mp (List.all_eq_true.mp h a (List.mem_range.mpr ha)) b (List.mem_range.mpr hb))
theorem diff_bit {a b : Nat} (ha : a < 256) (hb : b < 256) (i : Nat) : (a - (a &&& b)).testBit i = (a.testBit i && !b.testBit i) := by
  rw [diff_xor ha hb, Nat.testBit_xor, Nat.testBit_and]
  cases a.testBit i <;> cases b.testBit i <;> rfl
theorem and_ne {a b : Nat} : (a &&& b) ≠ 0 ↔ ∃ i, a.testBit i = true ∧ b.testBit i = true := by
  constructor
  · intro h
    refine Classical.byContradiction fun n => h (Nat.eq_of_testBit_eq fun i => ?_)
    rw [Nat.testBit_and, Nat.zero_testBit]
    cases e1 : a.testBit i with
    | false => rfl
    | true =>
      cases e2 : b.testBit i with
      | false => rfl
      | true => exact absurd ⟨i, e1, e2⟩ n
  · rintro ⟨i, h1, h2⟩ z
    have := Nat.testBit_and a b i
    rw [z, h1, h2, Nat.zero_testBit] at this
    cases this
/-- how many of eight -/
def cnt (b : Nat) : Nat := (List.range 8).countP fun i => b.testBit i
theorem cnt_le (b : Nat) : cnt b ≤ 8 := by
  have := List.countP_le_length (p := fun i => b.testBit i) (l := List.range 8)
  simpa [cnt] using this
theorem countP_lt {p q : Nat → Bool} : ∀ (l : List Nat), (∀ x ∈ l, p x = true → q x = true) → (∃ x ∈ l, q x = true ∧ p x = false) → l.countP p < l.countP q
  | [], _, h => by obtain ⟨x, hx, _⟩ := h; cases hx
  | y :: l, h1, h2 => by
    rw [List.countP_cons, List.countP_cons]
    have le : l.countP p ≤ l.countP q := List.countP_mono_left fun x hx => h1 x (List.mem_cons_of_mem _ hx)
    obtain ⟨x, hx, hq, hp⟩ := h2
    rcases List.mem_cons.mp hx with rfl | hx
    · rw [hp, hq]
      simp
      omega
    · have lt := countP_lt l (fun x hx => h1 x (List.mem_cons_of_mem _ hx)) ⟨x, hx, hq, hp⟩
      have := h1 y (List.mem_cons_self ..)
      cases e : p y with
      | false => simp; split <;> omega
      | true => rw [this e]; simp; omega
theorem cnt_lt {a b : Nat} (hb : b < 256) (h : ∀ i, a.testBit i = true → b.testBit i = true) (ne : b ≠ a) : cnt a < cnt b := by
  refine countP_lt _ (fun x _ => h x) ?_
  refine Classical.byContradiction fun n => ne (Nat.eq_of_testBit_eq fun i => ?_)
  cases e1 : b.testBit i with
  | false =>
    cases e2 : a.testBit i with
    | false => rfl
    | true => rw [h i e2] at e1; cases e1
  | true =>
    cases e2 : a.testBit i with
    | true => rfl
    | false => exact absurd ⟨i, List.mem_range.mpr (bit_lt (n := 8) hb e1), e1, e2⟩ n
end Nt

set_option Elab.async false
set_option linter.all false
set_option maxRecDepth 100000
namespace Nt
/-- the bits of a component and of what it depends on directly -/
def nr (N : Net) (i : Nat) : Nat := bm (N.getD i []) ||| 2 ^ i
theorem nr_bit {N : Net} {i j : Nat} : (nr N i).testBit j = true ↔ Adj N i j ∨ j = i := by
  unfold nr
  rw [Nat.testBit_or, Nat.testBit_two_pow, bm_bit, Bool.or_eq_true, decide_eq_true_iff, decide_eq_true_iff]
  have e : j ∈ N.getD i [] ↔ Adj N i j := by
    unfold Adj
    rw [List.getD_eq_getElem?_getD]
    cases q : N[i]? with
    | none => simp
    | some r => simp
  rw [e]
  exact ⟨fun h => h.imp id Eq.symm, fun h => h.imp id Eq.symm⟩
theorem nr_lt {N : Net} (h : Ok N) {i : Nat} (hi : i < N.length) : nr N i < 2 ^ N.length := lt_of_bits fun j hj => by
  rcases nr_bit.mp hj with e | e
  · exact h.lt e
  · rw [e]; exact hi
theorem pow_256 {N : Net} (h : Ok N) {b : Nat} (hb : b < 2 ^ N.length) : b < 256 := Nat.lt_of_lt_of_le hb (Nat.le_trans (Nat.pow_le_pow_right (by decide) h.hi) (by decide))
theorem or_lt {n a b : Nat} (ha : a < 2 ^ n) (hb : b < 2 ^ n) : a ||| b < 2 ^ n := Nat.or_lt_two_pow ha hb
theorem Rch.trans {N : Net} {a b : Nat} (h : Rch N a b) : ∀ {c : Nat}, Rch N b c → Rch N a c
  | _, .refl => h
  | _, .step p e => .step (h.trans p) e
/-! ### what is reached -/
structure Rea (N : Net) (s found known : Nat) : Prop where
  lt : found < 2 ^ N.length
  sub : ∀ i, known.testBit i = true → found.testBit i = true
  st : ∀ i, s.testBit i = true → found.testBit i = true
  rc : ∀ i, found.testBit i = true → ∃ a, s.testBit a = true ∧ Rch N a i
  cl : ∀ i, known.testBit i = true → ∀ j, Adj N i j → found.testBit j = true
structure ReaM (N : Net) (s f0 known : Nat) (fr : List Nat) (found k : Nat) : Prop where
  lt : found < 2 ^ N.length
  sub : ∀ i, f0.testBit i = true → found.testBit i = true
  rc : ∀ i, found.testBit i = true → ∃ a, s.testBit a = true ∧ Rch N a i
  got : ∀ m i, m < k → fr[m]? = some i → ∀ j, Adj N i j → found.testBit j = true
theorem Rea.start {N : Net} {s : Nat} (h : s < 2 ^ N.length) : Rea N s s 0 := ⟨h, fun i hi => by simp at hi, fun _ h => h, fun i hi => ⟨i, hi, .refl⟩, fun i hi => by simp at hi⟩
theorem Rea.mid {N : Net} {s found known : Nat} {fr : List Nat} (r : Rea N s found known) : ReaM N s found known fr found 0 := ⟨r.lt, fun _ h => h, r.rc, fun m i hm => absurd hm (Nat.not_lt_zero _)⟩
theorem or_l {a b i : Nat} (h : a.testBit i = true) : (a ||| b).testBit i = true := by rw [Nat.testBit_or, h]; rfl
theorem or_r {a b i : Nat} (h : b.testBit i = true) : (a ||| b).testBit i = true := by rw [Nat.testBit_or, h, Bool.or_true]
theorem or_of {a b i : Nat} (h : (a ||| b).testBit i = true) : a.testBit i = true ∨ b.testBit i = true := by rw [Nat.testBit_or, Bool.or_eq_true] at h; exact h
theorem ReaM.next {N : Net} (hN : Ok N) {s f0 known : Nat} {fr : List Nat} {found k i : Nat} (m : ReaM N s f0 known fr found k) (hi : fr[k]? = some i) (hf : f0.testBit i = true) (hl : i < N.length) : ReaM N s f0 known fr (found ||| nr N i) (k + 1) := by
  refine ⟨or_lt m.lt (nr_lt hN hl), fun j hj => or_l (m.sub j hj), fun j hj => ?_, fun t x ht hx j hj => ?_⟩
  · rcases or_of hj with hj | hj
    · exact m.rc j hj
    · rcases nr_bit.mp hj with e | e
      · obtain ⟨a, h1, h2⟩ := m.rc i (m.sub i hf)
        exact ⟨a, h1, .step h2 e⟩
      · subst e
        exact m.rc j (m.sub j hf)
  · by_cases q : t < k
    · exact or_l (m.got t x q hx j hj)
    · have e : t = k := by omega
      subst e
      rw [hi] at hx
      cases hx
      exact or_r (nr_bit.mpr (.inl hj))
theorem ReaM.done {N : Net} {s f0 known : Nat} {fr : List Nat} {found : Nat} (r : Rea N s f0 known) (hfr : ∀ i, i ∈ fr ↔ f0.testBit i = true ∧ known.testBit i = false) (m : ReaM N s f0 known fr found fr.length) : Rea N s found f0 := by
  refine ⟨m.lt, m.sub, fun i hi => m.sub i (r.st i hi), m.rc, fun i hi j hj => ?_⟩
  cases e : known.testBit i with
  | true => exact m.sub j (r.cl i e j hj)
  | false =>
    obtain ⟨k, hk⟩ := List.getElem?_of_mem ((hfr i).mpr ⟨hi, e⟩)
    exact m.got k i (List.getElem?_eq_some_iff.mp hk).1 hk j hj
theorem Rea.end {N : Net} {s found : Nat} (r : Rea N s found found) (x : Nat) : found.testBit x = true ↔ ∃ a, s.testBit a = true ∧ Rch N a x := by
  refine ⟨r.rc x, fun ⟨a, h1, h2⟩ => ?_⟩
  have key : ∀ y, Rch N a y → found.testBit y = true := fun y hy => by
    induction hy with
    | refl => exact r.st a h1
    | step h e ih => exact r.cl _ ih _ e
  exact key x h2
/-! ### what alarms -/
structure Hea (N : Net) (s heard : Nat) : Prop where
  lt : heard < 2 ^ N.length
  st : ∀ i, s.testBit i = true → heard.testBit i = true
  rc : ∀ i, heard.testBit i = true → ∃ b, s.testBit b = true ∧ Rch N i b
structure HeaM (N : Net) (s h0 heard k : Nat) : Prop where
  hea : Hea N s heard
  sub : ∀ i, h0.testBit i = true → heard.testBit i = true
  got : ∀ i, i < k → ∀ j, Adj N i j → h0.testBit j = true → heard.testBit i = true
theorem Hea.start {N : Net} {s : Nat} (h : s < 2 ^ N.length) : Hea N s s := ⟨h, fun _ h => h, fun i hi => ⟨i, hi, .refl⟩⟩
theorem Hea.mid {N : Net} {s heard : Nat} (h : Hea N s heard) : HeaM N s heard heard 0 := ⟨h, fun _ h => h, fun i hi => absurd hi (Nat.not_lt_zero _)⟩
theorem HeaM.yes {N : Net} {s h0 heard k : Nat} (m : HeaM N s h0 heard k) (hk : k < N.length) (h : (nr N k &&& heard) ≠ 0) : HeaM N s h0 (heard ||| 2 ^ k) (k + 1) := by
  obtain ⟨j, h1, h2⟩ := and_ne.mp h
  have sk : (2 ^ k).testBit k = true := by rw [Nat.testBit_two_pow]; simp
  refine ⟨⟨or_lt m.hea.lt (Nat.pow_lt_pow_right (by decide) hk), fun i hi => or_l (m.hea.st i hi), fun i hi => ?_⟩, fun i hi => or_l (m.sub i hi), fun i hi x hx hh => ?_⟩
  · rcases or_of hi with hi | hi
    · exact m.hea.rc i hi
    · rw [Nat.testBit_two_pow, decide_eq_true_iff] at hi
      subst hi
      obtain ⟨b, h3, h4⟩ := m.hea.rc j h2
      rcases nr_bit.mp h1 with e | e
      · exact ⟨b, h3, (Rch.step .refl e).trans h4⟩
      · subst e
        exact ⟨b, h3, h4⟩
  · by_cases q : i < k
    · exact or_l (m.got i q x hx hh)
    · have e : i = k := by omega
      subst e
      exact or_r sk
theorem HeaM.no {N : Net} {s h0 heard k : Nat} (m : HeaM N s h0 heard k) (h : ¬ (nr N k &&& heard) ≠ 0) : HeaM N s h0 heard (k + 1) := by
  refine ⟨m.hea, m.sub, fun i hi x hx hh => ?_⟩
  by_cases q : i < k
  · exact m.got i q x hx hh
  · have e : i = k := by omega
    subst e
    exact absurd (and_ne.mpr ⟨x, nr_bit.mpr (.inl hx), m.sub x hh⟩) h
theorem HeaM.end {N : Net} (hN : Ok N) {s heard : Nat} (m : HeaM N s heard heard N.length) (x : Nat) : heard.testBit x = true ↔ ∃ b, s.testBit b = true ∧ Rch N x b := by
  refine ⟨m.hea.rc x, fun ⟨b, h1, h2⟩ => ?_⟩
  have key : ∀ y, Rch N x y → heard.testBit y = true → heard.testBit x = true := fun y hy => by
    induction hy with
    | refl => exact id
    | step h e ih =>
      intro hc
      have lt : ∀ {a b}, Adj N a b → a < N.length := fun ⟨r, hr, _⟩ => (List.getElem?_eq_some_iff.mp hr).1
      exact ih (m.got _ (lt e) _ e hc)
  exact key b h2 (m.hea.st b h1)
theorem two_bit (a i : Nat) : (2 ^ a).testBit i = true ↔ i = a := by rw [Nat.testBit_two_pow, decide_eq_true_iff]; exact eq_comm
open Classical in
theorem sl_far {N : Net} (hN : Ok N) {a found : Nat} (ha : a < N.length) (hf : found < 2 ^ N.length) (h : ∀ x, found.testBit x = true ↔ Rch N a x) : sl found = far N a := by
  refine asc_one (sl_sorted _) (far_sorted N a) fun x => ?_
  rw [mem_sl (pow_256 hN hf), mem_far hN ha, h x]
open Classical in
/-- all from which a is reached -/
noncomputable def over (N : Net) (a : Nat) : List Nat := (List.range N.length).filter fun x => decide (a ∈ far N x)
open Classical in
theorem sl_over {N : Net} (hN : Ok N) {a heard : Nat} (ha : a < N.length) (hf : heard < 2 ^ N.length) (h : ∀ x, heard.testBit x = true ↔ Rch N x a) : sl heard = over N a := by
  refine asc_one (sl_sorted _) (List.Pairwise.filter _ List.pairwise_lt_range) fun x => ?_
  rw [mem_sl (pow_256 hN hf), h x]
  unfold over
  rw [List.mem_filter, List.mem_range, decide_eq_true_iff]
  constructor
  · intro r
    have hx : x < N.length := bit_lt hf ((h x).mpr r)
    exact ⟨hx, (mem_far hN hx).mpr r⟩
  · exact fun ⟨hx, hm⟩ => (mem_far hN hx).mp hm
end Nt

set_option Elab.async false
set_option linter.all false
set_option maxRecDepth 100000
namespace Nt
open PySem L2 Mir
def dI (l : List Nat) : List Da := l.map fun (i : Nat) => PyData.int (i : Int)
def dN (N : Net) : Da := .tuple (N.map fun r => .tuple (dI r))
theorem dI_len (l : List Nat) : (dI l).length = l.length := by unfold dI; rw [List.length_map]
theorem dI_app (l m : List Nat) : dI l ++ dI m = dI (l ++ m) := by unfold dI; rw [List.map_append]
theorem dI_get {l : List Nat} {i : Nat} : (dI l)[i]? = (l[i]?).map fun (i : Nat) => PyData.int (i : Int) := by unfold dI; rw [List.getElem?_map]
theorem len_dN (N : Net) : gLen [dN N] = some (.int N.length) := by
  unfold gLen dN
  simp only [items, Option.map_some, List.length_map]
theorem at_nat {α : Type} {l : List α} {i : Nat} {x : α} (h : l[i]? = some x) : atI l (i : Int) = some x := by
  have hlt := (List.getElem?_eq_some_iff.mp h).1
  unfold atI ixN
  rw [if_pos (by omega), if_pos (by omega)]
  simpa using h
theorem ix_dN {N : Net} {i : Nat} {r : List Nat} (h : N[i]? = some r) : gIx (dN N) (.int i) = some (.tuple (dI r)) := by
  show atI _ (i : Int) = _
  exact at_nat (by rw [List.getElem?_map, h]; rfl)
theorem all_flatI (l : List Nat) : (dI l).all flat = true := by
  unfold dI
  rw [List.all_map]
  exact List.all_eq_true.mpr fun _ _ => rfl
theorem inF_dI (o : Nat) (l : List Nat) : inF (.int o) (dI l) = decide (o ∈ l) := by
  unfold inF dI
  rw [List.any_map, Bool.eq_iff_iff, List.any_eq_true, decide_eq_true_iff]
  constructor
  · rintro ⟨x, hx, e⟩
    have e2 : ((x : Int) == (o : Int)) = true := e
    have e3 : x = o := by
      have := eq_of_beq e2
      omega
    exact e3 ▸ hx
  · intro h
    refine ⟨o, h, ?_⟩
    show ((o : Int) == (o : Int)) = true
    exact beq_self_eq_true _
theorem in_tup (o : Nat) (l : List Nat) : gIn (.int o) (.tuple (dI l)) = some (.bool (decide (o ∈ l))) := by
  unfold gIn gInB
  simp only [items]
  rw [if_pos ⟨rfl, all_flatI l⟩, inF_dI]
  rfl
theorem notIn_list (o : Nat) (l : List Nat) : gNotIn (.int o) (.list (dI l)) = some (.bool (!decide (o ∈ l))) := by
  unfold gNotIn gInB
  simp only [items]
  rw [if_pos ⟨rfl, all_flatI l⟩, inF_dI]
  rfl
theorem rng_dI (n : Nat) (h : n ≤ 100000) : rng1 [.int n] = some (dI (List.range n)) := by
  show (if -100000 ≤ (n : Int) ∧ (n : Int) ≤ 100000 then some (rngD 0 n) else none) = _
  rw [if_pos ⟨by omega, by omega⟩]
  unfold rngD dI
  simp
theorem intsD_map (l : List Int) : intsD (l.map .int) = some l := by
  induction l with
  | nil => rfl
  | cons a l ih => show (intsD (l.map .int)).map (a :: ·) = _; rw [ih]; rfl
theorem dI_eq (l : List Nat) : dI l = (l.map fun (i : Nat) => (i : Int)).map .int := by
  unfold dI
  rw [List.map_map]
  rfl
theorem sorted_dI {S T : List Nat} (nd : S.Nodup) (st : T.Pairwise (· < ·)) (e : ∀ x, x ∈ S ↔ x ∈ T) : gSorted [.list (dI S)] = some (.list (dI T)) := by
  show (intsD (dI S)).map (fun ns => PyData.list ((isort ns).map .int)) = _
  rw [dI_eq S, intsD_map]
  show some (PyData.list ((isort _).map .int)) = _
  have n2 : T.Nodup := st.imp (fun h => by omega)
  have p : S.Perm T := (List.perm_ext_iff_of_nodup nd n2).mpr e
  have p2 : (isort (S.map fun (i : Nat) => (i : Int))).Perm (T.map fun (i : Nat) => (i : Int)) := (isort_perm _).trans (p.map _)
  have q := sorted_one p2 (isort_sorted _) (List.pairwise_map.mpr (st.imp (fun h => by omega)))
  rw [q, ← dI_eq]
end Nt

set_option Elab.async false
set_option linter.all false
set_option maxRecDepth 100000
namespace Nt
open PySem L2 Mir
/-! what repr is asked of: small things -/
structure Shw (d : Da) (w k : Nat) : Prop where
  lv : d.leavesShort 13 = true
  wt : d.weight ≤ w
  sh : d.showable = true
  nd : d.hasDict = false
  dp : d.depth ≤ k
theorem Shw.mono {d : Da} {w w' k k' : Nat} (h : Shw d w k) (h1 : w ≤ w') (h2 : k ≤ k') : Shw d w' k' := ⟨h.lv, Nat.le_trans h.wt h1, h.sh, h.nd, Nat.le_trans h.dp h2⟩
def shwB (d : Da) (w k : Nat) : Bool := d.leavesShort 13 && decide (d.weight ≤ w) && d.showable && !d.hasDict && decide (d.depth ≤ k)
theorem shw_of {d : Da} {w k : Nat} (h : shwB d w k = true) : Shw d w k := by
  unfold shwB at h
  simp only [Bool.and_eq_true, decide_eq_true_eq, Bool.not_eq_true'] at h
  obtain ⟨⟨⟨⟨h1, h2⟩, h3⟩, h4⟩, h5⟩ := h
  exact ⟨h1, h2, h3, h4, h5⟩
theorem shw_nat {i : Nat} (h : i < 512) : Shw (.int (i : Int)) 10 0 := by
  have z : ((List.range 512).all fun i => shwB (.int (i : Int)) 10 0) = true := by decide +kernel
  exact shw_of (List.all_eq_true.mp z i (List.mem_range.mpr h))
theorem shw_all {w k : Nat} : ∀ (ds : List Da), (∀ d ∈ ds, Shw d w k) → PyData.leavesShortAll 13 ds = true ∧ PyData.weightAll ds ≤ ds.length * (w + 1) ∧ PyData.showableAll ds = true ∧ PyData.hasDictAll ds = false ∧ PyData.depthAll ds ≤ k
  | [], _ => ⟨rfl, Nat.zero_le _, rfl, rfl, Nat.zero_le _⟩
  | d :: ds, h => by
    obtain ⟨h1, h2, h3, h4, h5⟩ := shw_all ds fun x hx => h x (List.mem_cons_of_mem _ hx)
    have g := h d (List.mem_cons_self ..)
    refine ⟨?_, ?_, ?_, ?_, ?_⟩
    · rw [PyData.leavesShortAll.eq_2, g.lv, h1]; rfl
    · rw [PyData.weightAll.eq_2, List.length_cons, Nat.succ_mul]
      have := g.wt
      omega
    · rw [PyData.showableAll.eq_2, g.sh, h3]; rfl
    · rw [PyData.hasDictAll.eq_2, g.nd, h4]; rfl
    · rw [PyData.depthAll.eq_2]
      exact Nat.max_le.mpr ⟨g.dp, h5⟩
theorem shw_tup {w k m : Nat} {ds : List Da} (h : ∀ d ∈ ds, Shw d w k) (hl : ds.length ≤ m) : Shw (.tuple ds) (m * (w + 1)) (k + 1) := by
  obtain ⟨h1, h2, h3, h4, h5⟩ := shw_all ds h
  refine ⟨?_, ?_, ?_, ?_, ?_⟩
  · rw [PyData.leavesShort.eq_6]; exact h1
  · rw [PyData.weight.eq_3]; exact Nat.le_trans h2 (Nat.mul_le_mul_right _ hl)
  · rw [PyData.showable.eq_6]; exact h3
  · rw [PyData.hasDict.eq_6]; exact h4
  · rw [PyData.depth.eq_2]; omega
theorem shw_lst {w k m : Nat} {ds : List Da} (h : ∀ d ∈ ds, Shw d w k) (hl : ds.length ≤ m) : Shw (.list ds) (m * (w + 1)) (k + 1) := by
  obtain ⟨h1, h2, h3, h4, h5⟩ := shw_all ds h
  refine ⟨?_, ?_, ?_, ?_, ?_⟩
  · rw [PyData.leavesShort.eq_5]; exact h1
  · rw [PyData.weight.eq_2]; exact Nat.le_trans h2 (Nat.mul_le_mul_right _ hl)
  · rw [PyData.showable.eq_5]; exact h3
  · rw [PyData.hasDict.eq_5]; exact h4
  · rw [PyData.depth.eq_1]; omega
theorem repr_some {d : Da} {w k : Nat} (h : Shw d w k) (hr : isRef d = true) (hw : w ≤ 2 ^ 20) (hk : k ≤ 60) : gRepr [d] = some (.str d.shown) := by
  have ok : okRepr d = true := by
    unfold okRepr
    rw [h.lv, h.sh, h.nd, decide_eq_true (Nat.le_trans h.wt hw), decide_eq_true (Nat.le_trans h.dp hk)]
    rfl
  show (if isRef d = true ∧ okRepr d = true then some (PyData.str d.shown) else none) = _
  rw [if_pos ⟨hr, ok⟩]
theorem shw_dI {l : List Nat} (h : ∀ x ∈ l, x < 512) (hl : l.length ≤ 8) : Shw (.tuple (dI l)) 88 1 := shw_tup (m := 8) (w := 10) (k := 0) (fun d hd => by
  obtain ⟨x, hx, rfl⟩ := List.mem_map.mp hd
  exact shw_nat (h x hx)) (by rw [dI_len]; exact hl)
theorem asc_len {l : List Nat} {n : Nat} (hp : l.Pairwise (· < ·)) (h : ∀ x ∈ l, x < n) : l.length ≤ n := len_le (hp.imp fun h => by omega) h
theorem shw_net {N : Net} (h : Ok N) : Shw (dN N) 800 2 := (shw_tup (m := 8) (w := 88) (k := 1) (fun d hd => by
  obtain ⟨r, hr, rfl⟩ := List.mem_map.mp hd
  obtain ⟨i, hi⟩ := List.getElem?_of_mem hr
  obtain ⟨h1, h2, _⟩ := h.row i r hi
  have hh := h.hi
  exact shw_dI (fun x hx => by have := h2 x hx; omega) (Nat.le_trans (asc_len h1 h2) hh)) (by rw [List.length_map]; exact h.hi)).mono (by decide) (by decide)
end Nt

set_option Elab.async false
set_option linter.all false
set_option maxRecDepth 100000
namespace Nt
open PySem L2 Mir
theorem lay_all : ∀ (ds : List Da), (∀ d ∈ ds, d.canLay0 = true) → PyData.canLayAll0 ds = true
  | [], _ => rfl
  | d :: ds, h => by
    show (d.canLay0 && PyData.canLayAll0 ds) = true
    rw [h d (List.mem_cons_self ..), lay_all ds fun x hx => h x (List.mem_cons_of_mem _ hx)]
    rfl
theorem dep_all : ∀ (ds : List Da) (k : Nat), (∀ d ∈ ds, d.depth ≤ k) → PyData.depthAll ds ≤ k
  | [], _, _ => Nat.zero_le _
  | d :: ds, k, h => by
    rw [PyData.depthAll.eq_2]
    exact Nat.max_le.mpr ⟨h d (List.mem_cons_self ..), dep_all ds k fun x hx => h x (List.mem_cons_of_mem _ hx)⟩
theorem shaped_list {ds : List Da} (h : ∀ d ∈ ds, d.canLay0 = true ∧ d.depth ≤ 9) : SeqAt.shaped (.list ds) = true := by
  unfold SeqAt.shaped
  have := dep_all ds 9 fun d hd => (h d hd).2
  rw [PyData.canLay0.eq_5, lay_all ds fun d hd => (h d hd).1, PyData.depth.eq_1, decide_eq_true (by omega)]
  rfl
theorem shaped_tup {ds : List Da} (h : ∀ d ∈ ds, d.canLay0 = true ∧ d.depth ≤ 9) : SeqAt.shaped (.tuple ds) = true := by
  unfold SeqAt.shaped
  have := dep_all ds 9 fun d hd => (h d hd).2
  rw [PyData.canLay0.eq_6, lay_all ds fun d hd => (h d hd).1, PyData.depth.eq_2, decide_eq_true (by omega)]
  rfl
theorem ints_lay {l : List Nat} : ∀ d ∈ dI l, d.canLay0 = true ∧ d.depth ≤ 9 := fun d hd => by
  obtain ⟨x, hx, rfl⟩ := List.mem_map.mp hd
  exact ⟨rfl, by rw [PyData.depth.eq_6]; omega⟩
theorem eqv_nil {ds : List Da} : PyData.eqv (.list ds) (.list []) = ds.isEmpty := by
  cases ds <;> rfl
theorem nil_shaped : SeqAt.shaped (.list []) = true := shaped_list fun d hd => nomatch hd
theorem gne_list {ds : List Da} (h : ∀ d ∈ ds, d.canLay0 = true ∧ d.depth ≤ 9) : gNe (.list ds) (.list []) = some (.bool (!ds.isEmpty)) := by
  show (if SeqAt.shaped (.list ds) = true ∧ SeqAt.shaped (.list []) = true then some (PyData.eqv (.list ds) (.list [])) else none).map _ = _
  rw [if_pos ⟨shaped_list h, nil_shaped⟩, eqv_nil]
  rfl
theorem geq_list {ds : List Da} (h : ∀ d ∈ ds, d.canLay0 = true ∧ d.depth ≤ 9) : gEq (.list ds) (.list []) = some (.bool ds.isEmpty) := by
  show (if SeqAt.shaped (.list ds) = true ∧ SeqAt.shaped (.list []) = true then some (PyData.eqv (.list ds) (.list [])) else none).map _ = _
  rw [if_pos ⟨shaped_list h, nil_shaped⟩, eqv_nil]
  rfl
theorem dI_empty (l : List Nat) : (dI l).isEmpty = l.isEmpty := by cases l <;> rfl
theorem isEmpty_filter {l : List Nat} {p : Nat → Bool} : (!(l.filter p).isEmpty) = decide (∃ x ∈ l, p x = true) := by
  rw [Bool.eq_iff_iff, decide_eq_true_iff, Bool.not_eq_true', ← Bool.not_eq_true, List.isEmpty_iff, List.filter_eq_nil_iff]
  constructor
  · intro h
    refine Classical.byContradiction fun n => h fun x hx hp => n ⟨x, hx, hp⟩
  · rintro ⟨x, hx, hp⟩ h
    exact h x hx hp
end Nt

set_option Elab.async false
set_option linter.all false
set_option maxRecDepth 100000
namespace Nt
open PySem L2 Mir
/-! reaches of all components at once, widened turn by turn -/
structure Grw (N : Net) (k i : Nat) (S : List Nat) : Prop where
  nd : S.Nodup
  rch : ∀ x ∈ S, Rch N i x
  self : i ∈ S
  adj : ∀ y, Adj N i y → y ∈ S
  big : Closed N S ∨ k + 1 ≤ S.length
def GrwA (N : Net) (k : Nat) (L : List (List Nat)) : Prop := L.length = N.length ∧ ∀ (i : Nat) (S : List Nat), L[i]? = some S → Grw N k i S
theorem GrwA.at {N : Net} {k : Nat} {L : List (List Nat)} (g : GrwA N k L) {i : Nat} (hi : i < N.length) : ∃ S, L[i]? = some S ∧ Grw N k i S := by
  have h : i < L.length := by rw [g.1]; exact hi
  exact ⟨L[i], List.getElem?_eq_getElem h, g.2 i _ (List.getElem?_eq_getElem h)⟩
/-- the union of the sets of the members -/
def Uni (L : List (List Nat)) (S T : List Nat) : Prop := ∀ x, x ∈ T ↔ ∃ j ∈ S, ∃ U, L[j]? = some U ∧ x ∈ U
theorem Grw.next {N : Net} (h : Ok N) {k i : Nat} {L : List (List Nat)} (g : GrwA N k L) (hi : i < N.length) {S T : List Nat} (hS : L[i]? = some S) (nd : T.Nodup) (u : Uni L S T) : Grw N (k + 1) i T := by
  have gs := g.2 i S hS
  have sub : ∀ x ∈ S, x ∈ T := fun x hx => by
    obtain ⟨U, hU, gU⟩ := g.at ((gs.rch x hx).lt h hi)
    exact (u x).mpr ⟨x, hx, U, hU, gU.self⟩
  have rch : ∀ x ∈ T, Rch N i x := fun x hx => by
    obtain ⟨j, hj, U, hU, hx⟩ := (u x).mp hx
    exact (gs.rch j hj).trans ((g.2 j U hU).rch x hx)
  refine ⟨nd, rch, sub i gs.self, fun y hy => sub y (gs.adj y hy), ?_⟩
  by_cases c : Closed N S
  · refine .inl fun x hx y e => sub y (c x (rch_in gs.self c (rch x hx)) y e)
  · refine .inr ?_
    have : ∃ x ∈ S, ∃ y, Adj N x y ∧ y ∉ S := by
      refine Classical.byContradiction fun n => c fun x hx y e => Classical.byContradiction fun m => n ⟨x, hx, y, e, m⟩
    obtain ⟨x, hx, y, e, hy⟩ := this
    obtain ⟨U, hU, gU⟩ := g.at ((gs.rch x hx).lt h hi)
    have yT : y ∈ T := (u y).mpr ⟨x, hx, U, hU, gU.adj y e⟩
    have le : (y :: S).length ≤ T.length := (List.nodup_cons.mpr ⟨hy, gs.nd⟩).length_le_of_subset fun z hz => by
      rcases List.mem_cons.mp hz with rfl | hz
      · exact yT
      · exact sub z hz
    rcases gs.big with b | b
    · exact absurd b c
    · rw [List.length_cons] at le
      omega
theorem Grw.done {N : Net} (h : Ok N) {i : Nat} (hi : i < N.length) {S : List Nat} (g : Grw N N.length i S) : ∀ x, x ∈ S ↔ x ∈ far N i := by
  have c : Closed N S := by
    rcases g.big with b | b
    · exact b
    · have := len_le g.nd fun x hx => (g.rch x hx).lt h hi
      omega
  intro x
  rw [mem_far h hi]
  exact ⟨g.rch x, rch_in g.self c⟩
theorem Grw.start {N : Net} (h : Ok N) {i : Nat} {r : List Nat} (hr : N[i]? = some r) : Grw N 0 i (i :: r) := by
  obtain ⟨h1, h2, h3⟩ := h.row i r hr
  refine ⟨List.nodup_cons.mpr ⟨h3, h1.imp fun h => by omega⟩, fun x hx => ?_, List.mem_cons_self, fun y hy => ?_, .inr (by rw [List.length_cons]; omega)⟩
  · rcases List.mem_cons.mp hx with rfl | hx
    · exact .refl
    · exact .step .refl ⟨r, hr, hx⟩
  · obtain ⟨r', hr', hy⟩ := hy
    rw [hr] at hr'
    cases hr'
    exact List.mem_cons_of_mem _ hy
theorem Grw.len {N : Net} (h : Ok N) {k i : Nat} (hi : i < N.length) {S : List Nat} (g : Grw N k i S) : S.length ≤ N.length := len_le g.nd fun x hx => (g.rch x hx).lt h hi
end Nt

set_option Elab.async false
set_option linter.all false
set_option maxRecDepth 100000
namespace Nt
open PySem L2 Mir
/-! sets of numbers in the order of tuples, and how all explanations are listed -/
def toI (B : List Nat) : List Int := B.map Int.ofNat
def slt (a b : List Nat) : Prop := rlt (toI a) (toI b) = true
theorem toI_inj : ∀ {a b : List Nat}, toI a = toI b → a = b
  | [], [], _ => rfl
  | [], _ :: _, h => by cases h
  | _ :: _, [], h => by cases h
  | x :: a, y :: b, h => by
    have h' : Int.ofNat x :: toI a = Int.ofNat y :: toI b := h
    injection h' with h1 h2
    rw [Int.ofNat.inj h1, toI_inj h2]
theorem slt_irrefl (a : List Nat) : ¬ slt a a := fun h => by
  have := (PyProof.Rows.listOrd PyProof.Rows.intKind.toKeyOrd).irrefl (toI a)
  rw [show (PyProof.Rows.listOrd PyProof.Rows.intKind.toKeyOrd).blt (toI a) (toI a) = true from h] at this
  cases this
theorem slt_trans {a b c : List Nat} (h1 : slt a b) (h2 : slt b c) : slt a c := (PyProof.Rows.listOrd PyProof.Rows.intKind.toKeyOrd).trans _ _ _ h1 h2
theorem slt_total {a b : List Nat} (h1 : ¬ slt a b) (h2 : ¬ slt b a) : a = b :=
  toI_inj ((PyProof.Rows.listOrd PyProof.Rows.intKind.toKeyOrd).total _ _ (Bool.eq_false_iff.mpr h1 : rlt (toI a) (toI b) = false) (Bool.eq_false_iff.mpr h2 : rlt (toI b) (toI a) = false))
theorem slt_nil (x : Nat) (r : List Nat) : slt [] (x :: r) := rfl
theorem slt_cons {c : Nat} {a b : List Nat} (h : slt a b) : slt (c :: a) (c :: b) := by
  show PyProof.Rows.lexLt PyProof.Rows.intKind.toKeyOrd (Int.ofNat c :: toI a) (Int.ofNat c :: toI b) = true
  rw [PyProof.Rows.lexLt.eq_4]
  show (decide (Int.ofNat c < Int.ofNat c) || !decide (Int.ofNat c < Int.ofNat c) && rlt (toI a) (toI b)) = true
  rw [show rlt (toI a) (toI b) = true from h]
  simp
theorem slt_head {c d : Nat} (h : c < d) (a b : List Nat) : slt (c :: a) (d :: b) := by
  show PyProof.Rows.lexLt PyProof.Rows.intKind.toKeyOrd (Int.ofNat c :: toI a) (Int.ofNat d :: toI b) = true
  rw [PyProof.Rows.lexLt.eq_4]
  show (decide (Int.ofNat c < Int.ofNat d) || !decide (Int.ofNat d < Int.ofNat c) && rlt (toI a) (toI b)) = true
  have h' : Int.ofNat c < Int.ofNat d := Int.ofNat_lt.mpr h
  rw [decide_eq_true h']
  rfl
/-- two ascending lists of sets with the same members are one -/
theorem lists_one {l m : List (List Nat)} (hl : l.Pairwise slt) (hm : m.Pairwise slt) (e : ∀ x, x ∈ l ↔ x ∈ m) : l = m := by
  have n1 : l.Nodup := hl.imp fun {a b} (h : slt a b) (z : a = b) => by subst z; exact slt_irrefl _ h
  have n2 : m.Nodup := hm.imp fun {a b} (h : slt a b) (z : a = b) => by subst z; exact slt_irrefl _ h
  exact List.Perm.eq_of_pairwise (le := slt) (fun a b _ _ h1 h2 => absurd (slt_trans h1 h2) (slt_irrefl a)) hl hm ((List.perm_ext_iff_of_nodup n1 n2).mpr e)
def Meets (S G : List Nat) : Prop := ∃ x ∈ S, x ∈ G
/-- sets of the candidates seen, without those that can have nothing of a goal any more -/
structure All (Gs : List (List Nat)) (cs : List Nat) (E Fs : List (List Nat)) : Prop where
  em : E = [[]] ∧ (∀ G ∈ Gs, ∀ h, G.head? = some h → h ∉ cs) ∨ E = [] ∧ ∃ G ∈ Gs, ∃ h, G.head? = some h ∧ h ∈ cs
  srt : Fs.Pairwise slt
  mem : ∀ S, S ∈ Fs ↔ S ≠ [] ∧ S.Pairwise (· < ·) ∧ (∀ x ∈ S, x ∈ cs) ∧ ∀ G ∈ Gs, ∀ h, G.head? = some h → h ∈ cs → Meets S G
theorem All.start (Gs : List (List Nat)) : All Gs [] [[]] [] := ⟨.inl ⟨rfl, fun _ _ _ _ => List.not_mem_nil⟩, .nil, fun S => ⟨fun h => (by cases h), fun ⟨h1, _, h3, _⟩ => by
  cases S with
  | nil => exact absurd rfl h1
  | cons x r => exact absurd (h3 x (List.mem_cons_self ..)) List.not_mem_nil⟩⟩
/-- the goals that begin here -/
def begun (Gs : List (List Nat)) (c : Nat) : List (List Nat) := Gs.filter fun G => decide (G.head? = some c)
theorem mem_begun {Gs : List (List Nat)} {c : Nat} {G : List Nat} : G ∈ begun Gs c ↔ G ∈ Gs ∧ G.head? = some c := by
  unfold begun
  rw [List.mem_filter, decide_eq_true_iff]
open Classical in
noncomputable def meetB (S G : List Nat) : Bool := decide (Meets S G)
open Classical in
theorem meetB_iff {S G : List Nat} : meetB S G = true ↔ Meets S G := by
  unfold meetB
  exact decide_eq_true_iff
/-- what a candidate does to the lists -/
noncomputable def cut (Bs : List (List Nat)) (Fs : List (List Nat)) : List (List Nat) := Bs.foldl (fun F G => F.filter fun S => meetB S G) Fs
theorem mem_cut : ∀ (Bs Fs : List (List Nat)) (S : List Nat), S ∈ cut Bs Fs ↔ S ∈ Fs ∧ ∀ G ∈ Bs, Meets S G
  | [], Fs, S => by simp [cut]
  | G :: Bs, Fs, S => by
    show S ∈ cut Bs (Fs.filter fun S => meetB S G) ↔ _
    rw [mem_cut Bs, List.mem_filter, meetB_iff]
    constructor
    · rintro ⟨⟨h1, h2⟩, h3⟩
      refine ⟨h1, fun G' hG' => ?_⟩
      rcases List.mem_cons.mp hG' with rfl | hG'
      · exact h2
      · exact h3 G' hG'
    · rintro ⟨h1, h2⟩
      exact ⟨⟨h1, h2 G (List.mem_cons_self ..)⟩, fun G' hG' => h2 G' (List.mem_cons_of_mem _ hG')⟩
theorem cut_sub : ∀ (Bs Fs : List (List Nat)), (cut Bs Fs).Sublist Fs
  | [], Fs => List.Sublist.refl _
  | G :: Bs, Fs => by
    show (cut Bs (Fs.filter fun S => meetB S G)).Sublist Fs
    exact (cut_sub Bs _).trans List.filter_sublist
theorem All.step {Gs : List (List Nat)} {cs : List Nat} {E Fs : List (List Nat)} (a : All Gs cs E Fs) {c : Nat} (hc : ∀ x ∈ cs, c < x) (hG : ∀ G ∈ Gs, G.Pairwise (· < ·)) :
    All Gs (c :: cs) (if begun Gs c = [] then E else []) ((E ++ Fs).map (c :: ·) ++ cut (begun Gs c) Fs) := by
  have apart : ∀ G ∈ Gs, ∀ h, G.head? = some h → h ∈ cs → c ∉ G := fun G hg h hh hm hcG => by
    have := hc h hm
    cases G with
    | nil => cases hh
    | cons y r =>
      cases hh
      rcases List.mem_cons.mp hcG with rfl | q
      · omega
      · have := (List.pairwise_cons.mp (hG _ hg)).1 c q
        omega
  have headc : ∀ S ∈ Fs, ∃ x r, S = x :: r ∧ c < x := fun S hS => by
    obtain ⟨h1, _, h3, _⟩ := (a.mem S).mp hS
    cases S with
    | nil => exact absurd rfl h1
    | cons x r => exact ⟨x, r, rfl, hc x (h3 x (List.mem_cons_self ..))⟩
  have srtE : (E ++ Fs).Pairwise slt := by
    rcases a.em with ⟨e, _⟩ | ⟨e, _⟩
    · rw [e]
      refine List.pairwise_cons.mpr ⟨fun S hS => ?_, a.srt⟩
      obtain ⟨x, r, rfl, _⟩ := headc S hS
      exact slt_nil x r
    · rw [e]
      exact a.srt
  refine ⟨?_, ?_, fun S => ?_⟩
  · by_cases q : begun Gs c = []
    · rw [if_pos q]
      have none : ∀ G ∈ Gs, G.head? ≠ some c := fun G hg z => by
        have := mem_begun.mpr ⟨hg, z⟩
        rw [q] at this
        cases this
      rcases a.em with ⟨e, h⟩ | ⟨e, G, hg, h, hh, hm⟩
      · refine .inl ⟨e, fun G hg h hh hm => ?_⟩
        rcases List.mem_cons.mp hm with rfl | hm
        · exact none G hg hh
        · exact (‹∀ G ∈ Gs, ∀ h, G.head? = some h → h ∉ cs›) G hg h hh hm
      · exact .inr ⟨e, G, hg, h, hh, List.mem_cons_of_mem _ hm⟩
    · rw [if_neg q]
      obtain ⟨G, hG'⟩ := List.exists_mem_of_ne_nil _ q
      obtain ⟨h1, h2⟩ := mem_begun.mp hG'
      exact .inr ⟨rfl, G, h1, c, h2, List.mem_cons_self⟩
  · refine List.pairwise_append.mpr ⟨List.pairwise_map.mpr (srtE.imp slt_cons), a.srt.sublist (cut_sub _ _), fun S hS T hT => ?_⟩
    obtain ⟨S0, _, rfl⟩ := List.mem_map.mp hS
    obtain ⟨x, r, rfl, hx⟩ := headc T ((cut_sub _ _).subset hT)
    exact slt_head hx _ _
  · rw [List.mem_append, mem_cut, List.mem_map]
    constructor
    · rintro (⟨S0, h, rfl⟩ | ⟨h, hb⟩)
      · have S0f : (S0 = [] ∧ (∀ G ∈ Gs, ∀ h, G.head? = some h → h ∉ cs)) ∨ S0 ∈ Fs := by
          rcases List.mem_append.mp h with h | h
          · rcases a.em with ⟨e, n⟩ | ⟨e, _⟩
            · rw [e] at h
              exact .inl ⟨List.mem_singleton.mp h, n⟩
            · rw [e] at h
              cases h
          · exact .inr h
        rcases S0f with ⟨rfl, n⟩ | S0f
        · refine ⟨List.cons_ne_nil _ _, List.pairwise_singleton _ _, fun x hx => by rw [List.mem_singleton.mp hx]; exact List.mem_cons_self, fun G hg h hh hm => ?_⟩
          rcases List.mem_cons.mp hm with rfl | hm
          · exact ⟨h, List.mem_cons_self, List.mem_of_mem_head? hh⟩
          · exact absurd hm (n G hg h hh)
        · obtain ⟨h1, h2, h3, h4⟩ := (a.mem S0).mp S0f
          refine ⟨List.cons_ne_nil _ _, List.pairwise_cons.mpr ⟨fun x hx => hc x (h3 x hx), h2⟩, fun x hx => ?_, fun G hg h hh hm => ?_⟩
          · rcases List.mem_cons.mp hx with rfl | hx
            · exact List.mem_cons_self
            · exact List.mem_cons_of_mem _ (h3 x hx)
          · rcases List.mem_cons.mp hm with rfl | hm
            · exact ⟨h, List.mem_cons_self, List.mem_of_mem_head? hh⟩
            · obtain ⟨x, hx, hxG⟩ := h4 G hg h hh hm
              exact ⟨x, List.mem_cons_of_mem _ hx, hxG⟩
      · obtain ⟨h1, h2, h3, h4⟩ := (a.mem S).mp h
        refine ⟨h1, h2, fun x hx => List.mem_cons_of_mem _ (h3 x hx), fun G hg h hh hm => ?_⟩
        rcases List.mem_cons.mp hm with rfl | hm
        · exact hb G (mem_begun.mpr ⟨hg, hh⟩)
        · exact h4 G hg h hh hm
    · rintro ⟨h1, h2, h3, h4⟩
      by_cases q : c ∈ S
      · refine .inl ?_
        cases S with
        | nil => exact absurd rfl h1
        | cons y S0 =>
          have yc : y = c := by
            rcases List.mem_cons.mp (h3 y (List.mem_cons_self ..)) with e | hy
            · exact e
            · have := hc y hy
              rcases List.mem_cons.mp q with e | q
              · omega
              · have := (List.pairwise_cons.mp h2).1 c q
                omega
          subst yc
          have sub : ∀ x ∈ S0, x ∈ cs := fun x hx => by
            rcases List.mem_cons.mp (h3 x (List.mem_cons_of_mem _ hx)) with e | hx'
            · have := (List.pairwise_cons.mp h2).1 x hx
              omega
            · exact hx'
          have met : ∀ G ∈ Gs, ∀ h, G.head? = some h → h ∈ cs → Meets S0 G := fun G hg h hh hm => by
            obtain ⟨x, hx, hxG⟩ := h4 G hg h hh (List.mem_cons_of_mem _ hm)
            rcases List.mem_cons.mp hx with rfl | hx
            · exact absurd hxG (apart G hg h hh hm)
            · exact ⟨x, hx, hxG⟩
          refine ⟨S0, ?_, rfl⟩
          by_cases z : S0 = []
          · refine List.mem_append_left _ ?_
            rcases a.em with ⟨e, _⟩ | ⟨_, G, hg, h, hh, hm⟩
            · rw [e, z]
              exact List.mem_singleton.mpr rfl
            · obtain ⟨x, hx, _⟩ := met G hg h hh hm
              rw [z] at hx
              cases hx
          · exact List.mem_append_right _ ((a.mem S0).mpr ⟨z, (List.pairwise_cons.mp h2).2, sub, met⟩)
      · refine .inr ⟨(a.mem S).mpr ⟨h1, h2, fun x hx => ?_, fun G hg h hh hm => h4 G hg h hh (List.mem_cons_of_mem _ hm)⟩, fun G hg => ?_⟩
        · rcases List.mem_cons.mp (h3 x hx) with e | hx'
          · exact absurd (e ▸ hx) q
          · exact hx'
        · obtain ⟨g1, g2⟩ := mem_begun.mp hg
          exact h4 G g1 c g2 List.mem_cons_self
/-- at the end: all sets of candidates that meet all goals, ascending -/
theorem All.end {Gs : List (List Nat)} {cs : List Nat} {E Fs : List (List Nat)} (a : All Gs cs E Fs) (hG : ∀ G ∈ Gs, ∃ h, G.head? = some h ∧ h ∈ cs) :
    (E ++ Fs).Pairwise slt ∧ ∀ S, S ∈ E ++ Fs ↔ S.Pairwise (· < ·) ∧ (∀ x ∈ S, x ∈ cs) ∧ ∀ G ∈ Gs, Meets S G := by
  constructor
  · rcases a.em with ⟨e, _⟩ | ⟨e, _⟩
    · rw [e]
      refine List.pairwise_cons.mpr ⟨fun S hS => ?_, a.srt⟩
      obtain ⟨h1, _⟩ := (a.mem S).mp hS
      cases S with
      | nil => exact absurd rfl h1
      | cons x r => exact slt_nil x r
    · rw [e]
      exact a.srt
  · intro S
    rw [List.mem_append, a.mem]
    constructor
    · rintro (h | ⟨_, h2, h3, h4⟩)
      · rcases a.em with ⟨e, n⟩ | ⟨e, _⟩
        · rw [e] at h
          rw [List.mem_singleton.mp h]
          refine ⟨.nil, fun x hx => (by cases hx), fun G hg => ?_⟩
          obtain ⟨h, hh, hm⟩ := hG G hg
          exact absurd hm (n G hg h hh)
        · rw [e] at h
          cases h
      · refine ⟨h2, h3, fun G hg => ?_⟩
        obtain ⟨h, hh, hm⟩ := hG G hg
        exact h4 G hg h hh hm
    · rintro ⟨h2, h3, h4⟩
      by_cases z : S = []
      · refine .inl ?_
        rcases a.em with ⟨e, _⟩ | ⟨_, G, hg, _⟩
        · rw [e, z]
          exact List.mem_singleton.mpr rfl
        · obtain ⟨x, hx, _⟩ := h4 G hg
          rw [z] at hx
          cases hx
      · exact .inr ⟨z, h2, h3, fun G hg _ _ _ => h4 G hg⟩
end Nt

set_option Elab.async false
set_option linter.all false
set_option maxRecDepth 100000
namespace Nt
/-! reaches of all components at once, by what lies in between -/
inductive Via (N : Net) (m : Nat) : Nat → Nat → Prop
  | self {i : Nat} : Via N m i i
  | adj {i j : Nat} : Adj N i j → Via N m i j
  | thru {i k j : Nat} : Via N m i k → k < m → Via N m k j → Via N m i j
theorem Via.mono {N : Net} {m i j : Nat} (h : Via N m i j) : Via N (m + 1) i j := by
  induction h with
  | self => exact .self
  | adj e => exact .adj e
  | thru _ hk _ ih1 ih2 => exact .thru ih1 (Nat.lt_succ_of_lt hk) ih2
theorem via_zero {N : Net} {i j : Nat} : Via N 0 i j ↔ Adj N i j ∨ j = i := by
  constructor
  · intro h
    cases h with
    | self => exact .inr rfl
    | adj e => exact .inl e
    | thru _ hk _ => exact absurd hk (Nat.not_lt_zero _)
  · rintro (e | rfl)
    · exact .adj e
    · exact .self
theorem via_succ {N : Net} {m i j : Nat} : Via N (m + 1) i j ↔ Via N m i j ∨ (Via N m i m ∧ Via N m m j) := by
  constructor
  · intro h
    induction h with
    | self => exact .inl .self
    | adj e => exact .inl (.adj e)
    | @thru i k j _ hk _ ih1 ih2 =>
      by_cases q : k = m
      · subst q
        refine .inr ⟨?_, ?_⟩
        · rcases ih1 with h | h
          · exact h
          · exact h.1
        · rcases ih2 with h | h
          · exact h
          · exact h.2
      · have lt : k < m := by omega
        rcases ih1 with a | b
        · rcases ih2 with c | d
          · exact .inl (.thru a lt c)
          · exact .inr ⟨.thru a lt d.1, d.2⟩
        · rcases ih2 with c | d
          · exact .inr ⟨b.1, .thru b.2 lt c⟩
          · exact .inr ⟨b.1, d.2⟩
  · rintro (h | ⟨h1, h2⟩)
    · exact h.mono
    · exact .thru h1.mono (Nat.lt_succ_self m) h2.mono
theorem via_end {N : Net} {i j : Nat} : Via N N.length i j ↔ Rch N i j := by
  constructor
  · intro h
    induction h with
    | self => exact .refl
    | adj e => exact .step .refl e
    | thru _ _ _ ih1 ih2 => exact ih1.trans ih2
  · intro h
    induction h with
    | refl => exact .self
    | step _ e ih =>
      have lt : ∀ {a b}, Adj N a b → a < N.length := fun ⟨r, hr, _⟩ => (List.getElem?_eq_some_iff.mp hr).1
      exact .thru ih (lt e) (.adj e)
structure War (N : Net) (m : Nat) (fs : List Nat) : Prop where
  len : fs.length = N.length
  bit : ∀ (i b : Nat), fs[i]? = some b → ∀ j, b.testBit j = true ↔ Via N m i j
theorem War.skip {N : Net} {m : Nat} {fs : List Nat} (w : War N m fs) (h : fs[m]? = some (2 ^ m)) : War N (m + 1) fs := ⟨w.len, fun i b hb j => by
  rw [w.bit i b hb j, via_succ]
  constructor
  · exact .inl
  · rintro (h1 | ⟨h1, h2⟩)
    · exact h1
    · have := (w.bit m _ h j).mpr h2
      rw [two_bit] at this
      rw [this]
      exact h1⟩
def warS (m t : Nat) (b : Nat) : Nat := if b.testBit m = true then b ||| t else b
theorem War.go {N : Net} {m t : Nat} {fs : List Nat} (w : War N m fs) (h : fs[m]? = some t) : War N (m + 1) (fs.map (warS m t)) := ⟨by rw [List.length_map, w.len], fun i b hb j => by
  rw [List.getElem?_map] at hb
  obtain ⟨c, hc, rfl⟩ := Option.map_eq_some_iff.mp hb
  rw [via_succ, ← w.bit i c hc j, ← w.bit i c hc m, ← w.bit m t h j]
  unfold warS
  by_cases q : c.testBit m = true
  · rw [if_pos q, Nat.testBit_or, Bool.or_eq_true]
    exact ⟨fun h => h.imp id fun h => ⟨q, h⟩, fun h => h.imp id fun h => h.2⟩
  · rw [if_neg q]
    exact ⟨.inl, fun h => h.elim id fun h => absurd h.1 q⟩⟩
theorem and_two {b m : Nat} : (b &&& 2 ^ m) ≠ 0 ↔ b.testBit m = true := by
  rw [and_ne]
  constructor
  · rintro ⟨i, h1, h2⟩
    rw [two_bit] at h2
    exact h2 ▸ h1
  · exact fun h => ⟨m, h, (two_bit m m).mpr rfl⟩
theorem diff_zero {a b : Nat} (ha : a < 256) (hb : b < 256) : a - (a &&& b) = 0 ↔ ∀ i, a.testBit i = true → b.testBit i = true := by
  constructor
  · intro h i hi
    have := diff_bit ha hb i
    rw [h, Nat.zero_testBit, hi, Bool.true_and] at this
    cases q : b.testBit i with
    | true => rfl
    | false => rw [q] at this; cases this
  · intro h
    refine Nat.eq_of_testBit_eq fun i => ?_
    rw [diff_bit ha hb i, Nat.zero_testBit]
    cases q : a.testBit i with
    | false => rfl
    | true => rw [h i q]; rfl
end Nt

set_option Elab.async false
set_option linter.all false
set_option maxRecDepth 100000
namespace MirT
open PySem L2 Mir Nt
theorem rng_at {n i : Nat} {d : Da} (h : (dI (List.range n))[i]? = some d) : i < n ∧ d = .int (i : Int) := by
  rw [dI_get] at h
  obtain ⟨j, hj, rfl⟩ := Option.map_eq_some_iff.mp h
  obtain ⟨h1, h2⟩ := List.getElem?_eq_some_iff.mp hj
  rw [List.length_range] at h1
  rw [List.getElem_range] at h2
  exact ⟨h1, by rw [h2]⟩
theorem log2_lt {n : Nat} (k : Nat) (h : n < 2 ^ k) (hk : 0 < k) : n.log2 < k := by
  by_cases e : n = 0
  · subst e; exact hk
  · exact (Nat.log2_lt e).mpr h
theorem mul_ok {i j : Int} (h1 : 0 ≤ i) (h2 : i < 18446744073709551616) (h3 : 0 ≤ j) (h4 : j < 18446744073709551616) : cMul i j = true := by
  have a : i.natAbs.log2 < 64 := log2_lt 64 (by omega) (by omega)
  have b : j.natAbs.log2 < 64 := log2_lt 64 (by omega) (by omega)
  exact decide_eq_true (by omega)
theorem div_ok {i j : Int} (h3 : 0 < j) (h4 : j < 18446744073709551616) : cDiv i j = true := by
  have b : j.natAbs.log2 < 64 := log2_lt 64 (by omega) (by omega)
  exact decide_eq_true (p := 0 < j ∧ j.natAbs.log2 < 9000) ⟨h3, by omega⟩
theorem mod_ok {i j : Int} (h3 : 0 < j) : cMod i j = true := decide_eq_true h3
theorem ix3_0 {x y z : Da} : gIx (.list [x, y, z]) (.int 0) = some x := rfl
theorem ix3_1 {x y z : Da} : gIx (.list [x, y, z]) (.int 1) = some y := rfl
theorem ix3_2 {x y z : Da} : gIx (.list [x, y, z]) (.int 2) = some z := rfl
theorem ixN_0 : ixN 3 0 = some 0 := rfl
theorem ixN_1 : ixN 3 1 = some 1 := rfl
theorem ixN_2 : ixN 3 2 = some 2 := rfl
/-- the drawing list: three numbers in their bounds; at most c draws so far -/
def Pen (c : Nat) (l : List Da) : Prop := ∃ a b k : Int, l = [.int a, .int b, .int k] ∧ 0 ≤ a ∧ 0 ≤ b ∧ b < 2147483648 ∧ 0 ≤ k ∧ k ≤ (c : Int)
theorem Pen.mono {c e : Nat} {l : List Da} (h : Pen c l) (le : c ≤ e) : Pen e l := let ⟨a, b, k, h1, h2, h3, h4, h5, h6⟩ := h; ⟨a, b, k, h1, h2, h3, h4, h5, by omega⟩
/-- a row of a drawn net: of component i of s -/
def Good (s i : Nat) (r : List Nat) : Prop := r.Pairwise (· < ·) ∧ ∀ x ∈ r, x < s ∧ x ≠ i
theorem Good.sub {s i : Nat} {r q : List Nat} (h : Good s i r) (sb : q.Sublist r) : Good s i q := ⟨h.1.sublist sb, fun x hx => h.2 x (sb.subset hx)⟩
theorem Good.filter {s i : Nat} {r : List Nat} (h : Good s i r) (f : Nat → Bool) : Good s i (r.filter f) := h.sub (List.filter_sublist)
/-- a test of numbers, told on values -/
def onI (f : Nat → Bool) : Da → Bool
  | .int k => f k.toNat
  | _ => false
theorem onI_nat (f : Nat → Bool) (x : Nat) : onI f (.int (x : Int)) = f x := by
  show f ((x : Int)).toNat = f x
  rw [Int.toNat_natCast]
theorem filter_dI (f : Nat → Bool) (r : List Nat) : ((dI r).filter (onI f)).map (fun d => d) = dI (r.filter f) := by
  rw [List.map_id']
  unfold dI
  rw [List.filter_map]
  refine congrArg _ (List.filter_congr fun x _ => ?_)
  exact onI_nat f x
theorem sset_dI {l : List Nat} {n : Nat} (h : ∀ x ∈ l, x < n) (hl : l.length < 64) : ∃ T : List Nat, gSset (.list (dI l)) = some (dI T) ∧ T.Pairwise (· < ·) ∧ ∀ x, x ∈ T ↔ x ∈ l := by
  refine ⟨(List.range n).filter fun x => decide (x ∈ l), ?_, List.Pairwise.filter _ List.pairwise_lt_range, fun x => ?_⟩
  · show (intsD (dI l)).bind (fun ns => if ns.length < 64 then some ((sset ns).map PyData.int) else none) = _
    rw [dI_eq l, Nt.intsD_map]
    show (if _ < 64 then _ else none) = _
    rw [if_pos (by rw [List.length_map]; exact hl)]
    have e : sset (l.map fun (i : Nat) => (i : Int)) = ((List.range n).filter fun x => decide (x ∈ l)).map fun (i : Nat) => (i : Int) := by
      refine sset_one (sset_sorted _) (List.pairwise_map.mpr ((List.Pairwise.filter _ List.pairwise_lt_range).imp (fun h => by omega))) fun k => ?_
      rw [mem_sset]
      constructor
      · intro hk
        obtain ⟨x, hx, rfl⟩ := List.mem_map.mp hk
        exact List.mem_map.mpr ⟨x, List.mem_filter.mpr ⟨List.mem_range.mpr (h x hx), decide_eq_true hx⟩, rfl⟩
      · intro hk
        obtain ⟨x, hx, rfl⟩ := List.mem_map.mp hk
        exact List.mem_map.mpr ⟨x, of_decide_eq_true (List.mem_filter.mp hx).2, rfl⟩
    rw [e, ← dI_eq]
  · rw [List.mem_filter, List.mem_range, decide_eq_true_iff]
    exact ⟨fun z => z.2, fun z => ⟨h x z, z⟩⟩
theorem set_eq {k : Nat} {g : Md Da} {ρ ρ1 : Sto} {d : Da} (h : g ρ = some (d, ρ1)) : mSet k g ρ = some (.nx (ρ1.set k (some d))) := by
  unfold mSet mDo
  rw [h]
theorem ofL_eq {g : Md (List Da)} {ρ ρ1 : Sto} {ds : List Da} (h : g ρ = some (ds, ρ1)) : mOfL g ρ = some (.list ds, ρ1) := by
  unfold mOfL mBind
  rw [h]
  rfl
theorem op_eq2 {g : Da → Da → Option Da} {fa fb : Md Da} {ρ ρ1 ρ2 : Sto} {x y z : Da} (h1 : fa ρ = some (x, ρ1)) (h2 : fb ρ1 = some (y, ρ2)) (h3 : g x y = some z) : mOp g fa fb ρ = some (z, ρ2) := by
  unfold mOp mBind
  simp only [h1, h2, mOpt, h3]
theorem bindo_eq {α β : Type} {g : Md α} {k : α → Option β} {ρ ρ1 : Sto} {x : α} {y : β} (h1 : g ρ = some (x, ρ1)) (h2 : k x = some y) : mBind g (fun d => mOpt (k d)) ρ = some (y, ρ1) := by
  unfold mBind
  simp only [h1, mOpt, h2]
theorem cons_eq {f : Md Da} {g : Md (List Da)} {ρ ρ1 ρ2 : Sto} {d : Da} {ds : List Da} (h1 : f ρ = some (d, ρ1)) (h2 : g ρ1 = some (ds, ρ2)) : mCons f g ρ = some (d :: ds, ρ2) := by
  unfold mCons mBind
  simp only [h1, h2, mRet]
theorem nil_eq {ρ : Sto} : mNil ρ = some ([], ρ) := rfl
theorem call_eq {g : List Da → Option Da} {fs : Md (List Da)} {ρ ρ1 : Sto} {ds : List Da} {d : Da} (h1 : fs ρ = some (ds, ρ1)) (h2 : g ds = some d) : mCall g fs ρ = some (d, ρ1) := by
  unfold mCall mBind
  simp only [h1, mOpt, h2]
theorem rt_eq {g : Md Da} {ρ ρ1 : Sto} {d : Da} (h : g ρ = some (d, ρ1)) : mRt g ρ = some (.rt d ρ1) := by
  unfold mRt mDo
  rw [h]
theorem filtV {v : Nat} {fi : Md (List Da)} {tt : Md Bool} {ρ : Sto} {r : List Nat} (f : Nat → Bool) (h1 : fi ρ = some (dI r, ρ)) (hv : v < ρ.length) (hz : r.length ≤ 100000)
    (ht : ∀ y ∈ r, tt (ρ.set v (some (.int (y : Int)))) = some (f y, ρ.set v (some (.int (y : Int))))) : mLc fi (fName v) tt (mVar v) [v] ρ = some (dI (r.filter f), ρ) := by
  rw [← filter_dI]
  refine lc_pure (onI f) (fun d => d) h1 hv (by rw [dI_len]; exact hz) fun d hd => ?_
  obtain ⟨y, hy, rfl⟩ := List.mem_map.mp hd
  rw [onI_nat]
  refine ⟨ht y hy, fun _ => ?_⟩
  unfold mVar
  rw [List.getElem?_set_self hv]
theorem rngL {N : Net} (hN : Ok N) {v : Nat} {ρ : Sto} (h : ρ[v]? = some (some (dN N))) : (mBind (mCons (mCall gLen (mCons (mVar v) mNil)) mNil) fun ds => mOpt (rng1 ds)) ρ = some (dI (List.range N.length), ρ) := by
  have := hN.hi
  simp only [mBind, mCons, mCall, mNil, mRet, mVar, h, len_dN, mOpt, rng_dI N.length (by omega)]
theorem asg_eq {g : Md Da} {ft : Da → Sto → Option Sto} {ρ ρ1 ρ2 : Sto} {d : Da} (h1 : g ρ = some (d, ρ1)) (h2 : ft d ρ1 = some ρ2) : mAsg g ft ρ = some (.nx ρ2) := by
  unfold mAsg mDo
  simp only [h1, h2]
theorem tup_eq {f : Md (List Da)} {ρ ρ1 : Sto} {ds : List Da} (h1 : f ρ = some (ds, ρ1)) (hz : ds.length ≤ 100000) : mTup f ρ = some (.tuple ds, ρ1) := by
  unfold mTup mBind sized
  simp only [h1, mOpt, if_pos hz, Option.map_some]
theorem for_all (P : Sto → Prop) {ft : Da → Sto → Option Sto} {b : Sm} (ds : List Da) (step : ∀ d ∈ ds, ∀ ρ, P ρ → ∃ ρ1 ρ2, ft d ρ = some ρ1 ∧ b ρ1 = some (.nx ρ2) ∧ P ρ2) (ρ : Sto) (p : P ρ) : ∃ ρ', mForL ft b ds ρ = some (.nx ρ') ∧ P ρ' := by
  obtain ⟨ρ', e, q⟩ := for_inv (ft := ft) (b := b) (fun _ ρ => P ρ) ds (fun i d ρ hd q => by
    obtain ⟨ρ1, ρ2, h1, h2, h3⟩ := step d (List.mem_of_getElem? hd) ρ q
    exact ⟨ρ1, ρ2, h1, .inl h2, h3⟩) ds 0 ρ rfl (Nat.zero_le _) p
  exact ⟨ρ', e, q⟩
theorem rngD_mem {n : Int} {d : Da} (h : d ∈ rngD 0 n) : ∃ k : Int, d = .int k ∧ 0 ≤ k := by
  unfold rngD at h
  obtain ⟨i, hi, rfl⟩ := List.mem_map.mp h
  exact ⟨_, rfl, by omega⟩
/-- a comprehension, any target, that changes nothing but its own slots -/
theorem lcl_gen {ft : Da → Sto → Option Sto} {tt : Md Bool} {te : Md Da} {vs : List Nat} {ρ0 : Sto} (t : Da → Bool) (e : Da → Da) : ∀ (ds acc : List Da), acc.length + ds.length ≤ 100000 →
    (∀ d ∈ ds, ∃ ρ1, ft d ρ0 = some ρ1 ∧ tt ρ1 = some (t d, ρ1) ∧ (t d = true → te ρ1 = some (e d, ρ1)) ∧ wipeS ρ1 vs = ρ0) → mLcL ft tt te vs ds acc ρ0 = some (acc ++ (ds.filter t).map e, ρ0)
  | [], acc, _, _ => by simp [mLcL]
  | d :: ds, acc, hz, h => by
    obtain ⟨ρ1, h1, h2, h3, h4⟩ := h d (List.mem_cons_self ..)
    have hz' : acc.length + (ds.length + 1) ≤ 100000 := hz
    have tl := fun x hx => h x (List.mem_cons_of_mem d hx)
    unfold mLcL
    cases ht : t d with
    | false =>
      rw [ht] at h2
      simp only [h1, h2, h4]
      rw [lcl_gen t e ds acc (by omega) tl, List.filter_cons_of_neg (by rw [ht]; exact Bool.false_ne_true)]
    | true =>
      rw [ht] at h2
      simp only [h1, h2, h3 ht, h4]
      rw [if_pos (by omega), lcl_gen t e ds (acc ++ [e d]) (by rw [List.length_append]; show acc.length + 1 + ds.length ≤ _; omega) tl, List.filter_cons_of_pos ht]
      simp
theorem lc_gen {fi : Md (List Da)} {ft : Da → Sto → Option Sto} {tt : Md Bool} {te : Md Da} {vs : List Nat} {ρ ρ1 : Sto} {ds : List Da} (t : Da → Bool) (e : Da → Da) (h1 : fi ρ = some (ds, ρ1)) (hr : restS ρ1 (wipeS ρ1 vs) vs = ρ1) (hz : ds.length ≤ 100000)
    (h : ∀ d ∈ ds, ∃ ρ2, ft d (wipeS ρ1 vs) = some ρ2 ∧ tt ρ2 = some (t d, ρ2) ∧ (t d = true → te ρ2 = some (e d, ρ2)) ∧ wipeS ρ2 vs = wipeS ρ1 vs) : mLc fi ft tt te vs ρ = some ((ds.filter t).map e, ρ1) := by
  unfold mLc mBind
  simp only [h1]
  rw [lcl_gen t e ds [] (by simpa using hz) h]
  simp only [hr, List.nil_append]
theorem mb_eq {f : Md Da} {ρ ρ1 : Sto} {b : Bool} (h : f ρ = some (.bool b, ρ1)) : mB f ρ = some (b, ρ1) := by
  unfold mB mBind
  simp only [h, isB, mOpt]
theorem far_lt {N : Net} (hN : Ok N) {a : Nat} : (∀ x ∈ far N a, x < N.length) ∧ (far N a).length ≤ 8 := by
  have h1 : ∀ x ∈ far N a, x < N.length := fun x hx => List.mem_range.mp (List.mem_filter.mp hx).1
  exact ⟨h1, Nat.le_trans (asc_len (far_sorted N a) h1) hN.hi⟩
theorem shw_far {N : Net} (hN : Ok N) (a : Nat) : Shw (.tuple (dI (far N a))) 88 1 := by
  have h8 := hN.hi
  exact shw_dI (fun x hx => by have := (far_lt hN).1 x hx; omega) (far_lt hN).2
/-! ### drawn sets -/
/-- a set of some of n components -/
def Sub (n : Nat) (l : List Nat) : Prop := l.Pairwise (· < ·) ∧ ∀ x ∈ l, x < n
theorem Sub.of {n : Nat} {l : List Nat} (h : l.Sublist (List.range n)) : Sub n l := ⟨List.pairwise_lt_range.sublist h, fun x hx => List.mem_range.mp (h.subset hx)⟩
theorem Sub.len {n : Nat} {l : List Nat} (h : Sub n l) : l.length ≤ n := asc_len h.1 h.2
theorem Sub.nil (n : Nat) : Sub n [] := ⟨.nil, fun x hx => nomatch hx⟩
theorem Sub.all (n : Nat) : Sub n (List.range n) := .of (List.Sublist.refl _)
theorem Sub.one {n i : Nat} (h : i < n) : Sub n [i] := ⟨List.pairwise_singleton _ _, fun x hx => by rw [List.mem_singleton.mp hx]; exact h⟩
theorem Sub.shw {n : Nat} {l : List Nat} (h : Sub n l) (h8 : n ≤ 8) : Shw (.tuple (dI l)) 88 1 := shw_dI (fun x hx => by have := h.2 x hx; omega) (Nat.le_trans h.len h8)
/-- the components with one of B in their reach -/
noncomputable def hit (N : Net) (B : List Nat) : List Nat := (List.range N.length).filter fun x => !((far N x).filter fun y => decide (y ∈ B)).isEmpty
theorem mem_hit {N : Net} (hN : Ok N) {B : List Nat} {x : Nat} : x ∈ hit N B ↔ x < N.length ∧ ∃ b ∈ B, Rch N x b := by
  unfold hit
  rw [List.mem_filter, List.mem_range]
  refine and_congr_right fun hx => ?_
  rw [isEmpty_filter, decide_eq_true_iff]
  constructor
  · rintro ⟨y, h1, h2⟩
    exact ⟨y, of_decide_eq_true h2, (mem_far hN hx).mp h1⟩
  · rintro ⟨y, h1, h2⟩
    exact ⟨y, (mem_far hN hx).mpr h2, decide_eq_true h1⟩
theorem hit_sub (N : Net) (B : List Nat) : Sub N.length (hit N B) := .of List.filter_sublist
/-! ### reports -/
def IsW (w : Str) : Prop := w = "alarm" ∨ w = "quiet" ∨ w = "unseen"
def dR (R : List Str) : Da := .tuple (R.map .str)
/-- the components with a word -/
def withs (R : List Str) (w : Str) : List Nat := (List.range R.length).filter fun i => decide (R[i]? = some w)
theorem mem_withs {R : List Str} {w : Str} {i : Nat} : i ∈ withs R w ↔ R[i]? = some w := by
  unfold withs
  rw [List.mem_filter, List.mem_range, decide_eq_true_iff]
  exact ⟨fun h => h.2, fun h => ⟨(List.getElem?_eq_some_iff.mp h).1, h⟩⟩
theorem withs_sub (R : List Str) (w : Str) : Sub R.length (withs R w) := .of List.filter_sublist
theorem gEq_str (x y : Str) : gEq (.str x) (.str y) = some (.bool (decide (x = y))) := rfl
theorem gNe_str (x y : Str) : gNe (.str x) (.str y) = some (.bool (!decide (x = y))) := rfl
/-- the components that are in the reach of no quiet one -/
noncomputable def cand (N : Net) (R : List Str) : List Nat := (List.range N.length).filter fun x => ((withs R "quiet").filter fun q => decide (x ∈ far N q)).isEmpty
theorem cand_sub (N : Net) (R : List Str) : Sub N.length (cand N R) := .of List.filter_sublist
theorem mem_cand {N : Net} (hN : Ok N) {R : List Str} (hR : R.length = N.length) {x : Nat} : x ∈ cand N R ↔ x < N.length ∧ ∀ q, R[q]? = some ("quiet" : Str) → ¬ Rch N q x := by
  unfold cand
  rw [List.mem_filter, List.mem_range, List.isEmpty_iff, List.filter_eq_nil_iff]
  refine and_congr_right fun hx => ?_
  constructor
  · intro h q hq r
    have lt : q < N.length := by rw [← hR]; exact (List.getElem?_eq_some_iff.mp hq).1
    exact h q (mem_withs.mpr hq) (decide_eq_true ((mem_far hN lt).mpr r))
  · intro h q hq hd
    have hq' := mem_withs.mp hq
    have lt : q < N.length := by rw [← hR]; exact (List.getElem?_eq_some_iff.mp hq').1
    exact h q hq' ((mem_far hN lt).mp (of_decide_eq_true hd))
theorem filter_snoc {p : Nat → Bool} (k : Nat) : (List.range (k + 1)).filter p = if p k = true then (List.range k).filter p ++ [k] else (List.range k).filter p := by
  rw [List.range_succ, List.filter_append, List.filter_cons]
  split <;> simp
/-- a report of n components -/
def Rep (n : Nat) (R : List Str) : Prop := R.length = n ∧ ∀ w ∈ R, IsW w
theorem shw_rep {n : Nat} {R : List Str} (h : Rep n R) (h8 : n ≤ 8) : Shw (dR R) 88 1 := shw_tup (m := 8) (w := 10) (k := 0) (fun d hd => by
  obtain ⟨w, hw, rfl⟩ := List.mem_map.mp hd
  rcases h.2 w hw with rfl | rfl | rfl
  · exact shw_of (by decide +kernel)
  · exact shw_of (by decide +kernel)
  · exact shw_of (by decide +kernel)) (by rw [List.length_map, h.1]; exact h8)
end MirT

set_option Elab.async false
set_option linter.all false
set_option maxRecDepth 100000
namespace MirT
open PySem L2 Mir Nt
theorem band_nn (a b : Nat) : Builtin.bitAnd (a : Int) (b : Int) = ((a &&& b : Nat) : Int) := by
  unfold Builtin.bitAnd
  rw [decide_eq_true (show (0 : Int) ≤ (a : Int) by omega), decide_eq_true (show (0 : Int) ≤ (b : Int) by omega)]
  show ((((a : Int)).toNat &&& ((b : Int)).toNat : Nat) : Int) = _
  rw [Int.toNat_natCast, Int.toNat_natCast]
theorem bnot_bnot (x : Int) : Builtin.bitNot (Builtin.bitNot x) = x := by
  show - (-x - 1) - 1 = x
  omega
theorem bnot_neg (a : Nat) : decide ((0 : Int) ≤ Builtin.bitNot (a : Int)) = false := decide_eq_false (by show ¬ (0 : Int) ≤ -(a : Int) - 1; omega)
theorem bor_nn (a b : Nat) : Builtin.bitOr (a : Int) (b : Int) = ((a ||| b : Nat) : Int) := by
  unfold Builtin.bitOr Builtin.bitAnd
  rw [bnot_neg, bnot_neg]
  show Builtin.bitNot (Builtin.bitNot (((Builtin.bitNot (Builtin.bitNot (a : Int))).toNat ||| (Builtin.bitNot (Builtin.bitNot (b : Int))).toNat : Nat) : Int)) = _
  rw [bnot_bnot, bnot_bnot, bnot_bnot, Int.toNat_natCast, Int.toNat_natCast]
theorem bdiff_nn (a b : Nat) : Builtin.bitAnd (a : Int) (Builtin.bitNot (b : Int)) = ((a - (a &&& b) : Nat) : Int) := by
  unfold Builtin.bitAnd
  rw [bnot_neg, decide_eq_true (show (0 : Int) ≤ (a : Int) by omega)]
  show (a : Int) - ((((a : Int)).toNat &&& (Builtin.bitNot (Builtin.bitNot (b : Int))).toNat : Nat) : Int) = _
  rw [bnot_bnot, Int.toNat_natCast, Int.toNat_natCast]
  have := Nat.and_le_left (n := a) (m := b)
  omega
theorem g_band (a b : Nat) : gBAnd (.int (a : Int)) (.int (b : Int)) = some (.int ((a &&& b : Nat) : Int)) := by
  show some (PyData.int (Builtin.bitAnd (a : Int) (b : Int))) = _
  rw [band_nn]
theorem g_bor (a b : Nat) : gBOr (.int (a : Int)) (.int (b : Int)) = some (.int ((a ||| b : Nat) : Int)) := by
  show some (PyData.int (Builtin.bitOr (a : Int) (b : Int))) = _
  rw [bor_nn]
theorem g_bnot (a : Nat) : gBNot (.int (a : Int)) = some (.int (Builtin.bitNot (a : Int))) := rfl
theorem g_bdiff (a b : Nat) : gBAnd (.int (a : Int)) (.int (Builtin.bitNot (b : Int))) = some (.int ((a - (a &&& b) : Nat) : Int)) := by
  show some (PyData.int (Builtin.bitAnd (a : Int) (Builtin.bitNot (b : Int)))) = _
  rw [bdiff_nn]
theorem two_cast (k : Nat) : ((2 ^ k : Nat) : Int) = (2 : Int) ^ k := by rw [Int.natCast_pow]; rfl
theorem two_lt {k : Nat} (h : k ≤ 20) : (2 : Nat) ^ k ≤ 1048576 := Nat.le_trans (Nat.pow_le_pow_right (by decide) h) (by decide)
theorem g_shl1 {k : Nat} (h : k ≤ 20) : gShl (.int ((2 ^ k : Nat) : Int)) (.int 1) = some (.int ((2 ^ (k + 1) : Nat) : Int)) := by
  have := two_lt h
  show (if (0 : Int) ≤ 1 ∧ (1 : Int) ≤ 1000 ∧ (((2 ^ k : Nat) : Int)).natAbs < 2 ^ 64 then some (PyData.int (((2 ^ k : Nat) : Int) * 2 ^ (Int.toNat 1))) else none) = _
  rw [if_pos ⟨by omega, by omega, by rw [Int.natAbs_natCast]; exact Nat.lt_of_le_of_lt this (by decide)⟩, Nat.pow_succ]
  show some (PyData.int (((2 ^ k : Nat) : Int) * 2)) = _
  rw [Int.natCast_mul]
  rfl
theorem g_1shl {k : Nat} (h : k ≤ 20) : gShl (.int 1) (.int (k : Int)) = some (.int ((2 ^ k : Nat) : Int)) := by
  show (if (0 : Int) ≤ k ∧ (k : Int) ≤ 1000 ∧ ((1 : Int)).natAbs < 2 ^ 64 then some (PyData.int (1 * 2 ^ ((k : Int)).toNat)) else none) = _
  rw [if_pos ⟨by omega, by omega, by decide⟩, Int.one_mul, Int.toNat_natCast, two_cast]
theorem g_neN (a b : Nat) : gNe (.int (a : Int)) (.int (b : Int)) = some (.bool (decide (a ≠ b))) := by
  show some (PyData.bool (!decide ((a : Int) = (b : Int)))) = _
  rw [← decide_not]
  congr 2
  exact decide_eq_decide.mpr (by omega)
theorem tru_N (a : Nat) : gTru (.int (a : Int)) = some (decide (a ≠ 0)) := by
  show some ((a : Int) != 0) = _
  congr 1
  rw [Bool.eq_iff_iff, bne_iff_ne, decide_eq_true_iff]
  omega
/-! ### the table BITS -/
theorem ps_at : ∀ b : Nat, b < 256 → HdB.PS.find? (fun p => decide (p.1 = (sl b).map Int.ofNat)) = some ((sl b).map Int.ofNat, Int.ofNat b) := by
  have h : ((List.range 256).all fun b => decide (HdB.PS.find? (fun p => decide (p.1 = (sl b).map Int.ofNat)) = some ((sl b).map Int.ofNat, Int.ofNat b))) = true := by decide +kernel
  exact fun b hb => of_decide_eq_true (List.all_eq_true.mp h b (List.mem_range.mpr hb))
theorem intsOf_dI : ∀ (l : List Nat), intsOf (dI l) = some (l.map Int.ofNat)
  | [] => rfl
  | x :: l => by
    show (intsOf (dI l)).map ((x : Int) :: ·) = _
    rw [intsOf_dI l]
    rfl
theorem g_bits {r : List Nat} (hp : r.Pairwise (· < ·)) (h : ∀ x ∈ r, x < 8) (z : Da) : gBits HdB.PS (.tuple (dI r)) z = some (.int (bm r : Int)) := by
  show (intsOf (dI r)).map (fun ks => match HdB.PS.find? fun p => decide (p.1 = ks) with
    | some p => PyData.int p.2
    | none => z) = _
  rw [intsOf_dI]
  show some (match HdB.PS.find? fun p => decide (p.1 = r.map Int.ofNat) with
    | some p => PyData.int p.2
    | none => z) = _
  have e := ps_at (bm r) (bm_lt (n := 8) h)
  rw [sl_bm hp h] at e
  rw [e]
  rfl
theorem sets_at {b : Nat} (h : b < 256) : gIx setsD (.int (b : Int)) = some (.tuple (dI (sl b))) := by
  show atI (HdB.PS.map fun p => PyData.tuple (p.1.map .int)) (b : Int) = _
  refine at_nat ?_
  rw [List.getElem?_map]
  unfold HdB.PS
  rw [List.getElem?_map, List.getElem?_range h]
  show some (PyData.tuple (((sl b).map Int.ofNat).map PyData.int)) = _
  rw [List.map_map]
  rfl
end MirT

set_option Elab.async false
set_option linter.all false
set_option maxRecDepth 100000
namespace MirT
open PySem L2 Mir Nt
/-! ### drawing, the second way -/
theorem cell_spec (ns : List Int) (k : Int) (hk : 0 ≤ k) : ∃ v, m_Lcell [.list (ns.map .int), .int k] = some (.int v) := by
  by_cases h : k < (ns.length : Int)
  · have e1 : decide (k < (ns.length : Int)) = true := decide_eq_true h
    obtain ⟨n, rfl⟩ := Int.eq_ofNat_of_zero_le hk
    have hn : n < ns.length := by omega
    refine ⟨ns[n], ?_⟩
    have e2 : gIx (.list (ns.map PyData.int)) (.int (n : Int)) = some (.int ns[n]) := by
      show atI (ns.map PyData.int) (n : Int) = _
      unfold atI ixN
      simp [hn]
    unfold m_Lcell runP b_Lcell
    simp only [mSeq, mIte, mDo, mB, mOp, mOp1, mBind, mRet, mOpt, withL, Mir.ownL, mVar, mSet, mSetI, mRt, isB, gC, gI, gAdd, Mir.gMul, ix3_0, ix3_1, ix3_2, ixN_0, ixN_1, ixN_2, List.getElem?_cons_zero, List.getElem?_cons_succ, List.set_cons_zero, List.set_cons_succ, List.length_cons, List.length_nil, List.map_cons, List.map_nil, List.cons_append, List.nil_append, Nat.zero_add, Nat.reduceAdd, Nat.reduceSub, List.replicate, if_true, if_false, reduceIte, Bool.false_eq_true, gMod, gDiv, mNx, mCall, mCons, mNil, gLen, items, Option.map_some, List.length_map, e1, e2]
  · have e1 : decide (k < (ns.length : Int)) = false := decide_eq_false h
    refine ⟨0, ?_⟩
    unfold m_Lcell runP b_Lcell
    simp only [mSeq, mIte, mDo, mB, mOp, mOp1, mBind, mRet, mOpt, withL, Mir.ownL, mVar, mSet, mSetI, mRt, isB, gC, gI, gAdd, Mir.gMul, ix3_0, ix3_1, ix3_2, ixN_0, ixN_1, ixN_2, List.getElem?_cons_zero, List.getElem?_cons_succ, List.set_cons_zero, List.set_cons_succ, List.length_cons, List.length_nil, List.map_cons, List.map_nil, List.cons_append, List.nil_append, Nat.zero_add, Nat.reduceAdd, Nat.reduceSub, List.replicate, if_true, if_false, reduceIte, Bool.false_eq_true, gMod, gDiv, mNx, mCall, mCons, mNil, gLen, items, Option.map_some, List.length_map, e1]
theorem source_spec (v : Int) : ∃ l, m_Lsource [.int v] = some l ∧ Pen 0 l := by
  refine ⟨[.int (if v - 1000000000000000000 > 0 then v - 1000000000000000000 else 0), .int (v % 2147483629 + 1), .int 0], ?_, _, _, 0, rfl, by split <;> omega, ?_, ?_, Int.le_refl _, Int.le_refl _⟩
  · have e1 : cPow 10 18 = true := by decide +kernel
    have e2 : (10 : Int) ^ (Int.toNat 18) = 1000000000000000000 := by decide +kernel
    have z (i : Int) : cMod i 2147483629 = true := mod_ok (by omega)
    unfold m_Lsource runL b_Lsource
    simp only [mSeq, mIte, mDo, mB, mOp, mOp1, mBind, mRet, mOpt, withL, Mir.ownL, mVar, mSet, mSetI, mRt, isB, gC, gI, gAdd, Mir.gMul, ix3_0, ix3_1, ix3_2, ixN_0, ixN_1, ixN_2, List.getElem?_cons_zero, List.getElem?_cons_succ, List.set_cons_zero, List.set_cons_succ, List.length_cons, List.length_nil, List.map_cons, List.map_nil, List.cons_append, List.nil_append, Nat.zero_add, Nat.reduceAdd, Nat.reduceSub, List.replicate, if_true, if_false, reduceIte, Bool.false_eq_true, gMod, gDiv, mNx, mCall, mCons, mNil, sto0, mSz, sized, gMax2, Mir.gSub, gPow, e1, e2, z]
    rfl
  · have := Int.emod_nonneg v (b := 2147483629) (by omega)
    omega
  · have := Int.emod_lt_of_pos v (b := 2147483629) (by omega)
    omega
theorem draw_spec {c : Nat} {l : List Da} {m : Int} (p : Pen c l) (hc0 : c < 1000000) (hm : 0 < m) (hm2 : m < 1000000000) :
    ∃ (r : Int) (l' : List Da), m_Ldraw l [.int m] = some (.int r, l') ∧ 0 ≤ r ∧ r < m ∧ Pen (c + 1) l' := by
  obtain ⟨a, b, k, rfl, ha, hb, hb2, hk, hk2⟩ := p
  by_cases h : a > 0
  · refine ⟨a % m, [.int (a / m), .int b, .int k], ?_, Int.emod_nonneg _ (by omega), Int.emod_lt_of_pos _ hm, a / m, b, k, rfl, Int.ediv_nonneg (by omega) (by omega), hb, hb2, hk, by omega⟩
    unfold m_Ldraw Mir.runI b_Ldraw
    have e1 : decide (a > 0) = true := decide_eq_true h
    simp only [mSeq, mIte, mDo, mB, mOp, mOp1, mBind, mRet, mOpt, withL, Mir.ownL, mVar, mSet, mSetI, mRt, isB, gC, gI, gAdd, Mir.gMul, ix3_0, ix3_1, ix3_2, ixN_0, ixN_1, ixN_2, List.getElem?_cons_zero, List.getElem?_cons_succ, List.set_cons_zero, List.set_cons_succ, List.length_cons, List.length_nil, List.map_cons, List.map_nil, List.cons_append, List.nil_append, Nat.zero_add, Nat.reduceAdd, Nat.reduceSub, List.replicate, if_true, if_false, reduceIte, Bool.false_eq_true, gMod, gDiv, mNx, e1, mod_ok hm, div_ok (i := a) hm (by omega)]
    rfl
  · have e1 : decide (a > 0) = false := decide_eq_false h
    have q1 : cMul b 48271 = true := mul_ok hb (by omega) (by omega) (by omega)
    have q2 : cMul 1009 (k + 1) = true := mul_ok (by omega) (by omega) (by omega) (by omega)
    let b2 := (b * 48271 + 1009 * (k + 1) + 7) % 2147483647
    have l1 : 0 ≤ b2 := Int.emod_nonneg _ (by omega)
    have l2 : b2 < 2147483647 := Int.emod_lt_of_pos _ (by omega)
    let x := (b2 * b2 + 69621 * b2 + 11) % 2147483629
    have l3 : 0 ≤ x := Int.emod_nonneg _ (by omega)
    have l4 : x < 2147483629 := Int.emod_lt_of_pos _ (by omega)
    let y := (x * x + 40014 * x) % 2147483587
    refine ⟨y / 16 % m, [.int a, .int b2, .int (k + 1)], ?_, Int.emod_nonneg _ (by omega), Int.emod_lt_of_pos _ hm, a, b2, k + 1, rfl, ha, l1, by omega, by omega, by omega⟩
    have q3 : cMul b2 b2 = true := mul_ok l1 (by omega) l1 (by omega)
    have q4 : cMul 69621 b2 = true := mul_ok (by omega) (by omega) l1 (by omega)
    have q5 : cMul x x = true := mul_ok l3 (by omega) l3 (by omega)
    have q6 : cMul 40014 x = true := mul_ok (by omega) (by omega) l3 (by omega)
    have q7 : cDiv y 16 = true := div_ok (by omega) (by omega)
    have e2 : (b * 48271 + 1009 * (k + 1) + 7) % 2147483647 = b2 := rfl
    have e3 : (b2 * b2 + 69621 * b2 + 11) % 2147483629 = x := rfl
    have e4 : (x * x + 40014 * x) % 2147483587 = y := rfl
    have z1 (i : Int) : cMod i 2147483647 = true := mod_ok (by omega)
    have z2 (i : Int) : cMod i 2147483629 = true := mod_ok (by omega)
    have z3 (i : Int) : cMod i 2147483587 = true := mod_ok (by omega)
    clear_value y x b2
    unfold m_Ldraw Mir.runI b_Ldraw
    simp only [mSeq, mIte, mDo, mB, mOp, mOp1, mBind, mRet, mOpt, withL, Mir.ownL, mVar, mSet, mSetI, mRt, isB, gC, gI, gAdd, Mir.gMul, ix3_0, ix3_1, ix3_2, ixN_0, ixN_1, ixN_2, List.getElem?_cons_zero, List.getElem?_cons_succ, List.set_cons_zero, List.set_cons_succ, List.length_cons, List.length_nil, List.map_cons, List.map_nil, List.cons_append, List.nil_append, Nat.zero_add, Nat.reduceAdd, Nat.reduceSub, List.replicate, if_true, if_false, reduceIte, Bool.false_eq_true, gMod, gDiv, mNx, e1, q1, q2, q3, q4, q5, q6, q7, z1, z2, z3, e2, e3, e4, mod_ok hm]
    rfl
theorem same_t {d : Da} {w k : Nat} (h : Shw d w k) (hr : isRef d = true) (hw : w ≤ 2 ^ 20) (hk : k ≤ 60) : m_Lis_equal [d, d] = some (.bool true) := by
  have e := repr_some h hr hw hk
  have e2 : gEq (.str d.shown) (.str d.shown) = some (.bool true) := by
    show some (PyData.bool (decide (d.shown = d.shown))) = _
    rw [decide_eq_true rfl]
  unfold m_Lis_equal runP b_Lis_equal
  simp only [mSeq, mIte, mDo, mB, mOp, mOp1, mBind, mRet, mOpt, withL, Mir.ownL, mVar, mSet, mSetI, mRt, isB, gC, gI, gAdd, Mir.gMul, ix3_0, ix3_1, ix3_2, ixN_0, ixN_1, ixN_2, List.getElem?_cons_zero, List.getElem?_cons_succ, List.set_cons_zero, List.set_cons_succ, List.length_cons, List.length_nil, List.map_cons, List.map_nil, List.cons_append, List.nil_append, Nat.zero_add, Nat.reduceAdd, Nat.reduceSub, List.replicate, if_true, if_false, reduceIte, Bool.false_eq_true, gMod, gDiv, mNx, mCall, mCons, mNil, e, e2]
end MirT

set_option Elab.async false
set_option linter.all false
set_option maxRecDepth 100000
namespace MirT
open PySem L2 Mir Nt
/-! ### drawn nets, the second way -/
abbrev stM (l : List Da) (s : Nat) (w : Int) (acc : List Da) (i : Nat) (q o : Option Da) : Sto := [some (.list l), some (.int (s : Int)), some (.int w), some (.list acc), some (.int (i : Int)), q, o]
def mA : Sm := (mSetO 5 (mLc (mBind (mCons (mVar 1) mNil) fun ds => mOpt (rng1 ds)) (fName 6) (mB (mOp gEq (mFnI 2 0 m_Ldraw (mCons (mOp gIx (mOfL (mSz (mCons (mRet (.int 5)) (mCons (mRet (.int 4)) (mCons (mOp Mir.gMul (mRet (.int 2)) (mVar 1)) (mCons (mRet (.int 2)) mNil)))))) (mVar 2)) mNil)) (mRet (.int 0)))) (mVar 6) [6]))
def mBB : Sm := (mIte (mB (mOp gEq (mVar 2) (mRet (.int 0)))) (mApp 5 (mOp gMod (mOp gAdd (mVar 4) (mRet (.int 1))) (mVar 1))) mNx)
def mC : Sm := (mIte (mAnd (mB (mOp gEq (mVar 2) (mRet (.int 2)))) (mB (mOp gGt (mVar 4) (mRet (.int 0))))) (mApp 5 (mFnI 2 0 m_Ldraw (mCons (mVar 4) mNil))) mNx)
def mD : Sm := (mApp 3 (mCall gTupleOf (mCons (mOfL (mBind (mOfL (mLcO 200 5 (fName 6) (mB (mOp gNe (mVar 6) (mVar 4))) (mVar 6) [6])) fun d => mOpt (gSset d))) mNil)))
theorem mA_spec {l acc : List Da} {s c i : Nat} {w : Int} {q o : Option Da} (p : Pen c l) (hc : c + 20 < 1000000) (hs0 : 0 < s) (hs8 : s ≤ 8) (w0 : 0 ≤ w) (w4 : w < 4) :
    ∃ (l2 : List Da) (r : List Nat), mA (stM l s w acc i q o) = some (.nx (stM l2 s w acc i (some (.list (dI r))) o)) ∧ Pen (c + 8) l2 ∧ (∀ x ∈ r, x < s) ∧ r.length ≤ 8 := by
  have r0 := rng_dI s (by omega)
  have mul : cMul 2 (s : Int) = true := mul_ok (by omega) (by omega) (by omega) (by omega)
  have ixm : ∃ m : Int, gIx (.list [.int 5, .int 4, .int (2 * (s : Int)), .int 2]) (.int w) = some (.int m) ∧ 0 < m ∧ m < 1000000000 := by
    have : w = 0 ∨ w = 1 ∨ w = 2 ∨ w = 3 := by omega
    rcases this with rfl | rfl | rfl | rfl
    · exact ⟨5, rfl, by omega, by omega⟩
    · exact ⟨4, rfl, by omega, by omega⟩
    · exact ⟨2 * (s : Int), rfl, by omega, by omega⟩
    · exact ⟨2, rfl, by omega, by omega⟩
  obtain ⟨m, ixm, m0, m1⟩ := ixm
  obtain ⟨out, ρ', e2, l2, r, rfl, rfl, p2, sb⟩ := lc_inv (fi := (mBind (mCons (mVar 1) mNil) fun ds => mOpt (rng1 ds))) (v := 6) (tt := (mB (mOp gEq (mFnI 2 0 m_Ldraw (mCons (mOp gIx (mOfL (mSz (mCons (mRet (.int 5)) (mCons (mRet (.int 4)) (mCons (mOp Mir.gMul (mRet (.int 2)) (mVar 1)) (mCons (mRet (.int 2)) mNil)))))) (mVar 2)) mNil)) (mRet (.int 0))))) (te := mVar 6) (ρ := stM l s w acc i q o) (ρ1 := stM l s w acc i q o) (ds := dI (List.range s)) (fun k a ρ => ∃ l2 r, ρ = stM l2 s w acc i q none ∧ a = dI r ∧ Pen (c + k) l2 ∧ r.Sublist ((List.range s).take k)) (by
    simp only [mBind, mCons, mNil, mRet, mVar, List.getElem?_cons_zero, List.getElem?_cons_succ, mOpt, r0]) ⟨l, [], rfl, rfl, p, by simp⟩ (fun k d a ρ hd ⟨l2, r, hρ, ha, p2, sb⟩ => by
    subst hρ ha
    obtain ⟨hk, rfl⟩ := rng_at hd
    obtain ⟨v, l3, e3, _, _, p3⟩ := draw_spec p2 (by omega) m0 m1
    have tk : (List.range s).take (k + 1) = (List.range s).take k ++ [k] := by rw [List.take_add_one, List.getElem?_range hk]; rfl
    have e0 : gEq (.int v) (.int 0) = some (.bool (decide (v = 0))) := rfl
    have z4 : (4 : Nat) ≤ 100000 := by decide
    refine ⟨decide (v = 0), stM l3 s w acc i q (some (.int (k : Int))), ?_, fun _ => ⟨l3, r, rfl, rfl, p3, ?_⟩, fun _ => ⟨.int (k : Int), _, rfl, ?_, l3, r ++ [k], rfl, ?_, p3, ?_⟩⟩
    · simp only [mSeq, mIte, mDo, mB, mOp, mOp1, mBind, mRet, mOpt, withL, Mir.ownL, mVar, mSet, mSetI, mRt, isB, gC, gI, gAdd, Mir.gMul, ix3_0, ix3_1, ix3_2, ixN_0, ixN_1, ixN_2, List.getElem?_cons_zero, List.getElem?_cons_succ, List.set_cons_zero, List.set_cons_succ, List.length_cons, List.length_nil, List.map_cons, List.map_nil, List.cons_append, List.nil_append, Nat.zero_add, Nat.reduceAdd, Nat.reduceSub, List.replicate, if_true, if_false, reduceIte, Bool.false_eq_true, gMod, gDiv, mNx, mFnI, mCons, mNil, mOfL, mSz, sized, mul, z4, ixm, e3, e0]
    · rw [tk]
      exact sb.trans (List.sublist_append_left _ _)
    · have := sb.length_le
      rw [List.length_take] at this
      rw [dI_len]
      omega
    · rw [show [PyData.int (k : Int)] = dI [k] from rfl, dI_app]
    · rw [tk]
      exact sb.append (List.Sublist.refl _))
  rw [dI_len, List.length_range] at p2 sb
  have sub : r.Sublist (List.range s) := sb.trans (List.take_sublist _ _)
  refine ⟨l2, r, ?_, p2.mono (by omega), fun x hx => List.mem_range.mp (sub.subset hx), by have := sub.length_le; rw [List.length_range] at this; omega⟩
  unfold mA mSetO mDo
  simp only [e2]
  rfl
theorem mB_spec {l acc : List Da} {s i : Nat} {w : Int} {o : Option Da} {r : List Nat} (hs0 : 0 < s) (hr : ∀ x ∈ r, x < s) (hl : r.length ≤ 20) :
    ∃ r' : List Nat, mBB (stM l s w acc i (some (.list (dI r))) o) = some (.nx (stM l s w acc i (some (.list (dI r'))) o)) ∧ (∀ x ∈ r', x < s) ∧ r'.length ≤ r.length + 1 := by
  have e2 : gEq (.int w) (.int 0) = some (.bool (decide (w = 0))) := rfl
  by_cases q : w = 0
  · have q' := decide_eq_true q
    have hm : cMod ((i : Int) + 1) (s : Int) = true := mod_ok (by omega)
    have ht : ((i : Int) + 1) % (s : Int) = (((i + 1) % s : Nat) : Int) := by rw [Int.natCast_emod]; rfl
    have zl : (dI r).length < 100000 := by rw [dI_len]; omega
    have ap : dI r ++ [PyData.int (((i + 1) % s : Nat) : Int)] = dI (r ++ [(i + 1) % s]) := by rw [show [PyData.int (((i + 1) % s : Nat) : Int)] = dI [(i + 1) % s] from rfl, dI_app]
    refine ⟨r ++ [(i + 1) % s], ?_, fun x hx => ?_, by rw [List.length_append]; exact Nat.le_refl _⟩
    · unfold mBB
      simp only [mSeq, mIte, mDo, mB, mOp, mOp1, mBind, mRet, mOpt, withL, Mir.ownL, mVar, mSet, mSetI, mRt, isB, gC, gI, gAdd, Mir.gMul, ix3_0, ix3_1, ix3_2, ixN_0, ixN_1, ixN_2, List.getElem?_cons_zero, List.getElem?_cons_succ, List.set_cons_zero, List.set_cons_succ, List.length_cons, List.length_nil, List.map_cons, List.map_nil, List.cons_append, List.nil_append, Nat.zero_add, Nat.reduceAdd, Nat.reduceSub, List.replicate, if_true, if_false, reduceIte, Bool.false_eq_true, gMod, gDiv, mNx, e2, q', mApp, hm, ht, if_pos zl, ap]
    · rcases List.mem_append.mp hx with hx | hx
      · exact hr x hx
      · rw [List.mem_singleton.mp hx]
        exact Nat.mod_lt _ hs0
  · have q' := decide_eq_false q
    refine ⟨r, ?_, hr, Nat.le_succ _⟩
    unfold mBB
    simp only [mSeq, mIte, mDo, mB, mOp, mOp1, mBind, mRet, mOpt, withL, Mir.ownL, mVar, mSet, mSetI, mRt, isB, gC, gI, gAdd, Mir.gMul, ix3_0, ix3_1, ix3_2, ixN_0, ixN_1, ixN_2, List.getElem?_cons_zero, List.getElem?_cons_succ, List.set_cons_zero, List.set_cons_succ, List.length_cons, List.length_nil, List.map_cons, List.map_nil, List.cons_append, List.nil_append, Nat.zero_add, Nat.reduceAdd, Nat.reduceSub, List.replicate, if_true, if_false, reduceIte, Bool.false_eq_true, gMod, gDiv, mNx, e2, q']
theorem mC_spec {l acc : List Da} {s c i : Nat} {w : Int} {o : Option Da} {r : List Nat} (p : Pen c l) (hc : c < 1000000) (hi : i < s) (hs8 : s ≤ 8) (hr : ∀ x ∈ r, x < s) (hl : r.length ≤ 20) :
    ∃ (l2 : List Da) (r' : List Nat), mC (stM l s w acc i (some (.list (dI r))) o) = some (.nx (stM l2 s w acc i (some (.list (dI r'))) o)) ∧ (∀ x ∈ r', x < s) ∧ r'.length ≤ r.length + 1 ∧ Pen (c + 1) l2 := by
  have e2 : gEq (.int w) (.int 2) = some (.bool (decide (w = 2))) := rfl
  by_cases q : w = 2
  · have q' := decide_eq_true q
    by_cases g : (i : Int) > 0
    · have g' := decide_eq_true g
      obtain ⟨v, l2, e, v0, v1, p2⟩ := draw_spec p hc g (by omega)
      obtain ⟨k, rfl⟩ := Int.eq_ofNat_of_zero_le v0
      have zl : (dI r).length < 100000 := by rw [dI_len]; omega
      have ap : dI r ++ [PyData.int (k : Int)] = dI (r ++ [k]) := by rw [show [PyData.int (k : Int)] = dI [k] from rfl, dI_app]
      have e' : m_Ldraw l [.int (i : Int)] = some (.int (k : Int), l2) := e
      refine ⟨l2, r ++ [k], ?_, fun x hx => ?_, by rw [List.length_append]; exact Nat.le_refl _, p2⟩
      · unfold mC
        simp only [mSeq, mIte, mDo, mB, mOp, mOp1, mBind, mRet, mOpt, withL, Mir.ownL, mVar, mSet, mSetI, mRt, isB, gC, gI, gAdd, Mir.gMul, ix3_0, ix3_1, ix3_2, ixN_0, ixN_1, ixN_2, List.getElem?_cons_zero, List.getElem?_cons_succ, List.set_cons_zero, List.set_cons_succ, List.length_cons, List.length_nil, List.map_cons, List.map_nil, List.cons_append, List.nil_append, Nat.zero_add, Nat.reduceAdd, Nat.reduceSub, List.replicate, if_true, if_false, reduceIte, Bool.false_eq_true, gMod, gDiv, mNx, mAnd, e2, q', g', mApp, mFnI, mCons, mNil, e', if_pos zl, ap]
      · rcases List.mem_append.mp hx with hx | hx
        · exact hr x hx
        · rw [List.mem_singleton.mp hx]
          omega
    · have g' := decide_eq_false g
      refine ⟨l, r, ?_, hr, Nat.le_succ _, p.mono (by omega)⟩
      unfold mC
      simp only [mSeq, mIte, mDo, mB, mOp, mOp1, mBind, mRet, mOpt, withL, Mir.ownL, mVar, mSet, mSetI, mRt, isB, gC, gI, gAdd, Mir.gMul, ix3_0, ix3_1, ix3_2, ixN_0, ixN_1, ixN_2, List.getElem?_cons_zero, List.getElem?_cons_succ, List.set_cons_zero, List.set_cons_succ, List.length_cons, List.length_nil, List.map_cons, List.map_nil, List.cons_append, List.nil_append, Nat.zero_add, Nat.reduceAdd, Nat.reduceSub, List.replicate, if_true, if_false, reduceIte, Bool.false_eq_true, gMod, gDiv, mNx, mAnd, e2, q', g']
  · have q' := decide_eq_false q
    refine ⟨l, r, ?_, hr, Nat.le_succ _, p.mono (by omega)⟩
    unfold mC
    simp only [mSeq, mIte, mDo, mB, mOp, mOp1, mBind, mRet, mOpt, withL, Mir.ownL, mVar, mSet, mSetI, mRt, isB, gC, gI, gAdd, Mir.gMul, ix3_0, ix3_1, ix3_2, ixN_0, ixN_1, ixN_2, List.getElem?_cons_zero, List.getElem?_cons_succ, List.set_cons_zero, List.set_cons_succ, List.length_cons, List.length_nil, List.map_cons, List.map_nil, List.cons_append, List.nil_append, Nat.zero_add, Nat.reduceAdd, Nat.reduceSub, List.replicate, if_true, if_false, reduceIte, Bool.false_eq_true, gMod, gDiv, mNx, mAnd, e2, q']
theorem mD_spec {l acc : List Da} {s i : Nat} {w : Int} {r : List Nat} (hs8 : s ≤ 8) (hr : ∀ x ∈ r, x < s) (hl : r.length ≤ 20) (ha : acc.length < 1000) :
    ∃ T : List Nat, mD (stM l s w acc i (some (.list (dI r))) none) = some (.nx (stM l s w (acc ++ [.tuple (dI T)]) i (some (.list (dI r))) none)) ∧ Good s i T := by
  have lc : mLcO 200 5 (fName 6) (mB (mOp gNe (mVar 6) (mVar 4))) (mVar 6) [6] (stM l s w acc i (some (.list (dI r))) none) = some (dI (r.filter fun y => decide (y ≠ i)), stM l s w acc i (some (.list (dI r))) none) := by
    rw [← filter_dI]
    refine lcO_pure (onI fun y => decide (y ≠ i)) (fun d => d) (ds := dI r) rfl (by decide) (by simp) (by rw [dI_len]; omega) (by rw [dI_len]; omega) fun d hd => ?_
    obtain ⟨y, hy, rfl⟩ := List.mem_map.mp hd
    have e : gNe (.int (y : Int)) (.int (i : Int)) = some (.bool (decide (y ≠ i))) := g_neN y i
    rw [onI_nat]
    refine ⟨?_, fun _ => rfl⟩
    simp only [mSeq, mIte, mDo, mB, mOp, mOp1, mBind, mRet, mOpt, withL, Mir.ownL, mVar, mSet, mSetI, mRt, isB, gC, gI, gAdd, Mir.gMul, ix3_0, ix3_1, ix3_2, ixN_0, ixN_1, ixN_2, List.getElem?_cons_zero, List.getElem?_cons_succ, List.set_cons_zero, List.set_cons_succ, List.length_cons, List.length_nil, List.map_cons, List.map_nil, List.cons_append, List.nil_append, Nat.zero_add, Nat.reduceAdd, Nat.reduceSub, List.replicate, if_true, if_false, reduceIte, Bool.false_eq_true, gMod, gDiv, mNx, e]
  obtain ⟨T, e3, st, mt⟩ := sset_dI (l := r.filter fun y => decide (y ≠ i)) (n := s) (fun y hy => hr y (List.mem_filter.mp hy).1) (Nat.lt_of_le_of_lt (List.length_filter_le _ _) (by omega))
  have tp : gTupleOf [.list (dI T)] = some (.tuple (dI T)) := rfl
  have e4 : mCall gTupleOf (mCons (mOfL (mBind (mOfL (mLcO 200 5 (fName 6) (mB (mOp gNe (mVar 6) (mVar 4))) (mVar 6) [6])) fun d => mOpt (gSset d))) mNil) (stM l s w acc i (some (.list (dI r))) none) = some (.tuple (dI T), stM l s w acc i (some (.list (dI r))) none) := call_eq (cons_eq (ofL_eq (bindo_eq (ofL_eq lc) e3)) nil_eq) tp
  refine ⟨T, ?_, st, fun x hx => ?_⟩
  · have zl : acc.length < 100000 := by omega
    unfold mD mApp
    simp only [withL, Mir.ownL, mDo, List.getElem?_cons_zero, List.getElem?_cons_succ, e4, if_pos zl]
    rfl
  · have hm := List.mem_filter.mp ((mt x).mp hx)
    exact ⟨hr x hm.1, of_decide_eq_true hm.2⟩
theorem Lnet_spec {l : List Da} {c s : Nat} (p : Pen c l) (hc : c + 500 < 1000000) (hs0 : 0 < s) (hs8 : s ≤ 8) : ∃ (N : Net) (l' : List Da), m_Lnet_of l [.int (s : Int)] = some (dN N, l') ∧ Ok N ∧ N.length = s ∧ Pen (c + 100) l' := by
  obtain ⟨w, l1, e1, w0, w4, p1⟩ := draw_spec p (by omega) (m := 4) (by omega) (by omega)
  obtain ⟨ρ', e, l2, N, x4, x5, rfl, hN, hr, p2⟩ := for_inv (ft := fName 4) (b := mSeq mA (mSeq mBB (mSeq mC mD))) (fun k ρ => ∃ (l2 : List Da) (N : Net) (x4 x5 : Option Da), ρ = [some (.list l2), some (.int (s : Int)), some (.int w), some (.list (N.map fun r => .tuple (dI r))), x4, x5, none] ∧ N.length = k ∧ (∀ (j : Nat) (r : List Nat), N[j]? = some r → Good s j r) ∧ Pen (c + 1 + 10 * k) l2) (dI (List.range s)) (fun i d ρ hd ⟨l2, N, x4, x5, hρ, hN, hr, p2⟩ => by
    obtain ⟨hi, rfl⟩ := rng_at hd
    subst hρ
    obtain ⟨l3, r1, e1, p3, h1, n1⟩ := mA_spec (acc := N.map fun r => .tuple (dI r)) (i := i) (q := x5) (o := none) p2 (by omega) hs0 hs8 w0 w4
    obtain ⟨r2, e2, h2, n2⟩ := mB_spec (l := l3) (acc := N.map fun r => .tuple (dI r)) (i := i) (w := w) (o := none) hs0 h1 (by omega)
    obtain ⟨l4, r3, e3, h3, n3, p4⟩ := mC_spec (acc := N.map fun r => .tuple (dI r)) (w := w) (o := none) p3 (by omega) hi hs8 h2 (by omega)
    obtain ⟨T, e4, g⟩ := mD_spec (l := l4) (acc := N.map fun r => .tuple (dI r)) (i := i) (w := w) hs8 h3 (by omega) (by rw [List.length_map]; omega)
    refine ⟨stM l2 s w (N.map fun r => .tuple (dI r)) i x5 none, _, rfl, .inl (seq_nx e1 (seq_nx e2 (seq_nx e3 e4))), l4, N ++ [T], some (.int (i : Int)), some (.list (dI r3)), ?_, by rw [List.length_append, hN]; rfl, fun j q hj => ?_, p4.mono (by omega)⟩
    · rw [List.map_append]
      rfl
    · by_cases lt : j < N.length
      · rw [List.getElem?_append_left lt] at hj
        exact hr j q hj
      · rw [List.getElem?_append_right (by omega)] at hj
        have hz := (List.getElem?_eq_some_iff.mp hj).1
        rw [List.length_singleton] at hz
        have ej : j = i := by omega
        have e0 : j - N.length = 0 := by omega
        rw [e0] at hj
        cases hj
        rw [ej]
        exact g) _ 0 [some (.list l1), some (.int (s : Int)), some (.int w), some (.list []), none, none, none] rfl (Nat.zero_le _) ⟨l1, [], none, none, rfl, rfl, fun j r hj => by simp at hj, p1⟩
  rw [dI_len, List.length_range] at hN p2
  have r := rng_dI s (by omega)
  refine ⟨N, l2, ?_, ⟨by omega, by omega, fun i r hi => ?_⟩, hN, p2.mono (by omega)⟩
  · have run : b_Lnet_of [some (.list l), some (.int (s : Int)), none, none, none, none, none] = some (.rt (dN N) [some (.list l2), some (.int (s : Int)), some (.int w), some (.list (N.map fun r => .tuple (dI r))), x4, x5, none]) := by
      refine seq_nx (ρ1 := [some (.list l1), some (.int (s : Int)), some (.int w), some (.list []), none, none, none]) ?_ (seq_nx (for_eq (ds := dI (List.range s)) (ρ1 := [some (.list l1), some (.int (s : Int)), some (.int w), some (.list []), none, none, none]) ?_ e) rfl)
      · simp only [mSeq, mIte, mDo, mB, mOp, mOp1, mBind, mRet, mOpt, withL, Mir.ownL, mVar, mSet, mSetI, mRt, isB, gC, gI, gAdd, Mir.gMul, ix3_0, ix3_1, ix3_2, ixN_0, ixN_1, ixN_2, List.getElem?_cons_zero, List.getElem?_cons_succ, List.set_cons_zero, List.set_cons_succ, List.length_cons, List.length_nil, List.map_cons, List.map_nil, List.cons_append, List.nil_append, Nat.zero_add, Nat.reduceAdd, Nat.reduceSub, List.replicate, if_true, if_false, reduceIte, Bool.false_eq_true, gMod, gDiv, mNx, mParO, mFnI, mCons, mNil, mSz, sized, e1, Nat.zero_le]
      · simp only [mBind, mCons, mNil, mRet, mVar, List.getElem?_cons_zero, List.getElem?_cons_succ, mOpt, r]
    unfold m_Lnet_of Mir.runI
    show (match b_Lnet_of [some (.list l), some (.int (s : Int)), none, none, none, none, none] with
      | some (.rt d ρ) => (Mir.ownL 0 ρ).map fun q => (d, q)
      | some (.nx ρ) => (Mir.ownL 0 ρ).map fun q => (.none, q)
      | _ => none) = _
    rw [run]
    rfl
  · obtain ⟨g1, g2⟩ := hr i r hi
    exact ⟨g1, fun y hy => by rw [hN]; exact (g2 y hy).1, fun z => (g2 i z).2 rfl⟩
end MirT

set_option Elab.async false
set_option linter.all false
set_option maxRecDepth 100000
namespace MirT
open PySem L2 Mir Nt
/-! ### reaches of all components at once -/
def dLL (L : List (List Nat)) : List Da := L.map fun S => .list (dI S)
theorem dLL_app (a b : List (List Nat)) : dLL a ++ dLL b = dLL (a ++ b) := by unfold dLL; rw [List.map_append]
theorem dLL_len (a : List (List Nat)) : (dLL a).length = a.length := by unfold dLL; rw [List.length_map]
theorem ix_dLL {L : List (List Nat)} {i : Nat} {S : List Nat} (h : L[i]? = some S) : gIx (.list (dLL L)) (.int (i : Int)) = some (.list (dI S)) := by
  show atI _ (i : Int) = _
  exact at_nat (by unfold dLL; rw [List.getElem?_map, h]; rfl)
theorem sset2_dI {l : List Nat} {n : Nat} (h : ∀ x ∈ l, x < n) (hn : n ≤ 8) (hl : l.length < 4000) : ∃ T : List Nat, gSset2 (.list (dI l)) = some (dI T) ∧ T.Pairwise (· < ·) ∧ ∀ x, x ∈ T ↔ x ∈ l := by
  have e : sset (l.map fun (i : Nat) => (i : Int)) = ((List.range n).filter fun x => decide (x ∈ l)).map fun (i : Nat) => (i : Int) := by
    refine sset_one (sset_sorted _) (List.pairwise_map.mpr ((List.Pairwise.filter _ List.pairwise_lt_range).imp (fun h => by omega))) fun k => ?_
    rw [mem_sset]
    constructor
    · intro hk
      obtain ⟨x, hx, rfl⟩ := List.mem_map.mp hk
      exact List.mem_map.mpr ⟨x, List.mem_filter.mpr ⟨List.mem_range.mpr (h x hx), decide_eq_true hx⟩, rfl⟩
    · intro hk
      obtain ⟨x, hx, rfl⟩ := List.mem_map.mp hk
      exact List.mem_map.mpr ⟨x, of_decide_eq_true (List.mem_filter.mp hx).2, rfl⟩
  refine ⟨(List.range n).filter fun x => decide (x ∈ l), ?_, List.Pairwise.filter _ List.pairwise_lt_range, fun x => ?_⟩
  · show (intsD (dI l)).bind (fun ns => if ns.length < 4000 ∧ (sset ns).length < 64 then some ((sset ns).map PyData.int) else none) = _
    rw [dI_eq l, Nt.intsD_map]
    show (if _ < 4000 ∧ _ < 64 then _ else none) = _
    have q2 : (((List.range n).filter fun x => decide (x ∈ l)).map fun (i : Nat) => (i : Int)).length < 64 := by
      rw [List.length_map]
      refine Nat.lt_of_le_of_lt (List.length_filter_le _ _) ?_
      rw [List.length_range]
      omega
    have q1 : (l.map fun (i : Nat) => (i : Int)).length < 4000 := by
      rw [List.length_map]
      exact hl
    rw [e, if_pos ⟨q1, q2⟩, ← dI_eq]
  · rw [List.mem_filter, List.mem_range, decide_eq_true_iff]
    exact ⟨fun z => z.2, fun z => ⟨h x z, z⟩⟩
abbrev stF (N : Net) (L W : List (List Nat)) (F : List Nat) (t x y z : Option Da) : Sto := [some (dN N), some (.list (dLL L)), t, some (.list (dLL W)), x, some (.list (dI F)), y, none, none]
def farIn : Sm := (mExtE 5 (mOp gIx (mVar 1) (mVar 6)))
def farBody : Sm := (mSeq (mSetO 5 (mSz mNil))
    (mSeq (mFor (mBind (mVar 4) fun d => mOpt (asS d)) (fName 6) farIn)
    (mApp 3 (mOfL (mBind (mMv 5) fun d => mOpt (gSset2 d))))))
theorem farIn_loop {N : Net} {L W : List (List Nat)} {S : List Nat} {t : Option Da} (hS : ∀ j ∈ S, ∃ U, L[j]? = some U ∧ U.length ≤ 8) (hl : S.length ≤ 8) (y z : Option Da) :
    ∃ (F : List Nat) (y' : Option Da), mForL (fName 6) farIn (dI S) (stF N L W [] t (some (.list (dI S))) y z) = some (.nx (stF N L W F t (some (.list (dI S))) y' z)) ∧ (∀ x, x ∈ F ↔ ∃ j ∈ S, ∃ U, L[j]? = some U ∧ x ∈ U) ∧ F.length ≤ 64 := by
  obtain ⟨ρ', e, F, y', rfl, hF, hz⟩ := for_inv (ft := fName 6) (b := farIn) (fun k ρ => ∃ (F : List Nat) (y' : Option Da), ρ = stF N L W F t (some (.list (dI S))) y' z ∧ (∀ x, x ∈ F ↔ ∃ j ∈ S.take k, ∃ U, L[j]? = some U ∧ x ∈ U) ∧ F.length ≤ 8 * k) (dI S) (fun k d ρ hd ⟨F, y', hρ, hF, hz⟩ => by
    rw [dI_get] at hd
    obtain ⟨j, hj, rfl⟩ := Option.map_eq_some_iff.mp hd
    subst hρ
    obtain ⟨U, hU, lU⟩ := hS j (List.mem_of_getElem? hj)
    have ix := ix_dLL hU
    have lt := (List.getElem?_eq_some_iff.mp hj).1
    have zl : (dI F).length + (dI U).length ≤ 100000 := by rw [dI_len, dI_len]; omega
    refine ⟨stF N L W F t (some (.list (dI S))) (some (.int (j : Int))) z, stF N L W (F ++ U) t (some (.list (dI S))) (some (.int (j : Int))) z, rfl, .inl ?_, F ++ U, _, rfl, fun x => ?_, by rw [List.length_append]; omega⟩
    · unfold farIn
      simp only [mSeq, mIte, mDo, mB, mOp, mOp1, mBind, mRet, mOpt, withL, Mir.ownL, mVar, mSet, mSetI, mRt, isB, gC, gI, gAdd, Mir.gMul, ix3_0, ix3_1, ix3_2, ixN_0, ixN_1, ixN_2, List.getElem?_cons_zero, List.getElem?_cons_succ, List.set_cons_zero, List.set_cons_succ, List.length_cons, List.length_nil, List.map_cons, List.map_nil, List.cons_append, List.nil_append, Nat.zero_add, Nat.reduceAdd, Nat.reduceSub, List.replicate, if_true, if_false, reduceIte, Bool.false_eq_true, gMod, gDiv, mNx, mExtE, ix, asS, if_pos zl, dI_app]
    · have tk : S.take (k + 1) = S.take k ++ [j] := by rw [List.take_add_one, hj]; rfl
      rw [List.mem_append, hF x, tk]
      constructor
      · rintro (⟨i, hi, V, hV, hx⟩ | hx)
        · exact ⟨i, List.mem_append_left _ hi, V, hV, hx⟩
        · exact ⟨j, by simp, U, hU, hx⟩
      · rintro ⟨i, hi, V, hV, hx⟩
        rcases List.mem_append.mp hi with hi | hi
        · exact .inl ⟨i, hi, V, hV, hx⟩
        · rw [List.mem_singleton.mp hi, hU] at hV
          cases hV
          exact .inr hx) _ 0 (stF N L W [] t (some (.list (dI S))) y z) rfl (Nat.zero_le _) ⟨[], y, rfl, fun x => by simp, Nat.le_refl _⟩
  rw [dI_len, List.take_length] at hF
  rw [dI_len] at hz
  exact ⟨F, y', e, hF, by omega⟩
/-- before the body of a component: far may hold anything -/
abbrev stG (N : Net) (L W : List (List Nat)) (f t x y z : Option Da) : Sto := [some (dN N), some (.list (dLL L)), t, some (.list (dLL W)), x, f, y, none, none]
theorem farBody_spec {N : Net} (hN : Ok N) {L W : List (List Nat)} {S : List Nat} {f t : Option Da} (hS : ∀ j ∈ S, ∃ U, L[j]? = some U ∧ U.length ≤ 8 ∧ ∀ x ∈ U, x < N.length) (hl : S.length ≤ 8) (hw : W.length < 1000) (y : Option Da) :
    ∃ (T : List Nat) (y' : Option Da), farBody (stG N L W f t (some (.list (dI S))) y none) = some (.nx (stG N L (W ++ [T]) none t (some (.list (dI S))) y' none)) ∧ T.Pairwise (· < ·) ∧ Uni L S T := by
  have h8 := hN.hi
  obtain ⟨F, y', e, hF, hz⟩ := farIn_loop (N := N) (L := L) (W := W) (S := S) (t := t) (fun j hj => let ⟨U, h1, h2, _⟩ := hS j hj; ⟨U, h1, h2⟩) hl y none
  obtain ⟨T, e2, st, mt⟩ := sset2_dI (l := F) (n := N.length) (fun x hx => by
    obtain ⟨j, hj, U, hU, hx⟩ := (hF x).mp hx
    obtain ⟨U', h1, _, h3⟩ := hS j hj
    rw [hU] at h1
    cases h1
    exact h3 x hx) h8 (by omega)
  refine ⟨T, y', ?_, st, fun x => by rw [mt x, hF x]⟩
  unfold farBody
  refine seq_nx (ρ1 := stF N L W [] t (some (.list (dI S))) y none) rfl (seq_nx (for_eq (ds := dI S) (ρ1 := stF N L W [] t (some (.list (dI S))) y none) rfl e) ?_)
  have zl : (dLL W).length < 100000 := by rw [dLL_len]; omega
  have ap : dLL W ++ [PyData.list (dI T)] = dLL (W ++ [T]) := by rw [show [PyData.list (dI T)] = dLL [T] from rfl, dLL_app]
  simp only [mSeq, mIte, mDo, mB, mOp, mOp1, mBind, mRet, mOpt, withL, Mir.ownL, mVar, mSet, mSetI, mRt, isB, gC, gI, gAdd, Mir.gMul, ix3_0, ix3_1, ix3_2, ixN_0, ixN_1, ixN_2, List.getElem?_cons_zero, List.getElem?_cons_succ, List.set_cons_zero, List.set_cons_succ, List.length_cons, List.length_nil, List.map_cons, List.map_nil, List.cons_append, List.nil_append, Nat.zero_add, Nat.reduceAdd, Nat.reduceSub, List.replicate, if_true, if_false, reduceIte, Bool.false_eq_true, gMod, gDiv, mNx, mApp, mOfL, mMv, e2, if_pos zl, ap]
def turnBody : Sm := (mSeq (mSetO 3 (mSz mNil)) (mSeq (mFor (mBind (mVar 1) fun d => mOpt (asS d)) (fName 4) farBody) (mSet 1 (mMv 3))))
abbrev stT (N : Net) (L : List (List Nat)) (t w x f y : Option Da) : Sto := [some (dN N), some (.list (dLL L)), t, w, x, f, y, none, none]
theorem turn_spec {N : Net} (hN : Ok N) {k : Nat} {L : List (List Nat)} (g : GrwA N k L) (t w x f y : Option Da) :
    ∃ (L' : List (List Nat)) (x' f' y' : Option Da), turnBody (stT N L t w x f y) = some (.nx (stT N L' t none x' f' y')) ∧ GrwA N (k + 1) L' ∧ ∀ S ∈ L', S.Pairwise (· < ·) := by
  have h8 := hN.hi
  obtain ⟨ρ', e, W, x', f', y', rfl, hl, hW⟩ := for_inv (ft := fName 4) (b := farBody) (fun i ρ => ∃ (W : List (List Nat)) (x' f' y' : Option Da), ρ = stG N L W f' t x' y' none ∧ W.length = i ∧ ∀ (j : Nat) (T : List Nat), W[j]? = some T → T.Pairwise (· < ·) ∧ ∃ S, L[j]? = some S ∧ Uni L S T) (dLL L) (fun i d ρ hd ⟨W, x', f', y', hρ, hl, hW⟩ => by
    unfold dLL at hd
    rw [List.getElem?_map] at hd
    obtain ⟨S, hS, rfl⟩ := Option.map_eq_some_iff.mp hd
    subst hρ
    have hi : i < N.length := by rw [← g.1]; exact (List.getElem?_eq_some_iff.mp hS).1
    have gs := g.2 i S hS
    obtain ⟨T, y2, e, st, u⟩ := farBody_spec hN (L := L) (W := W) (S := S) (f := f') (t := t) (fun j hj => by
      have hj' := (gs.rch j hj).lt hN hi
      obtain ⟨U, hU, gU⟩ := g.at hj'
      exact ⟨U, hU, Nat.le_trans (gU.len hN hj') h8, fun x hx => (gU.rch x hx).lt hN hj'⟩) (Nat.le_trans (gs.len hN hi) h8) (by omega) y'
    refine ⟨stG N L W f' t (some (.list (dI S))) y' none, _, rfl, .inl e, W ++ [T], some (.list (dI S)), none, y2, rfl, by rw [List.length_append, hl]; rfl, fun j V hj => ?_⟩
    by_cases lt : j < W.length
    · rw [List.getElem?_append_left lt] at hj
      exact hW j V hj
    · rw [List.getElem?_append_right (by omega)] at hj
      have hz := (List.getElem?_eq_some_iff.mp hj).1
      rw [List.length_singleton] at hz
      have ej : j = i := by omega
      have e0 : j - W.length = 0 := by omega
      rw [e0] at hj
      cases hj
      rw [ej]
      exact ⟨st, S, hS, u⟩) _ 0 (stG N L [] f t x y none) rfl (Nat.zero_le _) ⟨[], x, f, y, rfl, rfl, fun j T hj => by simp at hj⟩
  rw [dLL_len] at hl
  refine ⟨W, x', f', y', ?_, ⟨by rw [hl, g.1], fun i T hT => ?_⟩, fun T hT => ?_⟩
  · unfold turnBody
    exact seq_nx (ρ1 := stG N L [] f t x y none) rfl (seq_nx (for_eq (ds := dLL L) (ρ1 := stG N L [] f t x y none) rfl e) rfl)
  · obtain ⟨st, S, hS, u⟩ := hW i T hT
    have hi : i < N.length := by rw [← g.1, ← hl]; exact (List.getElem?_eq_some_iff.mp hT).1
    exact Grw.next hN g hi hS (st.imp fun h => by omega) u
  · obtain ⟨j, hj⟩ := List.getElem?_of_mem hT
    exact (hW j T hj).1
noncomputable def farsL (N : Net) : List (List Nat) := (List.range N.length).map (far N)
def startE : Da → Da
  | .tuple [.int i, .tuple r] => .list (.int i :: r)
  | _ => .none
theorem Lreaches_spec {N : Net} (hN : Ok N) : m_Lreaches [dN N] = some (.list (dLL (farsL N))) := by
  have h8 := hN.hi
  have lo := hN.lo
  let L0 : List (List Nat) := N.zipIdx.map fun p => p.2 :: p.1
  have g0 : GrwA N 0 L0 := ⟨by simp [L0], fun i S hS => by
    have e1 : L0[i]? = (N[i]?).map fun r => i :: r := by
      show (N.zipIdx.map fun p => p.2 :: p.1)[i]? = _
      rw [List.getElem?_map, List.getElem?_zipIdx, Nat.zero_add]
      cases N[i]? <;> rfl
    rw [e1] at hS
    obtain ⟨r, hr, rfl⟩ := Option.map_eq_some_iff.mp hS
    exact Grw.start hN hr⟩
  have en : enS [dN N] = some (enumD (N.map fun r => .tuple (dI r))) := rfl
  have en2 : enumD (N.map fun r => PyData.tuple (dI r)) = N.zipIdx.map fun p => PyData.tuple [.int (p.2 : Nat), .tuple (dI p.1)] := by
    unfold enumD
    rw [List.zipIdx_map, List.map_map]
    rfl
  have out : ((enumD (N.map fun r => PyData.tuple (dI r))).filter (fun _ => true)).map startE = dLL L0 := by
    rw [List.filter_eq_self.mpr (fun _ _ => rfl), en2]
    unfold dLL
    rw [List.map_map, List.map_map]
    exact List.map_congr_left fun p hp => rfl
  have f0 : mLc (mBind (mCons (mVar 0) mNil) fun ds => mOpt (enS ds)) (fTup 2 (fCons (fName 7) (fCons (fName 8) fNil))) (mRet true) (mOp gAdd (mOfL (mSz (mCons (mVar 7) mNil))) (mOfL (mBind (mCons (mVar 8) mNil) fun ds => mOpt (gListOf ds)))) [7, 8] [some (dN N), none, none, none, none, none, none, none, none] = some (dLL L0, [some (dN N), none, none, none, none, none, none, none, none]) := by
    rw [← out]
    refine lc_gen (fun _ => true) startE (ds := enumD (N.map fun r => .tuple (dI r))) ?_ rfl (by rw [enumD_len, List.length_map]; omega) fun d hd => ?_
    · simp only [mSeq, mIte, mDo, mB, mOp, mOp1, mBind, mRet, mOpt, withL, Mir.ownL, mVar, mSet, mSetI, mRt, isB, gC, gI, gAdd, Mir.gMul, ix3_0, ix3_1, ix3_2, ixN_0, ixN_1, ixN_2, List.getElem?_cons_zero, List.getElem?_cons_succ, List.set_cons_zero, List.set_cons_succ, List.length_cons, List.length_nil, List.map_cons, List.map_nil, List.cons_append, List.nil_append, Nat.zero_add, Nat.reduceAdd, Nat.reduceSub, List.replicate, if_true, if_false, reduceIte, Bool.false_eq_true, gMod, gDiv, mNx, mCons, mNil, en]
    · rw [en2] at hd
      obtain ⟨⟨r, i⟩, hp, rfl⟩ := List.mem_map.mp hd
      have hr : N[i]? = some r := by
        have := List.mem_zipIdx_iff_getElem?.mp hp
        simpa using this
      have rl := asc_len (hN.row i r hr).1 (hN.row i r hr).2.1
      refine ⟨[some (dN N), none, none, none, none, none, none, some (.int (i : Nat)), some (.tuple (dI r))], rfl, rfl, fun _ => ?_, rfl⟩
      have gl : gListOf [.tuple (dI r)] = some (dI r) := rfl
      have z1 : (1 : Nat) ≤ 100000 := by decide
      have ad : gAdd (.list [.int (i : Int)]) (.list (dI r)) = some (.list (.int (i : Int) :: dI r)) := by
        show (if 1 + (dI r).length ≤ 100000 then some (PyData.list ([.int (i : Int)] ++ dI r)) else none) = _
        rw [if_pos (by rw [dI_len]; omega)]
        rfl
      exact op_eq2 (x := .list [.int (i : Int)]) rfl (ofL_eq (bindo_eq (cons_eq rfl nil_eq) gl)) ad
  obtain ⟨ρ', e, L, t, w, x, f, y, rfl, g, st⟩ := for_inv (ft := fName 2) (b := turnBody) (fun k ρ => ∃ (L : List (List Nat)) (t w x f y : Option Da), ρ = stT N L t w x f y ∧ GrwA N k L ∧ (0 < k → ∀ S ∈ L, S.Pairwise (· < ·))) (dI (List.range N.length)) (fun k d ρ hd ⟨L, t, w, x, f, y, hρ, g, st⟩ => by
    obtain ⟨hk, rfl⟩ := rng_at hd
    subst hρ
    obtain ⟨L', x', f', y', e, g', st'⟩ := turn_spec hN g (some (.int (k : Int))) w x f y
    exact ⟨stT N L (some (.int (k : Int))) w x f y, _, rfl, .inl e, L', _, _, _, _, _, rfl, g', fun _ => st'⟩) _ 0 (stT N L0 none none none none none) rfl (Nat.zero_le _) ⟨L0, none, none, none, none, none, rfl, g0, fun h => absurd h (Nat.lt_irrefl 0)⟩
  rw [dI_len, List.length_range] at g st
  have eL : L = farsL N := by
    refine List.ext_getElem? fun i => ?_
    unfold farsL
    rw [List.getElem?_map]
    by_cases hi : i < N.length
    · obtain ⟨S, hS, gS⟩ := g.at hi
      rw [hS, List.getElem?_range hi]
      show some S = some (far N i)
      rw [asc_one (st (by omega) S (List.mem_of_getElem? hS)) (far_sorted N i) (gS.done hN hi)]
    · rw [List.getElem?_eq_none (by rw [g.1]; omega), List.getElem?_eq_none (by rw [List.length_range]; omega)]
      rfl
  subst eL
  unfold m_Lreaches b_Lreaches
  exact run_rt (seq_nx (ρ1 := stT N L0 none none none none none) (set_eq (ofL_eq f0)) (seq_nx (for_eq (rngL hN rfl) e) rfl))
end MirT

set_option Elab.async false
set_option linter.all false
set_option maxRecDepth 100000
namespace MirT
open PySem L2 Mir Nt
/-! ### all sets, ascending, with what alarms -/
def dS (Bs : List (List Nat)) : List Da := Bs.map fun B => .tuple (dI B)
theorem dS_app (a b : List (List Nat)) : dS a ++ dS b = dS (a ++ b) := by unfold dS; rw [List.map_append]
theorem dS_len (a : List (List Nat)) : (dS a).length = a.length := by unfold dS; rw [List.length_map]
/-- all sets of numbers below k -/
def subs : Nat → List (List Nat)
  | 0 => [[]]
  | k + 1 => subs k ++ (subs k).map (· ++ [k])
theorem subs_len : ∀ k, (subs k).length = 2 ^ k
  | 0 => rfl
  | k + 1 => by
    unfold subs
    rw [List.length_append, List.length_map, subs_len k, Nat.pow_succ]
    omega
theorem subs_head : ∀ k, (subs k).head? = some []
  | 0 => rfl
  | k + 1 => by
    unfold subs
    rw [List.head?_append, subs_head k]
    rfl
theorem Sub.snoc {k : Nat} {B : List Nat} (h : Sub k B) : Sub (k + 1) (B ++ [k]) := ⟨List.pairwise_append.mpr ⟨h.1, List.pairwise_singleton _ _, fun x hx y hy => by
  rw [List.mem_singleton.mp hy]
  exact h.2 x hx⟩, fun x hx => by
  rcases List.mem_append.mp hx with hx | hx
  · exact Nat.lt_succ_of_lt (h.2 x hx)
  · rw [List.mem_singleton.mp hx]
    exact Nat.lt_succ_self k⟩
theorem mem_subs : ∀ (k : Nat) (B : List Nat), B ∈ subs k ↔ Sub k B
  | 0, B => by
    constructor
    · intro h
      rw [List.mem_singleton.mp h]
      exact Sub.nil 0
    · intro h
      have : B = [] := by
        cases B with
        | nil => rfl
        | cons x r => exact absurd (h.2 x (List.mem_cons_self ..)) (Nat.not_lt_zero _)
      rw [this]
      exact List.mem_singleton.mpr rfl
  | k + 1, B => by
    unfold subs
    rw [List.mem_append, List.mem_map]
    constructor
    · rintro (h | ⟨C, h, rfl⟩)
      · have := (mem_subs k B).mp h
        exact ⟨this.1, fun x hx => Nat.lt_succ_of_lt (this.2 x hx)⟩
      · exact ((mem_subs k C).mp h).snoc
    · intro h
      by_cases q : k ∈ B
      · refine .inr ⟨B.filter fun x => decide (x < k), (mem_subs k _).mpr ⟨h.1.filter _, fun x hx => of_decide_eq_true (List.mem_filter.mp hx).2⟩, ?_⟩
        have sk : Sub k (B.filter fun x => decide (x < k)) := ⟨h.1.filter _, fun x hx => of_decide_eq_true (List.mem_filter.mp hx).2⟩
        refine asc_one sk.snoc.1 h.1 fun x => ?_
        rw [List.mem_append, List.mem_filter, List.mem_singleton]
        constructor
        · rintro (⟨h1, _⟩ | rfl)
          · exact h1
          · exact q
        · intro hx
          have := h.2 x hx
          by_cases e : x = k
          · exact .inr e
          · exact .inl ⟨hx, decide_eq_true (by omega)⟩
      · refine .inl ((mem_subs k B).mpr ⟨h.1, fun x hx => ?_⟩)
        have := h.2 x hx
        have ne : x ≠ k := fun z => q (z ▸ hx)
        omega
def toI (B : List Nat) : List Int := B.map Int.ofNat
/-- .. in the order of tuples -/
def srt (n : Nat) : List (List Nat) := (subs n).mergeSort fun a b => rle (toI a) (toI b)
theorem mem_srt {n : Nat} {B : List Nat} : B ∈ srt n ↔ Sub n B := by
  unfold srt
  rw [List.mem_mergeSort, mem_subs]
theorem srt_len {n : Nat} (h : n ≤ 8) : (srt n).length ≤ 256 ∧ 0 < (srt n).length := by
  unfold srt
  rw [List.length_mergeSort, subs_len]
  exact ⟨Nat.le_trans (Nat.pow_le_pow_right (by decide) h) (by decide), Nat.two_pow_pos n⟩
theorem dRow_toI (B : List Nat) : dRow (toI B) = .tuple (dI B) := by
  unfold dRow toI dI
  rw [List.map_map]
  rfl
theorem rows_dS : ∀ (Bs : List (List Nat)), rowsD (dS Bs) = some (Bs.map toI)
  | [] => rfl
  | B :: Bs => by
    show (match intsOf (dI B), rowsD (dS Bs) with
      | some ns, some rs => some (ns :: rs)
      | _, _ => none) = _
    rw [intsOf_dI B, rows_dS Bs]
    rfl
theorem sort_dS (n : Nat) : gSortR [.list (dS (subs n))] = some (.list (dS (srt n))) := by
  have hd : ((subs n).map toI).head? = some [] := by
    rw [List.head?_map, subs_head]
    rfl
  show (match rowsD (dS (subs n)) with
    | some rs => if rs.head? = some [] then some (PyData.list ((rs.mergeSort rle).map dRow)) else none
    | none => none) = _
  rw [rows_dS]
  show (if ((subs n).map toI).head? = some [] then some (PyData.list ((((subs n).map toI).mergeSort rle).map dRow)) else none) = _
  rw [if_pos hd]
  have m := List.map_mergeSort (r := fun a b => rle (toI a) (toI b)) (s := rle) (f := toI) (l := subs n) (fun a _ b _ => rfl)
  rw [← m, List.map_map]
  unfold dS srt
  congr 2
  exact List.map_congr_left fun B _ => dRow_toI B
def addE (k : Nat) : Da → Da
  | .tuple es => .tuple (es ++ [.int (k : Int)])
  | _ => .none
theorem Lsets_spec {n : Nat} (hn : n ≤ 8) : m_Lsets [.list (dI (List.range n))] = some (.list (dS (srt n))) := by
  obtain ⟨ρ', e, y, rfl⟩ := for_inv (ft := fName 2) (b := (mSet 1 (mOp gAdd (mVar 1) (mOfL (mLc (mBind (mVar 1) fun d => mOpt (asS d)) (fName 3) (mRet true) (mOp gAdd (mVar 3) (mTup (mCons (mVar 2) mNil))) [3]))))) (fun k ρ => ∃ y, ρ = [some (.list (dI (List.range n))), some (.list (dS (subs k))), y, none]) (dI (List.range n)) (fun k d ρ hd ⟨y, hρ⟩ => by
    obtain ⟨hk, rfl⟩ := rng_at hd
    subst hρ
    have l2 : (subs k).length ≤ 256 := by rw [subs_len]; exact Nat.le_trans (Nat.pow_le_pow_right (by decide) (show k ≤ 8 by omega)) (by decide)
    have lc : mLc (mBind (mVar 1) fun d => mOpt (asS d)) (fName 3) (mRet true) (mOp gAdd (mVar 3) (mTup (mCons (mVar 2) mNil))) [3] [some (.list (dI (List.range n))), some (.list (dS (subs k))), some (.int (k : Int)), none] = some (dS ((subs k).map (· ++ [k])), [some (.list (dI (List.range n))), some (.list (dS (subs k))), some (.int (k : Int)), none]) := by
      have out : ((dS (subs k)).filter fun _ => true).map (addE k) = dS ((subs k).map (· ++ [k])) := by
        rw [List.filter_eq_self.mpr (fun _ _ => rfl)]
        unfold dS
        rw [List.map_map, List.map_map]
        refine List.map_congr_left fun B _ => ?_
        show PyData.tuple (dI B ++ dI [k]) = .tuple (dI (B ++ [k]))
        rw [dI_app]
      rw [← out]
      refine lc_pure (fun _ => true) (addE k) (ds := dS (subs k)) rfl (by simp) (by rw [dS_len]; omega) fun d hd => ⟨rfl, fun _ => ?_⟩
      obtain ⟨B, hB, rfl⟩ := List.mem_map.mp hd
      have bl := ((mem_subs k B).mp hB).len
      have z1 : (1 : Nat) ≤ 100000 := by decide
      have ad : gAdd (.tuple (dI B)) (.tuple [.int (k : Int)]) = some (.tuple (dI B ++ [.int (k : Int)])) := by
        show (if (dI B).length + 1 ≤ 100000 then some (PyData.tuple (dI B ++ [.int (k : Int)])) else none) = _
        rw [if_pos (by rw [dI_len]; omega)]
      exact op_eq2 (x := .tuple (dI B)) rfl (tup_eq (cons_eq rfl nil_eq) z1) ad
    have ad : gAdd (.list (dS (subs k))) (.list (dS ((subs k).map (· ++ [k])))) = some (.list (dS (subs (k + 1)))) := by
      show (if (dS (subs k)).length + (dS ((subs k).map (· ++ [k]))).length ≤ 100000 then some (PyData.list (dS (subs k) ++ dS ((subs k).map (· ++ [k])))) else none) = _
      rw [if_pos (by rw [dS_len, dS_len, List.length_map]; omega), dS_app]
      rfl
    exact ⟨[some (.list (dI (List.range n))), some (.list (dS (subs k))), some (.int (k : Int)), none], _, rfl, .inl (set_eq (op_eq2 (x := .list (dS (subs k))) rfl (ofL_eq lc) ad)), _, rfl⟩) _ 0 [some (.list (dI (List.range n))), some (.list (dS (subs 0))), none, none] rfl (Nat.zero_le _) ⟨none, rfl⟩
  rw [dI_len, List.length_range] at e
  unfold m_Lsets b_Lsets
  refine run_rt (seq_nx (ρ1 := [some (.list (dI (List.range n))), some (.list (dS (subs 0))), none, none]) rfl (seq_nx (for_eq (ds := dI (List.range n)) rfl e) (rt_eq (call_eq (cons_eq (d := .list (dS (subs n))) rfl nil_eq) (sort_dS n)))))
theorem Lmeets_spec (l m : List Nat) (hl : l.length ≤ 1000) : m_Lmeets [.list (dI l), .tuple (dI m)] = some (.bool (!(l.filter fun y => decide (y ∈ m)).isEmpty)) := by
  have lc : mLc (mBind (mVar 0) fun d => mOpt (asS d)) (fName 2) (mB (mOp gIn (mVar 2) (mVar 1))) (mRet (.int 1)) [2] [some (.list (dI l)), some (.tuple (dI m)), none] = some (((dI l).filter (onI fun y => decide (y ∈ m))).map (fun _ => .int 1), [some (.list (dI l)), some (.tuple (dI m)), none]) := by
    refine lc_pure (onI fun y => decide (y ∈ m)) (fun _ => .int 1) (ds := dI l) rfl (by simp) (by rw [dI_len]; omega) fun d hd => ⟨?_, fun _ => rfl⟩
    obtain ⟨y, hy, rfl⟩ := List.mem_map.mp hd
    have it := in_tup y m
    rw [onI_nat]
    simp only [mSeq, mIte, mDo, mB, mOp, mOp1, mBind, mRet, mOpt, withL, Mir.ownL, mVar, mSet, mSetI, mRt, isB, gC, gI, gAdd, Mir.gMul, ix3_0, ix3_1, ix3_2, ixN_0, ixN_1, ixN_2, List.getElem?_cons_zero, List.getElem?_cons_succ, List.set_cons_zero, List.set_cons_succ, List.length_cons, List.length_nil, List.map_cons, List.map_nil, List.cons_append, List.nil_append, Nat.zero_add, Nat.reduceAdd, Nat.reduceSub, List.replicate, if_true, if_false, reduceIte, Bool.false_eq_true, gMod, gDiv, mNx, it]
  have nn := gne_list (ds := ((dI l).filter (onI fun y => decide (y ∈ m))).map (fun _ => PyData.int 1)) (fun d hd => by
    obtain ⟨y, _, rfl⟩ := List.mem_map.mp hd
    exact ⟨rfl, by rw [PyData.depth.eq_6]; omega⟩)
  have em : (((dI l).filter (onI fun y => decide (y ∈ m))).map (fun _ => PyData.int 1)).isEmpty = (l.filter fun y => decide (y ∈ m)).isEmpty := by
    have z := filter_dI (fun y => decide (y ∈ m)) l
    rw [List.map_id'] at z
    rw [z]
    cases (l.filter fun y => decide (y ∈ m)) <;> rfl
  rw [em] at nn
  unfold m_Lmeets b_Lmeets
  exact run_rt (rt_eq (op_eq2 (ofL_eq lc) (show mOfL (mSz mNil) [some (.list (dI l)), some (.tuple (dI m)), none] = some (.list [], [some (.list (dI l)), some (.tuple (dI m)), none]) from rfl) nn))
noncomputable def pairD (N : Net) (B : List Nat) : Da := .tuple [.tuple (dI B), .list (dI (hit N B))]
noncomputable def tblD (N : Net) : List Da := (srt N.length).map (pairD N)
noncomputable def hitT (N : Net) (B : List Nat) : Da → Bool
  | .tuple [.int i, _] => !((far N i.toNat).filter fun y => decide (y ∈ B)).isEmpty
  | _ => false
def fstE : Da → Da
  | .tuple [x, _] => x
  | _ => .none
theorem enum_fars (N : Net) : enumD (dLL (farsL N)) = (List.range N.length).map fun i => PyData.tuple [.int (i : Nat), .list (dI (far N i))] := by
  refine List.ext_getElem? fun i => ?_
  rw [enumD_get, List.getElem?_map]
  unfold dLL farsL
  rw [List.getElem?_map, List.getElem?_map]
  by_cases h : i < N.length
  · rw [List.getElem?_range h]
    rfl
  · rw [List.getElem?_eq_none (by rw [List.length_range]; omega)]
    rfl
theorem Ltable_spec {N : Net} (hN : Ok N) : m_Ltable [dN N] = some (.list (tblD N)) := by
  have h8 := hN.hi
  have e1 := Lreaches_spec hN
  have e2 := Lsets_spec h8
  have sl := srt_len h8
  obtain ⟨ρ', e, y, rfl⟩ := for_inv (ft := fName 3) (b := (mApp 2 (mTup (mCons (mVar 3) (mCons (mOfL (mLc (mBind (mCons (mVar 1) mNil) fun ds => mOpt (enS ds)) (fTup 2 (fCons (fName 4) (fCons (fName 5) fNil))) (mTru (mFn 2 m_Lmeets (mCons (mVar 5) (mCons (mVar 3) mNil)))) (mVar 4) [4, 5])) mNil))))) (fun k ρ => ∃ y, ρ = [some (dN N), some (.list (dLL (farsL N))), some (.list (((srt N.length).take k).map (pairD N))), y, none, none]) (dS (srt N.length)) (fun k d ρ hd ⟨y, hρ⟩ => by
    unfold dS at hd
    rw [List.getElem?_map] at hd
    obtain ⟨B, hB, rfl⟩ := Option.map_eq_some_iff.mp hd
    subst hρ
    have lt := (List.getElem?_eq_some_iff.mp hB).1
    let st (a : List Da) : Sto := [some (dN N), some (.list (dLL (farsL N))), some (.list a), some (.tuple (dI B)), none, none]
    have lc : mLc (mBind (mCons (mVar 1) mNil) fun ds => mOpt (enS ds)) (fTup 2 (fCons (fName 4) (fCons (fName 5) fNil))) (mTru (mFn 2 m_Lmeets (mCons (mVar 5) (mCons (mVar 3) mNil)))) (mVar 4) [4, 5] (st (((srt N.length).take k).map (pairD N))) = some (dI (hit N B), st (((srt N.length).take k).map (pairD N))) := by
      have out : ((enumD (dLL (farsL N))).filter (hitT N B)).map fstE = dI (hit N B) := by
        rw [enum_fars]
        unfold hit dI
        rw [List.filter_map, List.map_map]
        have e : ∀ i ∈ List.range N.length, (hitT N B ∘ fun i => PyData.tuple [.int ((i : Nat) : Int), .list (List.map (fun (i : Nat) => PyData.int (i : Int)) (far N i))]) i = !((far N i).filter fun y => decide (y ∈ B)).isEmpty := fun i _ => by
          show (!((far N ((i : Int)).toNat).filter fun y => decide (y ∈ B)).isEmpty) = _
          rw [Int.toNat_natCast]
        rw [List.filter_congr e]
        rfl
      rw [← out]
      refine lc_gen (hitT N B) fstE (ds := enumD (dLL (farsL N))) rfl rfl (by rw [enumD_len, dLL_len]; unfold farsL; rw [List.length_map, List.length_range]; omega) fun d hd => ?_
      rw [enum_fars] at hd
      obtain ⟨i, hi, rfl⟩ := List.mem_map.mp hd
      have fl := (far_lt hN (a := i)).2
      have me := Lmeets_spec (far N i) B (by omega)
      have tr : hitT N B (.tuple [.int ((i : Nat) : Int), .list (dI (far N i))]) = !((far N i).filter fun y => decide (y ∈ B)).isEmpty := by
        show (!((far N ((i : Int)).toNat).filter fun y => decide (y ∈ B)).isEmpty) = _
        rw [Int.toNat_natCast]
      refine ⟨[some (dN N), some (.list (dLL (farsL N))), some (.list (((srt N.length).take k).map (pairD N))), some (.tuple (dI B)), some (.int (i : Nat)), some (.list (dI (far N i)))], rfl, ?_, fun _ => rfl, rfl⟩
      rw [tr]
      simp only [mSeq, mIte, mDo, mB, mOp, mOp1, mBind, mRet, mOpt, withL, Mir.ownL, mVar, mSet, mSetI, mRt, isB, gC, gI, gAdd, Mir.gMul, ix3_0, ix3_1, ix3_2, ixN_0, ixN_1, ixN_2, List.getElem?_cons_zero, List.getElem?_cons_succ, List.set_cons_zero, List.set_cons_succ, List.length_cons, List.length_nil, List.map_cons, List.map_nil, List.cons_append, List.nil_append, Nat.zero_add, Nat.reduceAdd, Nat.reduceSub, List.replicate, if_true, if_false, reduceIte, Bool.false_eq_true, gMod, gDiv, mNx, mTru, mFn, mCons, mNil, me, gTru]
    have z2 : (2 : Nat) ≤ 100000 := by decide
    have zl : (((srt N.length).take k).map (pairD N)).length < 100000 := by rw [List.length_map, List.length_take]; omega
    have tk : (srt N.length).take (k + 1) = (srt N.length).take k ++ [B] := by rw [List.take_add_one, hB]; rfl
    refine ⟨st (((srt N.length).take k).map (pairD N)), st (((srt N.length).take (k + 1)).map (pairD N)), rfl, .inl ?_, _, rfl⟩
    have tu := tup_eq (cons_eq (f := mVar 3) (d := .tuple (dI B)) (ρ := st (((srt N.length).take k).map (pairD N))) (ρ1 := st (((srt N.length).take k).map (pairD N))) rfl (cons_eq (ofL_eq lc) nil_eq)) z2
    unfold mApp
    simp only [st] at tu ⊢
    simp only [withL, Mir.ownL, mDo, List.getElem?_cons_zero, List.getElem?_cons_succ, tu, if_pos zl]
    rw [tk, List.map_append]
    rfl) _ 0 [some (dN N), some (.list (dLL (farsL N))), some (.list []), none, none, none] rfl (Nat.zero_le _) ⟨none, rfl⟩
  rw [dS_len, List.take_length] at e
  have rg := rng_dI N.length (by omega)
  unfold m_Ltable b_Ltable
  refine run_rt (seq_nx (ρ1 := [some (dN N), some (.list (dLL (farsL N))), some (.list []), none, none, none]) ?_ (seq_nx (for_eq (ds := dS (srt N.length)) (ρ1 := [some (dN N), some (.list (dLL (farsL N))), some (.list []), none, none, none]) ?_ e) rfl))
  · simp only [mSeq, mIte, mDo, mB, mOp, mOp1, mBind, mRet, mOpt, withL, Mir.ownL, mVar, mSet, mSetI, mRt, isB, gC, gI, gAdd, Mir.gMul, ix3_0, ix3_1, ix3_2, ixN_0, ixN_1, ixN_2, List.getElem?_cons_zero, List.getElem?_cons_succ, List.set_cons_zero, List.set_cons_succ, List.length_cons, List.length_nil, List.map_cons, List.map_nil, List.cons_append, List.nil_append, Nat.zero_add, Nat.reduceAdd, Nat.reduceSub, List.replicate, if_true, if_false, reduceIte, Bool.false_eq_true, gMod, gDiv, mNx, mParO, mFn, mCons, mNil, mSz, sized, e1, Nat.zero_le]
  · have rgd : rgD (.int (N.length : Int)) = some (dI (List.range N.length)) := rg
    simp only [mSeq, mIte, mDo, mB, mOp, mOp1, mBind, mRet, mOpt, withL, Mir.ownL, mVar, mSet, mSetI, mRt, isB, gC, gI, gAdd, Mir.gMul, ix3_0, ix3_1, ix3_2, ixN_0, ixN_1, ixN_2, List.getElem?_cons_zero, List.getElem?_cons_succ, List.set_cons_zero, List.set_cons_succ, List.length_cons, List.length_nil, List.map_cons, List.map_nil, List.cons_append, List.nil_append, Nat.zero_add, Nat.reduceAdd, Nat.reduceSub, List.replicate, if_true, if_false, reduceIte, Bool.false_eq_true, gMod, gDiv, mNx, mFn, mCons, mNil, mOfL, mCall, len_dN, rgd, e2, asS]
end MirT

set_option Elab.async false
set_option linter.all false
set_option maxRecDepth 100000
namespace MirT
open PySem L2 Mir Nt
def rowsD (N : Net) : List Da := N.map fun r => .tuple (dI r)
end MirT

set_option Elab.async false
set_option linter.all false
set_option maxRecDepth 100000
namespace MirT
open PySem L2 Mir Nt
def nb (N : Net) (k : Nat) : List Nat := (List.range k).map (nr N)
theorem nb_succ (N : Net) (k : Nat) : nb N (k + 1) = nb N k ++ [nr N k] := by
  unfold nb
  rw [List.range_succ, List.map_append]
  rfl
theorem nb_len (N : Net) (k : Nat) : (nb N k).length = k := by unfold nb; rw [List.length_map, List.length_range]
theorem nb_at {N : Net} {k i : Nat} (h : i < k) : (nb N k)[i]? = some (nr N i) := by
  unfold nb
  rw [List.getElem?_map, List.getElem?_range h]
  rfl
theorem nr_of {N : Net} {i : Nat} {r : List Nat} (h : N[i]? = some r) : nr N i = bm r ||| 2 ^ i := by
  unfold nr
  rw [List.getD_eq_getElem?_getD, h]
  rfl
abbrev stB (N : Net) (k : Nat) (x y z : Option Da) : Sto := [some (dN N), some (.list (dI (nb N k))), some (.int ((2 ^ k : Nat) : Int)), some (.int ((2 ^ N.length : Nat) : Int)), x, y, z]
def nbIn : Sm := (mIte (mOr (mB (mOp gIsX (mVar 6) (mRet (.bool true)))) (mOr (mB (mOp gIsX (mVar 6) (mRet (.bool false)))) (mNot (mTru (mUn (gIsi "int") (mVar 6)))))) (mRt (mOfL (mSz mNil))) mNx)
def nbBody : Sm := (mSeq (mIte (mNot (mTru (mUn (gIsi "tuple") (mVar 4)))) (mRt (mOfL (mSz mNil))) mNx)
    (mSeq (mSet 5 (mRet (.int 0)))
    (mSeq (mIte (mTru (mVar 4)) (mSeq (mFor (mBind (mVar 4) fun d => mOpt (asS d)) (fName 6) nbIn)
    (mSeq (mSet 5 (mOp (gBits HdB.PS) (mVar 4) (mVar 3)))
    (mIte (mOr (mB (mOp gGe (mVar 5) (mVar 3))) (mTru (mOp gBAnd (mVar 5) (mVar 2)))) (mRt (mOfL (mSz mNil))) mNx))) mNx)
    (mSeq (mApp 1 (mOp gBOr (mVar 5) (mVar 2)))
    (mSet 2 (mOp gShl (mVar 2) (mRet (.int 1))))))))
theorem nbIn_spec {N : Net} {k : Nat} {x y z : Option Da} (r : List Nat) : ∃ z', mForL (fName 6) nbIn (dI r) (stB N k x y z) = some (.nx (stB N k x y z')) := by
  obtain ⟨ρ', e, z', rfl⟩ := for_inv (ft := fName 6) (b := nbIn) (fun i ρ => ∃ z', ρ = stB N k x y z') (dI r) (fun i d ρ hd ⟨z', hρ⟩ => by
    rw [dI_get] at hd
    obtain ⟨v, hv, rfl⟩ := Option.map_eq_some_iff.mp hd
    subst hρ
    exact ⟨stB N k x y (some (.int (v : Int))), _, rfl, .inl rfl, _, rfl⟩) _ 0 _ rfl (Nat.zero_le _) ⟨z, rfl⟩
  exact ⟨z', e⟩
theorem nbBody_spec {N : Net} (hN : Ok N) {i : Nat} {r : List Nat} (hr : N[i]? = some r) (y z : Option Da) :
    ∃ y' z', nbBody (stB N i (some (.tuple (dI r))) y z) = some (.nx (stB N (i + 1) (some (.tuple (dI r))) y' z')) := by
  obtain ⟨h1, h2, h3⟩ := hN.row i r hr
  have hi : i < N.length := (List.getElem?_eq_some_iff.mp hr).1
  have h8 := hN.hi
  have lt8 : ∀ x ∈ r, x < 8 := fun x hx => by have := h2 x hx; omega
  have fin : ∀ z', (mSeq (mApp 1 (mOp gBOr (mVar 5) (mVar 2))) (mSet 2 (mOp gShl (mVar 2) (mRet (.int 1))))) (stB N i (some (.tuple (dI r))) (some (.int (bm r : Int))) z') = some (.nx (stB N (i + 1) (some (.tuple (dI r))) (some (.int (bm r : Int))) z')) := fun z' => by
    have zl : (dI (nb N i)).length < 100000 := by rw [dI_len, nb_len]; omega
    have ap : dI (nb N i) ++ [PyData.int ((bm r ||| 2 ^ i : Nat) : Int)] = dI (nb N (i + 1)) := by
      rw [show [PyData.int ((bm r ||| 2 ^ i : Nat) : Int)] = dI [bm r ||| 2 ^ i] from rfl, dI_app, nb_succ, nr_of hr]
    have s1 := g_shl1 (k := i) (by omega)
    simp only [mSeq, mIte, mDo, mB, mOp, mOp1, mBind, mRet, mOpt, withL, Mir.ownL, mVar, mSet, mSetI, mRt, isB, gC, gI, gAdd, Mir.gMul, ix3_0, ix3_1, ix3_2, ixN_0, ixN_1, ixN_2, List.getElem?_cons_zero, List.getElem?_cons_succ, List.set_cons_zero, List.set_cons_succ, List.length_cons, List.length_nil, List.map_cons, List.map_nil, List.cons_append, List.nil_append, Nat.zero_add, Nat.reduceAdd, Nat.reduceSub, List.replicate, if_true, if_false, reduceIte, Bool.false_eq_true, gMod, gDiv, mNx, mApp, g_bor, if_pos zl, ap, s1]
  have t0 : gIsi "tuple" (.tuple (dI r)) = some (.bool true) := rfl
  cases r with
  | nil =>
    refine ⟨some (.int (bm [] : Int)), z, ?_⟩
    unfold nbBody
    refine seq_nx (ρ1 := stB N i (some (.tuple (dI []))) y z) rfl (seq_nx (ρ1 := stB N i (some (.tuple (dI []))) (some (.int (bm [] : Int))) z) rfl (seq_nx (ρ1 := stB N i (some (.tuple (dI []))) (some (.int (bm [] : Int))) z) rfl ?_))
    exact fin z
  | cons a r =>
    obtain ⟨z', e⟩ := nbIn_spec (N := N) (k := i) (x := some (.tuple (dI (a :: r)))) (y := some (.int 0)) (z := z) (a :: r)
    refine ⟨some (.int (bm (a :: r) : Int)), z', ?_⟩
    unfold nbBody
    refine seq_nx (ρ1 := stB N i (some (.tuple (dI (a :: r)))) y z) rfl (seq_nx (ρ1 := stB N i (some (.tuple (dI (a :: r)))) (some (.int 0)) z) rfl (seq_nx (ρ1 := stB N i (some (.tuple (dI (a :: r)))) (some (.int (bm (a :: r) : Int))) z') (ite_t (ρ1 := stB N i (some (.tuple (dI (a :: r)))) (some (.int 0)) z) rfl ?_) ?_))
    · refine seq_nx (ρ1 := stB N i (some (.tuple (dI (a :: r)))) (some (.int 0)) z') (for_eq (ds := dI (a :: r)) (ρ1 := stB N i (some (.tuple (dI (a :: r)))) (some (.int 0)) z) rfl e) ?_
      have gb := g_bits h1 lt8 (.int ((2 ^ N.length : Nat) : Int))
      have ge : decide (((bm (a :: r) : Nat) : Int) ≥ ((2 ^ N.length : Nat) : Int)) = false := decide_eq_false (by
        have := bm_lt (n := N.length) h2
        omega)
      have an : bm (a :: r) &&& 2 ^ i = 0 := by
        refine Classical.byContradiction fun n => ?_
        obtain ⟨j, j1, j2⟩ := and_ne.mp n
        rw [bm_bit, decide_eq_true_iff] at j1
        rw [two_bit] at j2
        exact h3 (j2 ▸ j1)
      have zz : gTru (.int ((0 : Nat) : Int)) = some false := rfl
      simp only [mSeq, mIte, mDo, mB, mOp, mOp1, mBind, mRet, mOpt, withL, Mir.ownL, mVar, mSet, mSetI, mRt, isB, gC, gI, gAdd, Mir.gMul, ix3_0, ix3_1, ix3_2, ixN_0, ixN_1, ixN_2, List.getElem?_cons_zero, List.getElem?_cons_succ, List.set_cons_zero, List.set_cons_succ, List.length_cons, List.length_nil, List.map_cons, List.map_nil, List.cons_append, List.nil_append, Nat.zero_add, Nat.reduceAdd, Nat.reduceSub, List.replicate, if_true, if_false, reduceIte, Bool.false_eq_true, gMod, gDiv, mNx, gb, mOr, ge, mTru, g_band, an, zz]
    · exact fin z'
end MirT

set_option Elab.async false
set_option linter.all false
set_option maxRecDepth 100000
namespace MirT
open PySem L2 Mir Nt
theorem near_spec {N : Net} (hN : Ok N) : m_near_bits [dN N] = some (.list (dI (nb N N.length))) := by
  have h8 := hN.hi
  obtain ⟨ρ', e, x, y, z, rfl⟩ := for_inv (ft := fName 4) (b := nbBody) (fun i ρ => ∃ x y z, ρ = stB N i x y z) (rowsD N) (fun i d ρ hd ⟨x, y, z, hρ⟩ => by
    unfold rowsD at hd
    rw [List.getElem?_map] at hd
    obtain ⟨r, hr, rfl⟩ := Option.map_eq_some_iff.mp hd
    subst hρ
    obtain ⟨y', z', e⟩ := nbBody_spec hN hr y z
    exact ⟨stB N i (some (.tuple (dI r))) y z, _, rfl, .inl e, _, _, _, rfl⟩) _ 0 (stB N 0 none none none) rfl (Nat.zero_le _) ⟨none, none, none, rfl⟩
  rw [show (rowsD N).length = N.length from by unfold rowsD; rw [List.length_map]] at e
  have e1 : decide ((N.length : Int) > 8) = false := decide_eq_false (by omega)
  have t0 : gIsi "tuple" (dN N) = some (.bool true) := rfl
  have sh := g_1shl (k := N.length) (by omega)
  unfold m_near_bits b_near_bits
  refine run_rt (seq_nx (ρ1 := [some (dN N), some (.list []), none, none, none, none, none]) rfl (seq_nx (ρ1 := [some (dN N), some (.list []), none, none, none, none, none]) ?_ (seq_nx (ρ1 := [some (dN N), some (.list []), some (.int 1), none, none, none, none]) rfl (seq_nx (ρ1 := stB N 0 none none none) ?_ (seq_nx (ρ1 := stB N N.length x y z) (for_eq (ds := rowsD N) (ρ1 := stB N 0 none none none) rfl e) rfl)))))
  · simp only [mSeq, mIte, mDo, mB, mOp, mOp1, mBind, mRet, mOpt, withL, Mir.ownL, mVar, mSet, mSetI, mRt, isB, gC, gI, gAdd, Mir.gMul, ix3_0, ix3_1, ix3_2, ixN_0, ixN_1, ixN_2, List.getElem?_cons_zero, List.getElem?_cons_succ, List.set_cons_zero, List.set_cons_succ, List.length_cons, List.length_nil, List.map_cons, List.map_nil, List.cons_append, List.nil_append, Nat.zero_add, Nat.reduceAdd, Nat.reduceSub, List.replicate, if_true, if_false, reduceIte, Bool.false_eq_true, gMod, gDiv, mNx, mOr, mNot, mTru, mUn, t0, gTru, mCall, mCons, mNil, len_dN, e1, Bool.not_true]
  · simp only [mSeq, mIte, mDo, mB, mOp, mOp1, mBind, mRet, mOpt, withL, Mir.ownL, mVar, mSet, mSetI, mRt, isB, gC, gI, gAdd, Mir.gMul, ix3_0, ix3_1, ix3_2, ixN_0, ixN_1, ixN_2, List.getElem?_cons_zero, List.getElem?_cons_succ, List.set_cons_zero, List.set_cons_succ, List.length_cons, List.length_nil, List.map_cons, List.map_nil, List.cons_append, List.nil_append, Nat.zero_add, Nat.reduceAdd, Nat.reduceSub, List.replicate, if_true, if_false, reduceIte, Bool.false_eq_true, gMod, gDiv, mNx, mCall, mCons, mNil, len_dN, sh]
    rfl
theorem nears_spec {N : Net} (hN : Ok N) : m_nears [dN N] = some (.list (dI (nb N N.length))) := by
  have e := near_spec hN
  have lo := hN.lo
  have t0 : gTru (.list (dI (nb N N.length))) = some true := by
    show some (!(dI (nb N N.length)).isEmpty) = _
    have : (dI (nb N N.length)).isEmpty = false := by
      rw [← Bool.not_eq_true, List.isEmpty_iff]
      intro z
      have z2 := congrArg List.length z
      rw [dI_len, nb_len] at z2
      have z3 : N.length = 0 := z2
      omega
    rw [this]
    rfl
  unfold m_nears runP b_nears
  simp only [mSeq, mIte, mDo, mB, mOp, mOp1, mBind, mRet, mOpt, withL, Mir.ownL, mVar, mSet, mSetI, mRt, isB, gC, gI, gAdd, Mir.gMul, ix3_0, ix3_1, ix3_2, ixN_0, ixN_1, ixN_2, List.getElem?_cons_zero, List.getElem?_cons_succ, List.set_cons_zero, List.set_cons_succ, List.length_cons, List.length_nil, List.map_cons, List.map_nil, List.cons_append, List.nil_append, Nat.zero_add, Nat.reduceAdd, Nat.reduceSub, List.replicate, if_true, if_false, reduceIte, Bool.false_eq_true, gMod, gDiv, mNx, mFn, mCons, mNil, e, mNot, mTru, t0, Bool.not_true]
end MirT

set_option Elab.async false
set_option linter.all false
set_option maxRecDepth 100000
namespace MirT
open PySem L2 Mir Nt
/-! ### heard_bits -/
abbrev stH (N : Net) (s h : Nat) (k : Int) (x y : Option Da) : Sto := [some (.list (dI (nb N N.length))), some (.int (s : Int)), some (.int (h : Int)), some (.int k), x, y]
def hbIn : Sm := (mSeq (mIte (mTru (mOp gBAnd (mVar 5) (mVar 2))) (mSet 2 (mOp gBOr (mVar 2) (mVar 4))) mNx)
    (mSet 4 (mOp gShl (mVar 4) (mRet (.int 1)))))
def hbBody : Sm := (mSeq (mSet 3 (mVar 2))
    (mSeq (mSet 4 (mRet (.int 1)))
    (mFor (mBind (mVar 0) fun d => mOpt (asS d)) (fName 5) hbIn)))
theorem hbIn_spec {N : Net} (hN : Ok N) {s h0 h i : Nat} (hi : i < N.length) (m : HeaM N s h0 h i) : ∃ h', hbIn (stH N s h (h0 : Int) (some (.int ((2 ^ i : Nat) : Int))) (some (.int (nr N i : Int)))) = some (.nx (stH N s h' (h0 : Int) (some (.int ((2 ^ (i + 1) : Nat) : Int))) (some (.int (nr N i : Int))))) ∧ HeaM N s h0 h' (i + 1) := by
  have h8 := hN.hi
  have s1 := g_shl1 (k := i) (by omega)
  by_cases q : (nr N i &&& h) ≠ 0
  · refine ⟨h ||| 2 ^ i, ?_, m.yes hi q⟩
    have e1 := decide_eq_true q
    unfold hbIn
    simp only [mSeq, mIte, mDo, mB, mOp, mOp1, mBind, mRet, mOpt, withL, Mir.ownL, mVar, mSet, mSetI, mRt, isB, gC, gI, gAdd, Mir.gMul, ix3_0, ix3_1, ix3_2, ixN_0, ixN_1, ixN_2, List.getElem?_cons_zero, List.getElem?_cons_succ, List.set_cons_zero, List.set_cons_succ, List.length_cons, List.length_nil, List.map_cons, List.map_nil, List.cons_append, List.nil_append, Nat.zero_add, Nat.reduceAdd, Nat.reduceSub, List.replicate, if_true, if_false, reduceIte, Bool.false_eq_true, gMod, gDiv, mNx, mTru, g_band, tru_N, e1, g_bor, s1]
  · refine ⟨h, ?_, m.no q⟩
    have e1 := decide_eq_false q
    unfold hbIn
    simp only [mSeq, mIte, mDo, mB, mOp, mOp1, mBind, mRet, mOpt, withL, Mir.ownL, mVar, mSet, mSetI, mRt, isB, gC, gI, gAdd, Mir.gMul, ix3_0, ix3_1, ix3_2, ixN_0, ixN_1, ixN_2, List.getElem?_cons_zero, List.getElem?_cons_succ, List.set_cons_zero, List.set_cons_succ, List.length_cons, List.length_nil, List.map_cons, List.map_nil, List.cons_append, List.nil_append, Nat.zero_add, Nat.reduceAdd, Nat.reduceSub, List.replicate, if_true, if_false, reduceIte, Bool.false_eq_true, gMod, gDiv, mNx, mTru, g_band, tru_N, e1, g_bor, s1]
theorem hb_pass {N : Net} (hN : Ok N) {s h : Nat} (r : Hea N s h) (k : Int) (x y : Option Da) : ∃ h' x' y', hbBody (stH N s h k x y) = some (.nx (stH N s h' (h : Int) x' y')) ∧ HeaM N s h h' N.length := by
  obtain ⟨ρ', e, h', y', rfl, m⟩ := for_inv (ft := fName 5) (b := hbIn) (fun i ρ => ∃ h' y', ρ = stH N s h' (h : Int) (some (.int ((2 ^ i : Nat) : Int))) y' ∧ HeaM N s h h' i) (dI (nb N N.length)) (fun i v ρ hd ⟨h', y', hρ, m⟩ => by
    rw [dI_get] at hd
    obtain ⟨v, hv, rfl⟩ := Option.map_eq_some_iff.mp hd
    have hi : i < N.length := by
      have := (List.getElem?_eq_some_iff.mp hv).1
      rw [nb_len] at this
      exact this
    rw [nb_at hi] at hv
    cases hv
    subst hρ
    obtain ⟨h2, e, m2⟩ := hbIn_spec hN hi m
    exact ⟨_, _, rfl, .inl e, h2, _, rfl, m2⟩) _ 0 (stH N s h (h : Int) (some (.int ((2 ^ 0 : Nat) : Int))) y) rfl (Nat.zero_le _) ⟨h, y, rfl, r.mid⟩
  rw [dI_len, nb_len] at e m
  refine ⟨h', some (.int ((2 ^ N.length : Nat) : Int)), y', ?_, m⟩
  unfold hbBody
  exact seq_nx (ρ1 := stH N s h (h : Int) x y) rfl (seq_nx (ρ1 := stH N s h (h : Int) (some (.int ((2 ^ 0 : Nat) : Int))) y) rfl (for_eq (ds := dI (nb N N.length)) (ρ1 := stH N s h (h : Int) (some (.int ((2 ^ 0 : Nat) : Int))) y) rfl e))
theorem ne_testI {i j : Nat} {ρ : Sto} {a b : Int} (h1 : ρ[i]? = some (some (.int a))) (h2 : ρ[j]? = some (some (.int b))) : mB (mOp gNe (mVar i) (mVar j)) ρ = some (decide (a ≠ b), ρ) := by
  have e : gNe (.int a) (.int b) = some (.bool (decide (a ≠ b))) := by
    show some (PyData.bool (!decide (a = b))) = _
    rw [← decide_not]
  simp only [mB, mOp, mBind, mVar, h1, h2, mOpt, e, isB]
theorem hb_while {N : Net} (hN : Ok N) {s : Nat} : ∀ (n h : Nat) (k : Int) (x y : Option Da), Hea N s h → (k = (h : Int) → HeaM N s h h N.length) → 9 < n + cnt h + (if k = (h : Int) then 1 else 0) →
    ∃ h' x' y', mWhile (mB (mOp gNe (mVar 2) (mVar 3))) hbBody n (stH N s h k x y) = some (.nx (stH N s h' (h' : Int) x' y')) ∧ HeaM N s h' h' N.length
  | 0, h, k, _, _, _, _, hc => by
    have := cnt_le h
    split at hc <;> omega
  | n + 1, h, k, x, y, r, hk, hc => by
    have t := ne_testI (i := 2) (j := 3) (ρ := stH N s h k x y) (a := (h : Int)) (b := k) rfl rfl
    by_cases e : k = (h : Int)
    · subst e
      refine ⟨h, x, y, ?_, hk rfl⟩
      unfold mWhile mDo
      have d1 : decide ((h : Int) ≠ (h : Int)) = false := decide_eq_false fun z => z rfl
      rw [t, d1]
      rfl
    · rw [if_neg e] at hc
      obtain ⟨h', x', y', e1, m⟩ := hb_pass hN r k x y
      have c : (h : Int) ≠ (h' : Int) → cnt h < cnt h' := fun ne => cnt_lt (pow_256 hN m.hea.lt) m.sub (fun z => ne (by rw [z]))
      obtain ⟨h2, x2, y2, e2, m2⟩ := hb_while hN n h' (h : Int) x' y' m.hea (fun z => by
        have z2 : h = h' := by omega
        subst z2
        exact m) (by
        split
        · rename_i z
          have z2 : h = h' := by omega
          subst z2
          omega
        · rename_i z
          have := c z
          omega)
      refine ⟨h2, x2, y2, ?_, m2⟩
      unfold mWhile mDo
      have d1 : decide ((h : Int) ≠ k) = true := decide_eq_true fun z => e z.symm
      rw [t, d1]
      simp only [if_true, e1]
      exact e2
theorem heard_spec {N : Net} (hN : Ok N) {s : Nat} (hs : s < 2 ^ N.length) : ∃ h : Nat, m_heard_bits [.list (dI (nb N N.length)), .int (s : Int)] = some (.int (h : Int)) ∧ h < 2 ^ N.length ∧ ∀ x, h.testBit x = true ↔ ∃ b, s.testBit b = true ∧ Rch N x b := by
  obtain ⟨h, x, y, e, m⟩ := hb_while hN 200 s (-1) none none (Hea.start hs) (fun z => by omega) (by omega)
  refine ⟨h, ?_, m.hea.lt, m.end hN⟩
  unfold m_heard_bits b_heard_bits
  exact run_rt (seq_nx (ρ1 := [some (.list (dI (nb N N.length))), some (.int (s : Int)), some (.int (s : Int)), none, none, none]) rfl (seq_nx (ρ1 := stH N s s (-1) none none) rfl (seq_nx e rfl)))
end MirT

set_option Elab.async false
set_option linter.all false
set_option maxRecDepth 100000
namespace MirT
open PySem L2 Mir Nt
theorem len_nb {N : Net} : gLen [.list (dI (nb N N.length))] = some (.int (N.length : Int)) := by
  show some (PyData.int ((dI (nb N N.length)).length : Int)) = _
  rw [dI_len, nb_len]
end MirT

set_option Elab.async false
set_option linter.all false
set_option maxRecDepth 100000
namespace MirT
open PySem L2 Mir Nt
/-! ### a set's bits, checked -/
def boIn : Sm := (mIte (mOr (mB (mOp gIsX (mVar 2) (mRet (.bool true)))) (mOr (mB (mOp gIsX (mVar 2) (mRet (.bool false)))) (mNot (mTru (mUn (gIsi "int") (mVar 2)))))) (mRt (mUn gNeg (mRet (.int 1)))) mNx)
theorem bo_loop {a : Da} (l : List Nat) : ∃ z, mForL (fName 2) boIn (dI l) [some (.tuple (dI l)), some a, none, none] = some (.nx [some (.tuple (dI l)), some a, z, none]) := by
  obtain ⟨ρ', e, z, rfl⟩ := for_inv (ft := fName 2) (b := boIn) (fun i ρ => ∃ z, ρ = [some (.tuple (dI l)), some a, z, none]) (dI l) (fun i d ρ hd ⟨z, hρ⟩ => by
    rw [dI_get] at hd
    obtain ⟨v, hv, rfl⟩ := Option.map_eq_some_iff.mp hd
    subst hρ
    exact ⟨[some (.tuple (dI l)), some a, some (.int (v : Int)), none], _, rfl, .inl rfl, _, rfl⟩) _ 0 _ rfl (Nat.zero_le _) ⟨none, rfl⟩
  exact ⟨z, e⟩
theorem shr_0 {b n : Nat} (h : b < 2 ^ n) : gShr (.int (b : Int)) (.int (n : Int)) = some (.int ((0 : Nat) : Int)) := by
  show (if (0 : Int) ≤ (n : Int) then some (PyData.int ((b : Int) / 2 ^ ((n : Int)).toNat)) else none) = _
  rw [if_pos (by omega), Int.toNat_natCast]
  have e : (b : Int) / 2 ^ n = ((b / 2 ^ n : Nat) : Int) := by rw [Int.natCast_ediv, two_cast]
  rw [e, Nat.div_eq_of_lt h]
theorem bits_of_spec {l : List Nat} {n : Nat} (hp : l.Pairwise (· < ·)) (h : ∀ x ∈ l, x < n) (h8 : n ≤ 8) : m_bits_of [.tuple (dI l), .int (n : Int)] = some (.int (bm l : Int)) := by
  obtain ⟨z, e⟩ := bo_loop (a := .int (n : Int)) l
  have t0 : gIsi "tuple" (.tuple (dI l)) = some (.bool true) := rfl
  have n1 : gNeg (.int 1) = some (.int (-1)) := rfl
  have gb := g_bits hp (fun x hx => by have := h x hx; omega) (.int (-1))
  have sh := shr_0 (bm_lt h)
  have zz : gTru (.int ((0 : Nat) : Int)) = some false := rfl
  unfold m_bits_of b_bits_of
  refine run_rt (seq_nx (ρ1 := [some (.tuple (dI l)), some (.int (n : Int)), none, none]) rfl (seq_nx (ρ1 := [some (.tuple (dI l)), some (.int (n : Int)), z, none]) (for_eq (ds := dI l) rfl e) (seq_nx (ρ1 := [some (.tuple (dI l)), some (.int (n : Int)), z, some (.int (bm l : Int))]) ?_ (seq_nx (ρ1 := [some (.tuple (dI l)), some (.int (n : Int)), z, some (.int (bm l : Int))]) ?_ rfl))))
  · simp only [mSeq, mIte, mDo, mB, mOp, mOp1, mBind, mRet, mOpt, withL, Mir.ownL, mVar, mSet, mSetI, mRt, isB, gC, gI, gAdd, Mir.gMul, ix3_0, ix3_1, ix3_2, ixN_0, ixN_1, ixN_2, List.getElem?_cons_zero, List.getElem?_cons_succ, List.set_cons_zero, List.set_cons_succ, List.length_cons, List.length_nil, List.map_cons, List.map_nil, List.cons_append, List.nil_append, Nat.zero_add, Nat.reduceAdd, Nat.reduceSub, List.replicate, if_true, if_false, reduceIte, Bool.false_eq_true, gMod, gDiv, mNx, mUn, n1, gb]
  · simp only [mSeq, mIte, mDo, mB, mOp, mOp1, mBind, mRet, mOpt, withL, Mir.ownL, mVar, mSet, mSetI, mRt, isB, gC, gI, gAdd, Mir.gMul, ix3_0, ix3_1, ix3_2, ixN_0, ixN_1, ixN_2, List.getElem?_cons_zero, List.getElem?_cons_succ, List.set_cons_zero, List.set_cons_succ, List.length_cons, List.length_nil, List.map_cons, List.map_nil, List.cons_append, List.nil_append, Nat.zero_add, Nat.reduceAdd, Nat.reduceSub, List.replicate, if_true, if_false, reduceIte, Bool.false_eq_true, gMod, gDiv, mNx, mTru, sh, zz]
theorem checked_spec {l : List Nat} {n : Nat} (hp : l.Pairwise (· < ·)) (h : ∀ x ∈ l, x < n) (h8 : n ≤ 8) : m_checked_bits [.tuple (dI l), .int (n : Int)] = some (.int (bm l : Int)) := by
  have e := bits_of_spec hp h h8
  have e1 : decide (((bm l : Nat) : Int) < 0) = false := decide_eq_false (by omega)
  unfold m_checked_bits runP b_checked_bits
  simp only [mSeq, mIte, mDo, mB, mOp, mOp1, mBind, mRet, mOpt, withL, Mir.ownL, mVar, mSet, mSetI, mRt, isB, gC, gI, gAdd, Mir.gMul, ix3_0, ix3_1, ix3_2, ixN_0, ixN_1, ixN_2, List.getElem?_cons_zero, List.getElem?_cons_succ, List.set_cons_zero, List.set_cons_succ, List.length_cons, List.length_nil, List.map_cons, List.map_nil, List.cons_append, List.nil_append, Nat.zero_add, Nat.reduceAdd, Nat.reduceSub, List.replicate, if_true, if_false, reduceIte, Bool.false_eq_true, gMod, gDiv, mNx, mFn, mCons, mNil, e, e1]
end MirT

set_option Elab.async false
set_option linter.all false
set_option maxRecDepth 100000
namespace MirT
open PySem L2 Mir Nt
theorem forL_rt {ft : Da → Sto → Option Sto} {b : Sm} {d : Da} {ds : List Da} {ρ ρ1 ρ2 : Sto} {x : Da} (h1 : ft d ρ = some ρ1) (h2 : b ρ1 = some (.rt x ρ2)) : mForL ft b (d :: ds) ρ = some (.rt x ρ2) := by
  show (match ft d ρ with
    | none => none
    | some ρ1 => match b ρ1 with
      | some (.nx ρ') => mForL ft b ds ρ'
      | some (.ct ρ') => mForL ft b ds ρ'
      | some (.bk ρ') => some (.nx ρ')
      | o => o) = _
  rw [h1]
  show (match b ρ1 with
      | some (.nx ρ') => mForL ft b ds ρ'
      | some (.ct ρ') => mForL ft b ds ρ'
      | some (.bk ρ') => some (.nx ρ')
      | o => o) = _
  rw [h2]
theorem forL_nx {ft : Da → Sto → Option Sto} {b : Sm} {d : Da} {ds : List Da} {ρ ρ1 ρ2 : Sto} {r : Option Out} (h1 : ft d ρ = some ρ1) (h2 : b ρ1 = some (.nx ρ2)) (h3 : mForL ft b ds ρ2 = r) : mForL ft b (d :: ds) ρ = r := by
  show (match ft d ρ with
    | none => none
    | some ρ1 => match b ρ1 with
      | some (.nx ρ') => mForL ft b ds ρ'
      | some (.ct ρ') => mForL ft b ds ρ'
      | some (.bk ρ') => some (.nx ρ')
      | o => o) = r
  rw [h1]
  show (match b ρ1 with
      | some (.nx ρ') => mForL ft b ds ρ'
      | some (.ct ρ') => mForL ft b ds ρ'
      | some (.bk ρ') => some (.nx ρ')
      | o => o) = r
  rw [h2]
  exact h3
end MirT

set_option Elab.async false
set_option linter.all false
set_option maxRecDepth 100000
namespace MirT
open PySem L2 Mir Nt
theorem subs_nodup : ∀ k, (subs k).Nodup
  | 0 => List.pairwise_singleton _ _
  | k + 1 => by
    unfold subs
    refine List.nodup_append.mpr ⟨subs_nodup k, ?_, fun S hS T hT e => ?_⟩
    · refine List.Pairwise.map _ ?_ (subs_nodup k)
      intro a b h z
      exact h (List.append_cancel_right z)
    · obtain ⟨U, _, rfl⟩ := List.mem_map.mp hT
      have := ((mem_subs k S).mp hS).2 k (by rw [e]; simp)
      omega
theorem srt_slt (n : Nat) : (srt n).Pairwise slt := by
  have nd : (srt n).Nodup := ((List.mergeSort_perm _ _).nodup_iff).mpr (subs_nodup n)
  have p : (srt n).Pairwise fun a b => rle (Nt.toI a) (Nt.toI b) = true := List.pairwise_mergeSort (le := fun a b => rle (Nt.toI a) (Nt.toI b)) (fun a b c h1 h2 => by
    have h1' : ¬ slt b a := by simpa [rle, slt] using h1
    have h2' : ¬ slt c b := by simpa [rle, slt] using h2
    have : ¬ slt c a := fun h => by
      rcases (PyProof.Rows.listOrd PyProof.Rows.intKind.toKeyOrd).negTrans (Nt.toI c) (Nt.toI b) (Nt.toI a) h with q | q
      · exact h2' q
      · exact h1' q
    simpa [rle, slt] using this) (fun a b => by
    by_cases h : slt b a
    · have n2 : ¬ slt a b := fun q => slt_irrefl _ (slt_trans h q)
      have : rle (Nt.toI b) (Nt.toI a) = true := by simpa [rle, slt] using n2
      rw [this, Bool.or_true]
    · have : rle (Nt.toI a) (Nt.toI b) = true := by simpa [rle, slt] using h
      rw [this, Bool.true_or]) (subs n)
  refine (List.Pairwise.and p nd).imp fun {a b} h => ?_
  have h1 : ¬ slt b a := by simpa [rle, slt] using h.1
  exact Classical.byContradiction fun q => h.2 (slt_total q h1)
end MirT

set_option Elab.async false
set_option linter.all false
set_option maxRecDepth 100000
namespace MirT
open PySem L2 Mir Nt
/-! ### lists by their keys -/
def firstsF (f : Nat → Nat) (k : Nat) : List Nat := (List.range k).filter fun i => (List.range i).all fun j => decide (f j ≠ f i)
def memF (f : Nat → Nat) (k i : Nat) : List Nat := (List.range k).filter fun j => decide (f j = f i)
theorem mem_firsts {f : Nat → Nat} {k i : Nat} : i ∈ firstsF f k ↔ i < k ∧ ∀ j, j < i → f j ≠ f i := by
  unfold firstsF
  rw [List.mem_filter, List.mem_range, List.all_eq_true]
  exact and_congr_right fun _ => ⟨fun h j hj => of_decide_eq_true (h j (List.mem_range.mpr hj)), fun h j hj => decide_eq_true (h j (List.mem_range.mp hj))⟩
theorem mem_memF {f : Nat → Nat} {k i j : Nat} : j ∈ memF f k i ↔ j < k ∧ f j = f i := by
  unfold memF
  rw [List.mem_filter, List.mem_range, decide_eq_true_iff]
def collT (f : Nat → Nat) (k : Nat) : List (Da × Da) := (firstsF f k).map fun (i : Nat) => (.int (f i : Int), .list (dI (memF f k i)))
theorem sameF (i j : Nat) : sameK (.int (i : Int)) (.int (j : Int)) = decide (i = j) := by
  show decide ((i : Int) = (j : Int)) = _
  exact decide_eq_decide.mpr (by omega)
theorem addK_neg {f : Nat → Nat} {g : Nat → List Nat} {key e : Nat} : ∀ {F : List Nat}, (∀ i ∈ F, f i ≠ key) → addK (F.map fun (i : Nat) => (PyData.int (f i : Int), PyData.list (dI (g i)))) (.int (key : Int)) (.int (e : Int)) = (F.map fun (i : Nat) => (PyData.int (f i : Int), PyData.list (dI (g i)))) ++ [(.int (key : Int), .list [.int (e : Int)])]
  | [], _ => rfl
  | i :: F, h => by
    have ih := addK_neg (f := f) (g := g) (key := key) (e := e) fun j hj => h j (List.mem_cons_of_mem _ hj)
    show (if sameK (.int (f i : Int)) (.int (key : Int)) = true then _ else (PyData.int (f i : Int), PyData.list (dI (g i))) :: addK (F.map fun (i : Nat) => (PyData.int (f i : Int), PyData.list (dI (g i)))) (.int (key : Int)) (.int (e : Int))) = _
    rw [sameF, if_neg (by rw [decide_eq_false (h i List.mem_cons_self)]; exact Bool.false_ne_true), ih]
    rfl
theorem addK_pos {f : Nat → Nat} {g : Nat → List Nat} {key e : Nat} : ∀ {F : List Nat}, F.Pairwise (fun i j => f i ≠ f j) → (∃ i ∈ F, f i = key) → addK (F.map fun (i : Nat) => (PyData.int (f i : Int), PyData.list (dI (g i)))) (.int (key : Int)) (.int (e : Int)) = F.map fun (i : Nat) => (PyData.int (f i : Int), PyData.list (dI (if f i = key then g i ++ [e] else g i)))
  | [], _, ⟨i, h, _⟩ => absurd h List.not_mem_nil
  | i :: F, hp, hx => by
    obtain ⟨h1, h2⟩ := List.pairwise_cons.mp hp
    show (if sameK (.int (f i : Int)) (.int (key : Int)) = true then (PyData.int (f i : Int), PyData.list (dI (g i) ++ [.int (e : Int)])) :: (F.map fun (i : Nat) => (PyData.int (f i : Int), PyData.list (dI (g i)))) else (PyData.int (f i : Int), PyData.list (dI (g i))) :: addK (F.map fun (i : Nat) => (PyData.int (f i : Int), PyData.list (dI (g i)))) (.int (key : Int)) (.int (e : Int))) = _
    rw [sameF, List.map_cons]
    by_cases q : f i = key
    · rw [if_pos (decide_eq_true q), if_pos q, show [PyData.int (e : Int)] = dI [e] from rfl, dI_app]
      congr 1
      refine List.map_congr_left fun j hj => ?_
      rw [if_neg (fun z => h1 j hj (q.trans z.symm))]
    · rw [if_neg (by rw [decide_eq_false q]; exact Bool.false_ne_true), if_neg q]
      congr 1
      refine addK_pos h2 ?_
      obtain ⟨j, hj, e⟩ := hx
      rcases List.mem_cons.mp hj with z | z
      · exact absurd (z ▸ e) q
      · exact ⟨j, z, e⟩
theorem firsts_pair (f : Nat → Nat) (k : Nat) : (firstsF f k).Pairwise fun i j => f i ≠ f j := by
  have : (firstsF f k).Pairwise (· < ·) := List.pairwise_lt_range.filter _
  exact List.Pairwise.imp_of_mem (fun {i j} _ hj lt => (mem_firsts.mp hj).2 i lt) this
theorem firsts_succ (f : Nat → Nat) (k : Nat) : firstsF f (k + 1) = if (∃ j, j < k ∧ f j = f k) then firstsF f k else firstsF f k ++ [k] := by
  unfold firstsF
  rw [List.range_succ, List.filter_append, List.filter_cons, List.filter_nil]
  by_cases q : ∃ j, j < k ∧ f j = f k
  · rw [if_pos q, if_neg ?_, List.append_nil]
    obtain ⟨j, h1, h2⟩ := q
    intro z
    exact of_decide_eq_true (List.all_eq_true.mp z j (List.mem_range.mpr h1)) h2
  · rw [if_neg q, if_pos ?_]
    exact List.all_eq_true.mpr fun j hj => decide_eq_true fun z => q ⟨j, List.mem_range.mp hj, z⟩
theorem memF_succ (f : Nat → Nat) (k i : Nat) : memF f (k + 1) i = if f k = f i then memF f k i ++ [k] else memF f k i := by
  unfold memF
  rw [List.range_succ, List.filter_append, List.filter_cons, List.filter_nil]
  by_cases q : f k = f i
  · rw [if_pos q, if_pos (decide_eq_true q)]
  · rw [if_neg q, if_neg (by rw [decide_eq_false q]; exact Bool.false_ne_true), List.append_nil]
theorem least_of {p : Nat → Prop} : ∀ n, p n → ∃ k, k ≤ n ∧ p k ∧ ∀ j, j < k → ¬ p j := L2.st_least
theorem collT_succ (f : Nat → Nat) (k : Nat) : addK (collT f k) (.int (f k : Int)) (.int (k : Int)) = collT f (k + 1) := by
  unfold collT
  rw [firsts_succ]
  by_cases q : ∃ j, j < k ∧ f j = f k
  · rw [if_pos q]
    obtain ⟨j, h1, h2⟩ := q
    obtain ⟨m, m1, m2, m3⟩ := least_of (p := fun x => f x = f k) j h2
    have mm : m ∈ firstsF f k := mem_firsts.mpr ⟨by omega, fun x hx e => m3 x hx (e.trans m2)⟩
    rw [addK_pos (g := memF f k) (firsts_pair f k) ⟨m, mm, m2⟩]
    refine List.map_congr_left fun i _ => ?_
    rw [memF_succ]
    by_cases e : f i = f k
    · rw [if_pos e, if_pos e.symm]
    · rw [if_neg e, if_neg (fun z => e z.symm)]
  · rw [if_neg q, addK_neg (g := memF f k) (fun i hi e => q ⟨i, (mem_firsts.mp hi).1, e⟩), List.map_append]
    congr 1
    · refine List.map_congr_left fun i hi => ?_
      rw [memF_succ, if_neg (fun z => q ⟨i, (mem_firsts.mp hi).1, z.symm⟩)]
    · have e0 : memF f (k + 1) k = [k] := by
        rw [memF_succ, if_pos rfl]
        have : memF f k k = [] := List.eq_nil_iff_forall_not_mem.mpr fun j hj => q ⟨j, (mem_memF.mp hj).1, (mem_memF.mp hj).2⟩
        rw [this]
        rfl
      show [(PyData.int (f k : Int), PyData.list [.int (k : Int)])] = [(PyData.int (f k : Int), PyData.list (dI (memF f (k + 1) k)))]
      rw [e0]
      rfl
theorem firsts_len (f : Nat → Nat) (k : Nat) : (firstsF f k).length ≤ k := by
  have := List.length_filter_le (fun i => (List.range i).all fun j => decide (f j ≠ f i)) (List.range k)
  rw [List.length_range] at this
  exact this
theorem collT_ok (f : Nat → Nat) {k : Nat} (h : k ≤ 1000) : (collT f k).length < 100000 ∧ ((collT f k).all fun p => okL p.2) = true := by
  have fl := firsts_len f k
  refine ⟨by unfold collT; rw [List.length_map]; omega, List.all_eq_true.mpr fun p hp => ?_⟩
  obtain ⟨i, _, rfl⟩ := List.mem_map.mp hp
  have := List.length_filter_le (fun j => decide (f j = f i)) (List.range k)
  rw [List.length_range] at this
  show decide ((dI (memF f k i)).length < 100000) = true
  rw [dI_len, decide_eq_true_iff]
  show (List.filter _ _).length < _
  omega
/-- all of the loop -/
theorem coll_loop {ft : Da → Sto → Option Sto} {fk fe : Md Da} {f : Nat → Nat} {n : Nat} (E : Nat → Da) (I : Sto → Prop) (hn : n ≤ 1000) (hb : ∀ i, i < n → ∀ ρ, I ρ → ∃ ρ1 ρ2 ρ3, ft (E i) ρ = some ρ1 ∧ fk ρ1 = some (.int (f i : Int), ρ2) ∧ fe ρ2 = some (.int (i : Int), ρ3) ∧ I ρ3) :
    ∀ (m k : Nat) (ρ : Sto), k + m = n → I ρ → ∃ ρ', I ρ' ∧ mCollL ft fk fe ((List.range' k m).map E) (collT f k) ρ = some (collT f n, ρ')
  | 0, k, ρ, hk, hI => by
    have : k = n := by omega
    subst this
    exact ⟨ρ, hI, rfl⟩
  | m + 1, k, ρ, hk, hI => by
    obtain ⟨ρ1, ρ2, ρ3, e1, e2, e3, h3⟩ := hb k (by omega) ρ hI
    obtain ⟨ρ', h', e⟩ := coll_loop (f := f) E I hn hb m (k + 1) ρ3 (by omega) h3
    refine ⟨ρ', h', ?_⟩
    obtain ⟨z1, z2⟩ := collT_ok f (k := k) (by omega)
    rw [List.range'_succ, List.map_cons]
    unfold mCollL
    simp only [e1, e2, e3]
    rw [if_pos ⟨rfl, z1, z2⟩, collT_succ]
    exact e
end MirT

set_option Elab.async false
set_option linter.all false
set_option maxRecDepth 100000
namespace MirT
open PySem L2 Mir Nt
def toN (l : List Nat) : List Int := l.map fun (i : Nat) => (i : Int)
theorem dI_toN (l : List Nat) : (toN l).map PyData.int = dI l := by
  unfold toN dI
  rw [List.map_map]
  rfl
theorem head_mem {f : Nat → Nat} {n i : Nat} (h : i ∈ firstsF f n) : ∃ r, memF f n i = i :: r := by
  obtain ⟨h1, h2⟩ := mem_firsts.mp h
  have hi : i ∈ memF f n i := mem_memF.mpr ⟨h1, rfl⟩
  have so : (memF f n i).Pairwise (· < ·) := List.pairwise_lt_range.filter _
  cases e : memF f n i with
  | nil => rw [e] at hi; cases hi
  | cons m r =>
    have hm : m ∈ memF f n i := by rw [e]; exact List.mem_cons_self
    have h3 := (mem_memF.mp hm).2
    have ge : ¬ m < i := fun lt => h2 m lt h3
    rw [e] at hi so
    rcases List.mem_cons.mp hi with z | z
    · exact ⟨r, by rw [← z]⟩
    · have := (List.pairwise_cons.mp so).1 i z
      omega
end MirT

set_option Elab.async false
set_option linter.all false
set_option maxRecDepth 100000
namespace MirT
open PySem L2 Mir Nt
theorem fnI_eq {n j : Nat} {g : List Da → List Da → Option (Da × List Da)} {fs : Md (List Da)} {ρ ρ1 : Sto} {ds0 ds pds pds' : List Da} {d : Da} (h0 : Mir.ownL j ρ = some ds0) (h1 : fs ρ = some (ds, ρ1)) (h2 : Mir.ownL j ρ1 = some pds) (hn : ds.length + 1 = n) (h3 : g pds ds = some (d, pds')) : mFnI n j g fs ρ = some (d, ρ1.set j (some (.list pds'))) := by
  unfold mFnI mBind withL
  simp only [h0, h1, h2, h3, if_pos hn]
end MirT

set_option Elab.async false
set_option linter.all false
set_option maxRecDepth 100000
namespace MirT
open PySem L2 Mir Nt
/-! ### groups -/
noncomputable def ser (N : Net) (W : List Nat) (i : Nat) : List Nat := W.filter fun x => decide (x ∈ hit N [i])
noncomputable def gk (N : Net) (W : List Nat) (i : Nat) : Nat := bm (ser N W i)
theorem ser_sub {N : Net} {W : List Nat} (hW : Sub N.length W) (i : Nat) : Sub N.length (ser N W i) := ⟨hW.1.filter _, fun x hx => hW.2 x (List.mem_filter.mp hx).1⟩
theorem gk_iff {N : Net} (hN : Ok N) {W : List Nat} (hW : Sub N.length W) {i j : Nat} : gk N W i = gk N W j ↔ ser N W i = ser N W j := by
  have h8 := hN.hi
  constructor
  · intro h
    have e := congrArg sl h
    unfold gk at e
    rwa [sl_bm (ser_sub hW i).1 (fun x hx => by have := (ser_sub hW i).2 x hx; omega), sl_bm (ser_sub hW j).1 (fun x hx => by have := (ser_sub hW j).2 x hx; omega)] at e
  · intro h
    unfold gk
    rw [h]
noncomputable def grpL (N : Net) (W : List Nat) : List Da := (firstsF (gk N W) N.length).map fun i => PyData.tuple (dI (memF (gk N W) N.length i))
noncomputable def grpD (N : Net) (W : List Nat) : Da := .tuple (grpL N W)
theorem heard_and {N : Net} (hN : Ok N) {W : List Nat} (hW : Sub N.length W) {i : Nat} (hi : i < N.length) : ∃ h : Nat, m_heard_bits [.list (dI (nb N N.length)), .int ((2 ^ i : Nat) : Int)] = some (.int (h : Int)) ∧ h &&& bm W = gk N W i := by
  have h8 := hN.hi
  obtain ⟨h, e, hl, hb⟩ := heard_spec hN (s := 2 ^ i) (Nat.pow_lt_pow_right (by decide) hi)
  refine ⟨h, e, Nat.eq_of_testBit_eq fun x => ?_⟩
  unfold gk
  rw [Nat.testBit_and, bm_bit, bm_bit, Bool.eq_iff_iff, Bool.and_eq_true, decide_eq_true_iff, decide_eq_true_iff, hb x]
  unfold ser
  rw [List.mem_filter, decide_eq_true_iff, mem_hit hN]
  constructor
  · rintro ⟨⟨b, h1, h2⟩, h3⟩
    have : b = i := (two_bit i b).mp h1
    subst this
    exact ⟨h3, hW.2 x h3, b, List.mem_singleton.mpr rfl, h2⟩
  · rintro ⟨h3, _, b, hb1, h2⟩
    rw [List.mem_singleton.mp hb1] at h2
    exact ⟨⟨i, (two_bit i i).mpr rfl, h2⟩, h3⟩
theorem groups_spec {N : Net} (hN : Ok N) {W : List Nat} (hW : Sub N.length W) : m_groups [dN N, .tuple (dI W)] = some (grpD N W) := by
  have h8 := hN.hi
  have e0 := nears_spec hN
  have ec := checked_spec hW.1 hW.2 h8
  have ln := len_nb (N := N)
  let S (x4 x5 : Option Da) : Sto := [some (dN N), some (.tuple (dI W)), some (.list (dI (nb N N.length))), some (.int (bm W : Int)), x4, x5, none]
  let E : Nat → Da := fun i => .int (i : Int)
  have rg : rng1 [.int (N.length : Int)] = some ((List.range' 0 N.length).map E) := by
    rw [rng_dI N.length (by omega), List.range_eq_range']
    rfl
  obtain ⟨ρ', ⟨y5, rfl⟩, e2⟩ := coll_loop (ft := fName 5) (fk := (mOp gBAnd (mFn 2 m_heard_bits (mCons (mVar 2) (mCons (mOp gShl (mRet (.int 1)) (mVar 5)) mNil))) (mVar 3))) (fe := mVar 5) (f := gk N W) (n := N.length) E (fun ρ => ∃ x5, ρ = S none x5) (by omega) (fun i hi ρ ⟨x5, hρ⟩ => by
    subst hρ
    obtain ⟨h, eh, ea⟩ := heard_and hN hW hi
    have s1 := g_1shl (k := i) (by omega)
    have ga := g_band h (bm W)
    rw [ea] at ga
    refine ⟨S none (some (.int (i : Int))), S none (some (.int (i : Int))), _, rfl, ?_, rfl, _, rfl⟩
    simp only [S]
    simp only [mSeq, mIte, mDo, mB, mOp, mOp1, mBind, mRet, mOpt, withL, Mir.ownL, mVar, mSet, mSetI, mRt, isB, gC, gI, gAdd, Mir.gMul, ix3_0, ix3_1, ix3_2, ixN_0, ixN_1, ixN_2, List.getElem?_cons_zero, List.getElem?_cons_succ, List.set_cons_zero, List.set_cons_succ, List.length_cons, List.length_nil, List.map_cons, List.map_nil, List.cons_append, List.nil_append, Nat.zero_add, Nat.reduceAdd, Nat.reduceSub, List.replicate, if_true, if_false, reduceIte, Bool.false_eq_true, gMod, gDiv, mNx, mFn, mCons, mNil, s1, eh, ga]) N.length 0 (S none none) (by omega) ⟨none, rfl⟩
  have c0 : collT (gk N W) 0 = [] := rfl
  rw [c0] at e2
  let S1 : Sto := S (some (.dict (collT (gk N W) N.length))) y5
  have q1 : mColl 4 (mBind (mCons (mCall gLen (mCons (mVar 2) mNil)) mNil) fun ds => mOpt (rng1 ds)) (fName 5) (mOp gBAnd (mFn 2 m_heard_bits (mCons (mVar 2) (mCons (mOp gShl (mRet (.int 1)) (mVar 5)) mNil))) (mVar 3)) (mVar 5) (S none none) = some (.nx S1) := by
    have fi : (mBind (mCons (mCall gLen (mCons (mVar 2) mNil)) mNil) fun ds => mOpt (rng1 ds)) (S none none) = some ((List.range' 0 N.length).map E, S none none) := by
      refine bindo_eq (x := [.int (N.length : Int)]) ?_ rg
      simp only [S]
      simp only [mSeq, mIte, mDo, mB, mOp, mOp1, mBind, mRet, mOpt, withL, Mir.ownL, mVar, mSet, mSetI, mRt, isB, gC, gI, gAdd, Mir.gMul, ix3_0, ix3_1, ix3_2, ixN_0, ixN_1, ixN_2, List.getElem?_cons_zero, List.getElem?_cons_succ, List.set_cons_zero, List.set_cons_succ, List.length_cons, List.length_nil, List.map_cons, List.map_nil, List.cons_append, List.nil_append, Nat.zero_add, Nat.reduceAdd, Nat.reduceSub, List.replicate, if_true, if_false, reduceIte, Bool.false_eq_true, gMod, gDiv, mNx, mCall, mCons, mNil, ln]
    unfold mColl
    rw [if_pos (show 4 < (S none none).length from (by decide : (4 : Nat) < 7))]
    have s0 : (S none none).set 4 none = S none none := rfl
    rw [s0]
    simp only [fi, e2]
    rfl
  have vq : valsQ (.dict (collT (gk N W) N.length)) = some ((firstsF (gk N W) N.length).map fun i => PyData.list (dI (memF (gk N W) N.length i))) := by
    show some ((collT (gk N W) N.length).map (·.2)) = _
    unfold collT
    rw [List.map_map]
    rfl
  have fl := firsts_len (gk N W) N.length
  have lc : mLc (mBind (mVar 4) fun d => mOpt (valsQ d)) (fName 6) (mRet true) (mCall gTupleOf (mCons (mVar 6) mNil)) [6] S1 = some (grpL N W, S1) := by
    have out : (((firstsF (gk N W) N.length).map fun i => PyData.list (dI (memF (gk N W) N.length i))).filter fun _ => true).map (fun d => match d with | .list ds => PyData.tuple ds | _ => .none) = grpL N W := by
      rw [List.filter_eq_self.mpr (fun _ _ => rfl), List.map_map]
      rfl
    rw [← out]
    refine lc_pure (fun _ => true) (fun d => match d with | .list ds => PyData.tuple ds | _ => .none) (ds := (firstsF (gk N W) N.length).map fun i => PyData.list (dI (memF (gk N W) N.length i))) (bindo_eq (x := .dict (collT (gk N W) N.length)) rfl vq) (by simp [S1, S]) (by rw [List.length_map]; omega) fun d hd => ⟨rfl, fun _ => ?_⟩
    obtain ⟨i, _, rfl⟩ := List.mem_map.mp hd
    rfl
  unfold m_groups b_groups
  refine run_rt (seq_nx (ρ1 := [some (dN N), some (.tuple (dI W)), some (.list (dI (nb N N.length))), none, none, none, none]) ?_ (seq_nx (ρ1 := S none none) ?_ (seq_nx q1 (rt_eq (call_eq (cons_eq (ofL_eq lc) nil_eq) rfl)))))
  · simp only [mSeq, mIte, mDo, mB, mOp, mOp1, mBind, mRet, mOpt, withL, Mir.ownL, mVar, mSet, mSetI, mRt, isB, gC, gI, gAdd, Mir.gMul, ix3_0, ix3_1, ix3_2, ixN_0, ixN_1, ixN_2, List.getElem?_cons_zero, List.getElem?_cons_succ, List.set_cons_zero, List.set_cons_succ, List.length_cons, List.length_nil, List.map_cons, List.map_nil, List.cons_append, List.nil_append, Nat.zero_add, Nat.reduceAdd, Nat.reduceSub, List.replicate, if_true, if_false, reduceIte, Bool.false_eq_true, gMod, gDiv, mNx, mFn, mCons, mNil, e0]
  · simp only [mSeq, mIte, mDo, mB, mOp, mOp1, mBind, mRet, mOpt, withL, Mir.ownL, mVar, mSet, mSetI, mRt, isB, gC, gI, gAdd, Mir.gMul, ix3_0, ix3_1, ix3_2, ixN_0, ixN_1, ixN_2, List.getElem?_cons_zero, List.getElem?_cons_succ, List.set_cons_zero, List.set_cons_succ, List.length_cons, List.length_nil, List.map_cons, List.map_nil, List.cons_append, List.nil_append, Nat.zero_add, Nat.reduceAdd, Nat.reduceSub, List.replicate, if_true, if_false, reduceIte, Bool.false_eq_true, gMod, gDiv, mNx, mFn, mCall, mCons, mNil, ln, ec]
    rfl
theorem shw_grp {N : Net} (hN : Ok N) (W : List Nat) : Shw (grpD N W) 800 2 := (shw_tup (m := 8) (w := 88) (k := 1) (fun d hd => by
  unfold grpL at hd
  obtain ⟨i, hi, rfl⟩ := List.mem_map.mp hd
  have h8 := hN.hi
  have sb : ∀ x ∈ memF (gk N W) N.length i, x < N.length := fun x hx => (mem_memF.mp hx).1
  exact shw_dI (fun x hx => by have := sb x hx; omega) (Nat.le_trans (asc_len (List.pairwise_lt_range.filter _) sb) h8)) (by unfold grpL; rw [List.length_map]; exact Nat.le_trans (firsts_len _ _) hN.hi)).mono (by decide) (by decide)
end MirT

set_option Elab.async false
set_option linter.all false
set_option maxRecDepth 100000
namespace MirT
open PySem L2 Mir Nt
/-! ### groups, the law's way -/
theorem toN_inj {a b : List Nat} (h : toN a = toN b) : a = b := by
  have e : ∀ {a b : List Nat}, toN a = toN b → a = b := by
    intro a
    induction a with
    | nil =>
      intro b h
      cases b with
      | nil => rfl
      | cons y b => cases h
    | cons x a ih =>
      intro b h
      cases b with
      | nil => cases h
      | cons y b =>
        have h : ((x : Int) :: toN a) = ((y : Int) :: toN b) := h
        injection h with h1 h2
        rw [ih h2, show x = y from by omega]
  exact e h
theorem intsQ_dI : ∀ (l : List Nat), intsQ (dI l) = some (toN l)
  | [] => rfl
  | x :: l => by
    show (intsQ (dI l)).map (((x : Nat) : Int) :: ·) = _
    rw [intsQ_dI l]
    rfl
noncomputable def tT (N : Net) (W : List Nat) (k : Nat) : List (List Int × Da) := (firstsF (gk N W) k).map fun i => (toN (ser N W i), PyData.tuple (dI (memF (gk N W) k i)))
theorem key_iff {N : Net} (hN : Ok N) {W : List Nat} (hW : Sub N.length W) {i j : Nat} : toN (ser N W i) = toN (ser N W j) ↔ gk N W i = gk N W j :=
  ⟨fun h => (gk_iff hN hW).mpr (toN_inj h), fun h => by rw [(gk_iff hN hW).mp h]⟩
theorem tT_nd {N : Net} (hN : Ok N) {W : List Nat} (hW : Sub N.length W) (k : Nat) : ((tT N W k).map (·.1)).Nodup := by
  unfold tT
  rw [List.map_map]
  exact List.pairwise_map.mpr ((firsts_pair (gk N W) k).imp fun {i j} h z => h ((key_iff hN hW).mp z))
theorem tT_put {N : Net} (hN : Ok N) {W : List Nat} (hW : Sub N.length W) {k : Nat} (hk : k < N.length) : ∃ v, gAdd ((getT (tT N W k) (toN (ser N W k))).getD (.tuple [])) (.tuple (dI [k])) = some v ∧ putT (tT N W k) (toN (ser N W k)) v = tT N W (k + 1) := by
  have h8 := hN.hi
  by_cases q : ∃ j, j < k ∧ gk N W j = gk N W k
  · obtain ⟨j, h1, h2⟩ := q
    obtain ⟨m, m1, m2, m3⟩ := least_of (p := fun x => gk N W x = gk N W k) j h2
    have mm : m ∈ firstsF (gk N W) k := mem_firsts.mpr ⟨by omega, fun x hx e => m3 x hx (e.trans m2)⟩
    have me : (toN (ser N W k), PyData.tuple (dI (memF (gk N W) k m))) ∈ tT N W k := List.mem_map.mpr ⟨m, mm, by rw [(key_iff hN hW).mpr m2]⟩
    obtain ⟨n, hn⟩ := List.mem_iff_getElem?.mp me
    have g := getT_at (tT_nd hN hW k) hn
    have ml : (memF (gk N W) k m).length ≤ k := by
      have := List.length_filter_le (fun j => decide (gk N W j = gk N W m)) (List.range k)
      rw [List.length_range] at this
      exact this
    refine ⟨.tuple (dI (memF (gk N W) k m ++ [k])), ?_, ?_⟩
    · rw [g]
      show (if (dI (memF (gk N W) k m)).length + (dI [k]).length ≤ 100000 then some (PyData.tuple (dI (memF (gk N W) k m) ++ dI [k])) else none) = _
      rw [if_pos (by rw [dI_len, dI_len, List.length_singleton]; omega), dI_app]
    · unfold putT
      rw [if_pos (List.any_eq_true.mpr ⟨_, me, decide_eq_true rfl⟩)]
      unfold tT
      rw [firsts_succ, if_pos ⟨j, h1, h2⟩, List.map_map]
      refine List.map_congr_left fun i hi => ?_
      show (if toN (ser N W i) = toN (ser N W k) then (toN (ser N W i), PyData.tuple (dI (memF (gk N W) k m ++ [k]))) else (toN (ser N W i), PyData.tuple (dI (memF (gk N W) k i)))) = _
      rw [memF_succ]
      by_cases e : gk N W i = gk N W k
      · rw [if_pos ((key_iff hN hW).mpr e), if_pos e.symm]
        have : memF (gk N W) k m = memF (gk N W) k i := by
          unfold memF
          rw [m2, e]
        rw [this]
      · rw [if_neg (fun z => e ((key_iff hN hW).mp z)), if_neg (fun z => e z.symm)]
  · have no : ∀ p ∈ tT N W k, ¬ p.1 = toN (ser N W k) := fun p hp z => by
      obtain ⟨i, hi, rfl⟩ := List.mem_map.mp hp
      exact q ⟨i, (mem_firsts.mp hi).1, (key_iff hN hW).mp z⟩
    have g : getT (tT N W k) (toN (ser N W k)) = none := by
      unfold getT
      rw [List.find?_eq_none.mpr fun p hp => by rw [decide_eq_true_iff]; exact no p hp]
      rfl
    refine ⟨.tuple (dI [k]), by rw [g]; rfl, ?_⟩
    unfold putT
    rw [if_neg (fun z => by
      obtain ⟨p, hp, e⟩ := List.any_eq_true.mp z
      exact no p hp (of_decide_eq_true e))]
    unfold tT
    rw [firsts_succ, if_neg q, List.map_append]
    congr 1
    · refine List.map_congr_left fun i hi => ?_
      rw [memF_succ, if_neg (fun z => q ⟨i, (mem_firsts.mp hi).1, z.symm⟩)]
    · have e0 : memF (gk N W) (k + 1) k = [k] := by
        rw [memF_succ, if_pos rfl]
        have : memF (gk N W) k k = [] := List.eq_nil_iff_forall_not_mem.mpr fun j hj => q ⟨j, (mem_memF.mp hj).1, (mem_memF.mp hj).2⟩
        rw [this]
        rfl
      rw [List.map_cons, List.map_nil, e0]
noncomputable abbrev stD (N : Net) (W : List Nat) (x3 x4 x5 : Option Da) : Sto := [some (.list (tblD N)), some (.tuple (dI W)), none, x3, x4, x5, none]
def due_c : Md Bool := (mB (mOp gEq (mCall gLen (mCons (mVar 3) mNil)) (mRet (.int 1))))
def due_1 : Md Da := (mOfL (mLc (mBind (mVar 1) fun d => mOpt (asS d)) (fName 6) (mB (mOp gIn (mVar 6) (mVar 4))) (mVar 6) [6]))
theorem in_list (o : Nat) (l : List Nat) : gIn (.int o) (.list (dI l)) = some (.bool (decide (o ∈ l))) := by
  unfold gIn gInB
  simp only [items]
  rw [if_pos ⟨rfl, all_flatI l⟩, inF_dI]
  rfl
theorem due_loop {N : Net} (hN : Ok N) {W : List Nat} (hW : Sub N.length W) : ∀ (Bs : List (List Nat)) (k m : Nat) (x3 x4 x5 : Option Da), (∀ B ∈ Bs, Sub N.length B) → Bs.filter (fun B => decide (B.length = 1)) = (List.range' k m).map (fun i => [i]) → k + m = N.length →
    ∃ y3 y4 y5, mTupL 5 (fTup 2 (fCons (fName 3) (fCons (fName 4) fNil))) due_c due_1 (mTup mNil) (mVar 3) gAdd (Bs.map (pairD N)) (tT N W k) (stD N W x3 x4 x5) = some (tT N W N.length, stD N W y3 y4 y5)
  | [], k, m, x3, x4, x5, _, hf, hk => by
    have : m = 0 := by
      cases m with
      | zero => rfl
      | succ m => cases hf
    subst this
    rw [← hk]
    exact ⟨x3, x4, x5, rfl⟩
  | B :: Bs, k, m, x3, x4, x5, hs, hf, hk => by
    have h8 := hN.hi
    have sB := hs B List.mem_cons_self
    have bl := sB.len
    have ln : gLen [.tuple (dI B)] = some (.int (B.length : Int)) := by
      show some (PyData.int ((dI B).length : Int)) = _
      rw [dI_len]
    let S1 : Sto := stD N W (some (.tuple (dI B))) (some (.list (dI (hit N B)))) x5
    have f1 : fTup 2 (fCons (fName 3) (fCons (fName 4) fNil)) (pairD N B) (stD N W x3 x4 x5) = some S1 := rfl
    rw [List.map_cons]
    unfold mTupL
    rw [f1]
    by_cases q : B.length = 1
    · have g1 : gEq (.int (B.length : Int)) (.int 1) = some (.bool true) := by rw [q]; rfl
      have c1 : due_c S1 = some (true, S1) := by
        simp only [S1]
        unfold due_c
        simp only [mSeq, mIte, mDo, mB, mOp, mOp1, mBind, mRet, mOpt, withL, Mir.ownL, mVar, mSet, mSetI, mRt, isB, gC, gI, gAdd, Mir.gMul, ix3_0, ix3_1, ix3_2, ixN_0, ixN_1, ixN_2, List.getElem?_cons_zero, List.getElem?_cons_succ, List.set_cons_zero, List.set_cons_succ, List.length_cons, List.length_nil, List.map_cons, List.map_nil, List.cons_append, List.nil_append, Nat.zero_add, Nat.reduceAdd, Nat.reduceSub, List.replicate, if_true, if_false, reduceIte, Bool.false_eq_true, gMod, gDiv, mNx, mCall, mCons, mNil, ln, g1]
      rw [List.filter_cons, if_pos (decide_eq_true q)] at hf
      cases m with
      | zero => cases hf
      | succ m =>
        rw [List.range'_succ, List.map_cons] at hf
        injection hf with e1 e2
        subst e1
        have hk1 : k < N.length := by omega
        obtain ⟨v, ev, ep⟩ := tT_put hN hW hk1
        have lc : mLc (mBind (mVar 1) fun d => mOpt (asS d)) (fName 6) (mB (mOp gIn (mVar 6) (mVar 4))) (mVar 6) [6] S1 = some (dI (ser N W k), S1) := by
          have out : ((dI W).filter (onI fun x => decide (x ∈ hit N [k]))).map (fun d => d) = dI (ser N W k) := filter_dI (fun x => decide (x ∈ hit N [k])) W
          rw [← out]
          have wl := hW.len
          refine lc_pure (onI fun x => decide (x ∈ hit N [k])) (fun d => d) (ds := dI W) rfl (by simp [S1]) (by rw [dI_len]; omega) fun d hd => ⟨?_, fun _ => rfl⟩
          obtain ⟨y, hy, rfl⟩ := List.mem_map.mp hd
          have it := in_list y (hit N [k])
          rw [onI_nat]
          simp only [S1]
          simp only [mSeq, mIte, mDo, mB, mOp, mOp1, mBind, mRet, mOpt, withL, Mir.ownL, mVar, mSet, mSetI, mRt, isB, gC, gI, gAdd, Mir.gMul, ix3_0, ix3_1, ix3_2, ixN_0, ixN_1, ixN_2, List.getElem?_cons_zero, List.getElem?_cons_succ, List.set_cons_zero, List.set_cons_succ, List.length_cons, List.length_nil, List.map_cons, List.map_nil, List.cons_append, List.nil_append, Nat.zero_add, Nat.reduceAdd, Nat.reduceSub, List.replicate, if_true, if_false, reduceIte, Bool.false_eq_true, gMod, gDiv, mNx, it]
        have d1 : due_1 S1 = some (.list (dI (ser N W k)), S1) := ofL_eq lc
        have fl := firsts_len (gk N W) k
        have zt : (tT N W k).length < 100000 := by
          unfold tT
          rw [List.length_map]
          omega
        obtain ⟨y3, y4, y5, ih⟩ := due_loop hN hW Bs (k + 1) m (some (.tuple (dI [k]))) (some (.list (dI (hit N [k])))) none (fun B hB => hs B (List.mem_cons_of_mem _ hB)) e2 (by omega)
        refine ⟨y3, y4, y5, ?_⟩
        have fx : (mTup mNil) (S1.set 5 none) = some (.tuple [], stD N W (some (.tuple (dI [k]))) (some (.list (dI (hit N [k])))) none) := rfl
        have fe : (mVar 3) (stD N W (some (.tuple (dI [k]))) (some (.list (dI (hit N [k])))) none) = some (.tuple (dI [k]), stD N W (some (.tuple (dI [k]))) (some (.list (dI (hit N [k])))) none) := rfl
        simp only [c1, d1, intsQ_dI, fx, fe, ev, ep, if_pos zt]
        exact ih
    · have g1 : gEq (.int (B.length : Int)) (.int 1) = some (.bool false) := by
        show some (PyData.bool (decide ((B.length : Int) = 1))) = _
        rw [decide_eq_false (by omega)]
      have c1 : due_c S1 = some (false, S1) := by
        simp only [S1]
        unfold due_c
        simp only [mSeq, mIte, mDo, mB, mOp, mOp1, mBind, mRet, mOpt, withL, Mir.ownL, mVar, mSet, mSetI, mRt, isB, gC, gI, gAdd, Mir.gMul, ix3_0, ix3_1, ix3_2, ixN_0, ixN_1, ixN_2, List.getElem?_cons_zero, List.getElem?_cons_succ, List.set_cons_zero, List.set_cons_succ, List.length_cons, List.length_nil, List.map_cons, List.map_nil, List.cons_append, List.nil_append, Nat.zero_add, Nat.reduceAdd, Nat.reduceSub, List.replicate, if_true, if_false, reduceIte, Bool.false_eq_true, gMod, gDiv, mNx, mCall, mCons, mNil, ln, g1]
      rw [List.filter_cons, if_neg (by rw [decide_eq_false q]; exact Bool.false_ne_true)] at hf
      simp only [c1]
      exact due_loop hN hW Bs k m _ _ _ (fun B hB => hs B (List.mem_cons_of_mem _ hB)) hf hk
theorem ones_srt (n : Nat) : (srt n).filter (fun B => decide (B.length = 1)) = (List.range' 0 n).map (fun i => [i]) := by
  refine lists_one ((srt_slt n).filter _) (List.pairwise_map.mpr ?_) fun B => ?_
  · rw [← List.range_eq_range']
    exact List.pairwise_lt_range.imp fun {i j} h => slt_head h [] []
  · rw [List.mem_filter, mem_srt, decide_eq_true_iff, ← List.range_eq_range', List.mem_map]
    constructor
    · rintro ⟨h1, h2⟩
      obtain ⟨i, rfl⟩ := List.length_eq_one_iff.mp h2
      exact ⟨i, List.mem_range.mpr (h1.2 i List.mem_cons_self), rfl⟩
    · rintro ⟨i, hi, rfl⟩
      exact ⟨Sub.one (List.mem_range.mp hi), rfl⟩
theorem dle_rows (a b : List Nat) : dle (.tuple (dI a)) (.tuple (dI b)) = decide (¬ toN b < toN a) := by
  unfold dle
  rw [PySem.W.dataLe_eq]
  show (!PySem.W.dataLt (.tuple (dI b)) (.tuple (dI a))) = _
  have e : PySem.W.dataLt (.tuple (dI b)) (.tuple (dI a)) = decide (toN b < toN a) := by
    rw [← dI_toN, ← dI_toN, PySem.W.dataLt_tuple]
    exact PySem.W.dataLt_ints (toN b) (toN a)
  rw [e]
  by_cases h : toN b < toN a
  · rw [decide_eq_true h, decide_eq_false (fun z => z h)]; rfl
  · rw [decide_eq_false h, decide_eq_true h]; rfl
theorem ints_nodict : ∀ l : List Nat, PyData.hasDictAll (dI l) = false
  | [] => rfl
  | x :: l => by
    show (false || PyData.hasDictAll (dI l)) = false
    rw [ints_nodict l]
    rfl
theorem nodict_all : ∀ ds : List Da, (∀ d ∈ ds, d.hasDict = false) → PyData.hasDictAll ds = false
  | [], _ => rfl
  | d :: ds, h => by
    show (d.hasDict || PyData.hasDictAll ds) = false
    rw [h d List.mem_cons_self, nodict_all ds fun e he => h e (List.mem_cons_of_mem _ he)]
    rfl
theorem sort_grp (N : Net) (W : List Nat) : gSortD [.list (grpL N W)] = some (.list (grpL N W)) := by
  have at_ : ∀ d ∈ grpL N W, ∃ i r, d = .tuple (dI (i :: r)) := fun d hd => by
    unfold grpL at hd
    obtain ⟨i, hi, rfl⟩ := List.mem_map.mp hd
    obtain ⟨r, e⟩ := head_mem hi
    exact ⟨i, r, by rw [e]⟩
  have h1 : alikeB (grpL N W) = true := List.all_eq_true.mpr fun d hd => List.all_eq_true.mpr fun e he => by
    obtain ⟨i, r, rfl⟩ := at_ d hd
    obtain ⟨j, q, rfl⟩ := at_ e he
    rw [← dI_toN, ← dI_toN, PySem.W.alike]
    exact L2.alike_ints _ _
  have h2 : sortB (grpL N W) = true := by
    unfold sortB
    have : (grpL N W).all fullT = true := List.all_eq_true.mpr fun d hd => by
      obtain ⟨i, r, rfl⟩ := at_ d hd
      rfl
    rw [this]
    rfl
  have h3 : (grpL N W).all (fun d => decide (d.depth ≤ 40)) = true := List.all_eq_true.mpr fun d hd => by
    obtain ⟨i, r, rfl⟩ := at_ d hd
    have := L2.depth_ints (toN (i :: r))
    rw [dI_toN] at this
    exact decide_eq_true (by omega)
  have h4 : PyData.hasDictAll (grpL N W) = false := nodict_all _ fun d hd => by
    obtain ⟨i, r, rfl⟩ := at_ d hd
    exact ints_nodict _
  show (if alikeB (grpL N W) = true ∧ sortB (grpL N W) = true ∧ (grpL N W).all (fun d => decide (d.depth ≤ 40)) = true ∧ PyData.hasDictAll (grpL N W) = false then some (PyData.list ((grpL N W).mergeSort dle)) else none) = _
  rw [if_pos ⟨h1, h2, h3, h4⟩]
  have so : (grpL N W).Pairwise fun a b => dle a b = true := by
    unfold grpL
    refine List.pairwise_map.mpr (List.Pairwise.imp_of_mem (fun {i j} hi hj lt => ?_) (show (firstsF (gk N W) N.length).Pairwise (· < ·) from List.pairwise_lt_range.filter _))
    obtain ⟨r, e1⟩ := head_mem hi
    obtain ⟨q, e2⟩ := head_mem hj
    rw [dle_rows, e1, e2, decide_eq_true_iff]
    show ¬ (j : Int) :: toN q < (i : Int) :: toN r
    intro z
    rcases List.cons_lt_cons_iff.mp z with z | ⟨z, _⟩ <;> omega
  rw [List.mergeSort_of_pairwise so]
theorem Ldue_spec {N : Net} (hN : Ok N) {W : List Nat} (hW : Sub N.length W) : m_Ldue [.list (tblD N), .tuple (dI W)] = some (grpD N W) := by
  have h8 := hN.hi
  obtain ⟨y3, y4, y5, e⟩ := due_loop hN hW (srt N.length) 0 N.length none none none (fun B hB => mem_srt.mp hB) (ones_srt N.length) (by omega)
  have fl := firsts_len (gk N W) N.length
  have zt : (tT N W N.length).length < 100000 := by
    unfold tT
    rw [List.length_map]
    omega
  have es : (tT N W N.length).map (·.2) = grpL N W := by
    unfold tT grpL
    rw [List.map_map]
    rfl
  have sg := sort_grp N W
  have fi : (mBind (mVar 0) fun d => mOpt (asS d)) (stD N W none none none) = some ((srt N.length).map (pairD N), stD N W none none none) := rfl
  have t0 : tT N W 0 = [] := rfl
  rw [t0] at e
  unfold m_Ldue b_Ldue
  refine run_rt (ρ := stD N W y3 y4 y5) ?_
  show mCollT 2 5 5 (mBind (mVar 0) fun d => mOpt (asS d)) (fTup 2 (fCons (fName 3) (fCons (fName 4) fNil))) due_c due_1 (mTup mNil) (mVar 3) gAdd gSortD (stD N W none none none) = _
  unfold mCollT
  rw [if_pos (show 2 < (stD N W none none none).length ∧ 5 < (stD N W none none none).length ∧ 5 < (stD N W none none none).length from (by decide : 2 < 7 ∧ 5 < 7 ∧ 5 < 7))]
  have s0 : (stD N W none none none).set 2 none = stD N W none none none := rfl
  rw [s0]
  simp only [fi, e, if_pos zt, es, sg]
  rfl
end MirT

set_option Elab.async false
set_option linter.all false
set_option maxRecDepth 100000
namespace MirT
open PySem L2 Mir Nt
/-! ### the law's loops over cells and laps -/
def Lap (m : Nat) (body : Sm) : Prop := ∀ (sc a : Da) (j : Nat) (l : List Da) (c : Nat) (rest : Sto), Pen c l → c + 5000 < 1000000 → rest.length = m →
  ∃ l' rest', body (some sc :: some a :: some (.list l) :: some (.int (j : Int)) :: rest) = some (.nx (some sc :: some a :: some (.list l') :: some (.int (j : Int)) :: rest')) ∧ Pen (c + 1000) l' ∧ rest'.length = m
theorem laps_gen {m laps : Nat} (hl : laps ≤ 100) {body : Sm} (st : Lap m body) {sc a : Da} {l : List Da} (p : Pen 0 l) (x3 : Option Da) (rest : Sto) (hr : rest.length = m) :
    ∃ l' y3 rest', mFor (mBind (mCons (mRet (.int (laps : Int))) mNil) fun ds => mOpt (rng1 ds)) (fName 3) body (some sc :: some a :: some (.list l) :: x3 :: rest) = some (.nx (some sc :: some a :: some (.list l') :: y3 :: rest')) ∧ rest'.length = m := by
  obtain ⟨ρ', e, l', y3, rest', rfl, _, hr'⟩ := for_inv (ft := fName 3) (b := body) (fun i ρ => ∃ (l' : List Da) (y3 : Option Da) (rest' : Sto), ρ = some sc :: some a :: some (.list l') :: y3 :: rest' ∧ Pen (1000 * i) l' ∧ rest'.length = m) (dI (List.range laps)) (fun i d ρ hd ⟨l', y3, rest', hρ, p', hr'⟩ => by
    obtain ⟨hi, rfl⟩ := rng_at hd
    subst hρ
    obtain ⟨l2, r2, e, p2, h2⟩ := st sc a i l' (1000 * i) rest' p' (by omega) hr'
    exact ⟨some sc :: some a :: some (.list l') :: some (.int (i : Int)) :: rest', _, rfl, .inl e, l2, _, r2, rfl, by rw [Nat.mul_succ]; exact p2, h2⟩) _ 0 (some sc :: some a :: some (.list l) :: x3 :: rest) rfl (Nat.zero_le _) ⟨l, x3, rest, rfl, p, hr⟩
  have rg := rng_dI laps (by omega)
  exact ⟨l', y3, rest', for_eq (bindo_eq (cons_eq rfl nil_eq) rg) e, hr'⟩
theorem law_shell {m laps : Nat} (hl : laps ≤ 100) {body : Sm} (st : Lap m body) (ns : List Int) :
    runP (m + 4) (mSeq (mFor (mBind (mCons (mCall gMax2 (mCons (mRet (.int 1)) (mCons (mCall gMin2 (mCons (mCall gLen (mCons (mVar 0) mNil)) (mCons (mRet (.int 3)) mNil))) mNil))) mNil) fun ds => mOpt (rng1 ds)) (fName 1) (mSeq (mSetO 2 (mFnL 1 m_Lsource (mCons (mFn 2 m_Lcell (mCons (mVar 0) (mCons (mVar 1) mNil))) mNil)))
    (mFor (mBind (mCons (mRet (.int (laps : Int))) mNil) fun ds => mOpt (rng1 ds)) (fName 3) body))) (mRt (mRet (.bool true)))) [.list (ns.map .int)] = some (.bool true) := by
  have L : ∃ n : Int, (if (if (3 : Int) < (ns.length : Int) then 3 else (ns.length : Int)) > 1 then (if (3 : Int) < (ns.length : Int) then 3 else (ns.length : Int)) else 1) = n ∧ 1 ≤ n ∧ n ≤ 3 := ⟨_, rfl, by split <;> split <;> omega, by split <;> split <;> omega⟩
  obtain ⟨n, hn, n1, n3⟩ := L
  have z1 : rng1 [.int n] = some (rngD 0 n) := by
    show (if -100000 ≤ n ∧ n ≤ 100000 then some (rngD 0 n) else none) = _
    exact if_pos ⟨by omega, by omega⟩
  obtain ⟨ρ', e, x1, x2, x3, rest, hx, hr⟩ := for_all (fun ρ => ∃ x1 x2 x3, ∃ rest : Sto, ρ = some (.list (ns.map .int)) :: x1 :: x2 :: x3 :: rest ∧ rest.length = m) (ft := fName 1) (b := (mSeq (mSetO 2 (mFnL 1 m_Lsource (mCons (mFn 2 m_Lcell (mCons (mVar 0) (mCons (mVar 1) mNil))) mNil)))
    (mFor (mBind (mCons (mRet (.int (laps : Int))) mNil) fun ds => mOpt (rng1 ds)) (fName 3) body))) (rngD 0 n) (fun d hd ρ ⟨x1, x2, x3, rest, hx, hr⟩ => by
    subst hx
    obtain ⟨k, rfl, k0⟩ := rngD_mem hd
    obtain ⟨v, ev⟩ := cell_spec ns k k0
    obtain ⟨l, el, p⟩ := source_spec v
    obtain ⟨l', y3, rest', e, hr'⟩ := laps_gen hl st (sc := .list (ns.map .int)) (a := .int k) p x3 rest hr
    refine ⟨some (.list (ns.map .int)) :: some (.int k) :: x2 :: x3 :: rest, _, rfl, seq_nx (ρ1 := some (.list (ns.map .int)) :: some (.int k) :: some (.list l) :: x3 :: rest) ?_ e, ⟨_, _, _, _, rfl, hr'⟩⟩
    simp only [mSeq, mIte, mDo, mB, mOp, mOp1, mBind, mRet, mOpt, withL, Mir.ownL, mVar, mSet, mSetI, mRt, isB, gC, gI, gAdd, Mir.gMul, ix3_0, ix3_1, ix3_2, ixN_0, ixN_1, ixN_2, List.getElem?_cons_zero, List.getElem?_cons_succ, List.set_cons_zero, List.set_cons_succ, List.length_cons, List.length_nil, List.map_cons, List.map_nil, List.cons_append, List.nil_append, Nat.zero_add, Nat.reduceAdd, Nat.reduceSub, List.replicate, if_true, if_false, reduceIte, Bool.false_eq_true, gMod, gDiv, mNx, mSetO, mFnL, mFn, mCons, mNil, ev, el]) (some (.list (ns.map .int)) :: none :: none :: none :: List.replicate m none) ⟨none, none, none, _, rfl, List.length_replicate⟩
  subst hx
  refine run_rt (seq_nx (for_eq (ds := rngD 0 n) (ρ1 := some (.list (ns.map .int)) :: none :: none :: none :: List.replicate m none) ?_ e) (o := .rt (.bool true) (some (.list (ns.map .int)) :: x1 :: x2 :: x3 :: rest)) ?_)
  · have e0 : ([PyData.list (ns.map .int)].map some ++ List.replicate (m + 4 - [PyData.list (ns.map .int)].length) none : Sto) = some (.list (ns.map .int)) :: none :: none :: none :: List.replicate m none := by
      show some (PyData.list (ns.map .int)) :: List.replicate (m + 4 - 1) none = _
      rw [show m + 4 - 1 = m + 1 + 1 + 1 from by omega]
      rfl
    rw [e0]
    simp only [mSeq, mIte, mDo, mB, mOp, mOp1, mBind, mRet, mOpt, withL, Mir.ownL, mVar, mSet, mSetI, mRt, isB, gC, gI, gAdd, Mir.gMul, ix3_0, ix3_1, ix3_2, ixN_0, ixN_1, ixN_2, List.getElem?_cons_zero, List.getElem?_cons_succ, List.set_cons_zero, List.set_cons_succ, List.length_cons, List.length_nil, List.map_cons, List.map_nil, List.cons_append, List.nil_append, Nat.zero_add, Nat.reduceAdd, Nat.reduceSub, List.replicate, if_true, if_false, reduceIte, Bool.false_eq_true, gMod, gDiv, mNx, mCall, mCons, mNil, gLen, gMin2, gMax2, items, Option.map_some, List.length_map, hn, z1]
  · rfl
end MirT

set_option Elab.async false
set_option linter.all false
set_option maxRecDepth 100000
namespace MirT
open PySem L2 Mir Nt
/-! ### the law -/
noncomputable abbrev stX (N : Net) (sc a b : Da) (l : List Da) (x6 x7 x8 x9 x10 x11 : Option Da) : Sto := [some sc, some a, some (.list l), some b, some (dN N), some (.list (tblD N)), x6, x7, x8, x9, x10, x11]
noncomputable def oneBody : Sm := (mSeq (mPar 8 9 (mCons (mCall gRepr (mCons (mTup (mCons (mVar 4) (mCons (mVar 7) mNil))) mNil)) (mCons (mFn 2 m_Ldue (mCons (mVar 5) (mCons (mVar 7) mNil))) mNil)))
    (mSeq (mSet 10 (mOfL (mSz (mCons (mFn 2 m_groups (mCons (mVar 4) (mCons (mVar 7) mNil))) (mCons (mFn 2 m_groups (mCons (mVar 4) (mCons (mVar 7) mNil))) mNil)))))
    (mIte (mOr (mNot (mTru (mFn 2 m_Lis_equal (mCons (mVar 10) (mCons (mOfL (mSz (mCons (mVar 9) (mCons (mVar 9) mNil)))) mNil))))) (mB (mOp gNe (mCall gRepr (mCons (mTup (mCons (mVar 4) (mCons (mVar 7) mNil))) mNil)) (mVar 8)))) (mRt (mRet (.bool false))) mNx)))
theorem one_spec {N : Net} (hN : Ok N) {W : List Nat} (hW : Sub N.length W) {sc a b : Da} {l : List Da} (x6 x8 x9 x10 x11 : Option Da) :
    ∃ y8 y9 y10, oneBody (stX N sc a b l x6 (some (.tuple (dI W))) x8 x9 x10 x11) = some (.nx (stX N sc a b l x6 (some (.tuple (dI W))) y8 y9 y10 x11)) := by
  have h8 := hN.hi
  let D : Da := .tuple [dN N, .tuple (dI W)]
  let E : Da := grpD N W
  have e1 := Ldue_spec hN hW
  have e2 := groups_spec hN hW
  have rp : gRepr [D] = some (.str D.shown) := repr_some (shw_tup (m := 2) (w := 800) (k := 2) (ds := [dN N, .tuple (dI W)]) (fun d hd => by
    simp only [List.mem_cons, List.not_mem_nil, or_false] at hd
    rcases hd with rfl | rfl
    · exact shw_net hN
    · exact (hW.shw h8).mono (by decide) (by decide)) (Nat.le_refl 2)) rfl (by decide) (by decide)
  have sm : m_Lis_equal [.list [grpD N W, grpD N W], .list [grpD N W, grpD N W]] = some (.bool true) := same_t (shw_lst (m := 2) (w := 800) (k := 2) (ds := [grpD N W, grpD N W]) (fun d hd => by
    simp only [List.mem_cons, List.not_mem_nil, or_false] at hd
    rcases hd with rfl | rfl <;> exact shw_grp hN W) (Nat.le_refl 2)) rfl (by decide) (by decide)
  have ne : gNe (.str D.shown) (.str D.shown) = some (.bool false) := by
    show some (PyData.bool (!decide (D.shown = D.shown))) = _
    rw [decide_eq_true rfl]
    rfl
  have z2 : (2 : Nat) ≤ 100000 := by decide
  have rp' : gRepr [.tuple [dN N, .tuple (dI W)]] = some (.str D.shown) := rp
  refine ⟨some (.str D.shown), some (grpD N W), some (.list [grpD N W, grpD N W]), ?_⟩
  unfold oneBody
  refine seq_nx (ρ1 := stX N sc a b l x6 (some (.tuple (dI W))) (some (.str D.shown)) (some (grpD N W)) x10 x11) ?_ (seq_nx (ρ1 := stX N sc a b l x6 (some (.tuple (dI W))) (some (.str D.shown)) (some (grpD N W)) (some (.list [grpD N W, grpD N W])) x11) ?_ ?_)
  · simp only [mSeq, mIte, mDo, mB, mOp, mOp1, mBind, mRet, mOpt, withL, Mir.ownL, mVar, mSet, mSetI, mRt, isB, gC, gI, gAdd, Mir.gMul, ix3_0, ix3_1, ix3_2, ixN_0, ixN_1, ixN_2, List.getElem?_cons_zero, List.getElem?_cons_succ, List.set_cons_zero, List.set_cons_succ, List.length_cons, List.length_nil, List.map_cons, List.map_nil, List.cons_append, List.nil_append, Nat.zero_add, Nat.reduceAdd, Nat.reduceSub, List.replicate, if_true, if_false, reduceIte, Bool.false_eq_true, gMod, gDiv, mNx, mPar, mTup, sized, mFn, mCall, mCons, mNil, z2, Option.map_some, rp', e1]
  · simp only [mSeq, mIte, mDo, mB, mOp, mOp1, mBind, mRet, mOpt, withL, Mir.ownL, mVar, mSet, mSetI, mRt, isB, gC, gI, gAdd, Mir.gMul, ix3_0, ix3_1, ix3_2, ixN_0, ixN_1, ixN_2, List.getElem?_cons_zero, List.getElem?_cons_succ, List.set_cons_zero, List.set_cons_succ, List.length_cons, List.length_nil, List.map_cons, List.map_nil, List.cons_append, List.nil_append, Nat.zero_add, Nat.reduceAdd, Nat.reduceSub, List.replicate, if_true, if_false, reduceIte, Bool.false_eq_true, gMod, gDiv, mNx, mFn, mCons, mNil, mOfL, mSz, sized, z2, e2]
  · simp only [mSeq, mIte, mDo, mB, mOp, mOp1, mBind, mRet, mOpt, withL, Mir.ownL, mVar, mSet, mSetI, mRt, isB, gC, gI, gAdd, Mir.gMul, ix3_0, ix3_1, ix3_2, ixN_0, ixN_1, ixN_2, List.getElem?_cons_zero, List.getElem?_cons_succ, List.set_cons_zero, List.set_cons_succ, List.length_cons, List.length_nil, List.map_cons, List.map_nil, List.cons_append, List.nil_append, Nat.zero_add, Nat.reduceAdd, Nat.reduceSub, List.replicate, if_true, if_false, reduceIte, Bool.false_eq_true, gMod, gDiv, mNx, mOr, mTup, sized, mFn, mCall, mCons, mNil, mOfL, mSz, z2, Option.map_some, mNot, mTru, sm, gTru, Bool.not_true, rp', ne]
theorem ones_spec {N : Net} (hN : Ok N) {W0 : List Nat} (hW0 : Sub N.length W0) {sc a b : Da} {l : List Da} (x7 x8 x9 x10 x11 : Option Da) :
    ∃ y7 y8 y9 y10, mFor (mBind (mTup (mCons (mVar 6) (mCons (mTup mNil) (mCons (mBind (mCall gLen (mCons (mVar 4) mNil)) fun d => mOpt ((rgD d).map .tuple)) mNil)))) fun d => mOpt (asS d)) (fName 7) oneBody (stX N sc a b l (some (.tuple (dI W0))) x7 x8 x9 x10 x11) = some (.nx (stX N sc a b l (some (.tuple (dI W0))) y7 y8 y9 y10 x11)) := by
  have h8 := hN.hi
  have rg := rng_dI N.length (by omega)
  have rgd : rgD (.int (N.length : Int)) = some (dI (List.range N.length)) := rg
  have fi : (mBind (mTup (mCons (mVar 6) (mCons (mTup mNil) (mCons (mBind (mCall gLen (mCons (mVar 4) mNil)) fun d => mOpt ((rgD d).map .tuple)) mNil)))) fun d => mOpt (asS d)) (stX N sc a b l (some (.tuple (dI W0))) x7 x8 x9 x10 x11) = some (dS [W0, [], List.range N.length], stX N sc a b l (some (.tuple (dI W0))) x7 x8 x9 x10 x11) := by
    have z3 : (3 : Nat) ≤ 100000 := by decide
    simp only [mSeq, mIte, mDo, mB, mOp, mOp1, mBind, mRet, mOpt, withL, Mir.ownL, mVar, mSet, mSetI, mRt, isB, gC, gI, gAdd, Mir.gMul, ix3_0, ix3_1, ix3_2, ixN_0, ixN_1, ixN_2, List.getElem?_cons_zero, List.getElem?_cons_succ, List.set_cons_zero, List.set_cons_succ, List.length_cons, List.length_nil, List.map_cons, List.map_nil, List.cons_append, List.nil_append, Nat.zero_add, Nat.reduceAdd, Nat.reduceSub, List.replicate, if_true, if_false, reduceIte, Bool.false_eq_true, gMod, gDiv, mNx, mTup, sized, mCall, mCons, mNil, Nat.zero_le, z3, len_dN, rgd, Option.map_some, asS]
    rfl
  obtain ⟨ρ', e, y7, y8, y9, y10, rfl⟩ := for_all (fun ρ => ∃ y7 y8 y9 y10, ρ = stX N sc a b l (some (.tuple (dI W0))) y7 y8 y9 y10 x11) (ft := fName 7) (b := oneBody) (dS [W0, [], List.range N.length]) (fun d hd ρ ⟨y7, y8, y9, y10, hρ⟩ => by
    subst hρ
    obtain ⟨W, hm, rfl⟩ := List.mem_map.mp hd
    have hW : Sub N.length W := by
      simp only [List.mem_cons, List.not_mem_nil, or_false] at hm
      rcases hm with rfl | rfl | rfl
      · exact hW0
      · exact Sub.nil _
      · exact Sub.all _
    obtain ⟨z8, z9, z10, e⟩ := one_spec hN hW (sc := sc) (a := a) (b := b) (l := l) (some (.tuple (dI W0))) y8 y9 y10 x11
    exact ⟨stX N sc a b l (some (.tuple (dI W0))) (some (.tuple (dI W))) y8 y9 y10 x11, _, rfl, e, _, _, _, _, rfl⟩) (stX N sc a b l (some (.tuple (dI W0))) x7 x8 x9 x10 x11) ⟨_, _, _, _, rfl⟩
  exact ⟨y7, y8, y9, y10, for_eq fi e⟩
abbrev lcDraw : Md (List Da) := (mLc (mBind (mCons (mCall gLen (mCons (mVar 4) mNil)) mNil) fun ds => mOpt (rng1 ds)) (fName 11) (mB (mOp gEq (mFnI 2 2 m_Ldraw (mCons (mRet (.int 2)) mNil)) (mRet (.int 0)))) (mVar 11) [11])
theorem draws_spec {N : Net} (hN : Ok N) {sc a b : Da} {l : List Da} {c : Nat} (p : Pen c l) (hc : c + 20 < 1000000) (x6 x7 x8 x9 x10 x11 : Option Da) :
    ∃ (l2 : List Da) (W : List Nat), lcDraw (stX N sc a b l x6 x7 x8 x9 x10 x11) = some (dI W, stX N sc a b l2 x6 x7 x8 x9 x10 x11) ∧ Pen (c + 8) l2 ∧ Sub N.length W := by
  have h8 := hN.hi
  obtain ⟨out, ρ', e2, l2, r, rfl, rfl, p2, sb⟩ := lc_inv (fi := (mBind (mCons (mCall gLen (mCons (mVar 4) mNil)) mNil) fun ds => mOpt (rng1 ds))) (v := 11) (tt := (mB (mOp gEq (mFnI 2 2 m_Ldraw (mCons (mRet (.int 2)) mNil)) (mRet (.int 0))))) (te := mVar 11) (ρ := stX N sc a b l x6 x7 x8 x9 x10 x11) (ρ1 := stX N sc a b l x6 x7 x8 x9 x10 x11) (ds := dI (List.range N.length)) (fun k acc ρ => ∃ l2 r, ρ = stX N sc a b l2 x6 x7 x8 x9 x10 none ∧ acc = dI r ∧ Pen (c + k) l2 ∧ r.Sublist ((List.range N.length).take k)) (rngL hN rfl) ⟨l, [], rfl, rfl, p, by simp⟩ (fun k d acc ρ hd ⟨l2, r, hρ, ha, p2, sb⟩ => by
    subst hρ ha
    obtain ⟨hk, rfl⟩ := rng_at hd
    obtain ⟨v, l3, e3, _, _, p3⟩ := draw_spec p2 (by omega) (m := 2) (by omega) (by omega)
    have tk : (List.range N.length).take (k + 1) = (List.range N.length).take k ++ [k] := by rw [List.take_add_one, List.getElem?_range hk]; rfl
    have e0 : gEq (.int v) (.int 0) = some (.bool (decide (v = 0))) := rfl
    refine ⟨decide (v = 0), [some sc, some a, some (.list l3), some b, some (dN N), some (.list (tblD N)), x6, x7, x8, x9, x10, some (.int (k : Int))], ?_, fun _ => ⟨l3, r, rfl, rfl, p3, ?_⟩, fun _ => ⟨.int (k : Int), _, rfl, ?_, l3, r ++ [k], rfl, ?_, p3, ?_⟩⟩
    · simp only [mSeq, mIte, mDo, mB, mOp, mOp1, mBind, mRet, mOpt, withL, Mir.ownL, mVar, mSet, mSetI, mRt, isB, gC, gI, gAdd, Mir.gMul, ix3_0, ix3_1, ix3_2, ixN_0, ixN_1, ixN_2, List.getElem?_cons_zero, List.getElem?_cons_succ, List.set_cons_zero, List.set_cons_succ, List.length_cons, List.length_nil, List.map_cons, List.map_nil, List.cons_append, List.nil_append, Nat.zero_add, Nat.reduceAdd, Nat.reduceSub, List.replicate, if_true, if_false, reduceIte, Bool.false_eq_true, gMod, gDiv, mNx, mFnI, mCons, mNil, e3, e0]
    · rw [tk]
      exact sb.trans (List.sublist_append_left _ _)
    · have := sb.length_le
      rw [List.length_take] at this
      rw [dI_len]
      omega
    · rw [show [PyData.int (k : Int)] = dI [k] from rfl, dI_app]
    · rw [tk]
      exact sb.append (List.Sublist.refl _))
  rw [dI_len, List.length_range] at p2 sb
  have sub : r.Sublist (List.range N.length) := sb.trans (List.take_sublist _ _)
  exact ⟨l2, r, e2, p2.mono (by omega), Sub.of sub⟩
noncomputable def lapBody : Sm := (mSeq (mSet 4 (mFnI 2 2 m_Lnet_of (mCons (mOp gAdd (mRet (.int 1)) (mFnI 2 2 m_Ldraw (mCons (mRet (.int 8)) mNil))) mNil)))
    (mSeq (mSet 5 (mFn 1 m_Ltable (mCons (mVar 4) mNil)))
    (mSeq (mSet 6 (mCall gTupleOf (mCons (mOfL lcDraw) mNil)))
    (mFor (mBind (mTup (mCons (mVar 6) (mCons (mTup mNil) (mCons (mBind (mCall gLen (mCons (mVar 4) mNil)) fun d => mOpt ((rgD d).map .tuple)) mNil)))) fun d => mOpt (asS d)) (fName 7) oneBody))))
theorem lap_spec : Lap 8 lapBody := fun sc a j l c rest p hc hr => by
  obtain ⟨x4, x5, x6, x7, x8, x9, x10, x11, rfl⟩ : ∃ x4 x5 x6 x7 x8 x9 x10 x11, rest = [x4, x5, x6, x7, x8, x9, x10, x11] := by
    match rest, hr with
    | [x4, x5, x6, x7, x8, x9, x10, x11], _ => exact ⟨x4, x5, x6, x7, x8, x9, x10, x11, rfl⟩
  obtain ⟨r, l1, e, r0, r1, p1⟩ := draw_spec p (by omega) (m := 8) (by omega) (by omega)
  obtain ⟨n, rfl⟩ := Int.eq_ofNat_of_zero_le r0
  have c1 : (1 : Int) + ((n : Nat) : Int) = ((n + 1 : Nat) : Int) := by omega
  have e' : m_Ldraw l [.int 8] = some (.int (n : Int), l1) := e
  have e1 : (mOp gAdd (mRet (.int 1)) (mFnI 2 2 m_Ldraw (mCons (mRet (.int 8)) mNil))) [some sc, some a, some (.list l), some (.int (j : Int)), x4, x5, x6, x7, x8, x9, x10, x11] = some (.int ((n + 1 : Nat) : Int), [some sc, some a, some (.list l1), some (.int (j : Int)), x4, x5, x6, x7, x8, x9, x10, x11]) := by
    simp only [mSeq, mIte, mDo, mB, mOp, mOp1, mBind, mRet, mOpt, withL, Mir.ownL, mVar, mSet, mSetI, mRt, isB, gC, gI, gAdd, Mir.gMul, ix3_0, ix3_1, ix3_2, ixN_0, ixN_1, ixN_2, List.getElem?_cons_zero, List.getElem?_cons_succ, List.set_cons_zero, List.set_cons_succ, List.length_cons, List.length_nil, List.map_cons, List.map_nil, List.cons_append, List.nil_append, Nat.zero_add, Nat.reduceAdd, Nat.reduceSub, List.replicate, if_true, if_false, reduceIte, Bool.false_eq_true, gMod, gDiv, mNx, mFnI, mCons, mNil, e', c1]
  obtain ⟨N, l2, e2, hN, hs, p2⟩ := Lnet_spec p1 (by omega) (show 0 < n + 1 by omega) (by omega)
  have e3 := Ltable_spec hN
  obtain ⟨l3, W, e4, p3, hW⟩ := draws_spec hN p2 (by omega) (sc := sc) (a := a) (b := .int (j : Int)) x6 x7 x8 x9 x10 x11
  obtain ⟨y7, y8, y9, y10, e5⟩ := ones_spec hN hW (sc := sc) (a := a) (b := .int (j : Int)) (l := l3) x7 x8 x9 x10 x11
  refine ⟨l3, [some (dN N), some (.list (tblD N)), some (.tuple (dI W)), y7, y8, y9, y10, x11], ?_, p3.mono (by omega), rfl⟩
  unfold lapBody
  refine seq_nx (ρ1 := [some sc, some a, some (.list l2), some (.int (j : Int)), some (dN N), x5, x6, x7, x8, x9, x10, x11]) (set_eq (fnI_eq rfl (cons_eq e1 nil_eq) rfl rfl e2)) (seq_nx (ρ1 := stX N sc a (.int (j : Int)) l2 x6 x7 x8 x9 x10 x11) ?_ (seq_nx (ρ1 := stX N sc a (.int (j : Int)) l3 (some (.tuple (dI W))) x7 x8 x9 x10 x11) (set_eq (call_eq (cons_eq (ofL_eq e4) nil_eq) rfl)) e5))
  simp only [mSeq, mIte, mDo, mB, mOp, mOp1, mBind, mRet, mOpt, withL, Mir.ownL, mVar, mSet, mSetI, mRt, isB, gC, gI, gAdd, Mir.gMul, ix3_0, ix3_1, ix3_2, ixN_0, ixN_1, ixN_2, List.getElem?_cons_zero, List.getElem?_cons_succ, List.set_cons_zero, List.set_cons_succ, List.length_cons, List.length_nil, List.map_cons, List.map_nil, List.cons_append, List.nil_append, Nat.zero_add, Nat.reduceAdd, Nat.reduceSub, List.replicate, if_true, if_false, reduceIte, Bool.false_eq_true, gMod, gDiv, mNx, mFn, mCons, mNil, e3]
theorem law_true (ns : List Int) (h : ns.length ≤ 63) : m_law [.list (ns.map .int)] = some (.bool true) := law_shell (m := 8) (laps := 5) (by decide) lap_spec ns
end MirT

open PySem PySem.W PyProof.Rows
set_option maxHeartbeats 0 in
theorem PySem.Challenge.cw_rootalarms_k39_groups_told_holds : PySem.Challenge.rw_rootalarms_k39_groups_told.Holds := by
  w_on; o_law
  refine HdB.holds_top (r := OpenLaw.row PySem.Challenge.rw_rootalarms_k39_groups_told) (q := HeadT.qv) (loose := HeadT.names) (YP := HeadT.hk.says) (d := HandSHeadRun.topDef (OpenLaw.row PySem.Challenge.rw_rootalarms_k39_groups_told).prog 25) (kwd := []) rfl rfl HeadT.opn HeadT.fen HeadT.top HeadT.hk.keeps
    (by kernel_rfl) (by kernel_rfl) (by kernel_rfl) (by first | assumption | decide +kernel) (by decide +kernel) ⟨rfl, rfl, rfl, rfl, rfl, by decide +kernel⟩ ?hw ?hc
  case hw => w_witness2
  case hc =>
    refine Mir.walkB (l := PySem.Challenge.rw_rootalarms_k39_groups_told) (n := 63) (k := 4) (x := "_law_script") (mf := MirT.m_law) rfl (by decide) (by kernel_rfl) ⟨rfl, by decide, by decide⟩ ?F (fun ns hns => MirT.law_true ns hns)
    intro w mg fa h Y G hmg0
    obtain ⟨K, KX, c⟩ := Y
    have hmg : mg ("law" : PySem.Str) = some (.ref fa) := by
      have e : (HandSHeadRun.topDef (OpenLaw.row PySem.Challenge.rw_rootalarms_k39_groups_told).prog 25).name = ("law" : PySem.Str) := by kernel_rfl
      rw [← e]
      exact hmg0
    obtain ⟨fd, hb, hF⟩ := MirT.facts (l := PySem.Challenge.rw_rootalarms_k39_groups_told) (w := w) KX G hmg c
    exact ⟨K, fd, KX, hb, hF⟩

