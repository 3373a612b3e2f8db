import PyProof.Rows.All
import Wide.All
import OpenK.AllK
import Wide.FinOn
import HandS.ForMost
import HandS.Wide
import HandS.TupAny
import HandS.Evl
import HandS.IsInst
import HandS.TupMul
import HandS.Steps
import HandS.Deep
import HandS.Style
import HandS.SortInts
import PyProof.ReprLen
import PyProof.ReprRoads
import KE.GoesMore
import HandS.Iter
import HandS.Zip
import HandS.Ends
import PySem.Challenge.RW_rootalarms_k30_certain_by_hand
set_option Elab.async false
set_option linter.all false
set_option maxRecDepth 100000
set_option maxHeartbeats 2000000
namespace Mir
open PySem L2

abbrev Da := PyData
/-- the store of a def: what each slot holds -/
abbrev Sto := List (Option Da)
abbrev Frz := Addr → Prop

def H00 : Hp := fun _ => none
def RL (K : PySem.W.Frag) (H : Hp) (F : Frz) (a : Addr) (vs : List V) : Prop := (F a ∧ Rd H a (.lst vs)) ∨ SqL K H00 a vs
def RT (K : PySem.W.Frag) (H : Hp) (F : Frz) (a : Addr) (vs : List V) : Prop := (F a ∧ Rd H a (.tup vs)) ∨ SqT K H00 a vs

mutual
inductive Rp (K : PySem.W.Frag) (H : Hp) (F : Frz) : V → Da → Prop
  | non : Rp K H F .non .none
  | bl (b : Bool) : Rp K H F (.bl b) (.bool b)
  | int (i : Int) : Rp K H F (.int i) (.int i)
  | str (x : Str) : Rp K H F (.str x) (.str x)
  | lst {a : Addr} {vs : List V} {ds : List Da} : RL K H F a vs → RpA K H F vs ds → Rp K H F (.ref a) (.list ds)
  | tup {a : Addr} {vs : List V} {ds : List Da} : RT K H F a vs → RpA K H F vs ds → Rp K H F (.ref a) (.tuple ds)
inductive RpA (K : PySem.W.Frag) (H : Hp) (F : Frz) : List V → List Da → Prop
  | nil : RpA K H F [] []
  | cons {v : V} {vs : List V} {d : Da} {ds : List Da} : Rp K H F v d → RpA K H F vs ds → RpA K H F (v :: vs) (d :: ds)
end

theorem sq00 {K : PySem.W.Frag} {a : Addr} {vs : List V} (h : SqL K H00 a vs) (H : Hp) : SqL K H a vs := by
  rcases h with (h | ⟨o, h⟩) | h
  · cases h
  · cases h
  · exact .inr h
theorem st00 {K : PySem.W.Frag} {a : Addr} {vs : List V} (h : SqT K H00 a vs) (H : Hp) : SqT K H a vs := by
  rcases h with (h | ⟨o, h⟩) | h
  · cases h
  · cases h
  · exact .inr h
theorem RL.sq {K : PySem.W.Frag} {H : Hp} {F : Frz} {a : Addr} {vs : List V} (h : RL K H F a vs) : SqL K H a vs := by
  rcases h with ⟨_, h⟩ | h
  · exact .inl h
  · exact sq00 h H
theorem RT.sq {K : PySem.W.Frag} {H : Hp} {F : Frz} {a : Addr} {vs : List V} (h : RT K H F a vs) : SqT K H a vs := by
  rcases h with ⟨_, h⟩ | h
  · exact .inl h
  · exact st00 h H

/-- frozen things stay -/
def Stay (F : Frz) (H : Hp) (F' : Frz) (H' : Hp) : Prop := ∀ a, F a → F' a ∧ H' a = H a
theorem rd_stay {H H' : Hp} {a : Addr} {u : HO} (e : H' a = H a) (h : Rd H a u) : Rd H' a u := by
  rcases h with h | ⟨o, h⟩
  · exact .inl (e.trans h)
  · exact .inr ⟨o, e.trans h⟩
theorem RL.stay {K : PySem.W.Frag} {H H' : Hp} {F F' : Frz} {a : Addr} {vs : List V} (s : Stay F H F' H') (h : RL K H F a vs) : RL K H' F' a vs := by
  rcases h with ⟨f, h⟩ | h
  · exact .inl ⟨(s a f).1, rd_stay (s a f).2 h⟩
  · exact .inr h
theorem RT.stay {K : PySem.W.Frag} {H H' : Hp} {F F' : Frz} {a : Addr} {vs : List V} (s : Stay F H F' H') (h : RT K H F a vs) : RT K H' F' a vs := by
  rcases h with ⟨f, h⟩ | h
  · exact .inl ⟨(s a f).1, rd_stay (s a f).2 h⟩
  · exact .inr h
mutual
theorem Rp.stay {K : PySem.W.Frag} {H H' : Hp} {F F' : Frz} (s : Stay F H F' H') : ∀ (d : Da) (v : V), Rp K H F v d → Rp K H' F' v d
  | .none, _, h => by cases h; exact .non
  | .bool b, _, h => by cases h; exact .bl b
  | .int i, _, h => by cases h; exact .int i
  | .str x, _, h => by cases h; exact .str x
  | .list ds, _, h => by
    cases h with
    | lst a b => exact .lst (a.stay s) (RpA.stay s ds _ b)
  | .tuple ds, _, h => by
    cases h with
    | tup a b => exact .tup (a.stay s) (RpA.stay s ds _ b)
  | .dict _, _, h => by cases h
theorem RpA.stay {K : PySem.W.Frag} {H H' : Hp} {F F' : Frz} (s : Stay F H F' H') : ∀ (ds : List Da) (vs : List V), RpA K H F vs ds → RpA K H' F' vs ds
  | [], _, h => by cases h; exact .nil
  | d :: ds, _, h => by
    cases h with
    | cons a b => exact .cons (Rp.stay s d _ a) (RpA.stay s ds _ b)
end
section
variable {K : PySem.W.Frag} {H H' : Hp} {F F' : Frz} {v : V} {d : Da} {vs : List V} {ds : List Da}
theorem Rp.st (h : Rp K H F v d) (s : Stay F H F' H') : Rp K H' F' v d := Rp.stay s d v h
theorem RpA.st (h : RpA K H F vs ds) (s : Stay F H F' H') : RpA K H' F' vs ds := RpA.stay s ds vs h
theorem RpA.len : ∀ {vs : List V} {ds : List Da}, RpA K H F vs ds → vs.length = ds.length
  | _, _, .nil => rfl
  | _, _, .cons _ t => congrArg (· + 1) (RpA.len t)
theorem RpA.get : ∀ {vs : List V} {ds : List Da} {i : Nat} {d : Da}, RpA K H F vs ds → ds[i]? = some d → ∃ v, vs[i]? = some v ∧ Rp K H F v d
  | _, _, _, _, .nil, e => by simp at e
  | _, _, 0, _, .cons a _, e => by simp at e; subst e; exact ⟨_, rfl, a⟩
  | _, _, i + 1, d, .cons _ t, e => by
    obtain ⟨v, h1, h2⟩ := RpA.get (i := i) (d := d) t (by simpa using e)
    exact ⟨v, by simpa using h1, h2⟩
theorem RpA.app : ∀ {vs ws : List V} {ds es : List Da}, RpA K H F vs ds → RpA K H F ws es → RpA K H F (vs ++ ws) (ds ++ es)
  | _, _, _, _, .nil, h => h
  | _, _, _, _, .cons a t, h => .cons a (RpA.app t h)
theorem RpA.drop : ∀ {vs : List V} {ds : List Da} (n : Nat), RpA K H F vs ds → RpA K H F (vs.drop n) (ds.drop n)
  | _, _, 0, h => h
  | _, _, _ + 1, .nil => .nil
  | _, _, n + 1, .cons _ t => RpA.drop n t
theorem RpA.take : ∀ {vs : List V} {ds : List Da} (n : Nat), RpA K H F vs ds → RpA K H F (vs.take n) (ds.take n)
  | _, _, 0, _ => .nil
  | _, _, _ + 1, .nil => .nil
  | _, _, n + 1, .cons a t => .cons a (RpA.take n t)
theorem RpA.set (h1 : Rp K H F v d) : ∀ {vs : List V} {ds : List Da} {i : Nat}, RpA K H F vs ds → RpA K H F (vs.set i v) (ds.set i d)
  | _, _, _, .nil => .nil
  | _, _, 0, .cons _ t => .cons h1 t
  | _, _, i + 1, .cons a t => .cons a (RpA.set h1 t)
theorem RpA.one (h : Rp K H F v d) : RpA K H F [v] [d] := .cons h .nil
/-- plain values: what they stand for tells them -/
theorem Rp.int_inv {i : Int} (h : Rp K H F v (.int i)) : v = .int i := by cases h; rfl
theorem Rp.bool_inv {b : Bool} (h : Rp K H F v (.bool b)) : v = .bl b := by cases h; rfl
theorem Rp.str_inv {x : Str} (h : Rp K H F v (.str x)) : v = .str x := by cases h; rfl
theorem Rp.none_inv (h : Rp K H F v .none) : v = .non := by cases h; rfl
theorem Rp.list_inv (h : Rp K H F v (.list ds)) : ∃ a vs, v = .ref a ∧ RL K H F a vs ∧ RpA K H F vs ds := by
  cases h with
  | lst a b => exact ⟨_, _, rfl, a, b⟩
theorem Rp.tup_inv (h : Rp K H F v (.tuple ds)) : ∃ a vs, v = .ref a ∧ RT K H F a vs ∧ RpA K H F vs ds := by
  cases h with
  | tup a b => exact ⟨_, _, rfl, a, b⟩
theorem ints_inv : ∀ {vs : List V} {ns : List Int}, RpA K H F vs (ns.map PyData.int) → vs = ns.map V.int
  | _, [], h => by cases h; rfl
  | _, n :: ns, h => by
    cases h with
    | cons a b =>
      rw [List.map_cons, a.int_inv, ints_inv b]
theorem bools_inv : ∀ {vs : List V} {bs : List Bool}, RpA K H F vs (bs.map PyData.bool) → vs = bs.map V.bl
  | _, [], h => by cases h; rfl
  | _, n :: ns, h => by
    cases h with
    | cons a b =>
      rw [List.map_cons, a.bool_inv, bools_inv b]
theorem ints_mk : ∀ {ns : List Int}, RpA K H F (ns.map V.int) (ns.map PyData.int)
  | [] => .nil
  | n :: ns => .cons (.int n) ints_mk
end
mutual
theorem Rp.dp' {K : PySem.W.Frag} {H : Hp} {F : Frz} : ∀ (d : Da) (v : V), Rp K H F v d → Dp K H v d
  | .none, _, h => by cases h; exact .non
  | .bool b, _, h => by cases h; exact .bl b
  | .int i, _, h => by cases h; exact .int i
  | .str x, _, h => by cases h; exact .str x
  | .list ds, _, h => by
    cases h with
    | lst a b => exact .lst a.sq (RpA.dp ds _ b)
  | .tuple ds, _, h => by
    cases h with
    | tup a b => exact .tup a.sq (RpA.dp ds _ b)
  | .dict _, _, h => by cases h
theorem RpA.dp {K : PySem.W.Frag} {H : Hp} {F : Frz} : ∀ (ds : List Da) (vs : List V), RpA K H F vs ds → DpAll K H vs ds
  | [], _, h => by cases h; exact .nil
  | d :: ds, _, h => by
    cases h with
    | cons a b => exact .cons (Rp.dp' d _ a) (RpA.dp ds _ b)
end
theorem Rp.dp {K : PySem.W.Frag} {H : Hp} {F : Frz} {v : V} {d : Da} (h : Rp K H F v d) : Dp K H v d := Rp.dp' d v h

/-- as Rp; a list that only this def holds may be read, too -/
inductive Bw (K : PySem.W.Frag) (H : Hp) (F : Frz) : V → Da → Prop
  | rp {v : V} {d : Da} (h : Rp K H F v d) : Bw K H F v d
  | own {p : Addr} {vs : List V} {ds : List Da} (h : H p = some (.lst vs)) (r : RpA K H F vs ds) : Bw K H F (.ref p) (.list ds)
inductive BwA (K : PySem.W.Frag) (H : Hp) (F : Frz) : List V → List Da → Prop
  | nil : BwA K H F [] []
  | cons {v : V} {vs : List V} {d : Da} {ds : List Da} : Bw K H F v d → BwA K H F vs ds → BwA K H F (v :: vs) (d :: ds)
section
variable {K : PySem.W.Frag} {H : Hp} {F : Frz} {v : V} {d : Da} {vs : List V} {ds : List Da}
theorem RpA.bw : ∀ {vs : List V} {ds : List Da}, RpA K H F vs ds → BwA K H F vs ds
  | _, _, .nil => .nil
  | _, _, .cons a t => .cons (.rp a) (RpA.bw t)
theorem Bw.int_inv {i : Int} (h : Bw K H F v (.int i)) : v = .int i := by cases h with | rp h => exact h.int_inv
theorem Bw.bool_inv {b : Bool} (h : Bw K H F v (.bool b)) : v = .bl b := by cases h with | rp h => exact h.bool_inv
theorem Bw.str_inv {x : Str} (h : Bw K H F v (.str x)) : v = .str x := by cases h with | rp h => exact h.str_inv
theorem Bw.none_inv (h : Bw K H F v .none) : v = .non := by cases h with | rp h => exact h.none_inv
theorem Bw.list_inv (h : Bw K H F v (.list ds)) : ∃ a vs, v = .ref a ∧ SqL K H a vs ∧ RpA K H F vs ds := by
  cases h with
  | rp h =>
    obtain ⟨a, vs, e, r, t⟩ := h.list_inv
    exact ⟨a, vs, e, r.sq, t⟩
  | own h r => exact ⟨_, _, rfl, SqL.of h, r⟩
theorem Bw.tup_inv (h : Bw K H F v (.tuple ds)) : ∃ a vs, v = .ref a ∧ SqT K H a vs ∧ RpA K H F vs ds ∧ Rp K H F v (.tuple ds) := by
  cases h with
  | rp h =>
    obtain ⟨a, vs, e, r, t⟩ := h.tup_inv
    exact ⟨a, vs, e, r.sq, t, h⟩
theorem Bw.dp (h : Bw K H F v d) : Dp K H v d := by
  cases h with
  | rp h => exact h.dp
  | own h r => exact .lst (SqL.of h) (RpA.dp _ _ r)
theorem BwA.one (h : BwA K H F vs [d]) : ∃ v, vs = [v] ∧ Bw K H F v d := by
  cases h with
  | cons a t => cases t; exact ⟨_, rfl, a⟩
theorem BwA.two {e : Da} (h : BwA K H F vs [d, e]) : ∃ v u, vs = [v, u] ∧ Bw K H F v d ∧ Bw K H F u e := by
  cases h with
  | cons a t =>
    obtain ⟨u, e, b⟩ := t.one
    exact ⟨_, u, by rw [e], a, b⟩
end

/-- every frozen address is tracked -/
def Fo (F : Frz) (H : Hp) : Prop := ∀ a, F a → H a ≠ none
/-- the heap grows: all that is tracked stays -/
structure Gr (F : Frz) (H : Hp) (F' : Frz) (H' : Hp) : Prop where
  ex : ∀ a o, H a = some o → H' a = some o
  kp : ∀ a, F a → F' a
  nw : ∀ a, F' a → F a ∨ H a = none
  fo : Fo F' H'
/-- frozen things stay, nothing tracked is frozen, nothing untracked -/
structure Le (F : Frz) (H : Hp) (F' : Frz) (H' : Hp) : Prop where
  st : Stay F H F' H'
  tk : ∀ a, H a ≠ none → H' a ≠ none
section
variable {F F1 F2 F' : Frz} {H H1 H2 H' : Hp}
theorem Gr.refl (h : Fo F H) : Gr F H F H := ⟨fun _ _ e => e, fun _ e => e, fun _ e => .inl e, h⟩
theorem some_of {α : Type} {x : Option α} (h : x ≠ none) : ∃ y, x = some y := by
  cases x with
  | none => exact absurd rfl h
  | some y => exact ⟨y, rfl⟩
theorem Gr.stay (g : Gr F H F' H') (h : Fo F H) : Stay F H F' H' := fun a fa => ⟨g.kp a fa, by
  obtain ⟨o, e⟩ := some_of (h a fa)
  rw [e]
  exact g.ex a o e⟩
theorem Gr.le (g : Gr F H F' H') (h : Fo F H) : Le F H F' H' := ⟨g.stay h, fun a n => by
  obtain ⟨o, e⟩ := some_of n
  rw [g.ex a o e]
  exact fun z => nomatch z⟩
theorem Gr.trans (a : Gr F H F1 H1) (b : Gr F1 H1 F2 H2) : Gr F H F2 H2 := by
  refine ⟨fun x o e => b.ex x o (a.ex x o e), fun x e => b.kp x (a.kp x e), fun x e => ?_, b.fo⟩
  rcases b.nw x e with e | e
  · exact a.nw x e
  · refine .inr ?_
    cases q : H x with
    | none => rfl
    | some o => rw [a.ex x o q] at e; cases e
theorem Le.refl : Le F H F H := ⟨fun _ h => ⟨h, rfl⟩, fun _ h => h⟩
theorem Le.trans (a : Le F H F1 H1) (b : Le F1 H1 F2 H2) : Le F H F2 H2 :=
  ⟨fun x h => ⟨(b.st x (a.st x h).1).1, (b.st x (a.st x h).1).2.trans (a.st x h).2⟩, fun x h => b.tk x (a.tk x h)⟩
/-- a new object, frozen from the start; one that is not -/
def frz1 (F : Frz) (p : Addr) : Frz := fun a => F a ∨ a = p
theorem Gr.new {p : Addr} {o : HO} (h : Fo F H) (n : H p = none) : Gr F H (frz1 F p) (upd H p o) := by
  refine ⟨fun a u e => ?_, fun _ e => .inl e, fun a e => ?_, fun a e => ?_⟩
  · rw [upd_ne (ne_of_none e n)]
    exact e
  · rcases e with e | e
    · exact .inl e
    · rw [e]
      exact .inr n
  · by_cases q : a = p
    · rw [q, upd_same]
      exact fun z => nomatch z
    · rw [upd_ne q]
      rcases e with e | e
      · exact h a e
      · exact absurd e q
theorem Gr.new0 {p : Addr} {o : HO} (h : Fo F H) (n : H p = none) : Gr F H F (upd H p o) := by
  refine ⟨fun a u e => ?_, fun _ e => e, fun a e => .inl e, fun a e => ?_⟩
  · rw [upd_ne (ne_of_none e n)]
    exact e
  · by_cases q : a = p
    · rw [q, upd_same]
      exact fun z => nomatch z
    · rw [upd_ne q]
      exact h a e
theorem rp_newT {K : PySem.W.Frag} {p : Addr} {vs : List V} {ds : List Da} (h : Fo F H) (n : H p = none) (r : RpA K H F vs ds) : Rp K (upd H p (.tup vs)) (frz1 F p) (.ref p) (.tuple ds) :=
  .tup (.inl ⟨.inr rfl, .inl upd_same⟩) (r.st ((Gr.new h n).stay h))
theorem rp_newL {K : PySem.W.Frag} {p : Addr} {vs : List V} {ds : List Da} (h : Fo F H) (n : H p = none) (r : RpA K H F vs ds) : Rp K (upd H p (.lst vs)) (frz1 F p) (.ref p) (.list ds) :=
  .lst (.inl ⟨.inr rfl, .inl upd_same⟩) (r.st ((Gr.new h n).stay h))
end

/-- the heap at a def's entry; pen: the list that it may change -/
structure Bs where
  H : Hp
  F : Frz
  pen : Option Addr
/-- the slots σ hold what ρ says; ow: the slots of lists that only this def holds -/
structure Cr (K : PySem.W.Frag) (B : Bs) (ow : List Nat) (σ : L2.St) (H : Hp) (F : Frz) (ρ : Sto) : Prop where
  len : σ.length = ρ.length
  sl : ∀ i d, ρ[i]? = some (some d) → i ∉ ow → ∃ v, σ[i]? = some (some v) ∧ Rp K H F v d
  lo : ∀ i d, ρ[i]? = some (some d) → i ∈ ow → ∃ p ds vs, d = .list ds ∧ σ[i]? = some (some (.ref p)) ∧ H p = some (.lst vs) ∧ ¬ F p ∧ (B.pen = some p ∨ B.H p = none) ∧ RpA K H F vs ds
  dj : ∀ i j p, i ∈ ow → j ∈ ow → i ≠ j → (∃ d, ρ[i]? = some (some d)) → (∃ d, ρ[j]? = some (some d)) → σ[i]? = some (some (.ref p)) → σ[j]? ≠ some (some (.ref p))
  fo : Fo F H
  b1 : ∀ a o, B.H a = some o → B.pen = some a ∨ H a = some o
  b2 : ∀ a, B.F a → F a
  b3 : ∀ a, F a → B.F a ∨ B.H a = none
  pn : ∀ p, B.pen = some p → 0 ∈ ow ∧ σ[0]? = some (some (.ref p)) ∧ ∃ d, ρ[0]? = some (some d)
section
variable {K : PySem.W.Frag} {B : Bs} {ow : List Nat} {σ : L2.St} {H H' : Hp} {F F' : Frz} {ρ : Sto}
theorem Cr.grow (c : Cr K B ow σ H F ρ) (g : Gr F H F' H') : Cr K B ow σ H' F' ρ := by
  have st := g.stay c.fo
  refine ⟨c.len, fun i d h1 h2 => ?_, fun i d h1 h2 => ?_, c.dj, g.fo, fun a o e => ?_, fun a e => g.kp a (c.b2 a e), fun a e => ?_, c.pn⟩
  · obtain ⟨v, e, r⟩ := c.sl i d h1 h2
    exact ⟨v, e, r.st st⟩
  · obtain ⟨p, ds, vs, e1, e2, e3, e4, e5, r⟩ := c.lo i d h1 h2
    refine ⟨p, ds, vs, e1, e2, g.ex p _ e3, fun z => ?_, e5, r.st st⟩
    rcases g.nw p z with z | z
    · exact e4 z
    · rw [e3] at z; cases z
  · rcases c.b1 a o e with z | z
    · exact .inl z
    · exact .inr (g.ex a o z)
  · rcases g.nw a e with z | z
    · exact c.b3 a z
    · refine .inr ?_
      cases q : B.H a with
      | none => rfl
      | some o =>
        rcases c.b1 a o q with y | y
        · obtain ⟨h0, h1, d, h2⟩ := c.pn a y
          obtain ⟨p, ds, vs, _, e2, e3, _⟩ := c.lo 0 d h2 h0
          rw [h1] at e2
          cases e2
          rw [e3] at z; cases z
        · rw [y] at z; cases z
theorem Le.back {p : Addr} (l : Le F H F' H') (n : H' p = none) : H p = none := by
  cases e : H p with
  | none => rfl
  | some o => exact absurd n (l.tk p (by rw [e]; exact fun z => nomatch z))
/-- a new address is no slot's list -/
theorem Cr.away {p : Addr} (c : Cr K B ow σ H F ρ) (n : H p = none) : ∀ i d, ρ[i]? = some (some d) → i ∈ ow → σ[i]? ≠ some (some (.ref p)) := fun i d h1 h2 z => by
  obtain ⟨p', _, _, _, e2, e3, _⟩ := c.lo i d h1 h2
  rw [e2] at z
  cases z
  rw [n] at e3; cases e3
/-- what is new here was new at the entry -/
theorem Cr.new {p : Addr} (c : Cr K B ow σ H F ρ) (n : H p = none) : B.H p = none := by
  cases e : B.H p with
  | none => rfl
  | some o =>
    rcases c.b1 p o e with z | z
    · obtain ⟨h0, h2, d, h3⟩ := c.pn p z
      exact absurd h2 (c.away n 0 d h3 h0)
    · rw [n] at z; cases z
/-- a list of nobody is frozen -/
theorem Cr.freeze {p : Addr} {vs : List V} (c : Cr K B ow σ H F ρ) (hp : H p = some (.lst vs)) (nf : ¬ F p) (hn : ∀ i d, ρ[i]? = some (some d) → i ∈ ow → σ[i]? ≠ some (some (.ref p))) (nb : B.H p = none) : Cr K B ow σ H (frz1 F p) ρ := by
  have st : Stay F H (frz1 F p) H := fun a fa => ⟨.inl fa, rfl⟩
  refine ⟨c.len, fun i d h1 h2 => ?_, fun i d h1 h2 => ?_, c.dj, fun a z => ?_, c.b1, fun a z => .inl (c.b2 a z), fun a z => ?_, c.pn⟩
  · obtain ⟨v, e, r⟩ := c.sl i d h1 h2
    exact ⟨v, e, r.st st⟩
  · obtain ⟨q, ds, us, e1, e2, e3, e4, e5, r⟩ := c.lo i d h1 h2
    refine ⟨q, ds, us, e1, e2, e3, fun z => ?_, e5, r.st st⟩
    rcases z with z | z
    · exact e4 z
    · rw [z] at e2
      exact hn i d h1 h2 e2
  · rcases z with z | z
    · exact c.fo a z
    · rw [z, hp]; exact fun z => nomatch z
  · rcases z with z | z
    · exact c.b3 a z
    · rw [z]; exact .inr nb
end
theorem Le.freeze {F F' : Frz} {H H' : Hp} {p : Addr} (l : Le F H F' H') : Le F H (frz1 F' p) H' := ⟨fun a fa => ⟨.inl (l.st a fa).1, (l.st a fa).2⟩, l.tk⟩
end Mir

set_option Elab.async false
set_option linter.all false
set_option maxRecDepth 100000
set_option maxHeartbeats 2000000
namespace Mir
open PySem L2

abbrev Md (α : Type) := Sto → Option (α × Sto)
def mBind {α β : Type} (f : Md α) (g : α → Md β) : Md β := fun ρ => match f ρ with
  | some (a, ρ') => g a ρ'
  | none => none
def mRet {α : Type} (a : α) : Md α := fun ρ => some (a, ρ)
def mOpt {α : Type} (a : Option α) : Md α := fun ρ => match a with
  | some x => some (x, ρ)
  | none => none
theorem bind_inv {α β : Type} {f : Md α} {g : α → Md β} {ρ : Sto} {r : β × Sto} (h : mBind f g ρ = some r) : ∃ a ρ', f ρ = some (a, ρ') ∧ g a ρ' = some r := by
  unfold mBind at h
  split at h
  · exact ⟨_, _, by assumption, h⟩
  · cases h
theorem opt_inv {α : Type} {o : Option α} {ρ : Sto} {a : α} {ρ' : Sto} (h : mOpt o ρ = some (a, ρ')) : o = some a ∧ ρ' = ρ := by
  unfold mOpt at h
  split at h
  · cases h; exact ⟨rfl, rfl⟩
  · cases h

/-! ### readings by the store -/
def tE (K : PySem.W.Frag) (ow : List Nat) (f : Md Da) : TE := fun σ H Q => ∃ B F ρ d ρ', Cr K B ow σ H F ρ ∧ f ρ = some (d, ρ') ∧ ∀ v H' F', Cr K B ow σ H' F' ρ' → Le F H F' H' → Rp K H' F' v d → Q v H'
def tT (K : PySem.W.Frag) (ow : List Nat) (f : Md Bool) : TT := fun σ H Q => ∃ B F ρ b ρ', Cr K B ow σ H F ρ ∧ f ρ = some (b, ρ') ∧ ∀ H' F', Cr K B ow σ H' F' ρ' → Le F H F' H' → Q b H'
def tA (K : PySem.W.Frag) (ow : List Nat) (f : Md (List Da)) : TA := fun σ H Q => ∃ B F ρ ds ρ', Cr K B ow σ H F ρ ∧ f ρ = some (ds, ρ') ∧ ∀ vs H' F', Cr K B ow σ H' F' ρ' → Le F H F' H' → RpA K H' F' vs ds → Q vs H'
abbrev GE (X : Cx) (ow : List Nat) (e : Expr) (f : Md Da) : Prop := PE X e (tE X.K ow f)
abbrev GT (X : Cx) (ow : List Nat) (e : Expr) (f : Md Bool) : Prop := PT X e (tT X.K ow f)
abbrev GW (X : Cx) (ow : List Nat) (e : Expr) (f : Md Bool) : Prop := PW X e (tT X.K ow f)
abbrev GA (X : Cx) (ow : List Nat) (es : List Expr) (f : Md (List Da)) : Prop := PA X es (tA X.K ow f)
section
variable {X : Cx} {e : Expr} {es : List Expr}
theorem pe_w {t t' : TE} (h : PE X e t) (w : ∀ σ H Q, t' σ H Q → t σ H Q) : PE X e t' := ⟨fun pins s σ H Q I q => h.run pins s σ H Q I (w σ H Q q)⟩
theorem pt_w {t t' : TT} (h : PT X e t) (w : ∀ σ H Q, t' σ H Q → t σ H Q) : PT X e t' := ⟨fun pins s σ H Q I q => h.run pins s σ H Q I (w σ H Q q)⟩
theorem pw_w {t t' : TT} (h : PW X e t) (w : ∀ σ H Q, t' σ H Q → t σ H Q) : PW X e t' := ⟨fun wh pins s σ H Q I q => h.run wh pins s σ H Q I (w σ H Q q)⟩
theorem pa_w {t t' : TA} (h : PA X es t) (w : ∀ σ H Q, t' σ H Q → t σ H Q) : PA X es t' := ⟨fun pos pins s σ H Q I q => h.run pos pins s σ H Q I (w σ H Q q)⟩
end

/-! ### names, constants -/
def mVar (i : Nat) : Md Da := fun ρ => match ρ[i]? with
  | some (some d) => some (d, ρ)
  | _ => none
theorem var_inv {i : Nat} {ρ ρ' : Sto} {d : Da} (h : mVar i ρ = some (d, ρ')) : ρ[i]? = some (some d) ∧ ρ' = ρ := by
  unfold mVar at h
  split at h
  · cases h
    exact ⟨by assumption, rfl⟩
  · cases h
section
variable {X : Cx} {ow : List Nat} {a b c e : Expr} {pos : Pos} {fa fb fc : Md Da}
theorem e_var {i : Nat} (h : PE X e (tVar i)) (hi : i ∉ ow) : GE X ow e (mVar i) := pe_w h fun σ H Q ⟨B, F, ρ, d, ρ', c, hf, q⟩ => by
  obtain ⟨e1, rfl⟩ := var_inv hf
  obtain ⟨v, h1, r⟩ := c.sl i d e1 hi
  exact ⟨v, h1, q v H F c Le.refl r⟩
theorem e_c {v : V} {d : Da} (h : PE X e (tC v)) (r : ∀ H F, Rp X.K H F v d) : GE X ow e (mRet d) := pe_w h fun σ H Q ⟨B, F, ρ, d', ρ', c, hf, q⟩ => by
  cases hf
  exact q v H F c Le.refl (r H F)
theorem e_int {i j pos} : GE X ow (.Constant (.int i) j pos) (mRet (.int i)) := e_c pe_int fun _ _ => .int i
theorem e_bl {b j pos} : GE X ow (.Constant (.bool b) j pos) (mRet (.bool b)) := e_c pe_bl fun _ _ => .bl b
theorem e_non {j pos} : GE X ow (.Constant .none j pos) (mRet .none) := e_c pe_non fun _ _ => .non
theorem e_str {x j pos} : GE X ow (.Constant (.str x) j pos) (mRet (.str x)) := e_c pe_str fun _ _ => .str x

/-! ### operations -/
def mOp (g : Da → Da → Option Da) (fa fb : Md Da) : Md Da := mBind fa fun x => mBind fb fun y => mOpt (g x y)
def mUn (g : Da → Option Da) (fa : Md Da) : Md Da := mBind fa fun x => mOpt (g x)
def OpD (K : PySem.W.Frag) (r : R2) (g : Da → Da → Option Da) : Prop := ∀ (H : Hp) (F : Frz) (x y : V) (dx dy d : Da), Fo F H → Bw K H F x dx → Bw K H F y dy → g dx dy = some d →
  ∀ Q : VK, (∀ v H' F', Gr F H F' H' → Rp K H' F' v d → Q v H') → r x y H Q
def UnD (K : PySem.W.Frag) (r : V → Hp → VK → Prop) (g : Da → Option Da) : Prop := ∀ (H : Hp) (F : Frz) (x : V) (dx d : Da), Fo F H → Bw K H F x dx → g dx = some d →
  ∀ Q : VK, (∀ v H' F', Gr F H F' H' → Rp K H' F' v d → Q v H') → r x H Q
def CallD (K : PySem.W.Frag) (r : List V → Hp → VK → Prop) (g : List Da → Option Da) : Prop := ∀ (H : Hp) (F : Frz) (xs : List V) (dx : List Da) (d : Da), Fo F H → BwA K H F xs dx → g dx = some d →
  ∀ Q : VK, (∀ v H' F', Gr F H F' H' → Rp K H' F' v d → Q v H') → r xs H Q
/-- two readings in a row -/
theorem t_two {K : PySem.W.Frag} {r : R2} {g : Da → Da → Option Da} (hd : OpD K r g) (σ : L2.St) (H : Hp) (Q : VK) (h : tE K ow (mOp g fa fb) σ H Q) : tOp r (tE K ow fa) (tE K ow fb) σ H Q := by
  obtain ⟨B, F, ρ, d, ρ', c, hf, q⟩ := h
  obtain ⟨x, ρ1, h1, hf⟩ := bind_inv hf
  obtain ⟨y, ρ2, h2, hf⟩ := bind_inv hf
  obtain ⟨hg, rfl⟩ := opt_inv hf
  refine ⟨B, F, ρ, x, ρ1, c, h1, fun v H1 F1 c1 l1 r1 => ?_⟩
  refine ⟨B, F1, ρ1, y, ρ', c1, h2, fun w H2 F2 c2 l2 r2 => ?_⟩
  exact hd H2 F2 v w x y d c2.fo (.rp (r1.st l2.st)) (.rp r2) hg Q fun z H3 F3 gr r3 => q z H3 F3 (c2.grow gr) ((l1.trans l2).trans (gr.le c2.fo)) r3
theorem e_op {op : Operator} {r : R2} {g : Da → Da → Option Da} (ho : OpR X (binaryOp op) r) (hd : OpD X.K r g) (ha : GE X ow a fa) (hb : GE X ow b fb) : GE X ow (.BinOp a op b pos) (mOp g fa fb) := pe_w (pe_op ho ha hb) (t_two hd)
theorem e_cmp {op : CmpOp} {r : R2} {g : Da → Da → Option Da} (ho : OpR X (compareOp op) r) (hd : OpD X.K r g) (ha : GE X ow a fa) (hb : GE X ow b fb) (hm : behindInMarks op b = false) : GE X ow (.Compare a [op] [b] pos) (mOp g fa fb) := pe_w (pe_cmpR ho ha hb hm) (t_two hd)
theorem e_un {op : UnaryOp} {r : V → Hp → VK → Prop} {g : Da → Option Da} (ho : UnR X (unaryOp op) r) (hd : UnD X.K r g) (ha : GE X ow a fa) : GE X ow (.UnaryOp op a pos) (mUn g fa) := pe_w (pe_un ho ha) fun σ H Q ⟨B, F, ρ, d, ρ', c, hf, q⟩ => by
  obtain ⟨x, ρ1, h1, hf⟩ := bind_inv hf
  obtain ⟨hg, rfl⟩ := opt_inv hf
  refine ⟨B, F, ρ, x, ρ', c, h1, fun v H1 F1 c1 l1 r1 => ?_⟩
  exact hd H1 F1 v x d c1.fo (.rp r1) hg Q fun z H3 F3 gr r3 => q z H3 F3 (c1.grow gr) (l1.trans (gr.le c1.fo)) r3
/-- subscripts -/
theorem e_ix {r : R2} {g : Da → Da → Option Da} (ho : IxR X r) (hd : OpD X.K r g) (ha : GE X ow a fa) (hb : GE X ow b fb) (hp : PlainIx b) : GE X ow (.Subscript a b pos) (mOp g fa fb) := pe_w (pe_ix ho ha hb hp) (t_two hd)

/-! ### tests -/
def isB : Da → Option Bool
  | .bool b => some b
  | _ => none
def mB (f : Md Da) : Md Bool := mBind f fun d => mOpt (isB d)
theorem isB_inv {d : Da} {b : Bool} (h : isB d = some b) : d = .bool b := by
  cases d <;> first | (cases h; rfl) | cases h
/-- the truth of data -/
def gTru : Da → Option Bool
  | .none => some false
  | .bool b => some b
  | .int i => some (i != 0)
  | .list ds => some (!ds.isEmpty)
  | .tuple ds => some (!ds.isEmpty)
  | _ => none
def mTru (f : Md Da) : Md Bool := mBind f fun d => mOpt (gTru d)
theorem tru_d {K : PySem.W.Frag} {H : Hp} {F : Frz} {v : V} {d : Da} {b : Bool} (r : Rp K H F v d) (h : gTru d = some b) : TruV K v H b := by
  cases r with
  | non => cases h; rfl
  | bl k => cases h; rfl
  | int i => cases h; rfl
  | str x => cases h
  | lst a k => cases h; exact .inl ⟨_, a.sq, by cases k <;> rfl⟩
  | tup a k => cases h; exact .inr (.inl ⟨_, a.sq, by cases k <;> rfl⟩)
theorem t_val {e : Expr} {f : Md Da} (h : GE X ow e f) (he : ∀ whole, isTrue e X.env whole = (do let v ← whole; standAt e.pos; holding [v] (truthy v)) := by intro _; rfl) : GT X ow e (mTru f) := pt_w (pt_truth h he) fun σ H Q ⟨B, F, ρ, b, ρ', c, hf, q⟩ => by
  obtain ⟨x, ρ1, h1, hf⟩ := bind_inv hf
  obtain ⟨hg, rfl⟩ := opt_inv hf
  exact ⟨B, F, ρ, x, ρ', c, h1, fun v H1 F1 c1 l1 r1 => ⟨b, tru_d r1 hg, q H1 F1 c1 l1⟩⟩
theorem t_cmp {op : CmpOp} {r : R2} {g : Da → Da → Option Da} (ho : OpR X (compareOp op) r) (hd : OpD X.K r g) (ha : GE X ow a fa) (hb : GE X ow b fb) (hm : behindInMarks op b = false) : GT X ow (.Compare a [op] [b] pos) (mB (mOp g fa fb)) :=
  pt_w (pt_cmpR ho ha hb hm) fun σ H Q ⟨B, F, ρ, k, ρ', c, hf, q⟩ => by
  obtain ⟨x, ρ1, h1, hf⟩ := bind_inv hf
  obtain ⟨hg, rfl⟩ := opt_inv hf
  have hx := isB_inv hg
  subst hx
  refine t_two hd σ H _ ⟨B, F, ρ, .bool k, ρ', c, h1, fun v H1 F1 c1 l1 r1 => ?_⟩
  cases r1
  exact ⟨k, rfl, q H1 F1 c1 l1⟩
def mAnd (f g : Md Bool) : Md Bool := mBind f fun b => if b = true then g else mRet false
def mOr (f g : Md Bool) : Md Bool := mBind f fun b => if b = true then mRet true else g
def mNot (f : Md Bool) : Md Bool := mBind f fun b => mRet (!b)
variable {ta tb : Md Bool} {rest : List Expr}
theorem t_not (h : GT X ow a ta) : GT X ow (.UnaryOp .Not a pos) (mNot ta) := pt_w (pt_not h) fun σ H Q ⟨B, F, ρ, k, ρ', c, hf, q⟩ => by
  obtain ⟨x, ρ1, h1, hf⟩ := bind_inv hf
  cases hf
  exact ⟨B, F, ρ, x, ρ', c, h1, q⟩
theorem w_and1 (h : GT X ow a ta) : GW X ow (.BoolOp .And [a] pos) ta := pw_and1 h
theorem w_or1 (h : GT X ow a ta) : GW X ow (.BoolOp .Or [a] pos) ta := pw_or1 h
theorem w_and (h : GT X ow a ta) (h2 : GW X ow (.BoolOp .And (b :: rest) pos) tb) : GW X ow (.BoolOp .And (a :: b :: rest) pos) (mAnd ta tb) := pw_w (pw_and h h2) fun σ H Q ⟨B, F, ρ, k, ρ', c, hf, q⟩ => by
  obtain ⟨x, ρ1, h1, hf⟩ := bind_inv hf
  refine ⟨B, F, ρ, x, ρ1, c, h1, fun H1 F1 c1 l1 => ?_⟩
  cases x with
  | true =>
    rw [if_pos rfl] at hf
    rw [if_pos rfl]
    exact ⟨B, F1, ρ1, k, ρ', c1, hf, fun H2 F2 c2 l2 => q H2 F2 c2 (l1.trans l2)⟩
  | false =>
    rw [if_neg Bool.false_ne_true] at hf
    rw [if_neg Bool.false_ne_true]
    cases hf
    exact q H1 F1 c1 l1
theorem w_or (h : GT X ow a ta) (h2 : GW X ow (.BoolOp .Or (b :: rest) pos) tb) : GW X ow (.BoolOp .Or (a :: b :: rest) pos) (mOr ta tb) := pw_w (pw_or h h2) fun σ H Q ⟨B, F, ρ, k, ρ', c, hf, q⟩ => by
  obtain ⟨x, ρ1, h1, hf⟩ := bind_inv hf
  refine ⟨B, F, ρ, x, ρ1, c, h1, fun H1 F1 c1 l1 => ?_⟩
  cases x with
  | false =>
    rw [if_neg Bool.false_ne_true] at hf
    rw [if_neg Bool.false_ne_true]
    exact ⟨B, F1, ρ1, k, ρ', c1, hf, fun H2 F2 c2 l2 => q H2 F2 c2 (l1.trans l2)⟩
  | true =>
    rw [if_pos rfl] at hf
    rw [if_pos rfl]
    cases hf
    exact q H1 F1 c1 l1
theorem t_w (h : GW X ow a ta) : GT X ow a ta := h.pt
/-- as values -/
def mBd (f : Md Da) : Md Bool := mB f
def mOfB (f : Md Bool) : Md Da := mBind f fun b => mRet (.bool b)
theorem e_one {op} (h : GE X ow a fa) : GE X ow (.BoolOp op [a] pos) fa := pe_one h
def mAndV (f g : Md Da) : Md Da := mBind (mB f) fun b => if b = true then mBind (mB g) (fun k => mRet (.bool k)) else mRet (.bool false)
def mOrV (f g : Md Da) : Md Da := mBind (mB f) fun b => if b = true then mRet (.bool true) else mBind (mB g) (fun k => mRet (.bool k))
def mNotV (f : Md Da) : Md Da := mBind (mB f) fun b => mRet (.bool (!b))
theorem e_not (h : GE X ow a fa) : GE X ow (.UnaryOp .Not a pos) (mNotV fa) := pe_w (pe_not h) fun σ H Q ⟨B, F, ρ, d, ρ', c, hf, q⟩ => by
  obtain ⟨k, ρ1, h1, hf⟩ := bind_inv hf
  obtain ⟨x, ρ2, h1, h2⟩ := bind_inv h1
  obtain ⟨hg, rfl⟩ := opt_inv h2
  have hx := isB_inv hg
  subst hx
  cases hf
  refine ⟨B, F, ρ, _, _, c, h1, fun v H1 F1 c1 l1 r1 => ?_⟩
  cases r1
  exact ⟨k, rfl, q _ H1 F1 c1 l1 (.bl _)⟩
theorem e_and (ha : GE X ow a fa) (hb : GE X ow (.BoolOp .And (b :: rest) pos) fb) : GE X ow (.BoolOp .And (a :: b :: rest) pos) (mAndV fa fb) := pe_w (pe_and ha hb) fun σ H Q ⟨B, F, ρ, d, ρ', c, hf, q⟩ => by
  obtain ⟨k, ρ1, h1, hf⟩ := bind_inv hf
  obtain ⟨x, ρ2, h1, h2⟩ := bind_inv h1
  obtain ⟨hg, rfl⟩ := opt_inv h2
  have hx := isB_inv hg
  subst hx
  refine ⟨B, F, ρ, _, _, c, h1, fun v H1 F1 c1 l1 r1 => ?_⟩
  cases r1
  refine ⟨k, rfl, ?_⟩
  cases k with
  | true =>
    rw [if_pos rfl] at hf
    rw [if_pos rfl]
    obtain ⟨m, ρ3, h3, h4⟩ := bind_inv hf
    obtain ⟨y, ρ4, h3, h5⟩ := bind_inv h3
    obtain ⟨hg2, rfl⟩ := opt_inv h5
    have hy := isB_inv hg2
    subst hy
    cases h4
    exact ⟨B, F1, _, _, _, c1, h3, fun w H2 F2 c2 l2 r2 => q w H2 F2 c2 (l1.trans l2) r2⟩
  | false =>
    rw [if_neg Bool.false_ne_true] at hf
    rw [if_neg Bool.false_ne_true]
    cases hf
    exact q _ H1 F1 c1 l1 (.bl _)
theorem e_or (ha : GE X ow a fa) (hb : GE X ow (.BoolOp .Or (b :: rest) pos) fb) : GE X ow (.BoolOp .Or (a :: b :: rest) pos) (mOrV fa fb) := pe_w (pe_or ha hb) fun σ H Q ⟨B, F, ρ, d, ρ', c, hf, q⟩ => by
  obtain ⟨k, ρ1, h1, hf⟩ := bind_inv hf
  obtain ⟨x, ρ2, h1, h2⟩ := bind_inv h1
  obtain ⟨hg, rfl⟩ := opt_inv h2
  have hx := isB_inv hg
  subst hx
  refine ⟨B, F, ρ, _, _, c, h1, fun v H1 F1 c1 l1 r1 => ?_⟩
  cases r1
  refine ⟨k, rfl, ?_⟩
  cases k with
  | false =>
    rw [if_neg Bool.false_ne_true] at hf
    rw [if_neg Bool.false_ne_true]
    obtain ⟨m, ρ3, h3, h4⟩ := bind_inv hf
    obtain ⟨y, ρ4, h3, h5⟩ := bind_inv h3
    obtain ⟨hg2, rfl⟩ := opt_inv h5
    have hy := isB_inv hg2
    subst hy
    cases h4
    exact ⟨B, F1, _, _, _, c1, h3, fun w H2 F2 c2 l2 r2 => q w H2 F2 c2 (l1.trans l2) r2⟩
  | true =>
    rw [if_pos rfl] at hf
    rw [if_pos rfl]
    cases hf
    exact q _ H1 F1 c1 l1 (.bl _)
def mIf (t : Md Bool) (f g : Md Da) : Md Da := mBind t fun b => if b = true then f else g
theorem e_if (hc : GT X ow c ta) (ha : GE X ow a fa) (hb : GE X ow b fb) : GE X ow (.IfExp c a b pos) (mIf ta fa fb) := pe_w (pe_ifExp hc ha hb) fun σ H Q ⟨B, F, ρ, d, ρ', c, hf, q⟩ => by
  obtain ⟨k, ρ1, h1, hf⟩ := bind_inv hf
  refine ⟨B, F, ρ, k, ρ1, c, h1, fun H1 F1 c1 l1 => ?_⟩
  cases k with
  | true =>
    rw [if_pos rfl] at hf
    rw [if_pos rfl]
    exact ⟨B, F1, ρ1, d, ρ', c1, hf, fun v H2 F2 c2 l2 r2 => q v H2 F2 c2 (l1.trans l2) r2⟩
  | false =>
    rw [if_neg Bool.false_ne_true] at hf
    rw [if_neg Bool.false_ne_true]
    exact ⟨B, F1, ρ1, d, ρ', c1, hf, fun v H2 F2 c2 l2 r2 => q v H2 F2 c2 (l1.trans l2) r2⟩

/-! ### argument lists, displays, calls -/
def mNil : Md (List Da) := mRet []
def mCons (f : Md Da) (g : Md (List Da)) : Md (List Da) := mBind f fun d => mBind g fun ds => mRet (d :: ds)
variable {fs : Md (List Da)} {es : List Expr}
theorem a_nil : GA X ow [] mNil := pa_w pa_nil fun σ H Q ⟨B, F, ρ, d, ρ', c, hf, q⟩ => by
  cases hf
  exact q [] H F c Le.refl .nil
theorem a_cons (ha : GE X ow e fa) (hr : GA X ow es fs) (hs : starEach (e :: es) X.env = (false, eval e X.env) :: starEach es X.env := by rfl) : GA X ow (e :: es) (mCons fa fs) := pa_w (pa_cons ha hr hs) fun σ H Q ⟨B, F, ρ, d, ρ', c, hf, q⟩ => by
  obtain ⟨x, ρ1, h1, hf⟩ := bind_inv hf
  obtain ⟨xs, ρ2, h2, hf⟩ := bind_inv hf
  cases hf
  refine ⟨B, F, ρ, x, ρ1, c, h1, fun v H1 F1 c1 l1 r1 => ?_⟩
  exact ⟨B, F1, ρ1, xs, _, c1, h2, fun vs H2 F2 c2 l2 r2 => q _ H2 F2 c2 (l1.trans l2) (.cons (r1.st l2.st) r2)⟩
def sized (ds : List Da) : Option (List Da) := if ds.length ≤ 100000 then some ds else none
theorem sized_inv {ds es : List Da} (h : sized ds = some es) : es = ds ∧ ds.length ≤ sizeLine := by
  unfold sized at h
  split at h
  · cases h
    exact ⟨rfl, Evl.sz_of (by assumption)⟩
  · cases h
def mTup (f : Md (List Da)) : Md Da := mBind f fun ds => mOpt ((sized ds).map .tuple)
theorem e_tup {x1} (h : GA X ow es fs) : GE X ow (.Tuple es x1 pos) (mTup fs) := pe_w (pe_tup h) fun σ H Q ⟨B, F, ρ, d, ρ', c, hf, q⟩ => by
  obtain ⟨xs, ρ1, h1, hf⟩ := bind_inv hf
  obtain ⟨hg, rfl⟩ := opt_inv hf
  obtain ⟨ys, hz, rfl⟩ := Option.map_eq_some_iff.mp hg
  obtain ⟨rfl, hz⟩ := sized_inv hz
  refine ⟨B, F, ρ, _, _, c, h1, fun vs H1 F1 c1 l1 r1 => ⟨by rw [r1.len]; exact hz, fun p np => ?_⟩⟩
  have gr := Gr.new (o := .tup vs) c1.fo np
  exact q _ _ _ (c1.grow gr) (l1.trans (gr.le c1.fo)) (rp_newT c1.fo np r1)
/-- a new list that nobody else holds -/
def tL (K : PySem.W.Frag) (ow : List Nat) (f : Md (List Da)) : TE := fun σ H Q => ∃ B F ρ ds ρ', Cr K B ow σ H F ρ ∧ f ρ = some (ds, ρ') ∧
  ∀ p vs H' F', Cr K B ow σ H' F' ρ' → Le F H F' H' → H p = none → H' p = some (.lst vs) → ¬ F' p → (∀ i d, ρ'[i]? = some (some d) → i ∈ ow → σ[i]? ≠ some (some (.ref p))) → RpA K H' F' vs ds → Q (.ref p) H'
abbrev GL (X : Cx) (ow : List Nat) (e : Expr) (f : Md (List Da)) : Prop := PE X e (tL X.K ow f)
def mSz (f : Md (List Da)) : Md (List Da) := mBind f fun ds => mOpt (sized ds)
theorem l_lst (h : GA X ow es fs) : GL X ow (.List es pos) (mSz fs) := pe_w (pe_lst h) fun σ H Q ⟨B, F, ρ, d, ρ', c, hf, q⟩ => by
  obtain ⟨xs, ρ1, h1, hf⟩ := bind_inv hf
  obtain ⟨hg, rfl⟩ := opt_inv hf
  obtain ⟨rfl, hz⟩ := sized_inv hg
  refine ⟨B, F, ρ, _, _, c, h1, fun vs H1 F1 c1 l1 r1 => ⟨by rw [r1.len]; exact hz, fun p np => ?_⟩⟩
  have gr := Gr.new0 (o := .lst vs) c1.fo np
  exact q p vs _ F1 (c1.grow gr) (l1.trans (gr.le c1.fo)) (l1.back np) upd_same (fun z => c1.fo p z np) (c1.away np) (r1.st (gr.stay c1.fo))
def mOfL (f : Md (List Da)) : Md Da := mBind f fun ds => mRet (.list ds)
/-- .. frozen from now on -/
theorem e_fz (h : GL X ow e fs) : GE X ow e (mOfL fs) := pe_w h fun σ H Q ⟨B, F, ρ, d, ρ', c, hf, q⟩ => by
  obtain ⟨xs, ρ1, h1, hf⟩ := bind_inv hf
  cases hf
  refine ⟨B, F, ρ, _, _, c, h1, fun p vs H1 F1 c1 l1 np hp nf hn r1 => ?_⟩
  exact q (.ref p) H1 (frz1 F1 p) (c1.freeze hp nf hn (c.new np)) l1.freeze (.lst (.inl ⟨.inr rfl, .inl hp⟩) (r1.st fun a fa => ⟨.inl fa, rfl⟩))
def mCall (g : List Da → Option Da) (f : Md (List Da)) : Md Da := mBind f fun ds => mOpt (g ds)
theorem t_call {K : PySem.W.Frag} {r : List V → Hp → VK → Prop} {g : List Da → Option Da} (hd : CallD K r g) (σ : L2.St) (H : Hp) (Q : VK) (h : tE K ow (mCall g fs) σ H Q) : tCB r (tA K ow fs) σ H Q := by
  obtain ⟨B, F, ρ, d, ρ', c, hf, q⟩ := h
  obtain ⟨xs, ρ1, h1, hf⟩ := bind_inv hf
  obtain ⟨hg, rfl⟩ := opt_inv hf
  refine ⟨B, F, ρ, _, _, c, h1, fun vs H1 F1 c1 l1 r1 => ?_⟩
  exact hd H1 F1 vs xs d c1.fo r1.bw hg Q fun z H3 F3 gr r3 => q z H3 F3 (c1.grow gr) (l1.trans (gr.le c1.fo)) r3
variable {x : Str} {p : Pos} {id T : String}
theorem e_callB {r : List V → Hp → VK → Prop} {g : List Da → Option Da} (hc : CallR X (.builtin id) r) (hd : CallD X.K r g) (hg : Gl X x) (hm : X.mg x = none) (hv : bootBuiltins x = some (.builtin id)) (ha : GA X ow (e :: es) fs) (hn : x ≠ "__name__" := by decide) (hdb : (x == ("__debug__" : Str)) = false := by decide)
    (he : starEach (e :: es) X.env = (false, eval e X.env) :: starEach es X.env := by rfl) (hpl : (backTo pos (starEach es X.env)).any (·.1) = false := by rfl) : GE X ow (.Call (.Name x p) (e :: es) [] pos) (mCall g fs) := pe_w (pe_callB hc hg hm hv ha hn hdb he hpl) (t_call hd)
theorem e_callTy {r : List V → Hp → VK → Prop} {g : List Da → Option Da} (hc : CallR X (.type T) r) (hd : CallD X.K r g) (hg : Gl X x) (hm : X.mg x = none) (hv : bootBuiltins x = some (.type T)) (ha : GA X ow (e :: es) fs) (hn : x ≠ "__name__" := by decide) (hdb : (x == ("__debug__" : Str)) = false := by decide)
    (he : starEach (e :: es) X.env = (false, eval e X.env) :: starEach es X.env := by rfl) (hpl : (backTo pos (starEach es X.env)).any (·.1) = false := by rfl) : GE X ow (.Call (.Name x p) (e :: es) [] pos) (mCall g fs) := pe_w (pe_callTy hc hg hm hv ha hn hdb he hpl) (t_call hd)
/-- isinstance(e, T), T a built-in class -/
def clsD : Da → Option String
  | .none => some "NoneType"
  | .bool _ => some "bool"
  | .int _ => some "int"
  | .str _ => some "str"
  | .list _ => some "list"
  | .tuple _ => some "tuple"
  | .dict _ => none
end
end Mir

set_option Elab.async false
set_option linter.all false
set_option maxRecDepth 100000
set_option maxHeartbeats 2000000
namespace Mir
open PySem PySem.Spec PyProof.Rows L2

/-! ### defs that are called where nothing is being shown (repr) -/
structure FnG (P : Program) (w : World) (K : PySem.W.Frag) (mg : Str → Option Value) (base : Heap) (k : Nat) (f : Addr) (fd : FuncData) (ps : List Str) (sp : Sp) : Prop where
  len : ∀ vs H Q E, sp vs H Q E → vs.length = ps.length
  run : ∀ (A : Around) (outer : List Env) (s : Shared) (H : Hp) (args : Args) (us : List Value) (vs : List V) (Q : VK) (E : XK),
    Room k A → A.guards = some [] → Env0 P w K mg base A outer s H → BindsTo s fd args (ps.zip us) → Vals vs us → sp vs H Q E → codeAny (model P w) A (.call (.ref f) args) (CR CX0 outer P w H s Q E) s
section
variable {P : Program} {w : World} {K : PySem.W.Frag} {mg : Str → Option Value} {base : Heap} {j k : Nat} {f : Addr} {fd : FuncData} {ps : List Str} {sp : Sp}
theorem FnG.mono (G : FnG P w K mg base j f fd ps sp) (h : j ≤ k) : FnG P w K mg base k f fd ps sp := ⟨G.len, fun A outer s H args us vs Q E hr => G.run A outer s H args us vs Q E (hr.mono h)⟩
/-- a def of the text, by its body -/
theorem fnG {x qual : Str} {st : Stmt} {N : List Str} (T : Fun K x qual st f fd) (S : FnScope N ps (defScope st)) (len : ∀ vs H Q E, sp vs H Q E → vs.length = ps.length)
    (body : ∀ (cdv : Value) (A : Around) (outer : List Env) (s : Shared) (H : Hp) (vs : List V) (Q : VK) (E : XK), Room k (A.deeper (envOfC qual (defScope st) s.heap.objs.size f cdv)) →
      (A.deeper (envOfC qual (defScope st) s.heap.objs.size f cdv)).guards = some [] → sp vs H Q E →
      ∃ t, PSs (cxOf CX0 P w K mg base N qual (defScope st) f cdv A outer s H E).nox (defBody st) t ∧ t { nx := fun _ H' => Q .non H', rt := Q } (start N vs) H) : FnG P w K mg base (k + 1) f fd ps sp := by
  obtain ⟨oc, od, kV, doc, pm, an, cdv, ct, osl, e1, lk, hcd⟩ := T.ex
  subst e1
  refine ⟨len, fun A outer s H args us vs Q E hr hgd en bd rv hs => ?_⟩
  have keeps : ∀ b o, base.get? b = some o → s.heap.get? b = some o := fun b o e => (en.bs b o e).1
  have kin := en.mod.kin.keeps keeps
  have lim := en.mod.nolimit.keeps keeps
  have kinds : ∀ y ∈ ps.zip us, (defScope st).names.lookup y.1 = some .local ∨
      ((defScope st).names.lookup y.1 = some .cell ∧ ((cellsFrom (s.heap.objs.size + 1) (defScope st).names []).lookup y.1).isSome = true) := fun y hy => by
    obtain ⟨n, v⟩ := y
    have hn := (List.of_mem_zip hy).1
    cases S.par n hn with
    | inl q => exact Or.inl q
    | inr q => exact Or.inr (And.intro q (PySem.W.cellsFrom_some _ _ _ (Or.inl q)))
  apply codeAny_call_function hr.depth (kin _ _ lk) rfl S.co S.gen rfl (PySem.W.codeRec_of kin hcd)
  apply bd
  apply wpAny_newFunctionEnv_cells S.kind kinds
  intro env ee s1 inC
  subst ee
  obtain ⟨t, ht, hq⟩ := body cdv A outer s H vs Q E (hr.deeper _) (show A.guards = some [] from hgd) hs
  have I0 := inv_start (CX := CX0) (E := E) S hr.hd en (len _ _ _ _ hs) rv inC
  refine And.intro (lim.keeps inC.toInCall.keep) (codeAny_func (wpAny_mono (ht.nox.run [] s1 _ H _ I0 hq) (fun fl s' hr' => ?_) fun _ _ z => z))
  cases fl with
  | brk => obtain ⟨_, _, _, z⟩ := hr'; exact False.elim z
  | cont => obtain ⟨_, _, _, z⟩ := hr'; exact False.elim z
  | ret u =>
    obtain ⟨v, _, H', J, rv', q'⟩ := hr'
    exact ⟨v, H', J.os, J.bare, J.base, J.hok, rv', q'⟩
  | next =>
    obtain ⟨_, H', J, q'⟩ := hr'
    exact ⟨V.non, H', J.os, J.bare, J.base, J.hok, rfl, q'⟩
end
section
variable {X : Cx} {k : Nat} {f : Addr} {fd : FuncData} {ps : List Str} {sp : Sp} {x : Str} {p pos : Pos} {e : Expr} {es : List Expr} {ta : TA}
theorem pe_callG (G : FnG X.prog X.w X.K X.mg X.base k f fd ps sp) (hr : Room k X.A) (hgd : X.A.guards = some []) (hg : Gl X x) (hm : X.mg x = some (.ref f)) (hk : PySem.W.keepIn X.K (.ref f) = true) (hb : Binds X.K fd ps [])
    (ha : PA X (e :: es) ta) (hdb : (x == ("__debug__" : Str)) = false := by decide) (he : starEach (e :: es) X.env = (false, eval e X.env) :: starEach es X.env := by rfl) (hpl : (backTo pos (starEach es X.env)).any (·.1) = false := by rfl) :
    PE X (.Call (.Name x p) (e :: es) [] pos) (fun σ H Q => ta σ H fun vs H1 => sp vs H1 Q E0) := by
  refine ⟨fun pins s σ H Q I h => ?_⟩
  have go := PySem.W.callWith_K (first := []) (pos := pos) (h₀ := X.base) (e := e) (rest := es) (env := X.env) (Q := EP X pins σ Q) (E := X.xe) (s := s) (A := X.A) (M := model X.prog X.w) I.ok.mod.kin hk
    (thn (ha.run pos pins s σ H _ I h) fun us s1 ⟨vs, H1, I1, rv, q⟩ => And.intro I1.kIn (by
      have hl : (us ++ []).length = ps.length := by
        rw [List.append_nil, ← rv.length]
        exact G.len _ _ _ _ q
      have bd := hb s1 us I1.kIn hl
      rw [List.append_nil] at bd
      refine wpAny_call (codeAny_mono (G.run X.A X.stack s1 H1 ⟨us, []⟩ us vs Q E0 hr hgd I1.env0 bd rv q) fun r s' hq => ?_)
      match r, hq with
      | .error _, z => exact False.elim z
      | .ok (.ret u), z => exact I1.after z
      | .ok .next, z => exact False.elim z
      | .ok .brk, z => exact False.elim z
      | .ok .cont, z => exact False.elim z)) he hpl
  exact wpAny_Call_Name_kw (ld_glob I hg hm go hdb)
theorem pe_callG0 (G : FnG X.prog X.w X.K X.mg X.base k f fd ps sp) (hr : Room k X.A) (hgd : X.A.guards = some []) (hg : Gl X x) (hm : X.mg x = some (.ref f)) (hk : PySem.W.keepIn X.K (.ref f) = true) (hb : Binds X.K fd ps [])
    (hdb : (x == ("__debug__" : Str)) = false := by decide) :
    PE X (.Call (.Name x p) [] [] pos) (fun _ H Q => sp [] H Q E0) := by
  refine ⟨fun pins s σ H Q I h => ?_⟩
  refine wpAny_Call_Name_kw (ld_glob I hg hm ?_ hdb)
  refine PySem.W.callWith_K0 I.kIn hk ?_
  have hl : (([] : List Value) ++ []).length = ps.length := G.len _ _ _ _ h
  have bd := hb s [] I.kIn hl
  refine wpAny_call (codeAny_mono (G.run X.A X.stack s H ⟨[], []⟩ [] [] Q E0 hr hgd I.env0 bd .nil h) fun r s' hq => ?_)
  match r, hq with
  | .error _, z => exact False.elim z
  | .ok (.ret u), z => exact I.after z
  | .ok .next, z => exact False.elim z
  | .ok .brk, z => exact False.elim z
  | .ok .cont, z => exact False.elim z
end
end Mir

set_option Elab.async false
set_option linter.all false
set_option maxRecDepth 100000
set_option maxHeartbeats 2000000
namespace Mir
open PySem L2

section
variable {K : PySem.W.Frag} {B : Bs} {ow : List Nat} {σ : L2.St} {H H' : Hp} {F F' : Frz} {ρ : Sto}
theorem set_get {α : Type} {l : List (Option α)} {i j : Nat} {x : Option α} {d : α} (h : (l.set i x)[j]? = some (some d)) : (j = i ∧ x = some d ∧ i < l.length) ∨ (j ≠ i ∧ l[j]? = some (some d)) := by
  by_cases e : i = j
  · subst e
    by_cases hl : i < l.length
    · rw [List.getElem?_set_self hl] at h
      exact .inl ⟨rfl, Option.some.inj h, hl⟩
    · rw [List.getElem?_eq_none (by rw [List.length_set]; omega)] at h
      cases h
  · rw [List.getElem?_set_ne e] at h
    exact .inr ⟨Ne.symm e, h⟩
/-- a slot gets a value -/
theorem Cr.set {i : Nat} {v : V} {d : Da} (c : Cr K B ow σ H F ρ) (r : Rp K H F v d) (hi : i ∉ ow) : Cr K B ow (σ.set i (some v)) H F (ρ.set i (some d)) := by
  have ne : ∀ j, j ∈ ow → i ≠ j := fun j h e => hi (e ▸ h)
  refine ⟨by rw [List.length_set, List.length_set]; exact c.len, fun j e h1 h2 => ?_, fun j e h1 h2 => ?_, fun j k p hj hk njk hdj hdk => ?_, c.fo, c.b1, c.b2, c.b3, fun p hp => ?_⟩
  · rcases set_get h1 with ⟨rfl, e1, hl⟩ | ⟨n, h1⟩
    · cases e1
      exact ⟨v, List.getElem?_set_self (by rw [c.len]; exact hl), r⟩
    · rw [List.getElem?_set_ne (Ne.symm n)]
      exact c.sl j e h1 h2
  · rw [List.getElem?_set_ne (ne j h2)] at h1 ⊢
    exact c.lo j e h1 h2
  · rw [List.getElem?_set_ne (ne j hj)] at hdj ⊢
    rw [List.getElem?_set_ne (ne k hk)] at hdk ⊢
    exact c.dj j k p hj hk njk hdj hdk
  · obtain ⟨h0, h1, h2⟩ := c.pn p hp
    rw [List.getElem?_set_ne (ne 0 h0), List.getElem?_set_ne (ne 0 h0)]
    exact ⟨h0, h1, h2⟩
/-- a slot is forgotten -/
theorem Cr.drop {i : Nat} (c : Cr K B ow σ H F ρ) (hi : i ∉ ow ∨ i ≠ 0) : Cr K B ow σ H F (ρ.set i none) := by
  have sm : ∀ j e, (ρ.set i none)[j]? = some (some e) → ρ[j]? = some (some e) := fun j e h => by
    rcases set_get h with ⟨_, z, _⟩ | ⟨_, h⟩
    · cases z
    · exact h
  refine ⟨by rw [List.length_set]; exact c.len, fun j e h1 h2 => c.sl j e (sm j e h1) h2, fun j e h1 h2 => c.lo j e (sm j e h1) h2, fun j k p hj hk n hdj hdk => c.dj j k p hj hk n (hdj.imp fun d h => sm j d h) (hdk.imp fun d h => sm k d h), c.fo, c.b1, c.b2, c.b3, fun p hp => ?_⟩
  obtain ⟨h0, h1, h2⟩ := c.pn p hp
  refine ⟨h0, h1, ?_⟩
  have n : i ≠ 0 := fun z => by
    subst z
    rcases hi with z | z
    · exact z h0
    · exact z rfl
  rw [List.getElem?_set_ne n]
  exact h2
/-- .. in both -/
theorem Cr.wipe1 {i : Nat} (c : Cr K B ow σ H F ρ) (hi : i ∉ ow) : Cr K B ow (σ.set i none) H F (ρ.set i none) := by
  have ne : ∀ j, j ∈ ow → i ≠ j := fun j h e => hi (e ▸ h)
  have sm : ∀ j e, (ρ.set i none)[j]? = some (some e) → i ≠ j ∧ ρ[j]? = some (some e) := fun j e h => by
    rcases set_get h with ⟨_, z, _⟩ | ⟨n, h⟩
    · cases z
    · exact ⟨Ne.symm n, h⟩
  refine ⟨by rw [List.length_set, List.length_set]; exact c.len, fun j e h1 h2 => ?_, fun j e h1 h2 => ?_, fun j k p hj hk n hdj hdk => ?_, c.fo, c.b1, c.b2, c.b3, fun p hp => ?_⟩
  · rw [List.getElem?_set_ne (sm j e h1).1]
    exact c.sl j e (sm j e h1).2 h2
  · rw [List.getElem?_set_ne (ne j h2)]
    exact c.lo j e (sm j e h1).2 h2
  · rw [List.getElem?_set_ne (ne j hj), List.getElem?_set_ne (ne k hk)]
    exact c.dj j k p hj hk n (hdj.imp fun d h => (sm j d h).2) (hdk.imp fun d h => (sm k d h).2)
  · obtain ⟨h0, h1, h2⟩ := c.pn p hp
    rw [List.getElem?_set_ne (ne 0 h0), List.getElem?_set_ne (ne 0 h0)]
    exact ⟨h0, h1, h2⟩
/-- a slot gets a list that nobody else holds -/
theorem Cr.setO {i : Nat} {p : Addr} {vs : List V} {ds : List Da} (c : Cr K B ow σ H F ρ) (hi : i ∈ ow) (h0 : i ≠ 0) (hp : H p = some (.lst vs)) (nf : ¬ F p) (nb : B.H p = none) (hn : ∀ j d, ρ[j]? = some (some d) → j ∈ ow → σ[j]? ≠ some (some (.ref p))) (r : RpA K H F vs ds) :
    Cr K B ow (σ.set i (some (.ref p))) H F (ρ.set i (some (.list ds))) := by
  refine ⟨by rw [List.length_set, List.length_set]; exact c.len, fun j e h1 h2 => ?_, fun j e h1 h2 => ?_, fun j k q hj hk njk hdj hdk => ?_, c.fo, c.b1, c.b2, c.b3, fun q hq => ?_⟩
  · have n : i ≠ j := fun z => h2 (z ▸ hi)
    rw [List.getElem?_set_ne n] at h1 ⊢
    exact c.sl j e h1 h2
  · rcases set_get h1 with ⟨rfl, e1, hl⟩ | ⟨n, h1⟩
    · cases e1
      exact ⟨p, ds, vs, rfl, List.getElem?_set_self (by rw [c.len]; exact hl), hp, nf, .inr nb, r⟩
    · rw [List.getElem?_set_ne (Ne.symm n)]
      exact c.lo j e h1 h2
  · intro e1 e2
    obtain ⟨dj, hdj⟩ := hdj
    obtain ⟨dk, hdk⟩ := hdk
    rcases set_get hdj with ⟨ej, _, hl⟩ | ⟨nj, gj⟩
    · subst ej
      rw [List.getElem?_set_self (by rw [c.len]; exact hl)] at e1
      cases e1
      rw [List.getElem?_set_ne njk] at e2 hdk
      exact hn k dk hdk hk e2
    · rw [List.getElem?_set_ne (Ne.symm nj)] at e1
      rcases set_get hdk with ⟨ek, _, hl⟩ | ⟨nk, gk⟩
      · subst ek
        rw [List.getElem?_set_self (by rw [c.len]; exact hl)] at e2
        cases e2
        exact hn j dj gj hj e1
      · rw [List.getElem?_set_ne (Ne.symm nk)] at e2
        exact c.dj j k q hj hk njk ⟨dj, gj⟩ ⟨dk, gk⟩ e1 e2
  · obtain ⟨g0, g1, g2⟩ := c.pn q hq
    rw [List.getElem?_set_ne h0, List.getElem?_set_ne h0]
    exact ⟨g0, g1, g2⟩
/-- the list of a slot -/
theorem Cr.own {i : Nat} {d : Da} (c : Cr K B ow σ H F ρ) (hi : i ∈ ow) (e : ρ[i]? = some (some d)) : ∃ p ds vs, d = .list ds ∧ σ[i]? = some (some (.ref p)) ∧ H p = some (.lst vs) ∧ ¬ F p ∧ (B.pen = some p ∨ B.H p = none) ∧ RpA K H F vs ds := c.lo i d e hi
/-- the heap as it is but for a list that a slot holds -/
structure But (p : Addr) (F : Frz) (H : Hp) (F' : Frz) (H' : Hp) : Prop where
  ex : ∀ a o, a ≠ p → H a = some o → H' a = some o
  kp : ∀ a, F a → F' a
  nw : ∀ a, F' a → F a ∨ H a = none
  fo : Fo F' H'
theorem But.le {p : Addr} {vs vs' : List V} (b : But p F H F' H') (h : Fo F H) (nf : ¬ F p) (hp : H p = some (.lst vs)) (hp' : H' p = some (.lst vs')) : Le F H F' H' := by
  refine ⟨fun a fa => ⟨b.kp a fa, ?_⟩, fun a n => ?_⟩
  · obtain ⟨o, e⟩ := some_of (h a fa)
    rw [e]
    exact b.ex a o (fun z => nf (z ▸ fa)) e
  · by_cases e : a = p
    · rw [e, hp']; exact fun z => nomatch z
    · obtain ⟨o, e1⟩ := some_of n
      rw [b.ex a o e e1]
      exact fun z => nomatch z
theorem But.upd {p : Addr} {vs vs' : List V} (h : Fo F H) (hp : H p = some (.lst vs)) : But p F H F (upd H p (.lst vs')) := by
  refine ⟨fun a o n e => by rw [upd_ne n]; exact e, fun _ z => z, fun _ z => .inl z, fun a fa => ?_⟩
  by_cases e : a = p
  · rw [e, upd_same]; exact fun z => nomatch z
  · rw [upd_ne e]; exact h a fa
theorem Cr.mut {i : Nat} {p : Addr} {vs vs' : List V} {ds' : List Da} {d : Da} (c : Cr K B ow σ H F ρ) (hi : i ∈ ow) (e : ρ[i]? = some (some d)) (hs : σ[i]? = some (some (.ref p))) (hp : H p = some (.lst vs)) (nf : ¬ F p) (b : But p F H F' H')
    (hp' : H' p = some (.lst vs')) (r : RpA K H' F' vs' ds') : Cr K B ow σ H' F' (ρ.set i (some (.list ds'))) := by
  have l := b.le c.fo nf hp hp'
  have nf' : ¬ F' p := fun z => by
    rcases b.nw p z with z | z
    · exact nf z
    · rw [hp] at z; cases z
  have pb : B.pen = some p ∨ B.H p = none := by
    obtain ⟨p', _, _, _, e2, _, _, e5, _⟩ := c.lo i d e hi
    rw [hs] at e2
    cases e2
    exact e5
  refine ⟨by rw [List.length_set]; exact c.len, fun j x h1 h2 => ?_, fun j x h1 h2 => ?_, fun j k q hj hk njk hdj hdk => ?_, b.fo, fun a o z => ?_, fun a z => b.kp a (c.b2 a z), fun a z => ?_, fun q hq => ?_⟩
  · have n : i ≠ j := fun z => h2 (z ▸ hi)
    rw [List.getElem?_set_ne n] at h1
    obtain ⟨v, h3, r3⟩ := c.sl j x h1 h2
    exact ⟨v, h3, r3.st l.st⟩
  · rcases set_get h1 with ⟨rfl, e1, hl⟩ | ⟨n, h1⟩
    · cases e1
      exact ⟨p, ds', vs', rfl, hs, hp', nf', pb, r⟩
    · obtain ⟨q, es, us, g1, g2, g3, g4, g5, g6⟩ := c.lo j x h1 h2
      have nq : q ≠ p := fun z => by
        subst z
        exact c.dj i j q hi h2 (Ne.symm n) ⟨d, e⟩ ⟨x, h1⟩ hs g2
      refine ⟨q, es, us, g1, g2, b.ex q _ nq g3, fun z => ?_, g5, g6.st l.st⟩
      rcases b.nw q z with z | z
      · exact g4 z
      · rw [g3] at z; cases z
  · have sm : ∀ j : Nat, (∃ y : Da, (ρ.set i (some (.list ds')) : Sto)[j]? = some (some y)) → ∃ y : Da, (ρ : Sto)[j]? = some (some y) := by
      intro j hj2
      obtain ⟨y, hy⟩ := hj2
      rcases set_get hy with ⟨ej, _, _⟩ | ⟨_, g⟩
      · exact ⟨d, by rw [ej]; exact e⟩
      · exact ⟨y, g⟩
    exact c.dj j k q hj hk njk (sm j hdj) (sm k hdk)
  · rcases c.b1 a o z with y | y
    · exact .inl y
    · by_cases ea : a = p
      · subst ea
        rcases pb with w | w
        · exact .inl w
        · rw [w] at z; cases z
      · exact .inr (b.ex a o ea y)
  · rcases b.nw a z with y | y
    · exact c.b3 a y
    · refine .inr ?_
      cases q : B.H a with
      | none => rfl
      | some o =>
        rcases c.b1 a o q with w | w
        · obtain ⟨h0, h1, x, h2⟩ := c.pn a w
          exact absurd h1 (c.away y 0 x h2 h0)
        · rw [y] at w; cases w
  · obtain ⟨g0, g1, x, g2⟩ := c.pn q hq
    refine ⟨g0, g1, ?_⟩
    by_cases e0 : i = 0
    · subst e0
      exact ⟨.list ds', List.getElem?_set_self (List.getElem?_eq_some_iff.mp g2).1⟩
    · rw [List.getElem?_set_ne e0]
      exact ⟨x, g2⟩
end

/-! ### statements -/
inductive Out where
  | nx (ρ : Sto) | rt (d : Da) (ρ : Sto) | bk (ρ : Sto) | ct (ρ : Sto)
abbrev Sm := Sto → Option Out
def Aft (K : PySem.W.Frag) (B : Bs) (ow : List Nat) (F : Frz) (H : Hp) (D : Ends) : Out → Prop
  | .nx ρ => ∀ σ' H' F', Cr K B ow σ' H' F' ρ → Le F H F' H' → D.nx σ' H'
  | .rt d ρ => ∀ v σ' H' F', Cr K B ow σ' H' F' ρ → Rp K H' F' v d → D.rt v H'
  | .bk ρ => ∀ σ' H' F', Cr K B ow σ' H' F' ρ → Le F H F' H' → D.bk σ' H'
  | .ct ρ => ∀ σ' H' F', Cr K B ow σ' H' F' ρ → Le F H F' H' → D.ct σ' H'
def tS (K : PySem.W.Frag) (ow : List Nat) (f : Sm) : TS := fun D σ H => ∃ B F ρ o, Cr K B ow σ H F ρ ∧ f ρ = some o ∧ Aft K B ow F H D o
abbrev GS (X : Cx) (ow : List Nat) (st : Stmt) (f : Sm) : Prop := PS X st (tS X.K ow f)
abbrev GB (X : Cx) (ow : List Nat) (st : List Stmt) (f : Sm) : Prop := PSs X st (tS X.K ow f)
theorem Aft.le {K : PySem.W.Frag} {B : Bs} {ow : List Nat} {F F1 : Frz} {H H1 : Hp} {D : Ends} {o : Out} (a : Aft K B ow F H D o) (l : Le F H F1 H1) : Aft K B ow F1 H1 D o := by
  cases o with
  | nx ρ => exact fun σ' H' F' c l' => a σ' H' F' c (l.trans l')
  | rt d ρ => exact a
  | bk ρ => exact fun σ' H' F' c l' => a σ' H' F' c (l.trans l')
  | ct ρ => exact fun σ' H' F' c l' => a σ' H' F' c (l.trans l')
/-- another end for what follows -/
theorem Aft.to {K : PySem.W.Frag} {B : Bs} {ow : List Nat} {F : Frz} {H : Hp} {D D' : Ends} {o : Out} (a : Aft K B ow F H D o) (h1 : ∀ ρ, o = .nx ρ → ∀ σ' H', D.nx σ' H' → D'.nx σ' H') (h2 : ∀ d ρ, o = .rt d ρ → ∀ v H', D.rt v H' → D'.rt v H')
    (h3 : ∀ ρ, o = .bk ρ → ∀ σ' H', D.bk σ' H' → D'.bk σ' H') (h4 : ∀ ρ, o = .ct ρ → ∀ σ' H', D.ct σ' H' → D'.ct σ' H') : Aft K B ow F H D' o := by
  cases o with
  | nx ρ => exact fun σ' H' F' c l => h1 ρ rfl σ' H' (a σ' H' F' c l)
  | rt d ρ => exact fun v σ' H' F' c r => h2 d ρ rfl v H' (a v σ' H' F' c r)
  | bk ρ => exact fun σ' H' F' c l => h3 ρ rfl σ' H' (a σ' H' F' c l)
  | ct ρ => exact fun σ' H' F' c l => h4 ρ rfl σ' H' (a σ' H' F' c l)
section
variable {X : Cx} {ow : List Nat} {st : Stmt} {rest body : List Stmt} {f g fb : Sm} {e : Expr} {fe : Md Da} {ft : Md Bool} {fl : Md (List Da)} {pos : Pos}
theorem ps_w {t t' : TS} (h : PS X st t) (w : ∀ D σ H, t' D σ H → t D σ H) : PS X st t' := ⟨fun pins s σ H D I q => h.run pins s σ H D I (w D σ H q)⟩
theorem pss_w {t t' : TS} (h : PSs X rest t) (w : ∀ D σ H, t' D σ H → t D σ H) : PSs X rest t' := ⟨fun pins s σ H D I q => h.run pins s σ H D I (w D σ H q)⟩
def mNx : Sm := fun ρ => some (.nx ρ)
def mSeq (f g : Sm) : Sm := fun ρ => match f ρ with
  | some (.nx ρ') => g ρ'
  | o => o
theorem b_nil : GB X ow [] mNx := pss_w pss_nil fun D σ H ⟨B, F, ρ, o, c, hf, a⟩ => by
  cases hf
  exact a σ H F c Le.refl
theorem b_cons (h1 : GS X ow st f) (h2 : GB X ow rest g) : GB X ow (st :: rest) (mSeq f g) := pss_w (pss_cons h1 h2) fun D σ H ⟨B, F, ρ, o, c, hf, a⟩ => by
  unfold mSeq at hf
  split at hf
  · rename_i ρ' h
    exact ⟨B, F, ρ, .nx ρ', c, h, fun σ' H' F' c' l => ⟨B, F', ρ', o, c', hf, a.le l⟩⟩
  · rename_i h
    refine ⟨B, F, ρ, o, c, hf, ?_⟩
    cases o with
    | nx ρ' => exact absurd hf (fun z => h ρ' z)
    | rt d ρ => exact a
    | bk ρ => exact a
    | ct ρ => exact a
theorem b_one (h : GS X ow st f) : GB X ow [st] f := pss_one h
def mNever : Sm := fun _ => none
theorem s_never : GS X ow st mNever := ps_w ps_never fun D σ H ⟨B, F, ρ, o, c, hf, a⟩ => by cases hf
theorem s_pass : GS X ow (.Pass pos) mNx := ps_w ps_pass fun D σ H ⟨B, F, ρ, o, c, hf, a⟩ => by
  cases hf
  exact a σ H F c Le.refl
def mBk : Sm := fun ρ => some (.bk ρ)
def mCt : Sm := fun ρ => some (.ct ρ)
theorem s_break : GS X ow (.Break pos) mBk := ps_w ps_break fun D σ H ⟨B, F, ρ, o, c, hf, a⟩ => by
  cases hf
  exact a σ H F c Le.refl
theorem s_continue : GS X ow (.Continue pos) mCt := ps_w ps_continue fun D σ H ⟨B, F, ρ, o, c, hf, a⟩ => by
  cases hf
  exact a σ H F c Le.refl
def mDo {α : Type} (f : Md α) (k : α → Sto → Option Out) : Sm := fun ρ => match f ρ with
  | some (a, ρ') => k a ρ'
  | none => none
theorem do_inv {α : Type} {f : Md α} {k : α → Sto → Option Out} {ρ : Sto} {o : Out} (h : mDo f k ρ = some o) : ∃ a ρ', f ρ = some (a, ρ') ∧ k a ρ' = some o := by
  unfold mDo at h
  split at h
  · exact ⟨_, _, by assumption, h⟩
  · cases h
def mDrop (f : Md Da) : Sm := mDo f fun _ ρ => some (.nx ρ)
def mRt (f : Md Da) : Sm := mDo f fun d ρ => some (.rt d ρ)
def mSet (i : Nat) (f : Md Da) : Sm := mDo f fun d ρ => some (.nx (ρ.set i (some d)))
def mSetO (i : Nat) (f : Md (List Da)) : Sm := mDo f fun ds ρ => some (.nx (ρ.set i (some (.list ds))))
def mIte (t : Md Bool) (f g : Sm) : Sm := mDo t fun b => if b = true then f else g
theorem s_expr (h : GE X ow e fe) (hs : swapsWith e none pos.line X.env = pure false := by rfl) : GS X ow (.Expr e pos) (mDrop fe) := ps_w (ps_expr h hs) fun D σ H ⟨B, F, ρ, o, c, hf, a⟩ => by
  obtain ⟨d, ρ1, h1, hf⟩ := do_inv hf
  cases hf
  exact ⟨B, F, ρ, d, ρ1, c, h1, fun v H1 F1 c1 l1 r1 => a σ H1 F1 c1 l1⟩
theorem s_ret (h : GE X ow e fe) : GS X ow (.Return (some e) pos) (mRt fe) := ps_w (ps_ret h) fun D σ H ⟨B, F, ρ, o, c, hf, a⟩ => by
  obtain ⟨d, ρ1, h1, hf⟩ := do_inv hf
  cases hf
  exact ⟨B, F, ρ, d, ρ1, c, h1, fun v H1 F1 c1 l1 r1 => a v σ H1 F1 c1 r1⟩
def mRtN : Sm := fun ρ => some (.rt .none ρ)
theorem s_retN : GS X ow (.Return none pos) mRtN := ps_w ps_retN fun D σ H ⟨B, F, ρ, o, c, hf, a⟩ => by
  cases hf
  exact a .non σ H F c .non
/-- return of a list that only this def holds -/
def mRtO (i : Nat) : Sm := fun ρ => match ρ[i]? with
  | some (some d) => some (.rt d (ρ.set i none))
  | _ => none
theorem s_retO {i : Nat} (h : PE X e (tVar i)) (hi : i ∈ ow) (h0 : i ≠ 0) : GS X ow (.Return (some e) pos) (mRtO i) := ps_w (ps_ret h) fun D σ H ⟨B, F, ρ, o, c, hf, a⟩ => by
  unfold mRtO at hf
  split at hf
  · rename_i d hd
    cases hf
    obtain ⟨p, ds, vs, rfl, e2, e3, e4, e5, e6⟩ := c.own hi hd
    have c1 := c.drop (i := i) (.inr h0)
    have np : B.pen ≠ some p := fun z => by
      obtain ⟨g0, g1, g2⟩ := c.pn p z
      exact c.dj i 0 p hi g0 h0 ⟨_, hd⟩ g2 e2 g1
    have c2 := c1.freeze e3 e4 (fun j x hj ho z => by
      rcases set_get hj with ⟨_, y, _⟩ | ⟨n, hj⟩
      · cases y
      · exact c.dj i j p hi ho (Ne.symm n) ⟨_, hd⟩ ⟨_, hj⟩ e2 z) (e5.resolve_left np)
    exact ⟨.ref p, e2, a (.ref p) σ H _ c2 (.lst (.inl ⟨.inr rfl, .inl e3⟩) (e6.st fun b fb => ⟨.inl fb, rfl⟩))⟩
  · cases hf
theorem s_set {i : Nat} {x : Str} {pos' : Pos} (hN : X.N.Nodup) (hi : X.N[i]? = some x) (hx : Loc X.env.scope x) (ho : i ∉ ow) (he : GE X ow e fe) (hs : swapsWith e (some (.Name x pos')) pos.line X.env = pure false := by rfl)
    (hf : X.fn x = true ∨ X.env.scope.names.lookup x = some .local := by first | exact .inl rfl | exact .inr rfl) : GS X ow (.Assign [.Name x pos'] e pos) (mSet i fe) := ps_w (ps_set hN hi hx he hs hf) fun D σ H ⟨B, F, ρ, o, c, hf, a⟩ => by
  obtain ⟨d, ρ1, h1, hf⟩ := do_inv hf
  cases hf
  exact ⟨B, F, ρ, d, ρ1, c, h1, fun v H1 F1 c1 l1 r1 => a _ H1 F1 (c1.set r1 ho) l1⟩
theorem setO_go {i : Nat} {te : TE} (hL : ∀ σ H Q, tL X.K ow fl σ H Q → te σ H Q) (ho : i ∈ ow) (h0 : i ≠ 0) (D : Ends) (σ : L2.St) (H : Hp) (h : tS X.K ow (mSetO i fl) D σ H) : tAsg te (gName i) D σ H := by
  obtain ⟨B, F, ρ, o, c, hf, a⟩ := h
  obtain ⟨ds, ρ1, h1, hf⟩ := do_inv hf
  cases hf
  refine hL σ H _ ⟨B, F, ρ, ds, ρ1, c, h1, fun p vs H1 F1 c1 l1 np hp nf hn r1 => ?_⟩
  exact a _ H1 F1 (c1.setO ho h0 hp nf (c.new np) hn r1) l1
theorem s_setO {i : Nat} {x : Str} {pos' : Pos} (hN : X.N.Nodup) (hi : X.N[i]? = some x) (hx : Loc X.env.scope x) (ho : i ∈ ow) (h0 : i ≠ 0) (he : GL X ow e fl) (hs : swapsWith e (some (.Name x pos')) pos.line X.env = pure false := by rfl)
    (hf : X.fn x = true ∨ X.env.scope.names.lookup x = some .local := by first | exact .inl rfl | exact .inr rfl) : GS X ow (.Assign [.Name x pos'] e pos) (mSetO i fl) := ps_w (ps_set hN hi hx he hs hf) (setO_go (fun _ _ _ h => h) ho h0)
theorem s_if {c : Expr} {a b : List Stmt} (hc : GT X ow c ft) (ha : GB X ow a f) (hb : GB X ow b g) : GS X ow (.If c a b pos) (mIte ft f g) := ps_w (ps_if hc ha hb) fun D σ H ⟨B, F, ρ, o, c, hf, a⟩ => by
  obtain ⟨k, ρ1, h1, hf⟩ := do_inv hf
  refine ⟨B, F, ρ, k, ρ1, c, h1, fun H1 F1 c1 l1 => ?_⟩
  cases k with
  | true =>
    rw [if_pos rfl] at hf
    rw [if_pos rfl]
    exact ⟨B, F1, ρ1, o, c1, hf, a.le l1⟩
  | false =>
    rw [if_neg Bool.false_ne_true] at hf
    rw [if_neg Bool.false_ne_true]
    exact ⟨B, F1, ρ1, o, c1, hf, a.le l1⟩
/-! ### lists that only this def holds -/
def ownL (i : Nat) (ρ : Sto) : Option (List Da) := match ρ[i]? with
  | some (some (.list ds)) => some ds
  | _ => none
theorem own_get {i : Nat} {ρ : Sto} {ds : List Da} (h : ownL i ρ = some ds) : ρ[i]? = some (some (.list ds)) := by
  unfold ownL at h
  split at h
  · cases h; assumption
  · cases h
theorem Cr.ownL {K : PySem.W.Frag} {B : Bs} {σ : L2.St} {H : Hp} {F : Frz} {ρ : Sto} {i : Nat} {ds : List Da} (c : Cr K B ow σ H F ρ) (hi : i ∈ ow) (h : Mir.ownL i ρ = some ds) :
    ∃ p vs, σ[i]? = some (some (.ref p)) ∧ H p = some (.lst vs) ∧ ¬ F p ∧ RpA K H F vs ds := by
  obtain ⟨p, es, vs, e1, e2, e3, e4, _, e6⟩ := c.own hi (own_get h)
  cases e1
  exact ⟨p, vs, e2, e3, e4, e6⟩
def withL {α : Type} (i : Nat) (k : List Da → Sto → Option α) : Sto → Option α := fun ρ => match Mir.ownL i ρ with
  | some ds => k ds ρ
  | none => none
theorem with_inv {α : Type} {i : Nat} {k : List Da → Sto → Option α} {ρ : Sto} {o : α} (h : withL i k ρ = some o) : ∃ ds, Mir.ownL i ρ = some ds ∧ k ds ρ = some o := by
  unfold withL at h
  split at h
  · exact ⟨_, by assumption, h⟩
  · cases h
/-- xs.append(e) -/
def mApp (i : Nat) (f : Md Da) : Sm := withL i fun _ => mDo f fun d => withL i fun ds ρ => if ds.length < 100000 then some (.nx (ρ.set i (some (.list (ds ++ [d]))))) else none
theorem s_app {i : Nat} {cl : Expr} (h : PE X cl (tBM X.K "list" rAppend (tVar i) (tCons (tE X.K ow fe) tNil))) (hi : i ∈ ow) (hs : swapsWith cl none pos.line X.env = pure false := by rfl) : GS X ow (.Expr cl pos) (mApp i fe) := ps_w (ps_expr h hs) fun D σ H ⟨B, F, ρ, o, c, hf, a⟩ => by
  obtain ⟨ds0, g0, hf⟩ := with_inv hf
  obtain ⟨d, ρ1, h1, hf⟩ := do_inv hf
  obtain ⟨ds, g1, hf⟩ := with_inv hf
  split at hf
  · rename_i hz
    cases hf
    obtain ⟨p, vs0, e1, e2, e3, e4⟩ := c.ownL hi g0
    refine ⟨.ref p, e1, .inl ⟨rfl, vs0, SqL.of e2⟩, B, F, ρ, d, ρ1, c, h1, fun v H1 F1 c1 l1 r1 => ?_⟩
    obtain ⟨p', vs, f1, f2, f3, f4⟩ := c1.ownL hi g1
    rw [e1] at f1
    cases f1
    have up := But.upd (vs' := vs ++ [v]) c1.fo f2
    have le := up.le c1.fo f3 f2 upd_same
    refine ⟨p, vs, v, rfl, rfl, f2, by rw [f4.len]; exact Evl.sz_lt hz, ?_⟩
    exact a σ _ F1 (c1.mut hi (own_get g1) e1 f2 f3 up upd_same ((f4.st le.st).app (RpA.one (r1.st le.st)))) (l1.trans le)
  · cases hf
/-- xs.pop() -/
def mPop (i : Nat) : Md Da := withL i fun ds ρ => match ds[ds.length - 1]? with
  | some d => some (d, ρ.set i (some (.list ds.dropLast)))
  | none => none
theorem RpA.dropLast {K : PySem.W.Frag} {H : Hp} {F : Frz} {vs : List V} {ds : List Da} (h : RpA K H F vs ds) : RpA K H F vs.dropLast ds.dropLast := by
  rw [List.dropLast_eq_take, List.dropLast_eq_take, h.len]
  exact h.take _
theorem e_pop {i : Nat} {cl : Expr} (h : PE X cl (tBM0 X.K "list" rPop (tVar i))) (hi : i ∈ ow) : GE X ow cl (mPop i) := pe_w h fun σ H Q ⟨B, F, ρ, d, ρ', c, hf, q⟩ => by
  obtain ⟨ds, g0, hf⟩ := with_inv hf
  split at hf
  · rename_i x hx
    cases hf
    obtain ⟨p, vs, e1, e2, e3, e4⟩ := c.ownL hi g0
    obtain ⟨v, hv, rv⟩ := e4.get hx
    have up := But.upd (vs' := vs.dropLast) c.fo e2
    have le := up.le c.fo e3 e2 upd_same
    refine ⟨.ref p, e1, .inl ⟨rfl, vs, SqL.of e2⟩, p, vs, v, rfl, rfl, e2, by rw [e4.len]; exact hv, ?_⟩
    exact q v _ F (c.mut hi (own_get g0) e1 e2 e3 up upd_same (e4.dropLast.st le.st)) le (rv.st le.st)
  · cases hf
/-- xs[i] = e -/
def mSetI (j : Nat) (fi fv : Md Da) : Sm := mDo fv fun d => withL j fun _ => mDo fi fun x => withL j fun ds ρ => match x with
  | .int k => match ixN ds.length k with
    | some n => some (.nx (ρ.set j (some (.list (ds.set n d)))))
    | none => none
  | _ => none
theorem s_setI {j : Nat} {fi : Md Da} {tgt : Expr} (h : PS X (.Assign [tgt] e pos) (tAsg (tE X.K ow fe) (gSub (tVar j) (tE X.K ow fi) rSetL))) (hj : j ∈ ow) : GS X ow (.Assign [tgt] e pos) (mSetI j fi fe) := ps_w h fun D σ H ⟨B, F, ρ, o, c, hf, a⟩ => by
  obtain ⟨d, ρ1, h1, hf⟩ := do_inv hf
  obtain ⟨ds0, g0, hf⟩ := with_inv hf
  obtain ⟨x, ρ2, h2, hf⟩ := do_inv hf
  obtain ⟨ds, g1, hf⟩ := with_inv hf
  revert hf
  split
  · rename_i k
    intro hf
    split at hf
    · rename_i n hn
      cases hf
      refine ⟨B, F, ρ, d, ρ1, c, h1, fun v H1 F1 c1 l1 r1 => ?_⟩
      obtain ⟨p0, vs0, e1, _⟩ := c1.ownL hj g0
      refine ⟨.ref p0, e1, B, F1, ρ1, _, ρ2, c1, h2, fun w H2 F2 c2 l2 r2 => ?_⟩
      obtain ⟨p, vs, f1, f2, f3, f4⟩ := c2.ownL hj g1
      rw [e1] at f1
      cases f1
      have up := But.upd (vs' := vs.set n v) c2.fo f2
      have le := up.le c2.fo f3 f2 upd_same
      refine ⟨p0, vs, k, n, rfl, r2.int_inv, f2, by rw [f4.len]; exact hn, ?_⟩
      exact a σ _ F2 (c2.mut hj (own_get g1) e1 f2 f3 up upd_same (RpA.set ((r1.st l2.st).st le.st) (f4.st le.st))) ((l1.trans l2).trans le)
    · cases hf
  · exact fun hf => nomatch hf
/-- an operand that is such a list -/
def mOp1 (g : Da → Da → Option Da) (j : Nat) (fb : Md Da) : Md Da := withL j fun _ => mBind fb fun y => withL j fun ds => mOpt (g (.list ds) y)
def mOp2 (g : Da → Da → Option Da) (fa : Md Da) (j : Nat) : Md Da := mBind fa fun x => withL j fun ds => mOpt (g x (.list ds))
def mCall1 (g : List Da → Option Da) (j : Nat) : Md Da := withL j fun ds => mOpt (g [.list ds])
theorem op1_go {r : R2} {g : Da → Da → Option Da} {j : Nat} {fb : Md Da} (hd : OpD X.K r g) (hj : j ∈ ow) (σ : L2.St) (H : Hp) (Q : VK) (h : tE X.K ow (mOp1 g j fb) σ H Q) : tOp r (tVar j) (tE X.K ow fb) σ H Q := by
  obtain ⟨B, F, ρ, d, ρ', c, hf, q⟩ := h
  obtain ⟨ds0, g0, hf⟩ := with_inv hf
  obtain ⟨y, ρ1, h1, hf⟩ := bind_inv hf
  obtain ⟨ds, g1, hf⟩ := with_inv hf
  obtain ⟨hg, rfl⟩ := opt_inv hf
  obtain ⟨p, vs0, e1, _⟩ := c.ownL hj g0
  refine ⟨.ref p, e1, B, F, ρ, y, ρ', c, h1, fun w H1 F1 c1 l1 r1 => ?_⟩
  obtain ⟨p', vs, f1, f2, f3, f4⟩ := c1.ownL hj g1
  rw [e1] at f1
  cases f1
  exact hd H1 F1 _ w _ y d c1.fo (.own f2 f4) (.rp r1) hg Q fun z H3 F3 gr r3 => q z H3 F3 (c1.grow gr) (l1.trans (gr.le c1.fo)) r3
theorem op2_go {r : R2} {g : Da → Da → Option Da} {j : Nat} {fa : Md Da} (hd : OpD X.K r g) (hj : j ∈ ow) (σ : L2.St) (H : Hp) (Q : VK) (h : tE X.K ow (mOp2 g fa j) σ H Q) : tOp r (tE X.K ow fa) (tVar j) σ H Q := by
  obtain ⟨B, F, ρ, d, ρ', c, hf, q⟩ := h
  obtain ⟨x, ρ1, h1, hf⟩ := bind_inv hf
  obtain ⟨ds, g1, hf⟩ := with_inv hf
  obtain ⟨hg, rfl⟩ := opt_inv hf
  refine ⟨B, F, ρ, x, ρ', c, h1, fun v H1 F1 c1 l1 r1 => ?_⟩
  obtain ⟨p, vs, f1, f2, f3, f4⟩ := c1.ownL hj g1
  exact ⟨.ref p, f1, hd H1 F1 v _ x _ d c1.fo (.rp r1) (.own f2 f4) hg Q fun z H3 F3 gr r3 => q z H3 F3 (c1.grow gr) (l1.trans (gr.le c1.fo)) r3⟩
variable {a b : Expr} {fa : Md Da}
theorem e_ix1 {r : R2} {g : Da → Da → Option Da} {j : Nat} {fb : Md Da} (ho : IxR X r) (hd : OpD X.K r g) (ha : PE X a (tVar j)) (hj : j ∈ ow) (hb : GE X ow b fb) (hp : PlainIx b) : GE X ow (.Subscript a b pos) (mOp1 g j fb) := pe_w (pe_ix ho ha hb hp) (op1_go hd hj)
theorem e_op1 {op : Operator} {r : R2} {g : Da → Da → Option Da} {j : Nat} {fb : Md Da} (ho : OpR X (binaryOp op) r) (hd : OpD X.K r g) (ha : PE X a (tVar j)) (hj : j ∈ ow) (hb : GE X ow b fb) : GE X ow (.BinOp a op b pos) (mOp1 g j fb) := pe_w (pe_op ho ha hb) (op1_go hd hj)
theorem e_cmp1 {op : CmpOp} {r : R2} {g : Da → Da → Option Da} {j : Nat} {fb : Md Da} (ho : OpR X (compareOp op) r) (hd : OpD X.K r g) (ha : PE X a (tVar j)) (hj : j ∈ ow) (hb : GE X ow b fb) (hm : behindInMarks op b = false) : GE X ow (.Compare a [op] [b] pos) (mOp1 g j fb) := pe_w (pe_cmpR ho ha hb hm) (op1_go hd hj)
theorem e_cmp2 {op : CmpOp} {r : R2} {g : Da → Da → Option Da} {j : Nat} (ho : OpR X (compareOp op) r) (hd : OpD X.K r g) (ha : GE X ow a fa) (hb : PE X b (tVar j)) (hj : j ∈ ow) (hm : behindInMarks op b = false) : GE X ow (.Compare a [op] [b] pos) (mOp2 g fa j) := pe_w (pe_cmpR ho ha hb hm) (op2_go hd hj)
theorem tst_go {t : TE} {f : Md Da} (h : ∀ σ H Q, tE X.K ow f σ H Q → t σ H Q) (σ : L2.St) (H : Hp) (Q : Bool → Hp → Prop) (hq : tT X.K ow (mB f) σ H Q) : tTest t σ H Q := by
  obtain ⟨B, F, ρ, k, ρ', c, hf, q⟩ := hq
  obtain ⟨x, ρ1, h1, hf⟩ := bind_inv hf
  obtain ⟨hg, rfl⟩ := opt_inv hf
  have hx := isB_inv hg
  subst hx
  refine h σ H _ ⟨B, F, ρ, .bool k, ρ', c, h1, fun v H1 F1 c1 l1 r1 => ?_⟩
  cases r1
  exact ⟨k, rfl, q H1 F1 c1 l1⟩
theorem t_cmp1 {op : CmpOp} {r : R2} {g : Da → Da → Option Da} {j : Nat} {fb : Md Da} (ho : OpR X (compareOp op) r) (hd : OpD X.K r g) (ha : PE X a (tVar j)) (hj : j ∈ ow) (hb : GE X ow b fb) (hm : behindInMarks op b = false) : GT X ow (.Compare a [op] [b] pos) (mB (mOp1 g j fb)) := pt_w (pt_cmpR ho ha hb hm) (tst_go (op1_go hd hj))
theorem t_cmp2 {op : CmpOp} {r : R2} {g : Da → Da → Option Da} {j : Nat} (ho : OpR X (compareOp op) r) (hd : OpD X.K r g) (ha : GE X ow a fa) (hb : PE X b (tVar j)) (hj : j ∈ ow) (hm : behindInMarks op b = false) : GT X ow (.Compare a [op] [b] pos) (mB (mOp2 g fa j)) := pt_w (pt_cmpR ho ha hb hm) (tst_go (op2_go hd hj))
def mTru1 (j : Nat) : Md Bool := withL j fun ds ρ => some (!ds.isEmpty, ρ)
theorem t_tru1 {j : Nat} (ha : PE X a (tVar j)) (hj : j ∈ ow) (he : ∀ whole, isTrue a X.env whole = (do let v ← whole; standAt a.pos; holding [v] (truthy v)) := by intro _; rfl) : GT X ow a (mTru1 j) := pt_w (pt_truth ha he) fun σ H Q ⟨B, F, ρ, k, ρ', c, hf, q⟩ => by
  obtain ⟨ds, g1, hf⟩ := with_inv hf
  cases hf
  obtain ⟨p, vs, f1, f2, f3, f4⟩ := c.ownL hj g1
  exact ⟨.ref p, f1, _, .inl ⟨vs, SqL.of f2, by cases f4 <;> rfl⟩, q H F c Le.refl⟩
variable {x : Str} {p : Pos} {id T : String}
theorem call1_go {r : List V → Hp → VK → Prop} {g : List Da → Option Da} {j : Nat} (hd : CallD X.K r g) (hj : j ∈ ow) (σ : L2.St) (H : Hp) (Q : VK) (h : tE X.K ow (mCall1 g j) σ H Q) : tCB r (tCons (tVar j) tNil) σ H Q := by
  obtain ⟨B, F, ρ, d, ρ', c, hf, q⟩ := h
  obtain ⟨ds, g1, hf⟩ := with_inv hf
  obtain ⟨hg, rfl⟩ := opt_inv hf
  obtain ⟨p, vs, f1, f2, f3, f4⟩ := c.ownL hj g1
  exact ⟨.ref p, f1, hd H F _ _ d c.fo (.cons (.own f2 f4) .nil) hg Q fun z H3 F3 gr r3 => q z H3 F3 (c.grow gr) (gr.le c.fo) r3⟩
theorem e_callB1 {r : List V → Hp → VK → Prop} {g : List Da → Option Da} {j : Nat} (hc : CallR X (.builtin id) r) (hd : CallD X.K r g) (hg : Gl X x) (hm : X.mg x = none) (hv : bootBuiltins x = some (.builtin id)) (ha : PE X e (tVar j)) (hj : j ∈ ow) (hn : x ≠ "__name__" := by decide) (hdb : (x == ("__debug__" : Str)) = false := by decide)
    (he : starEach [e] X.env = (false, eval e X.env) :: starEach [] X.env := by rfl) (hpl : (backTo pos (starEach [] X.env)).any (·.1) = false := by rfl) : GE X ow (.Call (.Name x p) [e] [] pos) (mCall1 g j) := pe_w (pe_callB hc hg hm hv (pa_cons ha pa_nil he) hn hdb he hpl) (call1_go hd hj)
theorem e_callTy1 {r : List V → Hp → VK → Prop} {g : List Da → Option Da} {j : Nat} (hc : CallR X (.type T) r) (hd : CallD X.K r g) (hg : Gl X x) (hm : X.mg x = none) (hv : bootBuiltins x = some (.type T)) (ha : PE X e (tVar j)) (hj : j ∈ ow) (hn : x ≠ "__name__" := by decide) (hdb : (x == ("__debug__" : Str)) = false := by decide)
    (he : starEach [e] X.env = (false, eval e X.env) :: starEach [] X.env := by rfl) (hpl : (backTo pos (starEach [] X.env)).any (·.1) = false := by rfl) : GE X ow (.Call (.Name x p) [e] [] pos) (mCall1 g j) := pe_w (pe_callTy hc hg hm hv (pa_cons ha pa_nil he) hn hdb he hpl) (call1_go hd hj)

/-! ### defs of the text -/
/-- a def that changes nothing that it is handed -/
def spP (K : PySem.W.Frag) (n : Nat) (mf : List Da → Option Da) : Sp := fun vs H Q _ => ∃ F ds d, Fo F H ∧ RpA K H F vs ds ∧ ds.length = n ∧ mf ds = some d ∧ ∀ v H' F', Gr F H F' H' → Rp K H' F' v d → Q v H'
/-- a def that changes the list that is its first argument -/
def spI (K : PySem.W.Frag) (n : Nat) (mf : List Da → List Da → Option (Da × List Da)) : Sp := fun vs H Q _ => ∃ F p pv pds us ds d pds', vs = .ref p :: us ∧ Fo F H ∧ ¬ F p ∧ H p = some (.lst pv) ∧ RpA K H F pv pds ∧ RpA K H F us ds ∧ ds.length + 1 = n ∧
  mf pds ds = some (d, pds') ∧ ∀ v H' F' pv', But p F H F' H' → H' p = some (.lst pv') → RpA K H' F' pv' pds' → Rp K H' F' v d → Q v H'
def runP (n : Nat) (f : Sm) : List Da → Option Da := fun ds => match f (ds.map some ++ List.replicate (n - ds.length) none) with
  | some (.rt d _) => some d
  | some (.nx _) => some .none
  | _ => none
def runI (n : Nat) (f : Sm) : List Da → List Da → Option (Da × List Da) := fun pds ds => match f (some (.list pds) :: (ds.map some ++ List.replicate (n - (ds.length + 1)) none)) with
  | some (.rt d ρ) => (Mir.ownL 0 ρ).map fun q => (d, q)
  | some (.nx ρ) => (Mir.ownL 0 ρ).map fun q => (.none, q)
  | _ => none
end
end Mir

set_option Elab.async false
set_option linter.all false
set_option maxRecDepth 100000
set_option maxHeartbeats 2000000
namespace Mir
open PySem PySem.Spec PyProof.Rows L2

/-! ### the start of a def -/
theorem start_len {N : List Str} {vs : List V} (h : vs.length ≤ N.length) : (start N vs).length = N.length := by
  unfold L2.start
  rw [List.length_append, List.length_map, List.length_replicate]
  omega
def sto0 (n : Nat) (ds : List Da) : Sto := ds.map some ++ List.replicate (n - ds.length) none
theorem sto0_get {n : Nat} {ds : List Da} {i : Nat} {d : Da} (h : (sto0 n ds)[i]? = some (some d)) : i < ds.length ∧ ds[i]? = some d := by
  unfold sto0 at h
  by_cases hi : i < ds.length
  · rw [List.getElem?_append_left (by rw [List.length_map]; exact hi), List.getElem?_map] at h
    refine ⟨hi, ?_⟩
    cases e : ds[i]? with
    | none => rw [e] at h; cases h
    | some x => rw [e] at h; cases h; rfl
  · rw [List.getElem?_append_right (by rw [List.length_map]; omega), List.getElem?_replicate] at h
    split at h <;> cases h
theorem start_get {N : List Str} {vs : List V} {i : Nat} {v : V} (h : vs[i]? = some v) : (start N vs)[i]? = some (some v) := by
  unfold L2.start
  have hi := (List.getElem?_eq_some_iff.mp h).1
  rw [List.getElem?_append_left (by rw [List.length_map]; exact hi), List.getElem?_map, h]
  rfl
section
variable {P : Program} {w : World} {K : PySem.W.Frag} {mg : Str → Option Value} {base : Heap} {k : Nat} {f : Addr} {fd : FuncData} {ps N : List Str} {x qual : Str} {st : Stmt} {ow : List Nat} {fb : Sm}
theorem pre_le (S : FnScope N ps (defScope st)) : ps.length ≤ N.length := by
  have h := congrArg List.length S.pre
  rw [List.length_take] at h
  omega
/-- a def that changes nothing -/
theorem fnP (T : Fun K x qual st f fd) (S : FnScope N ps (defScope st)) (how : ∀ i ∈ ow, ps.length ≤ i)
    (hb : ∀ (cdv : Value) (A : Around) (outer : List Env) (s : Shared) (H : Hp) (E : XK), Room k (A.deeper (envOfC qual (defScope st) s.heap.objs.size f cdv)) → (A.deeper (envOfC qual (defScope st) s.heap.objs.size f cdv)).guards = some [] →
      PSs (cxOf CX0 P w K mg base N qual (defScope st) f cdv A outer s H E).nox (defBody st) (tS K ow fb)) : FnG P w K mg base (k + 1) f fd ps (spP K ps.length (runP N.length fb)) := by
  have hp := pre_le S
  refine fnG T S (fun vs H Q E ⟨F, ds, d, _, r, hl, _⟩ => r.len.trans hl) fun cdv A outer s H vs Q E hr hgd ⟨F, ds, d, fo, r, hl, hm, q⟩ => ⟨_, hb cdv A outer s H E hr hgd, ?_⟩
  have hlv := r.len
  have c0 : Cr K ⟨H, F, none⟩ ow (start N vs) H F (sto0 N.length ds) := by
    refine ⟨?_, fun i d h1 h2 => ?_, fun i d h1 h2 => ?_, fun i j p hi hj _ ⟨d, hd⟩ => ?_, fo, fun a o e => .inr e, fun a e => e, fun a e => .inl e, fun p e => nomatch e⟩
    · rw [start_len (by omega)]
      unfold sto0
      rw [List.length_append, List.length_map, List.length_replicate]
      omega
    · obtain ⟨v, h3, rv⟩ := r.get (sto0_get h1).2
      exact ⟨v, start_get h3, rv⟩
    · have h3 := (sto0_get h1).1
      have h4 := how i h2
      omega
    · have h3 := (sto0_get hd).1
      have h4 := how i hi
      omega
  unfold runP at hm
  have fin : ∀ {v : V} {H' : Hp} {F' : Frz} {σ' : L2.St} {ρ : Sto}, Cr K ⟨H, F, none⟩ ow σ' H' F' ρ → Rp K H' F' v d → Q v H' := fun {v H' F' σ' ρ} c r' => by
    refine q v H' F' ⟨fun a o e => ?_, c.b2, c.b3, c.fo⟩ r'
    rcases c.b1 a o e with z | z
    · cases z
    · exact z
  split at hm
  · rename_i d' ρ e
    cases hm
    exact ⟨_, F, _, _, c0, e, fun v σ' H' F' c r' => fin c r'⟩
  · rename_i ρ e
    cases hm
    exact ⟨_, F, _, _, c0, e, fun σ' H' F' c l => fin c .non⟩
  · cases hm
/-- a def that changes the list that is its first argument -/
theorem fnI (T : Fun K x qual st f fd) (S : FnScope N ps (defScope st)) (h0 : 0 ∈ ow) (hps : 0 < ps.length) (how : ∀ i ∈ ow, i = 0 ∨ ps.length ≤ i)
    (hb : ∀ (cdv : Value) (A : Around) (outer : List Env) (s : Shared) (H : Hp) (E : XK), Room k (A.deeper (envOfC qual (defScope st) s.heap.objs.size f cdv)) → (A.deeper (envOfC qual (defScope st) s.heap.objs.size f cdv)).guards = some [] →
      PSs (cxOf CX0 P w K mg base N qual (defScope st) f cdv A outer s H E).nox (defBody st) (tS K ow fb)) : FnG P w K mg base (k + 1) f fd ps (spI K ps.length (runI N.length fb)) := by
  have hp := pre_le S
  refine fnG T S (fun vs H Q E ⟨F, p, pv, pds, us, ds, d, pds', e, _, _, _, _, r, hl, _⟩ => by rw [e, List.length_cons, r.len]; exact hl)
    fun cdv A outer s H vs Q E hr hgd ⟨F, p, pv, pds, us, ds, d, pds', ev, fo, nf, hpp, rp, r, hl, hm, q⟩ => ⟨_, hb cdv A outer s H E hr hgd, ?_⟩
  subst ev
  have hlv := r.len
  have e0 : sto0 N.length (.list pds :: ds) = some (.list pds) :: (ds.map some ++ List.replicate (N.length - (ds.length + 1)) none) := rfl
  have c0 : Cr K ⟨H, F, some p⟩ ow (start N (.ref p :: us)) H F (sto0 N.length (.list pds :: ds)) := by
    refine ⟨?_, fun i d h1 h2 => ?_, fun i d h1 h2 => ?_, fun i j q hi hj n ⟨d, hd⟩ ⟨e, he⟩ => ?_, fo, fun a o e => .inr e, fun a e => e, fun a e => .inl e, fun q e => ?_⟩
    · rw [start_len (by rw [List.length_cons]; omega)]
      unfold sto0
      rw [List.length_append, List.length_map, List.length_replicate, List.length_cons]
      omega
    · obtain ⟨h3, h4⟩ := sto0_get h1
      cases i with
      | zero => exact absurd h0 h2
      | succ i =>
        obtain ⟨v, h5, rv⟩ := r.get (i := i) (by simpa using h4)
        exact ⟨v, start_get (by simpa using h5), rv⟩
    · obtain ⟨h3, h4⟩ := sto0_get h1
      rw [List.length_cons] at h3
      rcases how i h2 with z | z
      · subst z
        cases h4
        exact ⟨p, pds, pv, rfl, start_get rfl, hpp, nf, .inl rfl, rp⟩
      · omega
    · have h3 := (sto0_get hd).1
      have h4 := (sto0_get he).1
      rw [List.length_cons] at h3 h4
      have z1 := how i hi
      have z2 := how j hj
      omega
    · cases e
      exact ⟨h0, start_get rfl, .list pds, rfl⟩
  have fin : ∀ {v : V} {H' : Hp} {F' : Frz} {σ' : L2.St} {ρ : Sto}, Mir.ownL 0 ρ = some pds' → Cr K ⟨H, F, some p⟩ ow σ' H' F' ρ → Rp K H' F' v d → Q v H' := fun {v H' F' σ' ρ} ho c r' => by
    obtain ⟨p', vs, f1, f2, f3, f4⟩ := c.ownL h0 ho
    obtain ⟨_, g1, _⟩ := c.pn p rfl
    rw [g1] at f1
    cases f1
    refine q v H' F' vs ⟨fun a o n e => ?_, c.b2, c.b3, c.fo⟩ f2 f4 r'
    rcases c.b1 a o e with z | z
    · exact absurd (Option.some.inj z).symm n
    · exact z
  unfold runI at hm
  rw [← e0] at hm
  split at hm
  · rename_i d' ρ e
    obtain ⟨y, hy, ez⟩ := Option.map_eq_some_iff.mp hm
    cases ez
    exact ⟨_, F, _, _, c0, e, fun v σ' H' F' c r' => fin hy c r'⟩
  · rename_i ρ e
    obtain ⟨y, hy, ez⟩ := Option.map_eq_some_iff.mp hm
    cases ez
    exact ⟨_, F, _, _, c0, e, fun σ' H' F' c l => fin hy c .non⟩
  · cases hm
end

/-! ### calls of such defs -/
section
variable {X : Cx} {ow : List Nat} {k : Nat} {f : Addr} {fd : FuncData} {ps : List Str} {x : Str} {p pos : Pos} {e : Expr} {es : List Expr} {fs : Md (List Da)}
def mFn (n : Nat) (g : List Da → Option Da) (fs : Md (List Da)) : Md Da := mBind fs fun ds => if ds.length = n then mOpt (g ds) else fun _ => none
theorem e_call {n : Nat} {mf : List Da → Option Da} (G : FnG X.prog X.w X.K X.mg X.base k f fd ps (spP X.K n mf)) (hr : Room k X.A) (hgd : X.A.guards = some []) (hg : Gl X x) (hm : X.mg x = some (.ref f)) (hk : PySem.W.keepIn X.K (.ref f) = true) (hb : Binds X.K fd ps [])
    (ha : GA X ow (e :: es) fs) (hdb : (x == ("__debug__" : Str)) = false := by decide) (he : starEach (e :: es) X.env = (false, eval e X.env) :: starEach es X.env := by rfl) (hpl : (backTo pos (starEach es X.env)).any (·.1) = false := by rfl) :
    GE X ow (.Call (.Name x p) (e :: es) [] pos) (mFn n mf fs) := pe_w (pe_callG G hr hgd hg hm hk hb ha hdb he hpl) fun σ H Q ⟨B, F, ρ, d, ρ', c, hf, q⟩ => by
  obtain ⟨ds, ρ1, h1, hf⟩ := bind_inv hf
  by_cases hl : ds.length = n
  · rw [if_pos hl] at hf
    obtain ⟨hg2, rfl⟩ := opt_inv hf
    refine ⟨B, F, ρ, ds, _, c, h1, fun vs H1 F1 c1 l1 r1 => ?_⟩
    exact ⟨F1, ds, d, c1.fo, r1, hl, hg2, fun v H2 F2 gr r2 => q v H2 F2 (c1.grow gr) (l1.trans (gr.le c1.fo)) r2⟩
  · rw [if_neg hl] at hf
    cases hf
theorem e_call0 {n : Nat} {mf : List Da → Option Da} (G : FnG X.prog X.w X.K X.mg X.base k f fd ps (spP X.K n mf)) (hr : Room k X.A) (hgd : X.A.guards = some []) (hg : Gl X x) (hm : X.mg x = some (.ref f)) (hk : PySem.W.keepIn X.K (.ref f) = true) (hb : Binds X.K fd ps [])
    (hdb : (x == ("__debug__" : Str)) = false := by decide) :
    GE X ow (.Call (.Name x p) [] [] pos) (mFn n mf mNil) := pe_w (pe_callG0 G hr hgd hg hm hk hb hdb) fun σ H Q ⟨B, F, ρ, d, ρ', c, hf, q⟩ => by
  obtain ⟨ds, ρ1, h1, hf⟩ := bind_inv hf
  cases h1
  by_cases hl : ([] : List Da).length = n
  · rw [if_pos hl] at hf
    obtain ⟨hg2, rfl⟩ := opt_inv hf
    exact ⟨F, [], d, c.fo, .nil, hl, hg2, fun v H2 F2 gr r2 => q v H2 F2 (c.grow gr) (gr.le c.fo) r2⟩
  · rw [if_neg hl] at hf
    cases hf
/-- .. whose first argument is a list that only this def holds -/
def mFnI (n : Nat) (j : Nat) (g : List Da → List Da → Option (Da × List Da)) (fs : Md (List Da)) : Md Da := withL j fun _ => mBind fs fun ds => withL j fun pds ρ => if ds.length + 1 = n then match g pds ds with
  | some (d, pds') => some (d, ρ.set j (some (.list pds')))
  | none => none
  else none
theorem e_callI {n : Nat} {j : Nat} {mf : List Da → List Da → Option (Da × List Da)} (G : FnG X.prog X.w X.K X.mg X.base k f fd ps (spI X.K n mf)) (hr : Room k X.A) (hgd : X.A.guards = some []) (hg : Gl X x) (hm : X.mg x = some (.ref f)) (hk : PySem.W.keepIn X.K (.ref f) = true) (hb : Binds X.K fd ps [])
    (hj : j ∈ ow) (h1 : PE X e (tVar j)) (ha : GA X ow es fs) (hdb : (x == ("__debug__" : Str)) = false := by decide) (he : starEach (e :: es) X.env = (false, eval e X.env) :: starEach es X.env := by rfl) (hpl : (backTo pos (starEach es X.env)).any (·.1) = false := by rfl) :
    GE X ow (.Call (.Name x p) (e :: es) [] pos) (mFnI n j mf fs) := pe_w (pe_callG G hr hgd hg hm hk hb (pa_cons h1 ha he) hdb he hpl) fun σ H Q ⟨B, F, ρ, d, ρ', c, hf, q⟩ => by
  obtain ⟨ds0, g0, hf⟩ := with_inv hf
  obtain ⟨ds, ρ1, h2, hf⟩ := bind_inv hf
  obtain ⟨pds, g1, hf⟩ := with_inv hf
  split at hf
  · rename_i hl
    split at hf
    · rename_i d' pds' hg2
      cases hf
      obtain ⟨p0, vs0, e1, _⟩ := c.ownL hj g0
      refine ⟨.ref p0, e1, B, F, ρ, ds, ρ1, c, h2, fun us H1 F1 c1 l1 r1 => ?_⟩
      obtain ⟨p', pv, f1, f2, f3, f4⟩ := c1.ownL hj g1
      rw [e1] at f1
      cases f1
      refine ⟨F1, p0, pv, pds, us, ds, d, pds', rfl, c1.fo, f3, f2, f4, r1, hl, hg2, fun v H2 F2 pv' bt hp2 rp2 r2 => ?_⟩
      exact q v H2 F2 (c1.mut hj (own_get g1) e1 f2 f3 bt hp2 rp2) (l1.trans (bt.le c1.fo f3 f2 hp2)) r2
    · cases hf
  · cases hf
end

/-! ### while -/
section
variable {X : Cx} {ow : List Nat} {pos : Pos} {c : Expr} {body : List Stmt} {ft : Md Bool} {fb : Sm}
/-- with at most n turns -/
def mWhile (t : Md Bool) (b : Sm) : Nat → Sm
  | 0 => fun _ => none
  | n + 1 => mDo t fun k ρ => if k = true then match b ρ with
    | some (.nx ρ') => mWhile t b n ρ'
    | some (.ct ρ') => mWhile t b n ρ'
    | some (.bk ρ') => some (.nx ρ')
    | o => o
    else some (.nx ρ)
theorem s_while (n : Nat) (hp : PassesOwn (model X.prog X.w) X.A X.env X.xe) (hc : GT X ow c ft) (hb : GB X ow body fb) : GS X ow (.While c body [] pos) (mWhile ft fb n) := ps_w (ps_while hp hc hb) fun D σ H ⟨B, F, ρ, o, c, hf, a⟩ => by
  refine ⟨fun m σ H => ∃ F ρ, Cr X.K B ow σ H F ρ ∧ mWhile ft fb m ρ = some o ∧ Aft X.K B ow F H D o, ⟨n, F, ρ, c, hf, a⟩, fun m σ H ⟨F, ρ, c, hf, a⟩ => ?_⟩
  cases m with
  | zero => cases hf
  | succ m =>
    obtain ⟨k, ρ1, h1, hf⟩ := do_inv hf
    refine ⟨B, F, ρ, k, ρ1, c, h1, fun H1 F1 c1 l1 => ?_⟩
    cases k with
    | false =>
      rw [if_neg Bool.false_ne_true] at hf
      rw [if_neg Bool.false_ne_true]
      cases hf
      exact a σ H1 F1 c1 l1
    | true =>
      rw [if_pos rfl] at hf
      rw [if_pos rfl]
      refine ⟨fun σ' H' => ∃ F' ρ', Cr X.K B ow σ' H' F' ρ' ∧ mWhile ft fb m ρ' = some o ∧ Aft X.K B ow F' H' D o, fun σ' H' h => ⟨m, Nat.lt_succ_self m, h⟩, ?_⟩
      have a1 := a.le l1
      split at hf
      · rename_i ρ' e
        exact ⟨B, F1, ρ1, _, c1, e, fun σ' H' F' c' l' => ⟨F', ρ', c', hf, a1.le l'⟩⟩
      · rename_i ρ' e
        exact ⟨B, F1, ρ1, _, c1, e, fun σ' H' F' c' l' => ⟨F', ρ', c', hf, a1.le l'⟩⟩
      · rename_i ρ' e
        cases hf
        exact ⟨B, F1, ρ1, _, c1, e, fun σ' H' F' c' l' => a1 σ' H' F' c' l'⟩
      · rename_i h1 h2 h3
        refine ⟨B, F1, ρ1, o, c1, hf, ?_⟩
        cases o with
        | nx ρ' => exact absurd hf (h1 ρ')
        | ct ρ' => exact absurd hf (h2 ρ')
        | bk ρ' => exact absurd hf (h3 ρ')
        | rt d ρ' => exact a1
end

/-! ### what is walked -/
/-- J goes over data -/
def ItD (K : PySem.W.Frag) (J : It) (ds : List Da) (F1 : Frz) (H1 : Hp) : Prop := ∀ (i : Nat) (H : Hp) (F : Frz), Stay F1 H1 F H → Fo F H → (ds.length ≤ i → J.stop i H) ∧
  ∀ d, ds[i]? = some d → J.go i H ∧ ∀ x H', J.yld i H x H' → ∃ F', Gr F H F' H' ∧ Rp K H' F' x d
def tI (K : PySem.W.Frag) (ow : List Nat) (f : Md (List Da)) : TI := fun σ H R => ∃ B F ρ ds ρ', Cr K B ow σ H F ρ ∧ f ρ = some (ds, ρ') ∧ ∀ J H' F', Cr K B ow σ H' F' ρ' → Le F H F' H' → ItD K J ds F' H' → R J H'
abbrev GI (X : Cx) (ow : List Nat) (tg iter : Expr) (f : Md (List Da)) : Prop := PI X tg iter (tI X.K ow f)
section
variable {X : Cx} {ow : List Nat} {tg iter : Expr} {fe : Md Da} {fl : Md (List Da)}
theorem pi_w {t t' : TI} (h : PI X tg iter t) (w : ∀ σ H R, t' σ H R → t σ H R) : PI X tg iter t' := ⟨fun pins s σ H R I q => h.run pins s σ H R I (w σ H R q)⟩
theorem Stay.trans {F F1 F2 : Frz} {H H1 H2 : Hp} (a : Stay F H F1 H1) (b : Stay F1 H1 F2 H2) : Stay F H F2 H2 := fun x h => ⟨(b x (a x h).1).1, (b x (a x h).1).2.trans (a x h).2⟩
def asL : Da → Option (List Da)
  | .list ds => some ds
  | _ => none
def asT : Da → Option (List Da)
  | .tuple ds => some ds
  | _ => none
theorem asL_inv {d : Da} {ds : List Da} (h : asL d = some ds) : d = .list ds := by cases d <;> first | (cases h; rfl) | cases h
theorem asT_inv {d : Da} {ds : List Da} (h : asT d = some ds) : d = .tuple ds := by cases d <;> first | (cases h; rfl) | cases h
theorem it_list {K : PySem.W.Frag} {H1 : Hp} {F1 : Frz} {a : Addr} {vs : List V} {ds : List Da} (r : RL K H1 F1 a vs) (t : RpA K H1 F1 vs ds) : ItD K (Itl K a) ds F1 H1 := fun i H F st fo => by
  have r' := r.stay st
  have t' := t.st st
  refine ⟨fun h => ⟨vs, r'.sq, by rw [t.len]; exact h⟩, fun d hd => ?_⟩
  obtain ⟨v, h1, rv⟩ := t'.get hd
  refine ⟨⟨vs, v, r'.sq, h1⟩, fun x H' ⟨e, hx⟩ => ?_⟩
  subst e
  have e2 := hx vs r'.sq
  rw [h1] at e2
  cases e2
  exact ⟨F, Gr.refl fo, rv⟩
theorem it_tup {K : PySem.W.Frag} {H1 : Hp} {F1 : Frz} {a : Addr} {vs : List V} {ds : List Da} (r : RT K H1 F1 a vs) (t : RpA K H1 F1 vs ds) : ItD K (Itt K a) ds F1 H1 := fun i H F st fo => by
  have r' := r.stay st
  have t' := t.st st
  refine ⟨fun h => ⟨vs, r'.sq, by rw [t.len]; exact h⟩, fun d hd => ?_⟩
  obtain ⟨v, h1, rv⟩ := t'.get hd
  refine ⟨⟨vs, v, r'.sq, h1⟩, fun x H' ⟨e, hx⟩ => ?_⟩
  subst e
  have e2 := hx vs r'.sq
  rw [h1] at e2
  cases e2
  exact ⟨F, Gr.refl fo, rv⟩
theorem i_list (h : GE X ow iter fe) : GI X ow tg iter (mBind fe fun d => mOpt (asL d)) := pi_w (pi_list h) fun σ H R ⟨B, F, ρ, ds, ρ', c, hf, q⟩ => by
  obtain ⟨d, ρ1, h1, hf⟩ := bind_inv hf
  obtain ⟨hg, rfl⟩ := opt_inv hf
  have e := asL_inv hg
  subst e
  refine ⟨B, F, ρ, _, _, c, h1, fun v H1 F1 c1 l1 r1 => ?_⟩
  obtain ⟨a, vs, rfl, r, t⟩ := r1.list_inv
  exact ⟨a, rfl, ⟨vs, r.sq⟩, q _ H1 F1 c1 l1 (it_list r t)⟩
theorem i_tup (h : GE X ow iter fe) : GI X ow tg iter (mBind fe fun d => mOpt (asT d)) := pi_w (pi_tup h) fun σ H R ⟨B, F, ρ, ds, ρ', c, hf, q⟩ => by
  obtain ⟨d, ρ1, h1, hf⟩ := bind_inv hf
  obtain ⟨hg, rfl⟩ := opt_inv hf
  have e := asT_inv hg
  subst e
  refine ⟨B, F, ρ, _, _, c, h1, fun v H1 F1 c1 l1 r1 => ?_⟩
  obtain ⟨a, vs, rfl, r, t⟩ := r1.tup_inv
  exact ⟨a, rfl, ⟨vs, r.sq⟩, q _ H1 F1 c1 l1 (it_tup r t)⟩
def rngD (lo n : Int) : List Da := (List.range (n - lo).toNat).map fun (i : Nat) => .int (lo + (i : Int))
theorem it_rng {K : PySem.W.Frag} {H1 : Hp} {F1 : Frz} (lo n : Int) : ItD K (Itr lo (n - lo).toNat) (rngD lo n) F1 H1 := fun i H F st fo => by
  have hl : (rngD lo n).length = (n - lo).toNat := by unfold rngD; rw [List.length_map, List.length_range]
  refine ⟨fun h => by rw [hl] at h; exact h, fun d hd => ?_⟩
  have hi : i < (n - lo).toNat := by rw [← hl]; exact (List.getElem?_eq_some_iff.mp hd).1
  have e : d = .int (lo + (i : Int)) := by
    unfold rngD at hd
    rw [List.getElem?_map, List.getElem?_range hi] at hd
    exact (Option.some.inj hd).symm
  subst e
  refine ⟨hi, fun x H' ⟨e1, e2⟩ => ?_⟩
  subst e1 e2
  exact ⟨F, Gr.refl fo, .int _⟩
def rng1 : List Da → Option (List Da)
  | [.int n] => if -100000 ≤ n ∧ n ≤ 100000 then some (rngD 0 n) else none
  | _ => none
def rng2 : List Da → Option (List Da)
  | [.int lo, .int n] => if -100000 ≤ lo ∧ lo ≤ 100000 ∧ -100000 ≤ n ∧ n ≤ 100000 then some (rngD lo n) else none
  | _ => none
theorem i_rng1 {a : Expr} {p pos : Pos} (hg : Gl X "range") (hm : X.mg "range" = none) (ha : GA X ow [a] fl) (hs : starEach [a] X.env = [(false, eval a X.env)] := by rfl) : GI X ow tg (.Call (.Name "range" p) [a] [] pos) (mBind fl fun ds => mOpt (rng1 ds)) :=
  pi_w (pi_range1 hg hm ha hs) fun σ H R ⟨B, F, ρ, ds, ρ', c, hf, q⟩ => by
  obtain ⟨es, ρ1, h1, hf⟩ := bind_inv hf
  obtain ⟨hg, rfl⟩ := opt_inv hf
  unfold rng1 at hg
  split at hg
  · rename_i n
    split at hg
    · rename_i hz
      cases hg
      refine ⟨B, F, ρ, _, _, c, h1, fun vs H1 F1 c1 l1 r1 => ?_⟩
      cases r1 with
      | cons r t =>
        cases t
        have e := r.int_inv
        subst e
        refine ⟨n, rfl, by omega, by omega, ?_⟩
        have it := it_rng (K := X.K) (H1 := H1) (F1 := F1) 0 n
        rw [Int.sub_zero] at it
        exact q _ H1 F1 c1 l1 it
    · cases hg
  · cases hg
theorem i_rng2 {a b : Expr} {p pos : Pos} (hg : Gl X "range") (hm : X.mg "range" = none) (ha : GA X ow [a, b] fl) (hs : starEach [a, b] X.env = [(false, eval a X.env), (false, eval b X.env)] := by rfl) (hs2 : starEach [b] X.env = [(false, eval b X.env)] := by rfl) :
    GI X ow tg (.Call (.Name "range" p) [a, b] [] pos) (mBind fl fun ds => mOpt (rng2 ds)) := pi_w (pi_range2 hg hm ha hs hs2) fun σ H R ⟨B, F, ρ, ds, ρ', c, hf, q⟩ => by
  obtain ⟨es, ρ1, h1, hf⟩ := bind_inv hf
  obtain ⟨hg, rfl⟩ := opt_inv hf
  unfold rng2 at hg
  split at hg
  · rename_i lo n
    split at hg
    · rename_i hz
      cases hg
      refine ⟨B, F, ρ, _, _, c, h1, fun vs H1 F1 c1 l1 r1 => ?_⟩
      cases r1 with
      | cons r t =>
        cases t with
        | cons r' t' =>
          cases t'
          have e := r.int_inv
          have e' := r'.int_inv
          subst e e'
          exact ⟨lo, n, rfl, by omega, q _ H1 F1 c1 l1 (it_rng lo n)⟩
    · cases hg
  · cases hg
end
end Mir

set_option Elab.async false
set_option linter.all false
set_option maxRecDepth 100000
set_option maxHeartbeats 2000000
namespace Mir
open PySem L2

/-! ### targets -/
def Else (ts : List Nat) (σ σ' : L2.St) : Prop := σ'.length = σ.length ∧ ∀ i, i ∉ ts → σ'[i]? = σ[i]?
theorem Else.refl (ts : List Nat) (σ : L2.St) : Else ts σ σ := ⟨rfl, fun _ _ => rfl⟩
theorem Else.trans {ts us : List Nat} {σ σ1 σ2 : L2.St} (a : Else ts σ σ1) (b : Else us σ1 σ2) : Else (ts ++ us) σ σ2 := ⟨b.1.trans a.1, fun i h => by
  rw [List.mem_append, not_or] at h
  exact (b.2 i h.2).trans (a.2 i h.1)⟩
def gOf (K : PySem.W.Frag) (ow : List Nat) (ts : List Nat) (ft : Da → Sto → Option Sto) : TG := fun v σ H Q => ∃ B F ρ d ρ', Cr K B ow σ H F ρ ∧ Rp K H F v d ∧ ft d ρ = some ρ' ∧ ∀ σ', Cr K B ow σ' H F ρ' → Else ts σ σ' → Q σ' H
def gsOf (K : PySem.W.Frag) (ow : List Nat) (ts : List Nat) (ft : List Da → Sto → Option Sto) : TGs := fun vs σ H Q => ∃ B F ρ ds ρ', Cr K B ow σ H F ρ ∧ RpA K H F vs ds ∧ ft ds ρ = some ρ' ∧ ∀ σ', Cr K B ow σ' H F ρ' → Else ts σ σ' → Q σ' H
abbrev GG (X : Cx) (ow : List Nat) (tg : Expr) (ts : List Nat) (ft : Da → Sto → Option Sto) : Prop := PG X tg (gOf X.K ow ts ft)
abbrev GGs (X : Cx) (ow : List Nat) (tgs : List Expr) (ts : List Nat) (ft : List Da → Sto → Option Sto) : Prop := PGs X tgs (gsOf X.K ow ts ft)
def fName (i : Nat) : Da → Sto → Option Sto := fun d ρ => some (ρ.set i (some d))
def fNil : List Da → Sto → Option Sto
  | [], ρ => some ρ
  | _, _ => none
def fCons (f : Da → Sto → Option Sto) (g : List Da → Sto → Option Sto) : List Da → Sto → Option Sto
  | d :: ds, ρ => match f d ρ with
    | some ρ' => g ds ρ'
    | none => none
  | [], _ => none
def fTup (n : Nat) (g : List Da → Sto → Option Sto) : Da → Sto → Option Sto := fun d ρ => match asT d with
  | some ds => if ds.length = n then g ds ρ else none
  | none => none
section
variable {X : Cx} {ow : List Nat} {e : Expr} {es : List Expr} {pos : Pos} {ts us : List Nat} {f : Da → Sto → Option Sto} {g : List Da → Sto → Option Sto}
theorem pg_w {t t' : TG} (h : PG X e t) (w : ∀ v σ H Q, t' v σ H Q → t v σ H Q) : PG X e t' := ⟨fun pins s σ H v u Q I r q => h.run pins s σ H v u Q I r (w v σ H Q q)⟩
theorem pgs_w {t t' : TGs} (h : PGs X es t) (w : ∀ v σ H Q, t' v σ H Q → t v σ H Q) : PGs X es t' := ⟨fun pins s σ H v u Q I r q => h.run pins s σ H v u Q I r (w v σ H Q q)⟩
theorem g_name {i : Nat} (h : PG X e (gName i)) (hi : i ∉ ow) : GG X ow e [i] (fName i) := pg_w h fun v σ H Q ⟨B, F, ρ, d, ρ', c, r, hf, q⟩ => by
  cases hf
  refine q _ (c.set r hi) ⟨List.length_set .., fun j hj => ?_⟩
  rw [List.mem_singleton] at hj
  exact List.getElem?_set_ne (Ne.symm hj)
theorem gs_nil : GGs X ow [] [] fNil := pgs_w pgs_nil fun v σ H Q ⟨B, F, ρ, d, ρ', c, r, hf, q⟩ => by
  cases r with
  | nil =>
    cases hf
    exact ⟨rfl, q σ c (Else.refl _ _)⟩
  | cons a b => cases hf
theorem gs_cons (h1 : GG X ow e ts f) (h2 : GGs X ow es us g) (hs : (assignEach (e :: es) X.env).map (·.2) = assign e X.env :: (assignEach es X.env).map (·.2) := by rfl) : GGs X ow (e :: es) (ts ++ us) (fCons f g) := pgs_w (pgs_cons h1 h2 hs) fun v σ H Q ⟨B, F, ρ, d, ρ', c, r, hf, q⟩ => by
  cases r with
  | nil => cases hf
  | cons a b =>
    simp only [fCons] at hf
    split at hf
    · rename_i ρ1 h
      exact ⟨_, _, rfl, B, F, ρ, _, ρ1, c, a, h, fun σ1 c1 e1 => ⟨B, F, ρ1, _, ρ', c1, b, hf, fun σ2 c2 e2 => q σ2 c2 (e1.trans e2)⟩⟩
    · cases hf
theorem g_tup {k n : Nat} (hc : X.calm = true) (h : GGs X ow es ts g) (hn : (assignEach es X.env).length = n := by rfl) (hst : (assignEach es X.env).findIdx? (·.1) = none := by rfl) : GG X ow (.Tuple es k pos) ts (fTup n g) := pg_w (pg_tup hc h hn hst) fun v σ H Q ⟨B, F, ρ, d, ρ', c, r, hf, q⟩ => by
  unfold fTup at hf
  split at hf
  · rename_i ds hd
    have e := asT_inv hd
    subst e
    split at hf
    · rename_i hl
      obtain ⟨a, vs, e1, rt, t⟩ := r.tup_inv
      exact ⟨a, vs, e1, rt.sq, t.len.trans hl, B, F, ρ, _, ρ', c, t, hf, q⟩
    · cases hf
  · cases hf

/-! ### for -/
def mForL (ft : Da → Sto → Option Sto) (b : Sm) : List Da → Sm
  | [], ρ => some (.nx ρ)
  | d :: ds, ρ => match ft d ρ with
    | none => none
    | some ρ1 => match b ρ1 with
      | some (.nx ρ') => mForL ft b ds ρ'
      | some (.ct ρ') => mForL ft b ds ρ'
      | some (.bk ρ') => some (.nx ρ')
      | o => o
def mFor (fi : Md (List Da)) (ft : Da → Sto → Option Sto) (b : Sm) : Sm := mDo fi fun ds ρ => mForL ft b ds ρ
theorem drop_get {α : Type} {l : List α} {i : Nat} (h : i < l.length) : ∃ d, l[i]? = some d ∧ l.drop i = d :: l.drop (i + 1) := ⟨l[i], List.getElem?_eq_getElem h, List.drop_eq_getElem_cons h⟩
theorem s_for {tg iter : Expr} {body : List Stmt} {fi : Md (List Da)} {fb : Sm} (hp : PassesOwn (model X.prog X.w) X.A X.env X.xe) (hc : X.calm = true) (hi : GI X ow tg iter fi) (hg : GG X ow tg ts f) (hb : GB X ow body fb)
    (hs : ∀ x, foldedSetIterable iter X.env x = pure x := by intro _; rfl) : GS X ow (.For tg iter body [] pos) (mFor fi f fb) := ps_w (ps_for hp hc hi hg hb hs) fun D σ H ⟨B, F, ρ, o, c, hf, a⟩ => by
  obtain ⟨ds, ρ1, h1, hf⟩ := do_inv hf
  refine ⟨B, F, ρ, ds, ρ1, c, h1, fun J H1 F1 c1 l1 it => ?_⟩
  refine ⟨fun i m σ H => ∃ F ρ, Cr X.K B ow σ H F ρ ∧ Le F1 H1 F H ∧ m = ds.length - i ∧ i ≤ ds.length ∧ mForL f fb (ds.drop i) ρ = some o ∧ Aft X.K B ow F H D o, ⟨ds.length, F1, ρ1, c1, Le.refl, rfl, Nat.zero_le _, hf, a.le l1⟩, ?_⟩
  rintro i m σ H ⟨F, ρ, c, l, rfl, hi, hf, a⟩
  obtain ⟨stop, go⟩ := it i H F l.st c.fo
  by_cases hlt : i < ds.length
  · obtain ⟨d, hd, hdr⟩ := drop_get hlt
    rw [hdr] at hf
    obtain ⟨g1, g2⟩ := go d hd
    refine .inr ⟨g1, fun σ' H' => ∃ F' ρ', Cr X.K B ow σ' H' F' ρ' ∧ Le F1 H1 F' H' ∧ mForL f fb (ds.drop (i + 1)) ρ' = some o ∧ Aft X.K B ow F' H' D o, fun σ' H' ⟨F', ρ', c', l', hf', a'⟩ => ⟨ds.length - (i + 1), by omega, F', ρ', c', l', rfl, hlt, hf', a'⟩, fun x H' y => ?_⟩
    obtain ⟨F', gr, rx⟩ := g2 x H' y
    have c' := c.grow gr
    have l' := l.trans (gr.le c.fo)
    have a' := a.le (gr.le c.fo)
    unfold mForL at hf
    split at hf
    · cases hf
    · rename_i ρ2 ht
      refine ⟨B, F', ρ, d, ρ2, c', rx, ht, fun σ2 c2 _ => ?_⟩
      split at hf
      · rename_i ρ3 e
        exact ⟨B, F', ρ2, _, c2, e, fun σ3 H3 F3 c3 l3 => ⟨F3, ρ3, c3, l'.trans l3, hf, a'.le l3⟩⟩
      · rename_i ρ3 e
        exact ⟨B, F', ρ2, _, c2, e, fun σ3 H3 F3 c3 l3 => ⟨F3, ρ3, c3, l'.trans l3, hf, a'.le l3⟩⟩
      · rename_i ρ3 e
        cases hf
        exact ⟨B, F', ρ2, _, c2, e, fun σ3 H3 F3 c3 l3 => a' σ3 H3 F3 c3 l3⟩
      · rename_i h1 h2 h3
        refine ⟨B, F', ρ2, o, c2, hf, ?_⟩
        cases o with
        | nx ρ' => exact absurd hf (h1 ρ')
        | ct ρ' => exact absurd hf (h2 ρ')
        | bk ρ' => exact absurd hf (h3 ρ')
        | rt d ρ' => exact a'
  · have e : i = ds.length := by omega
    subst e
    rw [List.drop_length] at hf
    cases hf
    exact .inl ⟨stop (Nat.le_refl _), a σ H F c Le.refl⟩
/-- a, b = .. -/
def mAsg (fe : Md Da) (ft : Da → Sto → Option Sto) : Sm := mDo fe fun d ρ => match ft d ρ with
  | some ρ' => some (.nx ρ')
  | none => none
theorem s_asg {tg : Expr} {fe : Md Da} (he : GE X ow e fe) (hg : GG X ow tg ts f) (hs : swapsWithSole [tg] e pos.line X.env = pure false := by rfl) (hw : swappedStores [tg] e X.env = pure none := by rfl)
    (h1 : (assignEach [tg] X.env).map (·.2) = [assign tg X.env] := by rfl) : GS X ow (.Assign [tg] e pos) (mAsg fe f) := ps_w (ps_asg he hg hs hw h1) fun D σ H ⟨B, F, ρ, o, c, hf, a⟩ => by
  obtain ⟨d, ρ1, h1, hf⟩ := do_inv hf
  split at hf
  · rename_i ρ2 h2
    cases hf
    exact ⟨B, F, ρ, d, ρ1, c, h1, fun v H1 F1 c1 l1 r1 => ⟨B, F1, ρ1, d, ρ2, c1, r1, h2, fun σ' c' _ => a σ' H1 F1 c' l1⟩⟩
  · cases hf
/-- x, y = a, b with plain local names -/
def mPar (i j : Nat) (fs : Md (List Da)) : Sm := mDo fs fun ds ρ => match ds with
  | [x, y] => some (.nx ((ρ.set i (some x)).set j (some y)))
  | _ => none
theorem s_par {i j : Nat} {fs : Md (List Da)} {a b tgt : Expr} {st : Stmt} (h : PS X st (tPar i j (tA X.K ow fs))) (hi : i ∉ ow) (hj : j ∉ ow) : GS X ow st (mPar i j fs) := ps_w h fun D σ H ⟨B, F, ρ, o, c, hf, a⟩ => by
  obtain ⟨ds, ρ1, h1, hf⟩ := do_inv hf
  split at hf
  · cases hf
    refine ⟨B, F, ρ, _, ρ1, c, h1, fun vs H1 F1 c1 l1 r1 => ?_⟩
    cases r1 with
    | cons r t =>
      cases t with
      | cons r' t' =>
        cases t'
        exact ⟨_, _, rfl, a _ H1 F1 ((c1.set r hi).set r' hj) l1⟩
  · cases hf

/-! ### comprehensions -/
def wipeS (ρ : Sto) : List Nat → Sto
  | [] => ρ
  | v :: vs => (wipeS ρ vs).set v none
theorem wipe_get (σ : L2.St) : ∀ (vs : List Nat) (i : Nat), (wipe σ vs)[i]? = if i ∈ vs then (if i < σ.length then some none else none) else σ[i]?
  | [], i => by simp [wipe]
  | v :: vs, i => by
    unfold wipe
    by_cases e : v = i
    · subst e
      rw [if_pos List.mem_cons_self]
      by_cases h : v < σ.length
      · rw [if_pos h, List.getElem?_set_self (by rw [wipe_length]; exact h)]
      · rw [if_neg h, List.getElem?_eq_none (by rw [List.length_set, wipe_length]; omega)]
    · rw [List.getElem?_set_ne e, wipe_get σ vs i]
      by_cases h : i ∈ vs
      · rw [if_pos h, if_pos (List.mem_cons_of_mem _ h)]
      · rw [if_neg h, if_neg (fun z => (List.mem_cons.mp z).elim (fun z => e z.symm) h)]
theorem Else.wipe {ts vs : List Nat} {σ σ' : L2.St} (h : Else ts (wipe σ vs) σ') (hs : ∀ t ∈ ts, t ∈ vs) : wipe σ' vs = wipe σ vs := by
  apply List.ext_getElem?
  intro i
  rw [wipe_get, wipe_get, h.1, wipe_length]
  by_cases hi : i ∈ vs
  · rw [if_pos hi, if_pos hi]
  · rw [if_neg hi, if_neg hi, h.2 i (fun z => hi (hs i z)), wipe_get, if_neg hi]
theorem Cr.wipe {K : PySem.W.Frag} {B : Bs} {σ : L2.St} {H : Hp} {F : Frz} {ρ : Sto} (c : Cr K B ow σ H F ρ) : ∀ vs : List Nat, (∀ v ∈ vs, v ∉ ow) → Cr K B ow (L2.wipe σ vs) H F (wipeS ρ vs)
  | [], _ => c
  | v :: vs, h => (Cr.wipe c vs fun u hu => h u (List.mem_cons_of_mem _ hu)).wipe1 (h v List.mem_cons_self)
/-- the store behind a comprehension: its own names as before it -/
def restS (ρ0 ρ : Sto) : List Nat → Sto
  | [] => ρ
  | v :: vs => (restS ρ0 ρ vs).set v ((ρ0[v]?).getD none)
theorem restS_len (ρ0 ρ : Sto) : ∀ vs : List Nat, (restS ρ0 ρ vs).length = ρ.length
  | [] => rfl
  | v :: vs => by unfold restS; rw [List.length_set, restS_len ρ0 ρ vs]
theorem restS_get (ρ0 ρ : Sto) : ∀ (vs : List Nat) (i : Nat) (d : Da), (restS ρ0 ρ vs)[i]? = some (some d) → (i ∈ vs ∧ ρ0[i]? = some (some d)) ∨ (i ∉ vs ∧ ρ[i]? = some (some d))
  | [], i, d, h => .inr ⟨by simp, h⟩
  | v :: vs, i, d, h => by
    unfold restS at h
    rcases set_get h with ⟨e, e2, _⟩ | ⟨n, h⟩
    · subst e
      refine .inl ⟨List.mem_cons_self, ?_⟩
      cases q : ρ0[i]? with
      | none => rw [q] at e2; cases e2
      | some x => rw [q] at e2; exact congrArg some e2
    · rcases restS_get ρ0 ρ vs i d h with ⟨h1, h2⟩ | ⟨h1, h2⟩
      · exact .inl ⟨List.mem_cons_of_mem _ h1, h2⟩
      · exact .inr ⟨fun z => (List.mem_cons.mp z).elim n h1, h2⟩
theorem restS_ow (ρ0 ρ : Sto) : ∀ (vs : List Nat) (i : Nat), i ∉ vs → (restS ρ0 ρ vs)[i]? = ρ[i]?
  | [], _, _ => rfl
  | v :: vs, i, h => by
    unfold restS
    rw [List.getElem?_set_ne (fun z => h (by rw [z]; exact List.mem_cons_self)), restS_ow ρ0 ρ vs i fun z => h (List.mem_cons_of_mem _ z)]
/-- the block's store and the store ahead of it, together -/
theorem Cr.rest {K : PySem.W.Frag} {B : Bs} {σ : L2.St} {H H' : Hp} {F F' : Frz} {ρ ρ' : Sto} {vs : List Nat} (c : Cr K B ow σ H F ρ) (c' : Cr K B ow (L2.wipe σ vs) H' F' ρ') (l : Le F H F' H') (hv : ∀ v ∈ vs, v ∉ ow) : Cr K B ow σ H' F' (restS ρ ρ' vs) := by
  have look : ∀ i v, (L2.wipe σ vs)[i]? = some (some v) → i ∉ vs ∧ σ[i]? = some (some v) := fun i v h => by
    have h2 := wipe_some h
    exact ⟨h2.2, h2.1⟩
  refine ⟨by rw [restS_len, ← c'.len, wipe_length], fun i d h1 h2 => ?_, fun i d h1 h2 => ?_, fun i j p hi hj n ⟨d, hd⟩ ⟨e, he⟩ e1 => ?_, c'.fo, c'.b1, c'.b2, c'.b3, fun p hp => ?_⟩
  · rcases restS_get ρ ρ' vs i d h1 with ⟨_, g⟩ | ⟨_, g⟩
    · obtain ⟨v, e, r⟩ := c.sl i d g h2
      exact ⟨v, e, r.st l.st⟩
    · obtain ⟨v, e, r⟩ := c'.sl i d g h2
      exact ⟨v, (look i v e).2, r⟩
  · rcases restS_get ρ ρ' vs i d h1 with ⟨g0, _⟩ | ⟨_, g⟩
    · exact absurd h2 (hv i g0)
    · obtain ⟨p, ds, us, f1, f2, f3⟩ := c'.lo i d g h2
      exact ⟨p, ds, us, f1, (look i _ f2).2, f3⟩
  · have gd : (ρ')[i]? = some (some d) := by
      rcases restS_get ρ ρ' vs i d hd with ⟨g0, _⟩ | ⟨_, g⟩
      · exact absurd hi (hv i g0)
      · exact g
    have ge : (ρ')[j]? = some (some e) := by
      rcases restS_get ρ ρ' vs j e he with ⟨g0, _⟩ | ⟨_, g⟩
      · exact absurd hj (hv j g0)
      · exact g
    have ni : i ∉ vs := fun z => hv i z hi
    have nj : j ∉ vs := fun z => hv j z hj
    have q := c'.dj i j p hi hj n ⟨d, gd⟩ ⟨e, ge⟩
    rw [wipe_get, wipe_get, if_neg ni, if_neg nj] at q
    exact q e1
  · obtain ⟨h0, h1, d, h2⟩ := c'.pn p hp
    refine ⟨h0, (look 0 _ h1).2, d, ?_⟩
    rw [restS_ow ρ ρ' vs 0 fun z => hv 0 z h0]
    exact h2
/-- one more thing that stays -/
def Bs.plus (B : Bs) (a : Addr) (o : HO) : Bs := ⟨upd B.H a o, B.F, B.pen⟩
theorem Cr.plus {K : PySem.W.Frag} {B : Bs} {σ : L2.St} {H : Hp} {F : Frz} {ρ : Sto} {a : Addr} {o : HO} (c : Cr K B ow σ H F ρ) (ha : H a = some o) (nf : ¬ F a) (nb : B.H a = none) (hn : ∀ i d, ρ[i]? = some (some d) → i ∈ ow → σ[i]? ≠ some (some (.ref a))) : Cr K (B.plus a o) ow σ H F ρ := by
  refine ⟨c.len, c.sl, fun i d h1 h2 => ?_, c.dj, c.fo, fun b u e => ?_, c.b2, fun b fb => ?_, c.pn⟩
  · obtain ⟨p, ds, vs, e1, e2, e3, e4, e5, e6⟩ := c.lo i d h1 h2
    refine ⟨p, ds, vs, e1, e2, e3, e4, ?_, e6⟩
    rcases e5 with z | z
    · exact .inl z
    · refine .inr ?_
      show upd B.H a o p = none
      rw [upd_ne (fun z2 => hn i d h1 h2 (by rw [z2] at e2; exact e2))]
      exact z
  · have e' : upd B.H a o b = some u := e
    by_cases q : b = a
    · subst q
      rw [upd_same] at e'
      cases e'
      exact .inr ha
    · rw [upd_ne q] at e'
      exact c.b1 b u e'
  · rcases c.b3 b fb with z | z
    · exact .inl z
    · refine .inr ?_
      show upd B.H a o b = none
      rw [upd_ne (fun z2 => nf (by rw [z2] at fb; exact fb))]
      exact z
theorem Cr.minus {K : PySem.W.Frag} {B : Bs} {σ : L2.St} {H : Hp} {F : Frz} {ρ : Sto} {a : Addr} {o : HO} (c : Cr K (B.plus a o) ow σ H F ρ) (nb : B.H a = none) (np : B.pen ≠ some a) (nf : ¬ B.F a) :
    Cr K B ow σ H F ρ ∧ H a = some o ∧ ¬ F a ∧ ∀ i d, ρ[i]? = some (some d) → i ∈ ow → σ[i]? ≠ some (some (.ref a)) := by
  have sub : ∀ b, upd B.H a o b = none → B.H b = none ∧ b ≠ a := fun b e => by
    by_cases q : b = a
    · rw [q, upd_same] at e; cases e
    · rw [upd_ne q] at e; exact ⟨e, q⟩
  refine ⟨⟨c.len, c.sl, fun i d h1 h2 => ?_, c.dj, c.fo, fun b u e => ?_, c.b2, fun b fb => ?_, c.pn⟩, ?_, fun z => ?_, fun i d h1 h2 z => ?_⟩
  · obtain ⟨p, ds, vs, e1, e2, e3, e4, e5, e6⟩ := c.lo i d h1 h2
    exact ⟨p, ds, vs, e1, e2, e3, e4, e5.imp id fun z => (sub p z).1, e6⟩
  · refine c.b1 b u ?_
    show upd B.H a o b = some u
    rw [upd_ne (fun z => by rw [z, nb] at e; cases e)]
    exact e
  · exact (c.b3 b fb).imp id fun z => (sub b z).1
  · rcases c.b1 a o upd_same with z | z
    · exact absurd z np
    · exact z
  · rcases c.b3 a z with y | y
    · exact nf y
    · exact (sub a y).2 rfl
  · obtain ⟨p, ds, vs, e1, e2, e3, e4, e5, e6⟩ := c.lo i d h1 h2
    rw [e2] at z
    cases z
    rcases e5 with y | y
    · exact np y
    · exact (sub a y).2 rfl
/-- the turns of a comprehension -/
def mLcL (ft : Da → Sto → Option Sto) (tt : Md Bool) (te : Md Da) (vs : List Nat) : List Da → List Da → Sto → Option (List Da × Sto)
  | [], acc, ρ => some (acc, ρ)
  | d :: ds, acc, ρ => match ft d ρ with
    | none => none
    | some ρ1 => match tt ρ1 with
      | none => none
      | some (false, ρ2) => mLcL ft tt te vs ds acc (wipeS ρ2 vs)
      | some (true, ρ2) => match te ρ2 with
        | none => none
        | some (y, ρ3) => if acc.length < 100000 then mLcL ft tt te vs ds (acc ++ [y]) (wipeS ρ3 vs) else none
def mLc (fi : Md (List Da)) (ft : Da → Sto → Option Sto) (tt : Md Bool) (te : Md Da) (vs : List Nat) : Md (List Da) := mBind fi fun ds ρ => match mLcL ft tt te vs ds [] (wipeS ρ vs) with
  | some (out, ρ') => some (out, restS ρ ρ' vs)
  | none => none
theorem lc_go {fi : Md (List Da)} {tt : Md Bool} {te : Md Da} {vs : List Nat} (hv : ∀ v ∈ vs, v ∉ ow) (hts : ∀ t ∈ ts, t ∈ vs) (σ : L2.St) (H : Hp) (Q : VK) (h : tL X.K ow (mLc fi f tt te vs) σ H Q) :
    tLc (tI X.K ow fi) (gOf X.K ow ts f) (tT X.K ow tt) (tE X.K ow te) vs σ H Q := by
  obtain ⟨B, F, ρ, out, ρ', c, hf, q⟩ := h
  obtain ⟨ds, ρ1, h1, hf⟩ := bind_inv hf
  refine ⟨B, F, ρ, ds, ρ1, c, h1, fun J H1 F1 c1 l1 it => ?_⟩
  intro D nD
  split at hf
  case h_2 => cases hf
  rename_i out' ρe he
  cases hf
  have nb := c1.new nD
  have nF : ¬ F1 D := fun z => c1.fo D z nD
  have nBF : ¬ B.F D := fun z => nF (c1.b2 D z)
  have np : B.pen ≠ some D := fun z => by
    obtain ⟨g0, g1, d, g2⟩ := c1.pn D z
    exact c1.away nD 0 d g2 g0 g1
  have g0 := Gr.new0 (o := .lst []) c1.fo nD
  have cw := (c1.grow g0).wipe vs hv
  refine ⟨fun i m H => ∃ F ρ acc vacc, Cr X.K B ow (wipe σ vs) H F ρ ∧ Le F1 H1 F H ∧ m = ds.length - i ∧ i ≤ ds.length ∧ H D = some (.lst vacc) ∧ ¬ F D ∧ (∀ i d, ρ[i]? = some (some d) → i ∈ ow → (wipe σ vs)[i]? ≠ some (some (.ref D))) ∧ RpA X.K H F vacc acc ∧
      mLcL f tt te vs (ds.drop i) acc ρ = some (out, ρe), ⟨ds.length, F1, wipeS ρ1 vs, [], [], cw, g0.le c1.fo, rfl, Nat.zero_le _, upd_same, nF, ?_, .nil, he⟩, ?_⟩
  · intro i d hd hi
    exact (c1.wipe vs hv).away nD i d hd hi
  rintro i m H2 ⟨F2, ρ2, acc, vacc, c2, l2, rfl, hi, hD, nf2, hn2, ra, hg⟩
  obtain ⟨stop, go⟩ := it i H2 F2 l2.st c2.fo
  by_cases hlt : i < ds.length
  · obtain ⟨d, hd, hdr⟩ := drop_get hlt
    rw [hdr] at hg
    obtain ⟨go1, go2⟩ := go d hd
    refine .inr ⟨go1, fun H' => ∃ F' ρ' acc' vacc', Cr X.K B ow (wipe σ vs) H' F' ρ' ∧ Le F1 H1 F' H' ∧ H' D = some (.lst vacc') ∧ ¬ F' D ∧ (∀ i d, ρ'[i]? = some (some d) → i ∈ ow → (wipe σ vs)[i]? ≠ some (some (.ref D))) ∧ RpA X.K H' F' vacc' acc' ∧
        mLcL f tt te vs (ds.drop (i + 1)) acc' ρ' = some (out, ρe), fun H' ⟨F', ρ', acc', vacc', c', l', a1, a2, a3, a4, a5⟩ => ⟨ds.length - (i + 1), by omega, F', ρ', acc', vacc', c', l', rfl, hlt, a1, a2, a3, a4, a5⟩, fun x H' y => ?_⟩
    obtain ⟨F3, gr, rx⟩ := go2 x H' y
    have nf3 : ¬ F3 D := fun z => by
      rcases gr.nw D z with z | z
      · exact nf2 z
      · rw [hD] at z; cases z
    have c3 := (c2.grow gr).plus (gr.ex D _ hD) nf3 nb hn2
    have ra3 := ra.st (gr.stay c2.fo)
    have l3 := l2.trans (gr.le c2.fo)
    unfold mLcL at hg
    split at hg
    · cases hg
    · rename_i ρ3 ht
      refine ⟨B.plus D (.lst vacc), F3, ρ2, d, ρ3, c3, rx, ht, fun σ4 c4 el => ?_⟩
      have ew := el.wipe hts
      refine ⟨ew, ?_⟩
      split at hg
      · cases hg
      · rename_i ρ5 h5
        refine ⟨_, F3, ρ3, false, ρ5, c4, h5, fun H5 F5 c5 l5 => ?_⟩
        refine iteF ?_
        obtain ⟨c6, a1, a2, a3⟩ := (c5.wipe vs hv).minus nb np nBF
        rw [ew] at c6 a3
        exact ⟨F5, _, acc, vacc, c6, l3.trans l5, a1, a2, a3, ra3.st l5.st, hg⟩
      · rename_i ρ5 h5
        refine ⟨_, F3, ρ3, true, ρ5, c4, h5, fun H5 F5 c5 l5 => ?_⟩
        refine iteT ?_
        split at hg
        · cases hg
        · rename_i y ρ6 h6
          split at hg
          · rename_i hz
            refine ⟨_, F5, ρ5, y, ρ6, c5, h6, fun v H6 F6 c6 l6 r6 => ?_⟩
            obtain ⟨c7, a1, a2, a3⟩ := (c6.wipe vs hv).minus nb np nBF
            rw [ew] at c7 a3
            have l56 := l3.trans (l5.trans l6)
            have ra6 := ra3.st (l5.trans l6).st
            refine ⟨vacc, a1, by rw [ra6.len]; exact Evl.sz_lt hz, ?_⟩
            have up := But.upd (vs' := vacc ++ [v]) c7.fo a1
            have le := up.le c7.fo a2 a1 upd_same
            have c8 : Cr X.K B ow (wipe σ vs) (upd H6 D (.lst (vacc ++ [v]))) F6 (wipeS ρ6 vs) := by
              refine ⟨c7.len, fun i d h1 h2 => ?_, fun i d h1 h2 => ?_, c7.dj, up.fo, fun a o e => ?_, c7.b2, c7.b3, c7.pn⟩
              · obtain ⟨u, e, r⟩ := c7.sl i d h1 h2
                exact ⟨u, e, r.st le.st⟩
              · obtain ⟨p, es, us, e1, e2, e3, e4, e5, e6⟩ := c7.lo i d h1 h2
                exact ⟨p, es, us, e1, e2, up.ex p _ (fun z => a3 i d h1 h2 (z ▸ e2)) e3, e4, e5, e6.st le.st⟩
              · rcases c7.b1 a o e with z | z
                · exact .inl z
                · exact .inr (up.ex a o (fun w => by rw [w, nb] at e; cases e) z)
            exact ⟨F6, _, acc ++ [y], vacc ++ [v], c8, l56.trans le, upd_same, a2, a3, (ra6.st le.st).app (RpA.one (r6.st le.st)), hg⟩
          · cases hg
  · have e : i = ds.length := by omega
    subst e
    rw [List.drop_length] at hg
    cases hg
    refine .inl ⟨stop (Nat.le_refl _), ?_⟩
    have cr := c1.rest c2 l2 hv
    refine q D vacc H2 F2 cr (l1.trans l2) (l1.back nD) hD nf2 (fun i d h1 h2 => ?_) ra
    have ni : i ∉ vs := fun z => hv i z h2
    have q2 := hn2 i d (by rw [restS_ow _ _ _ _ ni] at h1; exact h1) h2
    rw [wipe_get, if_neg ni] at q2
    exact q2
theorem l_lc {elt tg iter : Expr} {ifs : List Expr} {scope : Scope} {own : List (Str × Nat)} {fi : Md (List Da)} {tt : Md Bool} {te : Md Da} (hc : X.calm = true) (hN : X.N.Nodup) (hi : GI X ow tg iter fi) (ok : BlkOk X.N X.env.scope scope own)
    (hg : ∀ (s : Shared) (H : Hp) (C : Addr) (cl : List (Str × Addr)) (fp : List Addr), GG (X.blk s H scope (compEnvC scope cl C X.env) fp) ow tg ts f) (ht : ∀ (s : Shared) (H : Hp) (C : Addr) (cl : List (Str × Addr)) (fp : List Addr), PTs (X.blk s H scope (compEnvC scope cl C X.env) fp) ifs (tT X.K ow tt))
    (he : ∀ (s : Shared) (H : Hp) (C : Addr) (cl : List (Str × Addr)) (fp : List Addr), GE (X.blk s H scope (compEnvC scope cl C X.env) fp) ow elt te) (hv : ∀ v ∈ own.map (·.2), v ∉ ow) (hts : ∀ t ∈ ts, t ∈ own.map (·.2)) (hs : ∀ x, foldedSetIterable iter X.env x = pure x := by intro _; rfl) :
    GL X ow (.ListComp elt [⟨tg, iter, ifs, 0⟩] scope pos) (mLc fi f tt te (own.map (·.2))) := pe_w (pe_lc hc hN hi ok hg ht he hs) (lc_go hv hts)
theorem ts_nil : PTs X [] (tT X.K ow (mRet true)) := ⟨fun pins s σ H Q I ⟨B, F, ρ, b, ρ', c, hf, q⟩ => pts_nil.run pins s σ H Q I (by
  cases hf
  exact q H F c Le.refl)⟩
theorem ts_one {c : Expr} {ft : Md Bool} (h : GT X ow c ft) : PTs X [c] (tT X.K ow ft) := pts_one h
end
end Mir

set_option Elab.async false
set_option linter.all false
set_option maxRecDepth 100000
set_option maxHeartbeats 2000000
namespace Mir
open PySem L2

/-! ### list + list -/
def rCatL (K : PySem.W.Frag) : R2 := fun x y H Q => ∃ l b xs zs, x = .ref l ∧ y = .ref b ∧ SqL K H l xs ∧ SqL K H b zs ∧ xs.length + zs.length ≤ sizeLine ∧ ∀ p, H p = none → Q (.ref p) (upd H p (.lst (xs ++ zs)))
theorem op_catL {X : Cx} : OpR X (binaryOp .Add) (rCatL X.K) := by
  intro pins s σ H x y v u Q I rx ry h
  obtain ⟨l, b, xs, zs, e1, e2, hx, hz, hsz, q⟩ := h
  subst e1 e2
  cases rx
  cases ry
  obtain ⟨i1, r1, ⟨⟨c1, d1, da1, sl1⟩, n1, o1, k1, m1, g1⟩, _⟩ := I.list hx
  obtain ⟨i2, r2, ⟨⟨c2, d2, da2, sl2⟩, n2, o2, k2, m2, g2⟩, _⟩ := I.list hz
  simp only at k1 g1 k2 g2
  subst k1 g1 k2 g2
  have hl : i1.toArray.size + i2.toArray.size ≤ sizeLine := by
    rw [List.size_toArray, List.size_toArray, ← r1.length, ← r2.length]
    exact hsz
  have mt := PyProof.Rows.list_addW l b i1.toArray i2.toArray n1 n2 d1 d2 sl1 sl2 hl
  refine concat_meets ⟨_, o1, rfl⟩ ⟨_, o2, rfl⟩ noFill_list_add seq_list_add PySem.F.slot_list_add PySem.F.entry_list_add (PySem.F.args_list_add_2 _ _) mt ⟨o1, o2, ?_⟩
  rw [show i1.toArray ++ i2.toArray = (i1 ++ i2).toArray by simp]
  have hn : H s.heap.objs.size = none := I.hok.fresh (Nat.le_refl _)
  exact ⟨.ref _, _, I.lnew (t' := s.toks) (r1.append r2) (by rw [List.length_append]; exact hsz), rfl, q _ hn⟩

/-! ### what the operations give -/
def gAdd : Da → Da → Option Da
  | .int i, .int j => some (.int (i + j))
  | .str x, .str y => if x.length + y.length ≤ 100000 then some (.str (x ++ y)) else none
  | .list xs, .list ys => if xs.length + ys.length ≤ 100000 then some (.list (xs ++ ys)) else none
  | .tuple xs, .tuple ys => if xs.length + ys.length ≤ 100000 then some (.tuple (xs ++ ys)) else none
  | _, _ => none
def rAdd (K : PySem.W.Frag) : R2 := fun x y H Q => (rI0 (fun i j => .int (i + j)) x y H Q ∨ (∃ i j, x = V.str i ∧ y = V.str j ∧ i.length + j.length ≤ sizeLine ∧ Q (V.str (i ++ j)) H)) ∨ (rCatL K x y H Q ∨ rCatA K x y H Q)
theorem or_add {X : Cx} : OpR X (binaryOp .Add) (rAdd X.K) := (op_add.or op_add_str).or (op_catL.or op_catA)
theorem od_add {K : PySem.W.Frag} : OpD K (rAdd K) gAdd := fun H F x y dx dy d fo hx hy hg Q q => by
  unfold gAdd at hg
  split at hg
  · cases hg
    exact .inl (.inl ⟨_, _, hx.int_inv, hy.int_inv, q _ H F (Gr.refl fo) (.int _)⟩)
  · split at hg
    · rename_i hz
      cases hg
      exact .inl (.inr ⟨_, _, hx.str_inv, hy.str_inv, Evl.sz_of hz, q _ H F (Gr.refl fo) (.str _)⟩)
    · cases hg
  · split at hg
    · rename_i hz
      cases hg
      obtain ⟨a, vs, e1, h1, t1⟩ := hx.list_inv
      obtain ⟨b, ws, e2, h2, t2⟩ := hy.list_inv
      refine .inr (.inl ⟨a, b, vs, ws, e1, e2, h1, h2, by rw [t1.len, t2.len]; exact Evl.sz_of hz, fun p np => ?_⟩)
      exact q _ _ _ (Gr.new fo np) (rp_newL fo np (t1.app t2))
    · cases hg
  · split at hg
    · rename_i hz
      cases hg
      obtain ⟨a, vs, e1, h1, t1, r1⟩ := hx.tup_inv
      obtain ⟨b, ws, e2, h2, t2, r2⟩ := hy.tup_inv
      refine .inr (.inr ⟨a, b, vs, ws, e1, e2, h1, h2, by rw [t1.len, t2.len]; exact Evl.sz_of hz, fun e => ?_, fun _ e => ?_, fun _ _ p np => ?_⟩)
      · subst e
        cases t1
        rw [e2] at r2
        exact q _ H F (Gr.refl fo) r2
      · subst e
        cases t2
        rw [List.append_nil] at q
        rw [← e1]
        exact q _ H F (Gr.refl fo) r1
      · exact q _ _ _ (Gr.new fo np) (rp_newT fo np (t1.app t2))
    · cases hg
  · cases hg
def gI (C : Int → Int → Bool) (g : Int → Int → Int) : Da → Da → Option Da
  | .int i, .int j => if C i j = true then some (.int (g i j)) else none
  | _, _ => none
theorem od_i {K : PySem.W.Frag} {Cp : Int → Int → Prop} {C : Int → Int → Bool} {g : Int → Int → Int} (hC : ∀ i j, C i j = true → Cp i j) : OpD K (rI Cp fun i j => .int (g i j)) (gI C g) := fun H F x y dx dy d fo hx hy hg Q q => by
  unfold gI at hg
  split at hg
  · split at hg
    · rename_i hz
      cases hg
      exact ⟨_, _, hx.int_inv, hy.int_inv, hC _ _ hz, q _ H F (Gr.refl fo) (.int _)⟩
    · cases hg
  · cases hg
theorem od_i0 {K : PySem.W.Frag} {g : Int → Int → Int} : OpD K (rI0 fun i j => .int (g i j)) (gI (fun _ _ => true) g) := fun H F x y dx dy d fo hx hy hg Q q => by
  unfold gI at hg
  split at hg
  · rw [if_pos rfl] at hg
    cases hg
    exact ⟨_, _, hx.int_inv, hy.int_inv, q _ H F (Gr.refl fo) (.int _)⟩
  · cases hg
abbrev gSub : Da → Da → Option Da := gI (fun _ _ => true) (· - ·)
def cMod (i j : Int) : Bool := decide (0 < j)
abbrev gMod : Da → Da → Option Da := gI cMod (· % ·)
def cDiv (i j : Int) : Bool := decide (0 < j ∧ j.natAbs.log2 < 9000)
abbrev gDiv : Da → Da → Option Da := gI cDiv (· / ·)
def cMul (i j : Int) : Bool := decide (i.natAbs.log2 + j.natAbs.log2 < 1000000)
def cPow (i j : Int) : Bool := decide (0 ≤ j ∧ j ≤ 1000000 ∧ i.natAbs < 2 ^ 64)
abbrev gPow : Da → Da → Option Da := gI cPow (fun i j => i ^ j.toNat)
theorem od_sub {K : PySem.W.Frag} : OpD K (rI0 fun i j => .int (i - j)) Mir.gSub := od_i0
theorem od_mod {K : PySem.W.Frag} : OpD K (rI (fun _ j => 0 < j) fun i j => .int (i % j)) gMod := od_i fun i j h => by unfold cMod at h; exact of_decide_eq_true h
theorem od_div {K : PySem.W.Frag} : OpD K (rI CDivW fun i j => .int (i / j)) gDiv := od_i fun i j h => by unfold cDiv at h; exact of_decide_eq_true (p := 0 < j ∧ j.natAbs.log2 < 9000) h
theorem od_pow {K : PySem.W.Frag} : OpD K (rI CPow fun i j => .int (i ^ j.toNat)) gPow := od_i fun i j h => by unfold cPow at h; exact of_decide_eq_true (p := 0 ≤ j ∧ j ≤ 1000000 ∧ i.natAbs < 2 ^ 64) h
/-- tuple * 1 is the tuple -/
theorem tuple_mul1 (l : Addr) (items : Array Value) (n : Nat) (dd : Option Addr) (sl : Array (Option Value)) (u : Tok) :
    Meets (Builtin.«tuple.__mul__» ⟨[.ref l, .int 1 u], []⟩) (fun _ R s => s.heap.get? l = some { cls := .type "tuple", dict := dd, data := .seq items n, slots := sl } ∧ R (.ok (.ret (Value.ref l))) s) := .of_wp fun prog w A R s h => by
  obtain ⟨hp, g, d, tk, os⟩ := s
  obtain ⟨hl, h⟩ := h
  have f1 := AutoSeq1.idx_int
  have c1 : (items.isEmpty || (1 : Int) == 1) = true := by simp
  wp_walk using wpAny_loadPart' hl
  repeat (first
    | (refine wpAny_ite_false (decide_eq_false (by decide)) ?_; wp_walk using wpAny_loadPart' hl)
    | (refine wpAny_ite_true (decide_eq_true c1) ?_; wp_walk using wpAny_loadPart' hl))
  exact ⟨_, rfl, h⟩
def rRep1 (K : PySem.W.Frag) : R2 := fun x y H Q => ∃ l xs, x = .ref l ∧ y = .int 1 ∧ SqT K H l xs ∧ Q (.ref l) H
theorem op_rep1 {X : Cx} : OpR X (binaryOp .Mult) (rRep1 X.K) := by
  intro pins s σ H x y v u Q I rx ry h
  obtain ⟨l, xs, e1, e2, hT, q⟩ := h
  subst e1 e2
  cases rx
  obtain ⟨t, et⟩ := ry
  subst et
  obtain ⟨its, r, ⟨⟨c, dd, da, sl⟩, ho, hc, n, hd⟩, _⟩ := I.tuple hT
  simp only at hc hd
  subst hc hd
  refine wpAny_binaryOp_repeat_ref (T := "tuple") (U := "int") (by decide) ⟨_, ho, rfl⟩ (fun s' => typeIs_int s' 1 t) noFill_tuple_mul PySem.F.fills_int_mul PySem.F.slot_int_rmul repeat_tuple PySem.F.slot_int_index.lookup ?_
  refine call_meets PySem.F.slot_int_rmul (typeIs_int s 1 t) PySem.F.entry_int_rmul (PySem.F.args_int_rmul_2 _ _) (int_rmul_tuple 1 t l its.toArray n dd sl) ⟨ho, rfl, ⟨_, ho, rfl⟩, ?_⟩
  exact call_meets PySem.F.slot_tuple_mul ⟨_, ho, rfl⟩ PySem.F.entry_tuple_mul (PySem.F.args_tuple_mul_2 _ _) (tuple_mul1 l its.toArray n dd sl t) ⟨ho, V.ref l, H, I, rfl, q⟩
def repD (n : Nat) (xs : List Da) : List Da := (List.replicate n xs).flatten
theorem RpA.rep {K : PySem.W.Frag} {H : Hp} {F : Frz} {vs : List V} {ds : List Da} (h : RpA K H F vs ds) : ∀ n : Nat, RpA K H F (List.replicate n vs).flatten (repD n ds)
  | 0 => .nil
  | n + 1 => by
    unfold repD
    simp only [List.replicate_succ, List.flatten_cons]
    exact h.app (RpA.rep h n)
def gMul : Da → Da → Option Da
  | .int i, .int j => if cMul i j = true then some (.int (i * j)) else none
  | .tuple xs, .int k => if k = 1 then some (.tuple xs) else if xs ≠ [] ∧ 2 ≤ k ∧ k ≤ 1000 ∧ xs.length ≤ 1000 then some (.tuple (repD k.toNat xs)) else none
  | _, _ => none
def rMul (K : PySem.W.Frag) : R2 := fun x y H Q => rI CMulW (fun i j => .int (i * j)) x y H Q ∨ (rRep1 K x y H Q ∨ rRepT K x y H Q)
theorem or_mul {X : Cx} : OpR X (binaryOp .Mult) (rMul X.K) := op_mulW.or (op_rep1.or op_repT)
theorem od_mul {K : PySem.W.Frag} : OpD K (rMul K) Mir.gMul := fun H F x y dx dy d fo hx hy hg Q q => by
  unfold Mir.gMul at hg
  split at hg
  · split at hg
    · rename_i hz
      cases hg
      unfold cMul at hz
      exact .inl ⟨_, _, hx.int_inv, hy.int_inv, of_decide_eq_true (p := _ < 1000000) hz, q _ H F (Gr.refl fo) (.int _)⟩
    · cases hg
  · obtain ⟨a, vs, e1, h1, t1, r1⟩ := hx.tup_inv
    split at hg
    · rename_i hk
      cases hg
      have e2 := hy.int_inv
      rw [hk] at e2
      refine .inr (.inl ⟨a, vs, e1, e2, h1, ?_⟩)
      rw [← e1]
      exact q _ H F (Gr.refl fo) r1
    · split at hg
      · rename_i hz
        cases hg
        refine .inr (.inr ⟨a, _, vs, e1, hy.int_inv, h1, fun e => ?_, hz.2.1, hz.2.2.1, by rw [t1.len]; exact hz.2.2.2, fun p np => ?_⟩)
        · subst e
          cases t1
          exact hz.1 rfl
        · exact q _ _ _ (Gr.new fo np) (rp_newT fo np (t1.rep _))
      · cases hg
  · cases hg
/-! ### comparisons -/
def gC (g : Int → Int → Bool) : Da → Da → Option Da
  | .int i, .int j => some (.bool (g i j))
  | _, _ => none
theorem od_c {K : PySem.W.Frag} {g : Int → Int → Bool} : OpD K (rI0 fun i j => .bl (g i j)) (gC g) := fun H F x y dx dy d fo hx hy hg Q q => by
  unfold gC at hg
  split at hg
  · cases hg
    exact ⟨_, _, hx.int_inv, hy.int_inv, q _ H F (Gr.refl fo) (.bl _)⟩
  · cases hg
abbrev gLt : Da → Da → Option Da := gC fun i j => decide (i < j)
abbrev gLe : Da → Da → Option Da := gC fun i j => decide (i ≤ j)
abbrev gGt : Da → Da → Option Da := gC fun i j => decide (j < i)
abbrev gGe : Da → Da → Option Da := gC fun i j => decide (j ≤ i)
/-- == -/
def gEqB : Da → Da → Option Bool
  | .int i, .int j => some (decide (i = j))
  | .str i, .str j => some (decide (i = j))
  | .bool i, .bool j => some (decide (i = j))
  | .none, .none => some true
  | .str _, .none => some false
  | .none, .str _ => some false
  | x, y => if SeqAt.shaped x = true ∧ SeqAt.shaped y = true then some (PyData.eqv x y) else none
def gEq (x y : Da) : Option Da := (gEqB x y).map .bool
def gNe (x y : Da) : Option Da := (gEqB x y).map fun b => .bool (!b)
def rEqA (K : PySem.W.Frag) : R2 := fun x y H Q => rEq x y H Q ∨ rEqD K x y H Q
def rNeA (K : PySem.W.Frag) : R2 := fun x y H Q => rNe x y H Q ∨ rNeD K x y H Q
theorem or_eq {X : Cx} (hu : X.A.units + 64 < cLine) : OpR X (compareOp .Eq) (rEqA X.K) := op_eq.or (op_eqD hu)
theorem or_ne {X : Cx} (hu : X.A.units + 64 < cLine) : OpR X (compareOp .NotEq) (rNeA X.K) := op_ne.or (op_neD hu)
theorem eqB_go {K : PySem.W.Frag} {H : Hp} {F : Frz} {x y : V} {dx dy : Da} {b : Bool} (hx : Bw K H F x dx) (hy : Bw K H F y dy) (hg : gEqB dx dy = some b) :
    (scal x y = true ∧ decide (x = y) = b) ∨ (Dp K H x dx ∧ Dp K H y dy ∧ SeqAt.shaped dx = true ∧ SeqAt.shaped dy = true ∧ PyData.eqv dx dy = b) := by
  unfold gEqB at hg
  split at hg
  · cases hg
    rw [hx.int_inv, hy.int_inv]
    exact .inl ⟨rfl, by simp⟩
  · cases hg
    rw [hx.str_inv, hy.str_inv]
    exact .inl ⟨rfl, by simp⟩
  · cases hg
    rw [hx.bool_inv, hy.bool_inv]
    exact .inl ⟨rfl, by simp⟩
  · cases hg
    rw [hx.none_inv, hy.none_inv]
    exact .inl ⟨rfl, by simp⟩
  · cases hg
    rw [hx.str_inv, hy.none_inv]
    exact .inl ⟨rfl, by simp⟩
  · cases hg
    rw [hx.none_inv, hy.str_inv]
    exact .inl ⟨rfl, by simp⟩
  · split at hg
    · rename_i hz
      cases hg
      exact .inr ⟨hx.dp, hy.dp, hz.1, hz.2, rfl⟩
    · cases hg
theorem od_eq {K : PySem.W.Frag} : OpD K (rEqA K) gEq := fun H F x y dx dy d fo hx hy hg Q q => by
  obtain ⟨b, hb, e⟩ := Option.map_eq_some_iff.mp hg
  subst e
  rcases eqB_go hx hy hb with ⟨h1, h2⟩ | ⟨h1, h2, h3, h4, h5⟩
  · exact .inl ⟨h1, by rw [h2]; exact q _ H F (Gr.refl fo) (.bl _)⟩
  · exact .inr ⟨dx, dy, h1, h2, h3, h4, by rw [h5]; exact q _ H F (Gr.refl fo) (.bl _)⟩
theorem od_ne {K : PySem.W.Frag} : OpD K (rNeA K) gNe := fun H F x y dx dy d fo hx hy hg Q q => by
  obtain ⟨b, hb, e⟩ := Option.map_eq_some_iff.mp hg
  subst e
  rcases eqB_go hx hy hb with ⟨h1, h2⟩ | ⟨h1, h2, h3, h4, h5⟩
  · exact .inl ⟨h1, by rw [h2]; exact q _ H F (Gr.refl fo) (.bl _)⟩
  · exact .inr ⟨dx, dy, h1, h2, h3, h4, by rw [h5]; exact q _ H F (Gr.refl fo) (.bl _)⟩
/-- in -/
def flat : Da → Bool
  | .none => true
  | .bool _ => true
  | .int _ => true
  | .str _ => true
  | _ => false
def eqF : Da → Da → Bool
  | .none, .none => true
  | .bool a, .bool b => a == b
  | .bool a, .int b => (if a then 1 else 0) == b
  | .int a, .bool b => a == (if b then 1 else 0)
  | .int a, .int b => a == b
  | .str a, .str b => a == b
  | _, _ => false
def items : Da → Option (List Da)
  | .list ds => some ds
  | .tuple ds => some ds
  | _ => none
def inF (x : Da) (ds : List Da) : Bool := ds.any fun y => eqF y x
def gInB (x c : Da) : Option Bool := match items c with
  | some ds => if flat x = true ∧ ds.all flat = true then some (inF x ds) else match c with
    | .list ds => if SeqAt.shaped x = true ∧ SeqAt.shaped (.list ds) = true then some (ds.any fun z => PyData.eqv z x) else none
    | _ => none
  | none => none
def gIn (x c : Da) : Option Da := (gInB x c).map .bool
def gNotIn (x c : Da) : Option Da := (gInB x c).map fun b => .bool (!b)
theorem flat_rp {K : PySem.W.Frag} {H : Hp} {F : Frz} {v : V} {d : Da} (h : Rp K H F v d) (f : flat d = true) : flatV v = true := by
  cases h <;> first | rfl | cases f
theorem flat_bw {K : PySem.W.Frag} {H : Hp} {F : Frz} {v : V} {d : Da} (h : Bw K H F v d) (f : flat d = true) : flatV v = true := by
  cases h with
  | rp h => exact flat_rp h f
  | own h r => cases f
theorem eq_flat {K : PySem.W.Frag} {H : Hp} {F : Frz} {v u : V} {d e : Da} (h : Rp K H F v d) (h2 : Bw K H F u e) (f2 : flat e = true) (f : flat d = true) : eqV v u = eqF d e := by
  cases h2 with
  | own _ _ => cases f2
  | rp h2 =>
    cases h <;> first | (cases f; done) | (cases h2 <;> first | (cases f2; done) | rfl)
theorem all_flat {K : PySem.W.Frag} {H : Hp} {F : Frz} : ∀ {vs : List V} {ds : List Da}, RpA K H F vs ds → ds.all flat = true → vs.all flatV = true
  | _, _, .nil, _ => rfl
  | _, _, .cons a t, h => by
    rw [List.all_cons, Bool.and_eq_true] at h
    rw [List.all_cons, flat_rp a h.1, all_flat t h.2] <;> rfl
theorem in_flat {K : PySem.W.Frag} {H : Hp} {F : Frz} {u : V} {e : Da} (h2 : Bw K H F u e) (f2 : flat e = true) : ∀ {vs : List V} {ds : List Da}, RpA K H F vs ds → ds.all flat = true → inV u vs = inF e ds
  | _, _, .nil, _ => rfl
  | _, _, .cons a t, h => by
    rw [List.all_cons, Bool.and_eq_true] at h
    have e1 := eq_flat a h2 f2 h.1
    have e2 := in_flat h2 f2 t h.2
    show (eqV _ u || inV u _) = (eqF _ e || inF e _)
    rw [e1, e2]
def rInA (K : PySem.W.Frag) : R2 := fun x y H Q => rIn K false x y H Q ∨ rInD K x y H Q
def rNotInA (K : PySem.W.Frag) : R2 := fun x y H Q => rIn K true x y H Q ∨ rNotInD K x y H Q
theorem or_in {X : Cx} (hu : X.A.units + 65 < cLine) : OpR X (compareOp .In) (rInA X.K) := op_in_seq.or (op_inD hu)
theorem or_notIn {X : Cx} (hu : X.A.units + 65 < cLine) : OpR X (compareOp .NotIn) (rNotInA X.K) := op_notIn_seq.or (op_notInD hu)
theorem inB_go {K : PySem.W.Frag} {H : Hp} {F : Frz} {x y : V} {dx dy : Da} {b : Bool} (hx : Bw K H F x dx) (hy : Bw K H F y dy) (hg : gInB dx dy = some b) :
    (∃ p xs, y = .ref p ∧ (SqL K H p xs ∨ SqT K H p xs) ∧ flatV x = true ∧ xs.all flatV = true ∧ inV x xs = b) ∨ (∃ ds, Dp K H x dx ∧ Dp K H y (.list ds) ∧ SeqAt.shaped dx = true ∧ SeqAt.shaped (.list ds) = true ∧ (ds.any fun z => PyData.eqv z dx) = b) := by
  unfold gInB at hg
  split at hg
  · rename_i ds hi
    split at hg
    · rename_i hf
      cases hg
      have key : ∃ p xs, y = .ref p ∧ (SqL K H p xs ∨ SqT K H p xs) ∧ RpA K H F xs ds := by
        cases dy with
        | list es =>
          cases hi
          obtain ⟨a, vs, e, s, t⟩ := hy.list_inv
          exact ⟨a, vs, e, .inl s, t⟩
        | tuple es =>
          cases hi
          obtain ⟨a, vs, e, s, t, _⟩ := hy.tup_inv
          exact ⟨a, vs, e, .inr s, t⟩
        | _ => cases hi
      obtain ⟨p, xs, e, s, t⟩ := key
      exact .inl ⟨p, xs, e, s, flat_bw hx hf.1, all_flat t hf.2, in_flat hx hf.1 t hf.2⟩
    · split at hg
      · split at hg
        · rename_i hz
          cases hg
          exact .inr ⟨_, hx.dp, hy.dp, hz.1, hz.2, rfl⟩
        · cases hg
      · cases hg
  · cases hg
theorem od_in {K : PySem.W.Frag} : OpD K (rInA K) gIn := fun H F x y dx dy d fo hx hy hg Q q => by
  obtain ⟨b, hb, e⟩ := Option.map_eq_some_iff.mp hg
  subst e
  rcases inB_go hx hy hb with ⟨p, xs, h1, h2, h3, h4, h5⟩ | ⟨ds, h1, h2, h3, h4, h5⟩
  · refine .inl ⟨p, xs, h1, h2, h3, h4, ?_⟩
    rw [if_neg Bool.false_ne_true, h5]
    exact q _ H F (Gr.refl fo) (.bl _)
  · exact .inr ⟨dx, ds, h1, h2, h3, h4, by rw [h5]; exact q _ H F (Gr.refl fo) (.bl _)⟩
theorem od_notIn {K : PySem.W.Frag} : OpD K (rNotInA K) gNotIn := fun H F x y dx dy d fo hx hy hg Q q => by
  obtain ⟨b, hb, e⟩ := Option.map_eq_some_iff.mp hg
  subst e
  rcases inB_go hx hy hb with ⟨p, xs, h1, h2, h3, h4, h5⟩ | ⟨ds, h1, h2, h3, h4, h5⟩
  · refine .inl ⟨p, xs, h1, h2, h3, h4, ?_⟩
    rw [if_pos rfl, h5]
    exact q _ H F (Gr.refl fo) (.bl _)
  · exact .inr ⟨dx, ds, h1, h2, h3, h4, by rw [h5]; exact q _ H F (Gr.refl fo) (.bl _)⟩
/-- is, is not of bools and None -/
def isNo : Da → Bool
  | .none => true
  | _ => false
def gIsB : Da → Da → Option Bool
  | .bool a, .bool b => some (decide (a = b))
  | x, .none => some (isNo x)
  | _, _ => none
def gIs (x y : Da) : Option Da := (gIsB x y).map .bool
def gIsNot (x y : Da) : Option Da := (gIsB x y).map fun b => .bool (!b)
def rIsA : R2 := fun x y H Q => rIsB x y H Q ∨ rIsN x y H Q
def rIsNotA : R2 := fun x y H Q => rNotB x y H Q ∨ rNotN x y H Q
theorem or_is {X : Cx} : OpR X (compareOp .Is) rIsA := op_isBl.or op_isN1
theorem or_isNot {X : Cx} : OpR X (compareOp .IsNot) rIsNotA := op_notBl.or op_notN1
theorem isN_go {K : PySem.W.Frag} {H : Hp} {F : Frz} {x : V} {dx : Da} (hx : Bw K H F x dx) : decide (x = .non) = isNo dx := by
  cases hx with
  | own h r => rfl
  | rp h => cases h <;> rfl
theorem od_is {K : PySem.W.Frag} : OpD K rIsA gIs := fun H F x y dx dy d fo hx hy hg Q q => by
  obtain ⟨b, hb, e⟩ := Option.map_eq_some_iff.mp hg
  subst e
  unfold gIsB at hb
  split at hb
  · cases hb
    exact .inl ⟨_, _, hx.bool_inv, hy.bool_inv, q _ H F (Gr.refl fo) (.bl _)⟩
  · cases hb
    exact .inr ⟨hy.none_inv, by rw [isN_go hx]; exact q _ H F (Gr.refl fo) (.bl _)⟩
  · cases hb
theorem od_isNot {K : PySem.W.Frag} : OpD K rIsNotA gIsNot := fun H F x y dx dy d fo hx hy hg Q q => by
  obtain ⟨b, hb, e⟩ := Option.map_eq_some_iff.mp hg
  subst e
  unfold gIsB at hb
  split at hb
  · cases hb
    exact .inl ⟨_, _, hx.bool_inv, hy.bool_inv, q _ H F (Gr.refl fo) (.bl _)⟩
  · cases hb
    exact .inr ⟨hy.none_inv, by rw [isN_go hx]; exact q _ H F (Gr.refl fo) (.bl _)⟩
  · cases hb
/-! ### items -/
def gIx : Da → Da → Option Da := fun c i => match items c, i with
  | some ds, .int k => atI ds k
  | _, _ => none
def rIxA (K : PySem.W.Frag) : R2 := fun x y H Q => rIxL K x y H Q ∨ rIxT K x y H Q
theorem or_ix {X : Cx} : IxR X (rIxA X.K) := ix_list.or ix_tup
theorem at_get {K : PySem.W.Frag} {H : Hp} {F : Frz} {vs : List V} {ds : List Da} {k : Int} {d : Da} (t : RpA K H F vs ds) (h : atI ds k = some d) : ∃ v, atI vs k = some v ∧ Rp K H F v d := by
  unfold atI at h ⊢
  rw [t.len]
  cases e : ixN ds.length k with
  | none => rw [e] at h; cases h
  | some j =>
    rw [e] at h
    exact t.get h
theorem od_ix {K : PySem.W.Frag} : OpD K (rIxA K) gIx := fun H F x y dx dy d fo hx hy hg Q q => by
  unfold gIx at hg
  split at hg
  · rename_i ds k hi
    cases dx with
    | list es =>
      cases hi
      obtain ⟨a, vs, e, s, t⟩ := hx.list_inv
      obtain ⟨v, h1, rv⟩ := at_get t hg
      exact .inl ⟨a, vs, k, v, e, hy.int_inv, s, h1, q v H F (Gr.refl fo) rv⟩
    | tuple es =>
      cases hi
      obtain ⟨a, vs, e, s, t, _⟩ := hx.tup_inv
      obtain ⟨v, h1, rv⟩ := at_get t hg
      exact .inr ⟨a, vs, k, v, e, hy.int_inv, s, h1, q v H F (Gr.refl fo) rv⟩
    | _ => cases hi
  · cases hg
end Mir

set_option Elab.async false
set_option linter.all false
set_option maxRecDepth 100000
set_option maxHeartbeats 2000000
namespace Mir
open PySem L2

/-! ### built-in functions -/
section
variable {K : PySem.W.Frag}
def gLen : List Da → Option Da
  | [d] => (items d).map fun ds => .int ds.length
  | _ => none
theorem items_go {H : Hp} {F : Frz} {v : V} {d : Da} {ds : List Da} (h : Bw K H F v d) (e : items d = some ds) : ∃ p xs, v = .ref p ∧ (SqL K H p xs ∨ SqT K H p xs) ∧ RpA K H F xs ds := by
  cases d with
  | list es =>
    cases e
    obtain ⟨a, vs, e, s, t⟩ := h.list_inv
    exact ⟨a, vs, e, .inl s, t⟩
  | tuple es =>
    cases e
    obtain ⟨a, vs, e, s, t, _⟩ := h.tup_inv
    exact ⟨a, vs, e, .inr s, t⟩
  | _ => cases e
theorem cd_len : CallD K (fun xs H Q => ∃ p ys, xs = [.ref p] ∧ (SqL K H p ys ∨ SqT K H p ys) ∧ Q (.int ys.length) H) gLen := fun H F xs dx d fo hx hg Q q => by
  unfold gLen at hg
  split at hg
  · obtain ⟨ds, hi, e⟩ := Option.map_eq_some_iff.mp hg
    subst e
    obtain ⟨v, ev, hv⟩ := hx.one
    obtain ⟨p, ys, e2, s, t⟩ := items_go hv hi
    refine ⟨p, ys, by rw [ev, e2], s, ?_⟩
    rw [t.len]
    exact q _ H F (Gr.refl fo) (.int _)
  · cases hg
/-- tuple(xs), list(xs) -/
def gTupleOf : List Da → Option Da
  | [d] => (items d).map .tuple
  | _ => none
def gListOf : List Da → Option (List Da)
  | [d] => items d
  | _ => none
theorem cd_tuple : CallD K (fun xs H Q => ∃ p ys, xs = [.ref p] ∧ ((SqL K H p ys ∧ ∀ l, H l = none → Q (.ref l) (upd H l (.tup ys))) ∨ (SqT K H p ys ∧ Q (.ref p) H))) gTupleOf := fun H F xs dx d fo hx hg Q q => by
  unfold gTupleOf at hg
  split at hg
  · rename_i x
    obtain ⟨ds, hi, e⟩ := Option.map_eq_some_iff.mp hg
    subst e
    obtain ⟨v, ev, hv⟩ := hx.one
    subst ev
    cases x with
    | list es =>
      cases hi
      obtain ⟨a, vs, e, s, t⟩ := hv.list_inv
      exact ⟨a, vs, by rw [e], .inl ⟨s, fun l nl => q _ _ _ (Gr.new fo nl) (rp_newT fo nl t)⟩⟩
    | tuple es =>
      cases hi
      obtain ⟨a, vs, e, s, t, r⟩ := hv.tup_inv
      refine ⟨a, vs, by rw [e], .inr ⟨s, ?_⟩⟩
      rw [← e]
      exact q _ H F (Gr.refl fo) r
    | _ => cases hi
  · cases hg
/-- max, min of two ints -/
def gMax2 : List Da → Option Da
  | [.int i, .int j] => some (.int (if j > i then j else i))
  | _ => none
def gMin2 : List Da → Option Da
  | [.int i, .int j] => some (.int (if j < i then j else i))
  | _ => none
theorem cd_max2 : CallD K (fun xs H Q => ∃ i j, xs = [.int i, .int j] ∧ Q (.int (if j > i then j else i)) H) gMax2 := fun H F xs dx d fo hx hg Q q => by
  unfold gMax2 at hg
  split at hg
  · cases hg
    obtain ⟨v, u, e, h1, h2⟩ := hx.two
    exact ⟨_, _, by rw [e, h1.int_inv, h2.int_inv], q _ H F (Gr.refl fo) (.int _)⟩
  · cases hg
theorem cd_min2 : CallD K (fun xs H Q => ∃ i j, xs = [.int i, .int j] ∧ Q (.int (if j < i then j else i)) H) gMin2 := fun H F xs dx d fo hx hg Q q => by
  unfold gMin2 at hg
  split at hg
  · cases hg
    obtain ⟨v, u, e, h1, h2⟩ := hx.two
    exact ⟨_, _, by rw [e, h1.int_inv, h2.int_inv], q _ H F (Gr.refl fo) (.int _)⟩
  · cases hg
/-- any, all of a list of bools -/
def bools : List Da → Option (List Bool)
  | [] => some []
  | .bool b :: ds => (bools ds).map (b :: ·)
  | _ :: _ => none
theorem bools_go : ∀ {ds : List Da} {bs : List Bool}, bools ds = some bs → ds = bs.map PyData.bool
  | [], bs, h => by cases h; rfl
  | d :: ds, bs, h => by
    cases d with
    | bool b =>
      obtain ⟨cs, hc, e⟩ := Option.map_eq_some_iff.mp (show (bools ds).map (b :: ·) = some bs from h)
      subst e
      rw [List.map_cons, bools_go hc]
    | _ => cases h
def gAny : List Da → Option Da
  | [.list ds] => (bools ds).map fun bs => .bool (bs.any id)
  | _ => none
def gAll : List Da → Option Da
  | [.list ds] => (bools ds).map fun bs => .bool (bs.all id)
  | _ => none
theorem cd_any : CallD K (rAny K) gAny := fun H F xs dx d fo hx hg Q q => by
  unfold gAny at hg
  split at hg
  · obtain ⟨bs, hb, e⟩ := Option.map_eq_some_iff.mp hg
    subst e
    obtain ⟨v, ev, hv⟩ := hx.one
    obtain ⟨a, vs, e, s, t⟩ := hv.list_inv
    rw [bools_go hb] at t
    rw [bools_inv t] at s
    exact ⟨a, bs, by rw [ev, e], s, q _ H F (Gr.refl fo) (.bl _)⟩
  · cases hg
theorem cd_all : CallD K (rAll K) gAll := fun H F xs dx d fo hx hg Q q => by
  unfold gAll at hg
  split at hg
  · obtain ⟨bs, hb, e⟩ := Option.map_eq_some_iff.mp hg
    subst e
    obtain ⟨v, ev, hv⟩ := hx.one
    obtain ⟨a, vs, e, s, t⟩ := hv.list_inv
    rw [bools_go hb] at t
    rw [bools_inv t] at s
    exact ⟨a, bs, by rw [ev, e], s, q _ H F (Gr.refl fo) (.bl _)⟩
  · cases hg
/-- sum of ints -/
def intsD : List Da → Option (List Int)
  | [] => some []
  | .int b :: ds => (intsD ds).map (b :: ·)
  | _ :: _ => none
theorem intsD_go : ∀ {ds : List Da} {bs : List Int}, intsD ds = some bs → ds = bs.map PyData.int
  | [], bs, h => by cases h; rfl
  | d :: ds, bs, h => by
    cases d with
    | int b =>
      obtain ⟨cs, hc, e⟩ := Option.map_eq_some_iff.mp (show (intsD ds).map (b :: ·) = some bs from h)
      subst e
      rw [List.map_cons, intsD_go hc]
    | _ => cases h
theorem intsD_map (ns : List Int) : intsD (ns.map PyData.int) = some ns := by
  induction ns with
  | nil => rfl
  | cons n ns ih =>
    show (intsD (ns.map PyData.int)).map (n :: ·) = _
    rw [ih] <;> rfl
def gSum : List Da → Option Da
  | [.list ds] => (intsD ds).map fun bs => .int bs.sum
  | _ => none
theorem cd_sum : CallD K (rSum K) gSum := fun H F xs dx d fo hx hg Q q => by
  unfold gSum at hg
  split at hg
  · obtain ⟨bs, hb, e⟩ := Option.map_eq_some_iff.mp hg
    subst e
    obtain ⟨v, ev, hv⟩ := hx.one
    obtain ⟨a, vs, e, s, t⟩ := hv.list_inv
    rw [intsD_go hb] at t
    rw [ints_inv t] at s
    exact ⟨a, bs, by rw [ev, e], s, q _ H F (Gr.refl fo) (.int _)⟩
  · cases hg
/-- insertion sort: what sorted gives of ints -/
def ins (n : Int) : List Int → List Int
  | [] => [n]
  | m :: r => if n ≤ m then n :: m :: r else m :: ins n r
def isort : List Int → List Int
  | [] => []
  | n :: r => ins n (isort r)
theorem ins_perm (n : Int) : ∀ l : List Int, (ins n l).Perm (n :: l)
  | [] => .refl _
  | m :: r => by
    unfold ins
    split
    · exact .refl _
    · exact ((ins_perm n r).cons m).trans (.swap n m r)
theorem isort_perm : ∀ l : List Int, (isort l).Perm l
  | [] => .refl _
  | n :: r => (ins_perm n _).trans ((isort_perm r).cons n)
theorem ins_sorted (n : Int) : ∀ l : List Int, l.Pairwise (· ≤ ·) → (ins n l).Pairwise (· ≤ ·)
  | [], _ => List.pairwise_singleton _ _
  | m :: r, h => by
    have h' := List.pairwise_cons.mp h
    unfold ins
    split
    · rename_i hn
      refine List.pairwise_cons.mpr ⟨fun x hx => ?_, h⟩
      rcases List.mem_cons.mp hx with e | e
      · rw [e]; exact hn
      · exact Int.le_trans hn (h'.1 x e)
    · rename_i hn
      refine List.pairwise_cons.mpr ⟨fun x hx => ?_, ins_sorted n r h'.2⟩
      rcases List.mem_cons.mp ((ins_perm n r).mem_iff.mp hx) with e | e
      · rw [e]; omega
      · exact h'.1 x e
theorem isort_sorted : ∀ l : List Int, (isort l).Pairwise (· ≤ ·)
  | [] => .nil
  | n :: r => ins_sorted n _ (isort_sorted r)
theorem sorted_one {l m : List Int} (p : l.Perm m) (hl : l.Pairwise (· ≤ ·)) (hm : m.Pairwise (· ≤ ·)) : l = m :=
  p.eq_of_pairwise (fun a b _ _ h1 h2 => Int.le_antisymm h1 h2) hl hm
def gSorted : List Da → Option Da
  | [.list ds] => (intsD ds).map fun ns => .list ((isort ns).map .int)
  | _ => none
theorem cd_sorted : CallD K (rSortedI K) gSorted := fun H F xs dx d fo hx hg Q q => by
  unfold gSorted at hg
  split at hg
  · obtain ⟨ns, hb, e⟩ := Option.map_eq_some_iff.mp hg
    subst e
    obtain ⟨v, ev, hv⟩ := hx.one
    obtain ⟨a, vs, e, s, t⟩ := hv.list_inv
    rw [intsD_go hb] at t
    rw [ints_inv t] at s
    refine ⟨a, ns, by rw [ev, e], s, fun ms p pm ps np => ?_⟩
    have e2 := sorted_one (pm.trans (isort_perm ns).symm) ps (isort_sorted ns)
    rw [e2]
    exact q _ _ _ (Gr.new fo np) (rp_newL fo np ints_mk)
  · cases hg
end

/-! ### isinstance -/
def cls6 : List String := ["NoneType", "bool", "int", "str", "list", "tuple"]
def isi (c T : String) : Bool := c == T || (c == "bool" && T == "int")
def isiOk (T : String) : Bool := cls6.all fun c => kitB c T == some (isi c T)
def gIsi (T : String) (d : Da) : Option Da := (clsD d).map fun c => .bool (isi c T)
theorem cls_ty {K : PySem.W.Frag} {H : Hp} {F : Frz} {v : V} {d : Da} {c : String} (h : Bw K H F v d) (e : clsD d = some c) : c ∈ cls6 ∧ TyX K H v (.type c) := by
  have own : ∀ {p : Addr} {vs : List V}, SqL K H p vs → TyX K H (.ref p) (.type "list") := fun {p vs} s => by
    rcases s with (s | ⟨o, s⟩) | ⟨o, its, n, h1, h2, _⟩
    · exact .base (.lst s)
    · exact .base (.frz s)
    · exact .kList h1 h2
  have ownT : ∀ {p : Addr} {vs : List V}, SqT K H p vs → TyX K H (.ref p) (.type "tuple") := fun {p vs} s => by
    rcases s with (s | ⟨o, s⟩) | ⟨o, its, n, h1, h2, _⟩
    · exact .base (.tup s)
    · exact .fTuple s
    · exact .kTuple h1 h2
  cases h with
  | own h r => cases e; exact ⟨by decide, own (SqL.of h)⟩
  | rp h =>
    cases h with
    | non => cases e; exact ⟨by decide, .base .non⟩
    | bl b => cases e; exact ⟨by decide, .base (.bl b)⟩
    | int i => cases e; exact ⟨by decide, .base (.int i)⟩
    | str x => cases e; exact ⟨by decide, .base (.str x)⟩
    | lst r t => cases e; exact ⟨by decide, own r.sq⟩
    | tup r t => cases e; exact ⟨by decide, ownT r.sq⟩
section
variable {X : Cx} {ow : List Nat} {e : Expr} {fa : Md Da} {p q pos : Pos} {T : String} {x : Str}
theorem e_isi (hT : isiOk T = true) (hg : Gl X "isinstance") (hm : X.mg "isinstance" = none) (ht : PE X (.Name x q) (tC (.ty T))) (ha : GE X ow e fa)
    (he : starEach [e, .Name x q] X.env = (false, eval e X.env) :: starEach [.Name x q] X.env := by rfl) (he2 : starEach [.Name x q] X.env = (false, eval (.Name x q) X.env) :: starEach [] X.env := by rfl) (hpl : (backTo pos (starEach [.Name x q] X.env)).any (·.1) = false := by rfl) :
    GE X ow (.Call (.Name "isinstance" p) [e, .Name x q] [] pos) (mUn (gIsi T) fa) := pe_w (pe_callB call_isi hg hm (by decide +kernel) (pa_cons ha (pa_cons ht pa_nil he2) he) (by decide) (by decide) he hpl) fun σ H Q ⟨B, F, ρ, d, ρ', c, hf, q⟩ => by
  obtain ⟨y, ρ1, h1, hf⟩ := bind_inv hf
  obtain ⟨hg, rfl⟩ := opt_inv hf
  obtain ⟨cl, hc, ed⟩ := Option.map_eq_some_iff.mp hg
  subst ed
  refine ⟨B, F, ρ, y, _, c, h1, fun v H1 F1 c1 l1 r1 => ?_⟩
  obtain ⟨hm, ty⟩ := cls_ty (.rp r1) hc
  have k : kitB cl T = some (isi cl T) := by
    have := List.all_eq_true.mp hT cl hm
    simpa using this
  exact ⟨v, .ty T, .type cl, .type T, _, rfl, .ty T, ty, kit_ty k, q _ H1 F1 c1 l1 (.bl _)⟩
end

/-! ### repr of lists and tuples -/
def okRepr (d : Da) : Bool := d.leavesShort 13 && decide (d.weight ≤ 2 ^ 20) && d.showable && !d.hasDict && decide (d.depth ≤ 60)
def isRef : Da → Bool
  | .list _ => true
  | .tuple _ => true
  | _ => false
def gRepr : List Da → Option Da
  | [d] => if isRef d = true ∧ okRepr d = true then some (.str d.shown) else none
  | _ => none
def rRepr (K : PySem.W.Frag) : List V → Hp → VK → Prop := fun xs H Q => ∃ a d, xs = [.ref a] ∧ Dp K H (.ref a) d ∧ okRepr d = true ∧ Q (.str d.shown) H
theorem call_repr {X : Cx} {k : Nat} (hr : Room k X.A) (hgd : X.A.guards = some []) : CallR X (.builtin "repr") (rRepr X.K) := by
  intro pins s σ H xs us Q I r h
  obtain ⟨a, d, e, hd, ok, q⟩ := h
  subst e
  obtain ⟨u, e, ru⟩ := vals1 r
  subst e
  cases ru
  unfold okRepr at ok
  simp only [Bool.and_eq_true, decide_eq_true_eq, Bool.not_eq_true'] at ok
  obtain ⟨⟨⟨⟨h1, h2⟩, h3⟩, h4⟩, h5⟩ := ok
  obtain ⟨as, rd⟩ := Dp.reads I d _ _ hd rfl
  have un := hr.un
  refine repr_of_reads' rd h3 (PyData.noDict_hsm h4) hgd (by omega) (fun _ _ e => e) (fun h' u tk hk => ?_) (PyData.shown_fits (by decide) (by decide) h1 h2)
  exact ⟨.str d.shown, H, I.kept hk, ⟨u, rfl⟩, q⟩
theorem cd_repr {K : PySem.W.Frag} : CallD K (rRepr K) gRepr := fun H F xs dx d fo hx hg Q q => by
  unfold gRepr at hg
  split at hg
  · split at hg
    · rename_i hz
      cases hg
      obtain ⟨v, ev, hv⟩ := hx.one
      obtain ⟨a, ea⟩ : ∃ a, v = .ref a := by
        cases hv with
        | own h r => exact ⟨_, rfl⟩
        | rp h => cases h <;> first | exact ⟨_, rfl⟩ | (cases hz.1; done)
      subst ea
      exact ⟨a, _, ev, hv.dp, hz.2, q _ H F (Gr.refl fo) (.str _)⟩
    · cases hg
  · cases hg
end Mir

set_option Elab.async false
set_option linter.all false
set_option maxRecDepth 100000
set_option maxHeartbeats 4000000

/-! ### enumerate(t), t a tuple: the library has lists and texts -/
namespace PySem
open AutoSeq1 (wpAny_loadPart')
abbrev tupIt (t : Addr) : Obj := { cls := .type "tuple_iterator", data := .fields #[.ref t, .int 0 0] }
abbrev enumOf (it : Addr) : Obj := { cls := .type "enumerate", data := .fields #[.none, .bool false, .ref it, rawInt 0, .none, .none] }
theorem mir_enumNew (t : Addr) (its : Array Value) (k : Nat) (dd : Option Addr) (sl : Array (Option Value)) : Meets (Builtin.«enumerate.__new__» ⟨[.type "enumerate", .ref t], []⟩) (fun _ R s =>
    s.heap.get? t = some { cls := .type "tuple", dict := dd, data := .seq its k, slots := sl } ∧ R (.ok (.ret (.ref (s.heap.push (tupIt t)).objs.size))) { s with heap := (s.heap.push (tupIt t)).push (enumOf s.heap.objs.size) }) := by
  refine .of_wp fun prog w A R s h => ?_
  obtain ⟨hp, gg, dd', tk, oo⟩ := s
  obtain ⟨ht, h⟩ := h
  have sub1 := sub_enumerate
  have isT : Heap.IsTuple (Shared.heap ⟨hp, gg, dd', tk, oo⟩) t its := ⟨_, ht, rfl, k, rfl⟩
  wp_walk using wpAny_loadPart' ht
  refine wpAny_stack_any fun st => wpAny_pure ?_
  split
  · rename_i c _ _ _ _ _
    cases c == Value.type "enumerate" <;> (wp_walk using wpAny_loadPart' ht, wpAny_pyIter_tuple isT; exact ⟨_, rfl, h⟩)
  · wp_walk using wpAny_loadPart' ht, wpAny_pyIter_tuple isT
    exact ⟨_, rfl, h⟩
theorem mir_callEnum {prog : Program} {w : World} {A : Around} {E : Value → Shared → Prop} {s : Shared} {t : Addr} {its : Array Value} {Q : Value → Shared → Prop} (hT : s.heap.IsTuple t its)
    (h : ∀ h', IsEnum h' (s.heap.objs.size + 1) s.heap.objs.size 0 .none → h'.IsTupleIter s.heap.objs.size t 0 → (∀ b o, s.heap.get? b = some o → h'.get? b = some o) → Q (.ref (s.heap.objs.size + 1)) { s with heap := h' }) :
    wpAny (model prog w) A (call (.type "enumerate") [.ref t]) Q E s := by
  obtain ⟨⟨c, dd, da, sl⟩, ht, hc, k, hd⟩ := hT
  simp only at hc hd
  subst hc hd
  have sz : (s.heap.push (tupIt t)).objs.size = s.heap.objs.size + 1 := Heap.size_push ..
  have g1 : ((s.heap.push (tupIt t)).push (enumOf s.heap.objs.size)).get? (s.heap.objs.size + 1) = some (enumOf s.heap.objs.size) := by
    rw [← sz]
    exact Heap.get?_push_size _ rfl
  have g0 : ((s.heap.push (tupIt t)).push (enumOf s.heap.objs.size)).get? s.heap.objs.size = some (tupIt t) := Heap.get?_push_of_some _ (Heap.get?_push_size _ rfl)
  refine callType_new F.called_enumerate (by decide) (F.typeCall_enumerate_1 _) (F.newCall_enumerate_1 _) (fun obj => F.args_object_init_2 obj _) F.entry_enumerate_new (mir_enumNew t its k dd sl) ⟨ht, ?_⟩
  show _ ∧ _
  rw [sz]
  exact ⟨⟨_, g1, rfl⟩, h _ g1 ⟨_, g0, rfl, rfl⟩ fun b o x => Heap.get?_push_of_some _ (Heap.get?_push_of_some _ x)⟩
end PySem

namespace Mir
open PySem L2
/-- the turns of enumerate over a tuple -/
def IteT (K : PySem.W.Frag) (a : Addr) : It := ⟨fun i H => ∃ (xs : List V) (x : V), SqT K H a xs ∧ xs[i]? = some x,
  fun i H v H' => ∃ T x, v = .ref T ∧ H T = none ∧ H' = upd H T (.tup [.int (i : Nat), x]) ∧ ∀ xs, SqT K H a xs → xs[i]? = some x, fun i H => ∃ xs : List V, SqT K H a xs ∧ xs.length ≤ i⟩
def EnSt (a e it : Addr) (i : Nat) (h : Heap) : Prop := (∃ old, IsEnum h e it ((i : Nat) : Int) old) ∧ h.IsTupleIter it a i ∧ e ≠ it ∧ a ≠ it ∧ a ≠ e
theorem turn_enT {P : Program} {w : World} {K : PySem.W.Frag} {elts : List Expr} {kk : Nat} {tpos : Pos} (a e it : Addr) : Turn P w K (.Tuple elts kk tpos) (IteT K a) [e, it] e (EnSt a e it) := by
  have two : ∀ {b : Addr}, b ∈ [e, it] → b = e ∨ b = it := fun {b} hb => by simpa using hb
  refine ⟨List.mem_cons_self, fun i h st b hb => ?_, fun i h h' st kp => ?_, ?_, ?_, fun A i s Q E st h => let ⟨⟨_, he⟩, _⟩ := st; wpAny_pyIter_enum he h⟩
  · obtain ⟨⟨old, he⟩, ⟨o, ho, _, hd⟩, _⟩ := st
    cases two hb with
    | inl z => subst z; exact ⟨_, he, fun v q => nomatch q⟩
    | inr z => subst z; exact ⟨o, ho, fun v q => by rw [hd] at q; cases q⟩
  · obtain ⟨⟨old, he⟩, hi, n1, n2, n3⟩ := st
    exact ⟨⟨old, kp e List.mem_cons_self _ he⟩, hi.at fun o q => kp it (List.mem_cons_of_mem _ List.mem_cons_self) o q, n1, n2, n3⟩
  · intro X hP hw hK hc i pins s σ H E I hf st hg
    subst hP hw hK
    obtain ⟨⟨old, he⟩, hi, n1, n2, n3⟩ := st
    obtain ⟨xs, x, hq, hx⟩ := hg
    obtain ⟨its, rv, pt, _⟩ := I.tuple hq
    obtain ⟨u, hu, ru⟩ := rv.get hx
    have le : e < s.heap.objs.size := Heap.lt_size he
    have li : it < s.heap.objs.size := let ⟨_, q, _⟩ := hi; Heap.lt_size q
    have lt : i < its.toArray.size := by rw [List.size_toArray]; exact (List.getElem?_eq_some_iff.mp hu).1
    have isT : s.heap.IsTuple a its.toArray := pt
    have Dr := Draws.tuple (prog := X.prog) (w := X.w) (A := X.A.in1) (show X.A.in1.handled = none from I.ok.hd hc) it a n2 its.toArray
    refine wpAny_pyNext_enum_itemD Dr he ⟨hi, isT⟩ lt n1 (by simp; exact ⟨n1, fun z => n3 z.symm⟩) fun y h' tk hy ho hst' hT hsz hk => ?_
    have ey : y = u := by
      have hy' : its.toArray[i]? = some y := hy
      rw [List.getElem?_toArray, hu] at hy'
      exact (Option.some.inj hy').symm
    subst ey
    refine ⟨_, rfl, wpAny_letOwnedTupleGo_enum (s := { s with heap := h', toks := tk + 1 }) ho fun h2 he2 sb => ?_⟩
    have hT2 : h2.get? s.heap.objs.size = some { cls := .type "tuple", data := .seq #[.int i tk, y] } := (sb.2 _ (Nat.ne_of_gt le)).trans hT
    have hn : H s.heap.objs.size = none := I.hok.fresh (Nat.le_refl _)
    have new : ObjOk X.prog X.w (upd H s.heap.objs.size (.tup [.int (i : Nat), x])) h2 s.heap.objs.size (.tup [.int (i : Nat), x]) := ⟨by show 2 ≤ sizeLine; decide, [.int i tk, y], .cons ⟨_, rfl⟩ (.cons ru .nil), ⟨_, hT2, rfl, _, rfl⟩⟩
    have kp : ∀ b ob, b ∉ [e, it] → s.heap.get? b = some ob → h2.get? b = some ob := fun b ob hb q => by
      have b1 : b ≠ e := fun z => hb (by rw [z]; exact List.mem_cons_self)
      have b2 : b ≠ it := fun z => hb (by rw [z]; exact List.mem_cons_of_mem _ List.mem_cons_self)
      exact (sb.2 b b1).trans (hk b ob b1 b2 q)
    have I1 := I.turnedNew (t' := tk + 1) (ch := [e, it]) kp hf (Nat.le_refl _) new
    refine ⟨.ref s.heap.objs.size, _, I1, rfl, ⟨_, x, rfl, hn, rfl, fun ys hy => by rw [I.tuple_inj hy hq]; exact hx⟩, ⟨⟨y, ?_⟩, hst'.1.at fun o q => (sb.2 it (Ne.symm n1)).trans q, n1, n2, n3⟩, fun b hb => ?_⟩
    · rw [show ((i + 1 : Nat) : Int) = (i : Int) + 1 by omega]
      exact he2
    · have lb : b < s.heap.objs.size := by
        cases two hb with
        | inl z => rw [z]; exact le
        | inr z => rw [z]; exact li
      rw [upd_ne (Nat.ne_of_lt lb)]
      exact (hf b hb).1
  · intro X hP hw hK hc i pins s σ H E I hf st hg
    subst hP hw hK
    obtain ⟨⟨old, he⟩, hi, n1, n2, n3⟩ := st
    obtain ⟨xs, hq, hx⟩ := hg
    obtain ⟨its, rv, pt, _⟩ := I.tuple hq
    obtain ⟨f0, f1, f2, f3, f4, f5⟩ := hf it (List.mem_cons_of_mem _ List.mem_cons_self)
    have isT : s.heap.IsTuple a its.toArray := pt
    have no : its.toArray[i]? = none := by
      rw [List.getElem?_toArray]
      exact List.getElem?_eq_none (by rw [← rv.length]; exact hx)
    -- the walk's end at turn i
    have De : Draws X.prog X.w X.A.in1 it [it, a] i (fun _ _ => True) (fun j h => j = i ∧ h.IsTupleIter it a j ∧ h.IsTuple a its.toArray) := by
      refine ⟨fun j h st => let ⟨o, ho, _⟩ := st.2.1; ⟨o, ho⟩, fun j h h' st hk => ⟨st.1, st.2.1.at fun o q => hk it List.mem_cons_self o q, st.2.2.at fun o q => hk a (List.mem_cons_of_mem _ List.mem_cons_self) o q⟩, fun j s Q E hj st hQ => absurd st.1 (Nat.ne_of_lt hj), fun s Q E st hE => ?_⟩
      exact wpAny_nextOf_tuple_end (show X.A.in1.handled = none from I.ok.hd hc) st.2.1 st.2.2 no hE
    exact wpAny_pyNext_enum_endD De he ⟨rfl, hi, isT⟩ fun h' eb => ⟨rfl, I.turned (t' := s.toks) (fun b o hb q => eb b o hb q) f0 f1 f3 f4 f5⟩
def iEnumT (K : PySem.W.Frag) (ta : TA) : TI := fun σ H R => ta σ H fun vs H1 => ∃ a xs, vs = [.ref a] ∧ SqT K H1 a xs ∧ R (IteT K a) H1
theorem pi_enumT {X : Cx} {e : Expr} {ta : TA} {p pos tpos : Pos} {elts : List Expr} {kk : Nat} (hg : Gl X "enumerate") (hm : X.mg "enumerate" = none) (ha : PA X [e] ta) (hs : starEach [e] X.env = [(false, eval e X.env)] := by rfl) :
    PI X (.Tuple elts kk tpos) (.Call (.Name "enumerate" p) [e] [] pos) (iEnumT X.K ta) := by
  constructor
  intro pins s σ H R I h
  have rd := thn (ha.run pos pins s σ H _ I h) (Q' := fun us s1 => wpAny (model X.prog X.w) X.A (call (.type "enumerate") us) (fun v s2 => wpAny (model X.prog X.w) X.A (pyIter v) (PIE X pins σ (.Tuple elts kk tpos) R) X.xe s2) X.xe s1) fun us s1 ⟨vs, H1, I1, r1, a, xs, ev, hq, q⟩ => by
    subst ev
    obtain ⟨u, eu, ru⟩ := vals1 r1
    subst eu
    cases ru
    obtain ⟨its, rv, pt, _⟩ := I1.tuple hq
    have isT : s1.heap.IsTuple a its.toArray := pt
    have la : a < s1.heap.objs.size := let ⟨_, z, _⟩ := pt; Heap.lt_size z
    refine mir_callEnum isT fun h' he hi hk => wpAny_pyIter_enum he ?_
    refine ⟨s1.heap.objs.size + 1, [s1.heap.objs.size + 1, s1.heap.objs.size], _, _, H1, rfl, I1.kept (t' := s1.toks) hk, turn_enT a (s1.heap.objs.size + 1) s1.heap.objs.size, ⟨⟨.none, he⟩, hi, Nat.succ_ne_self _, Nat.ne_of_lt la, Nat.ne_of_lt (Nat.lt_succ_of_lt la)⟩, fun b hb => ?_, q⟩
    have le : s1.heap.objs.size ≤ b := by
      rcases List.mem_cons.mp hb with z | z
      · rw [z]
        exact Nat.le_succ _
      · rw [List.mem_singleton.mp z]
        exact Nat.le_refl _
    exact I1.fpOk le (I1.hok.fresh le)
  exact PyProof.Rows.Call_ (ld_blt I hg hm PyProof.Rows.boot_enumerate (PyProof.Rows.callWith_type1 rd hs rfl))

/-! ### walks over data: enumerate, zip, a list that only this def holds -/
def enumD (ds : List Da) : List Da := ds.zipIdx.map fun p => .tuple [.int (p.2 : Nat), p.1]
theorem enumD_get (ds : List Da) (i : Nat) : (enumD ds)[i]? = ds[i]?.map fun d => .tuple [.int (i : Nat), d] := by
  unfold enumD
  rw [List.getElem?_map, List.getElem?_zipIdx, Nat.zero_add]
  cases ds[i]? <;> rfl
theorem enumD_len (ds : List Da) : (enumD ds).length = ds.length := by
  unfold enumD
  rw [List.length_map, List.length_zipIdx]
section
variable {K : PySem.W.Frag} {H1 : Hp} {F1 : Frz} {a b : Addr} {vs ws : List V} {ds es : List Da}
theorem pair_new {H : Hp} {F : Frz} {x y : V} {d e : Da} {T : Addr} (fo : Fo F H) (n : H T = none) (h1 : Rp K H F x d) (h2 : Rp K H F y e) : ∃ F', Gr F H F' (upd H T (.tup [x, y])) ∧ Rp K (upd H T (.tup [x, y])) F' (.ref T) (.tuple [d, e]) :=
  ⟨_, Gr.new fo n, rp_newT fo n (.cons h1 (.cons h2 .nil))⟩
theorem it_enumL (r : RL K H1 F1 a vs) (t : RpA K H1 F1 vs ds) : ItD K (Ite K a) (enumD ds) F1 H1 := fun i H F st fo => by
  have r' := r.stay st
  have t' := t.st st
  refine ⟨fun h => ⟨vs, r'.sq, by rw [t.len, ← enumD_len]; exact h⟩, fun d hd => ?_⟩
  rw [enumD_get] at hd
  obtain ⟨e, he, ed⟩ := Option.map_eq_some_iff.mp hd
  subst ed
  obtain ⟨v, h1, rv⟩ := t'.get he
  refine ⟨⟨vs, v, r'.sq, h1⟩, fun x H' ⟨T, y, e1, n, e2, hx⟩ => ?_⟩
  have e3 := hx vs r'.sq
  rw [h1] at e3
  cases e3
  subst e1 e2
  exact pair_new fo n (.int _) rv
theorem it_enumT (r : RT K H1 F1 a vs) (t : RpA K H1 F1 vs ds) : ItD K (IteT K a) (enumD ds) F1 H1 := fun i H F st fo => by
  have r' := r.stay st
  have t' := t.st st
  refine ⟨fun h => ⟨vs, r'.sq, by rw [t.len, ← enumD_len]; exact h⟩, fun d hd => ?_⟩
  rw [enumD_get] at hd
  obtain ⟨e, he, ed⟩ := Option.map_eq_some_iff.mp hd
  subst ed
  obtain ⟨v, h1, rv⟩ := t'.get he
  refine ⟨⟨vs, v, r'.sq, h1⟩, fun x H' ⟨T, y, e1, n, e2, hx⟩ => ?_⟩
  have e3 := hx vs r'.sq
  rw [h1] at e3
  cases e3
  subst e1 e2
  exact pair_new fo n (.int _) rv
def zipD : List Da → List Da → List Da
  | d :: ds, e :: es => .tuple [d, e] :: zipD ds es
  | _, _ => []
theorem zipD_get : ∀ (ds es : List Da) (i : Nat) (x : Da), (zipD ds es)[i]? = some x → ∃ d e, ds[i]? = some d ∧ es[i]? = some e ∧ x = .tuple [d, e]
  | [], _, _, _, h => by simp [zipD] at h
  | _ :: _, [], _, _, h => by simp [zipD] at h
  | d :: ds, e :: es, 0, x, h => by
    simp [zipD] at h
    exact ⟨d, e, rfl, rfl, h.symm⟩
  | d :: ds, e :: es, i + 1, x, h => by
    obtain ⟨d', e', h1, h2, h3⟩ := zipD_get ds es i x (by simpa [zipD] using h)
    exact ⟨d', e', by simpa using h1, by simpa using h2, h3⟩
theorem zipD_len : ∀ (ds es : List Da), (zipD ds es).length = min ds.length es.length
  | [], _ => by simp [zipD]
  | _ :: _, [] => by simp [zipD]
  | d :: ds, e :: es => by
    simp only [zipD, List.length_cons, zipD_len ds es]
    omega
theorem it_zipL (r : RL K H1 F1 a vs) (t : RpA K H1 F1 vs ds) (r2 : RL K H1 F1 b ws) (t2 : RpA K H1 F1 ws es) : ItD K (Itz K a b) (zipD ds es) F1 H1 := fun i H F st fo => by
  have ra := r.stay st
  have rb := r2.stay st
  have ta := t.st st
  have tb := t2.st st
  refine ⟨fun h => ⟨vs, ws, ra.sq, rb.sq, ?_⟩, fun x hx => ?_⟩
  · rw [zipD_len] at h
    rw [t.len, t2.len]
    omega
  · obtain ⟨d, e, hd, he, ex⟩ := zipD_get ds es i x hx
    subst ex
    obtain ⟨v, h1, rv⟩ := ta.get hd
    obtain ⟨w, h2, rw'⟩ := tb.get he
    refine ⟨⟨vs, ws, v, w, ra.sq, rb.sq, h1, h2⟩, fun x H' ⟨T, y, z, e1, n, e2, hy, hz⟩ => ?_⟩
    have e3 := hy vs ra.sq
    have e4 := hz ws rb.sq
    rw [h1] at e3
    rw [h2] at e4
    cases e3
    cases e4
    subst e1 e2
    exact pair_new fo n rv rw'
theorem it_zipT (r : RT K H1 F1 a vs) (t : RpA K H1 F1 vs ds) (r2 : RT K H1 F1 b ws) (t2 : RpA K H1 F1 ws es) : ItD K (RZ.ItzT K a b) (zipD ds es) F1 H1 := fun i H F st fo => by
  have ra := r.stay st
  have rb := r2.stay st
  have ta := t.st st
  have tb := t2.st st
  refine ⟨fun h => ⟨vs, ws, ra.sq, rb.sq, ?_⟩, fun x hx => ?_⟩
  · rw [zipD_len] at h
    rw [t.len, t2.len]
    omega
  · obtain ⟨d, e, hd, he, ex⟩ := zipD_get ds es i x hx
    subst ex
    obtain ⟨v, h1, rv⟩ := ta.get hd
    obtain ⟨w, h2, rw'⟩ := tb.get he
    refine ⟨⟨vs, ws, v, w, ra.sq, rb.sq, h1, h2⟩, fun x H' ⟨T, y, z, e1, n, e2, hy, hz⟩ => ?_⟩
    have e3 := hy vs ra.sq
    have e4 := hz ws rb.sq
    rw [h1] at e3
    rw [h2] at e4
    cases e3
    cases e4
    subst e1 e2
    exact pair_new fo n rv rw'
end
section
variable {X : Cx} {ow : List Nat} {e e2 : Expr} {fe : Md Da} {fl : Md (List Da)} {p pos tpos : Pos} {elts : List Expr} {kk : Nat} {tg : Expr}
def enL : List Da → Option (List Da)
  | [.list ds] => some (enumD ds)
  | _ => none
def enT : List Da → Option (List Da)
  | [.tuple ds] => some (enumD ds)
  | _ => none
theorem i_enumL (hg : Gl X "enumerate") (hm : X.mg "enumerate" = none) (ha : GA X ow [e] fl) (hs : starEach [e] X.env = [(false, eval e X.env)] := by rfl) : GI X ow (.Tuple elts kk tpos) (.Call (.Name "enumerate" p) [e] [] pos) (mBind fl fun ds => mOpt (enL ds)) :=
  pi_w (pi_enum hg hm ha hs) fun σ H R ⟨B, F, ρ, ds, ρ', c, hf, q⟩ => by
  obtain ⟨es, ρ1, h1, hf⟩ := bind_inv hf
  obtain ⟨hg, rfl⟩ := opt_inv hf
  unfold enL at hg
  split at hg
  · cases hg
    refine ⟨B, F, ρ, _, _, c, h1, fun vs H1 F1 c1 l1 r1 => ?_⟩
    cases r1 with
    | cons r t =>
      cases t
      obtain ⟨a, xs, ev, rl, ra⟩ := r.list_inv
      exact ⟨a, xs, by rw [ev], rl.sq, q _ H1 F1 c1 l1 (it_enumL rl ra)⟩
  · cases hg
theorem i_enumT (hg : Gl X "enumerate") (hm : X.mg "enumerate" = none) (ha : GA X ow [e] fl) (hs : starEach [e] X.env = [(false, eval e X.env)] := by rfl) : GI X ow (.Tuple elts kk tpos) (.Call (.Name "enumerate" p) [e] [] pos) (mBind fl fun ds => mOpt (enT ds)) :=
  pi_w (pi_enumT hg hm ha hs) fun σ H R ⟨B, F, ρ, ds, ρ', c, hf, q⟩ => by
  obtain ⟨es, ρ1, h1, hf⟩ := bind_inv hf
  obtain ⟨hg, rfl⟩ := opt_inv hf
  unfold enT at hg
  split at hg
  · cases hg
    refine ⟨B, F, ρ, _, _, c, h1, fun vs H1 F1 c1 l1 r1 => ?_⟩
    cases r1 with
    | cons r t =>
      cases t
      obtain ⟨a, xs, ev, rl, ra⟩ := r.tup_inv
      exact ⟨a, xs, by rw [ev], rl.sq, q _ H1 F1 c1 l1 (it_enumT rl ra)⟩
  · cases hg
def zp : List Da → Option (List Da)
  | [.tuple ds, .tuple es] => some (zipD ds es)
  | [.list ds, .list es] => some (zipD ds es)
  | _ => none
theorem i_zip (hg : Gl X "zip") (hm : X.mg "zip" = none) (ha : GA X ow [e, e2] fl) (hs : starEach [e, e2] X.env = (false, eval e X.env) :: starEach [e2] X.env := by rfl) (hpl : (backTo pos (starEach [e2] X.env)).any (·.1) = false := by rfl) :
    GI X ow (.Tuple elts kk tpos) (.Call (.Name "zip" p) [e, e2] [] pos) (mBind fl fun ds => mOpt (zp ds)) := pi_w (RZ.pi_zipA hg hm ha hs hpl) fun σ H R ⟨B, F, ρ, ds, ρ', c, hf, q⟩ => by
  obtain ⟨es, ρ1, h1, hf⟩ := bind_inv hf
  obtain ⟨hg, rfl⟩ := opt_inv hf
  unfold zp at hg
  split at hg
  · cases hg
    refine ⟨B, F, ρ, _, _, c, h1, fun vs H1 F1 c1 l1 r1 => ?_⟩
    cases r1 with
    | cons r t =>
      cases t with
      | cons r' t =>
        cases t
        obtain ⟨a, xs, ev, rl, ra⟩ := r.tup_inv
        obtain ⟨b, ys, ev2, rl2, ra2⟩ := r'.tup_inv
        exact ⟨a, b, xs, ys, by rw [ev, ev2], .inr ⟨rl.sq, rl2.sq, q _ H1 F1 c1 l1 (it_zipT rl ra rl2 ra2)⟩⟩
  · cases hg
    refine ⟨B, F, ρ, _, _, c, h1, fun vs H1 F1 c1 l1 r1 => ?_⟩
    cases r1 with
    | cons r t =>
      cases t with
      | cons r' t =>
        cases t
        obtain ⟨a, xs, ev, rl, ra⟩ := r.list_inv
        obtain ⟨b, ys, ev2, rl2, ra2⟩ := r'.list_inv
        exact ⟨a, b, xs, ys, by rw [ev, ev2], .inl ⟨rl.sq, rl2.sq, q _ H1 F1 c1 l1 (it_zipL rl ra rl2 ra2)⟩⟩
  · cases hg
end
end Mir

set_option Elab.async false
set_option linter.all false
set_option maxRecDepth 100000
set_option maxHeartbeats 4000000
namespace Mir
open PySem PySem.Spec PyProof.Rows L2

/-! ### the law's call, over a promise that wants no guard -/
section
variable {P : Program} {w : World} {K : PySem.W.Frag} {mg mb : Str → Option Value} {k : Nat} {fa a : Addr} {fd : FuncData} {x : Str} {sp : Sp} {s : Shared} {vs : List Value} {ns : List Int}
abbrev scr (vs : List Value) : Obj := { cls := .type "list", data := .seq vs.toArray }
/-- the base: the heap without the script -/
theorem base_get {h : Heap} {H : Hp} {b : Addr} {o : Obj} (e : h.get? b = some o) (n : H b = none) : (hidT h H).get? b = some o := hidT_get e n
theorem lawG1 (H : Hp) (hH : ∀ b u, H b = some u → b = a ∧ u = .frz (scr vs) (.lst (ns.map V.int))) (hK : H a ≠ none → K.lookup a = none) (hS : SqL K H a (ns.map V.int)) (ok : HOk P w H s.heap)
    (KX : K.In s.heap) (hns : s.heap.Ns mainGlobals mg) (hb : s.heap.Ns builtinsNs mb) (hbb : ∀ x : Str, x ≠ "__name__" → mb x = bootBuiltins x) (hlim : s.heap.NoLimit) (hg : s.gens = #[])
    (ha : s.heap.get? a = some (scr vs)) (hr : Room k callerA) (F : ∀ base : Heap, K.In base → base.Ns mainGlobals mg → FnG P w K mg base k fa fd [x] sp) (hbind : ∀ (s : Shared) (u : Value), BindsTo s fd ⟨[u], []⟩ [(x, u)])
    (hsp : sp [.ref a] H (fun v _ => v = .bl true) fun _ _ _ => False) :
    codeAny (model P w) callerA (.call (.ref fa) ⟨[.ref a], []⟩) (fun r s' => r = .ok (.ret (.bool true)) ∧ OldK s.heap s'.heap ∧ s'.os = s.os ∧ AllBare s'.gens) s := by
  -- a dict is never the script
  have nd : ∀ {b : Addr} {o : Obj} {es : Array DictEntry} {ep : Nat}, s.heap.get? b = some o → o.data = .dict es ep → H b = none := by
    intro b o es ep e d
    cases q : H b with
    | none => rfl
    | some u =>
      have eb := (hH b u q).1
      rw [eb, ha] at e
      cases e
      exact nomatch (show Data.seq vs.toArray _ = Data.dict es ep from d)
  have ns' : ∀ {b : Addr} {m : Str → Option Value}, s.heap.Ns b m → (hidT s.heap H).Ns b m := fun n => by
    obtain ⟨o, es, ep, e, d, r⟩ := n
    exact ⟨o, es, ep, base_get e (nd e d), d, r⟩
  have kin : K.In (hidT s.heap H) := by
    intro b o e
    refine base_get (KX b o e) ?_
    cases q : H b with
    | none => rfl
    | some u =>
      have eb := (hH b u q).1
      rw [eb] at e q
      rw [hK (by rw [q]; exact fun z => nomatch z)] at e
      cases e
  have lim : (hidT s.heap H).NoLimit := by
    obtain ⟨mc, h1, h2⟩ := hlim
    exact ⟨mc, ns' h1, h2⟩
  have en : Env0 P w K mg (hidT s.heap H) callerA [] s H := ⟨rfl, ⟨kin, ns' hns, ⟨mb, ns' hb, hbb⟩, lim⟩, fun b o e => of_hidT e, Nat.le_of_eq (hidT_size _ _), trivial, (fun b z => absurd (show b ∈ ([] : List Addr) from z) (by simp)), ok, .of_eq hg⟩
  have run := (F _ kin (ns' hns)).run callerA [] s H ⟨[.ref a], []⟩ [.ref a] [.ref a] _ _ hr rfl en (hbind s (.ref a)) (.cons rfl .nil) hsp
  refine codeAny_mono run fun r s' h => ?_
  match r, h with
  | .error _, z => exact False.elim z
  | .ok .next, z => exact False.elim z
  | .ok .brk, z => exact False.elim z
  | .ok .cont, z => exact False.elim z
  | .ok (.ret u), ⟨v, H', os, bare, un, ok', rv, ev⟩ =>
    have ev' : v = .bl true := ev
    subst ev'
    cases (show u = Value.bool true from rv)
    refine ⟨rfl, OldK.of_keep fun b o e => ?_, os, bare⟩
    cases q : H b with
    | none => exact un.keep b o e q (fun z => absurd (show b ∈ ([] : List Addr) from z) (by simp)) (fun z => absurd (show b ∈ ([] : List Addr) from z) (by simp))
    | some u =>
      obtain ⟨eb, eu⟩ := hH b u q
      subst eu
      have z1 := (ok b _ q).1
      have z2 := (ok' b _ (un.frzs b _ _ q)).1
      rw [e] at z1
      cases z1
      exact z2
theorem lawG (KX : K.In s.heap) (hns : s.heap.Ns mainGlobals mg) (hb : s.heap.Ns builtinsNs mb) (hbb : ∀ x : Str, x ≠ "__name__" → mb x = bootBuiltins x) (hlim : s.heap.NoLimit) (hg : s.gens = #[])
    (ha : s.heap.get? a = some (scr vs)) (hi : IntsAre vs ns) (hl : ns.length ≤ sizeLine) (hr : Room k callerA) (F : ∀ base : Heap, K.In base → base.Ns mainGlobals mg → FnG P w K mg base k fa fd [x] sp) (hbind : ∀ (s : Shared) (u : Value), BindsTo s fd ⟨[u], []⟩ [(x, u)])
    (hsp : ∀ (H : Hp) (F : Frz), Fo F H → RL K H F a (ns.map V.int) → sp [.ref a] H (fun v _ => v = .bl true) fun _ _ _ => False) :
    codeAny (model P w) callerA (.call (.ref fa) ⟨[.ref a], []⟩) (fun r s' => r = .ok (.ret (.bool true)) ∧ OldK s.heap s'.heap ∧ s'.os = s.os ∧ AllBare s'.gens) s := by
  have rv := vals_ints hi
  have ln := hi.length
  cases hk : K.lookup a with
  | some o =>
    have e := KX a o hk
    rw [ha] at e
    cases e
    have S : SqL K H00 a (ns.map V.int) := .inr ⟨_, vs.toArray, _, hk, rfl, rfl, rfl, by rw [List.size_toArray, ln]; exact hl, by simpa using rv⟩
    exact lawG1 H00 (fun b u z => by cases z) (fun z => absurd rfl z) S (fun b u z => by cases z) KX hns hb hbb hlim hg ha hr F hbind (hsp H00 (fun _ => False) (fun _ z => z.elim) (.inr S))
  | none =>
    let H : Hp := upd H00 a (.frz (scr vs) (.lst (ns.map V.int)))
    have hH : ∀ b u, H b = some u → b = a ∧ u = .frz (scr vs) (.lst (ns.map V.int)) := fun b u z => by
      by_cases e : b = a
      · rw [e, show H a = _ from upd_same] at z
        cases z
        exact ⟨e, rfl⟩
      · rw [show H b = _ from upd_ne e] at z
        cases z
    have rd : Rd H a (.lst (ns.map V.int)) := .inr ⟨scr vs, upd_same⟩
    refine lawG1 H hH (fun _ => hk) (.inl rd) (fun b u z => ?_) KX hns hb hbb hlim hg ha hr F hbind (hsp H (fun b => b = a) (fun b e => ?_) (.inl ⟨rfl, rd⟩))
    · obtain ⟨e, eu⟩ := hH b u z
      subst e eu
      exact ⟨ha, by rw [List.length_map]; exact hl, vs, _, rv, ha⟩
    · rw [e, show H a = _ from upd_same]
      exact fun z => nomatch z
end
theorem walkG {l : PySem.W.OpenLaw} {n k : Nat} {q : Program} {loose : List Str} {XP : (Str → Option Value) → Heap → Prop} {YP : World → Heap → Prop} {d : DefRec} {K : Params → PySem.W.Frag} {mf : List Da → Option Da} {x : Str} (hn : l.most = some n) (hn2 : n ≤ sizeLine) (hdf : d.params.defaults = []) (hr : Room k callerA)
    (hY : ∀ (w : World) (h : Heap), YP w h → (K w.params).In h)
    (Fd : ∀ (w : World) (tops : Str → Option Value) (fa : Addr) (h : Heap), (K w.params).In h → h.Ns mainGlobals tops →
      tops d.name = some (.ref fa) →
      ∃ fd : FuncData, (∀ (s : Shared) (u : Value), BindsTo s fd ⟨[u], []⟩ [(x, u)]) ∧ ∀ base : Heap, (K w.params).In base → base.Ns mainGlobals tops → FnG l.prog w (K w.params) tops base k fa fd [x] (spP (K w.params) 1 mf))
    (hm : ∀ ns : List Int, ns.length ≤ n → mf [.list (ns.map .int)] = some (.bool true)) : PySem.W.WalkO q loose XP YP l.row.toRowW d [] (fun f vs => PySem.call f vs) := by
  refine Att.attach_call hn hdf fun w s0 s1 tops mb fa o pm cd doc a vs ns G Y h1 h2 h3 hmg hobj hints hlen hg => ?_
  have kx := hY w _ Y
  obtain ⟨fd, hb, hF⟩ := Fd w tops fa _ kx G.T.g hmg
  refine lawG kx G.T.g G.T.b G.T.builtins G.T.nolimit hg hobj hints (Nat.le_trans hlen hn2) hr hF hb fun H Fz fo rl => ?_
  exact ⟨Fz, [.list (ns.map .int)], .bool true, fo, .cons (.lst rl ints_mk) .nil, rfl, hm ns hlen, fun v H' F' _ r => r.bool_inv⟩
end Mir

set_option Elab.async false
set_option linter.all false
set_option maxRecDepth 100000
set_option maxHeartbeats 4000000
namespace Mir
open PySem PySem.Spec PyProof.Rows L2

/-! ### a name = a list that is made on the spot -/
section
variable {X : Cx} {ow : List Nat} {st : Stmt} {fe : Md Da} {fl : Md (List Da)} {i : Nat}
theorem fz_go (σ : L2.St) (H : Hp) (Q : VK) (h : tE X.K ow (mOfL fl) σ H Q) : tL X.K ow fl σ H Q := by
  obtain ⟨B, F, ρ, d, ρ', c, hf, q⟩ := h
  obtain ⟨xs, ρ1, h1, hf⟩ := bind_inv hf
  cases hf
  refine ⟨B, F, ρ, _, _, c, h1, fun p vs H1 F1 c1 l1 np hp nf hn r1 => ?_⟩
  exact q (.ref p) H1 (frz1 F1 p) (c1.freeze hp nf hn (c.new np)) l1.freeze (.lst (.inl ⟨.inr rfl, .inl hp⟩) (r1.st fun a fa => ⟨.inl fa, rfl⟩))
theorem set_go {te : TE} (hE : ∀ σ H Q, tE X.K ow fe σ H Q → te σ H Q) (ho : i ∉ ow) (D : Ends) (σ : L2.St) (H : Hp) (h : tS X.K ow (mSet i fe) D σ H) : tAsg te (gName i) D σ H := by
  obtain ⟨B, F, ρ, o, c, hf, a⟩ := h
  obtain ⟨d, ρ1, h1, hf⟩ := do_inv hf
  cases hf
  exact hE σ H _ ⟨B, F, ρ, d, ρ1, c, h1, fun v H1 F1 c1 l1 r1 => a _ H1 F1 (c1.set r1 ho) l1⟩
variable {fi : Md (List Da)} {f : Da → Sto → Option Sto} {tt : Md Bool} {te : Md Da} {vs ts : List Nat}
theorem s_lcset (h : PS X st (tAsg (tLc (tI X.K ow fi) (gOf X.K ow ts f) (tT X.K ow tt) (tE X.K ow te) vs) (gName i))) (hv : ∀ v ∈ vs, v ∉ ow) (hts : ∀ t ∈ ts, t ∈ vs) (ho : i ∉ ow) : GS X ow st (mSet i (mOfL (mLc fi f tt te vs))) :=
  ps_w h (set_go (fun σ H Q q => lc_go hv hts σ H Q (fz_go σ H Q q)) ho)
theorem s_lcsetO (h : PS X st (tAsg (tLc (tI X.K ow fi) (gOf X.K ow ts f) (tT X.K ow tt) (tE X.K ow te) vs) (gName i))) (hv : ∀ v ∈ vs, v ∉ ow) (hts : ∀ t ∈ ts, t ∈ vs) (ho : i ∈ ow) (h0 : i ≠ 0) : GS X ow st (mSetO i (mLc fi f tt te vs)) :=
  ps_w h (setO_go (fun σ H Q q => lc_go hv hts σ H Q q) ho h0)
end

/-! ### a def that gives a new list -/
def spL (K : PySem.W.Frag) (n : Nat) (mf : List Da → Option (List Da)) : Sp := fun vs H Q _ => ∃ F ds es, Fo F H ∧ RpA K H F vs ds ∧ ds.length = n ∧ mf ds = some es ∧
  ∀ p us H' F', Gr F H F' H' → H p = none → H' p = some (.lst us) → ¬ F' p → RpA K H' F' us es → Q (.ref p) H'
def runL (n : Nat) (f : Md (List Da)) : List Da → Option (List Da) := fun ds => (f (sto0 n ds)).map (·.1)
section
variable {P : Program} {w : World} {K : PySem.W.Frag} {mg : Str → Option Value} {base : Heap} {k : Nat} {f : Addr} {fd : FuncData} {ps N : List Str} {x qual : Str} {st : Stmt} {fl : Md (List Da)} {e : Expr} {pos : Pos}
theorem cr0 {H : Hp} {F : Frz} {vs : List V} {ds : List Da} {ow : List Nat} (fo : Fo F H) (r : RpA K H F vs ds) (hl : vs.length ≤ N.length) (how : ∀ i ∈ ow, ds.length ≤ i) : Cr K ⟨H, F, none⟩ ow (L2.start N vs) H F (sto0 N.length ds) := by
  have hlv := r.len
  refine ⟨?_, fun i d h1 h2 => ?_, fun i d h1 h2 => ?_, fun i j p hi hj _ ⟨d, hd⟩ => ?_, fo, fun a o e => .inr e, fun a e => e, fun a e => .inl e, fun p e => nomatch e⟩
  · rw [start_len hl]
    unfold sto0
    rw [List.length_append, List.length_map, List.length_replicate]
    omega
  · obtain ⟨v, h3, rv⟩ := r.get (sto0_get h1).2
    exact ⟨v, start_get h3, rv⟩
  · have h3 := (sto0_get h1).1
    have h4 := how i h2
    omega
  · have h3 := (sto0_get hd).1
    have h4 := how i hi
    omega
/-- its body is: return e -/
theorem fnL (T : Fun K x qual st f fd) (S : FnScope N ps (defScope st)) (hbd : defBody st = [.Return (some e) pos])
    (hb : ∀ (cdv : Value) (A : Around) (outer : List Env) (s : Shared) (H : Hp) (E : XK), Room k (A.deeper (envOfC qual (defScope st) s.heap.objs.size f cdv)) → (A.deeper (envOfC qual (defScope st) s.heap.objs.size f cdv)).guards = some [] →
      PE (cxOf CX0 P w K mg base N qual (defScope st) f cdv A outer s H E).nox e (tL K [] fl)) : FnG P w K mg base (k + 1) f fd ps (spL K ps.length (runL N.length fl)) := by
  have hp := pre_le S
  refine fnG T S (fun vs H Q E ⟨F, ds, es, _, r, hl, _⟩ => r.len.trans hl) fun cdv A outer s H vs Q E hr hgd ⟨F, ds, es, fo, r, hl, hm, q⟩ => ⟨_, by rw [hbd]; exact pss_one (ps_ret (hb cdv A outer s H E hr hgd)), ?_⟩
  have c0 := cr0 (ow := []) (N := N) fo r (by rw [r.len]; omega) (fun i h => by cases h)
  unfold runL at hm
  obtain ⟨⟨es', ρ'⟩, h1, h2⟩ := Option.map_eq_some_iff.mp hm
  cases h2
  refine ⟨_, F, _, _, _, c0, h1, fun p us H' F' c l np hp nf hn r' => ?_⟩
  refine q p us H' F' ⟨fun a o e => ?_, c.b2, c.b3, c.fo⟩ np hp nf r'
  rcases c.b1 a o e with z | z
  · cases z
  · exact z
end
section
variable {X : Cx} {ow : List Nat} {k : Nat} {f : Addr} {fd : FuncData} {ps : List Str} {x : Str} {p pos : Pos} {e : Expr} {es : List Expr} {fs : Md (List Da)}
def mFnL (n : Nat) (g : List Da → Option (List Da)) (fs : Md (List Da)) : Md (List Da) := mBind fs fun ds => if ds.length = n then mOpt (g ds) else fun _ => none
theorem l_call {n : Nat} {mf : List Da → Option (List Da)} (G : FnG X.prog X.w X.K X.mg X.base k f fd ps (spL X.K n mf)) (hr : Room k X.A) (hgd : X.A.guards = some []) (hg : Gl X x) (hm : X.mg x = some (.ref f)) (hk : PySem.W.keepIn X.K (.ref f) = true) (hb : Binds X.K fd ps [])
    (ha : GA X ow (e :: es) fs) (hdb : (x == ("__debug__" : Str)) = false := by decide) (he : starEach (e :: es) X.env = (false, eval e X.env) :: starEach es X.env := by rfl) (hpl : (backTo pos (starEach es X.env)).any (·.1) = false := by rfl) :
    GL X ow (.Call (.Name x p) (e :: es) [] pos) (mFnL n mf fs) := pe_w (pe_callG G hr hgd hg hm hk hb ha hdb he hpl) fun σ H Q ⟨B, F, ρ, d, ρ', c, hf, q⟩ => by
  obtain ⟨ds, ρ1, h1, hf⟩ := bind_inv hf
  by_cases hl : ds.length = n
  · rw [if_pos hl] at hf
    obtain ⟨hg2, rfl⟩ := opt_inv hf
    refine ⟨B, F, ρ, ds, _, c, h1, fun vs H1 F1 c1 l1 r1 => ?_⟩
    refine ⟨F1, ds, d, c1.fo, r1, hl, hg2, fun p us H2 F2 gr np hp nf r2 => ?_⟩
    exact q p us H2 F2 (c1.grow gr) (l1.trans (gr.le c1.fo)) (l1.back np) hp nf (c1.away np) r2
  · rw [if_neg hl] at hf
    cases hf
/-- list(xs), as a new list -/
theorem l_list (hg : Gl X "list") (hm : X.mg "list" = none) (ha : GA X ow [e] fs) (he : starEach [e] X.env = (false, eval e X.env) :: starEach [] X.env := by rfl) (hpl : (backTo pos (starEach [] X.env)).any (·.1) = false := by rfl) :
    GL X ow (.Call (.Name "list" p) [e] [] pos) (mBind fs fun ds => mOpt (gListOf ds)) := pe_w (pe_callTy call_list_of hg hm (by decide +kernel) ha (by decide) (by decide) he hpl) fun σ H Q ⟨B, F, ρ, d, ρ', c, hf, q⟩ => by
  obtain ⟨ds, ρ1, h1, hf⟩ := bind_inv hf
  obtain ⟨hg2, rfl⟩ := opt_inv hf
  refine ⟨B, F, ρ, ds, _, c, h1, fun vs H1 F1 c1 l1 r1 => ?_⟩
  unfold gListOf at hg2
  split at hg2
  · obtain ⟨v, ev, hv⟩ := r1.bw.one
    obtain ⟨a, ys, e2, s, t⟩ := items_go hv hg2
    refine ⟨a, ys, by rw [ev, e2], s, fun l nl => ?_⟩
    have gr := Gr.new0 (o := .lst ys) c1.fo nl
    exact q l ys _ F1 (c1.grow gr) (l1.trans (gr.le c1.fo)) (l1.back nl) upd_same (fun z => c1.fo l z nl) (c1.away nl) (t.st (gr.stay c1.fo))
  · cases hg2
/-- f(new list, ..), f changes its first argument: that list is forgotten -/
def mFnIF (n : Nat) (g : List Da → List Da → Option (Da × List Da)) (fl fs : Md (List Da)) : Md Da := mBind fl fun pds => mBind fs fun ds => if ds.length + 1 = n then mOpt ((g pds ds).map (·.1)) else fun _ => none
theorem e_callIF {n : Nat} {fl : Md (List Da)} {mf : List Da → List Da → Option (Da × List Da)} (G : FnG X.prog X.w X.K X.mg X.base k f fd ps (spI X.K n mf)) (hr : Room k X.A) (hgd : X.A.guards = some []) (hg : Gl X x) (hm : X.mg x = some (.ref f)) (hk : PySem.W.keepIn X.K (.ref f) = true) (hb : Binds X.K fd ps [])
    (h1 : GL X ow e fl) (ha : GA X ow es fs) (hdb : (x == ("__debug__" : Str)) = false := by decide) (he : starEach (e :: es) X.env = (false, eval e X.env) :: starEach es X.env := by rfl) (hpl : (backTo pos (starEach es X.env)).any (·.1) = false := by rfl) :
    GE X ow (.Call (.Name x p) (e :: es) [] pos) (mFnIF n mf fl fs) := pe_w (pe_callG G hr hgd hg hm hk hb (pa_cons h1 ha he) hdb he hpl) fun σ H Q ⟨B, F, ρ, d, ρ', c, hf, q⟩ => by
  obtain ⟨pds, ρ1, g1, hf⟩ := bind_inv hf
  obtain ⟨ds, ρ2, g2, hf⟩ := bind_inv hf
  split at hf
  · rename_i hl
    obtain ⟨hg2, rfl⟩ := opt_inv hf
    obtain ⟨⟨d', pds'⟩, hg3, ed⟩ := Option.map_eq_some_iff.mp hg2
    cases ed
    refine ⟨B, F, ρ, pds, ρ1, c, g1, fun p0 pv H1 F1 c1 l1 np hp nf hn rp => ?_⟩
    have nb := c.new np
    have nBF : ¬ B.F p0 := fun z => nf (c1.b2 p0 z)
    have nP : B.pen ≠ some p0 := fun z => by
      obtain ⟨h0, h2, d, h3⟩ := c1.pn p0 z
      exact hn 0 d h3 h0 h2
    refine ⟨B.plus p0 (.lst pv), F1, ρ1, ds, _, c1.plus hp nf nb hn, g2, fun us H2 F2 c2 l2 r2 => ?_⟩
    obtain ⟨c3, hp3, nf3, hn3⟩ := c2.minus nb nP nBF
    refine ⟨F2, p0, pv, pds, us, ds, _, pds', rfl, c3.fo, nf3, hp3, rp.st l2.st, r2, hl, hg3, fun v H3 F3 pv' bt hp4 rp4 r4 => ?_⟩
    have le := bt.le c3.fo nf3 hp3 hp4
    have c4 : Cr X.K B ow σ H3 F3 ρ' := by
      refine ⟨c3.len, fun i d h1 h2 => ?_, fun i d h1 h2 => ?_, c3.dj, bt.fo, fun a o e => ?_, fun a z => bt.kp a (c3.b2 a z), fun a z => ?_, c3.pn⟩
      · obtain ⟨v, e, r⟩ := c3.sl i d h1 h2
        exact ⟨v, e, r.st le.st⟩
      · obtain ⟨q', es', us', e1, e2, e3, e4, e5, e6⟩ := c3.lo i d h1 h2
        refine ⟨q', es', us', e1, e2, bt.ex q' _ (fun z => hn3 i d h1 h2 (by rw [← z]; exact e2)) e3, fun z => ?_, e5, e6.st le.st⟩
        rcases bt.nw q' z with z | z
        · exact e4 z
        · rw [e3] at z; cases z
      · rcases c3.b1 a o e with z | z
        · exact .inl z
        · exact .inr (bt.ex a o (fun w => by rw [w, nb] at e; cases e) z)
      · rcases bt.nw a z with y | y
        · exact c3.b3 a y
        · exact .inr (c3.new y)
    exact q v H3 F3 c4 ((l1.trans l2).trans le) r4
  · cases hf
def gNeg : Da → Option Da
  | .int i => some (.int (-i))
  | _ => none
theorem od_neg {K : PySem.W.Frag} : UnD K (rU fun i => .int (-i)) gNeg := fun H F x dx d fo hx hg Q q => by
  unfold gNeg at hg
  split at hg
  · cases hg
    exact ⟨_, hx.int_inv, q _ H F (Gr.refl fo) (.int _)⟩
  · cases hg
end

/-! ### where the built-in names lead -/
theorem bt_len : bootBuiltins "len" = some (.builtin "len") := by decide +kernel
theorem bt_repr : bootBuiltins "repr" = some (.builtin "repr") := by decide +kernel
theorem bt_any : bootBuiltins "any" = some (.builtin "any") := by decide +kernel
theorem bt_all : bootBuiltins "all" = some (.builtin "all") := by decide +kernel
theorem bt_sum : bootBuiltins "sum" = some (.builtin "sum") := by decide +kernel
theorem bt_max : bootBuiltins "max" = some (.builtin "max") := by decide +kernel
theorem bt_min : bootBuiltins "min" = some (.builtin "min") := by decide +kernel
theorem bt_sorted : bootBuiltins "sorted" = some (.builtin "sorted") := by decide +kernel
theorem bt_tuple : bootBuiltins "tuple" = some (.type "tuple") := by decide +kernel
theorem bt_list : bootBuiltins "list" = some (.type "list") := by decide +kernel
theorem bt_int : bootBuiltins "int" = some (.type "int") := by decide +kernel
theorem bt_bool : bootBuiltins "bool" = some (.type "bool") := by decide +kernel
theorem bt_str : bootBuiltins "str" = some (.type "str") := by decide +kernel
theorem bt_set : bootBuiltins "set" = some (.type "set") := by decide +kernel
theorem io_tuple : isiOk "tuple" = true := by decide +kernel
theorem io_int : isiOk "int" = true := by decide +kernel
theorem io_bool : isiOk "bool" = true := by decide +kernel
theorem io_str : isiOk "str" = true := by decide +kernel
theorem io_list : isiOk "list" = true := by decide +kernel
end Mir

set_option Elab.async false
set_option linter.all false
set_option maxRecDepth 100000
set_option maxHeartbeats 4000000
namespace MirT
open PySem PySem.Spec PyProof.Rows L2 Mir
theorem un65 {k : Nat} {A : Around} (hr : Room k A) : A.units + 65 < cLine := by
  have := hr.un
  omega
abbrev topS (i : Nat) : Stmt := PySem.Challenge.pw_rootalarms_k30_certain_by_hand.main.body.getD i (.Pass ⟨0, 0, 0, 0⟩)
abbrev s_is_component : Stmt := topS 10
abbrev n_is_component : List Str := ["net", "thing"]
theorem c_is_component : FnScope n_is_component ["net", "thing"] (defScope s_is_component) := ⟨rfl, rfl, rfl, by decide +kernel, rfl, by decide +kernel, by decide +kernel⟩
abbrev s_is_set_of : Stmt := topS 11
abbrev n_is_set_of : List Str := ["net", "thing", "last", "part"]
theorem c_is_set_of : FnScope n_is_set_of ["net", "thing"] (defScope s_is_set_of) := ⟨rfl, rfl, rfl, by decide +kernel, rfl, by decide +kernel, by decide +kernel⟩
abbrev s_is_net : Stmt := topS 7
abbrev n_is_net : List Str := ["thing", "component", "needs"]
theorem c_is_net : FnScope n_is_net ["thing"] (defScope s_is_net) := ⟨rfl, rfl, rfl, by decide +kernel, rfl, by decide +kernel, by decide +kernel⟩
abbrev s_check_net : Stmt := topS 8
abbrev n_check_net : List Str := ["net"]
theorem c_check_net : FnScope n_check_net ["net"] (defScope s_check_net) := ⟨rfl, rfl, rfl, by decide +kernel, rfl, by decide +kernel, by decide +kernel⟩
abbrev s_is_report_of : Stmt := topS 19
abbrev n_is_report_of : List Str := ["net", "thing", "word"]
theorem c_is_report_of : FnScope n_is_report_of ["net", "thing"] (defScope s_is_report_of) := ⟨rfl, rfl, rfl, by decide +kernel, rfl, by decide +kernel, by decide +kernel⟩
abbrev s_check_report : Stmt := topS 18
abbrev n_check_report : List Str := ["net", "report"]
theorem c_check_report : FnScope n_check_report ["net", "report"] (defScope s_check_report) := ⟨rfl, rfl, rfl, by decide +kernel, rfl, by decide +kernel, by decide +kernel⟩
abbrev s_reach_of : Stmt := topS 12
abbrev n_reach_of : List Str := ["net", "component", "seen", "waiting", "current", "need", "other"]
theorem c_reach_of : FnScope n_reach_of ["net", "component"] (defScope s_reach_of) := ⟨rfl, rfl, rfl, by decide +kernel, rfl, by decide +kernel, by decide +kernel⟩
abbrev s_reaches : Stmt := topS 13
abbrev n_reaches : List Str := ["net", "component"]
theorem c_reaches : FnScope n_reaches ["net"] (defScope s_reaches) := ⟨rfl, rfl, rfl, by decide +kernel, rfl, by decide +kernel, by decide +kernel⟩
abbrev s_those_with : Stmt := topS 23
abbrev n_those_with : List Str := ["report", "word", "component", "found"]
theorem c_those_with : FnScope n_those_with ["report", "word"] (defScope s_those_with) := ⟨rfl, rfl, rfl, by decide +kernel, rfl, by decide +kernel, by decide +kernel⟩
abbrev s_clearers : Stmt := topS 24
abbrev n_clearers : List Str := ["far", "report", "component", "quiet"]
theorem c_clearers : FnScope n_clearers ["far", "report", "component"] (defScope s_clearers) := ⟨rfl, rfl, rfl, by decide +kernel, rfl, by decide +kernel, by decide +kernel⟩
abbrev s_suspects : Stmt := topS 25
abbrev n_suspects : List Str := ["far", "report", "component", "part"]
theorem c_suspects : FnScope n_suspects ["far", "report", "component"] (defScope s_suspects) := ⟨rfl, rfl, rfl, by decide +kernel, rfl, by decide +kernel, by decide +kernel⟩
abbrev s_unexplained : Stmt := topS 27
abbrev n_unexplained : List Str := ["far", "report", "alarm"]
theorem c_unexplained : FnScope n_unexplained ["far", "report"] (defScope s_unexplained) := ⟨rfl, rfl, rfl, by decide +kernel, rfl, by decide +kernel, by decide +kernel⟩
abbrev s_accusers : Stmt := topS 34
abbrev n_accusers : List Str := ["far", "report", "component", "alarm"]
theorem c_accusers : FnScope n_accusers ["far", "report", "component"] (defScope s_accusers) := ⟨rfl, rfl, rfl, by decide +kernel, rfl, by decide +kernel, by decide +kernel⟩
abbrev s_state_of : Stmt := topS 35
abbrev n_state_of : List Str := ["far", "report", "component"]
theorem c_state_of : FnScope n_state_of ["far", "report", "component"] (defScope s_state_of) := ⟨rfl, rfl, rfl, by decide +kernel, rfl, by decide +kernel, by decide +kernel⟩
abbrev s_certain : Stmt := topS 29
abbrev n_certain : List Str := ["net", "report", "far", "component"]
theorem c_certain : FnScope n_certain ["net", "report"] (defScope s_certain) := ⟨rfl, rfl, rfl, by decide +kernel, rfl, by decide +kernel, by decide +kernel⟩
abbrev s_is_within : Stmt := topS 15
abbrev n_is_within : List Str := ["part", "whole", "component"]
theorem c_is_within : FnScope n_is_within ["part", "whole"] (defScope s_is_within) := ⟨rfl, rfl, rfl, by decide +kernel, rfl, by decide +kernel, by decide +kernel⟩
abbrev s_expected_of : Stmt := topS 36
abbrev n_expected_of : List Str := ["far", "report", "component", "own", "alarm"]
theorem c_expected_of : FnScope n_expected_of ["far", "report", "component"] (defScope s_expected_of) := ⟨rfl, rfl, rfl, by decide +kernel, rfl, by decide +kernel, by decide +kernel⟩
abbrev s_expected : Stmt := topS 30
abbrev n_expected : List Str := ["net", "report", "far", "component"]
theorem c_expected : FnScope n_expected ["net", "report"] (defScope s_expected) := ⟨rfl, rfl, rfl, by decide +kernel, rfl, by decide +kernel, by decide +kernel⟩
abbrev s_Lis_equal : Stmt := topS 41
abbrev n_Lis_equal : List Str := ["_law_actual", "_law_due"]
theorem c_Lis_equal : FnScope n_Lis_equal ["_law_actual", "_law_due"] (defScope s_Lis_equal) := ⟨rfl, rfl, rfl, by decide +kernel, rfl, by decide +kernel, by decide +kernel⟩
abbrev s_check_component : Stmt := topS 9
abbrev n_check_component : List Str := ["net", "component"]
theorem c_check_component : FnScope n_check_component ["net", "component"] (defScope s_check_component) := ⟨rfl, rfl, rfl, by decide +kernel, rfl, by decide +kernel, by decide +kernel⟩
abbrev s_all_candidates : Stmt := topS 26
abbrev n_all_candidates : List Str := ["far", "report", "component"]
theorem c_all_candidates : FnScope n_all_candidates ["far", "report"] (defScope s_all_candidates) := ⟨rfl, rfl, rfl, by decide +kernel, rfl, by decide +kernel, by decide +kernel⟩
abbrev s_witness : Stmt := topS 31
abbrev n_witness : List Str := ["net", "report", "component", "far", "state", "one", "part"]
theorem c_witness : FnScope n_witness ["net", "report", "component"] (defScope s_witness) := ⟨rfl, rfl, rfl, by decide +kernel, rfl, by decide +kernel, by decide +kernel⟩
abbrev s_meets : Stmt := topS 14
abbrev n_meets : List Str := ["one", "other", "part"]
theorem c_meets : FnScope n_meets ["one", "other"] (defScope s_meets) := ⟨rfl, rfl, rfl, by decide +kernel, rfl, by decide +kernel, by decide +kernel⟩
abbrev s_told_by : Stmt := topS 22
abbrev n_told_by : List Str := ["far", "broken", "watched", "component"]
theorem c_told_by : FnScope n_told_by ["far", "broken", "watched", "component"] (defScope s_told_by) := ⟨rfl, rfl, rfl, by decide +kernel, rfl, by decide +kernel, by decide +kernel⟩
abbrev s_told : Stmt := topS 21
abbrev n_told : List Str := ["far", "broken", "watched", "component"]
theorem c_told : FnScope n_told ["far", "broken", "watched"] (defScope s_told) := ⟨rfl, rfl, rfl, by decide +kernel, rfl, by decide +kernel, by decide +kernel⟩
abbrev s_is_explanation : Stmt := topS 20
abbrev n_is_explanation : List Str := ["net", "report", "thing", "watched", "component", "word"]
theorem c_is_explanation : FnScope n_is_explanation ["net", "report", "thing"] (defScope s_is_explanation) := ⟨rfl, rfl, rfl, by decide +kernel, rfl, by decide +kernel, by decide +kernel⟩
abbrev s_is_choice : Stmt := topS 33
abbrev n_is_choice : List Str := ["net", "report", "component", "one", "other"]
theorem c_is_choice : FnScope n_is_choice ["net", "report", "component", "one", "other"] (defScope s_is_choice) := ⟨rfl, rfl, rfl, by decide +kernel, rfl, by decide +kernel, by decide +kernel⟩
abbrev s_shows_witness : Stmt := topS 32
abbrev n_shows_witness : List Str := ["net", "report", "component", "thing", "far"]
theorem c_shows_witness : FnScope n_shows_witness ["net", "report", "component", "thing"] (defScope s_shows_witness) := ⟨rfl, rfl, rfl, by decide +kernel, rfl, by decide +kernel, by decide +kernel⟩
abbrev s_Loverview_right : Stmt := topS 42
abbrev n_Loverview_right : List Str := ["_law_net", "_law_report", "_law_told", "_law_due"]
theorem c_Loverview_right : FnScope n_Loverview_right [] (defScope s_Loverview_right) := ⟨rfl, rfl, rfl, by decide +kernel, rfl, by decide +kernel, by decide +kernel⟩
abbrev s_Lring_right : Stmt := topS 43
abbrev n_Lring_right : List Str := ["_law_net", "_law_told", "_law_due", "_law_report", "_law_one"]
theorem c_Lring_right : FnScope n_Lring_right [] (defScope s_Lring_right) := ⟨rfl, rfl, rfl, by decide +kernel, rfl, by decide +kernel, by decide +kernel⟩
abbrev s_Lapart_right : Stmt := topS 44
abbrev n_Lapart_right : List Str := ["_law_size", "_law_net", "_law_told", "_law_words"]
theorem c_Lapart_right : FnScope n_Lapart_right ["_law_size"] (defScope s_Lapart_right) := ⟨rfl, rfl, rfl, by decide +kernel, rfl, by decide +kernel, by decide +kernel⟩
abbrev s_Ldraw : Stmt := topS 40
abbrev n_Ldraw : List Str := ["_law_supply", "_law_many", "_law_found", "_law_mixed"]
theorem c_Ldraw : FnScope n_Ldraw ["_law_supply", "_law_many"] (defScope s_Ldraw) := ⟨rfl, rfl, rfl, by decide +kernel, rfl, by decide +kernel, by decide +kernel⟩
abbrev s_Lsource : Stmt := topS 39
abbrev n_Lsource : List Str := ["_law_cell_here"]
theorem c_Lsource : FnScope n_Lsource ["_law_cell_here"] (defScope s_Lsource) := ⟨rfl, rfl, rfl, by decide +kernel, rfl, by decide +kernel, by decide +kernel⟩
abbrev s_Lcell : Stmt := topS 38
abbrev n_Lcell : List Str := ["_law_script", "_law_index"]
theorem c_Lcell : FnScope n_Lcell ["_law_script", "_law_index"] (defScope s_Lcell) := ⟨rfl, rfl, rfl, by decide +kernel, rfl, by decide +kernel, by decide +kernel⟩
abbrev s_law : Stmt := topS 45
abbrev n_law : List Str := ["_law_script", "_law_k"]
theorem c_law : FnScope n_law ["_law_script"] (defScope s_law) := ⟨rfl, rfl, rfl, by decide +kernel, rfl, by decide +kernel, by decide +kernel⟩
structure Txt (K : PySem.W.Frag) (mg : Str → Option Value) where
  a_is_component : Addr
  d_is_component : FuncData
  F_is_component : Fun K "is_component" "is_component" s_is_component a_is_component d_is_component
  B_is_component : Binds K d_is_component ["net", "thing"] []
  g_is_component : mg "is_component" = some (.ref a_is_component)
  a_is_set_of : Addr
  d_is_set_of : FuncData
  F_is_set_of : Fun K "is_set_of" "is_set_of" s_is_set_of a_is_set_of d_is_set_of
  B_is_set_of : Binds K d_is_set_of ["net", "thing"] []
  g_is_set_of : mg "is_set_of" = some (.ref a_is_set_of)
  a_is_net : Addr
  d_is_net : FuncData
  F_is_net : Fun K "is_net" "is_net" s_is_net a_is_net d_is_net
  B_is_net : Binds K d_is_net ["thing"] []
  g_is_net : mg "is_net" = some (.ref a_is_net)
  a_check_net : Addr
  d_check_net : FuncData
  F_check_net : Fun K "check_net" "check_net" s_check_net a_check_net d_check_net
  B_check_net : Binds K d_check_net ["net"] []
  g_check_net : mg "check_net" = some (.ref a_check_net)
  a_is_report_of : Addr
  d_is_report_of : FuncData
  F_is_report_of : Fun K "is_report_of" "is_report_of" s_is_report_of a_is_report_of d_is_report_of
  B_is_report_of : Binds K d_is_report_of ["net", "thing"] []
  g_is_report_of : mg "is_report_of" = some (.ref a_is_report_of)
  a_check_report : Addr
  d_check_report : FuncData
  F_check_report : Fun K "check_report" "check_report" s_check_report a_check_report d_check_report
  B_check_report : Binds K d_check_report ["net", "report"] []
  g_check_report : mg "check_report" = some (.ref a_check_report)
  a_reach_of : Addr
  d_reach_of : FuncData
  F_reach_of : Fun K "reach_of" "reach_of" s_reach_of a_reach_of d_reach_of
  B_reach_of : Binds K d_reach_of ["net", "component"] []
  g_reach_of : mg "reach_of" = some (.ref a_reach_of)
  a_reaches : Addr
  d_reaches : FuncData
  F_reaches : Fun K "reaches" "reaches" s_reaches a_reaches d_reaches
  B_reaches : Binds K d_reaches ["net"] []
  g_reaches : mg "reaches" = some (.ref a_reaches)
  a_those_with : Addr
  d_those_with : FuncData
  F_those_with : Fun K "those_with" "those_with" s_those_with a_those_with d_those_with
  B_those_with : Binds K d_those_with ["report", "word"] []
  g_those_with : mg "those_with" = some (.ref a_those_with)
  a_clearers : Addr
  d_clearers : FuncData
  F_clearers : Fun K "clearers" "clearers" s_clearers a_clearers d_clearers
  B_clearers : Binds K d_clearers ["far", "report", "component"] []
  g_clearers : mg "clearers" = some (.ref a_clearers)
  a_suspects : Addr
  d_suspects : FuncData
  F_suspects : Fun K "suspects" "suspects" s_suspects a_suspects d_suspects
  B_suspects : Binds K d_suspects ["far", "report", "component"] []
  g_suspects : mg "suspects" = some (.ref a_suspects)
  a_unexplained : Addr
  d_unexplained : FuncData
  F_unexplained : Fun K "unexplained" "unexplained" s_unexplained a_unexplained d_unexplained
  B_unexplained : Binds K d_unexplained ["far", "report"] []
  g_unexplained : mg "unexplained" = some (.ref a_unexplained)
  a_accusers : Addr
  d_accusers : FuncData
  F_accusers : Fun K "accusers" "accusers" s_accusers a_accusers d_accusers
  B_accusers : Binds K d_accusers ["far", "report", "component"] []
  g_accusers : mg "accusers" = some (.ref a_accusers)
  a_state_of : Addr
  d_state_of : FuncData
  F_state_of : Fun K "state_of" "state_of" s_state_of a_state_of d_state_of
  B_state_of : Binds K d_state_of ["far", "report", "component"] []
  g_state_of : mg "state_of" = some (.ref a_state_of)
  a_certain : Addr
  d_certain : FuncData
  F_certain : Fun K "certain" "certain" s_certain a_certain d_certain
  B_certain : Binds K d_certain ["net", "report"] []
  g_certain : mg "certain" = some (.ref a_certain)
  a_is_within : Addr
  d_is_within : FuncData
  F_is_within : Fun K "is_within" "is_within" s_is_within a_is_within d_is_within
  B_is_within : Binds K d_is_within ["part", "whole"] []
  g_is_within : mg "is_within" = some (.ref a_is_within)
  a_expected_of : Addr
  d_expected_of : FuncData
  F_expected_of : Fun K "expected_of" "expected_of" s_expected_of a_expected_of d_expected_of
  B_expected_of : Binds K d_expected_of ["far", "report", "component"] []
  g_expected_of : mg "expected_of" = some (.ref a_expected_of)
  a_expected : Addr
  d_expected : FuncData
  F_expected : Fun K "expected" "expected" s_expected a_expected d_expected
  B_expected : Binds K d_expected ["net", "report"] []
  g_expected : mg "expected" = some (.ref a_expected)
  a_Lis_equal : Addr
  d_Lis_equal : FuncData
  F_Lis_equal : Fun K "_law_is_equal" "_law_is_equal" s_Lis_equal a_Lis_equal d_Lis_equal
  B_Lis_equal : Binds K d_Lis_equal ["_law_actual", "_law_due"] []
  g_Lis_equal : mg "_law_is_equal" = some (.ref a_Lis_equal)
  a_check_component : Addr
  d_check_component : FuncData
  F_check_component : Fun K "check_component" "check_component" s_check_component a_check_component d_check_component
  B_check_component : Binds K d_check_component ["net", "component"] []
  g_check_component : mg "check_component" = some (.ref a_check_component)
  a_all_candidates : Addr
  d_all_candidates : FuncData
  F_all_candidates : Fun K "all_candidates" "all_candidates" s_all_candidates a_all_candidates d_all_candidates
  B_all_candidates : Binds K d_all_candidates ["far", "report"] []
  g_all_candidates : mg "all_candidates" = some (.ref a_all_candidates)
  a_witness : Addr
  d_witness : FuncData
  F_witness : Fun K "witness" "witness" s_witness a_witness d_witness
  B_witness : Binds K d_witness ["net", "report", "component"] []
  g_witness : mg "witness" = some (.ref a_witness)
  a_meets : Addr
  d_meets : FuncData
  F_meets : Fun K "meets" "meets" s_meets a_meets d_meets
  B_meets : Binds K d_meets ["one", "other"] []
  g_meets : mg "meets" = some (.ref a_meets)
  a_told_by : Addr
  d_told_by : FuncData
  F_told_by : Fun K "told_by" "told_by" s_told_by a_told_by d_told_by
  B_told_by : Binds K d_told_by ["far", "broken", "watched", "component"] []
  g_told_by : mg "told_by" = some (.ref a_told_by)
  a_told : Addr
  d_told : FuncData
  F_told : Fun K "told" "told" s_told a_told d_told
  B_told : Binds K d_told ["far", "broken", "watched"] []
  g_told : mg "told" = some (.ref a_told)
  a_is_explanation : Addr
  d_is_explanation : FuncData
  F_is_explanation : Fun K "is_explanation" "is_explanation" s_is_explanation a_is_explanation d_is_explanation
  B_is_explanation : Binds K d_is_explanation ["net", "report", "thing"] []
  g_is_explanation : mg "is_explanation" = some (.ref a_is_explanation)
  a_is_choice : Addr
  d_is_choice : FuncData
  F_is_choice : Fun K "is_choice" "is_choice" s_is_choice a_is_choice d_is_choice
  B_is_choice : Binds K d_is_choice ["net", "report", "component", "one", "other"] []
  g_is_choice : mg "is_choice" = some (.ref a_is_choice)
  a_shows_witness : Addr
  d_shows_witness : FuncData
  F_shows_witness : Fun K "shows_witness" "shows_witness" s_shows_witness a_shows_witness d_shows_witness
  B_shows_witness : Binds K d_shows_witness ["net", "report", "component", "thing"] []
  g_shows_witness : mg "shows_witness" = some (.ref a_shows_witness)
  a_Loverview_right : Addr
  d_Loverview_right : FuncData
  F_Loverview_right : Fun K "_law_overview_right" "_law_overview_right" s_Loverview_right a_Loverview_right d_Loverview_right
  B_Loverview_right : Binds K d_Loverview_right [] []
  g_Loverview_right : mg "_law_overview_right" = some (.ref a_Loverview_right)
  a_Lring_right : Addr
  d_Lring_right : FuncData
  F_Lring_right : Fun K "_law_ring_right" "_law_ring_right" s_Lring_right a_Lring_right d_Lring_right
  B_Lring_right : Binds K d_Lring_right [] []
  g_Lring_right : mg "_law_ring_right" = some (.ref a_Lring_right)
  a_Lapart_right : Addr
  d_Lapart_right : FuncData
  F_Lapart_right : Fun K "_law_apart_right" "_law_apart_right" s_Lapart_right a_Lapart_right d_Lapart_right
  B_Lapart_right : Binds K d_Lapart_right ["_law_size"] []
  g_Lapart_right : mg "_law_apart_right" = some (.ref a_Lapart_right)
  a_Ldraw : Addr
  d_Ldraw : FuncData
  F_Ldraw : Fun K "_law_draw" "_law_draw" s_Ldraw a_Ldraw d_Ldraw
  B_Ldraw : Binds K d_Ldraw ["_law_supply", "_law_many"] []
  g_Ldraw : mg "_law_draw" = some (.ref a_Ldraw)
  a_Lsource : Addr
  d_Lsource : FuncData
  F_Lsource : Fun K "_law_source" "_law_source" s_Lsource a_Lsource d_Lsource
  B_Lsource : Binds K d_Lsource ["_law_cell_here"] []
  g_Lsource : mg "_law_source" = some (.ref a_Lsource)
  a_Lcell : Addr
  d_Lcell : FuncData
  F_Lcell : Fun K "_law_cell" "_law_cell" s_Lcell a_Lcell d_Lcell
  B_Lcell : Binds K d_Lcell ["_law_script", "_law_index"] []
  g_Lcell : mg "_law_cell" = some (.ref a_Lcell)
  a_law : Addr
  d_law : FuncData
  F_law : Fun K "law" "law" s_law a_law d_law
  B_law : Binds K d_law ["_law_script"] []
  g_law : mg "law" = some (.ref a_law)
  t_MOST_COMPONENTS : Tok
  g_MOST_COMPONENTS : mg "MOST_COMPONENTS" = some (.int 8 t_MOST_COMPONENTS)
  a_WORDS : Addr
  g_WORDS : mg "WORDS" = some (.ref a_WORDS)
  r_WORDS : ∀ (H : Hp) (F : Frz), Rp K H F (.ref a_WORDS) (.tuple [(.str "alarm"), (.str "quiet"), (.str "unseen")])
  z_all : mg "all" = none
  z_any : mg "any" = none
  z_bool : mg "bool" = none
  z_enumerate : mg "enumerate" = none
  z_int : mg "int" = none
  z_isinstance : mg "isinstance" = none
  z_len : mg "len" = none
  z_max : mg "max" = none
  z_min : mg "min" = none
  z_range : mg "range" = none
  z_repr : mg "repr" = none
  z_str : mg "str" = none
  z_tuple : mg "tuple" = none
section
variable {P : Program} {w : World} {K : PySem.W.Frag} {mg : Str → Option Value} {base : Heap}
def b_is_component : Sm :=
    (mRt (mAndV (mUn (gIsi "int") (mVar 1)) (mAndV (mNotV (mUn (gIsi "bool") (mVar 1))) (mAndV (mOp gGe (mVar 1) (mRet (.int 0))) (mOp gLt (mVar 1) (mCall gLen (mCons (mVar 0) mNil)))))))
def m_is_component : List Da → Option Da := runP 2 b_is_component
theorem ok_is_component (T : Txt K mg) : FnG P w K mg base 1 T.a_is_component T.d_is_component ["net", "thing"] (spP K 2 m_is_component) :=
  fnP (k := 0) (N := n_is_component) (ow := []) (fb := b_is_component) T.F_is_component c_is_component (by decide) fun cdv A outer s H E hr hgd =>
    (b_one (s_ret (e_and (e_isi io_int (by rfl) T.z_isinstance (pe_bltn (by rfl) T.z_int bt_int rfl) (e_var (pv 1) (by decide))) (e_and (e_not (e_isi io_bool (by rfl) T.z_isinstance (pe_bltn (by rfl) T.z_bool bt_bool rfl) (e_var (pv 1) (by decide)))) (e_and (e_cmp op_ge od_c (e_var (pv 1) (by decide)) e_int (nomark _)) (e_one (e_cmp op_lt od_c (e_var (pv 1) (by decide)) (e_callB call_len_seq cd_len (by rfl) T.z_len bt_len (a_cons (e_var (pv 0) (by decide)) a_nil)) (nomark _))))))))
def b_is_set_of : Sm :=
    (mSeq (mIte (mNot (mTru (mUn (gIsi "tuple") (mVar 1)))) (mRt (mRet (.bool false))) mNx)
    (mSeq (mSet 2 (mUn gNeg (mRet (.int 1))))
    (mSeq (mFor (mBind (mVar 1) fun d => mOpt (asT d)) (fName 3) (mSeq (mIte (mOr (mNot (mTru (mFn 2 m_is_component (mCons (mVar 0) (mCons (mVar 3) mNil))))) (mB (mOp gLe (mVar 3) (mVar 2)))) (mRt (mRet (.bool false))) mNx)
    (mSet 2 (mVar 3))))
    (mRt (mRet (.bool true))))))
def m_is_set_of : List Da → Option Da := runP 4 b_is_set_of
theorem ok_is_set_of (T : Txt K mg) : FnG P w K mg base 2 T.a_is_set_of T.d_is_set_of ["net", "thing"] (spP K 2 m_is_set_of) :=
  fnP (k := 1) (N := n_is_set_of) (ow := []) (fb := b_is_set_of) T.F_is_set_of c_is_set_of (by decide) fun cdv A outer s H E hr hgd =>
    (b_cons (s_if (t_not (t_val (e_isi io_tuple (by rfl) T.z_isinstance (pe_bltn (by rfl) T.z_tuple bt_tuple rfl) (e_var (pv 1) (by decide))))) (b_one (s_ret e_bl)) b_nil)
    (b_cons (s_set (i := 2) c_is_set_of.nd rfl (Or.inl rfl) (by decide) (e_un un_neg od_neg e_int))
    (b_cons (s_for (ts := [3]) PassesOwn.never rfl (i_tup (e_var (pv 1) (by decide))) (g_name (pg_name (i := 3) c_is_set_of.nd rfl (by first | exact Or.inl rfl | exact Or.inr rfl)) (by decide)) (b_cons (s_if (t_w (w_or (t_not (t_val (e_call (ok_is_component T) (hr.mono (by decide)) hgd (by rfl) T.g_is_component T.F_is_component.kp T.B_is_component (a_cons (e_var (pv 0) (by decide)) (a_cons (e_var (pv 3) (by decide)) a_nil))))) (w_or1 (t_cmp op_le od_c (e_var (pv 3) (by decide)) (e_var (pv 2) (by decide)) (nomark _))))) (b_one (s_ret e_bl)) b_nil)
    (b_one (s_set (i := 2) c_is_set_of.nd rfl (Or.inl rfl) (by decide) (e_var (pv 3) (by decide))))))
    (b_one (s_ret e_bl)))))
def b_is_net : Sm :=
    (mSeq (mIte (mOr (mNot (mTru (mUn (gIsi "tuple") (mVar 0)))) (mOr (mB (mOp gLt (mCall gLen (mCons (mVar 0) mNil)) (mRet (.int 1)))) (mB (mOp gGt (mCall gLen (mCons (mVar 0) mNil)) (mRet (.int 8)))))) (mRt (mRet (.bool false))) mNx)
    (mSeq (mFor (mBind (mCons (mVar 0) mNil) fun ds => mOpt (enT ds)) (fTup 2 (fCons (fName 1) (fCons (fName 2) fNil))) (mIte (mOr (mNot (mTru (mFn 2 m_is_set_of (mCons (mVar 0) (mCons (mVar 2) mNil))))) (mB (mOp gIn (mVar 1) (mVar 2)))) (mRt (mRet (.bool false))) mNx))
    (mRt (mRet (.bool true)))))
def m_is_net : List Da → Option Da := runP 3 b_is_net
theorem ok_is_net (T : Txt K mg) : FnG P w K mg base 3 T.a_is_net T.d_is_net ["thing"] (spP K 1 m_is_net) :=
  fnP (k := 2) (N := n_is_net) (ow := []) (fb := b_is_net) T.F_is_net c_is_net (by decide) fun cdv A outer s H E hr hgd =>
    (b_cons (s_if (t_w (w_or (t_not (t_val (e_isi io_tuple (by rfl) T.z_isinstance (pe_bltn (by rfl) T.z_tuple bt_tuple rfl) (e_var (pv 0) (by decide))))) (w_or (t_cmp op_lt od_c (e_callB call_len_seq cd_len (by rfl) T.z_len bt_len (a_cons (e_var (pv 0) (by decide)) a_nil)) e_int (nomark _)) (w_or1 (t_cmp op_gt od_c (e_callB call_len_seq cd_len (by rfl) T.z_len bt_len (a_cons (e_var (pv 0) (by decide)) a_nil)) (e_c (pe_glob (v := .int 8) (by rfl) T.g_MOST_COMPONENTS ⟨_, rfl⟩) (fun _ _ => .int 8)) (nomark _)))))) (b_one (s_ret e_bl)) b_nil)
    (b_cons (s_for (ts := ([1] ++ ([2] ++ []))) PassesOwn.never rfl (i_enumT (by rfl) T.z_enumerate (a_cons (e_var (pv 0) (by decide)) a_nil)) (g_tup rfl (gs_cons (g_name (pg_name (i := 1) c_is_net.nd rfl (by first | exact Or.inl rfl | exact Or.inr rfl)) (by decide)) (gs_cons (g_name (pg_name (i := 2) c_is_net.nd rfl (by first | exact Or.inl rfl | exact Or.inr rfl)) (by decide)) gs_nil))) (b_one (s_if (t_w (w_or (t_not (t_val (e_call (ok_is_set_of T) (hr.mono (by decide)) hgd (by rfl) T.g_is_set_of T.F_is_set_of.kp T.B_is_set_of (a_cons (e_var (pv 0) (by decide)) (a_cons (e_var (pv 2) (by decide)) a_nil))))) (w_or1 (t_cmp (or_in (un65 hr)) od_in (e_var (pv 1) (by decide)) (e_var (pv 2) (by decide)) (by rfl))))) (b_one (s_ret e_bl)) b_nil)))
    (b_one (s_ret e_bl))))
def b_check_net : Sm :=
    (mIte (mNot (mTru (mFn 1 m_is_net (mCons (mVar 0) mNil)))) mNever mNx)
def m_check_net : List Da → Option Da := runP 1 b_check_net
theorem ok_check_net (T : Txt K mg) : FnG P w K mg base 4 T.a_check_net T.d_check_net ["net"] (spP K 1 m_check_net) :=
  fnP (k := 3) (N := n_check_net) (ow := []) (fb := b_check_net) T.F_check_net c_check_net (by decide) fun cdv A outer s H E hr hgd =>
    (b_one (s_if (t_not (t_val (e_call (ok_is_net T) (hr.mono (by decide)) hgd (by rfl) T.g_is_net T.F_is_net.kp T.B_is_net (a_cons (e_var (pv 0) (by decide)) a_nil)))) (b_one s_never) b_nil))
def b_is_report_of : Sm :=
    (mSeq (mIte (mOr (mNot (mTru (mUn (gIsi "tuple") (mVar 1)))) (mB (mOp gNe (mCall gLen (mCons (mVar 1) mNil)) (mCall gLen (mCons (mVar 0) mNil))))) (mRt (mRet (.bool false))) mNx)
    (mRt (mCall gAll (mCons (mOfL (mLc (mBind (mVar 1) fun d => mOpt (asT d)) (fName 2) (mRet true) (mAndV (mUn (gIsi "str") (mVar 2)) (mOp gIn (mVar 2) (mRet (.tuple [(.str "alarm"), (.str "quiet"), (.str "unseen")])))) [2])) mNil))))
def m_is_report_of : List Da → Option Da := runP 3 b_is_report_of
theorem ok_is_report_of (T : Txt K mg) : FnG P w K mg base 1 T.a_is_report_of T.d_is_report_of ["net", "thing"] (spP K 2 m_is_report_of) :=
  fnP (k := 0) (N := n_is_report_of) (ow := []) (fb := b_is_report_of) T.F_is_report_of c_is_report_of (by decide) fun cdv A outer s H E hr hgd =>
    (b_cons (s_if (t_w (w_or (t_not (t_val (e_isi io_tuple (by rfl) T.z_isinstance (pe_bltn (by rfl) T.z_tuple bt_tuple rfl) (e_var (pv 1) (by decide))))) (w_or1 (t_cmp (or_ne hr.units) od_ne (e_callB call_len_seq cd_len (by rfl) T.z_len bt_len (a_cons (e_var (pv 1) (by decide)) a_nil)) (e_callB call_len_seq cd_len (by rfl) T.z_len bt_len (a_cons (e_var (pv 0) (by decide)) a_nil)) (nomark _))))) (b_one (s_ret e_bl)) b_nil)
    (b_one (s_ret (e_callB (cr_all rfl) cd_all (by rfl) T.z_all bt_all (a_cons (e_fz (l_lc (own := [("word", 2)]) (ts := [2]) rfl c_is_report_of.nd (i_tup (e_var (pv 1) (by decide))) (blkOk_by (N := n_is_report_of) (sc := (defScope s_is_report_of)) (own := [("word", 2)]) (by decide +kernel)) (fun _ _ _ _ _ => (g_name (pg_name (i := 2) c_is_report_of.nd rfl (by first | exact Or.inl rfl | exact Or.inr rfl)) (by decide))) (fun _ _ _ _ _ => ts_nil) (fun _ _ _ _ _ => (e_and (e_isi io_str (by rfl) T.z_isinstance (pe_bltn (by rfl) T.z_str bt_str rfl) (e_var (pv 2) (by decide))) (e_one (e_cmp (or_in (un65 hr)) od_in (e_var (pv 2) (by decide)) (e_c (pe_glob (v := .ref T.a_WORDS) (by rfl) T.g_WORDS rfl) (fun H F => T.r_WORDS H F)) (by rfl))))) (by decide) (by decide))) a_nil)))))
def b_check_report : Sm :=
    (mSeq (mDrop (mFn 1 m_check_net (mCons (mVar 0) mNil)))
    (mIte (mNot (mTru (mFn 2 m_is_report_of (mCons (mVar 0) (mCons (mVar 1) mNil))))) mNever mNx))
def m_check_report : List Da → Option Da := runP 2 b_check_report
theorem ok_check_report (T : Txt K mg) : FnG P w K mg base 5 T.a_check_report T.d_check_report ["net", "report"] (spP K 2 m_check_report) :=
  fnP (k := 4) (N := n_check_report) (ow := []) (fb := b_check_report) T.F_check_report c_check_report (by decide) fun cdv A outer s H E hr hgd =>
    (b_cons (s_expr (e_call (ok_check_net T) (hr.mono (by decide)) hgd (by rfl) T.g_check_net T.F_check_net.kp T.B_check_net (a_cons (e_var (pv 0) (by decide)) a_nil)))
    (b_one (s_if (t_not (t_val (e_call (ok_is_report_of T) (hr.mono (by decide)) hgd (by rfl) T.g_is_report_of T.F_is_report_of.kp T.B_is_report_of (a_cons (e_var (pv 0) (by decide)) (a_cons (e_var (pv 1) (by decide)) a_nil))))) (b_one s_never) b_nil)))
def b_reach_of : Sm :=
    (mSeq (mSetO 2 (mLc (mBind (mCons (mCall gLen (mCons (mVar 0) mNil)) mNil) fun ds => mOpt (rng1 ds)) (fName 6) (mRet true) (mOp gEq (mVar 6) (mVar 1)) [6]))
    (mSeq (mSetO 3 (mSz (mCons (mVar 1) mNil)))
    (mSeq (mWhile (mTru1 3) (mSeq (mSet 4 (mPop 3))
    (mFor (mBind (mOp gIx (mVar 0) (mVar 4)) fun d => mOpt (asT d)) (fName 5) (mIte (mNot (mTru (mOp1 gIx 2 (mVar 5)))) (mSeq (mSetI 2 (mVar 5) (mRet (.bool true)))
    (mApp 3 (mVar 5))) mNx))) 200)
    (mRt (mCall gTupleOf (mCons (mOfL (mLc (mBind (mCons (mCall gLen (mCons (mVar 0) mNil)) mNil) fun ds => mOpt (rng1 ds)) (fName 6) (mTru (mOp1 gIx 2 (mVar 6))) (mVar 6) [6])) mNil))))))
def m_reach_of : List Da → Option Da := runP 7 b_reach_of
theorem ok_reach_of (T : Txt K mg) : FnG P w K mg base 1 T.a_reach_of T.d_reach_of ["net", "component"] (spP K 2 m_reach_of) :=
  fnP (k := 0) (N := n_reach_of) (ow := [2, 3]) (fb := b_reach_of) T.F_reach_of c_reach_of (by decide) fun cdv A outer s H E hr hgd =>
    (b_cons (s_setO (i := 2) c_reach_of.nd rfl (Or.inr rfl) (by decide) (by decide) (l_lc (own := [("other", 6)]) (ts := [6]) rfl c_reach_of.nd (i_rng1 (by rfl) T.z_range (a_cons (e_callB call_len_seq cd_len (by rfl) T.z_len bt_len (a_cons (e_var (pv 0) (by decide)) a_nil)) a_nil)) (blkOk_by (N := n_reach_of) (sc := (defScope s_reach_of)) (own := [("other", 6)]) (by decide +kernel)) (fun _ _ _ _ _ => (g_name (pg_name (i := 6) c_reach_of.nd rfl (by first | exact Or.inl rfl | exact Or.inr rfl)) (by decide))) (fun _ _ _ _ _ => ts_nil) (fun _ _ _ _ _ => (e_cmp (or_eq hr.units) od_eq (e_var (pv 6) (by decide)) (e_var (pv 1) (by decide)) (nomark _))) (by decide) (by decide)))
    (b_cons (s_setO (i := 3) c_reach_of.nd rfl (Or.inl rfl) (by decide) (by decide) (l_lst (a_cons (e_var (pv 1) (by decide)) a_nil)))
    (b_cons (s_while 200 PassesOwn.never (t_tru1 (pv 3) (by decide)) (b_cons (s_set (i := 4) c_reach_of.nd rfl (Or.inl rfl) (by decide) (e_pop (pe_bm0 PySem.F.plainAttrs_list PySem.F.slot_list_pop PySem.F.type_list_pop mt_pop (pv 3)) (by decide)))
    (b_one (s_for (ts := [5]) PassesOwn.never rfl (i_tup (e_ix or_ix od_ix (e_var (pv 0) (by decide)) (e_var (pv 4) (by decide)) (fun _ _ => rfl))) (g_name (pg_name (i := 5) c_reach_of.nd rfl (by first | exact Or.inl rfl | exact Or.inr rfl)) (by decide)) (b_one (s_if (t_not (t_val (e_ix1 or_ix od_ix (pv 2) (by decide) (e_var (pv 5) (by decide)) (fun _ _ => rfl)))) (b_cons (s_setI (ps_asg e_bl (pg_sub (pv 2) (e_var (pv 5) (by decide)) set_list)) (by decide))
    (b_one (s_app (pe_bm PySem.F.plainAttrs_list PySem.F.slot_list_append PySem.F.type_list_append mt_append (pv 3) (pa_cons (e_var (pv 5) (by decide)) pa_nil)) (by decide)))) b_nil))))))
    (b_one (s_ret (e_callTy call_tuple_of cd_tuple (by rfl) T.z_tuple bt_tuple (a_cons (e_fz (l_lc (own := [("other", 6)]) (ts := [6]) rfl c_reach_of.nd (i_rng1 (by rfl) T.z_range (a_cons (e_callB call_len_seq cd_len (by rfl) T.z_len bt_len (a_cons (e_var (pv 0) (by decide)) a_nil)) a_nil)) (blkOk_by (N := n_reach_of) (sc := (defScope s_reach_of)) (own := [("other", 6)]) (by decide +kernel)) (fun _ _ _ _ _ => (g_name (pg_name (i := 6) c_reach_of.nd rfl (by first | exact Or.inl rfl | exact Or.inr rfl)) (by decide))) (fun _ _ _ _ _ => (ts_one (t_val (e_ix1 or_ix od_ix (pv 2) (by decide) (e_var (pv 6) (by decide)) (fun _ _ => rfl))))) (fun _ _ _ _ _ => (e_var (pv 6) (by decide))) (by decide) (by decide))) a_nil)))))))
def b_reaches : Sm :=
    (mRt (mCall gTupleOf (mCons (mOfL (mLc (mBind (mCons (mCall gLen (mCons (mVar 0) mNil)) mNil) fun ds => mOpt (rng1 ds)) (fName 1) (mRet true) (mFn 2 m_reach_of (mCons (mVar 0) (mCons (mVar 1) mNil))) [1])) mNil)))
def m_reaches : List Da → Option Da := runP 2 b_reaches
theorem ok_reaches (T : Txt K mg) : FnG P w K mg base 2 T.a_reaches T.d_reaches ["net"] (spP K 1 m_reaches) :=
  fnP (k := 1) (N := n_reaches) (ow := []) (fb := b_reaches) T.F_reaches c_reaches (by decide) fun cdv A outer s H E hr hgd =>
    (b_one (s_ret (e_callTy call_tuple_of cd_tuple (by rfl) T.z_tuple bt_tuple (a_cons (e_fz (l_lc (own := [("component", 1)]) (ts := [1]) rfl c_reaches.nd (i_rng1 (by rfl) T.z_range (a_cons (e_callB call_len_seq cd_len (by rfl) T.z_len bt_len (a_cons (e_var (pv 0) (by decide)) a_nil)) a_nil)) (blkOk_by (N := n_reaches) (sc := (defScope s_reaches)) (own := [("component", 1)]) (by decide +kernel)) (fun _ _ _ _ _ => (g_name (pg_name (i := 1) c_reaches.nd rfl (by first | exact Or.inl rfl | exact Or.inr rfl)) (by decide))) (fun _ _ _ _ _ => ts_nil) (fun _ _ _ _ _ => (e_call (ok_reach_of T) (hr.mono (by decide)) hgd (by rfl) T.g_reach_of T.F_reach_of.kp T.B_reach_of (a_cons (e_var (pv 0) (by decide)) (a_cons (e_var (pv 1) (by decide)) a_nil)))) (by decide) (by decide))) a_nil))))
def b_those_with : Sm :=
    (mRt (mCall gTupleOf (mCons (mOfL (mLc (mBind (mCons (mVar 0) mNil) fun ds => mOpt (enT ds)) (fTup 2 (fCons (fName 2) (fCons (fName 3) fNil))) (mB (mOp gEq (mVar 3) (mVar 1))) (mVar 2) [2, 3])) mNil)))
def m_those_with : List Da → Option Da := runP 4 b_those_with
theorem ok_those_with (T : Txt K mg) : FnG P w K mg base 1 T.a_those_with T.d_those_with ["report", "word"] (spP K 2 m_those_with) :=
  fnP (k := 0) (N := n_those_with) (ow := []) (fb := b_those_with) T.F_those_with c_those_with (by decide) fun cdv A outer s H E hr hgd =>
    (b_one (s_ret (e_callTy call_tuple_of cd_tuple (by rfl) T.z_tuple bt_tuple (a_cons (e_fz (l_lc (own := [("component", 2), ("found", 3)]) (ts := ([2] ++ ([3] ++ []))) rfl c_those_with.nd (i_enumT (by rfl) T.z_enumerate (a_cons (e_var (pv 0) (by decide)) a_nil)) (blkOk_by (N := n_those_with) (sc := (defScope s_those_with)) (own := [("component", 2), ("found", 3)]) (by decide +kernel)) (fun _ _ _ _ _ => (g_tup rfl (gs_cons (g_name (pg_name (i := 2) c_those_with.nd rfl (by first | exact Or.inl rfl | exact Or.inr rfl)) (by decide)) (gs_cons (g_name (pg_name (i := 3) c_those_with.nd rfl (by first | exact Or.inl rfl | exact Or.inr rfl)) (by decide)) gs_nil)))) (fun _ _ _ _ _ => (ts_one (t_cmp (or_eq hr.units) od_eq (e_var (pv 3) (by decide)) (e_var (pv 1) (by decide)) (nomark _)))) (fun _ _ _ _ _ => (e_var (pv 2) (by decide))) (by decide) (by decide))) a_nil))))
def b_clearers : Sm :=
    (mRt (mCall gTupleOf (mCons (mOfL (mLc (mBind (mFn 2 m_those_with (mCons (mVar 1) (mCons (mRet (.str "quiet")) mNil))) fun d => mOpt (asT d)) (fName 3) (mB (mOp gIn (mVar 2) (mOp gIx (mVar 0) (mVar 3)))) (mVar 3) [3])) mNil)))
def m_clearers : List Da → Option Da := runP 4 b_clearers
theorem ok_clearers (T : Txt K mg) : FnG P w K mg base 2 T.a_clearers T.d_clearers ["far", "report", "component"] (spP K 3 m_clearers) :=
  fnP (k := 1) (N := n_clearers) (ow := []) (fb := b_clearers) T.F_clearers c_clearers (by decide) fun cdv A outer s H E hr hgd =>
    (b_one (s_ret (e_callTy call_tuple_of cd_tuple (by rfl) T.z_tuple bt_tuple (a_cons (e_fz (l_lc (own := [("quiet", 3)]) (ts := [3]) rfl c_clearers.nd (i_tup (e_call (ok_those_with T) (hr.mono (by decide)) hgd (by rfl) T.g_those_with T.F_those_with.kp T.B_those_with (a_cons (e_var (pv 1) (by decide)) (a_cons e_str a_nil)))) (blkOk_by (N := n_clearers) (sc := (defScope s_clearers)) (own := [("quiet", 3)]) (by decide +kernel)) (fun _ _ _ _ _ => (g_name (pg_name (i := 3) c_clearers.nd rfl (by first | exact Or.inl rfl | exact Or.inr rfl)) (by decide))) (fun _ _ _ _ _ => (ts_one (t_cmp (or_in (un65 hr)) od_in (e_var (pv 2) (by decide)) (e_ix or_ix od_ix (e_var (pv 0) (by decide)) (e_var (pv 3) (by decide)) (fun _ _ => rfl)) (by rfl)))) (fun _ _ _ _ _ => (e_var (pv 3) (by decide))) (by decide) (by decide))) a_nil))))
def b_suspects : Sm :=
    (mRt (mCall gTupleOf (mCons (mOfL (mLc (mBind (mOp gIx (mVar 0) (mVar 2)) fun d => mOpt (asT d)) (fName 3) (mNot (mTru (mFn 3 m_clearers (mCons (mVar 0) (mCons (mVar 1) (mCons (mVar 3) mNil)))))) (mVar 3) [3])) mNil)))
def m_suspects : List Da → Option Da := runP 4 b_suspects
theorem ok_suspects (T : Txt K mg) : FnG P w K mg base 3 T.a_suspects T.d_suspects ["far", "report", "component"] (spP K 3 m_suspects) :=
  fnP (k := 2) (N := n_suspects) (ow := []) (fb := b_suspects) T.F_suspects c_suspects (by decide) fun cdv A outer s H E hr hgd =>
    (b_one (s_ret (e_callTy call_tuple_of cd_tuple (by rfl) T.z_tuple bt_tuple (a_cons (e_fz (l_lc (own := [("part", 3)]) (ts := [3]) rfl c_suspects.nd (i_tup (e_ix or_ix od_ix (e_var (pv 0) (by decide)) (e_var (pv 2) (by decide)) (fun _ _ => rfl))) (blkOk_by (N := n_suspects) (sc := (defScope s_suspects)) (own := [("part", 3)]) (by decide +kernel)) (fun _ _ _ _ _ => (g_name (pg_name (i := 3) c_suspects.nd rfl (by first | exact Or.inl rfl | exact Or.inr rfl)) (by decide))) (fun _ _ _ _ _ => (ts_one (t_not (t_val (e_call (ok_clearers T) (hr.mono (by decide)) hgd (by rfl) T.g_clearers T.F_clearers.kp T.B_clearers (a_cons (e_var (pv 0) (by decide)) (a_cons (e_var (pv 1) (by decide)) (a_cons (e_var (pv 3) (by decide)) a_nil)))))))) (fun _ _ _ _ _ => (e_var (pv 3) (by decide))) (by decide) (by decide))) a_nil))))
def b_unexplained : Sm :=
    (mRt (mCall gTupleOf (mCons (mOfL (mLc (mBind (mFn 2 m_those_with (mCons (mVar 1) (mCons (mRet (.str "alarm")) mNil))) fun d => mOpt (asT d)) (fName 2) (mNot (mTru (mFn 3 m_suspects (mCons (mVar 0) (mCons (mVar 1) (mCons (mVar 2) mNil)))))) (mVar 2) [2])) mNil)))
def m_unexplained : List Da → Option Da := runP 3 b_unexplained
theorem ok_unexplained (T : Txt K mg) : FnG P w K mg base 4 T.a_unexplained T.d_unexplained ["far", "report"] (spP K 2 m_unexplained) :=
  fnP (k := 3) (N := n_unexplained) (ow := []) (fb := b_unexplained) T.F_unexplained c_unexplained (by decide) fun cdv A outer s H E hr hgd =>
    (b_one (s_ret (e_callTy call_tuple_of cd_tuple (by rfl) T.z_tuple bt_tuple (a_cons (e_fz (l_lc (own := [("alarm", 2)]) (ts := [2]) rfl c_unexplained.nd (i_tup (e_call (ok_those_with T) (hr.mono (by decide)) hgd (by rfl) T.g_those_with T.F_those_with.kp T.B_those_with (a_cons (e_var (pv 1) (by decide)) (a_cons e_str a_nil)))) (blkOk_by (N := n_unexplained) (sc := (defScope s_unexplained)) (own := [("alarm", 2)]) (by decide +kernel)) (fun _ _ _ _ _ => (g_name (pg_name (i := 2) c_unexplained.nd rfl (by first | exact Or.inl rfl | exact Or.inr rfl)) (by decide))) (fun _ _ _ _ _ => (ts_one (t_not (t_val (e_call (ok_suspects T) (hr.mono (by decide)) hgd (by rfl) T.g_suspects T.F_suspects.kp T.B_suspects (a_cons (e_var (pv 0) (by decide)) (a_cons (e_var (pv 1) (by decide)) (a_cons (e_var (pv 2) (by decide)) a_nil)))))))) (fun _ _ _ _ _ => (e_var (pv 2) (by decide))) (by decide) (by decide))) a_nil))))
def b_accusers : Sm :=
    (mRt (mCall gTupleOf (mCons (mOfL (mLc (mBind (mFn 2 m_those_with (mCons (mVar 1) (mCons (mRet (.str "alarm")) mNil))) fun d => mOpt (asT d)) (fName 3) (mB (mOp gEq (mFn 3 m_suspects (mCons (mVar 0) (mCons (mVar 1) (mCons (mVar 3) mNil)))) (mTup (mCons (mVar 2) mNil)))) (mVar 3) [3])) mNil)))
def m_accusers : List Da → Option Da := runP 4 b_accusers
theorem ok_accusers (T : Txt K mg) : FnG P w K mg base 4 T.a_accusers T.d_accusers ["far", "report", "component"] (spP K 3 m_accusers) :=
  fnP (k := 3) (N := n_accusers) (ow := []) (fb := b_accusers) T.F_accusers c_accusers (by decide) fun cdv A outer s H E hr hgd =>
    (b_one (s_ret (e_callTy call_tuple_of cd_tuple (by rfl) T.z_tuple bt_tuple (a_cons (e_fz (l_lc (own := [("alarm", 3)]) (ts := [3]) rfl c_accusers.nd (i_tup (e_call (ok_those_with T) (hr.mono (by decide)) hgd (by rfl) T.g_those_with T.F_those_with.kp T.B_those_with (a_cons (e_var (pv 1) (by decide)) (a_cons e_str a_nil)))) (blkOk_by (N := n_accusers) (sc := (defScope s_accusers)) (own := [("alarm", 3)]) (by decide +kernel)) (fun _ _ _ _ _ => (g_name (pg_name (i := 3) c_accusers.nd rfl (by first | exact Or.inl rfl | exact Or.inr rfl)) (by decide))) (fun _ _ _ _ _ => (ts_one (t_cmp (or_eq hr.units) od_eq (e_call (ok_suspects T) (hr.mono (by decide)) hgd (by rfl) T.g_suspects T.F_suspects.kp T.B_suspects (a_cons (e_var (pv 0) (by decide)) (a_cons (e_var (pv 1) (by decide)) (a_cons (e_var (pv 3) (by decide)) a_nil)))) (e_tup (a_cons (e_var (pv 2) (by decide)) a_nil)) (nomark _)))) (fun _ _ _ _ _ => (e_var (pv 3) (by decide))) (by decide) (by decide))) a_nil))))
def b_state_of : Sm :=
    (mSeq (mIte (mTru (mFn 3 m_clearers (mCons (mVar 0) (mCons (mVar 1) (mCons (mVar 2) mNil))))) (mRt (mRet (.str "whole"))) mNx)
    (mSeq (mIte (mTru (mFn 3 m_accusers (mCons (mVar 0) (mCons (mVar 1) (mCons (mVar 2) mNil))))) (mRt (mRet (.str "broken"))) mNx)
    (mRt (mRet (.str "open")))))
def m_state_of : List Da → Option Da := runP 3 b_state_of
theorem ok_state_of (T : Txt K mg) : FnG P w K mg base 5 T.a_state_of T.d_state_of ["far", "report", "component"] (spP K 3 m_state_of) :=
  fnP (k := 4) (N := n_state_of) (ow := []) (fb := b_state_of) T.F_state_of c_state_of (by decide) fun cdv A outer s H E hr hgd =>
    (b_cons (s_if (t_val (e_call (ok_clearers T) (hr.mono (by decide)) hgd (by rfl) T.g_clearers T.F_clearers.kp T.B_clearers (a_cons (e_var (pv 0) (by decide)) (a_cons (e_var (pv 1) (by decide)) (a_cons (e_var (pv 2) (by decide)) a_nil))))) (b_one (s_ret e_str)) b_nil)
    (b_cons (s_if (t_val (e_call (ok_accusers T) (hr.mono (by decide)) hgd (by rfl) T.g_accusers T.F_accusers.kp T.B_accusers (a_cons (e_var (pv 0) (by decide)) (a_cons (e_var (pv 1) (by decide)) (a_cons (e_var (pv 2) (by decide)) a_nil))))) (b_one (s_ret e_str)) b_nil)
    (b_one (s_ret e_str))))
def b_certain : Sm :=
    (mSeq (mDrop (mFn 2 m_check_report (mCons (mVar 0) (mCons (mVar 1) mNil))))
    (mSeq (mSet 2 (mFn 1 m_reaches (mCons (mVar 0) mNil)))
    (mSeq (mIte (mTru (mFn 2 m_unexplained (mCons (mVar 2) (mCons (mVar 1) mNil)))) (mRt (mRet .none)) mNx)
    (mRt (mCall gTupleOf (mCons (mOfL (mLc (mBind (mCons (mCall gLen (mCons (mVar 0) mNil)) mNil) fun ds => mOpt (rng1 ds)) (fName 3) (mRet true) (mFn 3 m_state_of (mCons (mVar 2) (mCons (mVar 1) (mCons (mVar 3) mNil)))) [3])) mNil))))))
def m_certain : List Da → Option Da := runP 4 b_certain
theorem ok_certain (T : Txt K mg) : FnG P w K mg base 6 T.a_certain T.d_certain ["net", "report"] (spP K 2 m_certain) :=
  fnP (k := 5) (N := n_certain) (ow := []) (fb := b_certain) T.F_certain c_certain (by decide) fun cdv A outer s H E hr hgd =>
    (b_cons (s_expr (e_call (ok_check_report T) (hr.mono (by decide)) hgd (by rfl) T.g_check_report T.F_check_report.kp T.B_check_report (a_cons (e_var (pv 0) (by decide)) (a_cons (e_var (pv 1) (by decide)) a_nil))))
    (b_cons (s_set (i := 2) c_certain.nd rfl (Or.inr rfl) (by decide) (e_call (ok_reaches T) (hr.mono (by decide)) hgd (by rfl) T.g_reaches T.F_reaches.kp T.B_reaches (a_cons (e_var (pv 0) (by decide)) a_nil)))
    (b_cons (s_if (t_val (e_call (ok_unexplained T) (hr.mono (by decide)) hgd (by rfl) T.g_unexplained T.F_unexplained.kp T.B_unexplained (a_cons (e_var (pv 2) (by decide)) (a_cons (e_var (pv 1) (by decide)) a_nil)))) (b_one (s_ret e_non)) b_nil)
    (b_one (s_ret (e_callTy call_tuple_of cd_tuple (by rfl) T.z_tuple bt_tuple (a_cons (e_fz (l_lc (own := [("component", 3)]) (ts := [3]) rfl c_certain.nd (i_rng1 (by rfl) T.z_range (a_cons (e_callB call_len_seq cd_len (by rfl) T.z_len bt_len (a_cons (e_var (pv 0) (by decide)) a_nil)) a_nil)) (blkOk_by (N := n_certain) (sc := (defScope s_certain)) (own := [("component", 3)]) (by decide +kernel)) (fun _ _ _ _ _ => (g_name (pg_name (i := 3) c_certain.nd rfl (by first | exact Or.inl rfl | exact Or.inr rfl)) (by decide))) (fun _ _ _ _ _ => ts_nil) (fun _ _ _ _ _ => (e_call (ok_state_of T) (hr.mono (by decide)) hgd (by rfl) T.g_state_of T.F_state_of.kp T.B_state_of (a_cons (e_var (pv 2) (by decide)) (a_cons (e_var (pv 1) (by decide)) (a_cons (e_var (pv 3) (by decide)) a_nil))))) (by decide) (by decide))) a_nil)))))))
def b_is_within : Sm :=
    (mRt (mCall gAll (mCons (mOfL (mLc (mBind (mVar 0) fun d => mOpt (asT d)) (fName 2) (mRet true) (mOp gIn (mVar 2) (mVar 1)) [2])) mNil)))
def m_is_within : List Da → Option Da := runP 3 b_is_within
theorem ok_is_within (T : Txt K mg) : FnG P w K mg base 1 T.a_is_within T.d_is_within ["part", "whole"] (spP K 2 m_is_within) :=
  fnP (k := 0) (N := n_is_within) (ow := []) (fb := b_is_within) T.F_is_within c_is_within (by decide) fun cdv A outer s H E hr hgd =>
    (b_one (s_ret (e_callB (cr_all rfl) cd_all (by rfl) T.z_all bt_all (a_cons (e_fz (l_lc (own := [("component", 2)]) (ts := [2]) rfl c_is_within.nd (i_tup (e_var (pv 0) (by decide))) (blkOk_by (N := n_is_within) (sc := (defScope s_is_within)) (own := [("component", 2)]) (by decide +kernel)) (fun _ _ _ _ _ => (g_name (pg_name (i := 2) c_is_within.nd rfl (by first | exact Or.inl rfl | exact Or.inr rfl)) (by decide))) (fun _ _ _ _ _ => ts_nil) (fun _ _ _ _ _ => (e_cmp (or_in (un65 hr)) od_in (e_var (pv 2) (by decide)) (e_var (pv 1) (by decide)) (by rfl))) (by decide) (by decide))) a_nil))))
def b_expected_of : Sm :=
    (mSeq (mSet 3 (mFn 3 m_suspects (mCons (mVar 0) (mCons (mVar 1) (mCons (mVar 2) mNil)))))
    (mSeq (mIte (mNot (mTru (mVar 3))) (mRt (mRet (.str "quiet"))) mNx)
    (mSeq (mFor (mBind (mFn 2 m_those_with (mCons (mVar 1) (mCons (mRet (.str "alarm")) mNil))) fun d => mOpt (asT d)) (fName 4) (mIte (mTru (mFn 2 m_is_within (mCons (mFn 3 m_suspects (mCons (mVar 0) (mCons (mVar 1) (mCons (mVar 4) mNil)))) (mCons (mVar 3) mNil)))) (mRt (mRet (.str "alarm"))) mNx))
    (mRt (mRet (.str "open"))))))
def m_expected_of : List Da → Option Da := runP 5 b_expected_of
theorem ok_expected_of (T : Txt K mg) : FnG P w K mg base 4 T.a_expected_of T.d_expected_of ["far", "report", "component"] (spP K 3 m_expected_of) :=
  fnP (k := 3) (N := n_expected_of) (ow := []) (fb := b_expected_of) T.F_expected_of c_expected_of (by decide) fun cdv A outer s H E hr hgd =>
    (b_cons (s_set (i := 3) c_expected_of.nd rfl (Or.inl rfl) (by decide) (e_call (ok_suspects T) (hr.mono (by decide)) hgd (by rfl) T.g_suspects T.F_suspects.kp T.B_suspects (a_cons (e_var (pv 0) (by decide)) (a_cons (e_var (pv 1) (by decide)) (a_cons (e_var (pv 2) (by decide)) a_nil)))))
    (b_cons (s_if (t_not (t_val (e_var (pv 3) (by decide)))) (b_one (s_ret e_str)) b_nil)
    (b_cons (s_for (ts := [4]) PassesOwn.never rfl (i_tup (e_call (ok_those_with T) (hr.mono (by decide)) hgd (by rfl) T.g_those_with T.F_those_with.kp T.B_those_with (a_cons (e_var (pv 1) (by decide)) (a_cons e_str a_nil)))) (g_name (pg_name (i := 4) c_expected_of.nd rfl (by first | exact Or.inl rfl | exact Or.inr rfl)) (by decide)) (b_one (s_if (t_val (e_call (ok_is_within T) (hr.mono (by decide)) hgd (by rfl) T.g_is_within T.F_is_within.kp T.B_is_within (a_cons (e_call (ok_suspects T) (hr.mono (by decide)) hgd (by rfl) T.g_suspects T.F_suspects.kp T.B_suspects (a_cons (e_var (pv 0) (by decide)) (a_cons (e_var (pv 1) (by decide)) (a_cons (e_var (pv 4) (by decide)) a_nil)))) (a_cons (e_var (pv 3) (by decide)) a_nil)))) (b_one (s_ret e_str)) b_nil)))
    (b_one (s_ret e_str)))))
def b_expected : Sm :=
    (mSeq (mDrop (mFn 2 m_check_report (mCons (mVar 0) (mCons (mVar 1) mNil))))
    (mSeq (mSet 2 (mFn 1 m_reaches (mCons (mVar 0) mNil)))
    (mSeq (mIte (mTru (mFn 2 m_unexplained (mCons (mVar 2) (mCons (mVar 1) mNil)))) (mRt (mRet .none)) mNx)
    (mRt (mCall gTupleOf (mCons (mOfL (mLc (mBind (mCons (mCall gLen (mCons (mVar 0) mNil)) mNil) fun ds => mOpt (rng1 ds)) (fName 3) (mRet true) (mFn 3 m_expected_of (mCons (mVar 2) (mCons (mVar 1) (mCons (mVar 3) mNil)))) [3])) mNil))))))
def m_expected : List Da → Option Da := runP 4 b_expected
theorem ok_expected (T : Txt K mg) : FnG P w K mg base 6 T.a_expected T.d_expected ["net", "report"] (spP K 2 m_expected) :=
  fnP (k := 5) (N := n_expected) (ow := []) (fb := b_expected) T.F_expected c_expected (by decide) fun cdv A outer s H E hr hgd =>
    (b_cons (s_expr (e_call (ok_check_report T) (hr.mono (by decide)) hgd (by rfl) T.g_check_report T.F_check_report.kp T.B_check_report (a_cons (e_var (pv 0) (by decide)) (a_cons (e_var (pv 1) (by decide)) a_nil))))
    (b_cons (s_set (i := 2) c_expected.nd rfl (Or.inr rfl) (by decide) (e_call (ok_reaches T) (hr.mono (by decide)) hgd (by rfl) T.g_reaches T.F_reaches.kp T.B_reaches (a_cons (e_var (pv 0) (by decide)) a_nil)))
    (b_cons (s_if (t_val (e_call (ok_unexplained T) (hr.mono (by decide)) hgd (by rfl) T.g_unexplained T.F_unexplained.kp T.B_unexplained (a_cons (e_var (pv 2) (by decide)) (a_cons (e_var (pv 1) (by decide)) a_nil)))) (b_one (s_ret e_non)) b_nil)
    (b_one (s_ret (e_callTy call_tuple_of cd_tuple (by rfl) T.z_tuple bt_tuple (a_cons (e_fz (l_lc (own := [("component", 3)]) (ts := [3]) rfl c_expected.nd (i_rng1 (by rfl) T.z_range (a_cons (e_callB call_len_seq cd_len (by rfl) T.z_len bt_len (a_cons (e_var (pv 0) (by decide)) a_nil)) a_nil)) (blkOk_by (N := n_expected) (sc := (defScope s_expected)) (own := [("component", 3)]) (by decide +kernel)) (fun _ _ _ _ _ => (g_name (pg_name (i := 3) c_expected.nd rfl (by first | exact Or.inl rfl | exact Or.inr rfl)) (by decide))) (fun _ _ _ _ _ => ts_nil) (fun _ _ _ _ _ => (e_call (ok_expected_of T) (hr.mono (by decide)) hgd (by rfl) T.g_expected_of T.F_expected_of.kp T.B_expected_of (a_cons (e_var (pv 2) (by decide)) (a_cons (e_var (pv 1) (by decide)) (a_cons (e_var (pv 3) (by decide)) a_nil))))) (by decide) (by decide))) a_nil)))))))
def b_Lis_equal : Sm :=
    (mRt (mOp gEq (mCall gRepr (mCons (mVar 0) mNil)) (mCall gRepr (mCons (mVar 1) mNil))))
def m_Lis_equal : List Da → Option Da := runP 2 b_Lis_equal
theorem ok_Lis_equal (T : Txt K mg) : FnG P w K mg base 1 T.a_Lis_equal T.d_Lis_equal ["_law_actual", "_law_due"] (spP K 2 m_Lis_equal) :=
  fnP (k := 0) (N := n_Lis_equal) (ow := []) (fb := b_Lis_equal) T.F_Lis_equal c_Lis_equal (by decide) fun cdv A outer s H E hr hgd =>
    (b_one (s_ret (e_cmp (or_eq hr.units) od_eq (e_callB (call_repr hr hgd) cd_repr (by rfl) T.z_repr bt_repr (a_cons (e_var (pv 0) (by decide)) a_nil)) (e_callB (call_repr hr hgd) cd_repr (by rfl) T.z_repr bt_repr (a_cons (e_var (pv 1) (by decide)) a_nil)) (nomark _))))
def b_check_component : Sm :=
    (mIte (mNot (mTru (mFn 2 m_is_component (mCons (mVar 0) (mCons (mVar 1) mNil))))) mNever mNx)
def m_check_component : List Da → Option Da := runP 2 b_check_component
theorem ok_check_component (T : Txt K mg) : FnG P w K mg base 2 T.a_check_component T.d_check_component ["net", "component"] (spP K 2 m_check_component) :=
  fnP (k := 1) (N := n_check_component) (ow := []) (fb := b_check_component) T.F_check_component c_check_component (by decide) fun cdv A outer s H E hr hgd =>
    (b_one (s_if (t_not (t_val (e_call (ok_is_component T) (hr.mono (by decide)) hgd (by rfl) T.g_is_component T.F_is_component.kp T.B_is_component (a_cons (e_var (pv 0) (by decide)) (a_cons (e_var (pv 1) (by decide)) a_nil))))) (b_one s_never) b_nil))
def b_all_candidates : Sm :=
    (mRt (mCall gTupleOf (mCons (mOfL (mLc (mBind (mCons (mCall gLen (mCons (mVar 0) mNil)) mNil) fun ds => mOpt (rng1 ds)) (fName 2) (mNot (mTru (mFn 3 m_clearers (mCons (mVar 0) (mCons (mVar 1) (mCons (mVar 2) mNil)))))) (mVar 2) [2])) mNil)))
def m_all_candidates : List Da → Option Da := runP 3 b_all_candidates
theorem ok_all_candidates (T : Txt K mg) : FnG P w K mg base 3 T.a_all_candidates T.d_all_candidates ["far", "report"] (spP K 2 m_all_candidates) :=
  fnP (k := 2) (N := n_all_candidates) (ow := []) (fb := b_all_candidates) T.F_all_candidates c_all_candidates (by decide) fun cdv A outer s H E hr hgd =>
    (b_one (s_ret (e_callTy call_tuple_of cd_tuple (by rfl) T.z_tuple bt_tuple (a_cons (e_fz (l_lc (own := [("component", 2)]) (ts := [2]) rfl c_all_candidates.nd (i_rng1 (by rfl) T.z_range (a_cons (e_callB call_len_seq cd_len (by rfl) T.z_len bt_len (a_cons (e_var (pv 0) (by decide)) a_nil)) a_nil)) (blkOk_by (N := n_all_candidates) (sc := (defScope s_all_candidates)) (own := [("component", 2)]) (by decide +kernel)) (fun _ _ _ _ _ => (g_name (pg_name (i := 2) c_all_candidates.nd rfl (by first | exact Or.inl rfl | exact Or.inr rfl)) (by decide))) (fun _ _ _ _ _ => (ts_one (t_not (t_val (e_call (ok_clearers T) (hr.mono (by decide)) hgd (by rfl) T.g_clearers T.F_clearers.kp T.B_clearers (a_cons (e_var (pv 0) (by decide)) (a_cons (e_var (pv 1) (by decide)) (a_cons (e_var (pv 2) (by decide)) a_nil)))))))) (fun _ _ _ _ _ => (e_var (pv 2) (by decide))) (by decide) (by decide))) a_nil))))
def b_witness : Sm :=
    (mSeq (mDrop (mFn 2 m_check_report (mCons (mVar 0) (mCons (mVar 1) mNil))))
    (mSeq (mDrop (mFn 2 m_check_component (mCons (mVar 0) (mCons (mVar 2) mNil))))
    (mSeq (mSet 3 (mFn 1 m_reaches (mCons (mVar 0) mNil)))
    (mSeq (mIte (mTru (mFn 2 m_unexplained (mCons (mVar 3) (mCons (mVar 1) mNil)))) (mRt (mRet .none)) mNx)
    (mSeq (mSet 4 (mFn 3 m_state_of (mCons (mVar 3) (mCons (mVar 1) (mCons (mVar 2) mNil)))))
    (mSeq (mIte (mB (mOp gEq (mVar 4) (mRet (.str "broken")))) (mRt (mTup (mCons (mVar 4) (mCons (mOp gIx (mFn 3 m_accusers (mCons (mVar 3) (mCons (mVar 1) (mCons (mVar 2) mNil)))) (mRet (.int 0))) mNil)))) mNx)
    (mSeq (mIte (mB (mOp gEq (mVar 4) (mRet (.str "whole")))) (mRt (mTup (mCons (mVar 4) (mCons (mOp gIx (mFn 3 m_clearers (mCons (mVar 3) (mCons (mVar 1) (mCons (mVar 2) mNil)))) (mRet (.int 0))) mNil)))) mNx)
    (mSeq (mSet 5 (mFn 2 m_all_candidates (mCons (mVar 3) (mCons (mVar 1) mNil))))
    (mRt (mTup (mCons (mVar 4) (mCons (mVar 5) (mCons (mCall gTupleOf (mCons (mOfL (mLc (mBind (mVar 5) fun d => mOpt (asT d)) (fName 6) (mB (mOp gNe (mVar 6) (mVar 2))) (mVar 6) [6])) mNil)) mNil)))))))))))))
def m_witness : List Da → Option Da := runP 7 b_witness
theorem ok_witness (T : Txt K mg) : FnG P w K mg base 6 T.a_witness T.d_witness ["net", "report", "component"] (spP K 3 m_witness) :=
  fnP (k := 5) (N := n_witness) (ow := []) (fb := b_witness) T.F_witness c_witness (by decide) fun cdv A outer s H E hr hgd =>
    (b_cons (s_expr (e_call (ok_check_report T) (hr.mono (by decide)) hgd (by rfl) T.g_check_report T.F_check_report.kp T.B_check_report (a_cons (e_var (pv 0) (by decide)) (a_cons (e_var (pv 1) (by decide)) a_nil))))
    (b_cons (s_expr (e_call (ok_check_component T) (hr.mono (by decide)) hgd (by rfl) T.g_check_component T.F_check_component.kp T.B_check_component (a_cons (e_var (pv 0) (by decide)) (a_cons (e_var (pv 2) (by decide)) a_nil))))
    (b_cons (s_set (i := 3) c_witness.nd rfl (Or.inl rfl) (by decide) (e_call (ok_reaches T) (hr.mono (by decide)) hgd (by rfl) T.g_reaches T.F_reaches.kp T.B_reaches (a_cons (e_var (pv 0) (by decide)) a_nil)))
    (b_cons (s_if (t_val (e_call (ok_unexplained T) (hr.mono (by decide)) hgd (by rfl) T.g_unexplained T.F_unexplained.kp T.B_unexplained (a_cons (e_var (pv 3) (by decide)) (a_cons (e_var (pv 1) (by decide)) a_nil)))) (b_one (s_ret e_non)) b_nil)
    (b_cons (s_set (i := 4) c_witness.nd rfl (Or.inl rfl) (by decide) (e_call (ok_state_of T) (hr.mono (by decide)) hgd (by rfl) T.g_state_of T.F_state_of.kp T.B_state_of (a_cons (e_var (pv 3) (by decide)) (a_cons (e_var (pv 1) (by decide)) (a_cons (e_var (pv 2) (by decide)) a_nil)))))
    (b_cons (s_if (t_cmp (or_eq hr.units) od_eq (e_var (pv 4) (by decide)) e_str (nomark _)) (b_one (s_ret (e_tup (a_cons (e_var (pv 4) (by decide)) (a_cons (e_ix or_ix od_ix (e_call (ok_accusers T) (hr.mono (by decide)) hgd (by rfl) T.g_accusers T.F_accusers.kp T.B_accusers (a_cons (e_var (pv 3) (by decide)) (a_cons (e_var (pv 1) (by decide)) (a_cons (e_var (pv 2) (by decide)) a_nil)))) e_int (fun _ _ => rfl)) a_nil))))) b_nil)
    (b_cons (s_if (t_cmp (or_eq hr.units) od_eq (e_var (pv 4) (by decide)) e_str (nomark _)) (b_one (s_ret (e_tup (a_cons (e_var (pv 4) (by decide)) (a_cons (e_ix or_ix od_ix (e_call (ok_clearers T) (hr.mono (by decide)) hgd (by rfl) T.g_clearers T.F_clearers.kp T.B_clearers (a_cons (e_var (pv 3) (by decide)) (a_cons (e_var (pv 1) (by decide)) (a_cons (e_var (pv 2) (by decide)) a_nil)))) e_int (fun _ _ => rfl)) a_nil))))) b_nil)
    (b_cons (s_set (i := 5) c_witness.nd rfl (Or.inl rfl) (by decide) (e_call (ok_all_candidates T) (hr.mono (by decide)) hgd (by rfl) T.g_all_candidates T.F_all_candidates.kp T.B_all_candidates (a_cons (e_var (pv 3) (by decide)) (a_cons (e_var (pv 1) (by decide)) a_nil))))
    (b_one (s_ret (e_tup (a_cons (e_var (pv 4) (by decide)) (a_cons (e_var (pv 5) (by decide)) (a_cons (e_callTy call_tuple_of cd_tuple (by rfl) T.z_tuple bt_tuple (a_cons (e_fz (l_lc (own := [("part", 6)]) (ts := [6]) rfl c_witness.nd (i_tup (e_var (pv 5) (by decide))) (blkOk_by (N := n_witness) (sc := (defScope s_witness)) (own := [("part", 6)]) (by decide +kernel)) (fun _ _ _ _ _ => (g_name (pg_name (i := 6) c_witness.nd rfl (by first | exact Or.inl rfl | exact Or.inr rfl)) (by decide))) (fun _ _ _ _ _ => (ts_one (t_cmp (or_ne hr.units) od_ne (e_var (pv 6) (by decide)) (e_var (pv 2) (by decide)) (nomark _)))) (fun _ _ _ _ _ => (e_var (pv 6) (by decide))) (by decide) (by decide))) a_nil)) a_nil))))))))))))))
def b_meets : Sm :=
    (mRt (mCall gAny (mCons (mOfL (mLc (mBind (mVar 0) fun d => mOpt (asT d)) (fName 2) (mRet true) (mOp gIn (mVar 2) (mVar 1)) [2])) mNil)))
def m_meets : List Da → Option Da := runP 3 b_meets
theorem ok_meets (T : Txt K mg) : FnG P w K mg base 1 T.a_meets T.d_meets ["one", "other"] (spP K 2 m_meets) :=
  fnP (k := 0) (N := n_meets) (ow := []) (fb := b_meets) T.F_meets c_meets (by decide) fun cdv A outer s H E hr hgd =>
    (b_one (s_ret (e_callB (cr_any rfl) cd_any (by rfl) T.z_any bt_any (a_cons (e_fz (l_lc (own := [("part", 2)]) (ts := [2]) rfl c_meets.nd (i_tup (e_var (pv 0) (by decide))) (blkOk_by (N := n_meets) (sc := (defScope s_meets)) (own := [("part", 2)]) (by decide +kernel)) (fun _ _ _ _ _ => (g_name (pg_name (i := 2) c_meets.nd rfl (by first | exact Or.inl rfl | exact Or.inr rfl)) (by decide))) (fun _ _ _ _ _ => ts_nil) (fun _ _ _ _ _ => (e_cmp (or_in (un65 hr)) od_in (e_var (pv 2) (by decide)) (e_var (pv 1) (by decide)) (by rfl))) (by decide) (by decide))) a_nil))))
def b_told_by : Sm :=
    (mSeq (mIte (mB (mOp gNotIn (mVar 3) (mVar 2))) (mRt (mRet (.str "unseen"))) mNx)
    (mSeq (mIte (mTru (mFn 2 m_meets (mCons (mOp gIx (mVar 0) (mVar 3)) (mCons (mVar 1) mNil)))) (mRt (mRet (.str "alarm"))) mNx)
    (mRt (mRet (.str "quiet")))))
def m_told_by : List Da → Option Da := runP 4 b_told_by
theorem ok_told_by (T : Txt K mg) : FnG P w K mg base 2 T.a_told_by T.d_told_by ["far", "broken", "watched", "component"] (spP K 4 m_told_by) :=
  fnP (k := 1) (N := n_told_by) (ow := []) (fb := b_told_by) T.F_told_by c_told_by (by decide) fun cdv A outer s H E hr hgd =>
    (b_cons (s_if (t_cmp (or_notIn (un65 hr)) od_notIn (e_var (pv 3) (by decide)) (e_var (pv 2) (by decide)) (by rfl)) (b_one (s_ret e_str)) b_nil)
    (b_cons (s_if (t_val (e_call (ok_meets T) (hr.mono (by decide)) hgd (by rfl) T.g_meets T.F_meets.kp T.B_meets (a_cons (e_ix or_ix od_ix (e_var (pv 0) (by decide)) (e_var (pv 3) (by decide)) (fun _ _ => rfl)) (a_cons (e_var (pv 1) (by decide)) a_nil)))) (b_one (s_ret e_str)) b_nil)
    (b_one (s_ret e_str))))
def b_told : Sm :=
    (mRt (mCall gTupleOf (mCons (mOfL (mLc (mBind (mCons (mCall gLen (mCons (mVar 0) mNil)) mNil) fun ds => mOpt (rng1 ds)) (fName 3) (mRet true) (mFn 4 m_told_by (mCons (mVar 0) (mCons (mVar 1) (mCons (mVar 2) (mCons (mVar 3) mNil))))) [3])) mNil)))
def m_told : List Da → Option Da := runP 4 b_told
theorem ok_told (T : Txt K mg) : FnG P w K mg base 3 T.a_told T.d_told ["far", "broken", "watched"] (spP K 3 m_told) :=
  fnP (k := 2) (N := n_told) (ow := []) (fb := b_told) T.F_told c_told (by decide) fun cdv A outer s H E hr hgd =>
    (b_one (s_ret (e_callTy call_tuple_of cd_tuple (by rfl) T.z_tuple bt_tuple (a_cons (e_fz (l_lc (own := [("component", 3)]) (ts := [3]) rfl c_told.nd (i_rng1 (by rfl) T.z_range (a_cons (e_callB call_len_seq cd_len (by rfl) T.z_len bt_len (a_cons (e_var (pv 0) (by decide)) a_nil)) a_nil)) (blkOk_by (N := n_told) (sc := (defScope s_told)) (own := [("component", 3)]) (by decide +kernel)) (fun _ _ _ _ _ => (g_name (pg_name (i := 3) c_told.nd rfl (by first | exact Or.inl rfl | exact Or.inr rfl)) (by decide))) (fun _ _ _ _ _ => ts_nil) (fun _ _ _ _ _ => (e_call (ok_told_by T) (hr.mono (by decide)) hgd (by rfl) T.g_told_by T.F_told_by.kp T.B_told_by (a_cons (e_var (pv 0) (by decide)) (a_cons (e_var (pv 1) (by decide)) (a_cons (e_var (pv 2) (by decide)) (a_cons (e_var (pv 3) (by decide)) a_nil)))))) (by decide) (by decide))) a_nil))))
def b_is_explanation : Sm :=
    (mSeq (mIte (mNot (mTru (mFn 2 m_is_set_of (mCons (mVar 0) (mCons (mVar 2) mNil))))) (mRt (mRet (.bool false))) mNx)
    (mSeq (mSet 3 (mOfL (mLc (mBind (mCons (mVar 1) mNil) fun ds => mOpt (enT ds)) (fTup 2 (fCons (fName 4) (fCons (fName 5) fNil))) (mB (mOp gNe (mVar 5) (mRet (.str "unseen")))) (mVar 4) [4, 5])))
    (mRt (mOp gEq (mFn 3 m_told (mCons (mFn 1 m_reaches (mCons (mVar 0) mNil)) (mCons (mVar 2) (mCons (mVar 3) mNil)))) (mVar 1)))))
def m_is_explanation : List Da → Option Da := runP 6 b_is_explanation
theorem ok_is_explanation (T : Txt K mg) : FnG P w K mg base 4 T.a_is_explanation T.d_is_explanation ["net", "report", "thing"] (spP K 3 m_is_explanation) :=
  fnP (k := 3) (N := n_is_explanation) (ow := []) (fb := b_is_explanation) T.F_is_explanation c_is_explanation (by decide) fun cdv A outer s H E hr hgd =>
    (b_cons (s_if (t_not (t_val (e_call (ok_is_set_of T) (hr.mono (by decide)) hgd (by rfl) T.g_is_set_of T.F_is_set_of.kp T.B_is_set_of (a_cons (e_var (pv 0) (by decide)) (a_cons (e_var (pv 2) (by decide)) a_nil))))) (b_one (s_ret e_bl)) b_nil)
    (b_cons (s_lcset (ts := ([4] ++ ([5] ++ []))) (ps_setLc (i := 3) (own := [("component", 4), ("word", 5)]) rfl c_is_explanation.nd rfl rfl (sw_true rfl rfl rfl (by decide +kernel)) (i_enumT (by rfl) T.z_enumerate (a_cons (e_var (pv 1) (by decide)) a_nil)) (blkOk_by (N := n_is_explanation) (sc := (defScope s_is_explanation)) (own := [("component", 4), ("word", 5)]) (by decide +kernel)) (fun _ _ _ _ _ => (g_tup rfl (gs_cons (g_name (pg_name (i := 4) c_is_explanation.nd rfl (by first | exact Or.inl rfl | exact Or.inr rfl)) (by decide)) (gs_cons (g_name (pg_name (i := 5) c_is_explanation.nd rfl (by first | exact Or.inl rfl | exact Or.inr rfl)) (by decide)) gs_nil)))) (fun _ _ _ _ _ => (ts_one (t_cmp (or_ne hr.units) od_ne (e_var (pv 5) (by decide)) e_str (nomark _)))) (fun _ _ _ _ _ => (e_var (pv 4) (by decide)))) (by decide) (by decide) (by decide))
    (b_one (s_ret (e_cmp (or_eq hr.units) od_eq (e_call (ok_told T) (hr.mono (by decide)) hgd (by rfl) T.g_told T.F_told.kp T.B_told (a_cons (e_call (ok_reaches T) (hr.mono (by decide)) hgd (by rfl) T.g_reaches T.F_reaches.kp T.B_reaches (a_cons (e_var (pv 0) (by decide)) a_nil)) (a_cons (e_var (pv 2) (by decide)) (a_cons (e_var (pv 3) (by decide)) a_nil)))) (e_var (pv 1) (by decide)) (nomark _))))))
def b_is_choice : Sm :=
    (mSeq (mIte (mOr (mNot (mTru (mFn 3 m_is_explanation (mCons (mVar 0) (mCons (mVar 1) (mCons (mVar 3) mNil)))))) (mNot (mTru (mFn 3 m_is_explanation (mCons (mVar 0) (mCons (mVar 1) (mCons (mVar 4) mNil))))))) (mRt (mRet (.bool false))) mNx)
    (mRt (mAndV (mOp gIn (mVar 2) (mVar 3)) (mOp gNotIn (mVar 2) (mVar 4)))))
def m_is_choice : List Da → Option Da := runP 5 b_is_choice
theorem ok_is_choice (T : Txt K mg) : FnG P w K mg base 5 T.a_is_choice T.d_is_choice ["net", "report", "component", "one", "other"] (spP K 5 m_is_choice) :=
  fnP (k := 4) (N := n_is_choice) (ow := []) (fb := b_is_choice) T.F_is_choice c_is_choice (by decide) fun cdv A outer s H E hr hgd =>
    (b_cons (s_if (t_w (w_or (t_not (t_val (e_call (ok_is_explanation T) (hr.mono (by decide)) hgd (by rfl) T.g_is_explanation T.F_is_explanation.kp T.B_is_explanation (a_cons (e_var (pv 0) (by decide)) (a_cons (e_var (pv 1) (by decide)) (a_cons (e_var (pv 3) (by decide)) a_nil)))))) (w_or1 (t_not (t_val (e_call (ok_is_explanation T) (hr.mono (by decide)) hgd (by rfl) T.g_is_explanation T.F_is_explanation.kp T.B_is_explanation (a_cons (e_var (pv 0) (by decide)) (a_cons (e_var (pv 1) (by decide)) (a_cons (e_var (pv 4) (by decide)) a_nil))))))))) (b_one (s_ret e_bl)) b_nil)
    (b_one (s_ret (e_and (e_cmp (or_in (un65 hr)) od_in (e_var (pv 2) (by decide)) (e_var (pv 3) (by decide)) (by rfl)) (e_one (e_cmp (or_notIn (un65 hr)) od_notIn (e_var (pv 2) (by decide)) (e_var (pv 4) (by decide)) (by rfl)))))))
def b_shows_witness : Sm :=
    (mSeq (mDrop (mFn 2 m_check_report (mCons (mVar 0) (mCons (mVar 1) mNil))))
    (mSeq (mDrop (mFn 2 m_check_component (mCons (mVar 0) (mCons (mVar 2) mNil))))
    (mSeq (mSet 4 (mFn 1 m_reaches (mCons (mVar 0) mNil)))
    (mSeq (mIte (mOr (mNot (mTru (mUn (gIsi "tuple") (mVar 3)))) (mTru (mFn 2 m_unexplained (mCons (mVar 4) (mCons (mVar 1) mNil))))) (mRt (mRet (.bool false))) mNx)
    (mSeq (mIte (mAnd (mB (mOp gEq (mCall gLen (mCons (mVar 3) mNil)) (mRet (.int 2)))) (mTru (mFn 2 m_is_component (mCons (mVar 0) (mCons (mOp gIx (mVar 3) (mRet (.int 1))) mNil))))) (mSeq (mIte (mB (mOp gEq (mOp gIx (mVar 3) (mRet (.int 0))) (mRet (.str "broken")))) (mRt (mOp gIn (mOp gIx (mVar 3) (mRet (.int 1))) (mFn 3 m_accusers (mCons (mVar 4) (mCons (mVar 1) (mCons (mVar 2) mNil)))))) mNx)
    (mRt (mAndV (mOp gEq (mOp gIx (mVar 3) (mRet (.int 0))) (mRet (.str "whole"))) (mOp gIn (mOp gIx (mVar 3) (mRet (.int 1))) (mFn 3 m_clearers (mCons (mVar 4) (mCons (mVar 1) (mCons (mVar 2) mNil)))))))) mNx)
    (mSeq (mIte (mAnd (mB (mOp gEq (mCall gLen (mCons (mVar 3) mNil)) (mRet (.int 3)))) (mB (mOp gEq (mOp gIx (mVar 3) (mRet (.int 0))) (mRet (.str "open"))))) (mRt (mFn 5 m_is_choice (mCons (mVar 0) (mCons (mVar 1) (mCons (mVar 2) (mCons (mOp gIx (mVar 3) (mRet (.int 1))) (mCons (mOp gIx (mVar 3) (mRet (.int 2))) mNil))))))) mNx)
    (mRt (mRet (.bool false)))))))))
def m_shows_witness : List Da → Option Da := runP 5 b_shows_witness
theorem ok_shows_witness (T : Txt K mg) : FnG P w K mg base 6 T.a_shows_witness T.d_shows_witness ["net", "report", "component", "thing"] (spP K 4 m_shows_witness) :=
  fnP (k := 5) (N := n_shows_witness) (ow := []) (fb := b_shows_witness) T.F_shows_witness c_shows_witness (by decide) fun cdv A outer s H E hr hgd =>
    (b_cons (s_expr (e_call (ok_check_report T) (hr.mono (by decide)) hgd (by rfl) T.g_check_report T.F_check_report.kp T.B_check_report (a_cons (e_var (pv 0) (by decide)) (a_cons (e_var (pv 1) (by decide)) a_nil))))
    (b_cons (s_expr (e_call (ok_check_component T) (hr.mono (by decide)) hgd (by rfl) T.g_check_component T.F_check_component.kp T.B_check_component (a_cons (e_var (pv 0) (by decide)) (a_cons (e_var (pv 2) (by decide)) a_nil))))
    (b_cons (s_set (i := 4) c_shows_witness.nd rfl (Or.inl rfl) (by decide) (e_call (ok_reaches T) (hr.mono (by decide)) hgd (by rfl) T.g_reaches T.F_reaches.kp T.B_reaches (a_cons (e_var (pv 0) (by decide)) a_nil)))
    (b_cons (s_if (t_w (w_or (t_not (t_val (e_isi io_tuple (by rfl) T.z_isinstance (pe_bltn (by rfl) T.z_tuple bt_tuple rfl) (e_var (pv 3) (by decide))))) (w_or1 (t_val (e_call (ok_unexplained T) (hr.mono (by decide)) hgd (by rfl) T.g_unexplained T.F_unexplained.kp T.B_unexplained (a_cons (e_var (pv 4) (by decide)) (a_cons (e_var (pv 1) (by decide)) a_nil))))))) (b_one (s_ret e_bl)) b_nil)
    (b_cons (s_if (t_w (w_and (t_cmp (or_eq hr.units) od_eq (e_callB call_len_seq cd_len (by rfl) T.z_len bt_len (a_cons (e_var (pv 3) (by decide)) a_nil)) e_int (nomark _)) (w_and1 (t_val (e_call (ok_is_component T) (hr.mono (by decide)) hgd (by rfl) T.g_is_component T.F_is_component.kp T.B_is_component (a_cons (e_var (pv 0) (by decide)) (a_cons (e_ix or_ix od_ix (e_var (pv 3) (by decide)) e_int (fun _ _ => rfl)) a_nil))))))) (b_cons (s_if (t_cmp (or_eq hr.units) od_eq (e_ix or_ix od_ix (e_var (pv 3) (by decide)) e_int (fun _ _ => rfl)) e_str (nomark _)) (b_one (s_ret (e_cmp (or_in (un65 hr)) od_in (e_ix or_ix od_ix (e_var (pv 3) (by decide)) e_int (fun _ _ => rfl)) (e_call (ok_accusers T) (hr.mono (by decide)) hgd (by rfl) T.g_accusers T.F_accusers.kp T.B_accusers (a_cons (e_var (pv 4) (by decide)) (a_cons (e_var (pv 1) (by decide)) (a_cons (e_var (pv 2) (by decide)) a_nil)))) (by rfl)))) b_nil)
    (b_one (s_ret (e_and (e_cmp (or_eq hr.units) od_eq (e_ix or_ix od_ix (e_var (pv 3) (by decide)) e_int (fun _ _ => rfl)) e_str (nomark _)) (e_one (e_cmp (or_in (un65 hr)) od_in (e_ix or_ix od_ix (e_var (pv 3) (by decide)) e_int (fun _ _ => rfl)) (e_call (ok_clearers T) (hr.mono (by decide)) hgd (by rfl) T.g_clearers T.F_clearers.kp T.B_clearers (a_cons (e_var (pv 4) (by decide)) (a_cons (e_var (pv 1) (by decide)) (a_cons (e_var (pv 2) (by decide)) a_nil)))) (by rfl))))))) b_nil)
    (b_cons (s_if (t_w (w_and (t_cmp (or_eq hr.units) od_eq (e_callB call_len_seq cd_len (by rfl) T.z_len bt_len (a_cons (e_var (pv 3) (by decide)) a_nil)) e_int (nomark _)) (w_and1 (t_cmp (or_eq hr.units) od_eq (e_ix or_ix od_ix (e_var (pv 3) (by decide)) e_int (fun _ _ => rfl)) e_str (nomark _))))) (b_one (s_ret (e_call (ok_is_choice T) (hr.mono (by decide)) hgd (by rfl) T.g_is_choice T.F_is_choice.kp T.B_is_choice (a_cons (e_var (pv 0) (by decide)) (a_cons (e_var (pv 1) (by decide)) (a_cons (e_var (pv 2) (by decide)) (a_cons (e_ix or_ix od_ix (e_var (pv 3) (by decide)) e_int (fun _ _ => rfl)) (a_cons (e_ix or_ix od_ix (e_var (pv 3) (by decide)) e_int (fun _ _ => rfl)) a_nil)))))))) b_nil)
    (b_one (s_ret e_bl))))))))
def b_Loverview_right : Sm :=
    (mSeq (mSet 0 (mTup (mCons (mTup (mCons (mRet (.int 2)) mNil)) (mCons (mTup (mCons (mRet (.int 2)) (mCons (mRet (.int 3)) mNil))) (mCons (mTup mNil) (mCons (mTup (mCons (mRet (.int 4)) mNil)) (mCons (mTup (mCons (mRet (.int 3)) mNil)) mNil)))))))
    (mSeq (mSet 1 (mTup (mCons (mRet (.str "quiet")) (mCons (mRet (.str "alarm")) (mCons (mRet (.str "unseen")) (mCons (mRet (.str "unseen")) (mCons (mRet (.str "unseen")) mNil)))))))
    (mSeq (mSet 2 (mOfL (mSz (mCons (mFn 2 m_certain (mCons (mVar 0) (mCons (mVar 1) mNil))) (mCons (mFn 2 m_expected (mCons (mVar 0) (mCons (mVar 1) mNil))) mNil)))))
    (mSeq (mSet 3 (mOfL (mSz (mCons (mTup (mCons (mRet (.str "whole")) (mCons (mRet (.str "open")) (mCons (mRet (.str "whole")) (mCons (mRet (.str "open")) (mCons (mRet (.str "open")) mNil)))))) (mCons (mTup (mCons (mRet (.str "quiet")) (mCons (mRet (.str "alarm")) (mCons (mRet (.str "quiet")) (mCons (mRet (.str "open")) (mCons (mRet (.str "open")) mNil)))))) mNil)))))
    (mSeq (mIte (mNot (mTru (mFn 2 m_Lis_equal (mCons (mVar 2) (mCons (mVar 3) mNil))))) (mRt (mRet (.bool false))) mNx)
    (mSeq (mSet 2 (mOfL (mSz (mCons (mFn 3 m_witness (mCons (mVar 0) (mCons (mVar 1) (mCons (mRet (.int 2)) mNil)))) (mCons (mFn 3 m_witness (mCons (mVar 0) (mCons (mVar 1) (mCons (mRet (.int 3)) mNil)))) mNil)))))
    (mSeq (mSet 2 (mOp gAdd (mVar 2) (mOfL (mSz (mCons (mFn 4 m_shows_witness (mCons (mVar 0) (mCons (mVar 1) (mCons (mRet (.int 3)) (mCons (mTup (mCons (mRet (.str "open")) (mCons (mTup (mCons (mRet (.int 3)) mNil)) (mCons (mTup (mCons (mRet (.int 1)) mNil)) mNil)))) mNil))))) (mCons (mFn 4 m_shows_witness (mCons (mVar 0) (mCons (mVar 1) (mCons (mRet (.int 2)) (mCons (mTup (mCons (mRet (.str "whole")) (mCons (mRet (.int 0)) mNil))) mNil))))) mNil))))))
    (mSeq (mIte (mNot (mTru (mFn 2 m_Lis_equal (mCons (mVar 2) (mCons (mOfL (mSz (mCons (mTup (mCons (mRet (.str "whole")) (mCons (mRet (.int 0)) mNil))) (mCons (mTup (mCons (mRet (.str "open")) (mCons (mTup (mCons (mRet (.int 1)) (mCons (mRet (.int 3)) (mCons (mRet (.int 4)) mNil)))) (mCons (mTup (mCons (mRet (.int 1)) (mCons (mRet (.int 4)) mNil))) mNil)))) (mCons (mRet (.bool true)) (mCons (mRet (.bool true)) mNil)))))) mNil))))) (mRt (mRet (.bool false))) mNx)
    (mRt (mOp gIs (mFn 4 m_shows_witness (mCons (mVar 0) (mCons (mVar 1) (mCons (mRet (.int 3)) (mCons (mTup (mCons (mRet (.str "open")) (mCons (mTup (mCons (mRet (.int 3)) mNil)) (mCons (mTup mNil) mNil)))) mNil))))) (mRet (.bool false))))))))))))
def m_Loverview_right : List Da → Option Da := runP 4 b_Loverview_right
theorem ok_Loverview_right (T : Txt K mg) : FnG P w K mg base 7 T.a_Loverview_right T.d_Loverview_right [] (spP K 0 m_Loverview_right) :=
  fnP (k := 6) (N := n_Loverview_right) (ow := []) (fb := b_Loverview_right) T.F_Loverview_right c_Loverview_right (by decide) fun cdv A outer s H E hr hgd =>
    (b_cons (s_set (i := 0) c_Loverview_right.nd rfl (Or.inl rfl) (by decide) (e_tup (a_cons (e_tup (a_cons e_int a_nil)) (a_cons (e_tup (a_cons e_int (a_cons e_int a_nil))) (a_cons (e_tup a_nil) (a_cons (e_tup (a_cons e_int a_nil)) (a_cons (e_tup (a_cons e_int a_nil)) a_nil)))))))
    (b_cons (s_set (i := 1) c_Loverview_right.nd rfl (Or.inl rfl) (by decide) (e_tup (a_cons e_str (a_cons e_str (a_cons e_str (a_cons e_str (a_cons e_str a_nil)))))))
    (b_cons (s_set (i := 2) c_Loverview_right.nd rfl (Or.inl rfl) (by decide) (e_fz (l_lst (a_cons (e_call (ok_certain T) (hr.mono (by decide)) hgd (by rfl) T.g_certain T.F_certain.kp T.B_certain (a_cons (e_var (pv 0) (by decide)) (a_cons (e_var (pv 1) (by decide)) a_nil))) (a_cons (e_call (ok_expected T) (hr.mono (by decide)) hgd (by rfl) T.g_expected T.F_expected.kp T.B_expected (a_cons (e_var (pv 0) (by decide)) (a_cons (e_var (pv 1) (by decide)) a_nil))) a_nil)))))
    (b_cons (s_set (i := 3) c_Loverview_right.nd rfl (Or.inl rfl) (by decide) (e_fz (l_lst (a_cons (e_tup (a_cons e_str (a_cons e_str (a_cons e_str (a_cons e_str (a_cons e_str a_nil)))))) (a_cons (e_tup (a_cons e_str (a_cons e_str (a_cons e_str (a_cons e_str (a_cons e_str a_nil)))))) a_nil)))))
    (b_cons (s_if (t_not (t_val (e_call (ok_Lis_equal T) (hr.mono (by decide)) hgd (by rfl) T.g_Lis_equal T.F_Lis_equal.kp T.B_Lis_equal (a_cons (e_var (pv 2) (by decide)) (a_cons (e_var (pv 3) (by decide)) a_nil))))) (b_one (s_ret e_bl)) b_nil)
    (b_cons (s_set (i := 2) c_Loverview_right.nd rfl (Or.inl rfl) (by decide) (e_fz (l_lst (a_cons (e_call (ok_witness T) (hr.mono (by decide)) hgd (by rfl) T.g_witness T.F_witness.kp T.B_witness (a_cons (e_var (pv 0) (by decide)) (a_cons (e_var (pv 1) (by decide)) (a_cons e_int a_nil)))) (a_cons (e_call (ok_witness T) (hr.mono (by decide)) hgd (by rfl) T.g_witness T.F_witness.kp T.B_witness (a_cons (e_var (pv 0) (by decide)) (a_cons (e_var (pv 1) (by decide)) (a_cons e_int a_nil)))) a_nil)))))
    (b_cons (s_set (i := 2) c_Loverview_right.nd rfl (Or.inl rfl) (by decide) (e_op or_add od_add (e_var (pv 2) (by decide)) (e_fz (l_lst (a_cons (e_call (ok_shows_witness T) (hr.mono (by decide)) hgd (by rfl) T.g_shows_witness T.F_shows_witness.kp T.B_shows_witness (a_cons (e_var (pv 0) (by decide)) (a_cons (e_var (pv 1) (by decide)) (a_cons e_int (a_cons (e_tup (a_cons e_str (a_cons (e_tup (a_cons e_int a_nil)) (a_cons (e_tup (a_cons e_int a_nil)) a_nil)))) a_nil))))) (a_cons (e_call (ok_shows_witness T) (hr.mono (by decide)) hgd (by rfl) T.g_shows_witness T.F_shows_witness.kp T.B_shows_witness (a_cons (e_var (pv 0) (by decide)) (a_cons (e_var (pv 1) (by decide)) (a_cons e_int (a_cons (e_tup (a_cons e_str (a_cons e_int a_nil))) a_nil))))) a_nil))))))
    (b_cons (s_if (t_not (t_val (e_call (ok_Lis_equal T) (hr.mono (by decide)) hgd (by rfl) T.g_Lis_equal T.F_Lis_equal.kp T.B_Lis_equal (a_cons (e_var (pv 2) (by decide)) (a_cons (e_fz (l_lst (a_cons (e_tup (a_cons e_str (a_cons e_int a_nil))) (a_cons (e_tup (a_cons e_str (a_cons (e_tup (a_cons e_int (a_cons e_int (a_cons e_int a_nil)))) (a_cons (e_tup (a_cons e_int (a_cons e_int a_nil))) a_nil)))) (a_cons e_bl (a_cons e_bl a_nil)))))) a_nil))))) (b_one (s_ret e_bl)) b_nil)
    (b_one (s_ret (e_cmp or_is od_is (e_call (ok_shows_witness T) (hr.mono (by decide)) hgd (by rfl) T.g_shows_witness T.F_shows_witness.kp T.B_shows_witness (a_cons (e_var (pv 0) (by decide)) (a_cons (e_var (pv 1) (by decide)) (a_cons e_int (a_cons (e_tup (a_cons e_str (a_cons (e_tup (a_cons e_int a_nil)) (a_cons (e_tup a_nil) a_nil)))) a_nil))))) e_bl (nomark _))))))))))))
def b_Lring_right : Sm :=
    (mSeq (mSet 0 (mTup (mCons (mTup (mCons (mRet (.int 1)) mNil)) (mCons (mTup (mCons (mRet (.int 2)) mNil)) (mCons (mTup (mCons (mRet (.int 0)) mNil)) (mCons (mTup (mCons (mRet (.int 0)) mNil)) mNil))))))
    (mSeq (mSet 1 (mOfL (mSz (mCons (mFn 2 m_certain (mCons (mVar 0) (mCons (mOp gAdd (mTup (mCons (mRet (.str "alarm")) mNil)) (mOp Mir.gMul (mTup (mCons (mRet (.str "unseen")) mNil)) (mRet (.int 3)))) mNil))) (mCons (mFn 2 m_expected (mCons (mVar 0) (mCons (mTup (mCons (mRet (.str "unseen")) (mCons (mRet (.str "unseen")) (mCons (mRet (.str "alarm")) (mCons (mRet (.str "unseen")) mNil))))) mNil))) mNil)))))
    (mSeq (mSet 2 (mOfL (mSz (mCons (mTup (mCons (mRet (.str "open")) (mCons (mRet (.str "open")) (mCons (mRet (.str "open")) (mCons (mRet (.str "open")) mNil))))) (mCons (mTup (mCons (mRet (.str "alarm")) (mCons (mRet (.str "alarm")) (mCons (mRet (.str "alarm")) (mCons (mRet (.str "alarm")) mNil))))) mNil)))))
    (mSeq (mIte (mNot (mTru (mFn 2 m_Lis_equal (mCons (mVar 1) (mCons (mVar 2) mNil))))) (mRt (mRet (.bool false))) mNx)
    (mSeq (mSet 1 (mOfL (mSz (mCons (mFn 2 m_certain (mCons (mVar 0) (mCons (mTup (mCons (mRet (.str "quiet")) (mCons (mRet (.str "unseen")) (mCons (mRet (.str "unseen")) (mCons (mRet (.str "alarm")) mNil))))) mNil))) (mCons (mFn 2 m_certain (mCons (mVar 0) (mCons (mTup (mCons (mRet (.str "alarm")) (mCons (mRet (.str "quiet")) (mCons (mRet (.str "unseen")) (mCons (mRet (.str "unseen")) mNil))))) mNil))) mNil)))))
    (mSeq (mIte (mNot (mTru (mFn 2 m_Lis_equal (mCons (mVar 1) (mCons (mOfL (mSz (mCons (mTup (mCons (mRet (.str "whole")) (mCons (mRet (.str "whole")) (mCons (mRet (.str "whole")) (mCons (mRet (.str "broken")) mNil))))) (mCons (mRet .none) mNil)))) mNil))))) (mRt (mRet (.bool false))) mNx)
    (mSeq (mSet 3 (mTup (mCons (mRet (.str "unseen")) (mCons (mRet (.str "quiet")) (mCons (mRet (.str "quiet")) (mCons (mRet (.str "alarm")) mNil))))))
    (mSeq (mSet 1 (mOfL (mSz (mCons (mFn 3 m_witness (mCons (mVar 0) (mCons (mVar 3) (mCons (mRet (.int 3)) mNil)))) (mCons (mFn 3 m_witness (mCons (mVar 0) (mCons (mVar 3) (mCons (mRet (.int 0)) mNil)))) (mCons (mFn 3 m_witness (mCons (mVar 0) (mCons (mTup (mCons (mRet (.str "alarm")) (mCons (mRet (.str "quiet")) (mCons (mRet (.str "unseen")) (mCons (mRet (.str "unseen")) mNil))))) (mCons (mRet (.int 3)) mNil)))) mNil))))))
    (mSeq (mIte (mNot (mTru (mFn 2 m_Lis_equal (mCons (mVar 1) (mCons (mOfL (mSz (mCons (mTup (mCons (mRet (.str "broken")) (mCons (mRet (.int 3)) mNil))) (mCons (mTup (mCons (mRet (.str "whole")) (mCons (mRet (.int 1)) mNil))) (mCons (mRet .none) mNil))))) mNil))))) (mRt (mRet (.bool false))) mNx)
    (mRt (mOp gEq (mOfL (mLc (mBind (mCons (mRet (.int 4)) mNil) fun ds => mOpt (rng1 ds)) (fName 4) (mRet true) (mFn 4 m_shows_witness (mCons (mVar 0) (mCons (mVar 3) (mCons (mRet (.int 0)) (mCons (mTup (mCons (mRet (.str "whole")) (mCons (mVar 4) mNil))) mNil))))) [4])) (mOfL (mSz (mCons (mRet (.bool false)) (mCons (mRet (.bool true)) (mCons (mRet (.bool true)) (mCons (mRet (.bool false)) mNil)))))))))))))))))
def m_Lring_right : List Da → Option Da := runP 5 b_Lring_right
theorem ok_Lring_right (T : Txt K mg) : FnG P w K mg base 7 T.a_Lring_right T.d_Lring_right [] (spP K 0 m_Lring_right) :=
  fnP (k := 6) (N := n_Lring_right) (ow := []) (fb := b_Lring_right) T.F_Lring_right c_Lring_right (by decide) fun cdv A outer s H E hr hgd =>
    (b_cons (s_set (i := 0) c_Lring_right.nd rfl (Or.inr rfl) (by decide) (e_tup (a_cons (e_tup (a_cons e_int a_nil)) (a_cons (e_tup (a_cons e_int a_nil)) (a_cons (e_tup (a_cons e_int a_nil)) (a_cons (e_tup (a_cons e_int a_nil)) a_nil))))))
    (b_cons (s_set (i := 1) c_Lring_right.nd rfl (Or.inl rfl) (by decide) (e_fz (l_lst (a_cons (e_call (ok_certain T) (hr.mono (by decide)) hgd (by rfl) T.g_certain T.F_certain.kp T.B_certain (a_cons (e_var (pv 0) (by decide)) (a_cons (e_op or_add od_add (e_tup (a_cons e_str a_nil)) (e_op or_mul od_mul (e_tup (a_cons e_str a_nil)) e_int)) a_nil))) (a_cons (e_call (ok_expected T) (hr.mono (by decide)) hgd (by rfl) T.g_expected T.F_expected.kp T.B_expected (a_cons (e_var (pv 0) (by decide)) (a_cons (e_tup (a_cons e_str (a_cons e_str (a_cons e_str (a_cons e_str a_nil))))) a_nil))) a_nil)))))
    (b_cons (s_set (i := 2) c_Lring_right.nd rfl (Or.inl rfl) (by decide) (e_fz (l_lst (a_cons (e_tup (a_cons e_str (a_cons e_str (a_cons e_str (a_cons e_str a_nil))))) (a_cons (e_tup (a_cons e_str (a_cons e_str (a_cons e_str (a_cons e_str a_nil))))) a_nil)))))
    (b_cons (s_if (t_not (t_val (e_call (ok_Lis_equal T) (hr.mono (by decide)) hgd (by rfl) T.g_Lis_equal T.F_Lis_equal.kp T.B_Lis_equal (a_cons (e_var (pv 1) (by decide)) (a_cons (e_var (pv 2) (by decide)) a_nil))))) (b_one (s_ret e_bl)) b_nil)
    (b_cons (s_set (i := 1) c_Lring_right.nd rfl (Or.inl rfl) (by decide) (e_fz (l_lst (a_cons (e_call (ok_certain T) (hr.mono (by decide)) hgd (by rfl) T.g_certain T.F_certain.kp T.B_certain (a_cons (e_var (pv 0) (by decide)) (a_cons (e_tup (a_cons e_str (a_cons e_str (a_cons e_str (a_cons e_str a_nil))))) a_nil))) (a_cons (e_call (ok_certain T) (hr.mono (by decide)) hgd (by rfl) T.g_certain T.F_certain.kp T.B_certain (a_cons (e_var (pv 0) (by decide)) (a_cons (e_tup (a_cons e_str (a_cons e_str (a_cons e_str (a_cons e_str a_nil))))) a_nil))) a_nil)))))
    (b_cons (s_if (t_not (t_val (e_call (ok_Lis_equal T) (hr.mono (by decide)) hgd (by rfl) T.g_Lis_equal T.F_Lis_equal.kp T.B_Lis_equal (a_cons (e_var (pv 1) (by decide)) (a_cons (e_fz (l_lst (a_cons (e_tup (a_cons e_str (a_cons e_str (a_cons e_str (a_cons e_str a_nil))))) (a_cons e_non a_nil)))) a_nil))))) (b_one (s_ret e_bl)) b_nil)
    (b_cons (s_set (i := 3) c_Lring_right.nd rfl (Or.inr rfl) (by decide) (e_tup (a_cons e_str (a_cons e_str (a_cons e_str (a_cons e_str a_nil))))))
    (b_cons (s_set (i := 1) c_Lring_right.nd rfl (Or.inl rfl) (by decide) (e_fz (l_lst (a_cons (e_call (ok_witness T) (hr.mono (by decide)) hgd (by rfl) T.g_witness T.F_witness.kp T.B_witness (a_cons (e_var (pv 0) (by decide)) (a_cons (e_var (pv 3) (by decide)) (a_cons e_int a_nil)))) (a_cons (e_call (ok_witness T) (hr.mono (by decide)) hgd (by rfl) T.g_witness T.F_witness.kp T.B_witness (a_cons (e_var (pv 0) (by decide)) (a_cons (e_var (pv 3) (by decide)) (a_cons e_int a_nil)))) (a_cons (e_call (ok_witness T) (hr.mono (by decide)) hgd (by rfl) T.g_witness T.F_witness.kp T.B_witness (a_cons (e_var (pv 0) (by decide)) (a_cons (e_tup (a_cons e_str (a_cons e_str (a_cons e_str (a_cons e_str a_nil))))) (a_cons e_int a_nil)))) a_nil))))))
    (b_cons (s_if (t_not (t_val (e_call (ok_Lis_equal T) (hr.mono (by decide)) hgd (by rfl) T.g_Lis_equal T.F_Lis_equal.kp T.B_Lis_equal (a_cons (e_var (pv 1) (by decide)) (a_cons (e_fz (l_lst (a_cons (e_tup (a_cons e_str (a_cons e_int a_nil))) (a_cons (e_tup (a_cons e_str (a_cons e_int a_nil))) (a_cons e_non a_nil))))) a_nil))))) (b_one (s_ret e_bl)) b_nil)
    (b_one (s_ret (e_cmp (or_eq hr.units) od_eq (e_fz (l_lc (own := [("_law_one", 4)]) (ts := [4]) rfl c_Lring_right.nd (i_rng1 (by rfl) T.z_range (a_cons e_int a_nil)) (blkOk_by (N := n_Lring_right) (sc := (defScope s_Lring_right)) (own := [("_law_one", 4)]) (by decide +kernel)) (fun _ _ _ _ _ => (g_name (pg_name (i := 4) c_Lring_right.nd rfl (by first | exact Or.inl rfl | exact Or.inr rfl)) (by decide))) (fun _ _ _ _ _ => ts_nil) (fun _ _ _ _ _ => (e_call (ok_shows_witness T) (hr.mono (by decide)) hgd (by rfl) T.g_shows_witness T.F_shows_witness.kp T.B_shows_witness (a_cons (e_var (pv 0) (by decide)) (a_cons (e_var (pv 3) (by decide)) (a_cons e_int (a_cons (e_tup (a_cons e_str (a_cons (e_var (pv 4) (by decide)) a_nil))) a_nil)))))) (by decide) (by decide))) (e_fz (l_lst (a_cons e_bl (a_cons e_bl (a_cons e_bl (a_cons e_bl a_nil)))))) (nomark _)))))))))))))
def b_Lapart_right : Sm :=
    (mSeq (mSet 1 (mOp Mir.gMul (mTup (mCons (mTup mNil) mNil)) (mVar 0)))
    (mSeq (mSet 2 (mOfL (mSz (mCons (mFn 2 m_certain (mCons (mVar 1) (mCons (mOp Mir.gMul (mTup (mCons (mRet (.str "alarm")) mNil)) (mVar 0)) mNil))) (mCons (mFn 2 m_certain (mCons (mVar 1) (mCons (mOp Mir.gMul (mTup (mCons (mRet (.str "quiet")) mNil)) (mVar 0)) mNil))) (mCons (mFn 2 m_certain (mCons (mVar 1) (mCons (mOp Mir.gMul (mTup (mCons (mRet (.str "unseen")) mNil)) (mVar 0)) mNil))) mNil))))))
    (mSeq (mSet 2 (mOp gAdd (mVar 2) (mOfL (mSz (mCons (mFn 2 m_expected (mCons (mVar 1) (mCons (mOp Mir.gMul (mTup (mCons (mRet (.str "unseen")) mNil)) (mVar 0)) mNil))) (mCons (mFn 3 m_witness (mCons (mVar 1) (mCons (mOp Mir.gMul (mTup (mCons (mRet (.str "alarm")) mNil)) (mVar 0)) (mCons (mOp Mir.gSub (mVar 0) (mRet (.int 1))) mNil)))) mNil))))))
    (mSeq (mSet 3 (mOfL (mSz (mCons (mOp Mir.gMul (mTup (mCons (mRet (.str "broken")) mNil)) (mVar 0)) (mCons (mOp Mir.gMul (mTup (mCons (mRet (.str "whole")) mNil)) (mVar 0)) (mCons (mOp Mir.gMul (mTup (mCons (mRet (.str "open")) mNil)) (mVar 0)) (mCons (mOp Mir.gMul (mTup (mCons (mRet (.str "open")) mNil)) (mVar 0)) (mCons (mTup (mCons (mRet (.str "broken")) (mCons (mOp Mir.gSub (mVar 0) (mRet (.int 1))) mNil))) mNil))))))))
    (mRt (mFn 2 m_Lis_equal (mCons (mVar 2) (mCons (mVar 3) mNil))))))))
def m_Lapart_right : List Da → Option Da := runP 4 b_Lapart_right
theorem ok_Lapart_right (T : Txt K mg) : FnG P w K mg base 7 T.a_Lapart_right T.d_Lapart_right ["_law_size"] (spP K 1 m_Lapart_right) :=
  fnP (k := 6) (N := n_Lapart_right) (ow := []) (fb := b_Lapart_right) T.F_Lapart_right c_Lapart_right (by decide) fun cdv A outer s H E hr hgd =>
    (b_cons (s_set (i := 1) c_Lapart_right.nd rfl (Or.inl rfl) (by decide) (e_op or_mul od_mul (e_tup (a_cons (e_tup a_nil) a_nil)) (e_var (pv 0) (by decide))))
    (b_cons (s_set (i := 2) c_Lapart_right.nd rfl (Or.inl rfl) (by decide) (e_fz (l_lst (a_cons (e_call (ok_certain T) (hr.mono (by decide)) hgd (by rfl) T.g_certain T.F_certain.kp T.B_certain (a_cons (e_var (pv 1) (by decide)) (a_cons (e_op or_mul od_mul (e_tup (a_cons e_str a_nil)) (e_var (pv 0) (by decide))) a_nil))) (a_cons (e_call (ok_certain T) (hr.mono (by decide)) hgd (by rfl) T.g_certain T.F_certain.kp T.B_certain (a_cons (e_var (pv 1) (by decide)) (a_cons (e_op or_mul od_mul (e_tup (a_cons e_str a_nil)) (e_var (pv 0) (by decide))) a_nil))) (a_cons (e_call (ok_certain T) (hr.mono (by decide)) hgd (by rfl) T.g_certain T.F_certain.kp T.B_certain (a_cons (e_var (pv 1) (by decide)) (a_cons (e_op or_mul od_mul (e_tup (a_cons e_str a_nil)) (e_var (pv 0) (by decide))) a_nil))) a_nil))))))
    (b_cons (s_set (i := 2) c_Lapart_right.nd rfl (Or.inl rfl) (by decide) (e_op or_add od_add (e_var (pv 2) (by decide)) (e_fz (l_lst (a_cons (e_call (ok_expected T) (hr.mono (by decide)) hgd (by rfl) T.g_expected T.F_expected.kp T.B_expected (a_cons (e_var (pv 1) (by decide)) (a_cons (e_op or_mul od_mul (e_tup (a_cons e_str a_nil)) (e_var (pv 0) (by decide))) a_nil))) (a_cons (e_call (ok_witness T) (hr.mono (by decide)) hgd (by rfl) T.g_witness T.F_witness.kp T.B_witness (a_cons (e_var (pv 1) (by decide)) (a_cons (e_op or_mul od_mul (e_tup (a_cons e_str a_nil)) (e_var (pv 0) (by decide))) (a_cons (e_op op_sub od_sub (e_var (pv 0) (by decide)) e_int) a_nil)))) a_nil))))))
    (b_cons (s_set (i := 3) c_Lapart_right.nd rfl (Or.inl rfl) (by decide) (e_fz (l_lst (a_cons (e_op or_mul od_mul (e_tup (a_cons e_str a_nil)) (e_var (pv 0) (by decide))) (a_cons (e_op or_mul od_mul (e_tup (a_cons e_str a_nil)) (e_var (pv 0) (by decide))) (a_cons (e_op or_mul od_mul (e_tup (a_cons e_str a_nil)) (e_var (pv 0) (by decide))) (a_cons (e_op or_mul od_mul (e_tup (a_cons e_str a_nil)) (e_var (pv 0) (by decide))) (a_cons (e_tup (a_cons e_str (a_cons (e_op op_sub od_sub (e_var (pv 0) (by decide)) e_int) a_nil))) a_nil))))))))
    (b_one (s_ret (e_call (ok_Lis_equal T) (hr.mono (by decide)) hgd (by rfl) T.g_Lis_equal T.F_Lis_equal.kp T.B_Lis_equal (a_cons (e_var (pv 2) (by decide)) (a_cons (e_var (pv 3) (by decide)) a_nil)))))))))
def b_Ldraw : Sm :=
    (mSeq (mIte (mB (mOp gGt (mOp1 gIx 0 (mRet (.int 0))) (mRet (.int 0)))) (mSeq (mSet 2 (mOp gMod (mOp1 gIx 0 (mRet (.int 0))) (mVar 1)))
    (mSeq (mSetI 0 (mRet (.int 0)) (mOp gDiv (mOp1 gIx 0 (mRet (.int 0))) (mVar 1)))
    (mRt (mVar 2)))) mNx)
    (mSeq (mSetI 0 (mRet (.int 2)) (mOp gAdd (mOp1 gIx 0 (mRet (.int 2))) (mRet (.int 1))))
    (mSeq (mSetI 0 (mRet (.int 1)) (mOp gMod (mOp gAdd (mOp gAdd (mOp Mir.gMul (mOp1 gIx 0 (mRet (.int 1))) (mRet (.int 48271))) (mOp Mir.gMul (mRet (.int 1009)) (mOp1 gIx 0 (mRet (.int 2))))) (mRet (.int 7))) (mRet (.int 2147483647))))
    (mSeq (mSet 3 (mOp gMod (mOp gAdd (mOp gAdd (mOp Mir.gMul (mOp1 gIx 0 (mRet (.int 1))) (mOp1 gIx 0 (mRet (.int 1)))) (mOp Mir.gMul (mRet (.int 69621)) (mOp1 gIx 0 (mRet (.int 1))))) (mRet (.int 11))) (mRet (.int 2147483629))))
    (mSeq (mSet 3 (mOp gMod (mOp gAdd (mOp Mir.gMul (mVar 3) (mVar 3)) (mOp Mir.gMul (mRet (.int 40014)) (mVar 3))) (mRet (.int 2147483587))))
    (mRt (mOp gMod (mOp gDiv (mVar 3) (mRet (.int 16))) (mVar 1))))))))
def m_Ldraw : List Da → List Da → Option (Da × List Da) := runI 4 b_Ldraw
theorem ok_Ldraw (T : Txt K mg) : FnG P w K mg base 1 T.a_Ldraw T.d_Ldraw ["_law_supply", "_law_many"] (spI K 2 m_Ldraw) :=
  fnI (k := 0) (N := n_Ldraw) (ow := [0]) (fb := b_Ldraw) T.F_Ldraw c_Ldraw (by decide) (by decide) (by decide) fun cdv A outer s H E hr hgd =>
    (b_cons (s_if (t_cmp op_gt od_c (e_ix1 or_ix od_ix (pv 0) (by decide) e_int (fun _ _ => rfl)) e_int (nomark _)) (b_cons (s_set (i := 2) c_Ldraw.nd rfl (Or.inl rfl) (by decide) (e_op op_mod od_mod (e_ix1 or_ix od_ix (pv 0) (by decide) e_int (fun _ _ => rfl)) (e_var (pv 1) (by decide))))
    (b_cons (s_setI (ps_asg (e_op op_fdivW od_div (e_ix1 or_ix od_ix (pv 0) (by decide) e_int (fun _ _ => rfl)) (e_var (pv 1) (by decide))) (pg_sub (pv 0) e_int set_list)) (by decide))
    (b_one (s_ret (e_var (pv 2) (by decide)))))) b_nil)
    (b_cons (s_setI (ps_asg (e_op or_add od_add (e_ix1 or_ix od_ix (pv 0) (by decide) e_int (fun _ _ => rfl)) e_int) (pg_sub (pv 0) e_int set_list)) (by decide))
    (b_cons (s_setI (ps_asg (e_op op_mod od_mod (e_op or_add od_add (e_op or_add od_add (e_op or_mul od_mul (e_ix1 or_ix od_ix (pv 0) (by decide) e_int (fun _ _ => rfl)) e_int) (e_op or_mul od_mul e_int (e_ix1 or_ix od_ix (pv 0) (by decide) e_int (fun _ _ => rfl)))) e_int) e_int) (pg_sub (pv 0) e_int set_list)) (by decide))
    (b_cons (s_set (i := 3) c_Ldraw.nd rfl (Or.inl rfl) (by decide) (e_op op_mod od_mod (e_op or_add od_add (e_op or_add od_add (e_op or_mul od_mul (e_ix1 or_ix od_ix (pv 0) (by decide) e_int (fun _ _ => rfl)) (e_ix1 or_ix od_ix (pv 0) (by decide) e_int (fun _ _ => rfl))) (e_op or_mul od_mul e_int (e_ix1 or_ix od_ix (pv 0) (by decide) e_int (fun _ _ => rfl)))) e_int) e_int))
    (b_cons (s_set (i := 3) c_Ldraw.nd rfl (Or.inl rfl) (by decide) (e_op op_mod od_mod (e_op or_add od_add (e_op or_mul od_mul (e_var (pv 3) (by decide)) (e_var (pv 3) (by decide))) (e_op or_mul od_mul e_int (e_var (pv 3) (by decide)))) e_int))
    (b_one (s_ret (e_op op_mod od_mod (e_op op_fdivW od_div (e_var (pv 3) (by decide)) e_int) (e_var (pv 1) (by decide))))))))))
def b_Lsource : Md (List Da) := (mSz (mCons (mCall gMax2 (mCons (mRet (.int 0)) (mCons (mOp Mir.gSub (mVar 0) (mOp gPow (mRet (.int 10)) (mRet (.int 18)))) mNil))) (mCons (mOp gAdd (mOp gMod (mVar 0) (mRet (.int 2147483629))) (mRet (.int 1))) (mCons (mRet (.int 0)) mNil))))
def m_Lsource : List Da → Option (List Da) := runL 1 b_Lsource
theorem ok_Lsource (T : Txt K mg) : FnG P w K mg base 1 T.a_Lsource T.d_Lsource ["_law_cell_here"] (spL K 1 m_Lsource) :=
  fnL (k := 0) (N := n_Lsource) (fl := b_Lsource) T.F_Lsource c_Lsource rfl fun cdv A outer s H E hr hgd =>
    (l_lst (a_cons (e_callB (call_max2 rfl) cd_max2 (by rfl) T.z_max bt_max (a_cons e_int (a_cons (e_op op_sub od_sub (e_var (pv 0) (by decide)) (e_op op_pow od_pow e_int e_int)) a_nil))) (a_cons (e_op or_add od_add (e_op op_mod od_mod (e_var (pv 0) (by decide)) e_int) e_int) (a_cons e_int a_nil))))
def b_Lcell : Sm :=
    (mSeq (mIte (mB (mOp gLt (mVar 1) (mCall gLen (mCons (mVar 0) mNil)))) (mRt (mOp gIx (mVar 0) (mVar 1))) mNx)
    (mRt (mRet (.int 0))))
def m_Lcell : List Da → Option Da := runP 2 b_Lcell
theorem ok_Lcell (T : Txt K mg) : FnG P w K mg base 1 T.a_Lcell T.d_Lcell ["_law_script", "_law_index"] (spP K 2 m_Lcell) :=
  fnP (k := 0) (N := n_Lcell) (ow := []) (fb := b_Lcell) T.F_Lcell c_Lcell (by decide) fun cdv A outer s H E hr hgd =>
    (b_cons (s_if (t_cmp op_lt od_c (e_var (pv 1) (by decide)) (e_callB call_len_seq cd_len (by rfl) T.z_len bt_len (a_cons (e_var (pv 0) (by decide)) a_nil)) (nomark _)) (b_one (s_ret (e_ix or_ix od_ix (e_var (pv 0) (by decide)) (e_var (pv 1) (by decide)) (fun _ _ => rfl)))) b_nil)
    (b_one (s_ret e_int)))
def b_law : Sm :=
    (mSeq (mFor (mBind (mCons (mCall gMax2 (mCons (mRet (.int 1)) (mCons (mCall gMin2 (mCons (mCall gLen (mCons (mVar 0) mNil)) (mCons (mRet (.int 3)) mNil))) mNil))) mNil) fun ds => mOpt (rng1 ds)) (fName 1) (mIte (mNot (mTru (mFn 1 m_Lapart_right (mCons (mOp gAdd (mRet (.int 1)) (mFnIF 2 m_Ldraw (mFnL 1 m_Lsource (mCons (mFn 2 m_Lcell (mCons (mVar 0) (mCons (mVar 1) mNil))) mNil)) (mCons (mRet (.int 8)) mNil))) mNil)))) (mRt (mRet (.bool false))) mNx))
    (mRt (mAndV (mFn 0 m_Loverview_right mNil) (mFn 0 m_Lring_right mNil))))
def m_law : List Da → Option Da := runP 2 b_law
theorem ok_law (T : Txt K mg) : FnG P w K mg base 8 T.a_law T.d_law ["_law_script"] (spP K 1 m_law) :=
  fnP (k := 7) (N := n_law) (ow := []) (fb := b_law) T.F_law c_law (by decide) fun cdv A outer s H E hr hgd =>
    (b_cons (s_for (ts := [1]) PassesOwn.never rfl (i_rng1 (by rfl) T.z_range (a_cons (e_callB (call_max2 rfl) cd_max2 (by rfl) T.z_max bt_max (a_cons e_int (a_cons (e_callB (call_min2 rfl) cd_min2 (by rfl) T.z_min bt_min (a_cons (e_callB call_len_seq cd_len (by rfl) T.z_len bt_len (a_cons (e_var (pv 0) (by decide)) a_nil)) (a_cons e_int a_nil))) a_nil))) a_nil)) (g_name (pg_name (i := 1) c_law.nd rfl (by first | exact Or.inl rfl | exact Or.inr rfl)) (by decide)) (b_one (s_if (t_not (t_val (e_call (ok_Lapart_right T) (hr.mono (by decide)) hgd (by rfl) T.g_Lapart_right T.F_Lapart_right.kp T.B_Lapart_right (a_cons (e_op or_add od_add e_int (e_callIF (ok_Ldraw T) (hr.mono (by decide)) hgd (by rfl) T.g_Ldraw T.F_Ldraw.kp T.B_Ldraw (l_call (ok_Lsource T) (hr.mono (by decide)) hgd (by rfl) T.g_Lsource T.F_Lsource.kp T.B_Lsource (a_cons (e_call (ok_Lcell T) (hr.mono (by decide)) hgd (by rfl) T.g_Lcell T.F_Lcell.kp T.B_Lcell (a_cons (e_var (pv 0) (by decide)) (a_cons (e_var (pv 1) (by decide)) a_nil))) a_nil)) (a_cons e_int a_nil))) a_nil)))) (b_one (s_ret e_bl)) b_nil)))
    (b_one (s_ret (e_and (e_call0 (ok_Loverview_right T) (hr.mono (by decide)) hgd (by rfl) T.g_Loverview_right T.F_Loverview_right.kp T.B_Loverview_right) (e_one (e_call0 (ok_Lring_right T) (hr.mono (by decide)) hgd (by rfl) T.g_Lring_right T.F_Lring_right.kp T.B_Lring_right))))))
end
theorem all_mk {l : PySem.W.OpenLaw} {w : World} {K : PySem.W.Frag} {h : Heap} {mg : Str → Option Value} {fa : Addr}
    (X : K.In h) (G : h.Ns mainGlobals mg) (hfa : mg "law" = some (.ref fa))
    {f0 : Addr} {od0 an0 : Option Addr} {sl0 : Array (Option Value)} {oc0 kV0 dc0 pm0 cd0 ct0 : Value} (a0 : PySem.W.nsIn K mainGlobals "is_component" = some (some (.ref f0))) (l0 : K.lookup f0 = some ⟨oc0, od0, .func (PySem.W.fnOf "is_component" "is_component" (defArgs s_is_component) (defBody s_is_component) (defScope s_is_component) .none kV0 dc0 pm0 an0 cd0 ct0), sl0⟩) (c0 : PySem.W.codeIn K cd0 "is_component" = true) (k0 : PySem.W.keepIn K (.ref f0) = true)
    {f1 : Addr} {od1 an1 : Option Addr} {sl1 : Array (Option Value)} {oc1 kV1 dc1 pm1 cd1 ct1 : Value} (a1 : PySem.W.nsIn K mainGlobals "is_set_of" = some (some (.ref f1))) (l1 : K.lookup f1 = some ⟨oc1, od1, .func (PySem.W.fnOf "is_set_of" "is_set_of" (defArgs s_is_set_of) (defBody s_is_set_of) (defScope s_is_set_of) .none kV1 dc1 pm1 an1 cd1 ct1), sl1⟩) (c1 : PySem.W.codeIn K cd1 "is_set_of" = true) (k1 : PySem.W.keepIn K (.ref f1) = true)
    {f2 : Addr} {od2 an2 : Option Addr} {sl2 : Array (Option Value)} {oc2 kV2 dc2 pm2 cd2 ct2 : Value} (a2 : PySem.W.nsIn K mainGlobals "is_net" = some (some (.ref f2))) (l2 : K.lookup f2 = some ⟨oc2, od2, .func (PySem.W.fnOf "is_net" "is_net" (defArgs s_is_net) (defBody s_is_net) (defScope s_is_net) .none kV2 dc2 pm2 an2 cd2 ct2), sl2⟩) (c2 : PySem.W.codeIn K cd2 "is_net" = true) (k2 : PySem.W.keepIn K (.ref f2) = true)
    {f3 : Addr} {od3 an3 : Option Addr} {sl3 : Array (Option Value)} {oc3 kV3 dc3 pm3 cd3 ct3 : Value} (a3 : PySem.W.nsIn K mainGlobals "check_net" = some (some (.ref f3))) (l3 : K.lookup f3 = some ⟨oc3, od3, .func (PySem.W.fnOf "check_net" "check_net" (defArgs s_check_net) (defBody s_check_net) (defScope s_check_net) .none kV3 dc3 pm3 an3 cd3 ct3), sl3⟩) (c3 : PySem.W.codeIn K cd3 "check_net" = true) (k3 : PySem.W.keepIn K (.ref f3) = true)
    {f4 : Addr} {od4 an4 : Option Addr} {sl4 : Array (Option Value)} {oc4 kV4 dc4 pm4 cd4 ct4 : Value} (a4 : PySem.W.nsIn K mainGlobals "is_report_of" = some (some (.ref f4))) (l4 : K.lookup f4 = some ⟨oc4, od4, .func (PySem.W.fnOf "is_report_of" "is_report_of" (defArgs s_is_report_of) (defBody s_is_report_of) (defScope s_is_report_of) .none kV4 dc4 pm4 an4 cd4 ct4), sl4⟩) (c4 : PySem.W.codeIn K cd4 "is_report_of" = true) (k4 : PySem.W.keepIn K (.ref f4) = true)
    {f5 : Addr} {od5 an5 : Option Addr} {sl5 : Array (Option Value)} {oc5 kV5 dc5 pm5 cd5 ct5 : Value} (a5 : PySem.W.nsIn K mainGlobals "check_report" = some (some (.ref f5))) (l5 : K.lookup f5 = some ⟨oc5, od5, .func (PySem.W.fnOf "check_report" "check_report" (defArgs s_check_report) (defBody s_check_report) (defScope s_check_report) .none kV5 dc5 pm5 an5 cd5 ct5), sl5⟩) (c5 : PySem.W.codeIn K cd5 "check_report" = true) (k5 : PySem.W.keepIn K (.ref f5) = true)
    {f6 : Addr} {od6 an6 : Option Addr} {sl6 : Array (Option Value)} {oc6 kV6 dc6 pm6 cd6 ct6 : Value} (a6 : PySem.W.nsIn K mainGlobals "reach_of" = some (some (.ref f6))) (l6 : K.lookup f6 = some ⟨oc6, od6, .func (PySem.W.fnOf "reach_of" "reach_of" (defArgs s_reach_of) (defBody s_reach_of) (defScope s_reach_of) .none kV6 dc6 pm6 an6 cd6 ct6), sl6⟩) (c6 : PySem.W.codeIn K cd6 "reach_of" = true) (k6 : PySem.W.keepIn K (.ref f6) = true)
    {f7 : Addr} {od7 an7 : Option Addr} {sl7 : Array (Option Value)} {oc7 kV7 dc7 pm7 cd7 ct7 : Value} (a7 : PySem.W.nsIn K mainGlobals "reaches" = some (some (.ref f7))) (l7 : K.lookup f7 = some ⟨oc7, od7, .func (PySem.W.fnOf "reaches" "reaches" (defArgs s_reaches) (defBody s_reaches) (defScope s_reaches) .none kV7 dc7 pm7 an7 cd7 ct7), sl7⟩) (c7 : PySem.W.codeIn K cd7 "reaches" = true) (k7 : PySem.W.keepIn K (.ref f7) = true)
    {f8 : Addr} {od8 an8 : Option Addr} {sl8 : Array (Option Value)} {oc8 kV8 dc8 pm8 cd8 ct8 : Value} (a8 : PySem.W.nsIn K mainGlobals "those_with" = some (some (.ref f8))) (l8 : K.lookup f8 = some ⟨oc8, od8, .func (PySem.W.fnOf "those_with" "those_with" (defArgs s_those_with) (defBody s_those_with) (defScope s_those_with) .none kV8 dc8 pm8 an8 cd8 ct8), sl8⟩) (c8 : PySem.W.codeIn K cd8 "those_with" = true) (k8 : PySem.W.keepIn K (.ref f8) = true)
    {f9 : Addr} {od9 an9 : Option Addr} {sl9 : Array (Option Value)} {oc9 kV9 dc9 pm9 cd9 ct9 : Value} (a9 : PySem.W.nsIn K mainGlobals "clearers" = some (some (.ref f9))) (l9 : K.lookup f9 = some ⟨oc9, od9, .func (PySem.W.fnOf "clearers" "clearers" (defArgs s_clearers) (defBody s_clearers) (defScope s_clearers) .none kV9 dc9 pm9 an9 cd9 ct9), sl9⟩) (c9 : PySem.W.codeIn K cd9 "clearers" = true) (k9 : PySem.W.keepIn K (.ref f9) = true)
    {f10 : Addr} {od10 an10 : Option Addr} {sl10 : Array (Option Value)} {oc10 kV10 dc10 pm10 cd10 ct10 : Value} (a10 : PySem.W.nsIn K mainGlobals "suspects" = some (some (.ref f10))) (l10 : K.lookup f10 = some ⟨oc10, od10, .func (PySem.W.fnOf "suspects" "suspects" (defArgs s_suspects) (defBody s_suspects) (defScope s_suspects) .none kV10 dc10 pm10 an10 cd10 ct10), sl10⟩) (c10 : PySem.W.codeIn K cd10 "suspects" = true) (k10 : PySem.W.keepIn K (.ref f10) = true)
    {f11 : Addr} {od11 an11 : Option Addr} {sl11 : Array (Option Value)} {oc11 kV11 dc11 pm11 cd11 ct11 : Value} (a11 : PySem.W.nsIn K mainGlobals "unexplained" = some (some (.ref f11))) (l11 : K.lookup f11 = some ⟨oc11, od11, .func (PySem.W.fnOf "unexplained" "unexplained" (defArgs s_unexplained) (defBody s_unexplained) (defScope s_unexplained) .none kV11 dc11 pm11 an11 cd11 ct11), sl11⟩) (c11 : PySem.W.codeIn K cd11 "unexplained" = true) (k11 : PySem.W.keepIn K (.ref f11) = true)
    {f12 : Addr} {od12 an12 : Option Addr} {sl12 : Array (Option Value)} {oc12 kV12 dc12 pm12 cd12 ct12 : Value} (a12 : PySem.W.nsIn K mainGlobals "accusers" = some (some (.ref f12))) (l12 : K.lookup f12 = some ⟨oc12, od12, .func (PySem.W.fnOf "accusers" "accusers" (defArgs s_accusers) (defBody s_accusers) (defScope s_accusers) .none kV12 dc12 pm12 an12 cd12 ct12), sl12⟩) (c12 : PySem.W.codeIn K cd12 "accusers" = true) (k12 : PySem.W.keepIn K (.ref f12) = true)
    {f13 : Addr} {od13 an13 : Option Addr} {sl13 : Array (Option Value)} {oc13 kV13 dc13 pm13 cd13 ct13 : Value} (a13 : PySem.W.nsIn K mainGlobals "state_of" = some (some (.ref f13))) (l13 : K.lookup f13 = some ⟨oc13, od13, .func (PySem.W.fnOf "state_of" "state_of" (defArgs s_state_of) (defBody s_state_of) (defScope s_state_of) .none kV13 dc13 pm13 an13 cd13 ct13), sl13⟩) (c13 : PySem.W.codeIn K cd13 "state_of" = true) (k13 : PySem.W.keepIn K (.ref f13) = true)
    {f14 : Addr} {od14 an14 : Option Addr} {sl14 : Array (Option Value)} {oc14 kV14 dc14 pm14 cd14 ct14 : Value} (a14 : PySem.W.nsIn K mainGlobals "certain" = some (some (.ref f14))) (l14 : K.lookup f14 = some ⟨oc14, od14, .func (PySem.W.fnOf "certain" "certain" (defArgs s_certain) (defBody s_certain) (defScope s_certain) .none kV14 dc14 pm14 an14 cd14 ct14), sl14⟩) (c14 : PySem.W.codeIn K cd14 "certain" = true) (k14 : PySem.W.keepIn K (.ref f14) = true)
    {f15 : Addr} {od15 an15 : Option Addr} {sl15 : Array (Option Value)} {oc15 kV15 dc15 pm15 cd15 ct15 : Value} (a15 : PySem.W.nsIn K mainGlobals "is_within" = some (some (.ref f15))) (l15 : K.lookup f15 = some ⟨oc15, od15, .func (PySem.W.fnOf "is_within" "is_within" (defArgs s_is_within) (defBody s_is_within) (defScope s_is_within) .none kV15 dc15 pm15 an15 cd15 ct15), sl15⟩) (c15 : PySem.W.codeIn K cd15 "is_within" = true) (k15 : PySem.W.keepIn K (.ref f15) = true)
    {f16 : Addr} {od16 an16 : Option Addr} {sl16 : Array (Option Value)} {oc16 kV16 dc16 pm16 cd16 ct16 : Value} (a16 : PySem.W.nsIn K mainGlobals "expected_of" = some (some (.ref f16))) (l16 : K.lookup f16 = some ⟨oc16, od16, .func (PySem.W.fnOf "expected_of" "expected_of" (defArgs s_expected_of) (defBody s_expected_of) (defScope s_expected_of) .none kV16 dc16 pm16 an16 cd16 ct16), sl16⟩) (c16 : PySem.W.codeIn K cd16 "expected_of" = true) (k16 : PySem.W.keepIn K (.ref f16) = true)
    {f17 : Addr} {od17 an17 : Option Addr} {sl17 : Array (Option Value)} {oc17 kV17 dc17 pm17 cd17 ct17 : Value} (a17 : PySem.W.nsIn K mainGlobals "expected" = some (some (.ref f17))) (l17 : K.lookup f17 = some ⟨oc17, od17, .func (PySem.W.fnOf "expected" "expected" (defArgs s_expected) (defBody s_expected) (defScope s_expected) .none kV17 dc17 pm17 an17 cd17 ct17), sl17⟩) (c17 : PySem.W.codeIn K cd17 "expected" = true) (k17 : PySem.W.keepIn K (.ref f17) = true)
    {f18 : Addr} {od18 an18 : Option Addr} {sl18 : Array (Option Value)} {oc18 kV18 dc18 pm18 cd18 ct18 : Value} (a18 : PySem.W.nsIn K mainGlobals "_law_is_equal" = some (some (.ref f18))) (l18 : K.lookup f18 = some ⟨oc18, od18, .func (PySem.W.fnOf "_law_is_equal" "_law_is_equal" (defArgs s_Lis_equal) (defBody s_Lis_equal) (defScope s_Lis_equal) .none kV18 dc18 pm18 an18 cd18 ct18), sl18⟩) (c18 : PySem.W.codeIn K cd18 "_law_is_equal" = true) (k18 : PySem.W.keepIn K (.ref f18) = true)
    {f19 : Addr} {od19 an19 : Option Addr} {sl19 : Array (Option Value)} {oc19 kV19 dc19 pm19 cd19 ct19 : Value} (a19 : PySem.W.nsIn K mainGlobals "check_component" = some (some (.ref f19))) (l19 : K.lookup f19 = some ⟨oc19, od19, .func (PySem.W.fnOf "check_component" "check_component" (defArgs s_check_component) (defBody s_check_component) (defScope s_check_component) .none kV19 dc19 pm19 an19 cd19 ct19), sl19⟩) (c19 : PySem.W.codeIn K cd19 "check_component" = true) (k19 : PySem.W.keepIn K (.ref f19) = true)
    {f20 : Addr} {od20 an20 : Option Addr} {sl20 : Array (Option Value)} {oc20 kV20 dc20 pm20 cd20 ct20 : Value} (a20 : PySem.W.nsIn K mainGlobals "all_candidates" = some (some (.ref f20))) (l20 : K.lookup f20 = some ⟨oc20, od20, .func (PySem.W.fnOf "all_candidates" "all_candidates" (defArgs s_all_candidates) (defBody s_all_candidates) (defScope s_all_candidates) .none kV20 dc20 pm20 an20 cd20 ct20), sl20⟩) (c20 : PySem.W.codeIn K cd20 "all_candidates" = true) (k20 : PySem.W.keepIn K (.ref f20) = true)
    {f21 : Addr} {od21 an21 : Option Addr} {sl21 : Array (Option Value)} {oc21 kV21 dc21 pm21 cd21 ct21 : Value} (a21 : PySem.W.nsIn K mainGlobals "witness" = some (some (.ref f21))) (l21 : K.lookup f21 = some ⟨oc21, od21, .func (PySem.W.fnOf "witness" "witness" (defArgs s_witness) (defBody s_witness) (defScope s_witness) .none kV21 dc21 pm21 an21 cd21 ct21), sl21⟩) (c21 : PySem.W.codeIn K cd21 "witness" = true) (k21 : PySem.W.keepIn K (.ref f21) = true)
    {f22 : Addr} {od22 an22 : Option Addr} {sl22 : Array (Option Value)} {oc22 kV22 dc22 pm22 cd22 ct22 : Value} (a22 : PySem.W.nsIn K mainGlobals "meets" = some (some (.ref f22))) (l22 : K.lookup f22 = some ⟨oc22, od22, .func (PySem.W.fnOf "meets" "meets" (defArgs s_meets) (defBody s_meets) (defScope s_meets) .none kV22 dc22 pm22 an22 cd22 ct22), sl22⟩) (c22 : PySem.W.codeIn K cd22 "meets" = true) (k22 : PySem.W.keepIn K (.ref f22) = true)
    {f23 : Addr} {od23 an23 : Option Addr} {sl23 : Array (Option Value)} {oc23 kV23 dc23 pm23 cd23 ct23 : Value} (a23 : PySem.W.nsIn K mainGlobals "told_by" = some (some (.ref f23))) (l23 : K.lookup f23 = some ⟨oc23, od23, .func (PySem.W.fnOf "told_by" "told_by" (defArgs s_told_by) (defBody s_told_by) (defScope s_told_by) .none kV23 dc23 pm23 an23 cd23 ct23), sl23⟩) (c23 : PySem.W.codeIn K cd23 "told_by" = true) (k23 : PySem.W.keepIn K (.ref f23) = true)
    {f24 : Addr} {od24 an24 : Option Addr} {sl24 : Array (Option Value)} {oc24 kV24 dc24 pm24 cd24 ct24 : Value} (a24 : PySem.W.nsIn K mainGlobals "told" = some (some (.ref f24))) (l24 : K.lookup f24 = some ⟨oc24, od24, .func (PySem.W.fnOf "told" "told" (defArgs s_told) (defBody s_told) (defScope s_told) .none kV24 dc24 pm24 an24 cd24 ct24), sl24⟩) (c24 : PySem.W.codeIn K cd24 "told" = true) (k24 : PySem.W.keepIn K (.ref f24) = true)
    {f25 : Addr} {od25 an25 : Option Addr} {sl25 : Array (Option Value)} {oc25 kV25 dc25 pm25 cd25 ct25 : Value} (a25 : PySem.W.nsIn K mainGlobals "is_explanation" = some (some (.ref f25))) (l25 : K.lookup f25 = some ⟨oc25, od25, .func (PySem.W.fnOf "is_explanation" "is_explanation" (defArgs s_is_explanation) (defBody s_is_explanation) (defScope s_is_explanation) .none kV25 dc25 pm25 an25 cd25 ct25), sl25⟩) (c25 : PySem.W.codeIn K cd25 "is_explanation" = true) (k25 : PySem.W.keepIn K (.ref f25) = true)
    {f26 : Addr} {od26 an26 : Option Addr} {sl26 : Array (Option Value)} {oc26 kV26 dc26 pm26 cd26 ct26 : Value} (a26 : PySem.W.nsIn K mainGlobals "is_choice" = some (some (.ref f26))) (l26 : K.lookup f26 = some ⟨oc26, od26, .func (PySem.W.fnOf "is_choice" "is_choice" (defArgs s_is_choice) (defBody s_is_choice) (defScope s_is_choice) .none kV26 dc26 pm26 an26 cd26 ct26), sl26⟩) (c26 : PySem.W.codeIn K cd26 "is_choice" = true) (k26 : PySem.W.keepIn K (.ref f26) = true)
    {f27 : Addr} {od27 an27 : Option Addr} {sl27 : Array (Option Value)} {oc27 kV27 dc27 pm27 cd27 ct27 : Value} (a27 : PySem.W.nsIn K mainGlobals "shows_witness" = some (some (.ref f27))) (l27 : K.lookup f27 = some ⟨oc27, od27, .func (PySem.W.fnOf "shows_witness" "shows_witness" (defArgs s_shows_witness) (defBody s_shows_witness) (defScope s_shows_witness) .none kV27 dc27 pm27 an27 cd27 ct27), sl27⟩) (c27 : PySem.W.codeIn K cd27 "shows_witness" = true) (k27 : PySem.W.keepIn K (.ref f27) = true)
    {f28 : Addr} {od28 an28 : Option Addr} {sl28 : Array (Option Value)} {oc28 kV28 dc28 pm28 cd28 ct28 : Value} (a28 : PySem.W.nsIn K mainGlobals "_law_overview_right" = some (some (.ref f28))) (l28 : K.lookup f28 = some ⟨oc28, od28, .func (PySem.W.fnOf "_law_overview_right" "_law_overview_right" (defArgs s_Loverview_right) (defBody s_Loverview_right) (defScope s_Loverview_right) .none kV28 dc28 pm28 an28 cd28 ct28), sl28⟩) (c28 : PySem.W.codeIn K cd28 "_law_overview_right" = true) (k28 : PySem.W.keepIn K (.ref f28) = true)
    {f29 : Addr} {od29 an29 : Option Addr} {sl29 : Array (Option Value)} {oc29 kV29 dc29 pm29 cd29 ct29 : Value} (a29 : PySem.W.nsIn K mainGlobals "_law_ring_right" = some (some (.ref f29))) (l29 : K.lookup f29 = some ⟨oc29, od29, .func (PySem.W.fnOf "_law_ring_right" "_law_ring_right" (defArgs s_Lring_right) (defBody s_Lring_right) (defScope s_Lring_right) .none kV29 dc29 pm29 an29 cd29 ct29), sl29⟩) (c29 : PySem.W.codeIn K cd29 "_law_ring_right" = true) (k29 : PySem.W.keepIn K (.ref f29) = true)
    {f30 : Addr} {od30 an30 : Option Addr} {sl30 : Array (Option Value)} {oc30 kV30 dc30 pm30 cd30 ct30 : Value} (a30 : PySem.W.nsIn K mainGlobals "_law_apart_right" = some (some (.ref f30))) (l30 : K.lookup f30 = some ⟨oc30, od30, .func (PySem.W.fnOf "_law_apart_right" "_law_apart_right" (defArgs s_Lapart_right) (defBody s_Lapart_right) (defScope s_Lapart_right) .none kV30 dc30 pm30 an30 cd30 ct30), sl30⟩) (c30 : PySem.W.codeIn K cd30 "_law_apart_right" = true) (k30 : PySem.W.keepIn K (.ref f30) = true)
    {f31 : Addr} {od31 an31 : Option Addr} {sl31 : Array (Option Value)} {oc31 kV31 dc31 pm31 cd31 ct31 : Value} (a31 : PySem.W.nsIn K mainGlobals "_law_draw" = some (some (.ref f31))) (l31 : K.lookup f31 = some ⟨oc31, od31, .func (PySem.W.fnOf "_law_draw" "_law_draw" (defArgs s_Ldraw) (defBody s_Ldraw) (defScope s_Ldraw) .none kV31 dc31 pm31 an31 cd31 ct31), sl31⟩) (c31 : PySem.W.codeIn K cd31 "_law_draw" = true) (k31 : PySem.W.keepIn K (.ref f31) = true)
    {f32 : Addr} {od32 an32 : Option Addr} {sl32 : Array (Option Value)} {oc32 kV32 dc32 pm32 cd32 ct32 : Value} (a32 : PySem.W.nsIn K mainGlobals "_law_source" = some (some (.ref f32))) (l32 : K.lookup f32 = some ⟨oc32, od32, .func (PySem.W.fnOf "_law_source" "_law_source" (defArgs s_Lsource) (defBody s_Lsource) (defScope s_Lsource) .none kV32 dc32 pm32 an32 cd32 ct32), sl32⟩) (c32 : PySem.W.codeIn K cd32 "_law_source" = true) (k32 : PySem.W.keepIn K (.ref f32) = true)
    {f33 : Addr} {od33 an33 : Option Addr} {sl33 : Array (Option Value)} {oc33 kV33 dc33 pm33 cd33 ct33 : Value} (a33 : PySem.W.nsIn K mainGlobals "_law_cell" = some (some (.ref f33))) (l33 : K.lookup f33 = some ⟨oc33, od33, .func (PySem.W.fnOf "_law_cell" "_law_cell" (defArgs s_Lcell) (defBody s_Lcell) (defScope s_Lcell) .none kV33 dc33 pm33 an33 cd33 ct33), sl33⟩) (c33 : PySem.W.codeIn K cd33 "_law_cell" = true) (k33 : PySem.W.keepIn K (.ref f33) = true)
    {f34 : Addr} {od34 an34 : Option Addr} {sl34 : Array (Option Value)} {oc34 kV34 dc34 pm34 cd34 ct34 : Value} (a34 : PySem.W.nsIn K mainGlobals "law" = some (some (.ref f34))) (l34 : K.lookup f34 = some ⟨oc34, od34, .func (PySem.W.fnOf "law" "law" (defArgs s_law) (defBody s_law) (defScope s_law) .none kV34 dc34 pm34 an34 cd34 ct34), sl34⟩) (c34 : PySem.W.codeIn K cd34 "law" = true) (k34 : PySem.W.keepIn K (.ref f34) = true)
    {tk0 : Tok} (e0 : PySem.W.nsIn K mainGlobals "MOST_COMPONENTS" = some (some (.int 8 tk0)))
    {tp1 : Addr} {td1 : Option Addr} {tn1 : Nat} {ts1 : Array (Option Value)} {u1_0 u1_1 u1_2 : Tok} (e1 : PySem.W.nsIn K mainGlobals "WORDS" = some (some (.ref tp1))) (x1 : K.lookup tp1 = some ⟨.type "tuple", td1, .seq #[Value.str "alarm" u1_0, Value.str "quiet" u1_1, Value.str "unseen" u1_2] tn1, ts1⟩)
    (z0 : PySem.W.nsIn K mainGlobals "all" = some none)
    (z1 : PySem.W.nsIn K mainGlobals "any" = some none)
    (z2 : PySem.W.nsIn K mainGlobals "bool" = some none)
    (z3 : PySem.W.nsIn K mainGlobals "enumerate" = some none)
    (z4 : PySem.W.nsIn K mainGlobals "int" = some none)
    (z5 : PySem.W.nsIn K mainGlobals "isinstance" = some none)
    (z6 : PySem.W.nsIn K mainGlobals "len" = some none)
    (z7 : PySem.W.nsIn K mainGlobals "max" = some none)
    (z8 : PySem.W.nsIn K mainGlobals "min" = some none)
    (z9 : PySem.W.nsIn K mainGlobals "range" = some none)
    (z10 : PySem.W.nsIn K mainGlobals "repr" = some none)
    (z11 : PySem.W.nsIn K mainGlobals "str" = some none)
    (z12 : PySem.W.nsIn K mainGlobals "tuple" = some none) :
    ∃ fd : FuncData, (∀ (s : Shared) (v : Value), BindsTo s fd ⟨[v], []⟩ [("_law_script", v)]) ∧ ∀ base : Heap, K.In base → base.Ns mainGlobals mg → FnG l.prog w K mg base 8 fa fd ["_law_script"] (spP K 1 m_law) := by
  have e := hfa.symm.trans (PySem.W.mg_of X G a34)
  cases e
  let T : Txt K mg := {
    a_is_component := f0, d_is_component := _, F_is_component := fun_mk (st := s_is_component) l0 c0 k0, B_is_component := (fun_mk (st := s_is_component) l0 c0 k0).binds (ps := ["net", "thing"]) (fun _ _ _ _ _ _ us hl => match us, hl with | [_, _], _ => rfl), g_is_component := PySem.W.mg_of X G a0,
    a_is_set_of := f1, d_is_set_of := _, F_is_set_of := fun_mk (st := s_is_set_of) l1 c1 k1, B_is_set_of := (fun_mk (st := s_is_set_of) l1 c1 k1).binds (ps := ["net", "thing"]) (fun _ _ _ _ _ _ us hl => match us, hl with | [_, _], _ => rfl), g_is_set_of := PySem.W.mg_of X G a1,
    a_is_net := f2, d_is_net := _, F_is_net := fun_mk (st := s_is_net) l2 c2 k2, B_is_net := (fun_mk (st := s_is_net) l2 c2 k2).binds (ps := ["thing"]) (fun _ _ _ _ _ _ us hl => match us, hl with | [_], _ => rfl), g_is_net := PySem.W.mg_of X G a2,
    a_check_net := f3, d_check_net := _, F_check_net := fun_mk (st := s_check_net) l3 c3 k3, B_check_net := (fun_mk (st := s_check_net) l3 c3 k3).binds (ps := ["net"]) (fun _ _ _ _ _ _ us hl => match us, hl with | [_], _ => rfl), g_check_net := PySem.W.mg_of X G a3,
    a_is_report_of := f4, d_is_report_of := _, F_is_report_of := fun_mk (st := s_is_report_of) l4 c4 k4, B_is_report_of := (fun_mk (st := s_is_report_of) l4 c4 k4).binds (ps := ["net", "thing"]) (fun _ _ _ _ _ _ us hl => match us, hl with | [_, _], _ => rfl), g_is_report_of := PySem.W.mg_of X G a4,
    a_check_report := f5, d_check_report := _, F_check_report := fun_mk (st := s_check_report) l5 c5 k5, B_check_report := (fun_mk (st := s_check_report) l5 c5 k5).binds (ps := ["net", "report"]) (fun _ _ _ _ _ _ us hl => match us, hl with | [_, _], _ => rfl), g_check_report := PySem.W.mg_of X G a5,
    a_reach_of := f6, d_reach_of := _, F_reach_of := fun_mk (st := s_reach_of) l6 c6 k6, B_reach_of := (fun_mk (st := s_reach_of) l6 c6 k6).binds (ps := ["net", "component"]) (fun _ _ _ _ _ _ us hl => match us, hl with | [_, _], _ => rfl), g_reach_of := PySem.W.mg_of X G a6,
    a_reaches := f7, d_reaches := _, F_reaches := fun_mk (st := s_reaches) l7 c7 k7, B_reaches := (fun_mk (st := s_reaches) l7 c7 k7).binds (ps := ["net"]) (fun _ _ _ _ _ _ us hl => match us, hl with | [_], _ => rfl), g_reaches := PySem.W.mg_of X G a7,
    a_those_with := f8, d_those_with := _, F_those_with := fun_mk (st := s_those_with) l8 c8 k8, B_those_with := (fun_mk (st := s_those_with) l8 c8 k8).binds (ps := ["report", "word"]) (fun _ _ _ _ _ _ us hl => match us, hl with | [_, _], _ => rfl), g_those_with := PySem.W.mg_of X G a8,
    a_clearers := f9, d_clearers := _, F_clearers := fun_mk (st := s_clearers) l9 c9 k9, B_clearers := (fun_mk (st := s_clearers) l9 c9 k9).binds (ps := ["far", "report", "component"]) (fun _ _ _ _ _ _ us hl => match us, hl with | [_, _, _], _ => rfl), g_clearers := PySem.W.mg_of X G a9,
    a_suspects := f10, d_suspects := _, F_suspects := fun_mk (st := s_suspects) l10 c10 k10, B_suspects := (fun_mk (st := s_suspects) l10 c10 k10).binds (ps := ["far", "report", "component"]) (fun _ _ _ _ _ _ us hl => match us, hl with | [_, _, _], _ => rfl), g_suspects := PySem.W.mg_of X G a10,
    a_unexplained := f11, d_unexplained := _, F_unexplained := fun_mk (st := s_unexplained) l11 c11 k11, B_unexplained := (fun_mk (st := s_unexplained) l11 c11 k11).binds (ps := ["far", "report"]) (fun _ _ _ _ _ _ us hl => match us, hl with | [_, _], _ => rfl), g_unexplained := PySem.W.mg_of X G a11,
    a_accusers := f12, d_accusers := _, F_accusers := fun_mk (st := s_accusers) l12 c12 k12, B_accusers := (fun_mk (st := s_accusers) l12 c12 k12).binds (ps := ["far", "report", "component"]) (fun _ _ _ _ _ _ us hl => match us, hl with | [_, _, _], _ => rfl), g_accusers := PySem.W.mg_of X G a12,
    a_state_of := f13, d_state_of := _, F_state_of := fun_mk (st := s_state_of) l13 c13 k13, B_state_of := (fun_mk (st := s_state_of) l13 c13 k13).binds (ps := ["far", "report", "component"]) (fun _ _ _ _ _ _ us hl => match us, hl with | [_, _, _], _ => rfl), g_state_of := PySem.W.mg_of X G a13,
    a_certain := f14, d_certain := _, F_certain := fun_mk (st := s_certain) l14 c14 k14, B_certain := (fun_mk (st := s_certain) l14 c14 k14).binds (ps := ["net", "report"]) (fun _ _ _ _ _ _ us hl => match us, hl with | [_, _], _ => rfl), g_certain := PySem.W.mg_of X G a14,
    a_is_within := f15, d_is_within := _, F_is_within := fun_mk (st := s_is_within) l15 c15 k15, B_is_within := (fun_mk (st := s_is_within) l15 c15 k15).binds (ps := ["part", "whole"]) (fun _ _ _ _ _ _ us hl => match us, hl with | [_, _], _ => rfl), g_is_within := PySem.W.mg_of X G a15,
    a_expected_of := f16, d_expected_of := _, F_expected_of := fun_mk (st := s_expected_of) l16 c16 k16, B_expected_of := (fun_mk (st := s_expected_of) l16 c16 k16).binds (ps := ["far", "report", "component"]) (fun _ _ _ _ _ _ us hl => match us, hl with | [_, _, _], _ => rfl), g_expected_of := PySem.W.mg_of X G a16,
    a_expected := f17, d_expected := _, F_expected := fun_mk (st := s_expected) l17 c17 k17, B_expected := (fun_mk (st := s_expected) l17 c17 k17).binds (ps := ["net", "report"]) (fun _ _ _ _ _ _ us hl => match us, hl with | [_, _], _ => rfl), g_expected := PySem.W.mg_of X G a17,
    a_Lis_equal := f18, d_Lis_equal := _, F_Lis_equal := fun_mk (st := s_Lis_equal) l18 c18 k18, B_Lis_equal := (fun_mk (st := s_Lis_equal) l18 c18 k18).binds (ps := ["_law_actual", "_law_due"]) (fun _ _ _ _ _ _ us hl => match us, hl with | [_, _], _ => rfl), g_Lis_equal := PySem.W.mg_of X G a18,
    a_check_component := f19, d_check_component := _, F_check_component := fun_mk (st := s_check_component) l19 c19 k19, B_check_component := (fun_mk (st := s_check_component) l19 c19 k19).binds (ps := ["net", "component"]) (fun _ _ _ _ _ _ us hl => match us, hl with | [_, _], _ => rfl), g_check_component := PySem.W.mg_of X G a19,
    a_all_candidates := f20, d_all_candidates := _, F_all_candidates := fun_mk (st := s_all_candidates) l20 c20 k20, B_all_candidates := (fun_mk (st := s_all_candidates) l20 c20 k20).binds (ps := ["far", "report"]) (fun _ _ _ _ _ _ us hl => match us, hl with | [_, _], _ => rfl), g_all_candidates := PySem.W.mg_of X G a20,
    a_witness := f21, d_witness := _, F_witness := fun_mk (st := s_witness) l21 c21 k21, B_witness := (fun_mk (st := s_witness) l21 c21 k21).binds (ps := ["net", "report", "component"]) (fun _ _ _ _ _ _ us hl => match us, hl with | [_, _, _], _ => rfl), g_witness := PySem.W.mg_of X G a21,
    a_meets := f22, d_meets := _, F_meets := fun_mk (st := s_meets) l22 c22 k22, B_meets := (fun_mk (st := s_meets) l22 c22 k22).binds (ps := ["one", "other"]) (fun _ _ _ _ _ _ us hl => match us, hl with | [_, _], _ => rfl), g_meets := PySem.W.mg_of X G a22,
    a_told_by := f23, d_told_by := _, F_told_by := fun_mk (st := s_told_by) l23 c23 k23, B_told_by := (fun_mk (st := s_told_by) l23 c23 k23).binds (ps := ["far", "broken", "watched", "component"]) (fun _ _ _ _ _ _ us hl => match us, hl with | [_, _, _, _], _ => rfl), g_told_by := PySem.W.mg_of X G a23,
    a_told := f24, d_told := _, F_told := fun_mk (st := s_told) l24 c24 k24, B_told := (fun_mk (st := s_told) l24 c24 k24).binds (ps := ["far", "broken", "watched"]) (fun _ _ _ _ _ _ us hl => match us, hl with | [_, _, _], _ => rfl), g_told := PySem.W.mg_of X G a24,
    a_is_explanation := f25, d_is_explanation := _, F_is_explanation := fun_mk (st := s_is_explanation) l25 c25 k25, B_is_explanation := (fun_mk (st := s_is_explanation) l25 c25 k25).binds (ps := ["net", "report", "thing"]) (fun _ _ _ _ _ _ us hl => match us, hl with | [_, _, _], _ => rfl), g_is_explanation := PySem.W.mg_of X G a25,
    a_is_choice := f26, d_is_choice := _, F_is_choice := fun_mk (st := s_is_choice) l26 c26 k26, B_is_choice := (fun_mk (st := s_is_choice) l26 c26 k26).binds (ps := ["net", "report", "component", "one", "other"]) (fun _ _ _ _ _ _ us hl => match us, hl with | [_, _, _, _, _], _ => rfl), g_is_choice := PySem.W.mg_of X G a26,
    a_shows_witness := f27, d_shows_witness := _, F_shows_witness := fun_mk (st := s_shows_witness) l27 c27 k27, B_shows_witness := (fun_mk (st := s_shows_witness) l27 c27 k27).binds (ps := ["net", "report", "component", "thing"]) (fun _ _ _ _ _ _ us hl => match us, hl with | [_, _, _, _], _ => rfl), g_shows_witness := PySem.W.mg_of X G a27,
    a_Loverview_right := f28, d_Loverview_right := _, F_Loverview_right := fun_mk (st := s_Loverview_right) l28 c28 k28, B_Loverview_right := (fun_mk (st := s_Loverview_right) l28 c28 k28).binds (ps := []) (fun _ _ _ _ _ _ us hl => match us, hl with | [], _ => rfl), g_Loverview_right := PySem.W.mg_of X G a28,
    a_Lring_right := f29, d_Lring_right := _, F_Lring_right := fun_mk (st := s_Lring_right) l29 c29 k29, B_Lring_right := (fun_mk (st := s_Lring_right) l29 c29 k29).binds (ps := []) (fun _ _ _ _ _ _ us hl => match us, hl with | [], _ => rfl), g_Lring_right := PySem.W.mg_of X G a29,
    a_Lapart_right := f30, d_Lapart_right := _, F_Lapart_right := fun_mk (st := s_Lapart_right) l30 c30 k30, B_Lapart_right := (fun_mk (st := s_Lapart_right) l30 c30 k30).binds (ps := ["_law_size"]) (fun _ _ _ _ _ _ us hl => match us, hl with | [_], _ => rfl), g_Lapart_right := PySem.W.mg_of X G a30,
    a_Ldraw := f31, d_Ldraw := _, F_Ldraw := fun_mk (st := s_Ldraw) l31 c31 k31, B_Ldraw := (fun_mk (st := s_Ldraw) l31 c31 k31).binds (ps := ["_law_supply", "_law_many"]) (fun _ _ _ _ _ _ us hl => match us, hl with | [_, _], _ => rfl), g_Ldraw := PySem.W.mg_of X G a31,
    a_Lsource := f32, d_Lsource := _, F_Lsource := fun_mk (st := s_Lsource) l32 c32 k32, B_Lsource := (fun_mk (st := s_Lsource) l32 c32 k32).binds (ps := ["_law_cell_here"]) (fun _ _ _ _ _ _ us hl => match us, hl with | [_], _ => rfl), g_Lsource := PySem.W.mg_of X G a32,
    a_Lcell := f33, d_Lcell := _, F_Lcell := fun_mk (st := s_Lcell) l33 c33 k33, B_Lcell := (fun_mk (st := s_Lcell) l33 c33 k33).binds (ps := ["_law_script", "_law_index"]) (fun _ _ _ _ _ _ us hl => match us, hl with | [_, _], _ => rfl), g_Lcell := PySem.W.mg_of X G a33,
    a_law := fa, d_law := _, F_law := fun_mk (st := s_law) l34 c34 k34, B_law := (fun_mk (st := s_law) l34 c34 k34).binds (ps := ["_law_script"]) (fun _ _ _ _ _ _ us hl => match us, hl with | [_], _ => rfl), g_law := PySem.W.mg_of X G a34,
    t_MOST_COMPONENTS := tk0, g_MOST_COMPONENTS := PySem.W.mg_of X G e0,
    a_WORDS := tp1, g_WORDS := PySem.W.mg_of X G e1, r_WORDS := fun H F => .tup (vs := [V.str "alarm", V.str "quiet", V.str "unseen"]) (.inr (.inr ⟨_, _, _, x1, rfl, rfl, (by show 3 ≤ sizeLine; rw [sizeLine_eq]; omega), (Paired.cons (a := V.str "alarm") ⟨_, rfl⟩ (Paired.cons (a := V.str "quiet") ⟨_, rfl⟩ (Paired.cons (a := V.str "unseen") ⟨_, rfl⟩ Paired.nil)))⟩)) (RpA.cons (.str _) (RpA.cons (.str _) (RpA.cons (.str _) RpA.nil))),
    z_all := PySem.W.mg_none_of X G z0,
    z_any := PySem.W.mg_none_of X G z1,
    z_bool := PySem.W.mg_none_of X G z2,
    z_enumerate := PySem.W.mg_none_of X G z3,
    z_int := PySem.W.mg_none_of X G z4,
    z_isinstance := PySem.W.mg_none_of X G z5,
    z_len := PySem.W.mg_none_of X G z6,
    z_max := PySem.W.mg_none_of X G z7,
    z_min := PySem.W.mg_none_of X G z8,
    z_range := PySem.W.mg_none_of X G z9,
    z_repr := PySem.W.mg_none_of X G z10,
    z_str := PySem.W.mg_none_of X G z11,
    z_tuple := PySem.W.mg_none_of X G z12 }
  exact ⟨_, fun s v => .of_eq rfl, fun base _ _ => ok_law T⟩
end MirT

set_option maxRecDepth 100000
namespace MirT
open PySem Mir
def isT : Option Da → Bool
  | some (.bool true) => true
  | _ => false
theorem isT_eq {x : Option Da} (h : isT x = true) : x = some (.bool true) := by
  unfold isT at h
  split at h
  · rfl
  · cases h
theorem ap1 : isT (m_Lapart_right [.int 1]) = true := by decide +kernel
theorem ap2 : isT (m_Lapart_right [.int 2]) = true := by decide +kernel
theorem ap8 : isT (m_Lapart_right [.int 8]) = true := by decide +kernel
theorem ov : isT (m_Loverview_right []) = true := by decide +kernel
theorem ring : isT (m_Lring_right []) = true := by decide +kernel
end MirT

set_option maxRecDepth 100000
namespace MirT
open PySem L2 Mir
theorem log2_lt {n : Nat} (k : Nat) (h : n < 2 ^ k) (hk : 0 < k) : n.log2 < k := by
  by_cases e : n = 0
  · subst e; exact hk
  · exact (Nat.log2_lt e).mpr h
theorem mul_ok {i j : Int} (h1 : 0 ≤ i) (h2 : i < 18446744073709551616) (h3 : 0 ≤ j) (h4 : j < 18446744073709551616) : cMul i j = true := by
  have a : i.natAbs.log2 < 64 := log2_lt 64 (by omega) (by omega)
  have b : j.natAbs.log2 < 64 := log2_lt 64 (by omega) (by omega)
  exact decide_eq_true (by omega)
theorem div_ok {i j : Int} (h3 : 0 < j) (h4 : j < 18446744073709551616) : cDiv i j = true := by
  have b : j.natAbs.log2 < 64 := log2_lt 64 (by omega) (by omega)
  exact decide_eq_true (p := 0 < j ∧ j.natAbs.log2 < 9000) ⟨h3, by omega⟩
theorem mod_ok {i j : Int} (h3 : 0 < j) : cMod i j = true := decide_eq_true h3
theorem ix3_0 {x y z : Da} : gIx (.list [x, y, z]) (.int 0) = some x := rfl
theorem ix3_1 {x y z : Da} : gIx (.list [x, y, z]) (.int 1) = some y := rfl
theorem ix3_2 {x y z : Da} : gIx (.list [x, y, z]) (.int 2) = some z := rfl
theorem ixN_0 : ixN 3 0 = some 0 := rfl
theorem ixN_1 : ixN 3 1 = some 1 := rfl
theorem ixN_2 : ixN 3 2 = some 2 := rfl
theorem draw_spec {a b c m : Int} (ha : 0 ≤ a) (hb : 0 ≤ b) (hb2 : b < 2147483648) (hc : 0 ≤ c) (hc2 : c < 1000000) (hm : 0 < m) (hm2 : m < 1000000000) :
    ∃ r a' b' c', m_Ldraw [.int a, .int b, .int c] [.int m] = some (.int r, [.int a', .int b', .int c']) ∧ 0 ≤ r ∧ r < m ∧ 0 ≤ a' ∧ 0 ≤ b' ∧ b' < 2147483648 ∧ c ≤ c' ∧ c' ≤ c + 1 := by
  by_cases h : a > 0
  · refine ⟨a % m, a / m, b, c, ?_, Int.emod_nonneg _ (by omega), Int.emod_lt_of_pos _ hm, Int.ediv_nonneg (by omega) (by omega), hb, hb2, by omega, by omega⟩
    unfold m_Ldraw runI b_Ldraw
    have e1 : decide (a > 0) = true := decide_eq_true h
    simp only [mSeq, mIte, mDo, mB, mOp, mOp1, mBind, mRet, mOpt, withL, Mir.ownL, mVar, mSet, mSetI, mRt, isB, gC, gI, gAdd, Mir.gMul, ix3_0, ix3_1, ix3_2, ixN_0, ixN_1, ixN_2, List.getElem?_cons_zero, List.getElem?_cons_succ, List.set_cons_zero, List.set_cons_succ, List.length_cons, List.length_nil, List.map_cons, List.map_nil, List.cons_append, List.nil_append, Nat.zero_add, Nat.reduceAdd, Nat.reduceSub, List.replicate, if_true, if_false, reduceIte, Bool.false_eq_true, gMod, gDiv, mNx, e1, mod_ok hm, div_ok (i := a) hm (by omega)]
    rfl
  · have e1 : decide (a > 0) = false := decide_eq_false h
    have q1 : cMul b 48271 = true := mul_ok hb (by omega) (by omega) (by omega)
    have q2 : cMul 1009 (c + 1) = true := mul_ok (by omega) (by omega) (by omega) (by omega)
    let b2 := (b * 48271 + 1009 * (c + 1) + 7) % 2147483647
    have l1 : 0 ≤ b2 := Int.emod_nonneg _ (by omega)
    have l2 : b2 < 2147483647 := Int.emod_lt_of_pos _ (by omega)
    let x := (b2 * b2 + 69621 * b2 + 11) % 2147483629
    have l3 : 0 ≤ x := Int.emod_nonneg _ (by omega)
    have l4 : x < 2147483629 := Int.emod_lt_of_pos _ (by omega)
    let y := (x * x + 40014 * x) % 2147483587
    refine ⟨y / 16 % m, a, b2, c + 1, ?_, Int.emod_nonneg _ (by omega), Int.emod_lt_of_pos _ hm, ha, l1, by omega, by omega, by omega⟩
    have q3 : cMul b2 b2 = true := mul_ok l1 (by omega) l1 (by omega)
    have q4 : cMul 69621 b2 = true := mul_ok (by omega) (by omega) l1 (by omega)
    have q5 : cMul x x = true := mul_ok l3 (by omega) l3 (by omega)
    have q6 : cMul 40014 x = true := mul_ok (by omega) (by omega) l3 (by omega)
    have q7 : cDiv y 16 = true := div_ok (by omega) (by omega)
    have e2 : (b * 48271 + 1009 * (c + 1) + 7) % 2147483647 = b2 := rfl
    have e3 : (b2 * b2 + 69621 * b2 + 11) % 2147483629 = x := rfl
    have e4 : (x * x + 40014 * x) % 2147483587 = y := rfl
    have z1 (i : Int) : cMod i 2147483647 = true := mod_ok (by omega)
    have z2 (i : Int) : cMod i 2147483629 = true := mod_ok (by omega)
    have z3 (i : Int) : cMod i 2147483587 = true := mod_ok (by omega)
    clear_value y x b2
    unfold m_Ldraw runI b_Ldraw
    simp only [mSeq, mIte, mDo, mB, mOp, mOp1, mBind, mRet, mOpt, withL, Mir.ownL, mVar, mSet, mSetI, mRt, isB, gC, gI, gAdd, Mir.gMul, ix3_0, ix3_1, ix3_2, ixN_0, ixN_1, ixN_2, List.getElem?_cons_zero, List.getElem?_cons_succ, List.set_cons_zero, List.set_cons_succ, List.length_cons, List.length_nil, List.map_cons, List.map_nil, List.cons_append, List.nil_append, Nat.zero_add, Nat.reduceAdd, Nat.reduceSub, List.replicate, if_true, if_false, reduceIte, Bool.false_eq_true, gMod, gDiv, mNx, e1, q1, q2, q3, q4, q5, q6, q7, z1, z2, z3, e2, e3, e4, mod_ok hm]
    rfl
end MirT

set_option maxRecDepth 100000
namespace MirT
open PySem L2 Mir
theorem cell_spec (ns : List Int) (k : Int) (hk : 0 ≤ k) : ∃ v, m_Lcell [.list (ns.map .int), .int k] = some (.int v) := by
  by_cases h : k < (ns.length : Int)
  · have e1 : decide (k < (ns.length : Int)) = true := decide_eq_true h
    obtain ⟨n, rfl⟩ := Int.eq_ofNat_of_zero_le hk
    have hn : n < ns.length := by omega
    refine ⟨ns[n], ?_⟩
    have e2 : gIx (.list (ns.map PyData.int)) (.int (n : Int)) = some (.int ns[n]) := by
      show atI (ns.map PyData.int) (n : Int) = _
      unfold atI ixN
      simp [hn]
    unfold m_Lcell runP b_Lcell
    simp only [mSeq, mIte, mDo, mB, mOp, mOp1, mBind, mRet, mOpt, withL, Mir.ownL, mVar, mSet, mSetI, mRt, isB, gC, gI, gAdd, Mir.gMul, ix3_0, ix3_1, ix3_2, ixN_0, ixN_1, ixN_2, List.getElem?_cons_zero, List.getElem?_cons_succ, List.set_cons_zero, List.set_cons_succ, List.length_cons, List.length_nil, List.map_cons, List.map_nil, List.cons_append, List.nil_append, Nat.zero_add, Nat.reduceAdd, Nat.reduceSub, List.replicate, if_true, if_false, reduceIte, Bool.false_eq_true, gMod, gDiv, mNx, mCall, mCons, mNil, gLen, items, Option.map_some, List.length_map, e1, e2]
  · have e1 : decide (k < (ns.length : Int)) = false := decide_eq_false h
    refine ⟨0, ?_⟩
    unfold m_Lcell runP b_Lcell
    simp only [mSeq, mIte, mDo, mB, mOp, mOp1, mBind, mRet, mOpt, withL, Mir.ownL, mVar, mSet, mSetI, mRt, isB, gC, gI, gAdd, Mir.gMul, ix3_0, ix3_1, ix3_2, ixN_0, ixN_1, ixN_2, List.getElem?_cons_zero, List.getElem?_cons_succ, List.set_cons_zero, List.set_cons_succ, List.length_cons, List.length_nil, List.map_cons, List.map_nil, List.cons_append, List.nil_append, Nat.zero_add, Nat.reduceAdd, Nat.reduceSub, List.replicate, if_true, if_false, reduceIte, Bool.false_eq_true, gMod, gDiv, mNx, mCall, mCons, mNil, gLen, items, Option.map_some, List.length_map, e1]
theorem source_spec (v : Int) : ∃ a b, m_Lsource [.int v] = some [.int a, .int b, .int 0] ∧ 0 ≤ a ∧ 0 ≤ b ∧ b < 2147483648 := by
  refine ⟨if v - 1000000000000000000 > 0 then v - 1000000000000000000 else 0, v % 2147483629 + 1, ?_, by split <;> omega, ?_, ?_⟩
  · have e1 : cPow 10 18 = true := by decide +kernel
    have e2 : (10 : Int) ^ (Int.toNat 18) = 1000000000000000000 := by decide +kernel
    have z (i : Int) : cMod i 2147483629 = true := mod_ok (by omega)
    unfold m_Lsource runL b_Lsource
    simp only [mSeq, mIte, mDo, mB, mOp, mOp1, mBind, mRet, mOpt, withL, Mir.ownL, mVar, mSet, mSetI, mRt, isB, gC, gI, gAdd, Mir.gMul, ix3_0, ix3_1, ix3_2, ixN_0, ixN_1, ixN_2, List.getElem?_cons_zero, List.getElem?_cons_succ, List.set_cons_zero, List.set_cons_succ, List.length_cons, List.length_nil, List.map_cons, List.map_nil, List.cons_append, List.nil_append, Nat.zero_add, Nat.reduceAdd, Nat.reduceSub, List.replicate, if_true, if_false, reduceIte, Bool.false_eq_true, gMod, gDiv, mNx, mCall, mCons, mNil, sto0, mSz, sized, gMax2, Mir.gSub, gPow, e1, e2, z]
    rfl
  · have := Int.emod_nonneg v (b := 2147483629) (by omega)
    omega
  · have := Int.emod_lt_of_pos v (b := 2147483629) (by omega)
    omega
end MirT

set_option maxRecDepth 100000
namespace MirT
open PySem L2 Mir
theorem ap3 : isT (m_Lapart_right [.int 3]) = true := by decide +kernel
theorem ap4 : isT (m_Lapart_right [.int 4]) = true := by decide +kernel
theorem ap5 : isT (m_Lapart_right [.int 5]) = true := by decide +kernel
theorem ap6 : isT (m_Lapart_right [.int 6]) = true := by decide +kernel
theorem ap7 : isT (m_Lapart_right [.int 7]) = true := by decide +kernel
theorem ap_all {r : Int} (h0 : 0 ≤ r) (h1 : r < 8) : m_Lapart_right [.int (1 + r)] = some (.bool true) := by
  have : r = 0 ∨ r = 1 ∨ r = 2 ∨ r = 3 ∨ r = 4 ∨ r = 5 ∨ r = 6 ∨ r = 7 := by omega
  rcases this with rfl | rfl | rfl | rfl | rfl | rfl | rfl | rfl
  · exact isT_eq ap1
  · exact isT_eq ap2
  · exact isT_eq ap3
  · exact isT_eq ap4
  · exact isT_eq ap5
  · exact isT_eq ap6
  · exact isT_eq ap7
  · exact isT_eq ap8
theorem for_all (b : Sm) (P : Sto → Prop) (f : Da → Sto → Option Sto) : ∀ ds : List Da, (∀ d ∈ ds, ∀ ρ, P ρ → ∃ ρ1 ρ2, f d ρ = some ρ1 ∧ b ρ1 = some (.nx ρ2) ∧ P ρ2) → ∀ ρ, P ρ → ∃ ρ', mForL f b ds ρ = some (.nx ρ') ∧ P ρ'
  | [], _, ρ, p => ⟨ρ, rfl, p⟩
  | d :: ds, h, ρ, p => by
    obtain ⟨ρ1, ρ2, e1, e2, p2⟩ := h d (List.mem_cons_self ..) ρ p
    obtain ⟨ρ', e, p'⟩ := for_all b P f ds (fun d' m => h d' (List.mem_cons_of_mem _ m)) ρ2 p2
    refine ⟨ρ', ?_, p'⟩
    unfold mForL
    rw [e1]
    simp only [e2]
    exact e
theorem rng_mem {lo n : Int} {d : Da} (h : d ∈ rngD lo n) : ∃ k : Int, d = .int k ∧ lo ≤ k ∧ k < n := by
  unfold rngD at h
  obtain ⟨i, hi, rfl⟩ := List.mem_map.mp h
  have := List.mem_range.mp hi
  exact ⟨_, rfl, by omega, by omega⟩
theorem for_eq {fi : Md (List Da)} {ft : Da → Sto → Option Sto} {b : Sm} {ρ ρ1 : Sto} {ds : List Da} {o : Out} (h1 : fi ρ = some (ds, ρ1)) (h2 : mForL ft b ds ρ1 = some o) : mFor fi ft b ρ = some o := by
  unfold mFor mDo
  rw [h1]
  exact h2
theorem seq_nx {f g : Sm} {ρ ρ1 : Sto} {o : Out} (h1 : f ρ = some (.nx ρ1)) (h2 : g ρ1 = some o) : mSeq f g ρ = some o := by
  unfold mSeq
  rw [h1]
  exact h2
theorem run_rt {n : Nat} {f : Sm} {ds : List Da} {d : Da} {ρ : Sto} (h : f (ds.map some ++ List.replicate (n - ds.length) none) = some (.rt d ρ)) : runP n f ds = some d := by
  unfold runP
  rw [h]
theorem law_true (ns : List Int) (h : ns.length ≤ 63) : m_law [.list (ns.map .int)] = some (.bool true) := by
  have L : ∃ n : Int, (if (if (3 : Int) < (ns.length : Int) then 3 else (ns.length : Int)) > 1 then (if (3 : Int) < (ns.length : Int) then 3 else (ns.length : Int)) else 1) = n ∧ 1 ≤ n ∧ n ≤ 3 := ⟨_, rfl, by split <;> split <;> omega, by split <;> split <;> omega⟩
  obtain ⟨n, hn, n1, n3⟩ := L
  have z1 : rng1 [.int n] = some (rngD 0 n) := by
    show (if -100000 ≤ n ∧ n ≤ 100000 then some (rngD 0 n) else none) = _
    exact if_pos ⟨by omega, by omega⟩
  obtain ⟨ρ', e, x, hx⟩ := for_all _ (fun ρ => ∃ x, ρ = [some (.list (ns.map .int)), x]) (fName 1) (rngD 0 n) (fun d hd ρ ⟨x, hx⟩ => by
    subst hx
    obtain ⟨k, rfl, k0, k1⟩ := rng_mem hd
    obtain ⟨v, ev⟩ := cell_spec ns k k0
    obtain ⟨a, b, es, a0, b0, b1⟩ := source_spec v
    obtain ⟨r, a', b', c', ed, r0, r1, _⟩ := draw_spec (m := 8) a0 b0 b1 (Int.le_refl 0) (by omega) (by omega) (by omega)
    refine ⟨[some (.list (ns.map .int)), some (.int k)], [some (.list (ns.map .int)), some (.int k)], rfl, ?_, ⟨_, rfl⟩⟩
    show mIte (mNot (mTru (mFn 1 m_Lapart_right (mCons (mOp gAdd (mRet (.int 1)) (mFnIF 2 m_Ldraw (mFnL 1 m_Lsource (mCons (mFn 2 m_Lcell (mCons (mVar 0) (mCons (mVar 1) mNil))) mNil)) (mCons (mRet (.int 8)) mNil))) mNil)))) (mRt (mRet (.bool false))) mNx _ = _
    simp only [mSeq, mIte, mDo, mB, mOp, mOp1, mBind, mRet, mOpt, withL, Mir.ownL, mVar, mSet, mSetI, mRt, isB, gC, gI, gAdd, Mir.gMul, ix3_0, ix3_1, ix3_2, ixN_0, ixN_1, ixN_2, List.getElem?_cons_zero, List.getElem?_cons_succ, List.set_cons_zero, List.set_cons_succ, List.length_cons, List.length_nil, List.map_cons, List.map_nil, List.cons_append, List.nil_append, Nat.zero_add, Nat.reduceAdd, Nat.reduceSub, List.replicate, if_true, if_false, reduceIte, Bool.false_eq_true, gMod, gDiv, mNx, mNot, mTru, mFn, mFnIF, mFnL, mCons, mNil, ev, es, ed, Option.map_some, ap_all r0 r1, gTru, Bool.not_true]) [some (.list (ns.map .int)), none] ⟨_, rfl⟩
  subst hx
  refine run_rt (seq_nx (for_eq (ds := rngD 0 n) (ρ1 := [some (.list (ns.map .int)), none]) ?_ e) (ρ1 := [some (.list (ns.map .int)), x]) (o := .rt (.bool true) [some (.list (ns.map .int)), x]) ?_)
  · simp only [mSeq, mIte, mDo, mB, mOp, mOp1, mBind, mRet, mOpt, withL, Mir.ownL, mVar, mSet, mSetI, mRt, isB, gC, gI, gAdd, Mir.gMul, ix3_0, ix3_1, ix3_2, ixN_0, ixN_1, ixN_2, List.getElem?_cons_zero, List.getElem?_cons_succ, List.set_cons_zero, List.set_cons_succ, List.length_cons, List.length_nil, List.map_cons, List.map_nil, List.cons_append, List.nil_append, Nat.zero_add, Nat.reduceAdd, Nat.reduceSub, List.replicate, if_true, if_false, reduceIte, Bool.false_eq_true, gMod, gDiv, mNx, mCall, mCons, mNil, gLen, gMin2, gMax2, items, Option.map_some, List.length_map, hn, z1]
  · simp only [mSeq, mIte, mDo, mB, mOp, mOp1, mBind, mRet, mOpt, withL, Mir.ownL, mVar, mSet, mSetI, mRt, isB, gC, gI, gAdd, Mir.gMul, ix3_0, ix3_1, ix3_2, ixN_0, ixN_1, ixN_2, List.getElem?_cons_zero, List.getElem?_cons_succ, List.set_cons_zero, List.set_cons_succ, List.length_cons, List.length_nil, List.map_cons, List.map_nil, List.cons_append, List.nil_append, Nat.zero_add, Nat.reduceAdd, Nat.reduceSub, List.replicate, if_true, if_false, reduceIte, Bool.false_eq_true, gMod, gDiv, mNx, mAndV, mFn, mNil, isT_eq ov, isT_eq ring]
end MirT

set_option Elab.async false
set_option maxRecDepth 100000
open PySem PySem.W PyProof.Rows
set_option maxHeartbeats 0 in
theorem PySem.Challenge.cw_rootalarms_k30_certain_by_hand_holds : PySem.Challenge.rw_rootalarms_k30_certain_by_hand.Holds := by
  w_on; o_law; k_head; (case hw => w_witness2)
  k_fill
  refine Mir.walkG (l := PySem.Challenge.rw_rootalarms_k30_certain_by_hand) (n := 63) (k := 8) (x := "_law_script") (mf := MirT.m_law) rfl (by decide) rfl ⟨rfl, by decide, by decide⟩ (fun w h Y => PySem.W.kIn_of Y) ?F (fun ns hns => MirT.law_true ns hns)
  case F =>
    intro w mg fa h KX G hmg
    refine' MirT.all_mk KX G hmg ?a0 ?l0 ?c0 ?k0 ?a1 ?l1 ?c1 ?k1 ?a2 ?l2 ?c2 ?k2 ?a3 ?l3 ?c3 ?k3 ?a4 ?l4 ?c4 ?k4 ?a5 ?l5 ?c5 ?k5 ?a6 ?l6 ?c6 ?k6 ?a7 ?l7 ?c7 ?k7 ?a8 ?l8 ?c8 ?k8 ?a9 ?l9 ?c9 ?k9 ?a10 ?l10 ?c10 ?k10 ?a11 ?l11 ?c11 ?k11 ?a12 ?l12 ?c12 ?k12 ?a13 ?l13 ?c13 ?k13 ?a14 ?l14 ?c14 ?k14 ?a15 ?l15 ?c15 ?k15 ?a16 ?l16 ?c16 ?k16 ?a17 ?l17 ?c17 ?k17 ?a18 ?l18 ?c18 ?k18 ?a19 ?l19 ?c19 ?k19 ?a20 ?l20 ?c20 ?k20 ?a21 ?l21 ?c21 ?k21 ?a22 ?l22 ?c22 ?k22 ?a23 ?l23 ?c23 ?k23 ?a24 ?l24 ?c24 ?k24 ?a25 ?l25 ?c25 ?k25 ?a26 ?l26 ?c26 ?k26 ?a27 ?l27 ?c27 ?k27 ?a28 ?l28 ?c28 ?k28 ?a29 ?l29 ?c29 ?k29 ?a30 ?l30 ?c30 ?k30 ?a31 ?l31 ?c31 ?k31 ?a32 ?l32 ?c32 ?k32 ?a33 ?l33 ?c33 ?k33 ?a34 ?l34 ?c34 ?k34 ?e0 ?e1 ?x1 ?z0 ?z1 ?z2 ?z3 ?z4 ?z5 ?z6 ?z7 ?z8 ?z9 ?z10 ?z11 ?z12
    (case a0 => k_is); (case l0 => k_is); (case c0 => k_is); (case k0 => k_is); (case a1 => k_is); (case l1 => k_is); (case c1 => k_is); (case k1 => k_is); (case a2 => k_is); (case l2 => k_is); (case c2 => k_is); (case k2 => k_is); (case a3 => k_is); (case l3 => k_is); (case c3 => k_is); (case k3 => k_is); (case a4 => k_is); (case l4 => k_is); (case c4 => k_is); (case k4 => k_is); (case a5 => k_is); (case l5 => k_is); (case c5 => k_is); (case k5 => k_is); (case a6 => k_is); (case l6 => k_is); (case c6 => k_is); (case k6 => k_is); (case a7 => k_is); (case l7 => k_is); (case c7 => k_is); (case k7 => k_is); (case a8 => k_is); (case l8 => k_is); (case c8 => k_is); (case k8 => k_is); (case a9 => k_is); (case l9 => k_is); (case c9 => k_is); (case k9 => k_is); (case a10 => k_is); (case l10 => k_is); (case c10 => k_is); (case k10 => k_is); (case a11 => k_is); (case l11 => k_is); (case c11 => k_is); (case k11 => k_is); (case a12 => k_is); (case l12 => k_is); (case c12 => k_is); (case k12 => k_is); (case a13 => k_is); (case l13 => k_is); (case c13 => k_is); (case k13 => k_is); (case a14 => k_is); (case l14 => k_is); (case c14 => k_is); (case k14 => k_is); (case a15 => k_is); (case l15 => k_is); (case c15 => k_is); (case k15 => k_is); (case a16 => k_is); (case l16 => k_is); (case c16 => k_is); (case k16 => k_is); (case a17 => k_is); (case l17 => k_is); (case c17 => k_is); (case k17 => k_is); (case a18 => k_is); (case l18 => k_is); (case c18 => k_is); (case k18 => k_is); (case a19 => k_is); (case l19 => k_is); (case c19 => k_is); (case k19 => k_is); (case a20 => k_is); (case l20 => k_is); (case c20 => k_is); (case k20 => k_is); (case a21 => k_is); (case l21 => k_is); (case c21 => k_is); (case k21 => k_is); (case a22 => k_is); (case l22 => k_is); (case c22 => k_is); (case k22 => k_is); (case a23 => k_is); (case l23 => k_is); (case c23 => k_is); (case k23 => k_is); (case a24 => k_is); (case l24 => k_is); (case c24 => k_is); (case k24 => k_is); (case a25 => k_is); (case l25 => k_is); (case c25 => k_is); (case k25 => k_is); (case a26 => k_is); (case l26 => k_is); (case c26 => k_is); (case k26 => k_is); (case a27 => k_is); (case l27 => k_is); (case c27 => k_is); (case k27 => k_is); (case a28 => k_is); (case l28 => k_is); (case c28 => k_is); (case k28 => k_is); (case a29 => k_is); (case l29 => k_is); (case c29 => k_is); (case k29 => k_is); (case a30 => k_is); (case l30 => k_is); (case c30 => k_is); (case k30 => k_is); (case a31 => k_is); (case l31 => k_is); (case c31 => k_is); (case k31 => k_is); (case a32 => k_is); (case l32 => k_is); (case c32 => k_is); (case k32 => k_is); (case a33 => k_is); (case l33 => k_is); (case c33 => k_is); (case k33 => k_is); (case a34 => k_is); (case l34 => k_is); (case c34 => k_is); (case k34 => k_is); (case e0 => k_is); (case e1 => k_is); (case x1 => k_is); (case z0 => k_is); (case z1 => k_is); (case z2 => k_is); (case z3 => k_is); (case z4 => k_is); (case z5 => k_is); (case z6 => k_is); (case z7 => k_is); (case z8 => k_is); (case z9 => k_is); (case z10 => k_is); (case z11 => k_is); (case z12 => k_is)

