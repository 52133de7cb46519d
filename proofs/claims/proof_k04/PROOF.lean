import PyProof.Rows.All
import Wide.All
import OpenK.AllK
import Wide.FinOn
import PySem.Challenge.RW_giveback_k04_standings_or_not
import HandS.ForMost
import HandS.Star
import HandS.Conv
import HandS.Flow
import HandS.Style
import HandS.Zip
import HandS.TupAny
import HandS.IsInst
import HandS.Evl
import KE.DatumMore
import HandS.Lambda
import HandS.TupSets
import KE.GoesMore
import KE.GoesZip
import KE.DatumOrd
import HandS.Deep
import KE.KRevSl
import KE.SortData
import PyProof.Rows.ReprR
import HandS.Dict
import HandS.DictComp
import HandS.WordsExc
import HandS.ExcInit
import PyProof.Rows.FactsExc_KeyError
import PyProof.ExcBaseAll.LookupError
import PyProof.ExcBaseAll.ArithmeticError
import PyProof.ExcBaseAll.RuntimeError
import HandS.ExcIs
import HandS.ExcField
import HandS.TryMany
import HandS.EndTab
import HandS.HeadHook4
import PyProof.ReprRoads
import HandS.TupMul
import PyProof.ReprLen
import HandS.HeadHook1
import HandS.Head3
import HandS.DictSubView
import HandS.Iter
import KE.KDictList
import KE.KDictCopyH
import PyProof.DictIter
import HandS.OwnEq
import Lean
import KE.KStateDown
import HandS.More
import HandS.Defaults
import HandS.Head0
import HandS.Head1
import HandS.Head2
import HandS.HeadEnd
import HandS.HeadHook2
import HandS.HeadNt
import HandS.NoneIn
import PyProof.EqKinds
import PyProof.FactsAll.dict
import PyProof.P3Eq
import KE.DataEq
import PyProof.ReprBulk
import PyProof.FitsInt
import PyProof.Rows.ReprOcc
import PyProof.TwoTypesSub
import PyProof.Rows.IntBool
import PyProof.Rows.RuleB_bool
import HandS.Wide
set_option Elab.async false
set_option linter.all false
set_option maxRecDepth 100000
set_option maxHeartbeats 4000000
/-! The heap's extensions, the pen, a list that is being made. -/
namespace Gb
open PySem PySem.Spec PyProof.Rows L2
/-- the built-in names that the text uses are the built-in ones -/
structure Bt (mg : Str → Option Value) : Prop where
  len : mg "len" = none
  abs : mg "abs" = none
  max : mg "max" = none
  min : mg "min" = none
  list : mg "list" = none
  tuple : mg "tuple" = none
  range : mg "range" = none
  isinstance : mg "isinstance" = none
  all : mg "all" = none
  set : mg "set" = none
  sum : mg "sum" = none
  zip : mg "zip" = none
  int : mg "int" = none
/-! ### extensions -/
def notDk : HO → Prop
  | .dK _ => False
  | _ => True
/-- all but dicts is as it was -/
def Ex (H H' : Hp) : Prop := ∀ b o, H b = some o → notDk o → H' b = some o
theorem Ex.refl {H : Hp} : Ex H H := fun _ _ h _ => h
theorem Ex.trans {H H1 H2 : Hp} (a : Ex H H1) (b : Ex H1 H2) : Ex H H2 := fun x o h n => b x o (a x o h n) n
theorem Ex.new {H : Hp} {p : Addr} {o : HO} (h : H p = none) : Ex H (upd H p o) := fun a u e _ => by
  rw [upd_ne (ne_of_none e h)]
  exact e
theorem Ex.of {H H' : Hp} (e : Same H H') : Ex H H' := fun b o h _ => e b o h
theorem Ex.rd {H H' : Hp} {a : Addr} {u : HO} (e : Ex H H') (h : Rd H a u) (n : notDk u) : Rd H' a u := by
  rcases h with h | ⟨o, h⟩
  · exact .inl (e _ _ h n)
  · exact .inr ⟨o, e _ _ h trivial⟩
theorem Ex.l {K : PySem.W.Frag} {H H' : Hp} {a : Addr} {xs : List V} (e : Ex H H') (h : SqL K H a xs) : SqL K H' a xs := by
  rcases h with h | h
  · exact .inl (e.rd h trivial)
  · exact .inr h
theorem Ex.t {K : PySem.W.Frag} {H H' : Hp} {a : Addr} {xs : List V} (e : Ex H H') (h : SqT K H a xs) : SqT K H' a xs := by
  rcases h with h | h
  · exact .inl (e.rd h trivial)
  · exact .inr h
theorem Ex.back {H H' : Hp} {a : Addr} (e : Ex H H') (h : H' a = none) : ∀ o, H a = some o → ¬ notDk o := fun o q n => by
  rw [e _ _ q n] at h
  cases h
mutual
theorem Dp.ex {K : PySem.W.Frag} {H H' : Hp} (e : Ex H H') : ∀ {v : V} {d : PyData}, Dp K H v d → Dp K H' v d
  | _, _, .non => .non
  | _, _, .bl b => .bl b
  | _, _, .int i => .int i
  | _, _, .str x => .str x
  | _, _, .lst h a => .lst (e.l h) (DpAll.ex e a)
  | _, _, .tup h a => .tup (e.t h) (DpAll.ex e a)
theorem DpAll.ex {K : PySem.W.Frag} {H H' : Hp} (e : Ex H H') : ∀ {vs : List V} {ds : List PyData}, DpAll K H vs ds → DpAll K H' vs ds
  | _, _, .nil => .nil
  | _, _, .cons a b => .cons (Dp.ex e a) (DpAll.ex e b)
end
theorem dpa_len {K : PySem.W.Frag} {H : Hp} : ∀ {vs : List V} {ds : List PyData}, DpAll K H vs ds → vs.length = ds.length
  | _, _, .nil => rfl
  | _, _, .cons _ t => by rw [List.length_cons, List.length_cons, dpa_len t]
theorem dpa_app {K : PySem.W.Frag} {H : Hp} : ∀ {vs ws : List V} {ds es : List PyData}, DpAll K H vs ds → DpAll K H ws es → DpAll K H (vs ++ ws) (ds ++ es)
  | _, _, _, _, .nil, h => h
  | _, _, _, _, .cons a b, h => .cons a (dpa_app b h)
theorem dpa_one {K : PySem.W.Frag} {H : Hp} {v : V} {d : PyData} (h : Dp K H v d) : DpAll K H [v] [d] := .cons h .nil
theorem dpa_of_ints {K : PySem.W.Frag} {H : Hp} : ∀ ns : List Int, DpAll K H (ns.map V.int) (ns.map PyData.int)
  | [] => .nil
  | n :: ns => .cons (.int n) (dpa_of_ints ns)
/-! ### the pen -/
def penD (c : Addr) (t l : Int) : List (Key × V) := [(.inr "cells", .ref c), (.inr "turn", .int t), (.inr "left", .int l)]
/-- a pen at p: its cells at c; so many draws at most so far -/
def Pen (H : Hp) (p c : Addr) (n : Nat) : Prop := ∃ (t l : Int) (xs : List Int), H p = some (.dK (penD c t l)) ∧ H c = some (.lst (xs.map V.int)) ∧ 0 ≤ t ∧ t ≤ n ∧ 0 ≤ l
theorem Pen.mono {H : Hp} {p c : Addr} {n m : Nat} (h : Pen H p c n) (hm : n ≤ m) : Pen H p c m := by
  obtain ⟨t, l, xs, h1, h2, h3, h4, h5⟩ := h
  exact ⟨t, l, xs, h1, h2, h3, by omega, h5⟩
/-- so many draws at most lie between -/
def Go (p c : Addr) (k : Nat) (H H' : Hp) : Prop := Ex H H' ∧ ∀ n, Pen H p c n → Pen H' p c (n + k)
section
variable {p c l q : Addr} {j k n : Nat} {H H0 H1 H2 H' : Hp} {o : HO}
theorem Go.refl : Go p c 0 H H := ⟨Ex.refl, fun _ h => h⟩
theorem Go.trans (a : Go p c j H H1) (b : Go p c k H1 H2) : Go p c (j + k) H H2 := ⟨a.1.trans b.1, fun n h => by
  rw [← Nat.add_assoc]
  exact b.2 _ (a.2 _ h)⟩
theorem Go.mono (a : Go p c j H H1) (h : j ≤ k) : Go p c k H H1 := ⟨a.1, fun n x => (a.2 n x).mono (Nat.add_le_add_left h n)⟩
theorem Go.of (e : Same H H') : Go p c 0 H H' := ⟨Ex.of e, fun n ⟨t, l, xs, h1, h2, h3⟩ => ⟨t, l, xs, e _ _ h1, e _ _ h2, h3⟩⟩
theorem same_new (h : H q = none) : Same H (upd H q o) := fun b x e => by
  rw [upd_ne (ne_of_none e h)]
  exact e
theorem Go.new (h : H q = none) : Go p c 0 H (upd H q o) := Go.of (same_new h)
theorem Pen.ne (h : Pen H p c n) (hl : H l = none) : l ≠ p ∧ l ≠ c := by
  obtain ⟨_, _, _, h1, h2, _⟩ := h
  exact ⟨fun e => (by rw [e, h1] at hl; cases hl), fun e => (by rw [e, h2] at hl; cases hl)⟩
/-! ### a list that is being made at l -/
def del (H : Hp) (l : Addr) : Hp := fun b => if b = l then none else H b
theorem del_same : del H l l = none := by
  unfold del
  rw [if_pos rfl]
theorem del_ne {b : Addr} (h : b ≠ l) : del H l b = H b := by
  unfold del
  rw [if_neg h]
theorem del_upd : del (upd H l o) l = del H l := by
  funext b
  unfold del upd
  split <;> rfl
theorem del_none (h : H l = none) : del H l = H := by
  funext b
  unfold del
  split
  · rename_i e
    rw [e, h]
  · rfl
theorem del_le : Same (del H l) H := fun b o e => by
  by_cases hb : b = l
  · rw [hb, del_same] at e
    cases e
  · rw [del_ne hb] at e
    exact e
theorem del_ex : Ex (del H l) H := Ex.of del_le
theorem Pen.undel (h : Pen (del H l) p c n) : Pen H p c n := by
  obtain ⟨t, x, xs, h1, h2, h3⟩ := h
  exact ⟨t, x, xs, del_le _ _ h1, del_le _ _ h2, h3⟩
theorem Pen.del (h : Pen H p c n) (h1 : l ≠ p) (h2 : l ≠ c) : Pen (del H l) p c n := by
  obtain ⟨t, x, xs, a, b, h3⟩ := h
  exact ⟨t, x, xs, by rw [del_ne h1.symm]; exact a, by rw [del_ne h2.symm]; exact b, h3⟩
theorem Ex.del (e : Ex H H') : Ex (del H l) (del H' l) := fun b o h n => by
  by_cases hb : b = l
  · rw [hb, del_same] at h
    cases h
  · rw [del_ne hb] at h ⊢
    exact e _ _ h n
theorem Go.del (g : Go p c k H H') (h1 : l ≠ p) (h2 : l ≠ c) : Go p c k (del H l) (del H' l) := ⟨g.1.del, fun n h => (g.2 n h.undel).del h1 h2⟩
theorem same_del (e : Same H H') : Same (del H l) (del H' l) := fun b o h => by
  by_cases hb : b = l
  · rw [hb, del_same] at h
    cases h
  · rw [del_ne hb] at h ⊢
    exact e _ _ h
/-- from H0 on so many draws; at l, new since H0, xs -/
structure Loc (p c : Addr) (k : Nat) (H0 H : Hp) (l : Addr) (xs : List V) : Prop where
  fr : H0 l = none
  np : l ≠ p
  nc : l ≠ c
  at_ : H l = some (.lst xs)
  go : Go p c k H0 (del H l)
section
variable {xs ys : List V}
theorem Loc.start (g : Go p c k H0 H) (f : H l = none) (f0 : H0 l = none) (np : l ≠ p) (nc : l ≠ c) : Loc p c k H0 (upd H l (.lst xs)) l xs := ⟨f0, np, nc, upd_same, by
  rw [del_upd, del_none f]
  exact g⟩
theorem Loc.call (L : Loc p c j H0 H l xs) (g : Go p c k H H') : Loc p c (j + k) H0 H' l xs := ⟨L.fr, L.np, L.nc, g.1 _ _ L.at_ trivial, L.go.trans (g.del L.np L.nc)⟩
theorem Loc.pure (L : Loc p c j H0 H l xs) (g : Same H H') : Loc p c j H0 H' l xs := L.call (k := 0) (Go.of g)
theorem Loc.set (L : Loc p c j H0 H l xs) : Loc p c j H0 (upd H l (.lst ys)) l ys := ⟨L.fr, L.np, L.nc, upd_same, by
  rw [del_upd]
  exact L.go⟩
theorem Loc.mono (L : Loc p c j H0 H l xs) (h : j ≤ k) : Loc p c k H0 H l xs := ⟨L.fr, L.np, L.nc, L.at_, L.go.mono h⟩
theorem Loc.done (L : Loc p c j H0 H l xs) : Go p c j H0 H := ⟨L.go.1.trans del_ex, fun n h => (L.go.2 n h).undel⟩
theorem Loc.pen (L : Loc p c j H0 H l xs) (h : Pen H0 p c n) : Pen H p c (n + j) := L.done.2 n h
theorem Loc.sq {K : PySem.W.Frag} (L : Loc p c j H0 H l xs) : SqL K H l xs := SqL.of L.at_
end
/-- the same without a pen -/
structure LocS (H0 H : Hp) (l : Addr) (xs : List V) : Prop where
  fr : H0 l = none
  at_ : H l = some (.lst xs)
  go : Same H0 (del H l)
section
variable {xs ys : List V}
theorem LocS.start (g : Same H0 H) (f : H l = none) : LocS H0 (upd H l (.lst xs)) l xs := ⟨g.free f, upd_same, by
  rw [del_upd, del_none f]
  exact g⟩
theorem LocS.call (L : LocS H0 H l xs) (g : Same H H') : LocS H0 H' l xs := ⟨L.fr, g _ _ L.at_, L.go.trans (same_del g)⟩
theorem LocS.set (L : LocS H0 H l xs) : LocS H0 (upd H l (.lst ys)) l ys := ⟨L.fr, upd_same, by
  rw [del_upd]
  exact L.go⟩
theorem LocS.done (L : LocS H0 H l xs) : Same H0 H := L.go.trans del_le
end
end
end Gb
namespace Gb
open PySem PySem.Spec PyProof.Rows L2
/-- a def of the module under its name; how its arguments bind -/
structure Dn (K : PySem.W.Frag) (mg : Str → Option Value) (x : Str) (st : Stmt) (ps : List Str) : Prop where
  ex : ∃ (f : Addr) (fd : FuncData), Fun K x x st f fd ∧ mg x = some (.ref f) ∧ Binds K fd ps []
/-- a def that may be called by its name -/
structure Cl (P : Program) (w : World) (K : PySem.W.Frag) (mg : Str → Option Value) (base : Heap) (k : Nat) (x : Str) (sp : Sp) : Prop where
  ex : ∃ (f : Addr) (fd : FuncData) (ps : List Str), FnOk P w K mg base CX0 k f fd ps sp ∧ mg x = some (.ref f) ∧ PySem.W.keepIn K (.ref f) = true ∧ Binds K fd ps []
section
variable {P : Program} {w : World} {K : PySem.W.Frag} {mg : Str → Option Value} {base : Heap}
theorem cl_of {x : Str} {st : Stmt} {N ps : List Str} {k : Nat} {sp : Sp} (D : Dn K mg x st ps) (S : FnScope N ps (defScope st)) (len : ∀ vs H Q E, sp vs H Q E → vs.length = ps.length)
    (hbody : ∀ (cdv : Value) (f : Addr) (A : Around) (outer : List Env) (s : Shared) (H : Hp) (vs : List V) (Q : VK) (E : XK), Room k (A.deeper (envOfC x (defScope st) s.heap.objs.size f cdv)) → sp vs H Q E →
      ∃ t, PSs (cxOf CX0 P w K mg base N x (defScope st) f cdv A outer s H E).nox (defBody st) t ∧ t { nx := fun _ H' => Q .non H', rt := Q } (start N vs) H) : Cl P w K mg base (k + 1) x sp := by
  obtain ⟨f, fd, F, hm, b⟩ := D.ex
  exact ⟨f, fd, ps, F.ok S len (fun cdv => hbody cdv f), hm, F.kp, b⟩
end
section
variable {X : Cx} {k j : Nat} {x : Str} {sp : Sp} {p pos : Pos} {e fe : Expr} {es : List Expr} {t : TA} {tf : TE}
theorem pe_c (c : Cl X.prog X.w X.K X.mg X.base k x sp) (hr : Room j X.A) (hk : k ≤ j) (hg : Gl X x) (ha : PA X (e :: es) t)
    (hdb : (x == ("__debug__" : Str)) = false := by decide) (he : starEach (e :: es) X.env = (false, eval e X.env) :: starEach es X.env := by rfl) (hpl : (backTo pos (starEach es X.env)).any (·.1) = false := by rfl) :
    PE X (.Call (.Name x p) (e :: es) [] pos) (tCall sp [] E0 t) := by
  obtain ⟨f, fd, ps, F, hm, kp, b⟩ := c.ex
  exact pe_call F (hr.mono hk) hg hm kp b .nil pass0 ha hdb he hpl
/-- a name of the module as a value -/
theorem pe_gv {v : V} (hg : Gl X x) (h : ∃ u, X.mg x = some u ∧ RelV v u) (hd : (x == ("__debug__" : Str)) = false := by decide) : PE X (.Name x pos) (tC v) := by
  obtain ⟨u, hm, r⟩ := h
  exact pe_glob hg hm r hd
/-- a def, called by its value, whatever expression tells it -/
def tCallE (S : Addr → Sp → Prop) (tf : TE) (t : TA) : TE := fun σ H Q => tf σ H fun v H1 => ∃ f sp, v = .ref f ∧ S f sp ∧ t σ H1 fun vs H2 => sp vs H2 Q E0
end
/-! ### data with a type -/
section
open PySem.W (Datum Tup T4)
/-- numbers, and lists and tuples of such -/
class Nd (α : Type) [DecidableEq α] [Datum α] : Prop where
  lay : ∀ a : α, (Datum.toD a).canLay0 = true
theorem lay_map {α : Type} [DecidableEq α] [Datum α] [Nd α] : ∀ xs : List α, PyData.canLayAll0 (xs.map Datum.toD) = true
  | [] => by simp only [List.map_nil, PyData.canLayAll0]
  | x :: xs => by
    simp only [List.map_cons, PyData.canLayAll0, Nd.lay x, lay_map xs, Bool.and_self]
instance : Nd Int := ⟨fun _ => by simp only [Datum.toD, PyData.canLay0]⟩
instance : Nd Bool := ⟨fun _ => by simp only [Datum.toD, PyData.canLay0]⟩
instance {α : Type} [DecidableEq α] [Datum α] [Nd α] : Nd (List α) := ⟨fun xs => by
  show PyData.canLay0 (.list (xs.map Datum.toD)) = true
  simp only [PyData.canLay0, lay_map xs]⟩
instance {α : Type} [DecidableEq α] [Datum α] [Nd α] : Nd (Tup α) := ⟨fun t => by
  show PyData.canLay0 (.tuple (t.items.map Datum.toD)) = true
  simp only [PyData.canLay0, lay_map t.items]⟩
instance {α β : Type} [DecidableEq α] [Datum α] [Nd α] [DecidableEq β] [Datum β] [Nd β] : Nd (α × β) := ⟨fun p => by
  show PyData.canLay0 (.tuple [Datum.toD p.1, Datum.toD p.2]) = true
  simp only [PyData.canLay0, PyData.canLayAll0, Nd.lay, Bool.and_self]⟩
instance {α β γ δ : Type} [DecidableEq α] [Datum α] [Nd α] [DecidableEq β] [Datum β] [Nd β] [DecidableEq γ] [Datum γ] [Nd γ] [DecidableEq δ] [Datum δ] [Nd δ] : Nd (T4 α β γ δ) := ⟨fun p => by
  show PyData.canLay0 (.tuple [Datum.toD p.a, Datum.toD p.b, Datum.toD p.c, Datum.toD p.d]) = true
  simp only [PyData.canLay0, PyData.canLayAll0, Nd.lay, Bool.and_self]⟩
variable {α : Type} [DecidableEq α] [Datum α] {K : PySem.W.Frag} {x y v : V} {H H' : Hp} {Q : VK} {a b : α}
/-- v is a -/
abbrev Is (K : PySem.W.Frag) (H : Hp) (v : V) (a : α) : Prop := Dp K H v (Datum.toD a)
abbrev All (K : PySem.W.Frag) (H : Hp) (vs : List V) (xs : List α) : Prop := DpAll K H vs (xs.map Datum.toD)
theorem dat_shaped [Nd α] (hd : Datum.depth α ≤ 64) (a : α) : SeqAt.shaped (Datum.toD a) = true := by
  unfold SeqAt.shaped
  rw [Nd.lay a, decide_eq_true (Nat.le_trans (Datum.depth_le a) hd)]
  rfl
theorem ne_dat [Nd α] (ha : Is K H x a) (hb : Is K H y b) (q : Q (.bl (!decide (a = b))) H) (hd : Datum.depth α ≤ 64 := by decide) : rNeD K x y H Q :=
  ⟨_, _, ha, hb, dat_shaped hd a, dat_shaped hd b, by rw [Datum.eqv]; exact q⟩
theorem all_len {vs : List V} {xs : List α} (h : All K H vs xs) : vs.length = xs.length := by
  rw [dpa_len h, List.length_map]
theorem all_app {vs ws : List V} {xs ys : List α} (h : All K H vs xs) (h' : All K H ws ys) : All K H (vs ++ ws) (xs ++ ys) := by
  show DpAll K H (vs ++ ws) ((xs ++ ys).map Datum.toD)
  rw [List.map_append]
  exact dpa_app h h'
theorem all_snoc {vs : List V} {xs : List α} (h : All K H vs xs) (h' : Is K H v a) : All K H (vs ++ [v]) (xs ++ [a]) := all_app h (dpa_one h')
end
end Gb
namespace Gb
open PySem PySem.Spec PyProof.Rows L2
/-! ### the same rules with the written part as a letter: for what stands in a comprehension's block -/
section
variable {X : Cx} {Kx : PySem.W.Frag} {pos apos cpos : Pos} {e o tgx : Expr} {es : List Expr} {ta to tl : TE} {t : TA}
def rLenK (K : PySem.W.Frag) : List V → Hp → VK → Prop := fun xs H Q => ∃ q ys, xs = [V.ref q] ∧ (SqL K H q ys ∨ SqT K H q ys) ∧ Q (.int ys.length) H
theorem call_lenK (hK : X.K = Kx := by rfl) : CallR X (.builtin "len") (rLenK Kx) := by
  subst hK
  exact call_len_seq
def rListK (K : PySem.W.Frag) : List V → Hp → VK → Prop := fun xs H Q => ∃ q ys, xs = [V.ref q] ∧ (SqL K H q ys ∨ SqT K H q ys) ∧ ∀ l, H l = none → Q (.ref l) (upd H l (.lst ys))
theorem call_listK (hK : X.K = Kx := by rfl) : CallR X (.type "list") (rListK Kx) := by
  subst hK
  exact call_list_of
def rTupK (K : PySem.W.Frag) : List V → Hp → VK → Prop := fun xs H Q => ∃ q ys, xs = [V.ref q] ∧ ((SqL K H q ys ∧ ∀ l, H l = none → Q (.ref l) (upd H l (.tup ys))) ∨ (SqT K H q ys ∧ Q (.ref q) H))
theorem call_tupK (hK : X.K = Kx := by rfl) : CallR X (.type "tuple") (rTupK Kx) := by
  subst hK
  exact call_tuple_of
theorem ix_listK (hK : X.K = Kx := by rfl) : IxR X (rIxL Kx) := by
  subst hK
  exact ix_list
theorem sl_listK (hK : X.K = Kx := by rfl) : SlR X (rSlL Kx) := by
  subst hK
  exact sl_list
theorem cr_allK (hc : X.calm = true) (hK : X.K = Kx := by rfl) : CallR X (.builtin "all") (rAll Kx) := by
  subst hK
  exact cr_all hc
theorem pi_listK (hl : PE X o tl) (hK : X.K = Kx := by rfl) : PI X tgx o (iList Kx tl) := by
  subst hK
  exact pi_list hl
theorem pe_fldK {f : Str} (he : PE X e ta) (hb : attributeBase e f X.env (eval e X.env) = eval e X.env) (hK : X.K = Kx := by rfl) : PE X (.Attribute e f pos) (tFld Kx ta f) := by
  subst hK
  exact pe_fld he hb
theorem pg_tupK {ts : List Expr} {kk : Nat} {tg : TGs} {n : Nat} (hc : X.calm = true) (h : PGs X ts tg) (hK : X.K = Kx := by rfl) (h1 : (assignEach ts X.env).length = n := by rfl) (h2 : (assignEach ts X.env).findIdx? (·.1) = none := by rfl) :
    PG X (.Tuple ts kk pos) (gTup Kx n tg) := by
  subst hK
  exact pg_tup hc h h1 h2
theorem pe_bmK {T : String} {name : Str} {id : String} {r} (pa : PlainAttrs T) (slot : Slot T name id) (hty : typeOf (.builtin id) = pure (.type "method_descriptor")) (hm : MtR X id r) (ho : PE X o to) (ha : PA X (e :: es) t)
    (hK : X.K = Kx := by rfl) (h1 : attributeBase o name X.env (eval o X.env) = eval o X.env := by rfl)
    (h2 : ((backTo cpos (starEach (e :: es) X.env)).all (fun x => !x.1) && (backToKw cpos (keywordEach [] X.env)).all (fun x => x.1.isSome) && decide ((e :: es).length + ([] : List Keyword).length + (if ([] : List Keyword).isEmpty then 0 else 1) < 30)) = true := by rfl)
    (h3 : (apos.endLine == cpos.line) = true := by rfl) (h4 : starEach (e :: es) X.env = (false, eval e X.env) :: starEach es X.env := by rfl) (h5 : (backTo cpos (starEach es X.env)).any (·.1) = false := by rfl) :
    PE X (.Call (.Attribute o name apos) (e :: es) [] cpos) (tBM Kx T r to t) := by
  subst hK
  exact pe_bm pa slot hty hm ho ha h1 h2 h3 h4 h5
end
end Gb
set_option maxRecDepth 100000
set_option maxHeartbeats 4000000
namespace Gb
open PySem PySem.Spec PyProof.Rows L2
def top (i : Nat) : Stmt := PySem.Challenge.pw_giveback_k04_standings_or_not.main.body.getD i (.Pass ⟨0, 0, 0, 0⟩)
abbrev s_is_whole : Stmt := top 2
abbrev s_is_between : Stmt := top 3
abbrev s_is_whole_row : Stmt := top 4
abbrev s_copied : Stmt := top 5
abbrev s_members_of : Stmt := top 6
abbrev s_filled_like : Stmt := top 7
abbrev s_NoWeb___init__ : Stmt := inClass (top 9) 0
abbrev s_NoStanding___init__ : Stmt := inClass (top 10) 0
abbrev s_NoPart___init__ : Stmt := inClass (top 11) 0
abbrev s_NoBeats___init__ : Stmt := inClass (top 12) 0
abbrev s_NoPost___init__ : Stmt := inClass (top 13) 0
abbrev s_NotAll___init__ : Stmt := inClass (top 14) 0
abbrev s_NotWaves___init__ : Stmt := inClass (top 15) 0
abbrev s_TooGreat___init__ : Stmt := inClass (top 16) 0
abbrev s_Web___init__ : Stmt := inClass (top 21) 0
abbrev s_Web___len__ : Stmt := inClass (top 21) 1
abbrev s_Web___eq__ : Stmt := inClass (top 21) 2
abbrev s_Web_ties : Stmt := inClass (top 21) 3
abbrev s_Web_cords : Stmt := inClass (top 21) 4
abbrev s_Web_parts : Stmt := inClass (top 21) 5
abbrev s_Web__part_of : Stmt := inClass (top 21) 6
abbrev s_tied_to : Stmt := top 22
abbrev s_lots_of : Stmt := top 23
abbrev s_need_size : Stmt := top 24
abbrev s_need_ties : Stmt := top 25
abbrev s_are_ties : Stmt := top 26
abbrev s_is_tie : Stmt := top 27
abbrev s_need_post : Stmt := top 28
abbrev s_is_part : Stmt := top 29
abbrev s_need_part : Stmt := top 30
abbrev s_need_standing : Stmt := top 31
abbrev s_standing_fault : Stmt := top 32
abbrev s_are_bearable : Stmt := top 33
abbrev s_beat_on : Stmt := top 35
abbrev s_beat_back : Stmt := top 36
abbrev s_run_of : Stmt := top 37
abbrev s_run_on : Stmt := top 38
abbrev s_following : Stmt := top 39
abbrev s_turned_about : Stmt := top 40
abbrev s_gains : Stmt := top 41
abbrev s_less : Stmt := top 42
abbrev s_with_more : Stmt := top 43
abbrev s_plus : Stmt := top 44
abbrev s_nought_on : Stmt := top 45
abbrev s_kinds_of : Stmt := top 47
abbrev s_is_kind : Stmt := top 48
abbrev s_steps_of : Stmt := top 49
abbrev s_halves_of : Stmt := top 50
abbrev s_step_of : Stmt := top 51
abbrev s_worth_of : Stmt := top 52
abbrev s_need_all_part : Stmt := top 53
abbrev s_need_waves : Stmt := top 54
abbrev s_are_weights : Stmt := top 55
abbrev s_cord_rows : Stmt := top 56
abbrev s_gaps_of : Stmt := top 57
abbrev s_weighed : Stmt := top 58
abbrev s_shown_by : Stmt := top 59
abbrev s_kind_of : Stmt := top 60
abbrev s_equations : Stmt := top 61
abbrev s_triangle_of : Stmt := top 62
abbrev s_solved : Stmt := top 63
abbrev s_lowest : Stmt := top 64
abbrev s_growing : Stmt := top 65
abbrev s_comes_back : Stmt := top 68
abbrev s_never_paper : Stmt := top 69
abbrev s_shows_never : Stmt := top 70
abbrev s_is_stepping : Stmt := top 71
abbrev s_is_owing : Stmt := top 72
abbrev s_standing_on : Stmt := top 73
abbrev s_is_nought : Stmt := top 74
abbrev s_part_paper : Stmt := top 75
abbrev s_owing_paper : Stmt := top 76
abbrev s_beats_till_back : Stmt := top 77
abbrev s_shape_of : Stmt := top 82
abbrev s_home_of : Stmt := top 83
abbrev s_part_home_beats : Stmt := top 84
abbrev s_arm_from : Stmt := top 85
abbrev s_shape_at : Stmt := top 86
abbrev s_shape_along : Stmt := top 87
abbrev s_tie_strength : Stmt := top 88
abbrev s_turned_order : Stmt := top 89
abbrev s_turning_beats : Stmt := top 90
abbrev s_wave_beats : Stmt := top 92
abbrev s_stretch_from : Stmt := top 93
abbrev s_rounds_till_owing : Stmt := top 94
abbrev s_owes : Stmt := top 95
abbrev s_level_standings : Stmt := top 96
abbrev s_only : Stmt := top 97
abbrev s_swing : Stmt := top 98
abbrev s_swings_on : Stmt := top 99
abbrev s_swings_till_back : Stmt := top 100
abbrev s_standing_behind : Stmt := top 104
abbrev s_far_on : Stmt := top 105
abbrev s_far_on_none : Stmt := top 106
abbrev s_far_on_waves : Stmt := top 107
abbrev s__law_pen : Stmt := top 109
abbrev s__law_draw : Stmt := top 110
abbrev s__law_pick : Stmt := top 111
abbrev s__law_great : Stmt := top 112
abbrev s__law_shuffled : Stmt := top 113
abbrev s__law_any_web : Stmt := top 114
abbrev s__law_number : Stmt := top 115
abbrev s__law_standing : Stmt := top 116
abbrev s__law_anything : Stmt := top 117
abbrev s__law_bent : Stmt := top 118
abbrev s__law_whole : Stmt := top 119
abbrev s__law_due : Stmt := top 120
abbrev s__law_told : Stmt := top 121
abbrev s_law : Stmt := top 122
end Gb
set_option maxRecDepth 100000
set_option maxHeartbeats 4000000
/-! Loops and comprehensions that make a list. -/
namespace Gb
open PySem PySem.Spec PyProof.Rows L2
open PySem.W (Datum Tup T4)
/-- what was new since H -/
def nw (H H' : Hp) : Hp := fun b => if (H b).isSome = true then none else H' b
theorem nw_none {H H' : Hp} {b : Addr} (h : H b = none) : nw H H' b = H' b := by
  unfold nw
  rw [h]
  exact if_neg (by decide)
theorem nw_some {H H' : Hp} {b : Addr} {o : HO} (h : H b = some o) : nw H H' b = none := by
  unfold nw
  rw [h]
  exact if_pos rfl
theorem nw_le {H H' : Hp} : Same (nw H H') H' := fun b o e => by
  cases q : H b with
  | some u =>
    rw [nw_some q] at e
    cases e
  | none =>
    rw [nw_none q] at e
    exact e
/-- steps that keep what stands, so many draws each -/
structure Rel (R : Nat → Hp → Hp → Prop) (bad : Addr → Prop) : Prop where
  refl : ∀ {H}, R 0 H H
  trans : ∀ {j k H H1 H2}, R j H H1 → R k H1 H2 → R (j + k) H H2
  new : ∀ {H q o}, H q = none → R 0 H (upd H q o)
  del : ∀ {k H H' l}, R k H H' → ¬ bad l → R k (del H l) (del H' l)
  undel : ∀ {k H H' l}, R k H (Gb.del H' l) → R k H H'
  ex : ∀ {k H H'}, R k H H' → Ex H H'
theorem rel_go {p c : Addr} : Rel (Go p c) (fun l => l = p ∨ l = c) :=
  ⟨Go.refl, Go.trans, Go.new, fun g nb => g.del (fun e => nb (.inl e)) (fun e => nb (.inr e)), fun g => ⟨g.1.trans del_ex, fun n h => (g.2 n h).undel⟩, fun g => g.1⟩
section
variable {R : Nat → Hp → Hp → Prop} {bad : Addr → Prop} {K : PySem.W.Frag} {te : TE} {σ : L2.St} {vs : List Nat} {j n k : Nat} {H : Hp} {D : Addr}
theorem yes_of {A B : Hp → Prop} (h : A H) : tYes σ H fun b H3 => if b = true then A H3 else B H3 := by
  show (if true = true then A H else B H)
  rw [if_pos rfl]
  exact h
/-- the new list at D holds items of which Z says what they are -/
structure Made (R : Nat → Hp → Hp → Prop) (Z : Nat → V → Hp → Prop) (H : Hp) (D : Addr) (m k : Nat) (ys : List V) (H' : Hp) : Prop where
  at_ : H' D = some (.lst ys)
  len : ys.length = m
  it : ∀ i y, ys[i]? = some y → Z i y (del H' D)
  go : R k H (del H' D)
theorem made_start {Z : Nat → V → Hp → Prop} (L : Rel R bad) (hD : H D = none) : Made R Z H D 0 0 [] (upd H D (.lst [])) := by
  refine ⟨upd_same, rfl, fun i y e => by simp at e, ?_⟩
  rw [del_upd, del_none hD]
  exact L.refl
theorem made_snoc {Z : Nat → V → Hp → Prop} {m k k' : Nat} {ys : List V} {H' H4 : Hp} {y : V} (zm : ∀ i y H1 H2, Ex H1 H2 → Z i y H1 → Z i y H2) (L : Rel R bad) (nb : ¬ bad D) (M : Made R Z H D m k ys H') (g : R k' H' H4) (hz : Z m y (del H4 D)) :
    H4 D = some (.lst ys) ∧ Made R Z H D (m + 1) (k + k') (ys ++ [y]) (upd H4 D (.lst (ys ++ [y]))) := by
  refine ⟨L.ex g _ _ M.at_ trivial, upd_same, by rw [List.length_append, M.len]; rfl, fun i z e => ?_, ?_⟩
  · rw [del_upd]
    by_cases hi : i < ys.length
    · rw [List.getElem?_append_left hi] at e
      exact zm _ _ _ _ (L.ex (L.del g nb)) (M.it i z e)
    · rw [List.getElem?_append_right (by omega)] at e
      have e0 : i - ys.length = 0 := by
        cases h : i - ys.length with
        | zero => rfl
        | succ q =>
          rw [h] at e
          cases e
      rw [e0] at e
      have ez : y = z := Option.some.inj e
      have ei : i = m := by
        have := M.len
        omega
      rw [← ez, ei]
      exact hz
  · rw [del_upd]
    exact L.trans M.go (L.del g nb)
theorem made_go {Z : Nat → V → Hp → Prop} {m k : Nat} {ys : List V} {H' : Hp} (L : Rel R bad) (M : Made R Z H D m k ys H') : R k H H' := L.undel M.go
theorem made_it {Z : Nat → V → Hp → Prop} {m k : Nat} {ys : List V} {H' : Hp} (zm : ∀ i y H1 H2, Ex H1 H2 → Z i y H1 → Z i y H2) (M : Made R Z H D m k ys H') {i : Nat} {y : V} (e : ys[i]? = some y) : Z i y H' := zm _ _ _ _ del_ex (M.it i y e)
/-- [e for x in range(n)]: each e by k draws -/
theorem lc_rangeG (Z : Nat → V → Hp → Prop) (zm : ∀ i y H1 H2, Ex H1 H2 → Z i y H1 → Z i y H2) (L : Rel R bad) (hD : H D = none) (nb : ¬ bad D) (hn : n ≤ 100000) {lo : Int} {Qd : Hp → Prop}
    (hw : ∀ x, wipe ((wipe σ vs).set j (some x)) vs = wipe σ vs)
    (hs : ∀ i H', i < n → R (k * i) H H' → (∃ zs, H' D = some (.lst zs)) → ∀ Q : VK, (∀ y H4, R k H' H4 → Z i y (del H4 D) → Q y H4) → te ((wipe σ vs).set j (some (.int (lo + (i : Int))))) H' Q)
    (hd : ∀ ys H', H' D = some (.lst ys) → ys.length = n → (∀ i y, ys[i]? = some y → Z i y H') → R (k * n) H H' → (∀ i y, ys[i]? = some y → Z i y (del H' D)) → Qd H') :
    ∃ W : Nat → Nat → Hp → Prop, (∃ m, W 0 m (upd H D (.lst []))) ∧ ∀ i m H, W i m H →
      ((Itr lo n).stop i H ∧ Qd H) ∨ ((Itr lo n).go i H ∧ ∃ Nx : Hp → Prop, (∀ H', Nx H' → ∃ m', m' < m ∧ W (i + 1) m' H') ∧ ∀ x H', (Itr lo n).yld i H x H' → gName j x (wipe σ vs) H' fun σ2 H2 => wipe σ2 vs = wipe σ vs ∧ tYes σ2 H2 fun b H3 =>
        if b = true then te σ2 H3 fun y H4 => ∃ acc, H4 D = some (.lst acc) ∧ acc.length < sizeLine ∧ Nx (upd H4 D (.lst (acc ++ [y]))) else Nx H3) := by
  refine lc_range (lo := lo) (n := n) (fun i H' => ∃ ys, Made R Z H D i (k * i) ys H') ⟨[], made_start L hD⟩ ?_ ?_
  · rintro i H' hi ⟨ys, M⟩
    refine ⟨hw _, yes_of ?_⟩
    refine hs i H' hi (made_go L M) ⟨_, M.at_⟩ _ fun y H4 g hz => ?_
    obtain ⟨h1, h2⟩ := made_snoc zm L nb M g hz
    exact ⟨ys, h1, Nat.lt_of_le_of_lt (by have := M.len; omega : ys.length ≤ 100000) (by decide), ys ++ [y], by rw [Nat.mul_succ]; exact h2⟩
  · rintro H' ⟨ys, M⟩
    exact hd ys H' M.at_ M.len (fun i y e => made_it zm M e) (made_go L M) M.it
end
section
variable {α : Type} [DecidableEq α] [Datum α] {K : PySem.W.Frag}
/-- v is a list that stands by itself, of such items -/
def Ls (K : PySem.W.Frag) (H : Hp) (v : V) (xs : List α) : Prop := ∃ l vs, v = .ref l ∧ H l = some (.lst vs) ∧ All K H vs xs
theorem Ls.is {H : Hp} {v : V} {xs : List α} (h : Ls K H v xs) : Is K H v xs := by
  obtain ⟨l, vs, rfl, h1, h2⟩ := h
  exact .lst (SqL.of h1) h2
theorem Ls.ex {H H' : Hp} {v : V} {xs : List α} (e : Ex H H') (h : Ls K H v xs) : Ls K H' v xs := by
  obtain ⟨l, vs, rfl, h1, h2⟩ := h
  exact ⟨l, vs, rfl, e _ _ h1 trivial, DpAll.ex e h2⟩
theorem all_perm {H : Hp} {vs ws : List V} (pm : ws.Perm vs) : ∀ {xs : List α}, All K H vs xs → ∃ ys : List α, ys.Perm xs ∧ All K H ws ys := by
  induction pm with
  | nil => exact fun {xs} h => ⟨xs, List.Perm.refl _, h⟩
  | @cons v l1 l2 p ih =>
    intro xs h
    cases xs with
    | nil => cases h
    | cons x xs =>
      cases h with
      | cons h1 h2 =>
        obtain ⟨ys, q1, q2⟩ := ih h2
        exact ⟨x :: ys, q1.cons x, .cons h1 q2⟩
  | @swap v u l =>
    intro xs h
    match xs, h with
    | x :: y :: xs, .cons h1 (.cons h2 h3) => exact ⟨y :: x :: xs, List.Perm.swap _ _ _, .cons h2 (.cons h1 h3)⟩
  | trans p1 p2 ih1 ih2 =>
    intro xs h
    obtain ⟨ys, q1, q2⟩ := ih2 h
    obtain ⟨zs, q3, q4⟩ := ih1 q2
    exact ⟨zs, q3.trans q1, q4⟩
end
end Gb
set_option maxRecDepth 100000
set_option maxHeartbeats 4000000
/-! Data by value: what stands in the heap, told as data; steps that keep it. -/
namespace Fv
open PySem PySem.Spec PyProof.Rows L2 Gb
def keyP : Key → PyData
  | .inl i => .int i
  | .inr x => .str x
mutual
/-- v stands for the datum d -/
inductive Dd (K : PySem.W.Frag) (H : Hp) : V → PyData → Prop
  | non : Dd K H .non .none
  | bl (b : Bool) : Dd K H (.bl b) (.bool b)
  | int (i : Int) : Dd K H (.int i) (.int i)
  | str (x : Str) : Dd K H (.str x) (.str x)
  | lst {a : Addr} {xs : List V} {ds : List PyData} : H a = some (.lst xs) → DdA K H xs ds → xs.length ≤ sizeLine → Dd K H (.ref a) (.list ds)
  | tup {a : Addr} {xs : List V} {ds : List PyData} : SqT K H a xs → DdA K H xs ds → xs.length ≤ sizeLine → Dd K H (.ref a) (.tuple ds)
  | dic {a : Addr} {kvs : List (Key × V)} {ks : List (PyData × PyData)} : H a = some (.dK kvs) → DdK K H kvs ks → Dd K H (.ref a) (.dict ks)
inductive DdA (K : PySem.W.Frag) (H : Hp) : List V → List PyData → Prop
  | nil : DdA K H [] []
  | cons {v : V} {vs : List V} {d : PyData} {ds : List PyData} : Dd K H v d → DdA K H vs ds → DdA K H (v :: vs) (d :: ds)
inductive DdK (K : PySem.W.Frag) (H : Hp) : List (Key × V) → List (PyData × PyData) → Prop
  | nil : DdK K H [] []
  | cons {k : Key} {v : V} {kvs : List (Key × V)} {d : PyData} {ks : List (PyData × PyData)} : Dd K H v d → DdK K H kvs ks → DdK K H ((k, v) :: kvs) ((keyP k, d) :: ks)
end
theorem Same.l {K : PySem.W.Frag} {H H' : Hp} {a : Addr} {xs : List V} (e : Same H H') (h : SqL K H a xs) : SqL K H' a xs := Ex.l (Ex.of e) h
theorem Same.lq {K : PySem.W.Frag} {H H' : Hp} {a : Addr} {xs : List V} (e : Same H H') (h : H a = some (.lst xs)) : SqL K H' a xs := SqL.of (e _ _ h)
theorem Same.t {K : PySem.W.Frag} {H H' : Hp} {a : Addr} {xs : List V} (e : Same H H') (h : SqT K H a xs) : SqT K H' a xs := Ex.t (Ex.of e) h
mutual
theorem Dd.mono {K : PySem.W.Frag} {H H' : Hp} (e : Same H H') : ∀ {v : V} {d : PyData}, Dd K H v d → Dd K H' v d
  | _, _, .non => .non
  | _, _, .bl b => .bl b
  | _, _, .int i => .int i
  | _, _, .str x => .str x
  | _, _, .lst h a l => .lst (e _ _ h) (DdA.mono e a) l
  | _, _, .tup h a l => .tup (Same.t e h) (DdA.mono e a) l
  | _, _, .dic h a => .dic (e _ _ h) (DdK.mono e a)
theorem DdA.mono {K : PySem.W.Frag} {H H' : Hp} (e : Same H H') : ∀ {vs : List V} {ds : List PyData}, DdA K H vs ds → DdA K H' vs ds
  | _, _, .nil => .nil
  | _, _, .cons a b => .cons (Dd.mono e a) (DdA.mono e b)
theorem DdK.mono {K : PySem.W.Frag} {H H' : Hp} (e : Same H H') : ∀ {vs : List (Key × V)} {ds : List (PyData × PyData)}, DdK K H vs ds → DdK K H' vs ds
  | _, _, .nil => .nil
  | _, _, .cons a b => .cons (Dd.mono e a) (DdK.mono e b)
end
section
variable {K : PySem.W.Frag} {H H' : Hp} {v : V} {vs ws : List V} {d : PyData} {ds es : List PyData}
theorem DdA.len : ∀ {vs : List V} {ds : List PyData}, DdA K H vs ds → vs.length = ds.length
  | _, _, .nil => rfl
  | _, _, .cons _ t => by rw [List.length_cons, List.length_cons, DdA.len t]
theorem DdA.get : ∀ {vs : List V} {ds : List PyData} {i : Nat} {v : V}, DdA K H vs ds → vs[i]? = some v → ∃ d, ds[i]? = some d ∧ Dd K H v d
  | _, _, _, _, .nil, e => by simp at e
  | _, _, 0, _, .cons r _, e => by
    simp at e
    subst e
    exact ⟨_, rfl, r⟩
  | _, _, i + 1, v, .cons _ t, e => by
    obtain ⟨d, h1, h2⟩ := DdA.get (i := i) (v := v) t (by simpa using e)
    exact ⟨d, by simpa using h1, h2⟩
theorem DdA.get' : ∀ {vs : List V} {ds : List PyData} {i : Nat} {d : PyData}, DdA K H vs ds → ds[i]? = some d → ∃ v, vs[i]? = some v ∧ Dd K H v d
  | _, _, _, _, .nil, e => by simp at e
  | _, _, 0, _, .cons r _, e => by
    simp at e
    subst e
    exact ⟨_, rfl, r⟩
  | _, _, i + 1, v, .cons _ t, e => by
    obtain ⟨d, h1, h2⟩ := DdA.get' (i := i) (d := v) t (by simpa using e)
    exact ⟨d, by simpa using h1, h2⟩
theorem DdA.app : ∀ {vs ws : List V} {ds es : List PyData}, DdA K H vs ds → DdA K H ws es → DdA K H (vs ++ ws) (ds ++ es)
  | _, _, _, _, .nil, h => h
  | _, _, _, _, .cons a b, h => .cons a (DdA.app b h)
theorem DdA.snoc (h : DdA K H vs ds) (h' : Dd K H v d) : DdA K H (vs ++ [v]) (ds ++ [d]) := h.app (.cons h' .nil)
theorem DdA.take : ∀ {vs : List V} {ds : List PyData} (n : Nat), DdA K H vs ds → DdA K H (vs.take n) (ds.take n)
  | _, _, 0, _ => .nil
  | _, _, _ + 1, .nil => .nil
  | _, _, n + 1, .cons a b => .cons a (DdA.take n b)
theorem DdA.drop : ∀ {vs : List V} {ds : List PyData} (n : Nat), DdA K H vs ds → DdA K H (vs.drop n) (ds.drop n)
  | _, _, 0, h => h
  | _, _, _ + 1, .nil => .nil
  | _, _, n + 1, .cons _ b => DdA.drop n b
theorem DdA.erase : ∀ {vs : List V} {ds : List PyData} (n : Nat), DdA K H vs ds → DdA K H (vs.eraseIdx n) (ds.eraseIdx n)
  | _, _, _, .nil => .nil
  | _, _, 0, .cons _ b => b
  | _, _, n + 1, .cons a b => .cons a (DdA.erase n b)
theorem DdA.set (h : Dd K H v d) : ∀ {vs : List V} {ds : List PyData} (n : Nat), DdA K H vs ds → DdA K H (vs.set n v) (ds.set n d)
  | _, _, _, .nil => .nil
  | _, _, 0, .cons _ b => .cons h b
  | _, _, n + 1, .cons a b => .cons a (DdA.set h n b)
theorem DdA.rev : ∀ {vs : List V} {ds : List PyData}, DdA K H vs ds → DdA K H vs.reverse ds.reverse
  | _, _, .nil => .nil
  | _, _, .cons a b => by
    rw [List.reverse_cons, List.reverse_cons]
    exact (DdA.rev b).snoc a
theorem DdA.rep (n : Nat) (h : DdA K H vs ds) : DdA K H (List.replicate n vs).flatten (List.replicate n ds).flatten := by
  induction n with
  | zero => exact .nil
  | succ n ih =>
    rw [List.replicate_succ, List.replicate_succ, List.flatten_cons, List.flatten_cons]
    exact h.app ih
theorem dd_ints : ∀ ns : List Int, DdA K H (ns.map V.int) (ns.map PyData.int)
  | [] => .nil
  | n :: ns => .cons (.int n) (dd_ints ns)
theorem dd_list (h : Dd K H v (.list ds)) : ∃ a xs, v = .ref a ∧ H a = some (.lst xs) ∧ DdA K H xs ds ∧ xs.length ≤ sizeLine := by
  cases h with
  | lst h a l => exact ⟨_, _, rfl, h, a, l⟩
theorem dd_tup (h : Dd K H v (.tuple ds)) : ∃ a xs, v = .ref a ∧ SqT K H a xs ∧ DdA K H xs ds ∧ xs.length ≤ sizeLine := by
  cases h with
  | tup h a l => exact ⟨_, _, rfl, h, a, l⟩
theorem dd_int {i : Int} (h : Dd K H v (.int i)) : v = .int i := by
  cases h
  rfl
theorem dd_bl {i : Bool} (h : Dd K H v (.bool i)) : v = .bl i := by
  cases h
  rfl
theorem dd_str {i : Str} (h : Dd K H v (.str i)) : v = .str i := by
  cases h
  rfl
theorem dd_non (h : Dd K H v .none) : v = .non := by
  cases h
  rfl
end
/-- without dicts: as the layer's own -/
def noDict (d : PyData) : Bool := !d.hasDict
mutual
theorem Dd.dp {K : PySem.W.Frag} {H : Hp} : ∀ {v : V} {d : PyData}, Dd K H v d → d.canLay0 = true → Dp K H v d
  | _, _, .non, _ => .non
  | _, _, .bl b, _ => .bl b
  | _, _, .int i, _ => .int i
  | _, _, .str x, _ => .str x
  | _, _, .lst h a _, c => .lst (SqL.of h) (DdA.dp a (by simpa only [PyData.canLay0] using c))
  | _, _, .tup h a _, c => .tup h (DdA.dp a (by simpa only [PyData.canLay0] using c))
  | _, _, .dic _ _, c => by simp only [PyData.canLay0] at c; cases c
theorem DdA.dp {K : PySem.W.Frag} {H : Hp} : ∀ {vs : List V} {ds : List PyData}, DdA K H vs ds → PyData.canLayAll0 ds = true → DpAll K H vs ds
  | _, _, .nil, _ => .nil
  | _, _, .cons a b, c => by
    simp only [PyData.canLayAll0, Bool.and_eq_true] at c
    exact .cons (Dd.dp a c.1) (DdA.dp b c.2)
end
/-- what is built, long or not -/
def fitsD : PyData → Prop
  | .list ds => ds.length ≤ sizeLine
  | .tuple ds => ds.length ≤ sizeLine
  | _ => True
end Fv
set_option maxRecDepth 100000
set_option maxHeartbeats 4000000
/-! States by value, and what an expression yields. -/
namespace Fv
open PySem PySem.Spec PyProof.Rows L2 Gb
open PySem.W (T4)
/-! ### webs -/
abbrev Tw := T4 Int Int Int Int
def tieD (t : Tw) : PyData := .tuple [.int t.a, .int t.b, .int t.c, .int t.d]
def pairsW (s : Nat) : List (Nat × Nat) := (List.range s).flatMap fun i => (List.range (s - (i + 1))).map fun d => (i, i + 1 + d)
def tieW (M : Nat → Nat → Int) (p : Nat × Nat) : Option Tw := if M p.1 p.2 > 0 then some ⟨p.1, p.2, M p.1 p.2, M p.2 p.1⟩ else none
/-- the ties of the web of these cords, rising -/
def tiesW (M : Nat → Nat → Int) (s : Nat) : List Tw := (pairsW s).filterMap (tieW M)
def rowD (M : Nat → Nat → Int) (s i : Nat) : PyData := .tuple ((List.range s).map fun j => .int (M i j))
def rowsD (M : Nat → Nat → Int) (s : Nat) : List PyData := (List.range s).map (rowD M s)
/-- a web at wa -/
structure WebAt (K : PySem.W.Frag) (C : Addr) (H : Hp) (wa : Addr) (s : Nat) (M : Nat → Nat → Int) : Prop where
  s1 : 1 ≤ s
  s12 : s ≤ 12
  ex : ∃ dx r t, H wa = some (.ins C dx [("_rows", .ref r), ("_ties", .ref t)]) ∧ H dx = some (.own wa) ∧ Dd K H (.ref r) (.tuple (rowsD M s)) ∧ Dd K H (.ref t) (.tuple ((tiesW M s).map tieD))
theorem WebAt.mono {K : PySem.W.Frag} {C : Addr} {H H' : Hp} {wa : Addr} {s : Nat} {M : Nat → Nat → Int} (e : Same H H') (h : WebAt K C H wa s M) : WebAt K C H' wa s M := by
  obtain ⟨h1, h2, dx, r, t, a, b, c, d⟩ := h
  exact ⟨h1, h2, dx, r, t, e _ _ a, e _ _ b, c.mono e, d.mono e⟩
/-- an exception: its class's name and its fields -/
structure Exn where
  cls : Str
  fs : List (Str × PyData)
/-! ### what a name stands for -/
inductive D where
  | py (d : PyData)
  | web (s : Nat) (M : Nat → Nat → Int)
  | raw (v : V)
  | pen
  | exc (x : Exn)
inductive Sl where
  | no
  | val (d : D)
  | own (ds : List PyData)
  | dow (ks : List (PyData × PyData))
  | mat (t : Bool) (l : Addr) (rows : List (Addr × List PyData))
def Sl.isOwn : Sl → Bool
  | .own _ => true
  | .dow _ => true
  | _ => false
/-- the pen, its cells, the tables of code objects -/
abbrev Pn := Option (Addr × Addr × List (Addr × Str))
/-- what surrounds a def's body: K, the class Web, the pen, the wish of exceptions, the heaps at the entry -/
structure Cg where
  K : PySem.W.Frag
  C : Addr
  pn : Pn
  xe : WX
  ex : Str → Option Value
  B0 : Hp
  H0 : Hp
/-- the exception at a: its class, its dict -/
def exK (a C dd : Addr) : HO := .ext fun h => ∃ (vs : Array Value) (sl : Array (Option Value)), h.get? a = some ({ cls := .ref C, dict := some dd, data := .fields vs, slots := sl } : Obj)
/-- the fields at dd -/
def FsAt (K : PySem.W.Frag) (B : Hp) (dd : Addr) (fs : List (Str × PyData)) : Prop :=
  ∃ gs : List (Str × V), B dd = some (.xd gs) ∧ ∀ f, match gs.lookup f, fs.lookup f with
    | some v, some d => Dd K B v d
    | none, none => True
    | _, _ => False
theorem FsAt.mono {K : PySem.W.Frag} {B B' : Hp} {dd : Addr} {fs : List (Str × PyData)} (e : Same B B') (h : FsAt K B dd fs) : FsAt K B' dd fs := by
  obtain ⟨gs, h1, h2⟩ := h
  refine ⟨gs, e _ _ h1, fun f => ?_⟩
  have q := h2 f
  split at q
  · exact Dd.mono e q
  · trivial
  · exact q.elim
def R (G : Cg) (B : Hp) (v : V) : D → Prop
  | .py d => Dd G.K B v d
  | .web s M => ∃ a, v = .ref a ∧ WebAt G.K G.C B a s M
  | .raw w => v = w
  | .pen => ∃ p c T, G.pn = some (p, c, T) ∧ v = .ref p
  | .exc x => ∃ a C dd, v = .ref a ∧ G.ex x.cls = some (.ref C) ∧ B a = some (exK a C dd) ∧ FsAt G.K B dd x.fs
theorem R.mono {G : Cg} {B B' : Hp} {v : V} {d : D} (e : Same B B') (h : R G B v d) : R G B' v d := by
  cases d with
  | py d => exact Dd.mono e h
  | web s M =>
    obtain ⟨a, h1, h2⟩ := h
    exact ⟨a, h1, h2.mono e⟩
  | raw w => exact h
  | pen => exact h
  | exc x =>
    obtain ⟨a, C, dd, h1, h2, h3, h4⟩ := h
    exact ⟨a, C, dd, h1, h2, e _ _ h3, h4.mono e⟩
section
variable {G : Cg} {B : Hp}
theorem r_int {i : Int} : R G B (.int i) (.py (.int i)) := Dd.int i
theorem r_bl {i : Bool} : R G B (.bl i) (.py (.bool i)) := Dd.bl i
theorem r_str {i : Str} : R G B (.str i) (.py (.str i)) := Dd.str i
theorem r_non : R G B .non (.py .none) := Dd.non
theorem r_lst {a : Addr} {xs : List V} {ds : List PyData} (h : B a = some (.lst xs)) (h2 : DdA G.K B xs ds) (h3 : xs.length ≤ sizeLine) : R G B (.ref a) (.py (.list ds)) := Dd.lst h h2 h3
theorem r_tup {a : Addr} {xs : List V} {ds : List PyData} (h : SqT G.K B a xs) (h2 : DdA G.K B xs ds) (h3 : xs.length ≤ sizeLine) : R G B (.ref a) (.py (.tuple ds)) := Dd.tup h h2 h3
theorem r_dic {a : Addr} {kvs : List (Key × V)} {ks : List (PyData × PyData)} (h : B a = some (.dK kvs)) (h2 : DdK G.K B kvs ks) : R G B (.ref a) (.py (.dict ks)) := Dd.dic h h2
end
def RA (G : Cg) (B : Hp) : List V → List D → Prop
  | [], [] => True
  | v :: vs, d :: ds => R G B v d ∧ RA G B vs ds
  | _, _ => False
theorem RA.mono {G : Cg} {B B' : Hp} (e : Same B B') : ∀ {vs : List V} {ds : List D}, RA G B vs ds → RA G B' vs ds
  | [], [], _ => trivial
  | _ :: _, _ :: _, h => ⟨h.1.mono e, RA.mono e h.2⟩
  | [], _ :: _, h => h.elim
  | _ :: _, [], h => h.elim
/-! ### steps -/
def notTb : HO → Prop
  | .tbl _ => False
  | _ => True
def Kp : Pn → Hp → Hp → Prop
  | none, H, H' => Same H H'
  | some (p, _, _), H, H' => (∀ b o, b ≠ p → notTb o → H b = some o → H' b = some o) ∧ (∀ o, notTb o → H p = some o → ∃ o', H' p = some o' ∧ notTb o') ∧ ∀ b ps, H b = some (.tbl ps) → ∃ ps', H' b = some (.tbl ps')
def Pk (pn : Pn) (n : Nat) (B H : Hp) : Prop := match pn with
  | none => True
  | some (p, c, T) => Pen H p c n ∧ B p = none ∧ LamX.Tabs T H ∧ (∀ b ps, B b ≠ some (.tbl ps)) ∧ (∀ b ps, H b = some (.tbl ps) → ∃ q ∈ T, q.1 = b) ∧ ∃ xs, B c = some (.lst xs)
theorem Kp.of {pn : Pn} {H H' : Hp} (e : Same H H') : Kp pn H H' := by
  cases pn with
  | none => exact e
  | some pc => exact ⟨fun b o _ _ h => e _ _ h, fun o nt h => ⟨o, e _ _ h, nt⟩, fun b ps h => ⟨ps, e _ _ h⟩⟩
theorem Kp.refl {pn : Pn} {H : Hp} : Kp pn H H := Kp.of (Same.refl H)
theorem Kp.trans {pn : Pn} {H H1 H2 : Hp} (a : Kp pn H H1) (b : Kp pn H1 H2) : Kp pn H H2 := by
  cases pn with
  | none => exact Same.trans a b
  | some pc =>
    refine ⟨fun x o nb nt h => b.1 _ _ nb nt (a.1 _ _ nb nt h), fun o nt h => ?_, fun x ps h => ?_⟩
    · obtain ⟨o1, h1, n1⟩ := a.2.1 o nt h
      exact b.2.1 o1 n1 h1
    · obtain ⟨p1, h1⟩ := a.2.2 x ps h
      exact b.2.2 x p1 h1
theorem Kp.there {pn : Pn} {H H' : Hp} {b : Addr} {u : HO} (a : Kp pn H H') (h : H b = some u) (nt : notTb u) : ∃ u', H' b = some u' ∧ notTb u' := by
  cases pn with
  | none => exact ⟨u, a _ _ h, nt⟩
  | some pc =>
    by_cases e : b = pc.1
    · rw [e] at h ⊢
      exact a.2.1 u nt h
    · exact ⟨u, a.1 _ _ e nt h, nt⟩
theorem Kp.up {pn : Pn} {H H' : Hp} (a : Kp pn H H') {p : Addr} (hp : H' p = none) : H p = none := by
  cases q : H p with
  | none => rfl
  | some o =>
    by_cases nt : notTb o
    · obtain ⟨u, h, _⟩ := a.there q nt
      rw [hp] at h
      cases h
    · cases o with
      | tbl ps =>
        cases pn with
        | none =>
          have := a _ _ q
          rw [hp] at this
          cases this
        | some pc =>
          obtain ⟨ps', h⟩ := a.2.2 p ps q
          rw [hp] at h
          cases h
      | _ => exact absurd True.intro nt
structure Mv (pn : Pn) (B H B' H' : Hp) : Prop where
  kp : Kp pn H H'
  b : Same B B'
  s : Same B' H'
  f : ∀ x o u, B' x = some o → H x = some u → notTb u → B x = some o
  t : ∀ x ps, B' x = some (.tbl ps) → B x = some (.tbl ps)
  u : ∀ x ps, H' x = some (.tbl ps) → ∃ ps', H x = some (.tbl ps')
theorem Mv.refl {pn : Pn} {B H : Hp} (e : Same B H) : Mv pn B H B H := ⟨Kp.refl, Same.refl B, e, fun _ _ _ h _ _ => h, fun _ _ h => h, fun _ ps h => ⟨ps, h⟩⟩
theorem Mv.trans {pn : Pn} {B H B1 H1 B2 H2 : Hp} (a : Mv pn B H B1 H1) (b : Mv pn B1 H1 B2 H2) : Mv pn B H B2 H2 :=
  ⟨a.kp.trans b.kp, a.b.trans b.b, b.s, fun x o u h n nt => by
    obtain ⟨u', h1, n1⟩ := a.kp.there n nt
    exact a.f x o u (b.f x o u' h h1 n1) n nt, fun x ps h => a.t _ _ (b.t _ _ h), fun x ps h => by
    obtain ⟨p1, h1⟩ := b.u x ps h
    exact a.u x p1 h1⟩
/-- a step that only adds -/
theorem Mv.of {pn : Pn} {B H B' H' : Hp} (m : Mv none B H B' H') : Mv pn B H B' H' := ⟨Kp.of m.kp, m.b, m.s, m.f, m.t, m.u⟩
theorem Mv.stay {pn : Pn} {B H B' H' : Hp} {b : Addr} {u : HO} (m : Mv pn B H B' H') (hH : H b = some u) (nt : notTb u) (hB : B b = none) : B' b = none := by
  cases q : B' b with
  | none => rfl
  | some o =>
    have := m.f _ _ _ q hH nt
    rw [hB] at this
    cases this
theorem Pk.mv {pn : Pn} {n : Nat} {B H B' H' : Hp} (h : Pk pn n B H) (m : Mv none B H B' H') : Pk pn n B' H' := by
  cases pn with
  | none => trivial
  | some pc =>
    obtain ⟨⟨t, l, xs, h1, h2, h3⟩, hb, hT, hTb, hTu, ys, hc⟩ := h
    exact ⟨⟨t, l, xs, m.kp _ _ h1, m.kp _ _ h2, h3⟩, m.stay h1 True.intro hb, hT.ext m.kp, fun b ps q => hTb b ps (m.t _ _ q), fun b ps q => by
      obtain ⟨p1, h4⟩ := m.u b ps q
      exact hTu b p1 h4, ys, m.b _ _ hc⟩
/-- a new object, told -/
theorem Mv.new {pn : Pn} {B H : Hp} {p : Addr} {o : HO} (e : Same B H) (hp : H p = none) (nt : notTb o := by trivial) : Mv pn B H (upd B p o) (upd H p o) := by
  refine ⟨Kp.of (same_new hp), same_new (e.free hp), fun b u h => ?_, fun x v u h n _ => ?_, fun x ps h => ?_, fun x ps h => ?_⟩
  · by_cases hb : b = p
    · subst hb
      rw [upd_same] at h ⊢
      exact h
    · rw [upd_ne hb] at h ⊢
      exact e _ _ h
  · rw [upd_ne (fun z => by rw [z, hp] at n; cases n)] at h
    exact h
  · by_cases hb : x = p
    · subst hb
      rw [upd_same] at h
      cases h
      exact absurd nt (fun z => z)
    · rw [upd_ne hb] at h
      exact h
  · by_cases hb : x = p
    · subst hb
      rw [upd_same] at h
      cases h
      exact absurd nt (fun z => z)
    · rw [upd_ne hb] at h
      exact ⟨ps, h⟩
/-- a new object, not told -/
theorem Mv.newOwn {pn : Pn} {B H : Hp} {p : Addr} {o : HO} (e : Same B H) (hp : H p = none) (nt : notTb o := by trivial) : Mv pn B H B (upd H p o) :=
  ⟨Kp.of (same_new hp), Same.refl B, e.trans (same_new hp), fun _ _ _ h _ _ => h, fun _ _ h => h, fun x ps h => by
    by_cases hb : x = p
    · subst hb
      rw [upd_same] at h
      cases h
      exact absurd nt (fun z => z)
    · rw [upd_ne hb] at h
      exact ⟨ps, h⟩⟩
/-! ### states -/
def Free (G : Cg) (B : Hp) (l : Addr) : Prop := B l = none ∧ G.H0 l = none ∧ ∀ p c T, G.pn = some (p, c, T) → l ≠ p ∧ l ≠ c
def ownAt (ρ : List Sl) (i : Nat) : Prop := ∃ x, ρ[i]? = some x ∧ x.isOwn = true
abbrev Rws := List (Addr × List PyData)
/-- the addresses of lists of lists of one's own -/
def ghost (ρ : List Sl) (a : Addr) : Prop := ∃ (i : Nat) (t : Bool) (l : Addr) (rows : Rws), ρ[i]? = some (.mat t l rows) ∧ a ∈ l :: rows.map (·.1)
def matO (t : Bool) (rows : Rws) : HO := match t with
  | true => .tup (rows.map fun r => .ref r.1)
  | false => .lst (rows.map fun r => .ref r.1)
theorem matO_nt (t : Bool) (rows : Rws) : notTb (matO t rows) := by
  cases t <;> trivial
/-- lists of one's own in a list (false) or a tuple (true) at l -/
structure MatAt (G : Cg) (B H : Hp) (t : Bool) (l : Addr) (rows : Rws) : Prop where
  at_ : H l = some (matO t rows)
  fr : Free G B l
  nd : (l :: rows.map (·.1)).Nodup
  len : rows.length ≤ sizeLine
  row : ∀ r ∈ rows, ∃ vs, H r.1 = some (.lst vs) ∧ vs.length ≤ sizeLine ∧ DdA G.K B vs r.2 ∧ Free G B r.1
structure MatS (G : Cg) (B H : Hp) (ρ : List Sl) (σ : L2.St) : Prop where
  at_ : ∀ (i : Nat) (t : Bool) (l : Addr) (rows : Rws), ρ[i]? = some (.mat t l rows) → σ[i]? = some (some (.ref l)) ∧ MatAt G B H t l rows
  sep : ∀ (i j : Nat) (t : Bool) (l : Addr) (rows : Rws) (t' : Bool) (l' : Addr) (rows' : Rws), i ≠ j → ρ[i]? = some (.mat t l rows) → ρ[j]? = some (.mat t' l' rows') → ∀ a, a ∈ l :: rows.map (·.1) → a ∉ l' :: rows'.map (·.1)
  own : ∀ (j : Nat) (a : Addr), ownAt ρ j → σ[j]? = some (some (.ref a)) → ¬ ghost ρ a
structure St (G : Cg) (n : Nat) (B H : Hp) (ρ : List Sl) (σ : L2.St) : Prop where
  mv : Mv G.pn G.B0 G.H0 B H
  pk : Pk G.pn n B H
  len : ρ.length = σ.length
  val : ∀ (i : Nat) (d : D), ρ[i]? = some (Sl.val d) → ∃ v, σ[i]? = some (some v) ∧ R G B v d
  own : ∀ (i : Nat) (ds : List PyData), ρ[i]? = some (Sl.own ds) → ∃ l vs, σ[i]? = some (some (.ref l)) ∧ H l = some (.lst vs) ∧ vs.length ≤ sizeLine ∧ DdA G.K B vs ds ∧ Free G B l
  dow : ∀ (i : Nat) (ks : List (PyData × PyData)), ρ[i]? = some (Sl.dow ks) → ∃ l kvs, σ[i]? = some (some (.ref l)) ∧ H l = some (.dK kvs) ∧ DdK G.K B kvs ks ∧ Free G B l
  dis : ∀ (i j : Nat) (l : Addr), i ≠ j → ownAt ρ i → ownAt ρ j → σ[i]? = some (some (.ref l)) → σ[j]? ≠ some (some (.ref l))
  mat : MatS G B H ρ σ
theorem Free.mv {G : Cg} {B H B' H' : Hp} {l : Addr} {u : HO} (h : Free G B l) (m : Mv G.pn B H B' H') (hl : H l = some u) (nt : notTb u := by trivial) : Free G B' l := ⟨m.stay hl nt h.1, h.2⟩
theorem Kp.at_ {G : Cg} {B H H' : Hp} {l : Addr} {o : HO} (k : Kp G.pn H H') (h : Free G B l) (hl : H l = some o) (nt : notTb o := by trivial) : H' l = some o := by
  cases e : G.pn with
  | none =>
    rw [e] at k
    exact k _ _ hl
  | some pc =>
    rw [e] at k
    exact k.1 _ _ (h.2.2 pc.1 pc.2.1 pc.2.2 e).1 nt hl
theorem MatAt.step {G : Cg} {B H B' H' : Hp} {t : Bool} {l : Addr} {rows : Rws} (h : MatAt G B H t l rows) (m : Mv G.pn B H B' H') : MatAt G B' H' t l rows :=
  ⟨m.kp.at_ h.fr h.at_ (matO_nt t rows), h.fr.mv m h.at_ (matO_nt t rows), h.nd, h.len, fun r hr => by
    obtain ⟨vs, h1, h2, h3, h4⟩ := h.row r hr
    exact ⟨vs, m.kp.at_ h4 h1, h2, h3.mono m.b, h4.mv m h1⟩⟩
theorem MatAt.other {G : Cg} {B H : Hp} {t : Bool} {l D : Addr} {o : HO} {rows : Rws} (h : MatAt G B H t l rows) (hD : D ∉ l :: rows.map (·.1)) : MatAt G B (upd H D o) t l rows :=
  ⟨by rw [upd_ne (fun e => hD (by rw [← e]; exact List.mem_cons_self))]; exact h.at_, h.fr, h.nd, h.len, fun r hr => by
    obtain ⟨vs, h1, h2⟩ := h.row r hr
    exact ⟨vs, by rw [upd_ne (fun e => hD (by rw [← e]; exact List.mem_cons_of_mem _ (List.mem_map.mpr ⟨r, hr, rfl⟩)))]; exact h1, h2⟩⟩
theorem MatAt.tellB {G : Cg} {B H : Hp} {t : Bool} {l D : Addr} {o : HO} {rows : Rws} (h : MatAt G B H t l rows) (hD : D ∉ l :: rows.map (·.1)) (hB : B D = none) : MatAt G (upd B D o) H t l rows :=
  ⟨h.at_, ⟨by rw [upd_ne (fun e => hD (by rw [← e]; exact List.mem_cons_self))]; exact h.fr.1, h.fr.2⟩, h.nd, h.len, fun r hr => by
    obtain ⟨vs, h1, h2, h3, h4⟩ := h.row r hr
    exact ⟨vs, h1, h2, h3.mono (same_new hB), by rw [upd_ne (fun e => hD (by rw [← e]; exact List.mem_cons_of_mem _ (List.mem_map.mpr ⟨r, hr, rfl⟩)))]; exact h4.1, h4.2⟩⟩
section
variable {G : Cg} {B H : Hp} {ρ ρ' : List Sl} {σ σ' : L2.St}
theorem MatS.step {B' H' : Hp} (M : MatS G B H ρ σ) (m : Mv G.pn B H B' H') : MatS G B' H' ρ σ := ⟨fun i t l rows h => ⟨(M.at_ i t l rows h).1, (M.at_ i t l rows h).2.step m⟩, M.sep, M.own⟩
theorem MatS.ghost_sub (hm : ∀ (i : Nat) (t : Bool) (l : Addr) (rows : Rws), ρ'[i]? = some (Sl.mat t l rows) → ρ[i]? = some (Sl.mat t l rows) ∧ σ'[i]? = σ[i]?) {a : Addr} (h : ghost ρ' a) : ghost ρ a := by
  obtain ⟨i, t, l, rows, h1, h2⟩ := h
  exact ⟨i, t, l, rows, (hm i t l rows h1).1, h2⟩
theorem MatS.sub (M : MatS G B H ρ σ) (hm : ∀ (i : Nat) (t : Bool) (l : Addr) (rows : Rws), ρ'[i]? = some (Sl.mat t l rows) → ρ[i]? = some (Sl.mat t l rows) ∧ σ'[i]? = σ[i]?) (ho : ∀ j, ownAt ρ' j → ownAt ρ j ∧ σ'[j]? = σ[j]?) : MatS G B H ρ' σ' :=
  ⟨fun i t l rows h => by
    obtain ⟨h1, h2⟩ := hm i t l rows h
    rw [h2]
    exact M.at_ i t l rows h1, fun i j t l rows t' l' rows' ne h h' => M.sep i j t l rows t' l' rows' ne (hm i t l rows h).1 (hm j t' l' rows' h').1, fun j a h e g => by
    obtain ⟨h1, h2⟩ := ho j h
    rw [h2] at e
    exact M.own j a h1 e (MatS.ghost_sub hm g)⟩
theorem MatS.no_ (h : ∀ (i : Nat) (t : Bool) (l : Addr) (rows : Rws), ρ[i]? ≠ some (Sl.mat t l rows)) : MatS G B H ρ σ := ⟨fun i t l rows e => absurd e (h i t l rows), fun i j t l rows t' l' rows' ne e => absurd e (h i t l rows), fun j a _ _ ⟨i, t, l, rows, e, _⟩ => absurd e (h i t l rows)⟩
theorem MatS.other {D : Addr} {o : HO} (M : MatS G B H ρ σ) (hD : ¬ ghost ρ D) : MatS G B (upd H D o) ρ σ := ⟨fun i t l rows h => ⟨(M.at_ i t l rows h).1, (M.at_ i t l rows h).2.other fun z => hD ⟨i, t, l, rows, h, z⟩⟩, M.sep, M.own⟩
theorem MatS.tellB {D : Addr} {o : HO} (M : MatS G B H ρ σ) (hD : ¬ ghost ρ D) (hB : B D = none) : MatS G (upd B D o) H ρ σ := ⟨fun i t l rows h => ⟨(M.at_ i t l rows h).1, (M.at_ i t l rows h).2.tellB (fun z => hD ⟨i, t, l, rows, h, z⟩) hB⟩, M.sep, M.own⟩
/-- what is ghost stands in the heap -/
theorem MatS.there (M : MatS G B H ρ σ) {a : Addr} (h : ghost ρ a) : ∃ o, H a = some o := by
  obtain ⟨i, t, l, rows, h1, h2⟩ := h
  have A := (M.at_ i t l rows h1).2
  rcases List.mem_cons.mp h2 with rfl | h2
  · exact ⟨_, A.at_⟩
  · obtain ⟨r, hr, rfl⟩ := List.mem_map.mp h2
    obtain ⟨vs, h3, _⟩ := A.row r hr
    exact ⟨_, h3⟩
end
theorem St.step {G : Cg} {n n' : Nat} {B H B' H' : Hp} {ρ : List Sl} {σ : L2.St} (S : St G n B H ρ σ) (m : Mv G.pn B H B' H') (pk : Pk G.pn n' B' H') : St G n' B' H' ρ σ := by
  refine ⟨S.mv.trans m, pk, S.len, fun i d h => ?_, fun i ds h => ?_, fun i ks h => ?_, S.dis, S.mat.step m⟩
  · obtain ⟨v, h1, h2⟩ := S.val i d h
    exact ⟨v, h1, h2.mono m.b⟩
  · obtain ⟨l, vs, h1, h2, h3, h4, h5⟩ := S.own i ds h
    exact ⟨l, vs, h1, m.kp.at_ h5 h2, h3, h4.mono m.b, h5.mv m h2⟩
  · obtain ⟨l, vs, h1, h2, h4, h5⟩ := S.dow i ks h
    exact ⟨l, vs, h1, m.kp.at_ h5 h2, h4.mono m.b, h5.mv m h2⟩
theorem St.sub {G : Cg} {n : Nat} {B H : Hp} {ρ : List Sl} {σ : L2.St} (S : St G n B H ρ σ) : Same B H := S.mv.s
/-- what is new is told later -/
theorem Mv.tell {pn : Pn} {B H B' H' : Hp} {l : Addr} {o : HO} (m : Mv pn B H B' H') (hB : B' l = none) (hl : H' l = some o) (hH : H l = none) (nt : notTb o := by trivial) : Mv pn B H (upd B' l o) H' := by
  refine ⟨m.kp, m.b.trans (same_new hB), fun b u h => ?_, fun x v u h n ntu => ?_, fun x ps h => ?_, m.u⟩
  · by_cases z : b = l
    · subst z
      rw [upd_same] at h
      rw [hl, ← h]
    · rw [upd_ne z] at h
      exact m.s _ _ h
  · rw [upd_ne (fun z => by rw [z, hH] at n; cases n)] at h
    exact m.f _ _ _ h n ntu
  · by_cases z : x = l
    · subst z
      rw [upd_same] at h
      cases h
      exact absurd nt (fun z => z)
    · rw [upd_ne z] at h
      exact m.t _ _ h
theorem Pk.tell {pn : Pn} {n : Nat} {B H : Hp} {l : Addr} {o : HO} (h : Pk pn n B H) (hH : H l = some o) (hl : ∀ p c T, pn = some (p, c, T) → l ≠ p) (nt : notTb o := by trivial) : Pk pn n (upd B l o) H := by
  cases pn with
  | none => trivial
  | some pc =>
    obtain ⟨h1, h2, h3, h4, h5, ys, h6⟩ := h
    refine ⟨h1, ?_, h3, fun b ps q => ?_, h5, ?_⟩
    · rw [upd_ne (Ne.symm (hl pc.1 pc.2.1 pc.2.2 rfl))]
      exact h2
    · by_cases z : b = l
      · subst z
        rw [upd_same] at q
        cases q
        exact absurd nt (fun z => z)
      · rw [upd_ne z] at q
        exact h4 _ _ q
    · by_cases z : pc.2.1 = l
      · obtain ⟨t, x, xs, _, g2, _⟩ := h1
        exact ⟨xs.map V.int, by rw [z, upd_same, ← hH, ← z, g2]⟩
      · exact ⟨ys, by rw [upd_ne z]; exact h6⟩
/-! ### exceptions -/
/-- an exception of the class at cv, its own dict at dd -/
def ExR (G : Cg) (B : Hp) (cv : Value) (dd : Option Addr) (x : Exn) : Prop :=
  G.ex x.cls = some cv ∧ match dd with
    | some a => FsAt G.K B a x.fs
    | none => x.fs = []
abbrev QE := D → Nat → Prop
abbrev XQ := Exn → Nat → Prop
abbrev WE := List Sl → Nat → XQ → QE → Prop
abbrev WN := List Sl → Nat → XQ → (List PyData → Nat → Prop) → Prop
abbrev WL := List Sl → Nat → XQ → (Bool → List PyData → Nat → Prop) → Prop
abbrev WA := List Sl → Nat → XQ → (List D → Nat → Prop) → Prop
abbrev WT := List Sl → Nat → XQ → (Bool → Nat → Prop) → Prop
def XW (G : Cg) (σ : L2.St) (B H : Hp) (E : XQ) : Prop :=
  ∀ x n' cv dd B' H', Mv G.pn B H B' H' → Pk G.pn n' B' H' → ExR G B' cv dd x → E x n' → G.xe cv dd σ H'
theorem XW.step {G : Cg} {σ : L2.St} {B H B1 H1 : Hp} {E : XQ} (h : XW G σ B H E) (m : Mv G.pn B H B1 H1) : XW G σ B1 H1 E :=
  fun x n' cv dd B' H' m' pk e q => h x n' cv dd B' H' (m.trans m') pk e q
theorem XW.none {G : Cg} {σ : L2.St} {B H : Hp} : XW G σ B H (fun _ _ => False) := fun _ _ _ _ _ _ _ _ _ q => q.elim
/-- a part of the heap, the pen and the tables not in it: to be looked at -/
def Lk (G : Cg) (Bf H : Hp) : Prop := Same Bf H ∧ ∀ p c T, G.pn = some (p, c, T) → Bf p = none ∧ ∀ b ps, Bf b ≠ some (.tbl ps)
theorem Lk.step {G : Cg} {Bf H H' : Hp} (h : Lk G Bf H) (k : Kp G.pn H H') : Lk G Bf H' := by
  refine ⟨fun b o hb => ?_, h.2⟩
  cases e : G.pn with
  | none =>
    rw [e] at k
    exact k _ _ (h.1 _ _ hb)
  | some pc =>
    rw [e] at k
    obtain ⟨h1, h2⟩ := h.2 pc.1 pc.2.1 pc.2.2 e
    refine k.1 _ _ (fun z => ?_) ?_ (h.1 _ _ hb)
    · rw [← z, hb] at h1
      cases h1
    · cases o with
      | tbl ps => exact absurd hb (h2 b ps)
      | _ => trivial
theorem Lk.of {G : Cg} {n : Nat} {B H : Hp} (s : Same B H) (pk : Pk G.pn n B H) : Lk G B H := ⟨s, fun p c T e => by
  rw [e] at pk
  exact ⟨pk.2.1, pk.2.2.2.1⟩⟩
/-- a tuple that is told, a list that stands -/
def SqB (K : PySem.W.Frag) (k : Bool) (l : Addr) (vs : List V) (B H : Hp) : Prop := if k = true then SqT K B l vs else H l = some (.lst vs)
/-! ### judgements -/
/-- the value's datum holds in what is told -/
def Snd (G : Cg) (t : TE) (w : WE) : Prop := ∀ ρ σ n B H E (Qd : QE) (Q : VK), St G n B H ρ σ → w ρ n E Qd → XW G σ B H E →
  (∀ v d n' B' H', Mv G.pn B H B' H' → Pk G.pn n' B' H' → R G B' v d → Qd d n' → Q v H') → t σ H Q
/-- .. holds in the heap: to be looked at -/
def SndF (G : Cg) (t : TE) (w : WE) : Prop := ∀ ρ σ n B H E (Qd : QE) (Q : VK), St G n B H ρ σ → w ρ n E Qd → XW G σ B H E →
  (∀ v d n' B' H' Bf, Mv G.pn B H B' H' → Pk G.pn n' B' H' → Lk G Bf H' → R G Bf v d → Qd d n' → Q v H') → t σ H Q
/-- a list of its own -/
def SndN (G : Cg) (t : TE) (w : WN) : Prop := ∀ ρ σ n B H E (Qd : List PyData → Nat → Prop) (Q : VK), St G n B H ρ σ → w ρ n E Qd → XW G σ B H E →
  (∀ l vs ds n' B' H', Mv G.pn B H B' H' → Pk G.pn n' B' H' → H l = none → Free G B' l → H' l = some (.lst vs) → vs.length ≤ sizeLine → DdA G.K B' vs ds → Qd ds n' → Q (.ref l) H') → t σ H Q
/-- the items of a list (false) or a tuple (true) -/
def SndL (G : Cg) (t : TE) (w : WL) : Prop := ∀ ρ σ n B H E (Qd : Bool → List PyData → Nat → Prop) (Q : VK), St G n B H ρ σ → w ρ n E Qd → XW G σ B H E →
  (∀ l vs k ds n' B' H', Mv G.pn B H B' H' → Pk G.pn n' B' H' → SqB G.K k l vs B' H' → vs.length ≤ sizeLine → DdA G.K B' vs ds → Qd k ds n' → Q (.ref l) H') → t σ H Q
def SndA (G : Cg) (t : TA) (w : WA) : Prop := ∀ ρ σ n B H E (Qd : List D → Nat → Prop) (Q : List V → Hp → Prop), St G n B H ρ σ → w ρ n E Qd → XW G σ B H E →
  (∀ vs ds n' B' H', Mv G.pn B H B' H' → Pk G.pn n' B' H' → RA G B' vs ds → Qd ds n' → Q vs H') → t σ H Q
def SndT (G : Cg) (t : TT) (w : WT) : Prop := ∀ ρ σ n B H E (Qd : Bool → Nat → Prop) (Q : Bool → Hp → Prop), St G n B H ρ σ → w ρ n E Qd → XW G σ B H E →
  (∀ b n' B' H', Mv G.pn B H B' H' → Pk G.pn n' B' H' → Qd b n' → Q b H') → t σ H Q
structure BE (X : Cx) (G : Cg) (e : Expr) (t : TE) (w : WE) : Prop where
  pe : PE X e t
  snd : Snd G t w
structure BF (X : Cx) (G : Cg) (e : Expr) (t : TE) (w : WE) : Prop where
  pe : PE X e t
  snd : SndF G t w
structure BN (X : Cx) (G : Cg) (e : Expr) (t : TE) (w : WN) : Prop where
  pe : PE X e t
  snd : SndN G t w
structure BL (X : Cx) (G : Cg) (e : Expr) (t : TE) (w : WL) : Prop where
  pe : PE X e t
  snd : SndL G t w
structure BA (X : Cx) (G : Cg) (es : List Expr) (t : TA) (w : WA) : Prop where
  pe : PA X es t
  snd : SndA G t w
structure BT (X : Cx) (G : Cg) (e : Expr) (t : TT) (w : WT) : Prop where
  pe : PT X e t
  snd : SndT G t w
section
variable {X : Cx} {G : Cg} {ex : Expr} {t : TE}
theorem BE.f {w : WE} (h : BE X G ex t w) : BF X G ex t w := ⟨h.pe, fun ρ σ n B H E Qd Q S hw x k => h.snd ρ σ n B H E Qd Q S hw x fun v d n' B' H' m pk r q => k v d n' B' H' B' m pk (.of m.s pk) r q⟩
def wOfN (w : WN) : WE := fun ρ n E Q => w ρ n E fun ds n' => Q (.py (.list ds)) n'
theorem BN.e {w : WN} (h : BN X G ex t w) : BE X G ex t (wOfN w) := ⟨h.pe, fun ρ σ n B H E Qd Q S hw x k => h.snd ρ σ n B H E _ Q S hw x fun l vs ds n' B' H' m pk hl fr hl' hz r q =>
  k (.ref l) _ n' (upd B' l (.lst vs)) H' (m.tell fr.1 hl' hl) (pk.tell hl' fun p c T e => (fr.2.2 p c T e).1) (r_lst upd_same (r.mono (same_new fr.1)) hz) q⟩
def wOfE (w : WE) : WL := fun ρ n E Q => w ρ n E fun d n' => match d with
  | .py (.list ds) => Q false ds n'
  | .py (.tuple ds) => Q true ds n'
  | _ => False
theorem BE.l {w : WE} (h : BE X G ex t w) : BL X G ex t (wOfE w) := ⟨h.pe, fun ρ σ n B H E Qd Q S hw x k => h.snd ρ σ n B H E _ Q S hw x fun v d n' B' H' m pk r q => by
  match d, r, q with
  | .py (.list ds), r, q =>
    obtain ⟨a, xs, rfl, h1, h2, h3⟩ := dd_list r
    exact k a xs false ds n' B' H' m pk (m.s _ _ h1) h3 h2 q
  | .py (.tuple ds), r, q =>
    obtain ⟨a, xs, rfl, h1, h2, h3⟩ := dd_tup r
    exact k a xs true ds n' B' H' m pk h1 h3 h2 q⟩
/-- the items, as a list that stands by itself -/
theorem BN.l {w : WN} (h : BN X G ex t w) : BL X G ex t (fun ρ n E Q => w ρ n E fun ds n' => Q false ds n') := ⟨h.pe, fun ρ σ n B H E Qd Q S hw x k => h.snd ρ σ n B H E _ Q S hw x fun l vs ds n' B' H' m pk hl fr hl' hz r q =>
  k l vs false ds n' B' H' m pk hl' hz r q⟩
end
end Fv
set_option maxRecDepth 100000
set_option maxHeartbeats 4000000
/-! Rules that the layer has not. -/
namespace Gb
open PySem PySem.Spec PyProof.Rows L2
theorem nd_len {α : Type} [DecidableEq α] : ∀ {l m : List α}, l.Nodup → (∀ x ∈ l, x ∈ m) → l.length ≤ m.length
  | [], _, _, _ => Nat.zero_le _
  | a :: l, m, hn, hs => by
    obtain ⟨h1, h2⟩ := List.nodup_cons.mp hn
    have ha := hs a List.mem_cons_self
    have ih := nd_len (l := l) (m := m.erase a) h2 fun x hx => by
      have hne : x ≠ a := fun e => h1 (e ▸ hx)
      exact (List.mem_erase_of_ne hne).mpr (hs x (List.mem_cons_of_mem _ hx))
    have := List.length_erase_of_mem ha
    have hpos := List.length_pos_of_mem ha
    rw [List.length_cons]
    omega
section
variable {X : Cx} {Kx : PySem.W.Frag} {a b c d e : Expr} {ta tb tc td te : TE} {p p2 q pos : Pos}
/-- len(set(xs)), xs a list of unlike tuples of ints, fewer than 64 -/
def tLenSetT (K : PySem.W.Frag) (ta : TE) : TE := fun σ H Q => ta σ H fun x H1 => ∃ (l : Addr) (ks : List (Addr × List Int)), x = .ref l ∧ SqL K H1 l (ks.map fun z => V.ref z.1) ∧ (∀ z ∈ ks, SqT K H1 z.1 (z.2.map V.int)) ∧ ks.length < 64 ∧ (ks.map (·.2)).Nodup ∧ Q (.int ks.length) H1
/-- a < b < c < d -/
def tChain3 (r1 r2 r3 : R2) (ta tb tc td : TE) : TE := fun σ H Q => ta σ H fun x H1 => tb σ H1 fun y H2 => r1 x y H2 fun z H3 => ∃ k, z = .bl k ∧
  (if k = true then tc σ H3 fun u H4 => r2 y u H4 fun z2 H5 => ∃ k2, z2 = .bl k2 ∧ (if k2 = true then td σ H5 fun v H6 => r3 u v H6 Q else Q (.bl false) H5) else Q (.bl false) H3)
theorem pe_chain3 {o1 o2 o3 : CmpOp} {r1 r2 r3 : R2} (h1 : OpR X (compareOp o1) r1) (h2 : OpR X (compareOp o2) r2) (h3 : OpR X (compareOp o3) r3) (ha : PE X a ta) (hb : PE X b tb) (hc : PE X c tc) (hd : PE X d td)
    (hm : lastMarks [o1, o2, o3] [b, c, d] = false := by with_unfolding_all rfl) : PE X (.Compare a [o1, o2, o3] [b, c, d] pos) (tChain3 r1 r2 r3 ta tb tc td) := by
  refine ⟨fun pins s σ H Q I h => ?_⟩
  refine Compare_chain (thn (ha.run pins s σ H _ I h) fun v s1 ⟨x, H1, I1, rx, q1⟩ => chain_link (thn (hb.run pins s1 σ H1 _ I1 q1) fun u s2 ⟨y, H2, I2, ry, q2⟩ =>
    thn (h1 pins s2 σ H2 x y v u _ I2 rx ry q2) fun d1 s3 ⟨z, H3, I3, r3', k, ez, q3⟩ => ?_)) hm
  subst ez
  cases r3'
  refine wpAny_truthy_bool ?_
  cases k with
  | false => exact ite_ff ⟨.bl false, H3, I3, rfl, q3⟩
  | true =>
    refine ite_tt (chain_link (thn (hc.run pins s3 σ H3 _ I3 q3) fun w' s4 ⟨z', H4, I4, r4, q4⟩ => thn (h2 pins s4 σ H4 y z' u w' _ I4 ry r4 q4) fun d2 s5 ⟨z2, H5, I5, r5, k2, e2, q5⟩ => ?_))
    subst e2
    cases r5
    refine wpAny_truthy_bool ?_
    cases k2 with
    | false => exact ite_ff ⟨.bl false, H5, I5, rfl, q5⟩
    | true => exact ite_tt (chain_last (thn (hd.run pins s5 σ H5 _ I5 q5) fun w2 s6 ⟨z3, H6, I6, r6, q6⟩ => h3 pins s6 σ H6 z' z3 w' w2 Q I6 r4 r6 q6))
/-- the callee runs, one builtin deeper -/
theorem run_fn1 {k : Nat} {f : Addr} {fd : FuncData} {ps : List Str} {sp : Sp} {pins : List (Addr × Obj)} {σ : L2.St} {H : Hp} {s : Shared} {Q : VK} {us : List Value} {vs : List V} (F : FnOk X.prog X.w X.K X.mg X.base CX0 k f fd ps sp) (hr : Room (k + 1) X.A) (hb : Binds X.K fd ps [])
    (I : Inv X pins σ H s) (r : Vals vs us) (h : sp vs H Q E0) : wpAny (model X.prog X.w) X.A.in1 (call (.ref f) us) (EP X pins σ Q) X.xe s := by
  have hl : (us ++ []).length = ps.length := by
    rw [List.append_nil, ← r.length]
    exact F.len _ _ _ _ h
  have hB := hb s us I.kIn hl
  rw [List.append_nil] at hB
  refine wpAny_call (codeAny_mono (F.run X.A.in1 X.stack s H ⟨us, []⟩ us vs Q E0 hr.in1 I.env0.in1 hB r h) fun r s' hq => ?_)
  cases r with
  | error e => exact (show False from hq).elim
  | ok fl =>
    cases fl with
    | ret u => exact I.after hq
    | next => exact False.elim hq
    | brk => exact False.elim hq
    | cont => exact False.elim hq
/-- len(o), o of a class with its own __len__ -/
def rLenO (C : Addr) (sp : Sp) : List V → Hp → VK → Prop := fun xs H Q => ∃ x dx fs, xs = [V.ref x] ∧ H x = some (.ins C dx fs) ∧ sp [V.ref x] H (fun v H' => ∃ n : Nat, v = .int n ∧ n < 2 ^ 60 ∧ Q (.int n) H') E0
theorem call_lenO {C f : Addr} {k : Nat} {fd : FuncData} {ps : List Str} {sp : Sp} (hM : Meth X.K C "__len__" f) (F : FnOk X.prog X.w X.K X.mg X.base CX0 k f fd ps sp) (hr : Room (k + 1) X.A) (hb : Binds X.K fd ps []) : CallR X (.builtin "len") (rLenO C sp) := by
  intro pins s σ H xs us Q I r h
  obtain ⟨x, dx, fs, rfl, hx, h⟩ := h
  rw [Vals.ref1 r]
  obtain ⟨mA, O, _⟩ := ins_get I.hok hx
  obtain ⟨od, J, _⟩ := O.look
  obtain ⟨m, hF⟩ := I.fr
  refine PySem.W.len_K hF I.ok.mod.kin J hM.at_ hM.fn ?_
  refine wpAny_mono (run_fn1 (us := [.ref x]) (vs := [.ref x]) F hr hb I (.cons rfl .nil) h) (fun w s' z => ?_) fun _ _ y => y
  obtain ⟨v, H', I', rv, n, rfl, hn, q⟩ := z
  obtain ⟨t, rfl⟩ := rv
  exact ⟨⟨by omega, by omega⟩, ⟨.int n, H', I'.tok _, ⟨_, rfl⟩, q⟩⟩
/-- xs[i] += v -/
def rGetN (K : PySem.W.Frag) : V → V → Hp → VK → Prop := fun x y H Q => ∃ (l : Addr) (xs : List V) (j : Nat) (z : V), x = .ref l ∧ y = .int (j : Int) ∧ SqL K H l xs ∧ xs[j]? = some z ∧ Q z H
theorem pget_list (hK : X.K = Kx := by rfl) : PGet X (rGetN Kx) := by
  subst hK
  intro pins s σ H x y v u Q I rx ry h
  obtain ⟨l, xs, j, z, rfl, rfl, hq, he, q⟩ := h
  cases rx
  obtain ⟨t, rfl⟩ := ry
  obtain ⟨its, r, pl, hz⟩ := I.list hq
  obtain ⟨w, ew, rw'⟩ := r.get he
  have hj := (List.getElem?_eq_some_iff.mp he).1
  have hn := line63
  have fin : EP X pins σ Q w s := ⟨z, H, I, rw', q⟩
  exact wpAny_getItem_list pl.isList (by omega) (by omega) (by simpa using ew) fin
theorem ps_augIx {o i e : Expr} {to ti te : TE} {tpos ppos : Pos} (ho : PE X o to) (hi : PE X i ti) (he : PE X e te) (hK : X.K = Kx := by rfl)
    (h1 : ∀ ov iv new, augStore i ov iv new = (do holding [new, ov, iv] (setItem ov iv new); release [new, ov, iv] []; pure .next) := by intros; rfl) :
    PS X (.AugAssign (.Subscript o i tpos) .Add e ppos) (tAugS to ti te (rGetN Kx) (ipI fun i j => i + j) rSetL) := by
  subst hK
  exact ps_augS ho hi pget_list he ip_add set_list h1
end
end Gb
set_option maxRecDepth 100000
set_option maxHeartbeats 4000000
/-! zip of a list and a tuple; a tuple backwards; the greatest and the least of a tuple. -/
namespace Gb
open PySem PySem.Spec PyProof.Rows L2
/-- the list at a and the tuple at b as they stand at each turn, the items in new pairs -/
def ItLT (K : PySem.W.Frag) (a b : Addr) : It :=
  ⟨fun i H => ∃ (xs ys : List V) (x y : V), SqL K H a xs ∧ SqT K H b ys ∧ xs[i]? = some x ∧ ys[i]? = some y,
    fun i H v H' => ∃ T x y, v = .ref T ∧ H T = none ∧ H' = upd H T (.tup [x, y]) ∧ (∀ xs, SqL K H a xs → xs[i]? = some x) ∧ ∀ ys, SqT K H b ys → ys[i]? = some y,
    fun i H => ∃ xs ys : List V, SqL K H a xs ∧ SqT K H b ys ∧ i ≤ xs.length ∧ i ≤ ys.length ∧ (i = xs.length ∨ i = ys.length)⟩
theorem turn_zipLT {P : Program} {w : World} {K : PySem.W.Frag} {elts : List Expr} {kk : Nat} {tpos : Pos} {a b z TI TO i1 i2 : Addr} (S : ZipSep2 z TI TO i1 i2 [i1, a] [i2, b]) (na : a ≠ i1) (nb : b ≠ i2) :
    Turn P w K (.Tuple elts kk tpos) (ItLT K a b) [z, TI, TO, i1, i2] z (fun i h => IsZip h z TI TO .none ∧ IsTupOf2 h TI (.ref i1) (.ref i2) ∧ (∃ x y, IsTupOf2 h TO x y) ∧ h.IsListIter i1 a i ∧ h.IsTupleIter i2 b i) where
  mem := List.mem_cons_self
  obj := by
    rintro i h ⟨hz, hTI, ⟨x, y, hTO⟩, ⟨o1, e1, c1, d1⟩, ⟨o2, e2, c2, d2⟩⟩ c hc
    simp only [List.mem_cons, List.not_mem_nil, or_false] at hc
    rcases hc with rfl | rfl | rfl | rfl | rfl
    · exact ⟨_, hz, fun v q => nomatch q⟩
    · exact ⟨_, hTI, fun v q => nomatch q⟩
    · exact ⟨_, hTO, fun v q => nomatch q⟩
    · exact ⟨o1, e1, fun v q => by rw [d1] at q; cases q⟩
    · exact ⟨o2, e2, fun v q => by rw [d2] at q; cases q⟩
  keep := by
    rintro i h h' ⟨hz, hTI, ⟨x, y, hTO⟩, h1, h2⟩ k
    exact ⟨k z (by simp) _ hz, k TI (by simp) _ hTI, ⟨x, y, k TO (by simp) _ hTO⟩, h1.at fun o q => k i1 (by simp) o q, h2.at fun o q => k i2 (by simp) o q⟩
  item := by
    rintro X rfl rfl rfl hc i pins s σ H E I hf ⟨hz, hTI, ⟨x0, y0, hTO⟩, h1, h2⟩ ⟨xs, ys, x, y, hqx, hqy, hx, hy⟩
    obtain ⟨its, rv, p, _⟩ := I.list hqx
    obtain ⟨its2, rv2, p2, _⟩ := I.tuple hqy
    obtain ⟨u, hu, ru⟩ := rv.get hx
    obtain ⟨u2, hu2, ru2⟩ := rv2.get hy
    have hzl : z < s.heap.objs.size := Heap.lt_size hz
    have hh : X.A.in1.handled = none := I.ok.hd hc
    have l1 : i < its.toArray.size := by
      have := (List.getElem?_eq_some_iff.mp hu).1
      rw [List.size_toArray]
      exact this
    have l2 : i < its2.toArray.size := by
      have := (List.getElem?_eq_some_iff.mp hu2).1
      rw [List.size_toArray]
      exact this
    refine wpAny_pyNext_zipD2_item S (Draws.list hh i1 a na its.toArray) (Draws.tuple hh i2 b nb its2.toArray) hz hTI hTO ⟨h1, p.isList⟩ ⟨h2, p2⟩ l1 l2 fun x1 x2 h' tk e1 e2 z' TO' st1 st2 hT hsz hk => ?_
    have ex1 : x1 = u := by
      have q : its[i]? = some x1 := by simpa using e1
      rw [hu] at q
      exact (Option.some.inj q).symm
    have ex2 : x2 = u2 := by
      have q : its2[i]? = some x2 := by simpa using e2
      rw [hu2] at q
      exact (Option.some.inj q).symm
    subst ex1 ex2
    refine ⟨_, rfl, wpAny_letOwnedTupleGo_zip (s := { s with heap := h', toks := tk }) z' fun h'' z'' sb => ?_⟩
    have hT2 : h''.get? s.heap.objs.size = some { cls := .type "tuple", data := .seq #[x1, x2] } := (sb.2 _ (Nat.ne_of_gt hzl)).trans hT
    have nt : ObjOk X.prog X.w (upd H s.heap.objs.size (.tup [x, y])) h'' s.heap.objs.size (.tup [x, y]) := ⟨by show 2 ≤ sizeLine; decide, [x1, x2], .cons ru (.cons ru2 .nil), ⟨_, hT2, rfl, _, rfl⟩⟩
    have J : Inv X pins σ (upd H s.heap.objs.size (.tup [x, y])) { s with heap := h'', toks := tk } :=
      I.turnedNew (t' := tk) (ch := [z, TI, TO, i1, i2]) (fun c o hb q => (sb.2 c fun q' => hb (by simp [q'])).trans (hk c o (fun q' => hb (by simp [q'])) (fun q' => hb (by simp [q'])) (fun q' => hb (by simp [q'])) (fun q' => hb (by simp [q'])) q)) hf (Nat.le_refl _) nt
    have hn : H s.heap.objs.size = none := I.hok.fresh (Nat.le_refl _)
    refine ⟨.ref s.heap.objs.size, _, J, rfl, ⟨_, x, y, rfl, hn, rfl, fun l hl => by rw [I.list_inj hl hqx]; exact hx, fun l hl => by rw [I.tuple_inj hl hqy]; exact hy⟩, ⟨z'', ?_, ⟨x1, x2, (sb.2 _ S.TOz).trans TO'⟩, ?_, ?_⟩, fun c hcm => ?_⟩
    · exact (sb.2 _ S.TIz).trans (hk _ _ S.TIz S.TITO S.TIi1 S.TIi2 hTI)
    · exact st1.1.at fun o q => (sb.2 _ S.zi1.symm).trans q
    · exact st2.1.at fun o q => (sb.2 _ S.zi2.symm).trans q
    · have hlt : c < s.heap.objs.size := by
        have q := (hf c hcm)
        obtain ⟨o1, e1', _⟩ := h1
        obtain ⟨o2, e2', _⟩ := h2
        simp only [List.mem_cons, List.not_mem_nil, or_false] at hcm
        rcases hcm with rfl | rfl | rfl | rfl | rfl
        · exact hzl
        · exact Heap.lt_size hTI
        · exact Heap.lt_size hTO
        · exact Heap.lt_size e1'
        · exact Heap.lt_size e2'
      rw [upd_ne (Nat.ne_of_lt hlt)]
      exact (hf c hcm).1
  done := by
    rintro X rfl rfl rfl hc i pins s σ H E I hf ⟨hz, hTI, ⟨x0, y0, hTO⟩, h1, h2⟩ ⟨xs, ys, hqx, hqy, le1, le2, hend⟩
    obtain ⟨its, rv, p, _⟩ := I.list hqx
    obtain ⟨its2, rv2, p2, _⟩ := I.tuple hqy
    have l1 : its.toArray.size = xs.length := by rw [List.size_toArray, rv.length]
    have l2 : its2.toArray.size = ys.length := by rw [List.size_toArray, rv2.length]
    have hh : X.A.in1.handled = none := I.ok.hd hc
    refine wpAny_pyNext_zipD2_end S (Draws.list hh i1 a na its.toArray) (Draws.tuple hh i2 b nb its2.toArray) hz hTI hTO ⟨h1, p.isList⟩ ⟨h2, p2⟩ (by omega) (by omega) (by omega) fun h' tk hk => ⟨rfl, ?_⟩
    exact I.turnedL (t' := tk) (ch := [z, TI, TO, i1, i2]) (fun c o hb q => hk c o (fun q' => hb (by simp [q'])) (fun q' => hb (by simp [q'])) (fun q' => hb (by simp [q'])) (fun q' => hb (by simp [q'])) q) hf
  self := fun A i s Q E st h => wpAny_pyIter_zip st.1 h
theorem zip_apart {n a b : Nat} (la : a < n) (lb : b < n) : ZipSep2 (n + 4) (n + 2) (n + 3) n (n + 1) [n, a] [n + 1, b] := by
  have nm : ∀ {x u v : Nat}, x ≠ u → x ≠ v → x ∉ [u, v] := fun h1 h2 h => by
    rcases List.mem_cons.mp h with e | h
    · exact h1 e
    · exact h2 (List.mem_singleton.mp h)
  have ne : ∀ {i j : Nat}, i ≠ j → n + i ≠ n + j := fun h e => h (Nat.add_left_cancel e)
  have n0 : ∀ {i : Nat}, i ≠ 0 → n + i ≠ n := fun h e => h (Nat.add_left_cancel (k := 0) (e.trans (Nat.add_zero n).symm))
  have ga : ∀ i, n + i ≠ a := fun i e => Nat.lt_irrefl a (Nat.lt_of_lt_of_le la (e ▸ Nat.le_add_right n i))
  have gb : ∀ i, n + i ≠ b := fun i e => Nat.lt_irrefl b (Nat.lt_of_lt_of_le lb (e ▸ Nat.le_add_right n i))
  have n0' : ∀ {i : Nat}, i ≠ 0 → n ≠ n + i := fun h => Ne.symm (n0 h)
  have ga0 : n ≠ a := ga 0
  have gb0 : n ≠ b := gb 0
  constructor <;> first | exact List.mem_cons_self | exact ne (by decide) | exact n0 (by decide) | exact n0' (by decide) | exact nm (n0 (by decide)) (ga _) | exact nm (ne (by decide)) (gb _) | exact nm (n0' (by decide)) gb0 | exact nm (n0 (by decide)) (ga 1)
def iZipLT (K : PySem.W.Frag) (ta : TA) : TI := fun σ H R => ta σ H fun vs H1 => ∃ a b xs ys, vs = [.ref a, .ref b] ∧ SqL K H1 a xs ∧ SqT K H1 b ys ∧ R (ItLT K a b) H1
theorem pi_zipLT {X : Cx} {Kx : PySem.W.Frag} {e e2 : Expr} {ta : TA} {p pos tpos : Pos} {elts : List Expr} {kk : Nat} (hg : Gl X "zip") (hm : X.mg "zip" = none) (ha : PA X [e, e2] ta) (hK : X.K = Kx := by rfl)
    (hs : starEach [e, e2] X.env = (false, eval e X.env) :: starEach [e2] X.env := by rfl) (hpl : (backTo pos (starEach [e2] X.env)).any (·.1) = false := by rfl) :
    PI X (.Tuple elts kk tpos) (.Call (.Name "zip" p) [e, e2] [] pos) (iZipLT Kx ta) := by
  subst hK
  refine ⟨fun pins s σ H R I h => ?_⟩
  refine Call_ (ld_blt I hg hm PyProof.Rows.boot_zip (PyProof.Rows.callWith_type1 (thn (ha.run pos pins s σ H _ I h) fun us s1 ⟨vs, H1, I1, r1, q1⟩ => ?_) hs hpl))
  obtain ⟨a, b, xs, ys, ex, hqx, hqy, q⟩ := q1
  subst ex
  obtain ⟨u1, u2, rfl, r, r'⟩ := Vals.two r1
  obtain rfl : u1 = Value.ref a := r
  obtain rfl : u2 = Value.ref b := r'
  · skip
    obtain ⟨its, rv, p1, _⟩ := I1.list hqx
    obtain ⟨its2, rv2, p2, _⟩ := I1.tuple hqy
    obtain ⟨o2, ho2, _⟩ := id p2
    have la : a < s1.heap.objs.size := p1.lt
    have lb : b < s1.heap.objs.size := Heap.lt_size ho2
    refine zip_begins2 (begins_list a its.toArray) (begins_tuple b its2.toArray) p1.isList p2 fun h' hz hTI hTO h1 h2 hsz hk => wpAny_pyIter_zip hz ?_
    have I2 : Inv X pins σ H1 { s1 with heap := h' } := I1.kept (t' := s1.toks) hk
    have S : ZipSep2 (s1.heap.objs.size + 4) (s1.heap.objs.size + 2) (s1.heap.objs.size + 3) s1.heap.objs.size (s1.heap.objs.size + 1) [s1.heap.objs.size, a] [s1.heap.objs.size + 1, b] := zip_apart la lb
    refine ⟨s1.heap.objs.size + 4, [s1.heap.objs.size + 4, s1.heap.objs.size + 2, s1.heap.objs.size + 3, s1.heap.objs.size, s1.heap.objs.size + 1], _, _, H1, rfl, I2, turn_zipLT S (Nat.ne_of_lt la) (Nat.ne_of_lt (Nat.lt_succ_of_lt lb)), ⟨hz, hTI, ⟨_, _, hTO⟩, ⟨_, h1, rfl, rfl⟩, ⟨_, h2, rfl, rfl⟩⟩, fun c hcm => ?_, q⟩
    have hle : s1.heap.objs.size ≤ c := by
      simp only [List.mem_cons, List.not_mem_nil, or_false] at hcm
      rcases hcm with e | e | e | e | e <;> rw [e]
      · exact Nat.le_add_right _ _
      · exact Nat.le_add_right _ _
      · exact Nat.le_add_right _ _
      · exact Nat.le_refl _
      · exact Nat.le_add_right _ _
    exact I1.fpOk hle (I1.hok.fresh hle)
end Gb
set_option maxRecDepth 100000
set_option maxHeartbeats 4000000
/-! max(t), min(t), t a tuple of ints. -/
namespace Gb
open PySem PySem.Spec PyProof.Rows L2
section
variable {X : Cx} {Kx : PySem.W.Frag}
def rMaxT (K : PySem.W.Frag) : List V → Hp → VK → Prop := fun vs H Q => ∃ (a : Addr) (ns : List Int), vs = [V.ref a] ∧ SqT K H a (ns.map V.int) ∧ 0 < ns.length ∧ ∀ m, m ∈ ns → (∀ y, y ∈ ns → y ≤ m) → Q (.int m) H
def rMinT (K : PySem.W.Frag) : List V → Hp → VK → Prop := fun vs H Q => ∃ (a : Addr) (ns : List Int), vs = [V.ref a] ∧ SqT K H a (ns.map V.int) ∧ 0 < ns.length ∧ ∀ m, m ∈ ns → (∀ y, y ∈ ns → m ≤ y) → Q (.int m) H
end
end Gb
set_option maxRecDepth 100000
set_option maxHeartbeats 4000000
/-! Rules of expressions. -/
namespace Fv
open PySem PySem.Spec PyProof.Rows L2 Gb
section
variable {X : Cx} {G : Cg} {a b c d e f : Expr} {ta tb tc td te : TE} {wa wb wc wd we : WE} {pos : Pos} {x : Str}
/-! ### names, constants -/
def wName (i : Nat) : WE := fun ρ n _ Q => match ρ[i]? with
  | some (.val d) => Q d n
  | _ => False
theorem be_nm (i : Nat) (h : PE X a (tVar i)) : BE X G a (tVar i) (wName i) := ⟨h, fun ρ σ n B H E Qd Q S hw _ k => by
  unfold wName at hw
  match hr : ρ[i]?, hw with
  | some (.val d), hw =>
    obtain ⟨v, h1, h2⟩ := S.val i d hr
    exact ⟨v, h1, k v d n B H (Mv.refl S.sub) S.pk h2 hw⟩⟩
theorem _root_.Fv.Free.lk {G : Cg} {n : Nat} {B H : Hp} {l : Addr} {o : HO} (h : Free G B l) (s : Same B H) (pk : Pk G.pn n B H) (hl : H l = some o) (nt : notTb o := by trivial) : Lk G (upd B l o) H := by
  refine ⟨fun b u hb => ?_, fun p c T e => ?_⟩
  · by_cases z : b = l
    · subst z
      rw [upd_same] at hb
      rw [hl, ← hb]
    · rw [upd_ne z] at hb
      exact s _ _ hb
  · rw [e] at pk
    refine ⟨by rw [upd_ne (Ne.symm (h.2.2 p c T e).1)]; exact pk.2.1, fun b ps q => ?_⟩
    by_cases z : b = l
    · subst z
      rw [upd_same] at q
      cases q
      exact absurd nt (fun z => z)
    · rw [upd_ne z] at q
      exact pk.2.2.2.1 _ _ q
/-- a list of one's own, looked at -/
def wOwn (i : Nat) : WE := fun ρ n _ Q => match ρ[i]? with
  | some (.own ds) => Q (.py (.list ds)) n
  | some (.dow ks) => Q (.py (.dict ks)) n
  | _ => False
theorem bf_own (i : Nat) (h : PE X a (tVar i)) : BF X G a (tVar i) (wOwn i) := ⟨h, fun ρ σ n B H E Qd Q S hw _ k => by
  unfold wOwn at hw
  match hr : ρ[i]?, hw with
  | some (.own ds), hw =>
    obtain ⟨l, vs, h1, h2, h3, h4, h5⟩ := S.own i ds hr
    exact ⟨.ref l, h1, k _ _ n B H (upd B l (.lst vs)) (Mv.refl S.sub) S.pk (h5.lk S.sub S.pk h2) (r_lst upd_same (h4.mono (same_new h5.1)) h3) hw⟩
  | some (.dow ks), hw =>
    obtain ⟨l, vs, h1, h2, h4, h5⟩ := S.dow i ks hr
    exact ⟨.ref l, h1, k _ _ n B H (upd B l (.dK vs)) (Mv.refl S.sub) S.pk (h5.lk S.sub S.pk h2) (r_dic upd_same (h4.mono (same_new h5.1))) hw⟩⟩
def wOwnL (i : Nat) : WL := fun ρ n _ Q => match ρ[i]? with
  | some (.own ds) => Q false ds n
  | _ => False
theorem bl_own (i : Nat) (h : PE X a (tVar i)) : BL X G a (tVar i) (wOwnL i) := ⟨h, fun ρ σ n B H E Qd Q S hw _ k => by
  unfold wOwnL at hw
  match hr : ρ[i]?, hw with
  | some (.own ds), hw =>
    obtain ⟨l, vs, h1, h2, h3, h4, h5⟩ := S.own i ds hr
    exact ⟨.ref l, h1, k l vs false ds n B H (Mv.refl S.sub) S.pk h2 h3 h4 hw⟩⟩
def wC (z : D) : WE := fun _ n _ Q => Q z n
theorem be_c {v : V} {z : D} (h : PE X a (tC v)) (r : ∀ B, R G B v z) : BE X G a (tC v) (wC z) := ⟨h, fun ρ σ n B H E Qd Q S hw _ k => k v z n B H (Mv.refl S.sub) S.pk (r B) hw⟩
theorem be_int {i : Int} {j} : BE X G (.Constant (.int i) j pos) (tC (.int i)) (wC (.py (.int i))) := be_c pe_int fun _ => r_int
theorem be_bl {i : Bool} {j} : BE X G (.Constant (.bool i) j pos) (tC (.bl i)) (wC (.py (.bool i))) := be_c pe_bl fun _ => r_bl
theorem be_non {j} : BE X G (.Constant .none j pos) (tC .non) (wC (.py .none)) := be_c pe_non fun _ => r_non
theorem be_str {i : Str} {j} : BE X G (.Constant (.str i) j pos) (tC (.str i)) (wC (.py (.str i))) := be_c pe_str fun _ => r_str
/-- a number of the module -/
theorem be_gi {i : Int} (h : PE X a (tC (.int i))) : BE X G a (tC (.int i)) (wC (.py (.int i))) := be_c h fun _ => r_int
/-! ### operators -/
abbrev BOp := D → D → (D → Prop) → Prop
def wOp (r : BOp) (wa wb : WE) : WE := fun ρ n E Q => wa ρ n E fun x n1 => wb ρ n1 E fun y n2 => r x y fun z => Q z n2
/-- by value, from values that are told -/
def OpS (G : Cg) (r : R2) (w : BOp) : Prop := ∀ B H x y dx dy (P : D → Prop) (Q : VK), Same B H → R G B x dx → R G B y dy → w dx dy P →
  (∀ v d B' H', Mv none B H B' H' → R G B' v d → P d → Q v H') → r x y H Q
theorem be_opB {r : R2} {w : BOp} {op : Operator} (ho : OpR X (binaryOp op) r) (hs : OpS G r w) (ha : BE X G a ta wa) (hb : BE X G b tb wb) : BE X G (.BinOp a op b pos) (tOp r ta tb) (wOp w wa wb) :=
  ⟨pe_op ho ha.pe hb.pe, fun ρ σ n B H E Qd Q S hw xw k => ha.snd ρ σ n B H E _ _ S hw xw fun v1 d1 n1 B1 H1 m1 pk1 r1 q1 =>
    hb.snd ρ σ n1 B1 H1 E _ _ (S.step m1 pk1) q1 (xw.step m1) fun v2 d2 n2 B2 H2 m2 pk2 r2 q2 =>
      hs B2 H2 v1 v2 d1 d2 _ _ m2.s (r1.mono m2.b) r2 q2 fun v d B' H' m r q => k v d n2 B' H' ((m1.trans m2).trans m.of) (pk2.mv m) r q⟩
def bAdd : BOp := fun x y Q => match x, y with
  | .py (.int i), .py (.int j) => Q (.py (.int (i + j)))
  | _, _ => False
theorem bs_add : OpS G (rI0 fun i j => .int (i + j)) bAdd := fun B H x y dx dy P Q sb rx ry h k => by
  match dx, dy, rx, ry, h with
  | .py (.int i), .py (.int j), rx, ry, h =>
    cases dd_int rx
    cases dd_int ry
    exact ⟨i, j, rfl, rfl, k _ _ B H (Mv.refl sb) r_int h⟩
def bSub : BOp := fun x y Q => match x, y with
  | .py (.int i), .py (.int j) => Q (.py (.int (i - j)))
  | _, _ => False
theorem bs_sub : OpS G (rI0 fun i j => .int (i - j)) bSub := fun B H x y dx dy P Q sb rx ry h k => by
  match dx, dy, rx, ry, h with
  | .py (.int i), .py (.int j), rx, ry, h =>
    cases dd_int rx
    cases dd_int ry
    exact ⟨i, j, rfl, rfl, k _ _ B H (Mv.refl sb) r_int h⟩
/-- one factor small -/
def bMul : BOp := fun x y Q => match x, y with
  | .py (.int i), .py (.int j) => CMul i j ∧ Q (.py (.int (i * j)))
  | _, _ => False
theorem bs_mul : OpS G (rI CMul fun i j => .int (i * j)) bMul := fun B H x y dx dy P Q sb rx ry h k => by
  match dx, dy, rx, ry, h with
  | .py (.int i), .py (.int j), rx, ry, h =>
    cases dd_int rx
    cases dd_int ry
    exact ⟨i, j, rfl, rfl, h.1, k _ _ B H (Mv.refl sb) r_int h.2⟩
def bMod : BOp := fun x y Q => match x, y with
  | .py (.int i), .py (.int j) => 0 < j ∧ Q (.py (.int (i % j)))
  | _, _ => False
def bDiv : BOp := fun x y Q => match x, y with
  | .py (.int i), .py (.int j) => CDiv i j ∧ Q (.py (.int (i / j)))
  | _, _ => False
def bPow : BOp := fun x y Q => match x, y with
  | .py (.int i), .py (.int j) => CPow i j ∧ Q (.py (.int (i ^ j.toNat)))
  | _, _ => False
theorem bs_pow : OpS G (rI CPow fun i j => .int (i ^ j.toNat)) bPow := fun B H x y dx dy P Q sb rx ry h k => by
  match dx, dy, rx, ry, h with
  | .py (.int i), .py (.int j), rx, ry, h =>
    cases dd_int rx
    cases dd_int ry
    exact ⟨i, j, rfl, rfl, h.1, k _ _ B H (Mv.refl sb) r_int h.2⟩
theorem be_add (ha : BE X G a ta wa) (hb : BE X G b tb wb) : BE X G (.BinOp a .Add b pos) (tOp (rI0 fun i j => .int (i + j)) ta tb) (wOp bAdd wa wb) := be_opB op_add bs_add ha hb
theorem be_sub (ha : BE X G a ta wa) (hb : BE X G b tb wb) : BE X G (.BinOp a .Sub b pos) (tOp (rI0 fun i j => .int (i - j)) ta tb) (wOp bSub wa wb) := be_opB op_sub bs_sub ha hb
theorem be_mul (ha : BE X G a ta wa) (hb : BE X G b tb wb) : BE X G (.BinOp a .Mult b pos) (tOp (rI CMul fun i j => .int (i * j)) ta tb) (wOp bMul wa wb) := be_opB op_mul bs_mul ha hb
theorem be_pow (ha : BE X G a ta wa) (hb : BE X G b tb wb) : BE X G (.BinOp a .Pow b pos) (tOp (rI CPow fun i j => .int (i ^ j.toNat)) ta tb) (wOp bPow wa wb) := be_opB op_pow bs_pow ha hb
def wNeg (wa : WE) : WE := fun ρ n E Q => wa ρ n E fun x n1 => match x with
  | .py (.int i) => Q (.py (.int (-i))) n1
  | _ => False
theorem be_neg (ha : BE X G a ta wa) : BE X G (.UnaryOp .USub a pos) (tUn (rU fun i => .int (-i)) ta) (wNeg wa) :=
  ⟨pe_un un_neg ha.pe, fun ρ σ n B H E Qd Q S hw xw k => ha.snd ρ σ n B H E _ _ S hw xw fun v1 d1 n1 B1 H1 m1 pk1 r1 q1 => by
    match d1, r1, q1 with
    | .py (.int i), r1, q1 =>
      cases dd_int r1
      exact ⟨i, rfl, k _ _ n1 B1 H1 m1 pk1 r_int q1⟩⟩
/-- two tuples one behind the other, the first with an item at least -/
def bCatT : BOp := fun x y Q => match x, y with
  | .py (.tuple xs), .py (.tuple ys) => xs ≠ [] ∧ xs.length + ys.length ≤ 100000 ∧ Q (.py (.tuple (xs ++ ys)))
  | _, _ => False
theorem line5 {n : Nat} (h : n ≤ 100000) : n ≤ sizeLine := Nat.le_trans h (by decide)
end
end Fv
set_option maxRecDepth 100000
set_option maxHeartbeats 4000000
/-! Comparisons, tests, displays, places, built-ins. -/
namespace Fv
open PySem PySem.Spec PyProof.Rows L2 Gb
/-- lists and tuples stay -/
def Exq (H H' : Hp) : Prop := ∀ b o, H b = some o → notDk o → notTb o → H' b = some o
theorem Exq.rd {H H' : Hp} {a : Addr} {u : HO} (e : Exq H H') (h : Rd H a u) (n : notDk u) (n2 : notTb u) : Rd H' a u := by
  rcases h with h | ⟨o, h⟩
  · exact .inl (e _ _ h n n2)
  · exact .inr ⟨o, e _ _ h trivial trivial⟩
theorem Exq.l {K : PySem.W.Frag} {H H' : Hp} {a : Addr} {xs : List V} (e : Exq H H') (h : SqL K H a xs) : SqL K H' a xs := by
  rcases h with h | h
  · exact .inl (e.rd h trivial trivial)
  · exact .inr h
theorem Exq.t {K : PySem.W.Frag} {H H' : Hp} {a : Addr} {xs : List V} (e : Exq H H') (h : SqT K H a xs) : SqT K H' a xs := by
  rcases h with h | h
  · exact .inl (e.rd h trivial trivial)
  · exact .inr h
theorem Kp.ex {pn : Pn} {n : Nat} {B H H' : Hp} (k : Kp pn H H') (pk : Pk pn n B H) : Exq H H' := by
  cases pn with
  | none => exact fun b o h _ _ => k _ _ h
  | some pc =>
    intro b o h nd nt
    refine k.1 _ _ (fun z => ?_) nt h
    obtain ⟨⟨t, l, xs, h1, _⟩, _⟩ := pk
    rw [z, h1] at h
    cases h
    exact nd
section
variable {X : Cx} {G : Cg} {a b c d e f : Expr} {es : List Expr} {ta tb tc td te : TE} {wa wb wc wd we : WE} {pos p : Pos} {x : Str} {n : Nat}
theorem Lk.r {B H : Hp} {v : V} {d : D} {Bf H' : Hp} (h : Lk G Bf H) : Same Bf H := h.1
/-! ### comparisons -/
abbrev BC := D → D → (Bool → Prop) → Prop
def OpF (G : Cg) (r : R2) (w : BC) : Prop := ∀ H x y dx dy (P : Bool → Prop) (Q : VK), R G H x dx → R G H y dy → w dx dy P → (∀ z, P z → Q (.bl z) H) → r x y H Q
def wCmp (w : BC) (wa wb : WE) : WE := fun ρ n E Q => wa ρ n E fun x n1 => wb ρ n1 E fun y n2 => w x y fun z => Q (.py (.bool z)) n2
theorem be_cmp {op : CmpOp} {r : R2} {w : BC} (ho : OpR X (compareOp op) r) (hs : OpF G r w) (ha : BF X G a ta wa) (hb : BF X G b tb wb) (hm : behindInMarks op b = false) : BE X G (.Compare a [op] [b] pos) (tOp r ta tb) (wCmp w wa wb) :=
  ⟨pe_cmpR ho ha.pe hb.pe hm, fun ρ σ n B H E Qd Q S hw xw k => ha.snd ρ σ n B H E _ _ S hw xw fun v1 d1 n1 B1 H1 F1 m1 pk1 lk1 r1 q1 =>
    hb.snd ρ σ n1 B1 H1 E _ _ (S.step m1 pk1) q1 (xw.step m1) fun v2 d2 n2 B2 H2 F2 m2 pk2 lk2 r2 q2 =>
      hs H2 v1 v2 d1 d2 _ _ (r1.mono (lk1.step m2.kp).1) (r2.mono lk2.1) q2 fun z pz => k _ _ n2 B2 H2 (m1.trans m2) pk2 r_bl pz⟩
def bInt (f : Int → Int → Bool) : BC := fun x y Q => match x, y with
  | .py (.int i), .py (.int j) => Q (f i j)
  | _, _ => False
theorem of_int {f : Int → Int → Bool} : OpF G (rI0 fun i j => .bl (f i j)) (bInt f) := fun H x y dx dy P Q rx ry h k => by
  match dx, dy, rx, ry, h with
  | .py (.int i), .py (.int j), rx, ry, h =>
    cases dd_int rx
    cases dd_int ry
    exact ⟨i, j, rfl, rfl, k _ h⟩
abbrev bLt : BC := bInt fun i j => decide (i < j)
abbrev bLe : BC := bInt fun i j => decide (i ≤ j)
abbrev bGt : BC := bInt fun i j => decide (j < i)
abbrev bGe : BC := bInt fun i j => decide (j ≤ i)
def bEq : BC := fun x y Q => match x, y with
  | .py d, .py e => SeqAt.shaped d = true ∧ SeqAt.shaped e = true ∧ Q (PyData.eqv d e)
  | _, _ => False
theorem shaped_lay {d : PyData} (h : SeqAt.shaped d = true) : d.canLay0 = true := by
  unfold SeqAt.shaped at h
  exact (Bool.and_eq_true_iff.mp h).1
theorem of_eq : OpF G (rEqD G.K) bEq := fun H x y dx dy P Q rx ry h k => by
  match dx, dy, rx, ry, h with
  | .py d, .py e, rx, ry, h => exact ⟨d, e, Dd.dp rx (shaped_lay h.1), Dd.dp ry (shaped_lay h.2.1), h.1, h.2.1, k _ h.2.2⟩
def bNe : BC := fun x y Q => match x, y with
  | .py d, .py e => SeqAt.shaped d = true ∧ SeqAt.shaped e = true ∧ Q (!PyData.eqv d e)
  | _, _ => False
theorem of_ne : OpF G (rNeD G.K) bNe := fun H x y dx dy P Q rx ry h k => by
  match dx, dy, rx, ry, h with
  | .py d, .py e, rx, ry, h => exact ⟨d, e, Dd.dp rx (shaped_lay h.1), Dd.dp ry (shaped_lay h.2.1), h.1, h.2.1, k _ h.2.2⟩
def isNon : D → Bool
  | .py .none => true
  | .raw .non => true
  | _ => false
theorem r_isNon {H : Hp} {v : V} {d : D} (r : R G H v d) : decide (v = .non) = isNon d := by
  cases d with
  | py d =>
    have r' : Dd G.K H v d := r
    cases r' with
    | non => rfl
    | bl b => exact decide_eq_false (fun z => nomatch z)
    | int b => exact decide_eq_false (fun z => nomatch z)
    | str b => exact decide_eq_false (fun z => nomatch z)
    | lst _ _ _ => exact decide_eq_false (fun z => nomatch z)
    | tup _ _ _ => exact decide_eq_false (fun z => nomatch z)
    | dic _ _ => exact decide_eq_false (fun z => nomatch z)
  | web s M =>
    obtain ⟨a, rfl, _⟩ := r
    exact decide_eq_false (fun z => nomatch z)
  | raw w =>
    have e : v = w := r
    subst e
    cases v <;> first | rfl | exact decide_eq_false (fun z => nomatch z)
  | pen =>
    obtain ⟨p, c, T, _, rfl⟩ := r
    exact decide_eq_false (fun z => nomatch z)
  | exc x =>
    obtain ⟨a, C, dd, rfl, _⟩ := r
    exact decide_eq_false (fun z => nomatch z)
def bIsN : BC := fun x y Q => match y with
  | .py .none => Q (isNon x)
  | _ => False
theorem of_isN : OpF G (fun x y H Q => y = .non ∧ Q (.bl (decide (x = .non))) H) bIsN := fun H x y dx dy P Q rx ry h k => by
  match dy, ry, h with
  | .py .none, ry, h =>
    cases dd_non ry
    refine ⟨rfl, ?_⟩
    rw [r_isNon rx]
    exact k _ h
def bNotN : BC := fun x y Q => match y with
  | .py .none => Q (!isNon x)
  | _ => False
theorem of_notN : OpF G (fun x y H Q => y = .non ∧ Q (.bl (!decide (x = .non))) H) bNotN := fun H x y dx dy P Q rx ry h k => by
  match dy, ry, h with
  | .py .none, ry, h =>
    cases dd_non ry
    refine ⟨rfl, ?_⟩
    rw [r_isNon rx]
    exact k _ h
/-- x in a list -/
def bIn : BC := fun x y Q => match x, y with
  | .py d, .py (.list ds) => SeqAt.shaped d = true ∧ SeqAt.shaped (.list ds) = true ∧ Q (ds.any fun z => PyData.eqv z d)
  | _, _ => False
def bNotIn : BC := fun x y Q => match x, y with
  | .py d, .py (.list ds) => SeqAt.shaped d = true ∧ SeqAt.shaped (.list ds) = true ∧ Q (!ds.any fun z => PyData.eqv z d)
  | _, _ => False
theorem be_eq (hu : X.A.units + 64 < cLine) (ha : BF X G a ta wa) (hb : BF X G b tb wb) (hK : X.K = G.K := by rfl) : BE X G (.Compare a [.Eq] [b] pos) (tOp (rEqD G.K) ta tb) (wCmp bEq wa wb) := be_cmp (hK ▸ op_eqD hu) of_eq ha hb (nomark _)
/-- a op b op' c -/
def wChain (w w' : BC) (wa wb wc : WE) : WE := fun ρ n E Q => wa ρ n E fun x n1 => wb ρ n1 E fun y n2 => w x y fun z => if z = true then wc ρ n2 E fun u n3 => w' y u fun z' => Q (.py (.bool z')) n3 else Q (.py (.bool false)) n2
theorem be_chain {op op' : CmpOp} {r r' : R2} {w w' : BC} (ho : OpR X (compareOp op) r) (ho' : OpR X (compareOp op') r') (hs : OpF G r w) (hs' : OpF G r' w') (ha : BF X G a ta wa) (hb : BF X G b tb wb) (hc : BF X G c tc wc) (hm : lastMarks [op, op'] [b, c] = false := by with_unfolding_all rfl) :
    BE X G (.Compare a [op, op'] [b, c] pos) (tChain r r' ta tb tc) (wChain w w' wa wb wc) :=
  ⟨pe_chain ho ho' ha.pe hb.pe hc.pe hm, fun ρ σ n B H E Qd Q S hw xw k => ha.snd ρ σ n B H E _ _ S hw xw fun v1 d1 n1 B1 H1 F1 m1 pk1 lk1 r1 q1 =>
    hb.snd ρ σ n1 B1 H1 E _ _ (S.step m1 pk1) q1 (xw.step m1) fun v2 d2 n2 B2 H2 F2 m2 pk2 lk2 r2 q2 =>
      hs H2 v1 v2 d1 d2 _ _ (r1.mono (lk1.step m2.kp).1) (r2.mono lk2.1) q2 fun z pz => by
        refine ⟨z, rfl, ?_⟩
        cases z with
        | false =>
          rw [if_neg (by decide)] at pz ⊢
          exact k _ _ n2 B2 H2 (m1.trans m2) pk2 r_bl pz
        | true =>
          rw [if_pos rfl] at pz ⊢
          exact hc.snd ρ σ n2 B2 H2 E _ _ (S.step (m1.trans m2) pk2) pz (xw.step (m1.trans m2)) fun v3 d3 n3 B3 H3 F3 m3 pk3 lk3 r3 q3 =>
            hs' H3 v2 v3 d2 d3 _ _ (r2.mono (lk2.step m3.kp).1) (r3.mono lk3.1) q3 fun z pz => k _ _ n3 B3 H3 ((m1.trans m2).trans m3) pk3 r_bl pz⟩
/-- a op b op' c op'' d -/
def wChain3 (w w' w2 : BC) (wa wb wc wd : WE) : WE := fun ρ n E Q => wa ρ n E fun x n1 => wb ρ n1 E fun y n2 => w x y fun z => if z = true then wc ρ n2 E fun u n3 => w' y u fun z' => (if z' = true then wd ρ n3 E fun v n4 => w2 u v fun z2 => Q (.py (.bool z2)) n4 else Q (.py (.bool false)) n3) else Q (.py (.bool false)) n2
theorem be_chain3 {op op' op2 : CmpOp} {r r' r2 : R2} {w w' w2 : BC} (ho : OpR X (compareOp op) r) (ho' : OpR X (compareOp op') r') (ho2 : OpR X (compareOp op2) r2) (hs : OpF G r w) (hs' : OpF G r' w') (hs2 : OpF G r2 w2) (ha : BF X G a ta wa) (hb : BF X G b tb wb) (hc : BF X G c tc wc) (hd : BF X G d td wd)
    (hm : lastMarks [op, op', op2] [b, c, d] = false := by with_unfolding_all rfl) : BE X G (.Compare a [op, op', op2] [b, c, d] pos) (tChain3 r r' r2 ta tb tc td) (wChain3 w w' w2 wa wb wc wd) :=
  ⟨pe_chain3 ho ho' ho2 ha.pe hb.pe hc.pe hd.pe hm, fun ρ σ n B H E Qd Q S hw xw k => ha.snd ρ σ n B H E _ _ S hw xw fun v1 d1 n1 B1 H1 F1 m1 pk1 lk1 r1 q1 =>
    hb.snd ρ σ n1 B1 H1 E _ _ (S.step m1 pk1) q1 (xw.step m1) fun v2 d2 n2 B2 H2 F2 m2 pk2 lk2 r2_ q2 =>
      hs H2 v1 v2 d1 d2 _ _ (r1.mono (lk1.step m2.kp).1) (r2_.mono lk2.1) q2 fun z pz => by
        refine ⟨z, rfl, ?_⟩
        cases z with
        | false =>
          rw [if_neg (by decide)] at pz ⊢
          exact k _ _ n2 B2 H2 (m1.trans m2) pk2 r_bl pz
        | true =>
          rw [if_pos rfl] at pz ⊢
          refine hc.snd ρ σ n2 B2 H2 E _ _ (S.step (m1.trans m2) pk2) pz (xw.step (m1.trans m2)) fun v3 d3 n3 B3 H3 F3 m3 pk3 lk3 r3 q3 =>
            hs' H3 v2 v3 d2 d3 _ _ (r2_.mono (lk2.step m3.kp).1) (r3.mono lk3.1) q3 fun z' pz' => ?_
          refine ⟨z', rfl, ?_⟩
          have m03 := (m1.trans m2).trans m3
          cases z' with
          | false =>
            rw [if_neg (by decide)] at pz' ⊢
            exact k _ _ n3 B3 H3 m03 pk3 r_bl pz'
          | true =>
            rw [if_pos rfl] at pz' ⊢
            exact hd.snd ρ σ n3 B3 H3 E _ _ (S.step m03 pk3) pz' (xw.step m03) fun v4 d4 n4 B4 H4 F4 m4 pk4 lk4 r4 q4 =>
              hs2 H4 v3 v4 d3 d4 _ _ (r3.mono (lk3.step m4.kp).1) (r4.mono lk4.1) q4 fun z2 pz2 => k _ _ n4 B4 H4 (m03.trans m4) pk4 r_bl pz2⟩
end
end Fv
set_option maxRecDepth 100000
set_option maxHeartbeats 4000000
/-! Tests, and / or / not, displays, places, parts of lists and tuples. -/
namespace Fv
open PySem PySem.Spec PyProof.Rows L2 Gb
section
variable {X : Cx} {G : Cg} {a b c d e f : Expr} {es rest : List Expr} {ta tb tc td te : TE} {wa wb wc wd we : WE} {pos p : Pos} {x : Str} {n : Nat} {t u : TT} {w v : WT}
/-! ### tests -/
def wOfT (w : WE) : WT := fun ρ n E Q => w ρ n E fun d n' => match d with
  | .py (.bool k) => Q k n'
  | _ => False
theorem bt_val (ha : BE X G a ta wa) (he : ∀ whole, isTrue a X.env whole = (do let v ← whole; standAt a.pos; holding [v] (truthy v)) := by intro _; rfl) : BT X G a (tB ta) (wOfT wa) :=
  ⟨pt_val ha.pe he, fun ρ σ n B H E Qd Q S hw xw k => ha.snd ρ σ n B H E _ _ S hw xw fun v d n' B' H' m pk r q => by
    match d, r, q with
    | .py (.bool z), r, q =>
      cases dd_bl r
      exact ⟨z, rfl, k z n' B' H' m pk q⟩⟩
/-- a comparison as a test -/
theorem bt_cmp {op : CmpOp} {tt : TE} {w : WE} (ha : BE X G (.Compare a [op] [b] pos) tt w) (h : PT X (.Compare a [op] [b] pos) (tTest tt)) : BT X G (.Compare a [op] [b] pos) (tTest tt) (wOfT w) :=
  ⟨h, fun ρ σ n B H E Qd Q S hw xw k => ha.snd ρ σ n B H E _ _ S hw xw fun v d n' B' H' m pk r q => by
    match d, r, q with
    | .py (.bool z), r, q =>
      cases dd_bl r
      exact ⟨z, rfl, k z n' B' H' m pk q⟩⟩
theorem bt_cmpR {op : CmpOp} {r : R2} {w : BC} (ho : OpR X (compareOp op) r) (hs : OpF G r w) (ha : BF X G a ta wa) (hb : BF X G b tb wb) (hm : behindInMarks op b = false) : BT X G (.Compare a [op] [b] pos) (tTest (tOp r ta tb)) (wOfT (wCmp w wa wb)) :=
  bt_cmp (be_cmp ho hs ha hb hm) (pt_cmpR ho ha.pe hb.pe hm)
theorem bt_gt (ha : BF X G a ta wa) (hb : BF X G b tb wb) : BT X G (.Compare a [.Gt] [b] pos) (tTest (tOp (rI0 fun i j => .bl (decide (j < i))) ta tb)) (wOfT (wCmp bGt wa wb)) := bt_cmpR op_gt of_int ha hb (nomark _)
theorem bt_eq (hu : X.A.units + 64 < cLine) (ha : BF X G a ta wa) (hb : BF X G b tb wb) (hK : X.K = G.K := by rfl) : BT X G (.Compare a [.Eq] [b] pos) (tTest (tOp (rEqD G.K) ta tb)) (wOfT (wCmp bEq wa wb)) := bt_cmpR (hK ▸ op_eqD hu) of_eq ha hb (nomark _)
theorem bt_ne (hu : X.A.units + 64 < cLine) (ha : BF X G a ta wa) (hb : BF X G b tb wb) (hK : X.K = G.K := by rfl) : BT X G (.Compare a [.NotEq] [b] pos) (tTest (tOp (rNeD G.K) ta tb)) (wOfT (wCmp bNe wa wb)) := bt_cmpR (hK ▸ op_neD hu) of_ne ha hb (nomark _)
theorem bt_isN (ha : BF X G a ta wa) (hb : BF X G b tb wb) : BT X G (.Compare a [.Is] [b] pos) (tTest (tOp (fun x y H Q => y = .non ∧ Q (.bl (decide (x = .non))) H) ta tb)) (wOfT (wCmp bIsN wa wb)) := bt_cmpR op_isN of_isN ha hb (nomark _)
theorem bt_notN (ha : BF X G a ta wa) (hb : BF X G b tb wb) : BT X G (.Compare a [.IsNot] [b] pos) (tTest (tOp (fun x y H Q => y = .non ∧ Q (.bl (!decide (x = .non))) H) ta tb)) (wOfT (wCmp bNotN wa wb)) := bt_cmpR op_notN of_notN ha hb (nomark _)
structure BW (X : Cx) (G : Cg) (e : Expr) (t : TT) (w : WT) : Prop where
  pw : PW X e t
  snd : SndT G t w
def wAnd (w v : WT) : WT := fun ρ n E Q => w ρ n E fun k n1 => if k = true then v ρ n1 E Q else Q false n1
def wOr (w v : WT) : WT := fun ρ n E Q => w ρ n E fun k n1 => if k = true then Q true n1 else v ρ n1 E Q
def wNotT (w : WT) : WT := fun ρ n E Q => w ρ n E fun k n1 => Q (!k) n1
theorem bw_and1 (h : BT X G a t w) : BW X G (.BoolOp .And [a] pos) t w := ⟨pw_and1 h.pe, h.snd⟩
theorem bw_or1 (h : BT X G a t w) : BW X G (.BoolOp .Or [a] pos) t w := ⟨pw_or1 h.pe, h.snd⟩
theorem bw_and (h : BT X G a t w) (h2 : BW X G (.BoolOp .And (b :: rest) pos) u v) : BW X G (.BoolOp .And (a :: b :: rest) pos) (tAnd t u) (wAnd w v) :=
  ⟨pw_and h.pe h2.pw, fun ρ σ n B H E Qd Q S hw xw k => h.snd ρ σ n B H E _ _ S hw xw fun z n1 B1 H1 m1 pk1 q1 => by
    cases z with
    | false =>
      rw [if_neg (by decide)] at q1 ⊢
      exact k false n1 B1 H1 m1 pk1 q1
    | true =>
      rw [if_pos rfl] at q1 ⊢
      exact h2.snd ρ σ n1 B1 H1 E _ _ (S.step m1 pk1) q1 (xw.step m1) fun z2 n2 B2 H2 m2 pk2 q2 => k z2 n2 B2 H2 (m1.trans m2) pk2 q2⟩
theorem bw_or (h : BT X G a t w) (h2 : BW X G (.BoolOp .Or (b :: rest) pos) u v) : BW X G (.BoolOp .Or (a :: b :: rest) pos) (tOr t u) (wOr w v) :=
  ⟨pw_or h.pe h2.pw, fun ρ σ n B H E Qd Q S hw xw k => h.snd ρ σ n B H E _ _ S hw xw fun z n1 B1 H1 m1 pk1 q1 => by
    cases z with
    | true =>
      rw [if_pos rfl] at q1 ⊢
      exact k true n1 B1 H1 m1 pk1 q1
    | false =>
      rw [if_neg (by decide)] at q1 ⊢
      exact h2.snd ρ σ n1 B1 H1 E _ _ (S.step m1 pk1) q1 (xw.step m1) fun z2 n2 B2 H2 m2 pk2 q2 => k z2 n2 B2 H2 (m1.trans m2) pk2 q2⟩
theorem BW.bt (h : BW X G a t w) : BT X G a t w := ⟨h.pw.pt, h.snd⟩
theorem bt_not (h : BT X G a t w) : BT X G (.UnaryOp .Not a pos) (tNot t) (wNotT w) := ⟨pt_not h.pe, fun ρ σ n B H E Qd Q S hw xw k => h.snd ρ σ n B H E _ _ S hw xw fun z n1 B1 H1 m1 pk1 q1 => k _ n1 B1 H1 m1 pk1 q1⟩
/-- as values -/
def wAndV (wa wb : WE) : WE := fun ρ n E Q => wa ρ n E fun d n1 => match d with
  | .py (.bool k) => if k = true then wb ρ n1 E Q else Q (.py (.bool false)) n1
  | _ => False
def wOrV (wa wb : WE) : WE := fun ρ n E Q => wa ρ n E fun d n1 => match d with
  | .py (.bool k) => if k = true then Q (.py (.bool true)) n1 else wb ρ n1 E Q
  | _ => False
def wNotV (wa : WE) : WE := fun ρ n E Q => wa ρ n E fun d n1 => match d with
  | .py (.bool k) => Q (.py (.bool (!k))) n1
  | _ => False
theorem be_one {op} (h : BE X G a ta wa) : BE X G (.BoolOp op [a] pos) ta wa := ⟨pe_one h.pe, h.snd⟩
theorem be_and (h : BE X G a ta wa) (h2 : BE X G (.BoolOp .And (b :: rest) pos) tb wb) : BE X G (.BoolOp .And (a :: b :: rest) pos) (tAndV ta tb) (wAndV wa wb) :=
  ⟨pe_and h.pe h2.pe, fun ρ σ n B H E Qd Q S hw xw k => h.snd ρ σ n B H E _ _ S hw xw fun v d n1 B1 H1 m1 pk1 r1 q1 => by
    match d, r1, q1 with
    | .py (.bool z), r1, q1 =>
      cases dd_bl r1
      refine ⟨z, rfl, ?_⟩
      cases z with
      | false =>
        rw [if_neg (by decide)]
        exact k _ _ n1 B1 H1 m1 pk1 r_bl q1
      | true =>
        rw [if_pos rfl]
        exact h2.snd ρ σ n1 B1 H1 E _ _ (S.step m1 pk1) q1 (xw.step m1) fun v2 d2 n2 B2 H2 m2 pk2 r2 q2 => k v2 d2 n2 B2 H2 (m1.trans m2) pk2 r2 q2⟩
theorem be_not (h : BE X G a ta wa) : BE X G (.UnaryOp .Not a pos) (tNotV ta) (wNotV wa) :=
  ⟨pe_not h.pe, fun ρ σ n B H E Qd Q S hw xw k => h.snd ρ σ n B H E _ _ S hw xw fun v d n1 B1 H1 m1 pk1 r1 q1 => by
    match d, r1, q1 with
    | .py (.bool z), r1, q1 =>
      cases dd_bl r1
      exact ⟨z, rfl, k _ _ n1 B1 H1 m1 pk1 r_bl q1⟩⟩
def wIfE (w : WT) (wa wb : WE) : WE := fun ρ n E Q => w ρ n E fun k n1 => if k = true then wa ρ n1 E Q else wb ρ n1 E Q
theorem be_ifExp (h : BT X G c t w) (ha : BE X G a ta wa) (hb : BE X G b tb wb) : BE X G (.IfExp c a b pos) (tIf t ta tb) (wIfE w wa wb) :=
  ⟨pe_ifExp h.pe ha.pe hb.pe, fun ρ σ n B H E Qd Q S hw xw k => h.snd ρ σ n B H E _ _ S hw xw fun z n1 B1 H1 m1 pk1 q1 => by
    cases z with
    | true =>
      rw [if_pos rfl] at q1 ⊢
      exact ha.snd ρ σ n1 B1 H1 E _ _ (S.step m1 pk1) q1 (xw.step m1) fun v2 d2 n2 B2 H2 m2 pk2 r2 q2 => k v2 d2 n2 B2 H2 (m1.trans m2) pk2 r2 q2
    | false =>
      rw [if_neg (by decide)] at q1 ⊢
      exact hb.snd ρ σ n1 B1 H1 E _ _ (S.step m1 pk1) q1 (xw.step m1) fun v2 d2 n2 B2 H2 m2 pk2 r2 q2 => k v2 d2 n2 B2 H2 (m1.trans m2) pk2 r2 q2⟩
/-- truth of a list, a tuple, a number, None -/
def truD : PyData → Bool
  | .none => false
  | .bool b => b
  | .int i => i != 0
  | .str y => (y.length : Int) != 0
  | .list ds => !ds.isEmpty
  | .tuple ds => !ds.isEmpty
  | .dict ks => !ks.isEmpty
def wTru (w : WE) : WT := fun ρ n E Q => w ρ n E fun d n1 => match d with
  | .py (.str _) => False
  | .py d => Q (truD d) n1
  | _ => False
theorem DdA.empty {K : PySem.W.Frag} {H : Hp} {vs : List V} {ds : List PyData} (h : DdA K H vs ds) : vs.isEmpty = ds.isEmpty := by cases h <;> rfl
theorem DdK.empty {K : PySem.W.Frag} {H : Hp} {vs : List (Key × V)} {ds : List (PyData × PyData)} (h : DdK K H vs ds) : vs.isEmpty = ds.isEmpty := by cases h <;> rfl
/-! ### arguments, displays -/
def wANil : WA := fun _ n _ Q => Q [] n
def wACons (wa : WE) (wr : WA) : WA := fun ρ n E Q => wa ρ n E fun d n1 => wr ρ n1 E fun ds n2 => Q (d :: ds) n2
theorem ba_nil : BA X G [] tNil wANil := ⟨pa_nil, fun ρ σ n B H E Qd Q S hw _ k => k [] [] n B H (Mv.refl S.sub) S.pk trivial hw⟩
theorem ba_cons {tr : TA} {wr : WA} (ha : BE X G a ta wa) (hr : BA X G es tr wr) (hs : starEach (a :: es) X.env = (false, eval a X.env) :: starEach es X.env := by rfl) : BA X G (a :: es) (tCons ta tr) (wACons wa wr) :=
  ⟨pa_cons ha.pe hr.pe hs, fun ρ σ n B H E Qd Q S hw xw k => ha.snd ρ σ n B H E _ _ S hw xw fun v1 d1 n1 B1 H1 m1 pk1 r1 q1 =>
    hr.snd ρ σ n1 B1 H1 E _ _ (S.step m1 pk1) q1 (xw.step m1) fun vs ds n2 B2 H2 m2 pk2 r2 q2 => k (v1 :: vs) (d1 :: ds) n2 B2 H2 (m1.trans m2) pk2 ⟨r1.mono m2.b, r2⟩ q2⟩
/-- all of them data -/
def pyAll : List D → Option (List PyData)
  | [] => some []
  | .py d :: ds => (pyAll ds).map (d :: ·)
  | _ :: _ => none
theorem ra_py {B : Hp} : ∀ {vs : List V} {ds : List D} {ps : List PyData}, RA G B vs ds → pyAll ds = some ps → DdA G.K B vs ps
  | [], [], _, _, e => by
    cases e
    exact .nil
  | v :: vs, .py d :: ds, ps, h, e => by
    obtain ⟨h1, h2⟩ := h
    unfold pyAll at e
    cases q : pyAll ds with
    | none =>
      rw [q] at e
      cases e
    | some qs =>
      rw [q] at e
      cases e
      exact .cons h1 (ra_py h2 q)
  | _ :: _, .web _ _ :: _, _, _, e => by cases e
  | _ :: _, .raw _ :: _, _, _, e => by cases e
  | _ :: _, .pen :: _, _, _, e => by cases e
  | [], _ :: _, _, h, _ => h.elim
  | _ :: _, [], _, h, _ => h.elim
def wTup (w : WA) : WE := fun ρ n E Q => w ρ n E fun ds n1 => match pyAll ds with
  | some ps => ps.length ≤ 100000 ∧ Q (.py (.tuple ps)) n1
  | none => False
theorem be_tup {kt : Nat} {ta : TA} {w : WA} (h : BA X G es ta w) : BE X G (.Tuple es kt pos) (tTup ta) (wTup w) :=
  ⟨pe_tup h.pe, fun ρ σ n B H E Qd Q S hw xw k => h.snd ρ σ n B H E _ _ S hw xw fun vs ds n1 B1 H1 m1 pk1 r1 q1 => by
    match e : pyAll ds, q1 with
    | some ps, q1 =>
      have hA := ra_py r1 e
      have hz : vs.length ≤ sizeLine := by
        rw [hA.len]
        exact line5 q1.1
      refine ⟨hz, fun p hp => ?_⟩
      have m := Mv.new (pn := none) (o := .tup vs) m1.s hp
      exact k (.ref p) _ n1 _ _ (m1.trans m.of) (pk1.mv m) (r_tup (SqT.of upd_same) (hA.mono m.b) hz) q1.2⟩
def wLst (w : WA) : WN := fun ρ n E Q => w ρ n E fun ds n1 => match pyAll ds with
  | some ps => ps.length ≤ 100000 ∧ Q ps n1
  | none => False
theorem free_new {n : Nat} {B H : Hp} {ρ : List Sl} {σ : L2.St} {p : Addr} (S : St G n B H ρ σ) (hp : H p = none) : Free G B p := by
  have h0 : G.H0 p = none := S.mv.kp.up hp
  refine ⟨S.sub.free hp, h0, fun q c T e => ?_⟩
  have pk := S.pk
  rw [e] at pk
  obtain ⟨⟨t, l, xs, h1, h2, _⟩, _⟩ := pk
  exact ⟨fun z => (by rw [z, h1] at hp; cases hp), fun z => (by rw [z, h2] at hp; cases hp)⟩
theorem bn_lst {ta : TA} {w : WA} (h : BA X G es ta w) : BN X G (.List es pos) (tLst ta) (wLst w) :=
  ⟨pe_lst h.pe, fun ρ σ n B H E Qd Q S hw xw k => h.snd ρ σ n B H E _ _ S hw xw fun vs ds n1 B1 H1 m1 pk1 r1 q1 => by
    match e : pyAll ds, q1 with
    | some ps, q1 =>
      have hA := ra_py r1 e
      have hz : vs.length ≤ sizeLine := by
        rw [hA.len]
        exact line5 q1.1
      refine ⟨hz, fun p hp => ?_⟩
      have m := Mv.newOwn (pn := none) (o := .lst vs) m1.s hp
      have hpH : H p = none := m1.kp.up hp
      exact k p vs ps n1 _ _ (m1.trans m.of) (pk1.mv m) hpH (free_new (S.step m1 pk1) hp) upd_same hz hA q1.2⟩
end
end Fv
set_option maxRecDepth 100000
set_option maxHeartbeats 4000000
/-! t[::-1], t a tuple. -/
namespace Gb
open PySem PySem.Spec PyProof.Rows L2 HT
section
variable {prog : Program} {w : World} {A : Around} {E : Value → Shared → Prop} {s : Shared}
theorem rev_applied {sl : Addr} {vl vu vs : Value} {n : Nat} {Q : Int × Int × Nat → Shared → Prop} (hs : s.heap.IsSliceOf sl vl vu vs) (pl : IsPart vl none) (pu : IsPart vu none) (ps : IsPart vs (some (-1)))
    (h : Q ((n : Int) - 1, -1, n) s) : wpAny (model prog w) A (Builtin.Slice.sliceApplied (.ref sl) (pure (n : Int))) Q E s := by
  obtain ⟨os, hos, hcs, hds⟩ := id hs
  unfold Builtin.Slice.sliceApplied Builtin.Slice.sliceFields
  refine wpAny_bind (wpAny_bind (wpAny_field hos hds (x := vl) rfl (wpAny_bind (wpAny_field hos hds (x := vu) rfl (wpAny_bind (wpAny_field hos hds (x := vs) rfl (wpAny_pure ?_)))))))
  refine wpAny_bind (slicePart_ ps ?_)
  show wpAny _ _ (if ((-1 : Int) == 0) = true then _ else _) _ _ s
  rw [if_neg (by decide)]
  refine wpAny_bind (slicePart_ pl (wpAny_bind (slicePart_ pu (wpAny_bind (wpAny_pure ?_)))))
  show wpAny _ _ (match Builtin.Slice.sliceAdjust none none (-1) (n : Int) with | (lo, hi) => pure (lo, (-1 : Int), Builtin.Slice.slicePlaces lo hi (-1))) _ _ s
  have e : Builtin.Slice.sliceAdjust none none (-1) (n : Int) = ((n : Int) - 1, -1) := rfl
  rw [e]
  show wpAny _ _ (pure ((n : Int) - 1, (-1 : Int), Builtin.Slice.slicePlaces ((n : Int) - 1) (-1) (-1))) _ _ s
  have e2 : Builtin.Slice.slicePlaces ((n : Int) - 1) (-1) (-1) = n := by
    unfold Builtin.Slice.slicePlaces
    rw [if_neg (by decide)]
    have e3 : (- (-1) : Int) = 1 := by decide
    rw [e3, Int.ediv_one]
    split <;> omega
  rw [e2]
  exact wpAny_pure h
theorem rev_pick (xs : Array Value) : ((List.range xs.size).filterMap fun (m : Nat) => xs[(((xs.size : Int) - 1) + (m : Int) * -1).toNat]?).toArray = xs.toList.reverse.toArray := by
  have e : (fun (m : Nat) => xs[(((xs.size : Int) - 1) + (m : Int) * -1).toNat]?) = (fun j => xs[j]?) ∘ fun m => xs.size - 1 - m := by
    funext m
    show _ = xs[xs.size - 1 - m]?
    have : (((xs.size : Int) - 1) + (m : Int) * -1).toNat = xs.size - 1 - m := by omega
    rw [this]
  rw [e, ← List.filterMap_map, PySem.W.krv_range, List.filterMap_reverse, PySem.W.krv_all]
theorem getItem_tuple_rev {t sl : Addr} {items : Array Value} {vl vu vs : Value} {Q : Value → Shared → Prop} (ht : IsTup s.heap t items) (hs : s.heap.IsSliceOf sl vl vu vs) (pl : IsPart vl none) (pu : IsPart vu none) (ps : IsPart vs (some (-1)))
    (h : Q (.ref s.heap.objs.size) { s with heap := s.heap.push { cls := .type "tuple", data := .seq items.toList.reverse.toArray } })
    (hsz : items.size ≤ sizeLine) : wpAny (model prog w) A (getItem (.ref t) (.ref sl)) Q E s := by
  have htake : sizeOk (.seq items.toList.reverse.toArray) := by
    show items.toList.reverse.toArray.size ≤ sizeLine
    rw [List.size_toArray, List.length_reverse, Array.length_toList]
    exact hsz
  obtain ⟨os, hos, hcs, hds⟩ := id hs
  have hTs : s.TypeIs (.ref sl) "slice" := ⟨os, hos, hcs⟩
  unfold getItem
  try with_reducible refine wpAny_holding ?_
  first | refine wpAny_bind (wpAny_pure ?_) | skip
  refine wpAny_bind (wpAny_sequenceKey ht.typeIs (by decide) ?_)
  refine wpAny_bind (wpAny_callSpecial?_slot (name := Str.ofString "__getitem__") ht.typeIs PyProof.Rows.slot_tuple_getitem
    (wpAny_call_entry PyProof.Rows.slot_tuple_getitem ht.typeIs entry_tuple_getitem ?_ (args_tuple_getitem _ _)))
  show wpAny _ _ (Builtin.Tuple.tupleItemsOf (.ref t) >>= _) _ _ s
  refine wpAny_bind (tupleItemsOf_ ht ?_)
  refine wpAny_bind (wpAny_typeOf hTs ?_)
  rw [if_pos (by decide)]
  refine wpAny_bind (rev_applied hs pl pu ps ?_)
  have hno : ¬ ((((items.size : Int) - 1) == 0 && (-1 : Int) == 1 && items.size == items.size) = true) := by
    rw [show ((-1 : Int) == 1) = false from rfl, Bool.and_false, Bool.false_and]
    exact Bool.false_ne_true
  show wpAny _ _ (if (((items.size : Int) - 1) == 0 && (-1 : Int) == 1 && items.size == items.size) = true then _ else _) _ _ s
  rw [if_neg hno, rev_pick]
  first
    | exact wpAny_bind (m := Builtin.Tuple.tupleExact _) (wpAny_newObj_type (wpAny_pure ⟨_, rfl, wpAny_pure h⟩) htake)
    | exact wpAny_bind (m := Builtin.Tuple.tupleExact _) (wpAny_newObj_type (wpAny_bind (wpAny_pure (wpAny_pure ⟨_, rfl, wpAny_pure h⟩))) htake)
    | exact wpAny_bind (wpAny_bind (m := Builtin.Tuple.tupleExact _) (wpAny_newObj_type (wpAny_pure (wpAny_pure ⟨_, rfl, wpAny_pure h⟩)) htake))
    | exact wpAny_bind (wpAny_bind (m := Builtin.Tuple.tupleExact _) (wpAny_newObj_type (wpAny_pure ⟨_, rfl, wpAny_pure h⟩) htake))
end
section
variable {X : Cx} {Kx : PySem.W.Frag}
def tRevT (K : PySem.W.Frag) (te : TE) : TE := fun σ H Q => te σ H fun x H1 => ∃ a xs, x = .ref a ∧ SqT K H1 a xs ∧ ∀ q, H1 q = none → Q (.ref q) (upd H1 q (.tup xs.reverse))
theorem pe_revT {e : Expr} {te : TE} {k : Nat} {p1 p2 p3 pos : Pos} (he : PE X e te) (hK : X.K = Kx := by rfl) : PE X (.Subscript e (.Slice none none (some (.UnaryOp .USub (.Constant (.int 1) k p1) p2)) p3) pos) (tRevT Kx te) := by
  subst hK
  refine ⟨fun pins s σ H Q I h => ?_⟩
  refine Subscript_ (thn (he.run pins s σ H _ I h) fun v s1 ⟨x, H1, I1, r1, q1⟩ => ?_)
  obtain ⟨a, xs, ex, hx, q⟩ := q1
  subst ex
  cases r1
  have hst : PO X (some (.UnaryOp .USub (.Constant (.int 1) k p1) p2)) (tPart (tUn (rU fun i => .int (-i)) (tC (.int 1)))) := po_some (pe_un un_neg pe_int)
  refine wpAny_Slice (thn (po_none.run pins s1 σ H1 (fun o H2 => o = none ∧ H2 = H1) I1 ⟨rfl, rfl⟩) fun vl s2 ⟨l, H2, I2, pl, el, e2⟩ => ?_)
  subst el e2
  refine thn (po_none.run pins s2 σ H2 (fun o H3 => o = none ∧ H3 = H2) I2 ⟨rfl, rfl⟩) fun vu s3 ⟨u, H3, I3, pu, eu, e3⟩ => ?_
  subst eu e3
  refine thn (hst.run pins s3 σ H3 (fun o H4 => o = some (-1) ∧ H4 = H3) I3 ⟨1, rfl, -1, rfl, rfl, rfl⟩) fun vs s4 ⟨o, H4, I4, ps, eo, e4⟩ => ?_
  subst eo e4
  have I5 : Inv X pins σ H4 { s4 with heap := s4.heap.push { cls := .type "slice", data := .fields #[vl, vu, vs] } } := I4.kept (t' := s4.toks) fun b ob q => Heap.get?_push_of_some _ q
  obtain ⟨its, r, ht, hz⟩ := I5.tuple hx
  have hlen := r.length
  show wpAny (model X.prog X.w) X.A (subscriptTail e (.Slice none none (some (.UnaryOp .USub (.Constant (.int 1) k p1) p2)) p3) (.ref a) (.ref s4.heap.objs.size)) (EP X pins σ Q) X.xe { s4 with heap := s4.heap.push { cls := .type "slice", data := .fields #[vl, vu, vs] } }
  refine tail_any (ops := [.ref a, .ref s4.heap.objs.size]) ht.typeIs (PyProof.Rows.slot_tuple_getitem.lookup) ?_ (by with_unfolding_all rfl)
  refine getItem_tuple_rev ht (Heap.IsSliceOf.new _ vl vu vs) pl pu ps ?_ (by rw [List.size_toArray]; omega)
  refine ⟨.ref _, _, I5.laid (t' := s4.toks) (o := .tup xs.reverse) (fun b ob q => Heap.get?_push_of_some _ q) (Nat.le_refl _) ?_, rfl, q _ (I5.hok.fresh (Nat.le_refl _))⟩
  exact ⟨by rw [List.length_reverse]; exact hz, _, r.reverse, IsTup.new _ _⟩
end
end Gb
set_option maxRecDepth 100000
set_option maxHeartbeats 4000000
/-! Places and parts of lists and tuples; built-ins. -/
namespace Fv
open PySem PySem.Spec PyProof.Rows L2 Gb
section
variable {X : Cx} {G : Cg} {a b c d e f : Expr} {es rest : List Expr} {ta tb tc td te : TE} {wa wb wc wd we : WE} {pos p p2 p3 : Pos} {x : Str} {n : Nat} {t u : TT} {w v : WT} {wl : WL}
theorem DdA.atI {K : PySem.W.Frag} {H : Hp} {vs : List V} {ds : List PyData} {i : Int} {z : PyData} (h : DdA K H vs ds) (e : L2.atI ds i = some z) : ∃ v, L2.atI vs i = some v ∧ Dd K H v z := by
  unfold L2.atI at e ⊢
  rw [h.len]
  cases q : ixN ds.length i with
  | none =>
    rw [q] at e
    cases e
  | some j =>
    rw [q] at e
    exact DdA.get' h e
/-- a list or tuple, looked at behind a step -/
theorem SqB.step {K : PySem.W.Frag} {pn : Pn} {n : Nat} {k : Bool} {l : Addr} {vs : List V} {B H B' H' : Hp} (h : SqB K k l vs B H) (m : Mv pn B H B' H') (pk : Pk pn n B H) : SqB K k l vs B' H' := by
  cases k with
  | true => exact Same.t m.b h
  | false => exact (m.kp.ex pk) _ _ h trivial trivial
theorem SqB.or {K : PySem.W.Frag} {k : Bool} {l : Addr} {vs : List V} {B H : Hp} (h : SqB K k l vs B H) (s : Same B H) : SqL K H l vs ∨ SqT K H l vs := by
  cases k with
  | true => exact .inr (Same.t s h)
  | false => exact .inl (SqL.of h)
def wIx (wl : WL) (wi : WE) : WE := fun ρ n E Q => wl ρ n E fun _ ds n1 => wi ρ n1 E fun i n2 => match i with
  | .py (.int i) => (match L2.atI ds i with
    | some z => Q (.py z) n2
    | none => False)
  | _ => False
theorem be_ix (ha : BL X G a ta wl) (hb : BE X G b tb wb) (hs : PlainIx b := by exact fun _ _ => rfl) (hK : X.K = G.K := by rfl) : BE X G (.Subscript a b pos) (tOp (rIx G.K) ta tb) (wIx wl wb) :=
  ⟨pe_ix (hK ▸ ix_seq) ha.pe hb.pe hs, fun ρ σ n B H E Qd Q S hw xw k => ha.snd ρ σ n B H E _ _ S hw xw fun l vs kk ds n1 B1 H1 m1 pk1 hs1 hz hA q1 =>
    hb.snd ρ σ n1 B1 H1 E _ _ (S.step m1 pk1) q1 (xw.step m1) fun v2 d2 n2 B2 H2 m2 pk2 r2 q2 => by
      match d2, r2, q2 with
      | .py (.int i), r2, q2 =>
        cases dd_int r2
        cases ei : L2.atI ds i with
        | none => simp only [ei] at q2
        | some z =>
          simp only [ei] at q2
          obtain ⟨v, h1, h2⟩ := hA.atI ei
          have hs2 := hs1.step m2 pk1
          have q3 := k v (.py z) n2 B2 H2 (m1.trans m2) pk2 (h2.mono m2.b) q2
          cases kk with
          | true => exact .inr (.inl ⟨l, vs, i, v, rfl, rfl, Same.t m2.s hs2, h1, q3⟩)
          | false => exact .inl ⟨l, vs, i, v, rfl, rfl, SqL.of hs2, h1, q3⟩⟩
/-! ### slices -/
abbrev WO := List Sl → Nat → XQ → (Option Int → Nat → Prop) → Prop
def SndO (G : Cg) (t : TO) (w : WO) : Prop := ∀ ρ σ n B H E (Qd : Option Int → Nat → Prop) (Q : Option Int → Hp → Prop), St G n B H ρ σ → w ρ n E Qd → XW G σ B H E →
  (∀ b n' B' H', Mv G.pn B H B' H' → Pk G.pn n' B' H' → Qd b n' → Q b H') → t σ H Q
structure BO (X : Cx) (G : Cg) (e : Option Expr) (t : TO) (w : WO) : Prop where
  pe : PO X e t
  snd : SndO G t w
theorem bo_none : BO X G none tNoPart (fun _ n _ Q => Q none n) := ⟨po_none, fun ρ σ n B H E Qd Q S hw _ k => k none n B H (Mv.refl S.sub) S.pk hw⟩
def wPart (w : WE) : WO := fun ρ n E Q => w ρ n E fun d n' => match d with
  | .py (.int i) => Q (some i) n'
  | _ => False
theorem bo_some (h : BE X G a ta wa) : BO X G (some a) (tPart ta) (wPart wa) := ⟨po_some h.pe, fun ρ σ n B H E Qd Q S hw xw k => h.snd ρ σ n B H E _ _ S hw xw fun v d n' B' H' m pk r q => by
  match d, r, q with
  | .py (.int i), r, q =>
    cases dd_int r
    exact ⟨i, rfl, k _ n' B' H' m pk q⟩⟩
def cutD (xs : List PyData) (lo hi : Option Int) : List PyData := (xs.drop (HT.sIx xs.length 0 lo)).take (HT.sIx xs.length xs.length hi - HT.sIx xs.length 0 lo)
theorem DdA.cut {K : PySem.W.Frag} {H : Hp} {vs : List V} {ds : List PyData} (h : DdA K H vs ds) (lo hi : Option Int) : DdA K H (cutV vs lo hi) (cutD ds lo hi) := by
  unfold cutV cutD
  rw [h.len]
  exact (h.drop _).take _
theorem cutD_len (xs : List PyData) (lo hi : Option Int) : (cutD xs lo hi).length ≤ xs.length := by
  unfold cutD
  rw [List.length_take, List.length_drop]
  omega
variable {lo hi : Option Expr} {tl th : TO} {wlo whi : WO}
def wSlL (wl : WL) (wlo whi : WO) : WN := fun ρ n E Q => wl ρ n E fun k ds n1 => wlo ρ n1 E fun l n2 => whi ρ n2 E fun h n3 => k = false ∧ Q (cutD ds l h) n3
theorem up_none {pn : Pn} {B H B' H' : Hp} (m : Mv pn B H B' H') {p : Addr} (hp : H' p = none) : H p = none := m.kp.up hp
theorem bn_sl (ha : BL X G a ta wl) (hl : BO X G lo tl wlo) (hh : BO X G hi th whi) (hK : X.K = G.K := by rfl) : BN X G (.Subscript a (.Slice lo hi none p2) pos) (tSl (rSlL G.K) ta tl th) (wSlL wl wlo whi) :=
  ⟨pe_slice (hK ▸ sl_list) ha.pe hl.pe hh.pe, fun ρ σ n B H E Qd Q S hw xw k => ha.snd ρ σ n B H E _ _ S hw xw fun l vs kk ds n1 B1 H1 m1 pk1 hs1 hz hA q1 =>
    hl.snd ρ σ n1 B1 H1 E _ _ (S.step m1 pk1) q1 (xw.step m1) fun lo n2 B2 H2 m2 pk2 q2 =>
      hh.snd ρ σ n2 B2 H2 E _ _ (S.step (m1.trans m2) pk2) q2 (xw.step (m1.trans m2)) fun hi n3 B3 H3 m3 pk3 q3 => by
        obtain ⟨rfl, q3⟩ := q3
        have m23 := m2.trans m3
        have hs3 := hs1.step m23 pk1
        refine ⟨l, vs, rfl, SqL.of hs3, fun p hp => ?_⟩
        have m13 := m1.trans m23
        have m := Mv.newOwn (pn := none) (o := .lst (cutV vs lo hi)) m13.s hp
        exact k p _ _ n3 _ _ (m13.trans m.of) (pk3.mv m) (up_none m13 hp) (free_new (S.step m13 pk3) hp) upd_same (Nat.le_trans (cutV_length vs lo hi) hz) ((hA.mono m23.b).cut lo hi) q3⟩
def wSlT (wl : WL) (wlo whi : WO) : WE := fun ρ n E Q => wl ρ n E fun k ds n1 => wlo ρ n1 E fun l n2 => whi ρ n2 E fun h n3 => k = true ∧ Q (.py (.tuple (cutD ds l h))) n3
theorem cutD_all {xs : List PyData} {lo hi : Option Int} (h : HT.sIx xs.length 0 lo = 0 ∧ HT.sIx xs.length xs.length hi = xs.length) : cutD xs lo hi = xs := by
  unfold cutD
  rw [h.1, h.2]
  simp
theorem be_slT (ha : BL X G a ta wl) (hl : BO X G lo tl wlo) (hh : BO X G hi th whi) (hK : X.K = G.K := by rfl) : BE X G (.Subscript a (.Slice lo hi none p2) pos) (tSl (rSlA G.K) ta tl th) (wSlT wl wlo whi) :=
  ⟨pe_slice (hK ▸ sl_tupA) ha.pe hl.pe hh.pe, fun ρ σ n B H E Qd Q S hw xw k => ha.snd ρ σ n B H E _ _ S hw xw fun l vs kk ds n1 B1 H1 m1 pk1 hs1 hz hA q1 =>
    hl.snd ρ σ n1 B1 H1 E _ _ (S.step m1 pk1) q1 (xw.step m1) fun lo n2 B2 H2 m2 pk2 q2 =>
      hh.snd ρ σ n2 B2 H2 E _ _ (S.step (m1.trans m2) pk2) q2 (xw.step (m1.trans m2)) fun hi n3 B3 H3 m3 pk3 q3 => by
        obtain ⟨rfl, q3⟩ := q3
        have m23 := m2.trans m3
        have hs3 : SqT G.K B3 l vs := hs1.step m23 pk1
        have m13 := m1.trans m23
        refine ⟨l, vs, rfl, Same.t m23.s hs3, fun hw => ?_, fun hw p hp => ?_⟩
        · rw [hA.len] at hw
          rw [cutD_all hw] at q3
          exact k (.ref l) _ n3 B3 H3 m13 pk3 (r_tup hs3 (hA.mono m23.b) hz) q3
        · have m := Mv.new (pn := none) (o := .tup (cutV vs lo hi)) m13.s hp
          exact k (.ref p) _ n3 _ _ (m13.trans m.of) (pk3.mv m) (r_tup (SqT.of upd_same) (((hA.mono m23.b).cut lo hi).mono m.b) (Nat.le_trans (cutV_length vs lo hi) hz)) q3⟩
/-- t[::-1] -/
def wRevT (wl : WL) : WE := fun ρ n E Q => wl ρ n E fun k ds n1 => k = true ∧ Q (.py (.tuple ds.reverse)) n1
theorem be_revT {kk : Nat} {p4 : Pos} (ha : BL X G a ta wl) (hK : X.K = G.K := by rfl) : BE X G (.Subscript a (.Slice none none (some (.UnaryOp .USub (.Constant (.int 1) kk p2) p3)) p4) pos) (tRevT G.K ta) (wRevT wl) :=
  ⟨pe_revT ha.pe hK, fun ρ σ n B H E Qd Q S hw xw k => ha.snd ρ σ n B H E _ _ S hw xw fun l vs k2 ds n1 B1 H1 m1 pk1 hs1 hz hA q1 => by
    obtain ⟨rfl, q1⟩ := q1
    refine ⟨l, vs, rfl, Same.t m1.s hs1, fun p hp => ?_⟩
    have m := Mv.new (pn := none) (o := .tup vs.reverse) m1.s hp
    exact k (.ref p) _ n1 _ _ (m1.trans m.of) (pk1.mv m) (r_tup (SqT.of upd_same) (hA.rev.mono m.b) (by rw [List.length_reverse]; exact hz)) q1⟩
/-! ### built-ins of one argument -/
/-- by value, from a value that is told -/
def CallS (G : Cg) (r : List V → Hp → VK → Prop) (w : D → (D → Prop) → Prop) : Prop := ∀ H v d (P : D → Prop) (Q : VK) , R G H v d → w d P → (∀ v d, (∀ H', R G H' v d) → P d → Q v H) → r [v] H Q
def wCall1 (w : D → (D → Prop) → Prop) (wa : WE) : WE := fun ρ n E Q => wa ρ n E fun d n1 => w d fun z => Q z n1
theorem be_b1 {id : String} {r : List V → Hp → VK → Prop} {w : D → (D → Prop) → Prop} (hc : CallR X (.builtin id) r) (hS : CallS G r w) (hg : Gl X x) (hm : X.mg x = none) (hv : bootBuiltins x = some (.builtin id)) (ha : BF X G a ta wa) (hn : x ≠ "__name__" := by decide) (hdb : (x == ("__debug__" : Str)) = false := by decide)
    (he : starEach (a :: []) X.env = (false, eval a X.env) :: starEach [] X.env := by rfl) (hpl : (backTo pos (starEach [] X.env)).any (·.1) = false := by rfl) : BE X G (.Call (.Name x p) [a] [] pos) (tCB r (tCons ta tNil)) (wCall1 w wa) :=
  ⟨pe_callB hc hg hm hv (pa_cons ha.pe pa_nil he) hn hdb he hpl, fun ρ σ n B H E Qd Q S hw xw k => ha.snd ρ σ n B H E _ _ S hw xw fun v d n1 B1 H1 Bf m1 pk1 lk r1 q1 =>
    hS H1 v d _ _ (r1.mono lk.1) q1 fun v d hr q => k v d n1 B1 H1 m1 pk1 (hr _) q⟩
def bLen : D → (D → Prop) → Prop := fun d Q => match d with
  | .py (.list ds) => Q (.py (.int ds.length))
  | .py (.tuple ds) => Q (.py (.int ds.length))
  | _ => False
theorem cs_len : CallS G (rLenK G.K) bLen := fun H v d P Q r h k => by
  match d, r, h with
  | .py (.list ds), r, h =>
    obtain ⟨l, xs, rfl, h1, h2, _⟩ := dd_list r
    exact ⟨l, xs, rfl, .inl (SqL.of h1), by rw [h2.len]; exact k _ _ (fun _ => r_int) h⟩
  | .py (.tuple ds), r, h =>
    obtain ⟨l, xs, rfl, h1, h2, _⟩ := dd_tup r
    exact ⟨l, xs, rfl, .inr h1, by rw [h2.len]; exact k _ _ (fun _ => r_int) h⟩
theorem be_len (hg : Gl X "len") (hm : X.mg "len" = none) (ha : BF X G a ta wa) (he : starEach (a :: []) X.env = (false, eval a X.env) :: starEach [] X.env := by rfl) (hpl : (backTo pos (starEach [] X.env)).any (·.1) = false := by rfl) (hK : X.K = G.K := by rfl) :
    BE X G (.Call (.Name "len" p) [a] [] pos) (tCB (rLenK G.K) (tCons ta tNil)) (wCall1 bLen wa) := be_b1 (call_lenK hK) cs_len hg hm PySem.boot_len ha (by decide) (by decide) he hpl
theorem ints_of {K : PySem.W.Frag} {H : Hp} : ∀ {vs : List V} {ns : List Int}, DdA K H vs (ns.map PyData.int) → vs = ns.map V.int
  | _, [], .nil => rfl
  | _, n :: ns, .cons a b => by
    rw [dd_int a, ints_of b]
    rfl
theorem bls_of {K : PySem.W.Frag} {H : Hp} : ∀ {vs : List V} {ns : List Bool}, DdA K H vs (ns.map PyData.bool) → vs = ns.map V.bl
  | _, [], .nil => rfl
  | _, n :: ns, .cons a b => by
    rw [dd_bl a, bls_of b]
    rfl
/-- a list's numbers -/
def intsOf : List PyData → Option (List Int)
  | [] => some []
  | .int i :: ds => (intsOf ds).map (i :: ·)
  | _ :: _ => none
def blsOf : List PyData → Option (List Bool)
  | [] => some []
  | .bool i :: ds => (blsOf ds).map (i :: ·)
  | _ :: _ => none
theorem blsOf_map : ∀ ns : List Bool, blsOf (ns.map PyData.bool) = some ns
  | [] => rfl
  | n :: ns => by
    show (blsOf (ns.map PyData.bool)).map _ = _
    rw [blsOf_map ns]
    rfl
theorem blsOf_eq : ∀ {ds : List PyData} {ns : List Bool}, blsOf ds = some ns → ds = ns.map PyData.bool
  | [], _, e => by
    cases e
    rfl
  | .bool i :: ds, ns, e => by
    unfold blsOf at e
    cases q : blsOf ds with
    | none =>
      rw [q] at e
      cases e
    | some ms =>
      rw [q] at e
      cases e
      rw [blsOf_eq q]
      rfl
  | .none :: _, _, e => by cases e
  | .int _ :: _, _, e => by cases e
  | .str _ :: _, _, e => by cases e
  | .list _ :: _, _, e => by cases e
  | .tuple _ :: _, _, e => by cases e
  | .dict _ :: _, _, e => by cases e
def bSum : D → (D → Prop) → Prop := fun d Q => match d with
  | .py (.list ds) => (match intsOf ds with
    | some ns => Q (.py (.int ns.sum))
    | none => False)
  | _ => False
def bAll : D → (D → Prop) → Prop := fun d Q => match d with
  | .py (.list ds) => (match blsOf ds with
    | some ns => Q (.py (.bool (ns.all id)))
    | none => False)
  | _ => False
theorem cs_all : CallS G (rAll G.K) bAll := fun H v d P Q r h k => by
  match d, r, h with
  | .py (.list ds), r, h =>
    obtain ⟨l, xs, rfl, h1, h2, _⟩ := dd_list r
    cases e : blsOf ds with
    | none => simp only [bAll, e] at h
    | some ns =>
      simp only [bAll, e] at h
      rw [blsOf_eq e] at h2
      rw [bls_of h2] at h1
      exact ⟨l, ns, rfl, SqL.of h1, k _ _ (fun _ => r_bl) h⟩
theorem be_all (hc : X.calm = true) (hg : Gl X "all") (hm : X.mg "all" = none) (ha : BF X G a ta wa) (he : starEach (a :: []) X.env = (false, eval a X.env) :: starEach [] X.env := by rfl) (hpl : (backTo pos (starEach [] X.env)).any (·.1) = false := by rfl) (hK : X.K = G.K := by rfl) :
    BE X G (.Call (.Name "all" p) [a] [] pos) (tCB (rAll G.K) (tCons ta tNil)) (wCall1 bAll wa) := be_b1 (cr_allK hc hK) cs_all hg hm (by decide +kernel) ha (by decide) (by decide) he hpl
def bAny : D → (D → Prop) → Prop := fun d Q => match d with
  | .py (.list ds) => (match blsOf ds with
    | some ns => Q (.py (.bool (ns.any id)))
    | none => False)
  | _ => False
/-- the greatest of a list of numbers -/
def bMax : D → (D → Prop) → Prop := fun d Q => match d with
  | .py (.list ds) => (match intsOf ds with
    | some ns => 0 < ns.length ∧ ∀ m, m ∈ ns → (∀ y, y ∈ ns → y ≤ m) → Q (.py (.int m))
    | none => False)
  | _ => False
def bMin : D → (D → Prop) → Prop := fun d Q => match d with
  | .py (.list ds) => (match intsOf ds with
    | some ns => 0 < ns.length ∧ ∀ m, m ∈ ns → (∀ y, y ∈ ns → m ≤ y) → Q (.py (.int m))
    | none => False)
  | _ => False
def bAbs : D → (D → Prop) → Prop := fun d Q => match d with
  | .py (.int i) => Q (.py (.int (if i < 0 then -i else i)))
  | _ => False
def bIntOf : D → (D → Prop) → Prop := fun d Q => match d with
  | .py (.int i) => Q (.py (.int i))
  | .py (.bool k) => Q (.py (.int (if k then 1 else 0)))
  | _ => False
end
end Fv
set_option maxRecDepth 100000
set_option maxHeartbeats 4000000
/-! list, tuple, sorted, max, min, isinstance. -/
namespace Fv
open PySem PySem.Spec PyProof.Rows L2 Gb
section
variable {X : Cx} {G : Cg} {a b c d e f : Expr} {es rest : List Expr} {ta tb tc td te : TE} {wa wb wc wd we : WE} {pos p p2 p3 : Pos} {x : Str} {n : Nat} {t u : TT} {w v : WT} {wl : WL}
def wListOf (wl : WL) : WN := fun ρ n E Q => wl ρ n E fun _ ds n1 => Q ds n1
theorem bn_list (hg : Gl X "list") (hm : X.mg "list" = none) (ha : BL X G a ta wl) (he : starEach (a :: []) X.env = (false, eval a X.env) :: starEach [] X.env := by rfl) (hpl : (backTo pos (starEach [] X.env)).any (·.1) = false := by rfl) (hK : X.K = G.K := by rfl) :
    BN X G (.Call (.Name "list" p) [a] [] pos) (tCB (rListK G.K) (tCons ta tNil)) (wListOf wl) :=
  ⟨pe_callTy (call_listK hK) hg hm (by decide +kernel) (pa_cons ha.pe pa_nil he) (by decide) (by decide) he hpl, fun ρ σ n B H E Qd Q S hw xw k => ha.snd ρ σ n B H E _ _ S hw xw fun l vs kk ds n1 B1 H1 m1 pk1 hs1 hz hA q1 => by
    refine ⟨l, vs, rfl, hs1.or m1.s, fun q hq => ?_⟩
    have m := Mv.newOwn (pn := none) (o := .lst vs) m1.s hq
    exact k q _ _ n1 _ _ (m1.trans m.of) (pk1.mv m) (up_none m1 hq) (free_new (S.step m1 pk1) hq) upd_same hz hA q1⟩
/-- tuple(xs), xs a list -/
def wTupOf (wl : WL) : WE := fun ρ n E Q => wl ρ n E fun k ds n1 => k = false ∧ Q (.py (.tuple ds)) n1
theorem be_tupleL (hg : Gl X "tuple") (hm : X.mg "tuple" = none) (ha : BL X G a ta wl) (he : starEach (a :: []) X.env = (false, eval a X.env) :: starEach [] X.env := by rfl) (hpl : (backTo pos (starEach [] X.env)).any (·.1) = false := by rfl) (hK : X.K = G.K := by rfl) :
    BE X G (.Call (.Name "tuple" p) [a] [] pos) (tCB (rTupK G.K) (tCons ta tNil)) (wTupOf wl) :=
  ⟨pe_callTy (call_tupK hK) hg hm (by decide +kernel) (pa_cons ha.pe pa_nil he) (by decide) (by decide) he hpl, fun ρ σ n B H E Qd Q S hw xw k => ha.snd ρ σ n B H E _ _ S hw xw fun l vs kk ds n1 B1 H1 m1 pk1 hs1 hz hA q1 => by
    obtain ⟨rfl, q1⟩ := q1
    refine ⟨l, vs, rfl, .inl ⟨SqL.of hs1, fun q hq => ?_⟩⟩
    have m := Mv.new (pn := none) (o := .tup vs) m1.s hq
    exact k (.ref q) _ n1 _ _ (m1.trans m.of) (pk1.mv m) (r_tup (SqT.of upd_same) (hA.mono m.b) hz) q1⟩
/-- tuple(x), x a list or a tuple -/
def wTupE (wa : WE) : WE := fun ρ n E Q => wa ρ n E fun d n1 => match d with
  | .py (.list ds) => Q (.py (.tuple ds)) n1
  | .py (.tuple ds) => Q (.py (.tuple ds)) n1
  | _ => False
theorem be_tupleE (hg : Gl X "tuple") (hm : X.mg "tuple" = none) (ha : BE X G a ta wa) (he : starEach (a :: []) X.env = (false, eval a X.env) :: starEach [] X.env := by rfl) (hpl : (backTo pos (starEach [] X.env)).any (·.1) = false := by rfl) (hK : X.K = G.K := by rfl) :
    BE X G (.Call (.Name "tuple" p) [a] [] pos) (tCB (rTupK G.K) (tCons ta tNil)) (wTupE wa) :=
  ⟨pe_callTy (call_tupK hK) hg hm (by decide +kernel) (pa_cons ha.pe pa_nil he) (by decide) (by decide) he hpl, fun ρ σ n B H E Qd Q S hw xw k => ha.snd ρ σ n B H E _ _ S hw xw fun v d n1 B1 H1 m1 pk1 r1 q1 => by
    match d, r1, q1 with
    | .py (.list ds), r1, q1 =>
      obtain ⟨l, vs, rfl, h1, h2, hz⟩ := dd_list r1
      refine ⟨l, vs, rfl, .inl ⟨Same.lq m1.s h1, fun q hq => ?_⟩⟩
      have m := Mv.new (pn := none) (o := .tup vs) m1.s hq
      exact k (.ref q) _ n1 _ _ (m1.trans m.of) (pk1.mv m) (r_tup (SqT.of upd_same) (h2.mono m.b) hz) q1
    | .py (.tuple ds), r1, q1 =>
      obtain ⟨l, vs, rfl, h1, h2, hz⟩ := dd_tup r1
      exact ⟨l, vs, rfl, .inr ⟨Same.t m1.s h1, k _ _ n1 B1 H1 m1 pk1 r1 q1⟩⟩⟩
/-! ### max, min of two -/
def wMax2 (wa wb : WE) : WE := fun ρ n E Q => wa ρ n E fun x n1 => wb ρ n1 E fun y n2 => match x, y with
  | .py (.int i), .py (.int j) => Q (.py (.int (if j > i then j else i))) n2
  | _, _ => False
def wMin2 (wa wb : WE) : WE := fun ρ n E Q => wa ρ n E fun x n1 => wb ρ n1 E fun y n2 => match x, y with
  | .py (.int i), .py (.int j) => Q (.py (.int (if j < i then j else i))) n2
  | _, _ => False
theorem be_max2 (hc : X.calm = true) (hg : Gl X "max") (hm : X.mg "max" = none) (ha : BE X G a ta wa) (hb : BE X G b tb wb) (hs : starEach [b] X.env = (false, eval b X.env) :: starEach [] X.env := by rfl)
    (he : starEach (a :: [b]) X.env = (false, eval a X.env) :: starEach [b] X.env := by rfl) (hpl : (backTo pos (starEach [b] X.env)).any (·.1) = false := by rfl) :
    BE X G (.Call (.Name "max" p) [a, b] [] pos) (tCB (fun xs H Q => ∃ i j, xs = [.int i, .int j] ∧ Q (.int (if j > i then j else i)) H) (tCons ta (tCons tb tNil))) (wMax2 wa wb) :=
  ⟨pe_callB (call_max2 hc) hg hm (by decide +kernel) (pa_cons ha.pe (pa_cons hb.pe pa_nil hs) he) (by decide) (by decide) he hpl, fun ρ σ n B H E Qd Q S hw xw k => ha.snd ρ σ n B H E _ _ S hw xw fun v1 d1 n1 B1 H1 m1 pk1 r1 q1 =>
    hb.snd ρ σ n1 B1 H1 E _ _ (S.step m1 pk1) q1 (xw.step m1) fun v2 d2 n2 B2 H2 m2 pk2 r2 q2 => by
      match d1, d2, r1, r2, q2 with
      | .py (.int i), .py (.int j), r1, r2, q2 =>
        cases dd_int r1
        cases dd_int r2
        exact ⟨i, j, rfl, k _ _ n2 B2 H2 (m1.trans m2) pk2 r_int q2⟩⟩
/-! ### sorted -/
theorem each_zip {G : Cg} {s : Shared} {H : Hp} {pins : List (Addr × Obj)} {σ : L2.St} (I : Inv X pins σ H s) : ∀ {vs : List V} {us : List Value} {ds : List PyData}, Vals vs us → DpAll X.K H vs ds →
    PySem.W.EachIs (fun u (z : V × PyData) => RelV z.1 u ∧ z ∈ vs.zip ds) us (vs.zip ds) ∧ PySem.W.EachIs (fun u (z : V × PyData) => ∃ as, Reads s.heap u z.2 as) us (vs.zip ds)
  | [], _, _, .nil, .nil => ⟨.nil, .nil⟩
  | v :: vs, _, _, .cons r rs, .cons a as => by
    obtain ⟨h1, h2⟩ := each_zip (G := G) I rs as
    refine ⟨.cons ⟨r, List.mem_cons_self⟩ (h1.mono fun u z h => ⟨h.1, List.mem_cons_of_mem _ h.2⟩), .cons (Dp.reads I _ _ _ a r) h2⟩
def sortD (ds : List PyData) : List PyData := ds.mergeSort (PySem.W.dataLe false id)
def rSortD (K : PySem.W.Frag) : List V → Hp → VK → Prop := fun vs H Q => ∃ (l : Addr) (xs : List V) (ds : List PyData), vs = [V.ref l] ∧ SqL K H l xs ∧ DpAll K H xs ds ∧ PySem.W.AllAlike ds ∧ PySem.W.Sortable ds ∧ xs.length ≤ sizeLine ∧ PyData.depthAll ds ≤ 40 ∧
  ∀ (zs : List (V × PyData)) (p : Addr), (∀ z ∈ zs, z ∈ xs.zip ds) → zs.length = xs.length → zs.map Prod.snd = sortD ds → H p = none → Q (.ref p) (upd H p (.lst (zs.map Prod.fst)))
theorem depth_mem : ∀ {ds : List PyData} {d : PyData}, d ∈ ds → d.depth ≤ PyData.depthAll ds
  | x :: xs, d, h => by
    simp only [PyData.depthAll]
    rcases List.mem_cons.mp h with rfl | h
    · exact Nat.le_max_left _ _
    · exact Nat.le_trans (depth_mem h) (Nat.le_max_right _ _)
theorem vals_each {R : Value → V × PyData → Prop} (hR : ∀ u z, R u z → RelV z.1 u) : ∀ {us : List Value} {zs : List (V × PyData)}, PySem.W.EachIs R us zs → Vals (zs.map Prod.fst) us
  | _, _, .nil => .nil
  | _, _, .cons h t => .cons (hR _ _ h) (vals_each hR t)
theorem zip_snd : ∀ {vs : List V} {ds : List PyData}, vs.length = ds.length → (vs.zip ds).map Prod.snd = ds
  | [], [], _ => rfl
  | v :: vs, d :: ds, h => by
    rw [List.zip_cons_cons, List.map_cons, zip_snd (by simpa using h)]
  | [], _ :: _, h => by simp at h
  | _ :: _, [], h => by simp at h
theorem cr_sortD (hu : X.A.units + 64 < cLine) : CallR X (.builtin "sorted") (rSortD X.K) := by
  intro pins s σ H vs us Q I r h
  obtain ⟨l, xs, ds, rfl, hs, hd, hal, hk, hz, hdp, q⟩ := h
  obtain ⟨its, rv, hl, _⟩ := I.list hs
  rw [Vals.ref1 r]
  obtain ⟨e1, e2⟩ := each_zip (G := ⟨X.K, 0, none, fun _ _ _ _ => False, fun _ => none, H, H⟩) I rv hd
  have hlen := dpa_len hd
  have ez : (xs.zip ds).map Prod.snd = ds := zip_snd hlen
  have lz : (xs.zip ds).length = xs.length := by
    rw [List.length_zip, hlen]
    exact Nat.min_self _
  refine PySem.W.sorted_data (enc := fun z : V × PyData => z.2) hl.isList e1 e2 (by rw [show (xs.zip ds).map (fun z : V × PyData => z.2) = (xs.zip ds).map Prod.snd from rfl, ez]; exact hal) (by rw [show (xs.zip ds).map (fun z : V × PyData => z.2) = (xs.zip ds).map Prod.snd from rfl, ez]; exact hk) (by rw [lz]; exact hz) (fun b hb => ?_) fun out ho eo => ?_
  · have hb2 : b.2 ∈ ds := by
      rw [← ez]
      exact List.mem_map.mpr ⟨b, hb, rfl⟩
    have := depth_mem hb2
    show X.A.units + 2 + b.2.depth < cLine
    omega
  · obtain ⟨ep, he'⟩ := sortedAll_at s.heap its (List.toArray out)
    have hv := vals_each (fun u z h => h.1) eo
    have hl2 : ((xs.zip ds).mergeSort (PySem.W.dataLe false fun z : V × PyData => z.2)).length = xs.length := by
      rw [List.length_mergeSort, lz]
    have hq := q ((xs.zip ds).mergeSort (PySem.W.dataLe false fun z : V × PyData => z.2)) _ (fun z hz => (List.mergeSort_perm _ _).mem_iff.mp hz) hl2 (by
      show List.map Prod.snd _ = ds.mergeSort _
      refine (PySem.W.sort_maps (r := PySem.W.dataLe false fun z : V × PyData => z.2) (s := PySem.W.dataLe false id) Prod.snd (l := xs.zip ds) fun a _ b _ => rfl).trans ?_
      rw [ez]) (I.hok.fresh (Nat.le_succ _))
    have hlz : (((xs.zip ds).mergeSort (PySem.W.dataLe false fun z : V × PyData => z.2)).map Prod.fst).length ≤ sizeLine := by
      rw [List.length_map, hl2]
      exact hz
    exact ⟨.ref _, _, I.laid (t' := s.toks) (o := .lst (((xs.zip ds).mergeSort (PySem.W.dataLe false fun z : V × PyData => z.2)).map Prod.fst)) (fun _ _ => sortedAll_old) (Nat.le_succ _) ⟨hlz, out, ep, hv, he'⟩, rfl, hq⟩
/-- what can be sorted -/
structure SortsD (ds : List PyData) : Prop where
  alike : PySem.W.AllAlike ds
  able : PySem.W.Sortable ds
  depth : PyData.depthAll ds ≤ 40
  lay : PyData.canLayAll0 ds = true
def wSorted (wl : WL) : WN := fun ρ n E Q => wl ρ n E fun k ds n1 => k = false ∧ SortsD ds ∧ Q (sortD ds) n1
theorem dda_of {K : PySem.W.Frag} {H : Hp} {xs : List V} {ds : List PyData} (hA : DdA K H xs ds) : ∀ {zs : List (V × PyData)}, (∀ z ∈ zs, z ∈ xs.zip ds) → DdA K H (zs.map Prod.fst) (zs.map Prod.snd)
  | [], _ => .nil
  | z :: zs, h => by
    refine .cons ?_ (dda_of hA fun y hy => h y (List.mem_cons_of_mem _ hy))
    obtain ⟨i, hi⟩ := List.getElem?_of_mem (h z List.mem_cons_self)
    rw [List.getElem?_zip_eq_some] at hi
    obtain ⟨d, h1, h2⟩ := hA.get hi.1
    have := h1.symm.trans hi.2
    cases this
    exact h2
theorem bn_sorted (hu : X.A.units + 64 < cLine) (hg : Gl X "sorted") (hm : X.mg "sorted" = none) (ha : BL X G a ta wl) (he : starEach (a :: []) X.env = (false, eval a X.env) :: starEach [] X.env := by rfl) (hpl : (backTo pos (starEach [] X.env)).any (·.1) = false := by rfl) (hK : X.K = G.K := by rfl) :
    BN X G (.Call (.Name "sorted" p) [a] [] pos) (tCB (rSortD G.K) (tCons ta tNil)) (wSorted wl) :=
  ⟨pe_callB (hK ▸ cr_sortD hu) hg hm (by decide +kernel) (pa_cons ha.pe pa_nil he) (by decide) (by decide) he hpl, fun ρ σ n B H E Qd Q S hw xw k => ha.snd ρ σ n B H E _ _ S hw xw fun l vs kk ds n1 B1 H1 m1 pk1 hs1 hz hA q1 => by
    obtain ⟨rfl, hS, q1⟩ := q1
    refine ⟨l, vs, ds, rfl, SqL.of hs1, (hA.mono m1.s).dp hS.lay, hS.alike, hS.able, hz, hS.depth, fun zs q hmem hlz hsn hq => ?_⟩
    have m := Mv.newOwn (pn := none) (o := .lst (zs.map Prod.fst)) m1.s hq
    have hA2 := dda_of hA hmem
    rw [hsn] at hA2
    exact k q _ _ n1 _ _ (m1.trans m.of) (pk1.mv m) (up_none m1 hq) (free_new (S.step m1 pk1) hq) upd_same (by rw [List.length_map, hlz]; exact hz) hA2 q1⟩
/-! ### isinstance -/
def tyName : PyData → String
  | .none => "NoneType"
  | .bool _ => "bool"
  | .int _ => "int"
  | .str _ => "str"
  | .list _ => "list"
  | .tuple _ => "tuple"
  | .dict _ => "dict"
def okTy (T : String) : Bool := ["NoneType", "bool", "int", "str", "list", "tuple", "dict"].all fun n => (kitB n T).isSome
def isB (d : PyData) (T : String) : Bool := (kitB (tyName d) T).getD false
theorem isB_kit {T : String} (h : okTy T = true) (d : PyData) : kitB (tyName d) T = some (isB d T) := by
  have h2 : (kitB (tyName d) T).isSome = true := by
    unfold okTy at h
    rw [List.all_eq_true] at h
    refine h _ ?_
    cases d <;> simp [tyName]
  unfold isB
  cases e : kitB (tyName d) T with
  | none =>
    rw [e] at h2
    cases h2
  | some b => rfl
theorem tyx_l2 {K : PySem.W.Frag} {H : Hp} {a : Addr} {xs : List V} (h : SqL K H a xs) : TyX K H (.ref a) (.type "list") := by
  rcases h with (h | ⟨o, h⟩) | ⟨o, its, n, h, c, _⟩
  · exact .base (.lst h)
  · exact .base (.frz h)
  · exact .kList h c
theorem tyx_t2 {K : PySem.W.Frag} {H : Hp} {a : Addr} {xs : List V} (h : SqT K H a xs) : TyX K H (.ref a) (.type "tuple") := by
  rcases h with (h | ⟨o, h⟩) | ⟨o, its, n, h, c, _⟩
  · exact .base (.tup h)
  · exact .fTuple h
  · exact .kTuple h c
theorem tyx_d {K : PySem.W.Frag} {H : Hp} {v : V} {d : PyData} (h : Dd K H v d) : TyX K H v (.type (tyName d)) := by
  cases h with
  | non => exact .base .non
  | bl b => exact .base (.bl b)
  | int b => exact .base (.int b)
  | str b => exact .base (.str b)
  | lst h _ _ => exact tyx_l2 (SqL.of h)
  | tup h _ _ => exact tyx_t2 h
  | dic h _ => exact .base (.dK h)
/-- isinstance(x, T) -/
def wIsi (T : String) (wa : WE) : WE := fun ρ n E Q => wa ρ n E fun d n1 => match d with
  | .py d => Q (.py (.bool (isB d T))) n1
  | _ => False
theorem be_isi {T : String} (hT : okTy T = true) (hg : Gl X "isinstance") (hm : X.mg "isinstance" = none) (ha : BF X G a ta wa) (hb : PE X b (tC (.ty T))) (hs : starEach [b] X.env = (false, eval b X.env) :: starEach [] X.env := by rfl)
    (he : starEach (a :: [b]) X.env = (false, eval a X.env) :: starEach [b] X.env := by rfl) (hpl : (backTo pos (starEach [b] X.env)).any (·.1) = false := by rfl) (hK : X.K = G.K := by rfl) :
    BE X G (.Call (.Name "isinstance" p) [a, b] [] pos) (tCB (rIsi G.K) (tCons ta (tCons (tC (.ty T)) tNil))) (wIsi T wa) :=
  ⟨pe_callB (hK ▸ call_isi) hg hm (by decide +kernel) (pa_cons ha.pe (pa_cons hb pa_nil hs) he) (by decide) (by decide) he hpl, fun ρ σ n B H E Qd Q S hw xw k => ha.snd ρ σ n B H E _ _ S hw xw fun v1 d1 n1 B1 H1 Bf m1 pk1 lk r1 q1 => by
    match d1, r1, q1 with
    | .py d, r1, q1 => exact ⟨v1, .ty T, .type (tyName d), .type T, isB d T, rfl, .ty T, tyx_d (r1.mono lk.1), kit_ty (isB_kit hT d), k _ _ n1 B1 H1 m1 pk1 r_bl q1⟩⟩
/-- isinstance(x, (T1, T2)) -/
def wIsi2 (T T' : String) (wa : WE) : WE := fun ρ n E Q => wa ρ n E fun d n1 => match d with
  | .py d => Q (.py (.bool (isB d T || isB d T'))) n1
  | _ => False
theorem be_isi2 {T T' : String} {c1 c2 : Expr} {kt : Nat} (hT : okTy T = true) (hT' : okTy T' = true) (hg : Gl X "isinstance") (hm : X.mg "isinstance" = none) (ha : BF X G a ta wa) (h1 : PE X c1 (tC (.ty T))) (h2 : PE X c2 (tC (.ty T')))
    (hs : starEach [.Tuple [c1, c2] kt p2] X.env = (false, eval (.Tuple [c1, c2] kt p2) X.env) :: starEach [] X.env := by rfl) (s1 : starEach [c1, c2] X.env = (false, eval c1 X.env) :: starEach [c2] X.env := by rfl) (s2 : starEach [c2] X.env = (false, eval c2 X.env) :: starEach [] X.env := by rfl)
    (he : starEach (a :: [.Tuple [c1, c2] kt p2]) X.env = (false, eval a X.env) :: starEach [.Tuple [c1, c2] kt p2] X.env := by rfl) (hpl : (backTo pos (starEach [.Tuple [c1, c2] kt p2] X.env)).any (·.1) = false := by rfl) (hK : X.K = G.K := by rfl) :
    BE X G (.Call (.Name "isinstance" p) [a, .Tuple [c1, c2] kt p2] [] pos) (tCB (rIsiT G.K) (tCons ta (tCons (tTup (tCons (tC (.ty T)) (tCons (tC (.ty T')) tNil))) tNil))) (wIsi2 T T' wa) :=
  ⟨pe_callB (hK ▸ call_isiT) hg hm (by decide +kernel) (pa_cons ha.pe (pa_cons (pe_tup (pa_cons h1 (pa_cons h2 pa_nil s2) s1)) pa_nil hs) he) (by decide) (by decide) he hpl, fun ρ σ n B H E Qd Q S hw xw k => ha.snd ρ σ n B H E _ _ S hw xw fun v1 d1 n1 B1 H1 Bf m1 pk1 lk r1 q1 => by
    match d1, r1, q1 with
    | .py d, r1, q1 =>
      refine ⟨by show 2 ≤ sizeLine; decide, fun q hq => ?_⟩
      have m := Mv.newOwn (pn := none) (o := .tup [.ty T, .ty T']) m1.s hq
      refine ⟨v1, q, _, .type (tyName d), [.type T, .type T'], (isB d T || isB d T'), rfl, upd_same, .cons (.ty _) (.cons (.ty _) .nil), tyx_d (Dd.mono m.kp (r1.mono lk.1)), ?_, k _ _ n1 B1 _ (m1.trans m.of) (pk1.mv m) r_bl q1⟩
      refine kitAny_cons (kit_ty (isB_kit hT d)) (fun e1 => ?_) fun e1 => by rw [e1]; rfl
      rw [e1]
      exact kitAny_cons (kit_ty (isB_kit hT' d)) (fun e2 => by rw [e2]; rfl) fun e2 => by rw [e2]; rfl⟩
end
end Fv
set_option maxRecDepth 100000
set_option maxHeartbeats 4000000
/-! Targets, what a for walks, list comprehensions. -/
namespace Fv
open PySem PySem.Spec PyProof.Rows L2 Gb
/-! ### targets -/
def Only (is : List Nat) (σ σ' : L2.St) : Prop := σ'.length = σ.length ∧ ∀ i, i ∉ is → σ'[i]? = σ[i]?
theorem Only.refl {is : List Nat} {σ : L2.St} : Only is σ σ := ⟨rfl, fun _ _ => rfl⟩
theorem Only.trans {is js : List Nat} {σ σ1 σ2 : L2.St} (a : Only is σ σ1) (b : Only js σ1 σ2) : Only (is ++ js) σ σ2 :=
  ⟨b.1.trans a.1, fun i h => (b.2 i fun z => h (List.mem_append_right _ z)).trans (a.2 i fun z => h (List.mem_append_left _ z))⟩
/-- .. and no further list of one's own -/
structure OnlyB (is : List Nat) (ρ : List Sl) (σ : L2.St) (ρ' : List Sl) (σ' : L2.St) : Prop where
  o : Only is σ σ'
  w : ∀ j, ownAt ρ' j → ownAt ρ j ∧ σ'[j]? = σ[j]?
  g : ∀ a, ghost ρ' a → ghost ρ a
theorem OnlyB.refl {is : List Nat} {ρ : List Sl} {σ : L2.St} : OnlyB is ρ σ ρ σ := ⟨Only.refl, fun _ h => ⟨h, rfl⟩, fun _ h => h⟩
theorem OnlyB.trans {is js : List Nat} {ρ ρ1 ρ2 : List Sl} {σ σ1 σ2 : L2.St} (a_ : OnlyB is ρ σ ρ1 σ1) (b : OnlyB js ρ1 σ1 ρ2 σ2) : OnlyB (is ++ js) ρ σ ρ2 σ2 := ⟨a_.o.trans b.o, fun j h => by
  obtain ⟨h1, h2⟩ := b.w j h
  obtain ⟨h3, h4⟩ := a_.w j h1
  exact ⟨h3, h2.trans h4⟩, fun a h => a_.g a (b.g a h)⟩
theorem own_set {ρ : List Sl} {σ : L2.St} {i j : Nat} {v : V} {d : D} (h : ownAt (ρ.set i (.val d)) j) : ownAt ρ j ∧ (σ.set i (some v))[j]? = σ[j]? := by
  obtain ⟨x, hx, ox⟩ := h
  by_cases e : i = j
  · subst e
    rw [List.getElem?_set_self'] at hx
    cases q : ρ[i]? with
    | none =>
      rw [q] at hx
      cases hx
    | some y =>
      rw [q] at hx
      have : Sl.val d = x := Option.some.inj hx
      rw [← this] at ox
      cases ox
  · rw [List.getElem?_set_ne e] at hx
    exact ⟨⟨x, hx, ox⟩, List.getElem?_set_ne e⟩
abbrev WG := D → List Sl → (List Sl → Prop) → Prop
def SndG (G : Cg) (g : TG) (w : WG) (is : List Nat) : Prop := ∀ ρ σ n B H v d (Qd : List Sl → Prop) (Q : L2.St → Hp → Prop), St G n B H ρ σ → R G B v d → w d ρ Qd →
  (∀ ρ' σ', St G n B H ρ' σ' → OnlyB is ρ σ ρ' σ' → Qd ρ' → Q σ' H) → g v σ H Q
structure BG (X : Cx) (G : Cg) (e : Expr) (g : TG) (w : WG) (is : List Nat) : Prop where
  pg : PG X e g
  snd : SndG G g w is
theorem mat_at {ρ : List Sl} {i j : Nat} {s : Sl} {t : Bool} {l : Addr} {rows : Rws} (ns : ∀ t l rows, s ≠ .mat t l rows) (h : (ρ.set i s)[j]? = some (.mat t l rows)) : j ≠ i ∧ ρ[j]? = some (.mat t l rows) := by
  by_cases e : i = j
  · subst e
    rw [List.getElem?_set_self'] at h
    cases q : ρ[i]? with
    | none =>
      rw [q] at h
      cases h
    | some y =>
      rw [q] at h
      exact absurd (Option.some.inj h) (ns t l rows)
  · rw [List.getElem?_set_ne e] at h
    exact ⟨Ne.symm e, h⟩
theorem mat_setS {ρ : List Sl} {i : Nat} {s : Sl} (ns : ∀ t l rows, s ≠ .mat t l rows) {a : Addr} (h : ghost (ρ.set i s) a) : ghost ρ a := by
  obtain ⟨j, t, l, rows, h1, h2⟩ := h
  exact ⟨j, t, l, rows, (mat_at ns h1).2, h2⟩
theorem mat_set {ρ : List Sl} {i : Nat} {d : D} {a : Addr} (h : ghost (ρ.set i (.val d)) a) : ghost ρ a := mat_setS (fun _ _ _ => by intro z; cases z) h
/-- a slot gets a value -/
theorem St.set {G : Cg} {n : Nat} {B H : Hp} {ρ : List Sl} {σ : L2.St} (S : St G n B H ρ σ) {i : Nat} {v : V} {d : D} (r : R G B v d) : St G n B H (ρ.set i (.val d)) (σ.set i (some v)) := by
  have old : ∀ {j : Nat} {x : Sl}, x ≠ .val d → (ρ.set i (.val d))[j]? = some x → ρ[j]? = some x ∧ (σ.set i (some v))[j]? = σ[j]? := fun {j x} nx h => by
    by_cases e : i = j
    · subst e
      rw [List.getElem?_set_self'] at h
      cases q : ρ[i]? with
      | none =>
        rw [q] at h
        cases h
      | some y =>
        rw [q] at h
        exact absurd (Option.some.inj h).symm nx
    · rw [List.getElem?_set_ne e] at h
      exact ⟨h, List.getElem?_set_ne e⟩
  refine ⟨S.mv, S.pk, by rw [List.length_set, List.length_set]; exact S.len, fun j z h => ?_, fun j ds h => ?_, fun j ks h => ?_, fun j k l ne hj hk e => ?_, S.mat.sub (fun j t l rows h => old (x := .mat t l rows) (fun z => by cases z) h) (fun j hj => own_set hj)⟩
  · by_cases e : i = j
    · subst e
      have hi : i < ρ.length := by
        have := (List.getElem?_eq_some_iff.mp h).1
        rwa [List.length_set] at this
      rw [List.getElem?_set_self hi] at h
      cases h
      exact ⟨v, List.getElem?_set_self (by rw [← S.len]; exact hi), r⟩
    · rw [List.getElem?_set_ne e] at h
      obtain ⟨w, h1, h2⟩ := S.val j z h
      exact ⟨w, by rw [List.getElem?_set_ne e]; exact h1, h2⟩
  · obtain ⟨h1, h2⟩ := old (x := .own ds) (fun z => by cases z) h
    rw [h2]
    exact S.own j ds h1
  · obtain ⟨h1, h2⟩ := old (x := .dow ks) (fun z => by cases z) h
    rw [h2]
    exact S.dow j ks h1
  · have ow : ∀ {j : Nat}, ownAt (ρ.set i (.val d)) j → ownAt ρ j ∧ (σ.set i (some v))[j]? = σ[j]? := fun {j} ⟨x, hx, ox⟩ => by
      obtain ⟨h1, h2⟩ := old (x := x) (fun z => by rw [z] at ox; cases ox) hx
      exact ⟨⟨x, h1, ox⟩, h2⟩
    obtain ⟨a1, a2⟩ := ow hj
    obtain ⟨b1, b2⟩ := ow hk
    rw [a2] at e
    rw [b2]
    exact S.dis j k l ne a1 b1 e
section
variable {X : Cx} {G : Cg} {a b c d e f : Expr} {es rest : List Expr} {ta tb tc td te : TE} {wa wb wc wd we : WE} {pos p p2 p3 : Pos} {x : Str} {n : Nat} {t u : TT} {w v : WT} {wl : WL}
def wgNm (i : Nat) : WG := fun d ρ Q => Q (ρ.set i (.val d))
theorem bg_nm {i : Nat} (h : PG X a (gName i)) : BG X G a (gName i) (wgNm i) [i] := ⟨h, fun ρ σ n B H v d Qd Q S r hw k => k _ _ (S.set r) ⟨⟨List.length_set, fun j hj => by
  have : i ≠ j := fun z => hj (by rw [z]; exact List.mem_singleton.mpr rfl)
  exact List.getElem?_set_ne this⟩, fun j h => own_set h, fun a h => mat_set h⟩ hw⟩
abbrev WGs := List PyData → List Sl → (List Sl → Prop) → Prop
def SndGs (G : Cg) (g : TGs) (w : WGs) (is : List Nat) : Prop := ∀ ρ σ n B H vs ds (Qd : List Sl → Prop) (Q : L2.St → Hp → Prop), St G n B H ρ σ → DdA G.K B vs ds → w ds ρ Qd →
  (∀ ρ' σ', St G n B H ρ' σ' → OnlyB is ρ σ ρ' σ' → Qd ρ' → Q σ' H) → g vs σ H Q
structure BGs (X : Cx) (G : Cg) (es : List Expr) (g : TGs) (w : WGs) (is : List Nat) : Prop where
  pg : PGs X es g
  snd : SndGs G g w is
def wgNil : WGs := fun ds ρ Q => ds = [] ∧ Q ρ
def wgCons (w : WG) (ws : WGs) : WGs := fun ds ρ Q => match ds with
  | d :: ds => w (.py d) ρ fun ρ' => ws ds ρ' Q
  | [] => False
theorem bgs_nil : BGs X G [] gNil wgNil [] := ⟨pgs_nil, fun ρ σ n B H vs ds Qd Q S hA hw k => by
  obtain ⟨rfl, hw⟩ := hw
  cases hA
  exact ⟨rfl, k _ _ S OnlyB.refl hw⟩⟩
theorem bgs_cons {g : TG} {gs : TGs} {w : WG} {ws : WGs} {is js : List Nat} (h : BG X G a g w is) (h2 : BGs X G es gs ws js) (hp : PGs X (a :: es) (gCons g gs)) : BGs X G (a :: es) (gCons g gs) (wgCons w ws) (is ++ js) :=
  ⟨hp, fun ρ σ n B H vs ds Qd Q S hA hw k => by
    match ds, hA, hw with
    | d :: ds, .cons (v := v) (vs := vs) r rs, hw =>
      exact ⟨v, vs, rfl, h.snd ρ σ n B H v (.py d) _ _ S r hw fun ρ1 σ1 S1 o1 q1 => h2.snd ρ1 σ1 n B H vs ds _ _ S1 rs q1 fun ρ2 σ2 S2 o2 q2 => k ρ2 σ2 S2 (o1.trans o2) q2⟩⟩
def wgTup (n : Nat) (ws : WGs) : WG := fun d ρ Q => match d with
  | .py (.tuple ds) => ds.length = n ∧ ws ds ρ Q
  | _ => False
theorem bg_tup {m kk : Nat} {gs : TGs} {ws : WGs} {is : List Nat} (h : BGs X G es gs ws is) (hp : PG X (.Tuple es kk pos) (gTup G.K m gs)) : BG X G (.Tuple es kk pos) (gTup G.K m gs) (wgTup m ws) is :=
  ⟨hp, fun ρ σ n B H v d Qd Q S r hw k => by
    match d, r, hw with
    | .py (.tuple ds), r, hw =>
      obtain ⟨l, vs, rfl, h1, h2, _⟩ := dd_tup r
      exact ⟨l, vs, rfl, Same.t S.sub h1, by rw [h2.len]; exact hw.1, h.snd ρ σ n B H vs ds _ _ S h2 hw.2 k⟩⟩
/-! ### what is walked -/
/-- J yields these, as long as what was told stays -/
def Yl (G : Cg) (J : It) (B1 : Hp) (ds : List D) : Prop := ∀ Bc Hc, Same B1 Bc → Same Bc Hc →
  (∀ i, i < ds.length → J.go i Hc) ∧ J.stop ds.length Hc ∧ ∀ i x H', i < ds.length → J.yld i Hc x H' → ∃ B' d, ds[i]? = some d ∧ Mv none Bc Hc B' H' ∧ R G B' x d
abbrev WI := List Sl → Nat → XQ → (List D → Nat → Prop) → Prop
def SndI (G : Cg) (t : TI) (w : WI) : Prop := ∀ ρ σ n B H E (Qd : List D → Nat → Prop) (Q : It → Hp → Prop), St G n B H ρ σ → w ρ n E Qd → XW G σ B H E →
  (∀ J ds n' B' H', Mv G.pn B H B' H' → Pk G.pn n' B' H' → Yl G J B' ds → ds.length ≤ sizeLine → Qd ds n' → Q J H') → t σ H Q
structure BI (X : Cx) (G : Cg) (tg e : Expr) (t : TI) (w : WI) : Prop where
  pi : PI X tg e t
  snd : SndI G t w
def iSeq (K : PySem.W.Frag) (tl : TE) : TI := fun σ H Q => tl σ H fun v H1 => ∃ l : Addr, v = .ref l ∧ (((∃ xs, SqL K H1 l xs) ∧ Q (Itl K l) H1) ∨ ((∃ xs, SqT K H1 l xs) ∧ Q (Itt K l) H1))
theorem pi_seq {tg : Expr} (h : PE X a ta) : PI X tg a (iSeq X.K ta) := by
  constructor
  intro pins s σ H Q I hq
  refine thn (h.run pins s σ H _ I hq) fun u s1 hx => ?_
  obtain ⟨v, H1, I1, rv, l, ev, hq⟩ := hx
  subst ev
  cases rv
  have at_ : ∀ b ∈ [s1.heap.objs.size], FpOk X pins H1 b := fun b hb => by
    rw [List.mem_singleton.mp hb]
    exact I1.fpOk (Nat.le_refl _) (I1.hok.fresh (Nat.le_refl _))
  rcases hq with ⟨⟨xs, hs⟩, hq⟩ | ⟨⟨xs, hs⟩, hq⟩
  · obtain ⟨its, _, pl, _⟩ := I1.list hs
    exact wpAny_pyIter_list pl.isList ⟨_, _, _, _, H1, rfl, I1.kept (t' := s1.toks) fun _ _ z => Heap.get?_push_of_some _ z, turn_list l s1.heap.objs.size, ⟨_, Heap.get?_push_size _ rfl, rfl, rfl⟩, at_, hq⟩
  · obtain ⟨its, _, pt, _⟩ := I1.tuple hs
    exact wpAny_pyIter_tuple (show s1.heap.IsTuple l its.toArray from pt) ⟨_, _, _, _, H1, rfl, I1.kept (t' := s1.toks) fun _ _ z => Heap.get?_push_of_some _ z, turn_tuple l s1.heap.objs.size, ⟨_, Heap.get?_push_size _ rfl, rfl, rfl⟩, at_, hq⟩
def wISeq (wa : WE) : WI := fun ρ n E Q => wa ρ n E fun d n1 => match d with
  | .py (.list ds) => Q (ds.map D.py) n1
  | .py (.tuple ds) => Q (ds.map D.py) n1
  | _ => False
theorem yl_list {J : It} {B1 : Hp} {vs : List V} {ds : List PyData} (hA : DdA G.K B1 vs ds) (hg : ∀ Hc i x, Same B1 Hc → vs[i]? = some x → J.go i Hc) (hst : ∀ Hc, Same B1 Hc → J.stop vs.length Hc) (hy : ∀ Hc i x H', Same B1 Hc → J.yld i Hc x H' → H' = Hc ∧ vs[i]? = some x) : Yl G J B1 (ds.map D.py) := by
  intro Bc Hc e1 e2
  have e := e1.trans e2
  refine ⟨fun i hi => ?_, ?_, fun i x H' hi y => ?_⟩
  · rw [List.length_map, ← hA.len] at hi
    exact hg Hc i _ e (List.getElem?_eq_getElem hi)
  · rw [List.length_map, ← hA.len]
    exact hst Hc e
  · obtain ⟨rfl, hx⟩ := hy Hc i x H' e y
    obtain ⟨d, h1, h2⟩ := hA.get hx
    exact ⟨Bc, .py d, by rw [List.getElem?_map, h1]; rfl, Mv.refl e2, h2.mono e1⟩
theorem bi_seq {tg : Expr} (ha : BE X G a ta wa) (hK : X.K = G.K := by rfl) : BI X G tg a (iSeq G.K ta) (wISeq wa) :=
  ⟨hK ▸ pi_seq ha.pe, fun ρ σ n B H E Qd Q S hw xw k => ha.snd ρ σ n B H E _ _ S hw xw fun v d n1 B1 H1 m1 pk1 r1 q1 => by
    match d, r1, q1 with
    | .py (.list ds), r1, q1 =>
      obtain ⟨l, vs, rfl, h1, h2, hz⟩ := dd_list r1
      exact ⟨l, rfl, .inl ⟨⟨vs, Same.lq m1.s h1⟩, k _ _ n1 B1 H1 m1 pk1 (yl_list h2 (fun Hc i x e hx => ⟨vs, x, Same.lq e h1, hx⟩) (fun Hc e => ⟨vs, Same.lq e h1, Nat.le_refl _⟩) fun Hc i x H' e y => ⟨y.1, y.2 vs (Same.lq e h1)⟩) (by rw [List.length_map, ← h2.len]; exact hz) q1⟩⟩
    | .py (.tuple ds), r1, q1 =>
      obtain ⟨l, vs, rfl, h1, h2, hz⟩ := dd_tup r1
      exact ⟨l, rfl, .inr ⟨⟨vs, Same.t m1.s h1⟩, k _ _ n1 B1 H1 m1 pk1 (yl_list h2 (fun Hc i x e hx => ⟨vs, x, Same.t e h1, hx⟩) (fun Hc e => ⟨vs, Same.t e h1, Nat.le_refl _⟩) fun Hc i x H' e y => ⟨y.1, y.2 vs (Same.t e h1)⟩) (by rw [List.length_map, ← h2.len]; exact hz) q1⟩⟩⟩
def rngD (lo : Int) (n : Nat) : List D := (List.range n).map fun (k : Nat) => .py (.int (lo + (k : Int)))
theorem yl_rng {B1 : Hp} {lo : Int} {m : Nat} : Yl G (Itr lo m) B1 (rngD lo m) := by
  have hl : (rngD lo m).length = m := by
    unfold rngD
    rw [List.length_map, List.length_range]
  intro Bc Hc e1 e2
  refine ⟨fun i hi => by rw [hl] at hi; exact hi, by rw [hl]; exact Nat.le_refl _, fun i x H' hi y => ?_⟩
  obtain ⟨rfl, rfl⟩ := y
  rw [hl] at hi
  exact ⟨Bc, .py (.int (lo + (i : Int))), by unfold rngD; rw [List.getElem?_map, List.getElem?_range hi]; rfl, Mv.refl e2, r_int⟩
def wIR1 (wa : WE) : WI := fun ρ n E Q => wa ρ n E fun d n1 => match d with
  | .py (.int j) => j ≤ 100000 ∧ -(2 ^ 62) ≤ j ∧ Q (rngD 0 j.toNat) n1
  | _ => False
theorem rngD_len {lo : Int} {m : Nat} : (rngD lo m).length = m := by
  unfold rngD
  rw [List.length_map, List.length_range]
theorem bi_rng1 {tg : Expr} (hg : Gl X "range") (hm : X.mg "range" = none) (ha : BE X G a ta wa) (hs : starEach [a] X.env = [(false, eval a X.env)] := by rfl) : BI X G tg (.Call (.Name "range" p) [a] [] pos) (iRng1 (tCons ta tNil)) (wIR1 wa) :=
  ⟨pi_range1 hg hm (pa_cons ha.pe pa_nil hs) hs, fun ρ σ n B H E Qd Q S hw xw k => ha.snd ρ σ n B H E _ _ S hw xw fun v d n1 B1 H1 m1 pk1 r1 q1 => by
    match d, r1, q1 with
    | .py (.int j), r1, q1 =>
      cases dd_int r1
      exact ⟨j, rfl, q1.2.1, by omega, k _ _ n1 B1 H1 m1 pk1 yl_rng (by rw [rngD_len]; exact line5 (by omega)) q1.2.2⟩⟩
def wIR2 (wa wb : WE) : WI := fun ρ n E Q => wa ρ n E fun d n1 => wb ρ n1 E fun d2 n2 => match d, d2 with
  | .py (.int i), .py (.int j) => (-(2 ^ 62) ≤ i ∧ i < 2 ^ 62 ∧ -(2 ^ 62) ≤ j ∧ j < 2 ^ 62) ∧ j - i ≤ 100000 ∧ Q (rngD i (j - i).toNat) n2
  | _, _ => False
/-- two lists, two tuples, a list and a tuple, their items in pairs -/
def zipD (ds es : List PyData) : List D := (ds.zip es).map fun z => .py (.tuple [z.1, z.2])
theorem yl_zip {J : It} {B1 : Hp} {vs us : List V} {ds es : List PyData} (hA : DdA G.K B1 vs ds) (hB : DdA G.K B1 us es) (hg : ∀ Hc i x y, Same B1 Hc → vs[i]? = some x → us[i]? = some y → J.go i Hc) (hst : ∀ Hc i, Same B1 Hc → i ≤ vs.length → i ≤ us.length → (i = vs.length ∨ i = us.length) → J.stop i Hc)
    (hy : ∀ Hc i x H', Same B1 Hc → J.yld i Hc x H' → ∃ T y z, x = .ref T ∧ Hc T = none ∧ H' = upd Hc T (.tup [y, z]) ∧ vs[i]? = some y ∧ us[i]? = some z) : Yl G J B1 (zipD ds es) := by
  have hl : (zipD ds es).length = min vs.length us.length := by
    unfold zipD
    rw [List.length_map, List.length_zip, hA.len, hB.len]
  intro Bc Hc e1 e2
  have e := e1.trans e2
  refine ⟨fun i hi => ?_, ?_, fun i x H' hi yy => ?_⟩
  · rw [hl] at hi
    exact hg Hc i _ _ e (List.getElem?_eq_getElem (by omega)) (List.getElem?_eq_getElem (by omega))
  · rw [hl]
    exact hst Hc _ e (by omega) (by omega) (by omega)
  · obtain ⟨T, y, z, rfl, hT, rfl, h1, h2⟩ := hy Hc i x H' e yy
    obtain ⟨d1, g1, r1⟩ := hA.get h1
    obtain ⟨d2, g2, r2⟩ := hB.get h2
    have m := Mv.new (pn := none) (o := .tup [y, z]) e2 hT
    exact ⟨_, .py (.tuple [d1, d2]), by unfold zipD; rw [List.getElem?_map, (List.getElem?_zip_eq_some (z := (d1, d2))).mpr ⟨g1, g2⟩]; rfl, m, r_tup (SqT.of upd_same) (.cons ((r1.mono e1).mono m.b) (.cons ((r2.mono e1).mono m.b) .nil)) (by show 2 ≤ sizeLine; decide)⟩
def wIZip (ka kb : Bool) (wa wb : WE) : WI := fun ρ n E Q => wa ρ n E fun d n1 => wb ρ n1 E fun d2 n2 => match ka, kb, d, d2 with
  | false, false, .py (.list xs), .py (.list ys) => Q (zipD xs ys) n2
  | true, true, .py (.tuple xs), .py (.tuple ys) => Q (zipD xs ys) n2
  | false, true, .py (.list xs), .py (.tuple ys) => Q (zipD xs ys) n2
  | _, _, _, _ => False
theorem zip_len {vs us : List V} {ds es : List PyData} {B : Hp} (hA : DdA G.K B vs ds) (hB : DdA G.K B us es) (hz : vs.length ≤ sizeLine) : (zipD ds es).length ≤ sizeLine := by
  unfold zipD
  rw [List.length_map, List.length_zip, ← hA.len]
  exact Nat.le_trans (Nat.min_le_left _ _) hz
theorem bi_zipLT {elts : List Expr} {kk : Nat} {tpos : Pos} (hg : Gl X "zip") (hm : X.mg "zip" = none) (ha : BE X G a ta wa) (hb : BE X G b tb wb) (hp : PI X (.Tuple elts kk tpos) (.Call (.Name "zip" p) [a, b] [] pos) (iZipLT G.K (tCons ta (tCons tb tNil)))) :
    BI X G (.Tuple elts kk tpos) (.Call (.Name "zip" p) [a, b] [] pos) (iZipLT G.K (tCons ta (tCons tb tNil))) (wIZip false true wa wb) :=
  ⟨hp, fun ρ σ n B H E Qd Q S hw xw k => ha.snd ρ σ n B H E _ _ S hw xw fun v d n1 B1 H1 m1 pk1 r1 q1 =>
    hb.snd ρ σ n1 B1 H1 E _ _ (S.step m1 pk1) q1 (xw.step m1) fun v2 d2 n2 B2 H2 m2 pk2 r2 q2 => by
      match d, d2, r1, r2, q2 with
      | .py (.list xs), .py (.tuple ys), r1, r2, q2 =>
        obtain ⟨l, vs, rfl, h1, h2, hz⟩ := dd_list (r1.mono m2.b)
        obtain ⟨l2, us, rfl, g1, g2, hz2⟩ := dd_tup r2
        exact ⟨l, l2, vs, us, rfl, Same.lq m2.s h1, Same.t m2.s g1, k _ _ n2 B2 H2 (m1.trans m2) pk2 (yl_zip h2 g2 (fun Hc i x y e hx hy => ⟨vs, us, x, y, Same.lq e h1, Same.t e g1, hx, hy⟩) (fun Hc i e l1 l2 l3 => ⟨vs, us, Same.lq e h1, Same.t e g1, by omega⟩) fun Hc i x H' e y => by
          obtain ⟨T, y1, z1, q1, q2, q3, q4, q5⟩ := y
          exact ⟨T, y1, z1, q1, q2, q3, q4 vs (Same.lq e h1), q5 us (Same.t e g1)⟩) (zip_len h2 g2 hz) q2⟩⟩
/-- a list's items with their places -/
def enumD (ds : List PyData) : List D := (ds.zipIdx).map fun z => .py (.tuple [.int (z.2 : Int), z.1])
def wIEnum (wa : WE) : WI := fun ρ n E Q => wa ρ n E fun d n1 => match d with
  | .py (.list xs) => Q (enumD xs) n1
  | _ => False
end
end Fv
set_option maxRecDepth 100000
set_option maxHeartbeats 4000000
/-! List comprehensions. -/
namespace Fv
open PySem PySem.Spec PyProof.Rows L2 Gb
def wipeB (ρ : List Sl) : List Nat → List Sl
  | [] => ρ
  | v :: vs => (wipeB ρ vs).set v .no
theorem St.drop {G : Cg} {n : Nat} {B H : Hp} {ρ : List Sl} {σ : L2.St} (S : St G n B H ρ σ) (i : Nat) : St G n B H (ρ.set i .no) (σ.set i none) := by
  have old : ∀ {j : Nat} {x : Sl}, x ≠ .no → (ρ.set i .no)[j]? = some x → ρ[j]? = some x ∧ (σ.set i none)[j]? = σ[j]? := fun {j x} nx h => by
    by_cases e : i = j
    · subst e
      rw [List.getElem?_set_self'] at h
      cases q : ρ[i]? with
      | none =>
        rw [q] at h
        cases h
      | some y =>
        rw [q] at h
        exact absurd (Option.some.inj h).symm nx
    · rw [List.getElem?_set_ne e] at h
      exact ⟨h, List.getElem?_set_ne e⟩
  refine ⟨S.mv, S.pk, by rw [List.length_set, List.length_set]; exact S.len, fun j z h => ?_, fun j ds h => ?_, fun j ks h => ?_, fun j k l ne hj hk e => ?_, S.mat.sub (fun j t l rows h => old (x := .mat t l rows) (fun z => by cases z) h) (fun j ⟨x, hx, ox⟩ => by
    obtain ⟨h1, h2⟩ := old (x := x) (fun z => by rw [z] at ox; cases ox) hx
    exact ⟨⟨x, h1, ox⟩, h2⟩)⟩
  · obtain ⟨h1, h2⟩ := old (x := .val z) (fun z => by cases z) h
    rw [h2]
    exact S.val j z h1
  · obtain ⟨h1, h2⟩ := old (x := .own ds) (fun z => by cases z) h
    rw [h2]
    exact S.own j ds h1
  · obtain ⟨h1, h2⟩ := old (x := .dow ks) (fun z => by cases z) h
    rw [h2]
    exact S.dow j ks h1
  · have ow : ∀ {j : Nat}, ownAt (ρ.set i .no) j → ownAt ρ j ∧ (σ.set i none)[j]? = σ[j]? := fun {j} ⟨x, hx, ox⟩ => by
      obtain ⟨h1, h2⟩ := old (x := x) (fun z => by rw [z] at ox; cases ox) hx
      exact ⟨⟨x, h1, ox⟩, h2⟩
    obtain ⟨a1, a2⟩ := ow hj
    obtain ⟨b1, b2⟩ := ow hk
    rw [a2] at e
    rw [b2]
    exact S.dis j k l ne a1 b1 e
theorem St.wipe {G : Cg} {n : Nat} {B H : Hp} {ρ : List Sl} {σ : L2.St} (S : St G n B H ρ σ) : ∀ vs : List Nat, St G n B H (wipeB ρ vs) (L2.wipe σ vs)
  | [] => S
  | v :: vs => (S.wipe vs).drop v
theorem wipe_get (σ : L2.St) : ∀ (vs : List Nat) (i : Nat), (L2.wipe σ vs)[i]? = if i ∈ vs then (if i < σ.length then some none else none) else σ[i]?
  | [], i => by
    rw [if_neg (by simp)]
    rfl
  | v :: vs, i => by
    unfold L2.wipe
    by_cases e : v = i
    · subst e
      rw [if_pos List.mem_cons_self]
      by_cases hl : v < σ.length
      · rw [List.getElem?_set_self (by rw [wipe_length]; exact hl), if_pos hl]
      · rw [List.getElem?_eq_none (by rw [List.length_set, wipe_length]; omega), if_neg hl]
    · rw [List.getElem?_set_ne e, wipe_get σ vs i]
      by_cases h : i ∈ vs
      · rw [if_pos h, if_pos (List.mem_cons_of_mem _ h)]
      · rw [if_neg h, if_neg (fun z => (List.mem_cons.mp z).elim (fun q => e q.symm) h)]
theorem wipe_only {σ σ2 : L2.St} {is vs : List Nat} (h : Only is (L2.wipe σ vs) σ2) (hs : ∀ i ∈ is, i ∈ vs) : L2.wipe σ2 vs = L2.wipe σ vs := by
  apply List.ext_getElem?
  intro i
  rw [wipe_get, wipe_get]
  have hl : σ2.length = σ.length := by rw [h.1, wipe_length]
  by_cases hi : i ∈ vs
  · rw [if_pos hi, if_pos hi, hl]
  · rw [if_neg hi, if_neg hi, h.2 i (fun z => hi (hs i z)), wipe_get, if_neg hi]
theorem Mv.own {pn : Pn} {B H B' H' : Hp} {l : Addr} {o : HO} (m : Mv pn B H B' H') (hl : H l = none) (hb : B' l = none) (hp : ∀ p c T, pn = some (p, c, T) → l ≠ p) (nt : notTb o := by trivial) : Mv pn B H B' (upd H' l o) := by
  have ne : ∀ {b : Addr} {u : HO}, H b = some u → b ≠ l := fun {b u} h z => by
    rw [z, hl] at h
    cases h
  refine ⟨?_, m.b, fun b u h => ?_, m.f, m.t, fun x ps h => ?_⟩
  · cases pn with
    | none =>
      intro b u h
      rw [upd_ne (ne h)]
      exact m.kp _ _ h
    | some pc =>
      refine ⟨fun b u nb nt h => ?_, fun o nt h => ?_, fun b ps h => ?_⟩
      · rw [upd_ne (ne h)]
        exact m.kp.1 _ _ nb nt h
      · rw [upd_ne (ne h)]
        exact m.kp.2.1 o nt h
      · rw [upd_ne (ne h)]
        exact m.kp.2.2 b ps h
  · rw [upd_ne (fun z => by rw [z, hb] at h; cases h)]
    exact m.s _ _ h
  · by_cases z : x = l
    · subst z
      rw [upd_same] at h
      cases h
      exact absurd nt (fun z => z)
    · rw [upd_ne z] at h
      exact m.u _ _ h
/-- a list, a dict that is written -/
def MutO (H : Hp) (l : Addr) : Prop := ∀ u, H l = some u → (∃ xs, u = .lst xs) ∨ ∃ kvs, u = .dK kvs
theorem MutO.none {H : Hp} {l : Addr} (h : H l = none) : MutO H l := fun u q => by
  rw [h] at q
  cases q
theorem MutO.lst {H : Hp} {l : Addr} {xs : List V} (h : H l = some (.lst xs)) : MutO H l := fun u q => by
  rw [h] at q
  exact .inl ⟨xs, (Option.some.inj q).symm⟩
theorem MutO.dK {H : Hp} {l : Addr} {xs : List (Key × V)} (h : H l = some (.dK xs)) : MutO H l := fun u q => by
  rw [h] at q
  exact .inr ⟨xs, (Option.some.inj q).symm⟩
theorem Pk.own {G : Cg} {n : Nat} {B H : Hp} {l : Addr} {o : HO} (pk : Pk G.pn n B H) (f : Free G B l) (hl : MutO H l) (nt : notTb o := by trivial) : Pk G.pn n B (upd H l o) := by
  cases e : G.pn with
  | none => trivial
  | some pc =>
    rw [e] at pk
    obtain ⟨⟨t, x, xs, h1, h2, h3⟩, hb, hT, hTb, hTu, hc⟩ := pk
    obtain ⟨n1, n2⟩ := f.2.2 pc.1 pc.2.1 pc.2.2 e
    refine ⟨⟨t, x, xs, by rw [upd_ne (Ne.symm n1)]; exact h1, by rw [upd_ne (Ne.symm n2)]; exact h2, h3⟩, hb, fun q hq => ?_, hTb, fun b ps h => ?_, hc⟩
    · obtain ⟨ps, a1, a2, a3⟩ := hT q hq
      have n3 : q.1 ≠ l := fun z => by
        rw [z] at a1
        rcases hl _ a1 with ⟨_, y⟩ | ⟨_, y⟩ <;> cases y
      refine ⟨ps, by rw [upd_ne n3]; exact a1, a2, fun pos cv hc => ?_⟩
      obtain ⟨cc, e1, e2⟩ := a3 pos cv hc
      have n4 : cc ≠ l := fun z => by
        rw [z] at e2
        unfold LamX.CodeO at e2
        rcases hl _ e2 with ⟨_, y⟩ | ⟨_, y⟩ <;> cases y
      exact ⟨cc, e1, by rw [upd_ne n4]; exact e2⟩
    · by_cases z : b = l
      · subst z
        rw [upd_same] at h
        cases h
        exact absurd nt (fun z => z)
      · rw [upd_ne z] at h
        exact hTu _ _ h
section
variable {X : Cx} {G : Cg} {a b c d e f : Expr} {es rest : List Expr} {ta tb tc td te : TE} {wa wb wc wd we : WE} {pos p p2 p3 : Pos} {x : Str} {n : Nat} {t u tt : TT} {w v wt : WT} {wl : WL}
structure BTs (X : Cx) (G : Cg) (es : List Expr) (t : TT) (w : WT) : Prop where
  pt : PTs X es t
  snd : SndT G t w
def wYes : WT := fun _ n _ Q => Q true n
theorem bts_nil : BTs X G [] tYes wYes := ⟨pts_nil, fun ρ σ n B H E Qd Q S hw _ k => k true n B H (Mv.refl S.sub) S.pk hw⟩
theorem bts_one (h : BT X G a t w) : BTs X G [a] t w := ⟨pts_one h.pe, h.snd⟩
/-- the items of a comprehension, one by one -/
def lcGo (wg : WG) (wt : WT) (we : WE) : List D → List PyData → Nat → List Sl → (List PyData → Nat → Prop) → Prop
  | [], acc, n, _, Q => Q acc n
  | d :: ds, acc, n, ρ, Q => wg d ρ fun ρ2 => wt ρ2 n (fun _ _ => False) fun b n1 => if b = true then we ρ2 n1 (fun _ _ => False) fun z n2 => (match z with
      | .py e => lcGo wg wt we ds (acc ++ [e]) n2 ρ Q
      | _ => False)
    else lcGo wg wt we ds acc n1 ρ Q
def wLc (wi : WI) (wg : WG) (wt : WT) (we : WE) (vs : List Nat) : WN := fun ρ n E Q => wi ρ n E fun ds n1 => lcGo wg wt we ds [] n1 (wipeB ρ vs) Q
theorem snd_lc {wi : TI} {g : TG} {ii : WI} {wg : WG} {is vs : List Nat} (hi : SndI G wi ii) (hg : SndG G g wg is) (ht : SndT G tt wt) (he : Snd G te we) (his : ∀ i ∈ is, i ∈ vs) : SndN G (tLc wi g tt te vs) (wLc ii wg wt we vs) := by
  intro ρ σ n B H E Qd Q S hw xw k
  refine hi ρ σ n B H E _ _ S hw xw fun J ds n1 B1 H1 m1 pk1 yl hz q1 => ?_
  intro D hD
  have S1 := S.step m1 pk1
  have F1 := free_new S1 hD
  have hH : H D = none := up_none m1 hD
  refine ⟨fun i m Hc => m = ds.length - i ∧ i ≤ ds.length ∧ ∃ n' Bc accV acc, Mv G.pn B1 H1 Bc Hc ∧ Pk G.pn n' Bc Hc ∧ Free G Bc D ∧ Hc D = some (.lst accV) ∧ accV.length ≤ i ∧ DdA G.K Bc accV acc ∧ lcGo wg wt we (ds.drop i) acc n' (wipeB ρ vs) Qd,
    ⟨ds.length, rfl, Nat.zero_le _, n1, B1, [], [], Mv.newOwn m1.s hD, pk1.own F1 (.none hD), F1, upd_same, Nat.le_refl _, .nil, q1⟩, ?_⟩
  rintro i m Hc ⟨rfl, hi', n', Bc, accV, acc, mc, pkc, Fc, hDc, hl, hA, q⟩
  obtain ⟨yg, ys, yy⟩ := yl Bc Hc mc.b mc.s
  by_cases hlt : i < ds.length
  · refine .inr ⟨yg i hlt, fun H' => i + 1 ≤ ds.length ∧ ∃ n' Bc accV acc, Mv G.pn B1 H1 Bc H' ∧ Pk G.pn n' Bc H' ∧ Free G Bc D ∧ H' D = some (.lst accV) ∧ accV.length ≤ i + 1 ∧ DdA G.K Bc accV acc ∧ lcGo wg wt we (ds.drop (i + 1)) acc n' (wipeB ρ vs) Qd,
      fun H' p => ⟨ds.length - (i + 1), by omega, rfl, p⟩, fun x H' y => ?_⟩
    obtain ⟨B', d, hd, my, ry⟩ := yy i x H' hlt y
    have ed : ds.drop i = d :: ds.drop (i + 1) := by
      rw [List.drop_eq_getElem_cons hlt]
      have := (List.getElem?_eq_some_iff.mp hd).2
      rw [this]
    rw [ed] at q
    simp only [lcGo] at q
    have m2 := mc.trans (my.of (pn := G.pn))
    have pk2 := pkc.mv my
    have S2 := (S1.step m2 pk2).wipe vs
    refine hg _ _ n' B' H' x d _ _ S2 ry q fun ρ3 σ3 S3 o3 q3 => ⟨wipe_only o3.o his, ?_⟩
    refine ht ρ3 σ3 n' B' H' _ _ _ S3 q3 XW.none fun b n3 B3 H3 m3 pk3 q4 => ?_
    have m03 := (my.of (pn := G.pn)).trans m3
    cases b with
    | true =>
      rw [if_pos rfl] at q4 ⊢
      refine he ρ3 σ3 n3 B3 H3 _ _ _ (S3.step m3 pk3) q4 XW.none fun z dz n4 B4 H4 m4 pk4 r4 q5 => ?_
      match dz, r4, q5 with
      | .py ez, r4, q5 =>
        have m04 := m03.trans m4
        have hD4 := m04.kp.at_ Fc hDc
        have F4 := Fc.mv m04 hDc
        exact ⟨accV, hD4, Nat.lt_of_le_of_lt hl (Nat.lt_of_lt_of_le hlt hz), hlt, n4, B4, accV ++ [z], acc ++ [ez], (mc.trans m04).own hD F4.1 (fun p c T e => (F4.2.2 p c T e).1), pk4.own F4 (.lst hD4), F4, upd_same, by rw [List.length_append]; exact Nat.succ_le_succ hl, (hA.mono m04.b).snoc r4, q5⟩
    | false =>
      rw [if_neg (by decide)] at q4 ⊢
      exact ⟨hlt, n3, B3, accV, acc, mc.trans m03, pk3, Fc.mv m03 hDc, m03.kp.at_ Fc hDc, Nat.le_succ_of_le hl, hA.mono m03.b, q4⟩
  · have e : i = ds.length := by omega
    subst e
    rw [List.drop_length] at q
    exact .inl ⟨ys, k D accV acc n' Bc Hc (m1.trans mc) pkc hH Fc hDc (Nat.le_trans hl hz) hA q⟩
theorem bn_lc {elt tg iter : Expr} {ifs : List Expr} {scope : Scope} {own : List (Str × Nat)} {wi : TI} {g : TG} {ii : WI} {wg : WG} {is : List Nat} (hc : X.calm = true) (hN : X.N.Nodup) (hi : BI X G tg iter wi ii) (ok : BlkOk X.N X.env.scope scope own)
    (hg : ∀ (s : Shared) (H : Hp) (C : Addr) (cl : List (Str × Addr)) (fp : List Addr), BG (X.blk s H scope (compEnvC scope cl C X.env) fp) G tg g wg is) (ht : ∀ (s : Shared) (H : Hp) (C : Addr) (cl : List (Str × Addr)) (fp : List Addr), BTs (X.blk s H scope (compEnvC scope cl C X.env) fp) G ifs tt wt)
    (he : ∀ (s : Shared) (H : Hp) (C : Addr) (cl : List (Str × Addr)) (fp : List Addr), BE (X.blk s H scope (compEnvC scope cl C X.env) fp) G elt te we) (his : ∀ i ∈ is, i ∈ own.map (·.2) := by decide) (hs : ∀ x, foldedSetIterable iter X.env x = pure x := by intro _; rfl) :
    BN X G (.ListComp elt [⟨tg, iter, ifs, 0⟩] scope pos) (tLc wi g tt te (own.map (·.2))) (wLc ii wg wt we (own.map (·.2))) :=
  ⟨pe_lc hc hN hi.pi ok (fun s H C cl fp => (hg s H C cl fp).pg) (fun s H C cl fp => (ht s H C cl fp).pt) (fun s H C cl fp => (he s H C cl fp).pe) hs,
    snd_lc hi.snd (hg X.s_0 G.H0 0 [] []).snd (ht X.s_0 G.H0 0 [] []).snd (he X.s_0 G.H0 0 [] []).snd his⟩
end
end Fv
set_option maxRecDepth 100000
set_option maxHeartbeats 4000000
/-! Statements. -/
namespace Fv
open PySem PySem.Spec PyProof.Rows L2 Gb
/-! ### what a name is set to -/
def RS (G : Cg) (Ho B H : Hp) (v : V) : Sl → Prop
  | .no => False
  | .val d => R G B v d
  | .own ds => ∃ l vs, v = .ref l ∧ Ho l = none ∧ Free G B l ∧ H l = some (.lst vs) ∧ vs.length ≤ sizeLine ∧ DdA G.K B vs ds
  | .dow ks => ∃ l kvs, v = .ref l ∧ Ho l = none ∧ Free G B l ∧ H l = some (.dK kvs) ∧ DdK G.K B kvs ks
  | .mat t l rows => v = .ref l ∧ MatAt G B H t l rows ∧ ∀ a, a ∈ l :: rows.map (·.1) → Ho a = none
theorem RS.step {G : Cg} {Ho B H B' H' : Hp} {v : V} {s : Sl} (h : RS G Ho B H v s) (m : Mv G.pn B H B' H') : RS G Ho B' H' v s := by
  cases s with
  | no => exact h
  | val d => exact R.mono m.b h
  | own ds =>
    obtain ⟨l, vs, h1, h2, h3, h4, h5, h6⟩ := h
    exact ⟨l, vs, h1, h2, h3.mv m h4, m.kp.at_ h3 h4, h5, h6.mono m.b⟩
  | dow ds =>
    obtain ⟨l, vs, h1, h2, h3, h4, h6⟩ := h
    exact ⟨l, vs, h1, h2, h3.mv m h4, m.kp.at_ h3 h4, h6.mono m.b⟩
  | mat t l rows => exact ⟨h.1, h.2.1.step m, h.2.2⟩
/-- what a new thing stands on -/
def foot (s : Sl) (v : V) (a : Addr) : Prop := (s.isOwn = true ∧ v = .ref a) ∨ ∃ t l rows, s = .mat t l rows ∧ a ∈ l :: rows.map (·.1)
theorem St.setS {G : Cg} {n : Nat} {Ho B H : Hp} {ρ : List Sl} {σ : L2.St} (S : St G n B H ρ σ) {i : Nat} {v : V} {s : Sl} (hf : ∀ a, foot s v a → (∀ j, j ≠ i → ownAt ρ j → σ[j]? ≠ some (some (.ref a))) ∧ ¬ ghost ρ a) (r : RS G Ho B H v s) : St G n B H (ρ.set i s) (σ.set i (some v)) := by
  have at_ : ∀ {j : Nat} {x : Sl}, (ρ.set i s)[j]? = some x → (j = i ∧ x = s ∧ (σ.set i (some v))[j]? = some (some v)) ∨ (j ≠ i ∧ ρ[j]? = some x ∧ (σ.set i (some v))[j]? = σ[j]?) := fun {j x} h => by
    by_cases e : i = j
    · subst e
      have hi : i < ρ.length := by
        have := (List.getElem?_eq_some_iff.mp h).1
        rwa [List.length_set] at this
      rw [List.getElem?_set_self hi] at h
      exact .inl ⟨rfl, (Option.some.inj h).symm, List.getElem?_set_self (by rw [← S.len]; exact hi)⟩
    · rw [List.getElem?_set_ne e] at h
      exact .inr ⟨Ne.symm e, h, List.getElem?_set_ne e⟩
  refine ⟨S.mv, S.pk, by rw [List.length_set, List.length_set]; exact S.len, fun j z h => ?_, fun j ds h => ?_, fun j ks h => ?_, fun j k l ne hj hk e => ?_, ⟨fun j t l rows h => ?_, fun j k t l rows t' l' rows' ne h h' a ha ha' => ?_, fun j a hj e hg => ?_⟩⟩
  · rcases at_ h with ⟨_, h2, h3⟩ | ⟨_, h2, h3⟩
    · rw [← h2] at r
      exact ⟨v, h3, r⟩
    · rw [h3]
      exact S.val j z h2
  · rcases at_ h with ⟨_, h2, h3⟩ | ⟨_, h2, h3⟩
    · rw [← h2] at r
      obtain ⟨l, vs, rfl, _, h4, h5, h6, h7⟩ := r
      exact ⟨l, vs, h3, h5, h6, h7, h4⟩
    · rw [h3]
      exact S.own j ds h2
  · rcases at_ h with ⟨_, h2, h3⟩ | ⟨_, h2, h3⟩
    · rw [← h2] at r
      obtain ⟨l, vs, rfl, _, h4, h5, h6⟩ := r
      exact ⟨l, vs, h3, h5, h6, h4⟩
    · rw [h3]
      exact S.dow j ks h2
  · obtain ⟨x, hx, ox⟩ := hj
    obtain ⟨y, hy, oy⟩ := hk
    rcases at_ hx with ⟨a1, a2, a3⟩ | ⟨a1, a2, a3⟩
    · rcases at_ hy with ⟨b1, b2, b3⟩ | ⟨b1, b2, b3⟩
      · exact absurd (a1.trans b1.symm) ne
      · rw [b3]
        rw [a3] at e
        have ev : v = .ref l := Option.some.inj (Option.some.inj e)
        exact (hf l (.inl ⟨by rw [← a2]; exact ox, ev⟩)).1 k b1 ⟨y, b2, oy⟩
    · rcases at_ hy with ⟨b1, b2, b3⟩ | ⟨b1, b2, b3⟩
      · rw [b3]
        rw [a3] at e
        intro q
        have ev : v = .ref l := Option.some.inj (Option.some.inj q)
        exact (hf l (.inl ⟨by rw [← b2]; exact oy, ev⟩)).1 j a1 ⟨x, a2, ox⟩ e
      · rw [b3]
        rw [a3] at e
        exact S.dis j k l ne ⟨x, a2, ox⟩ ⟨y, b2, oy⟩ e
  · rcases at_ h with ⟨h1, h2, h3⟩ | ⟨h1, h2, h3⟩
    · rw [← h2] at r
      obtain ⟨e, A, _⟩ := r
      rw [h3, e]
      exact ⟨rfl, A⟩
    · rw [h3]
      exact S.mat.at_ j t l rows h2
  · rcases at_ h with ⟨h1, h2, _⟩ | ⟨h1, h2, _⟩
    · rcases at_ h' with ⟨g1, g2, _⟩ | ⟨g1, g2, _⟩
      · exact ne (h1.trans g1.symm)
      · exact (hf a (.inr ⟨t, l, rows, h2.symm, ha⟩)).2 ⟨k, t', l', rows', g2, ha'⟩
    · rcases at_ h' with ⟨g1, g2, _⟩ | ⟨g1, g2, _⟩
      · exact (hf a (.inr ⟨t', l', rows', g2.symm, ha'⟩)).2 ⟨j, t, l, rows, h2, ha⟩
      · exact S.mat.sep j k t l rows t' l' rows' ne h2 g2 a ha ha'
  · obtain ⟨x, hx, ox⟩ := hj
    obtain ⟨k, t, l, rows, h', ha⟩ := hg
    rcases at_ hx with ⟨h1, h2, h3⟩ | ⟨h1, h2, h3⟩
    · rw [h3] at e
      have ev : v = .ref a := Option.some.inj (Option.some.inj e)
      rcases at_ h' with ⟨g1, g2, _⟩ | ⟨g1, g2, _⟩
      · rw [h2, ← g2] at ox
        cases ox
      · exact (hf a (.inl ⟨by rw [← h2]; exact ox, ev⟩)).2 ⟨k, t, l, rows, g2, ha⟩
    · rw [h3] at e
      rcases at_ h' with ⟨g1, g2, _⟩ | ⟨g1, g2, _⟩
      · exact (hf a (.inr ⟨t, l, rows, g2.symm, ha⟩)).1 j h1 ⟨x, h2, ox⟩ e
      · exact S.mat.own j a ⟨x, h2, ox⟩ e ⟨k, t, l, rows, g2, ha⟩
/-- what is new stands on what was free -/
theorem St.footNe {G : Cg} {n' : Nat} {Ho Bo B H : Hp} {ρ : List Sl} {σ : L2.St} {v : V} {s : Sl} (So : St G n' Bo Ho ρ σ) (r : RS G Ho B H v s) (a : Addr) (ha : foot s v a) : (∀ j, ownAt ρ j → σ[j]? ≠ some (some (.ref a))) ∧ ¬ ghost ρ a := by
  have h0 : Ho a = none := by
    rcases ha with ⟨h1, rfl⟩ | ⟨t, l, rows, rfl, h2⟩
    · cases s with
      | no => cases h1
      | val d => cases h1
      | mat t l rows => cases h1
      | own ds =>
        obtain ⟨l, vs, e, h, _⟩ := r
        cases e
        exact h
      | dow ds =>
        obtain ⟨l, vs, e, h, _⟩ := r
        cases e
        exact h
    · exact r.2.2 a h2
  refine ⟨fun j ⟨x, hx, ox⟩ e => ?_, fun hg => ?_⟩
  · have : ∃ l o, σ[j]? = some (some (.ref l)) ∧ Ho l = some o := by
      cases x with
      | no => cases ox
      | val d => cases ox
      | mat t l rows => cases ox
      | own ds =>
        obtain ⟨l, vs, h1, h2, _⟩ := So.own j ds hx
        exact ⟨l, _, h1, h2⟩
      | dow ds =>
        obtain ⟨l, vs, h1, h2, _⟩ := So.dow j ds hx
        exact ⟨l, _, h1, h2⟩
    obtain ⟨l, o, h1, h2⟩ := this
    rw [e] at h1
    cases h1
    rw [h0] at h2
    cases h2
  · obtain ⟨o, h⟩ := So.mat.there hg
    rw [h0] at h
    cases h
abbrev WV := List Sl → Nat → XQ → (Sl → Nat → Prop) → Prop
def SndV (G : Cg) (t : TE) (w : WV) : Prop := ∀ ρ σ n B H E (Qd : Sl → Nat → Prop) (Q : VK), St G n B H ρ σ → w ρ n E Qd → XW G σ B H E →
  (∀ v s n' B' H', Mv G.pn B H B' H' → Pk G.pn n' B' H' → RS G H B' H' v s → Qd s n' → Q v H') → t σ H Q
structure BV (X : Cx) (G : Cg) (e : Expr) (t : TE) (w : WV) : Prop where
  pe : PE X e t
  snd : SndV G t w
section
variable {X : Cx} {G : Cg} {a b c d e f : Expr} {es rest : List Expr} {ta tb tc td te : TE} {wa wb wc wd we : WE} {pos p p2 p3 : Pos} {x : Str} {n : Nat} {t u tt : TT} {w v wt : WT} {wl : WL} {wn : WN}
def wVE (w : WE) : WV := fun ρ n E Q => w ρ n E fun d n' => Q (.val d) n'
theorem BE.toV (h : BE X G a ta wa) : BV X G a ta (wVE wa) := ⟨h.pe, fun ρ σ n B H E Qd Q S hw xw k => h.snd ρ σ n B H E _ _ S hw xw fun v d n' B' H' m pk r q => k v (.val d) n' B' H' m pk r q⟩
def wVN (w : WN) : WV := fun ρ n E Q => w ρ n E fun ds n' => Q (.own ds) n'
theorem BN.toV (h : BN X G a ta wn) : BV X G a ta (wVN wn) := ⟨h.pe, fun ρ σ n B H E Qd Q S hw xw k => h.snd ρ σ n B H E _ _ S hw xw fun l vs ds n' B' H' m pk hl fr hl' hz r q => k (.ref l) (.own ds) n' B' H' m pk ⟨l, vs, rfl, hl, fr, hl', hz, r⟩ q⟩
def wVD : WV := fun _ n _ Q => Q (.dow []) n
/-- {} -/
theorem bv_dict : BV X G (.Dict [] [] pos) tDNewK wVD := ⟨pe_dnewK, fun ρ σ n B H E Qd Q S hw xw k => fun p hp => by
  have F := free_new S hp
  exact k (.ref p) (.dow []) n B _ (Mv.newOwn S.sub hp) (S.pk.own F (.none hp)) ⟨p, [], rfl, hp, F, upd_same, .nil⟩ hw⟩
end
/-! ### statements -/
structure EB where
  nx : List Sl → Nat → Prop
  rt : D → Nat → Prop
  bk : List Sl → Nat → Prop := fun _ _ => False
  ct : List Sl → Nat → Prop := fun _ _ => False
abbrev XB := List Sl → XQ
abbrev WS := List Sl → Nat → XB → EB → Prop
def XS (G : Cg) (B : Hp) (E : XB) : Prop := ∀ ρ σ n B' H', Same B B' → St G n B' H' ρ σ → XW G σ B' H' (E ρ)
theorem XS.mono {G : Cg} {B B' : Hp} {E : XB} (h : XS G B E) (s : Same B B') : XS G B' E := fun ρ σ n B2 H2 s2 S => h ρ σ n B2 H2 (s.trans s2) S
theorem MatAt.cg {G G' : Cg} {B H : Hp} {t : Bool} {l : Addr} {rows : Rws} (h1 : G.K = G'.K) (h2 : G.pn = G'.pn) (h3 : G.H0 = G'.H0) (h : MatAt G B H t l rows) : MatAt G' B H t l rows := by
  obtain ⟨K, C, pn, xe, ex, B0, H0⟩ := G
  obtain ⟨K', C', pn', xe', ex', B0', H0'⟩ := G'
  cases h1
  cases h2
  cases h3
  exact ⟨h.at_, h.fr, h.nd, h.len, h.row⟩
/-- what a def tells of its own: a list; lists of its own in a tuple, or in a list (told with None ahead); nothing -/
def RtN (G : Cg) (rt : D → Nat → Prop) (Dr : VK) : Prop :=
  (∀ l vs ds n' B' H', Mv G.pn G.B0 G.H0 B' H' → Pk G.pn n' B' H' → Free G B' l → H' l = some (.lst vs) → vs.length ≤ sizeLine → DdA G.K B' vs ds → rt (.py (.list ds)) n' → Dr (.ref l) H') ∧
  (∀ tp l rows n' B' H', Mv G.pn G.B0 G.H0 B' H' → Pk G.pn n' B' H' → MatAt G B' H' tp l rows → rt (.py (.tuple (if tp = true then rows.map (fun r => .list r.2) else .none :: rows.map fun r => .list r.2))) n' → Dr (.ref l) H') ∧
  (∀ n' B' H', Mv G.pn G.B0 G.H0 B' H' → Pk G.pn n' B' H' → rt (.py .none) n' → Dr .non H')
theorem RtN.wx {G G' : Cg} {rt : D → Nat → Prop} {Dr : VK} (h1 : G.K = G'.K) (h2 : G.pn = G'.pn) (h3 : G.H0 = G'.H0) (h4 : G.B0 = G'.B0) (h : RtN G rt Dr) : RtN G' rt Dr := by
  obtain ⟨K, C, pn, xe, ex, B0, H0⟩ := G
  obtain ⟨K', C', pn', xe', ex', B0', H0'⟩ := G'
  cases h1
  cases h2
  cases h3
  cases h4
  exact ⟨h.1, fun tp l rows n' B' H' mv pk A q => h.2.1 tp l rows n' B' H' mv pk (MatAt.cg (G := ⟨K, C', pn, xe', ex', B0, H0⟩) (G' := ⟨K, C, pn, xe, ex, B0, H0⟩) rfl rfl rfl A) q, h.2.2⟩
/-- m: what is of its own is returned -/
structure EO (G : Cg) (m : Bool) (B : Hp) (D : Ends) (DB : EB) : Prop where
  nx : ∀ ρ σ n B' H', Same B B' → St G n B' H' ρ σ → DB.nx ρ n → D.nx σ H'
  bk : ∀ ρ σ n B' H', Same B B' → St G n B' H' ρ σ → DB.bk ρ n → D.bk σ H'
  ct : ∀ ρ σ n B' H', Same B B' → St G n B' H' ρ σ → DB.ct ρ n → D.ct σ H'
  rt : m = false → ∀ v d n' B' H', Mv G.pn G.B0 G.H0 B' H' → Pk G.pn n' B' H' → R G B' v d → DB.rt d n' → D.rt v H'
  rn : m = true → RtN G DB.rt D.rt
theorem EO.mono {G : Cg} {m : Bool} {B B' : Hp} {D : Ends} {DB : EB} (h : EO G m B D DB) (s : Same B B') : EO G m B' D DB :=
  ⟨fun ρ σ n B2 H2 s2 => h.nx ρ σ n B2 H2 (s.trans s2), fun ρ σ n B2 H2 s2 => h.bk ρ σ n B2 H2 (s.trans s2), fun ρ σ n B2 H2 s2 => h.ct ρ σ n B2 H2 (s.trans s2), h.rt, h.rn⟩
def SndS (m : Bool) (G : Cg) (t : TS) (w : WS) : Prop := ∀ ρ σ n B H E D DB, St G n B H ρ σ → w ρ n E DB → XS G B E → EO G m B D DB → t D σ H
structure BS (m : Bool) (X : Cx) (G : Cg) (s : Stmt) (t : TS) (w : WS) : Prop where
  ps : PS X s t
  snd : SndS m G t w
structure BSs (m : Bool) (X : Cx) (G : Cg) (s : List Stmt) (t : TS) (w : WS) : Prop where
  ps : PSs X s t
  snd : SndS m G t w
section
variable {m : Bool} {X : Cx} {G : Cg} {a b c d e f : Expr} {es rest : List Expr} {ta tb tc td te : TE} {wa wb wc wd we : WE} {pos p p2 p3 : Pos} {x : Str} {n : Nat} {t u tt : TT} {w v wt : WT} {wl : WL} {wn : WN} {wv wv2 : WV} {st : Stmt} {sts sts2 : List Stmt} {ts us : TS} {ws vs : WS}
theorem XS.at {G : Cg} {n : Nat} {B H : Hp} {ρ : List Sl} {σ : L2.St} {E : XB} (h : XS G B E) (S : St G n B H ρ σ) : XW G σ B H (E ρ) := h ρ σ n B H (Same.refl B) S
def sNil : WS := fun ρ n _ DB => DB.nx ρ n
def sSeq (w v : WS) : WS := fun ρ n E DB => w ρ n E { DB with nx := fun ρ' n' => v ρ' n' E DB }
theorem bss_nil : BSs m X G [] tNext sNil := ⟨pss_nil, fun ρ σ n B H E D DB S hw _ eo => eo.nx ρ σ n B H (Same.refl B) S hw⟩
theorem bss_cons (h : BS m X G st ts ws) (h2 : BSs m X G sts us vs) : BSs m X G (st :: sts) (tSeq ts us) (sSeq ws vs) :=
  ⟨pss_cons h.ps h2.ps, fun ρ σ n B H E D DB S hw xs eo => h.snd ρ σ n B H E _ _ S hw xs ⟨fun ρ' σ' n' B' H' sb S' q => h2.snd ρ' σ' n' B' H' E D DB S' q (xs.mono sb) (eo.mono sb), eo.bk, eo.ct, eo.rt, eo.rn⟩⟩
theorem bss_one (h : BS m X G st ts ws) : BSs m X G [st] ts ws := ⟨pss_one h.ps, h.snd⟩
/-- name = e -/
def sSet (i : Nat) (w : WV) : WS := fun ρ n E DB => w ρ n (E ρ) fun s n' => DB.nx (ρ.set i s) n'
theorem bs_set {i : Nat} (h : BV X G a ta wv) (hp : PS X st (tAsg ta (gName i))) : BS m X G st (tAsg ta (gName i)) (sSet i wv) :=
  ⟨hp, fun ρ σ n B H E D DB S hw xs eo => h.snd ρ σ n B H _ _ _ S hw (xs.at S) fun v s n' B' H' mv pk r q => eo.nx _ _ n' B' H' mv.b ((S.step mv pk).setS (fun a ha => ⟨fun j _ => (S.footNe r a ha).1 j, (S.footNe r a ha).2⟩) r) q⟩
/-- targets = e -/
def sAsg (w : WE) (wg : WG) : WS := fun ρ n E DB => w ρ n (E ρ) fun d n' => wg d ρ fun ρ' => DB.nx ρ' n'
theorem bs_asg {g : TG} {wg : WG} {is : List Nat} (h : BE X G a ta wa) (hg : BG X G b g wg is) (hs : swapsWithSole [b] a pos.line X.env = pure false := by rfl) (hw : swappedStores [b] a X.env = pure none := by rfl)
    (h1 : (assignEach [b] X.env).map (·.2) = [assign b X.env] := by rfl) : BS m X G (.Assign [b] a pos) (tAsg ta g) (sAsg wa wg) :=
  ⟨ps_asg h.pe hg.pg hs hw h1, fun ρ σ n B H E D DB S hw xs eo => h.snd ρ σ n B H _ _ _ S hw (xs.at S) fun v d n' B' H' mv pk r q => hg.snd ρ σ n' B' H' v d _ _ (S.step mv pk) r q fun ρ' σ' S' _ q' => eo.nx _ _ n' B' H' mv.b S' q'⟩
/-- a, b = e, f -/
def sPar (i j : Nat) (w v : WV) : WS := fun ρ n E DB => w ρ n (E ρ) fun s n1 => v ρ n1 (E ρ) fun s2 n2 => DB.nx ((ρ.set i s).set j s2) n2
theorem bs_par {i j : Nat} (ha : BV X G a ta wv) (hb : BV X G b tb wv2) (hij : i ≠ j) (hp : PS X st (tPar i j (tCons ta (tCons tb tNil)))) : BS m X G st (tPar i j (tCons ta (tCons tb tNil))) (sPar i j wv wv2) :=
  ⟨hp, fun ρ σ n B H E D DB S hw xs eo => ha.snd ρ σ n B H _ _ _ S hw (xs.at S) fun v1 s1 n1 B1 H1 m1 pk1 r1 q1 => by
    have S1 := S.step m1 pk1
    refine hb.snd ρ σ n1 B1 H1 _ _ _ S1 q1 ((xs.at S).step m1) fun v2 s2 n2 B2 H2 m2 pk2 r2 q2 => ⟨v1, v2, rfl, ?_⟩
    have S2 := (S1.step m2 pk2).setS (i := i) (fun a ha => ⟨fun j _ => (S.footNe r1 a ha).1 j, (S.footNe r1 a ha).2⟩) (r1.step m2)
    refine eo.nx _ _ n2 B2 H2 (m1.b.trans m2.b) (S2.setS (i := j) (fun a ha => ?_) r2) q2
    have S3 := S1.setS (i := i) (fun a ha => ⟨fun j _ => (S.footNe r1 a ha).1 j, (S.footNe r1 a ha).2⟩) r1
    exact ⟨fun k _ => (S3.footNe r2 a ha).1 k, (S3.footNe r2 a ha).2⟩⟩
def sPar3 (i j l : Nat) (w v u : WV) : WS := fun ρ n E DB => w ρ n (E ρ) fun s n1 => v ρ n1 (E ρ) fun s2 n2 => u ρ n2 (E ρ) fun s3 n3 => DB.nx (((ρ.set i s).set j s2).set l s3) n3
/-- return e -/
def sRet (w : WE) : WS := fun ρ n E DB => w ρ n (E ρ) fun d n' => DB.rt d n'
theorem bs_ret (h : BE X G a ta wa) : BS false X G (.Return (some a) pos) (tRet ta) (sRet wa) :=
  ⟨ps_ret h.pe, fun ρ σ n B H E D DB S hw xs eo => h.snd ρ σ n B H _ _ _ S hw (xs.at S) fun v d n' B' H' mv pk r q => eo.rt rfl v d n' B' H' (S.mv.trans mv) pk r q⟩
def sRetN (w : WN) : WS := fun ρ n E DB => w ρ n (E ρ) fun ds n' => DB.rt (.py (.list ds)) n'
theorem bs_retN (h : BN X G a ta wn) : BS true X G (.Return (some a) pos) (tRet ta) (sRetN wn) :=
  ⟨ps_ret h.pe, fun ρ σ n B H E D DB S hw xs eo => h.snd ρ σ n B H _ _ _ S hw (xs.at S) fun l vs ds n' B' H' mv pk _ fr hl hz r q => (eo.rn rfl).1 l vs ds n' B' H' (S.mv.trans mv) pk fr hl hz r q⟩
def sRetO (i : Nat) : WS := fun ρ n _ DB => match ρ[i]? with
  | some (.own ds) => DB.rt (.py (.list ds)) n
  | _ => False
/-- return of one's own list -/
theorem bs_retO (i : Nat) (h : PE X a (tVar i)) : BS true X G (.Return (some a) pos) (tRet (tVar i)) (sRetO i) :=
  ⟨ps_ret h, fun ρ σ n B H E D DB S hw xs eo => by
    unfold sRetO at hw
    match hr : ρ[i]?, hw with
    | some (.own ds), hw =>
      obtain ⟨l, vs, h1, h2, h3, h4, h5⟩ := S.own i ds hr
      exact ⟨_, h1, (eo.rn rfl).1 l vs ds n B H S.mv S.pk h5 h2 h3 h4 hw⟩⟩
/-- return of lists of one's own in a tuple -/
def sRetM (w : WV) : WS := fun ρ n E DB => w ρ n (E ρ) fun s n' => match s with
  | .mat true _ rows => DB.rt (.py (.tuple (rows.map fun r => .list r.2))) n'
  | _ => False
/-- return of one's own list of lists -/
def sRetMO (i : Nat) : WS := fun ρ n _ DB => match ρ[i]? with
  | some (.mat false _ rows) => DB.rt (.py (.tuple (.none :: rows.map fun r => .list r.2))) n
  | _ => False
/-- return None where something of one's own may be told -/
def sRetZ (w : WE) : WS := fun ρ n E DB => w ρ n (E ρ) fun d n' => d = .py .none ∧ DB.rt (.py .none) n'
/-- if -/
def sIf (w : WT) (ws vs : WS) : WS := fun ρ n E DB => w ρ n (E ρ) fun k n1 => if k = true then ws ρ n1 E DB else vs ρ n1 E DB
theorem bs_if (h : BT X G c t w) (ha : BSs m X G sts ts ws) (hb : BSs m X G sts2 us vs) : BS m X G (.If c sts sts2 pos) (tIfS t ts us) (sIf w ws vs) :=
  ⟨ps_if h.pe ha.ps hb.ps, fun ρ σ n B H E D DB S hw xs eo => h.snd ρ σ n B H _ _ _ S hw (xs.at S) fun k n1 B1 H1 m1 pk1 q1 => by
    have S1 := S.step m1 pk1
    cases k with
    | true =>
      rw [if_pos rfl] at q1 ⊢
      exact ha.snd ρ σ n1 B1 H1 E D DB S1 q1 (xs.mono m1.b) (eo.mono m1.b)
    | false =>
      rw [if_neg (by decide)] at q1 ⊢
      exact hb.snd ρ σ n1 B1 H1 E D DB S1 q1 (xs.mono m1.b) (eo.mono m1.b)⟩
/-- a call for what it refuses -/
def sExpr (w : WE) : WS := fun ρ n E DB => w ρ n (E ρ) fun _ n' => DB.nx ρ n'
theorem bs_expr (h : BE X G a ta wa) (hs : swapsWith a none pos.line X.env = pure false := by rfl) : BS m X G (.Expr a pos) (tDrop ta) (sExpr wa) :=
  ⟨ps_expr h.pe hs, fun ρ σ n B H E D DB S hw xs eo => h.snd ρ σ n B H _ _ _ S hw (xs.at S) fun v d n' B' H' mv pk r q => eo.nx ρ σ n' B' H' mv.b (S.step mv pk) q⟩
/-- for -/
def forGo (wg : WG) (b : WS) : List D → WS
  | [] => fun ρ n _ DB => DB.nx ρ n
  | d :: ds => fun ρ n E DB => wg d ρ fun ρ2 => b ρ2 n E { DB with nx := fun ρ' n' => forGo wg b ds ρ' n' E DB, ct := fun ρ' n' => forGo wg b ds ρ' n' E DB, bk := DB.nx }
def sFor (wi : WI) (wg : WG) (b : WS) : WS := fun ρ n E DB => wi ρ n (E ρ) fun ds n1 => forGo wg b ds ρ n1 E DB
theorem bs_for {wi : TI} {g : TG} {ii : WI} {wg : WG} {is : List Nat} {iter : Expr} (hp : PassesOwn (model X.prog X.w) X.A X.env X.xe) (hc : X.calm = true) (hi : BI X G b iter wi ii) (hg : BG X G b g wg is) (hb : BSs m X G sts ts ws) (hs : ∀ x, foldedSetIterable iter X.env x = pure x := by intro _; rfl) :
    BS m X G (.For b iter sts [] pos) (tFor wi g ts) (sFor ii wg ws) :=
  ⟨ps_for hp hc hi.pi hg.pg hb.ps hs, fun ρ σ n B H E D DB S hw xs eo => hi.snd ρ σ n B H _ _ _ S hw (xs.at S) fun J ds n1 B1 H1 m1 pk1 yl hz q1 => by
    refine ⟨fun i k σ' Hc => k = ds.length - i ∧ i ≤ ds.length ∧ ∃ ρ' n' Bc, Same B1 Bc ∧ St G n' Bc Hc ρ' σ' ∧ forGo wg ws (ds.drop i) ρ' n' E DB, ⟨ds.length, rfl, Nat.zero_le _, ρ, n1, B1, Same.refl B1, S.step m1 pk1, q1⟩, ?_⟩
    rintro i k σ' Hc ⟨rfl, hi', ρ', n', Bc, sb, Sc, q⟩
    obtain ⟨yg, ys, yy⟩ := yl Bc Hc sb Sc.sub
    have sB := m1.b.trans sb
    by_cases hlt : i < ds.length
    · refine .inr ⟨yg i hlt, fun σ2 H2 => i + 1 ≤ ds.length ∧ ∃ ρ' n' Bc, Same B1 Bc ∧ St G n' Bc H2 ρ' σ2 ∧ forGo wg ws (ds.drop (i + 1)) ρ' n' E DB, fun σ2 H2 p => ⟨ds.length - (i + 1), by omega, rfl, p⟩, fun x H' y => ?_⟩
      obtain ⟨B', d, hd, my, ry⟩ := yy i x H' hlt y
      have ed : ds.drop i = d :: ds.drop (i + 1) := by
        rw [List.drop_eq_getElem_cons hlt]
        have := (List.getElem?_eq_some_iff.mp hd).2
        rw [this]
      rw [ed] at q
      simp only [forGo] at q
      have S2 := Sc.step (my.of (pn := G.pn)) (Sc.pk.mv my)
      refine hg.snd ρ' σ' n' B' H' x d _ _ S2 ry q fun ρ3 σ3 S3 _ q3 => ?_
      have sB3 := sB.trans my.b
      exact hb.snd ρ3 σ3 n' B' H' E _ _ S3 q3 (xs.mono sB3) ⟨fun ρ4 σ4 n4 B4 H4 s4 S4 q4 => ⟨hlt, ρ4, n4, B4, (sb.trans my.b).trans s4, S4, q4⟩, fun ρ4 σ4 n4 B4 H4 s4 S4 q4 => eo.nx ρ4 σ4 n4 B4 H4 (sB3.trans s4) S4 q4,
        fun ρ4 σ4 n4 B4 H4 s4 S4 q4 => ⟨hlt, ρ4, n4, B4, (sb.trans my.b).trans s4, S4, q4⟩, eo.rt, eo.rn⟩
    · have e : i = ds.length := by omega
      subst e
      rw [List.drop_length] at q
      exact .inl ⟨ys, eo.nx ρ' σ' n' Bc Hc sB Sc q⟩⟩
/-- while, at most so many turns -/
def whN (c : WT) (b : WS) : Nat → WS
  | 0 => fun _ _ _ _ => False
  | k + 1 => fun ρ n E DB => c ρ n (E ρ) fun z n1 => if z = true then b ρ n1 E { DB with nx := fun ρ' n' => whN c b k ρ' n' E DB, ct := fun ρ' n' => whN c b k ρ' n' E DB, bk := DB.nx } else DB.nx ρ n1
def sWhile (c : WT) (b : WS) : WS := fun ρ n E DB => ∃ k, whN c b k ρ n E DB
end
end Fv
set_option maxRecDepth 100000
set_option maxHeartbeats 4000000
/-! Lists and dicts of one's own: what changes them; dicts looked at. -/
namespace Fv
open PySem PySem.Spec PyProof.Rows L2 Gb
/-! ### a slot's object is written -/
def WrOk (G : Cg) (B : Hp) (o : HO) : Sl → Prop
  | .own ds => ∃ vs, o = .lst vs ∧ vs.length ≤ sizeLine ∧ DdA G.K B vs ds
  | .dow ks => ∃ kvs, o = .dK kvs ∧ DdK G.K B kvs ks
  | _ => False
theorem WrOk.nt {G : Cg} {B : Hp} {o : HO} {s : Sl} (h : WrOk G B o s) : notTb o := by
  cases s with
  | own ds =>
    obtain ⟨vs, rfl, _⟩ := h
    trivial
  | dow ks =>
    obtain ⟨vs, rfl, _⟩ := h
    trivial
  | no => exact h.elim
  | val d => exact h.elim
  | mat t l rows => exact h.elim
theorem WrOk.isOwn {G : Cg} {B : Hp} {o : HO} {s : Sl} (h : WrOk G B o s) : s.isOwn = true := by
  cases s with
  | own ds => rfl
  | dow ks => rfl
  | no => exact h.elim
  | val d => exact h.elim
  | mat t l rows => exact h.elim
theorem St.put {G : Cg} {n : Nat} {B H : Hp} {ρ : List Sl} {σ : L2.St} (S : St G n B H ρ σ) {i : Nat} {s0 s : Sl} {l : Addr} {o : HO} (hr : ρ[i]? = some s0) (h0 : s0.isOwn = true) (h1 : σ[i]? = some (some (.ref l))) (hm : MutO H l) (F : Free G B l) (w : WrOk G B o s) :
    St G n B (upd H l o) (ρ.set i s) σ := by
  have nt := w.nt
  have hi : i < ρ.length := (List.getElem?_eq_some_iff.mp hr).1
  have at_ : ∀ {j : Nat} {x : Sl}, (ρ.set i s)[j]? = some x → (j = i ∧ x = s) ∨ (j ≠ i ∧ ρ[j]? = some x) := fun {j x} h => by
    by_cases e : i = j
    · subst e
      rw [List.getElem?_set_self hi] at h
      exact .inl ⟨rfl, (Option.some.inj h).symm⟩
    · rw [List.getElem?_set_ne e] at h
      exact .inr ⟨Ne.symm e, h⟩
  have apart : ∀ {j : Nat} {x : Sl} {l' : Addr}, j ≠ i → ρ[j]? = some x → x.isOwn = true → σ[j]? = some (some (.ref l')) → l' ≠ l := fun {j x l'} ne hx ox hj z => by
    rw [z] at hj
    exact S.dis j i l ne ⟨x, hx, ox⟩ ⟨s0, hr, h0⟩ hj h1
  refine ⟨S.mv.own F.2.1 F.1 (fun p c T e => (F.2.2 p c T e).1) nt, S.pk.own F hm nt, by rw [List.length_set]; exact S.len, fun j d h => ?_, fun j ds h => ?_, fun j ks h => ?_, fun j k l' ne hj hk e => ?_, (S.mat.other (S.mat.own i l ⟨s0, hr, h0⟩ h1)).sub (fun j t l rows h => ?_) (fun j hj => ?_)⟩
  · rcases at_ h with ⟨_, h2⟩ | ⟨_, h2⟩
    · rw [← h2] at w
      exact w.elim
    · exact S.val j d h2
  · rcases at_ h with ⟨e, h2⟩ | ⟨e, h2⟩
    · rw [← h2] at w
      obtain ⟨vs, rfl, hz, hA⟩ := w
      exact ⟨l, vs, by rw [e]; exact h1, upd_same, hz, hA, F⟩
    · obtain ⟨l', vs, a1, a2, a3, a4, a5⟩ := S.own j ds h2
      exact ⟨l', vs, a1, by rw [upd_ne (apart e h2 rfl a1)]; exact a2, a3, a4, a5⟩
  · rcases at_ h with ⟨e, h2⟩ | ⟨e, h2⟩
    · rw [← h2] at w
      obtain ⟨vs, rfl, hA⟩ := w
      exact ⟨l, vs, by rw [e]; exact h1, upd_same, hA, F⟩
    · obtain ⟨l', vs, a1, a2, a4, a5⟩ := S.dow j ks h2
      exact ⟨l', vs, a1, by rw [upd_ne (apart e h2 rfl a1)]; exact a2, a4, a5⟩
  · have back : ∀ {j : Nat}, ownAt (ρ.set i s) j → ownAt ρ j := fun {j} ⟨x, hx, ox⟩ => by
      rcases at_ hx with ⟨e, h2⟩ | ⟨_, h2⟩
      · rw [e]
        exact ⟨s0, hr, h0⟩
      · exact ⟨x, h2, ox⟩
    exact S.dis j k l' ne (back hj) (back hk) e
  · rcases at_ h with ⟨_, h2⟩ | ⟨_, h2⟩
    · rw [← h2] at w
      exact w.elim
    · exact ⟨h2, rfl⟩
  · obtain ⟨x, hx, ox⟩ := hj
    rcases at_ hx with ⟨e, h2⟩ | ⟨_, h2⟩
    · rw [e]
      exact ⟨⟨s0, hr, h0⟩, rfl⟩
    · exact ⟨⟨x, h2, ox⟩, rfl⟩
section
variable {m : Bool} {X : Cx} {G : Cg} {a b c d e f o : Expr} {es rest : List Expr} {ta tb tc td te : TE} {wa wb wc wd we : WE} {pos p p2 p3 apos cpos : Pos} {x : Str} {n : Nat} {t u tt : TT} {w v wt : WT} {wl wl2 : WL} {wn : WN} {wv wv2 : WV} {st : Stmt} {sts sts2 : List Stmt} {ts us : TS} {ws vs : WS}
/-! ### a list's own methods -/
def sAppend (i : Nat) (w : WE) : WS := fun ρ n E DB => match ρ[i]? with
  | some (.own ds) => w ρ n (E ρ) fun d n1 => (match d with
    | .py d => ds.length < 100000 ∧ DB.nx (ρ.set i (.own (ds ++ [d]))) n1
    | _ => False)
  | _ => False
theorem tyV_l {K : PySem.W.Frag} {H : Hp} {l : Addr} {vs : List V} (h : H l = some (.lst vs)) : tyV K "list" (.ref l) H := .inl ⟨rfl, vs, SqL.of h⟩
/-- behind a step a list of one's own stands where it stood -/
theorem St.own2 {G : Cg} {n : Nat} {B H : Hp} {ρ : List Sl} {σ : L2.St} (S : St G n B H ρ σ) {i : Nat} {ds : List PyData} {l : Addr} (hr : ρ[i]? = some (.own ds)) (h1 : σ[i]? = some (some (.ref l))) : ∃ vs, H l = some (.lst vs) ∧ vs.length ≤ sizeLine ∧ DdA G.K B vs ds ∧ Free G B l := by
  obtain ⟨l2, vs1, h3, h4, h5, h6, h7⟩ := S.own i ds hr
  rw [h1] at h3
  cases h3
  exact ⟨vs1, h4, h5, h6, h7⟩
theorem bs_append (i : Nat) (ha : BE X G a ta wa) (hp : PS X st (tDrop (tBM G.K "list" rAppend (tVar i) (tCons ta tNil)))) : BS m X G st (tDrop (tBM G.K "list" rAppend (tVar i) (tCons ta tNil))) (sAppend i wa) :=
  ⟨hp, fun ρ σ n B H E D DB S hw xs eo => by
    unfold sAppend at hw
    match hr : ρ[i]?, hw with
    | some (.own ds), hw =>
      obtain ⟨l, vs, h1, h2, _⟩ := S.own i ds hr
      refine ⟨.ref l, h1, tyV_l h2, ?_⟩
      refine ha.snd ρ σ n B H _ _ _ S hw (xs.at S) fun v d n1 B1 H1 m1 pk1 r1 q1 => ?_
      match d, r1, q1 with
      | .py d, r1, q1 =>
        have S1 := S.step m1 pk1
        obtain ⟨vs1, h4, h5, h6, h7⟩ := S1.own2 hr h1
        have hlt : vs1.length < sizeLine := by
          rw [h6.len]
          exact Nat.lt_of_lt_of_le q1.1 (by decide)
        exact ⟨l, vs1, v, rfl, rfl, h4, hlt, eo.nx _ _ n1 B1 _ m1.b (S1.put hr rfl h1 (.lst h4) h7 (s := .own (ds ++ [d])) ⟨vs1 ++ [v], rfl, by rw [List.length_append]; exact hlt, h6.snoc r1⟩) q1.2⟩⟩
def sExtend (i : Nat) (w : WL) : WS := fun ρ n E DB => match ρ[i]? with
  | some (.own ds) => w ρ n (E ρ) fun k es n1 => k = false ∧ ds.length + es.length ≤ 100000 ∧ DB.nx (ρ.set i (.own (ds ++ es))) n1
  | _ => False
/-- target = xs.pop() -/
def sPop (i : Nat) (wg : WG) : WS := fun ρ n _ DB => match ρ[i]? with
  | some (.own ds) => (match ds.getLast? with
    | some d => wg (.py d) (ρ.set i (.own ds.dropLast)) fun ρ' => DB.nx ρ' n
    | none => False)
  | _ => False
def sClear (i : Nat) : WS := fun ρ n _ DB => match ρ[i]? with
  | some (.own _) => DB.nx (ρ.set i (.own [])) n
  | _ => False
/-- xs[k] = e -/
def sPutIx (i : Nat) (w wk : WE) : WS := fun ρ n E DB => match ρ[i]? with
  | some (.own ds) => w ρ n (E ρ) fun d n1 => wk ρ n1 (E ρ) fun y n2 => (match d, y with
    | .py d, .py (.int k) => (match ixN ds.length k with
      | some j => DB.nx (ρ.set i (.own (ds.set j d))) n2
      | none => False)
    | _, _ => False)
  | _ => False
/-- xs[k] += e, numbers; k not less than nought -/
def sAugIx (i : Nat) (wk w : WE) : WS := fun ρ n E DB => match ρ[i]? with
  | some (.own ds) => wk ρ n (E ρ) fun y n1 => w ρ n1 (E ρ) fun d n2 => (match y, d with
    | .py (.int k), .py (.int z) => 0 ≤ k ∧ (match ds[k.toNat]? with
      | some (.int u) => DB.nx (ρ.set i (.own (ds.set k.toNat (.int (u + z))))) n2
      | _ => False)
    | _, _ => False)
  | _ => False
theorem ixN_nat {n j : Nat} (h : j < n) : ixN n (j : Int) = some j := by
  unfold ixN
  rw [if_pos (by omega), if_pos (by omega)]
  rfl
/-- here the number at k is looked up first -/
def sAugIx2 (i : Nat) (wk w : WE) : WS := fun ρ n E DB => match ρ[i]? with
  | some (.own ds) => wk ρ n (E ρ) fun y n1 => (match y with
    | .py (.int k) => 0 ≤ k ∧ (match ds[k.toNat]? with
      | some (.int u) => w ρ n1 (E ρ) fun d n2 => (match d with
        | .py (.int z) => DB.nx (ρ.set i (.own (ds.set k.toNat (.int (u + z))))) n2
        | _ => False)
      | _ => False)
    | _ => False)
  | _ => False
theorem bs_augIx (i : Nat) (hb : BE X G b tb wb) (ha : BE X G a ta wa) (hp : PS X st (tAugS (tVar i) tb ta (rGetN G.K) (ipI fun i j => i + j) rSetL)) : BS m X G st (tAugS (tVar i) tb ta (rGetN G.K) (ipI fun i j => i + j) rSetL) (sAugIx2 i wb wa) :=
  ⟨hp, fun ρ σ n B H E D DB S hw xs eo => by
    unfold sAugIx2 at hw
    match hr : ρ[i]?, hw with
    | some (.own ds), hw =>
      obtain ⟨l, vs, h1, h2, _⟩ := S.own i ds hr
      refine ⟨.ref l, h1, hb.snd ρ σ n B H _ _ _ S hw (xs.at S) fun y dy n1 B1 H1 m1 pk1 r1 q1 => ?_⟩
      match dy, r1, q1 with
      | .py (.int k), r1, q1 =>
        cases dd_int r1
        simp only at q1
        obtain ⟨hk, q1⟩ := q1
        have S1 := S.step m1 pk1
        obtain ⟨vs1, h4, h5, h6, h7⟩ := S1.own2 hr h1
        match hj : ds[k.toNat]?, q1 with
        | some (.int u), q1 =>
          simp only at q1
          obtain ⟨w1, e1, e2⟩ := h6.get' hj
          cases dd_int e2
          have ek : k = (k.toNat : Int) := by omega
          refine ⟨l, vs1, k.toNat, .int u, rfl, by rw [← ek], SqL.of h4, e1, ?_⟩
          refine ha.snd ρ σ n1 B1 H1 _ _ _ S1 q1 ((xs.at S).step m1) fun v d n2 B2 H2 m2 pk2 r2 q2 => ?_
          match d, r2, q2 with
          | .py (.int z), r2, q2 =>
            cases dd_int r2
            simp only at q2
            have S2 := S1.step m2 pk2
            obtain ⟨vs2, g4, g5, g6, g7⟩ := S2.own2 hr h1
            have hlt : k.toNat < vs2.length := by
              rw [g6.len]
              exact (List.getElem?_eq_some_iff.mp hj).1
            exact ⟨u, z, rfl, rfl, l, vs2, k, k.toNat, rfl, rfl, g4, by rw [ek]; exact ixN_nat hlt, eo.nx _ _ n2 B2 _ (m1.b.trans m2.b) (S2.put hr rfl h1 (.lst g4) g7 (s := .own (ds.set k.toNat (.int (u + z)))) ⟨vs2.set k.toNat (.int (u + z)), rfl, by rw [List.length_set]; exact g5, DdA.set (.int (u + z)) k.toNat g6⟩) q2⟩⟩
end
end Fv
set_option maxRecDepth 100000
set_option maxHeartbeats 4000000
/-! Dicts with keys that are ints and texts. -/
namespace Fv
open PySem PySem.Spec PyProof.Rows L2 Gb
def isKey (k : Key) : PyData → Bool
  | .int j => decide (Sum.inl j = k)
  | .str y => decide (Sum.inr y = k)
  | _ => false
theorem isKey_p (k k' : Key) : isKey k (keyP k') = decide (k' = k) := by
  cases k' <;> rfl
def keyOf : PyData → Option Key
  | .int j => some (.inl j)
  | .str y => some (.inr y)
  | _ => none
theorem keyOf_v {K : PySem.W.Frag} {B : Hp} {v : V} {d : PyData} {k : Key} (r : Dd K B v d) (e : keyOf d = some k) : v = kV k ∧ d = keyP k := by
  cases d with
  | int i =>
    cases e
    exact ⟨dd_int r, rfl⟩
  | str i =>
    cases e
    exact ⟨dd_str r, rfl⟩
  | none => cases e
  | bool _ => cases e
  | list _ => cases e
  | tuple _ => cases e
  | dict _ => cases e
abbrev Kd := List (PyData × PyData)
def getD (ks : Kd) (k : Key) : Option PyData := (ks.find? fun p => isKey k p.1).map (·.2)
def hasD (ks : Kd) (k : Key) : Bool := (getD ks k).isSome
def putD (ks : Kd) (k : Key) (d : PyData) : Kd := if (ks.any fun p => isKey k p.1) = true then ks.map (fun p => if isKey k p.1 = true then (p.1, d) else p) else ks ++ [(keyP k, d)]
def mergeD (ks : Kd) (more : List (Key × PyData)) : Kd := more.foldl (fun acc p => putD acc p.1 p.2) ks
theorem DdK.len {K : PySem.W.Frag} {H : Hp} : ∀ {kvs : List (Key × V)} {ks : Kd}, DdK K H kvs ks → kvs.length = ks.length
  | _, _, .nil => rfl
  | _, _, .cons _ t => by rw [List.length_cons, List.length_cons, DdK.len t]
theorem DdK.get {K : PySem.W.Frag} {H : Hp} {k : Key} : ∀ {kvs : List (Key × V)} {ks : Kd} {d : PyData}, DdK K H kvs ks → getD ks k = some d → ∃ v, valV kvs k = some v ∧ Dd K H v d
  | _, _, _, .nil, e => by cases e
  | _, _, d, .cons (k := k') (v := v) (kvs := kvs) (d := d') (ks := ks) r t, e => by
    unfold getD at e
    rw [List.find?_cons, isKey_p] at e
    by_cases h : k' = k
    · rw [decide_eq_true h] at e
      cases e
      exact ⟨v, valV_pos h, r⟩
    · rw [decide_eq_false h] at e
      rw [valV_neg (p := (k', v)) h]
      exact DdK.get (k := k) t e
theorem DdK.getN {K : PySem.W.Frag} {H : Hp} {k : Key} : ∀ {kvs : List (Key × V)} {ks : Kd}, DdK K H kvs ks → getD ks k = none → valV kvs k = none
  | _, _, .nil, _ => rfl
  | _, _, .cons (k := k') (v := v) (kvs := kvs) (d := d') (ks := ks) r t, e => by
    unfold getD at e
    rw [List.find?_cons, isKey_p] at e
    by_cases h : k' = k
    · rw [decide_eq_true h] at e
      cases e
    · rw [decide_eq_false h] at e
      rw [valV_neg (p := (k', v)) h]
      exact DdK.getN (k := k) t e
theorem DdK.has {K : PySem.W.Frag} {H : Hp} {k : Key} {kvs : List (Key × V)} {ks : Kd} (h : DdK K H kvs ks) : (valV kvs k).isSome = hasD ks k := by
  unfold hasD
  cases e : getD ks k with
  | none =>
    rw [h.getN e]
    rfl
  | some d =>
    obtain ⟨v, h1, _⟩ := h.get e
    rw [h1]
    rfl
theorem DdK.any {K : PySem.W.Frag} {H : Hp} {k : Key} : ∀ {kvs : List (Key × V)} {ks : Kd}, DdK K H kvs ks → (kvs.any fun kv => decide (kv.1 = k)) = ks.any fun p => isKey k p.1
  | _, _, .nil => rfl
  | _, _, .cons r t => by
    rw [List.any_cons, List.any_cons, isKey_p, DdK.any (k := k) t]
theorem DdK.app {K : PySem.W.Frag} {H : Hp} : ∀ {kvs more : List (Key × V)} {ks es : Kd}, DdK K H kvs ks → DdK K H more es → DdK K H (kvs ++ more) (ks ++ es)
  | _, _, _, _, .nil, h => h
  | _, _, _, _, .cons a b, h => .cons a (DdK.app b h)
theorem DdK.map {K : PySem.W.Frag} {H : Hp} {k : Key} {v : V} {d : PyData} (r : Dd K H v d) : ∀ {kvs : List (Key × V)} {ks : Kd}, DdK K H kvs ks → DdK K H (kvs.map fun kv => if kv.1 = k then (kv.1, v) else kv) (ks.map fun p => if isKey k p.1 = true then (p.1, d) else p)
  | _, _, .nil => .nil
  | _, _, .cons (k := k') (v := v') (kvs := kvs) (d := d') (ks := ks) a t => by
    rw [List.map_cons, List.map_cons]
    have ih := DdK.map (k := k) r t
    simp only [isKey_p]
    by_cases h : k' = k
    · rw [if_pos h, if_pos (decide_eq_true h)]
      exact .cons r ih
    · rw [if_neg h, if_neg (by simp [h])]
      exact .cons a ih
theorem DdK.put {K : PySem.W.Frag} {H : Hp} {k : Key} {v : V} {d : PyData} {kvs : List (Key × V)} {ks : Kd} (h : DdK K H kvs ks) (r : Dd K H v d) : DdK K H (putK kvs k v) (putD ks k d) := by
  unfold putK putD
  rw [h.any (k := k)]
  by_cases e : (ks.any fun p => isKey k p.1) = true
  · rw [if_pos e, if_pos e]
    exact h.map r
  · rw [if_neg e, if_neg e]
    exact h.app (.cons r .nil)
inductive DdP (K : PySem.W.Frag) (H : Hp) : List (Key × V) → List (Key × PyData) → Prop
  | nil : DdP K H [] []
  | cons {k : Key} {v : V} {kvs : List (Key × V)} {d : PyData} {ks : List (Key × PyData)} : Dd K H v d → DdP K H kvs ks → DdP K H ((k, v) :: kvs) ((k, d) :: ks)
theorem DdP.merge {K : PySem.W.Frag} {H : Hp} : ∀ {more : List (Key × V)} {es : List (Key × PyData)} {kvs : List (Key × V)} {ks : Kd}, DdP K H more es → DdK K H kvs ks → DdK K H (mergeK kvs more) (mergeD ks es)
  | _, _, _, _, .nil, h => h
  | _, _, kvs, ks, .cons (k := k) (v := v) (kvs := more) (d := d) (ks := es) r t, h => by
    show DdK K H (mergeK (putK kvs k v) more) (mergeD (putD ks k d) es)
    exact DdP.merge t (h.put r)
/-! ### a dict that is looked at -/
abbrev WK := List Sl → Nat → XQ → (Kd → Nat → Prop) → Prop
def SndK (G : Cg) (t : TE) (w : WK) : Prop := ∀ ρ σ n B H E (Qd : Kd → Nat → Prop) (Q : VK), St G n B H ρ σ → w ρ n E Qd → XW G σ B H E →
  (∀ l kvs ks n' B' H', Mv G.pn B H B' H' → Pk G.pn n' B' H' → H' l = some (.dK kvs) → (∀ p c T, G.pn = some (p, c, T) → l ≠ p) → DdK G.K B' kvs ks → Qd ks n' → Q (.ref l) H') → t σ H Q
structure BK (X : Cx) (G : Cg) (e : Expr) (t : TE) (w : WK) : Prop where
  pe : PE X e t
  snd : SndK G t w
section
variable {m : Bool} {X : Cx} {G : Cg} {a b c d e f o : Expr} {es rest : List Expr} {ta tb tc td te : TE} {wa wb wc wd we : WE} {pos p p2 p3 apos cpos : Pos} {x : Str} {n : Nat} {t u tt : TT} {w v wt : WT} {wl wl2 : WL} {wn : WN} {wv wv2 : WV} {wk : WK} {st : Stmt}
def wKd (i : Nat) : WK := fun ρ n _ Q => match ρ[i]? with
  | some (.dow ks) => Q ks n
  | some (.val (.py (.dict ks))) => Q ks n
  | _ => False
def wOfK (w : WE) : WK := fun ρ n E Q => w ρ n E fun d n' => match d with
  | .py (.dict ks) => Q ks n'
  | _ => False
theorem BE.k (h : BE X G a ta wa) : BK X G a ta (wOfK wa) := ⟨h.pe, fun ρ σ n B H E Qd Q S hw xw k => h.snd ρ σ n B H E _ Q S hw xw fun v d n' B' H' m pk r q => by
  match d, r, q with
  | .py (.dict ks), r, q =>
    have r' : Dd G.K B' v (.dict ks) := r
    cases r' with
    | @dic l kvs _ h3 h4 =>
      refine k l kvs ks n' B' H' m pk (m.s _ _ h3) (fun p c T e z => ?_) h4 q
      rw [e] at pk
      rw [z, pk.2.1] at h3
      cases h3⟩
/-- d[k] -/
def wDget (wk : WK) (wb : WE) : WE := fun ρ n E Q => wk ρ n E fun ks n1 => wb ρ n1 E fun y n2 => match y with
  | .py y => (match keyOf y with
    | some k => (match getD ks k with
      | some z => Q (.py z) n2
      | none => False)
    | none => False)
  | _ => False
/-- k in d, k not in d -/
def wDin (f : Bool → Bool) (wb : WE) (wk : WK) : WE := fun ρ n E Q => wb ρ n E fun y n1 => wk ρ n1 E fun ks n2 => match y with
  | .py y => (match keyOf y with
    | some k => Q (.py (.bool (f (hasD ks k)))) n2
    | none => False)
  | _ => False
/-- d[k] = e -/
def sDput (i : Nat) (w wk : WE) : WS := fun ρ n E DB => match ρ[i]? with
  | some (.dow ks) => w ρ n (E ρ) fun d n1 => wk ρ n1 (E ρ) fun y n2 => (match d, y with
    | .py d, .py y => (match keyOf y with
      | some k => ks.length < 100000 ∧ DB.nx (ρ.set i (.dow (putD ks k d))) n2
      | none => False)
    | _, _ => False)
  | _ => False
end
end Fv
set_option maxRecDepth 100000
set_option maxHeartbeats 4000000
/-! Dict displays and comprehensions; list comprehensions with two fors. -/
namespace Fv
open PySem PySem.Spec PyProof.Rows L2 Gb
section
variable {m : Bool} {X : Cx} {G : Cg} {a b c d e f o : Expr} {es rest : List Expr} {ta tb tc td te tk : TE} {wa wb wc wd we wy : WE} {pos p p2 p3 apos cpos : Pos} {x : Str} {n : Nat} {t u tt tt1 : TT} {w v wt wt1 : WT} {wl wl2 : WL} {wn : WN} {wv wv2 : WV} {wk : WK} {st : Stmt}
/-! ### displays -/
def wPairs : List (WE × WE) → List Sl → Nat → XQ → (List (Key × PyData) → Nat → Prop) → Prop
  | [], _, n, _, Q => Q [] n
  | (wk, wv) :: r, ρ, n, E, Q => wk ρ n E fun dk n1 => wv ρ n1 E fun dv n2 => match dk, dv with
    | .py y, .py z => (match keyOf y with
      | some k => wPairs r ρ n2 E fun ps n3 => Q ((k, z) :: ps) n3
      | none => False)
    | _, _ => False
inductive BPs (X : Cx) (G : Cg) : Pos → List (Option Expr) → List Expr → List (TE × TE) → List (WE × WE) → Prop
  | nil {pos : Pos} : BPs X G pos [] [] [] []
  | cons {pos : Pos} {k v : Expr} {ks : List (Option Expr)} {vs : List Expr} {tk tv : TE} {wk wv : WE} {trs : List (TE × TE)} {ws : List (WE × WE)} : BE X G k tk wk → BE X G v tv wv → BPs X G pos ks vs trs ws → BPs X G pos (some k :: ks) (v :: vs) ((tk, tv) :: trs) ((wk, wv) :: ws)
theorem BPs.pps {pos : Pos} {ks : List (Option Expr)} {vs : List Expr} {trs : List (TE × TE)} {ws : List (WE × WE)} (h : BPs X G pos ks vs trs ws) : PPs X pos ks vs trs := by
  induction h with
  | nil => exact pps_nil
  | cons a b _ ih => exact pps_cons a.pe b.pe ih
theorem DdP.mono {K : PySem.W.Frag} {H H' : Hp} (e : Same H H') : ∀ {vs : List (Key × V)} {ds : List (Key × PyData)}, DdP K H vs ds → DdP K H' vs ds
  | _, _, .nil => .nil
  | _, _, .cons a b => .cons (Dd.mono e a) (DdP.mono e b)
theorem DdP.len {K : PySem.W.Frag} {H : Hp} : ∀ {vs : List (Key × V)} {ds : List (Key × PyData)}, DdP K H vs ds → vs.length = ds.length
  | _, _, .nil => rfl
  | _, _, .cons _ t => by rw [List.length_cons, List.length_cons, DdP.len t]
theorem BPs.snd {pos : Pos} {ks : List (Option Expr)} {vs : List Expr} {trs : List (TE × TE)} {ws : List (WE × WE)} (h : BPs X G pos ks vs trs ws) : ∀ ρ σ n B H E (Qd : List (Key × PyData) → Nat → Prop) (Q : List (V × V) → Hp → Prop), St G n B H ρ σ → wPairs ws ρ n E Qd → XW G σ B H E →
    (∀ kvs es n' B' H', Mv G.pn B H B' H' → Pk G.pn n' B' H' → DdP G.K B' kvs es → Qd es n' → Q (kvs.map fun kv => (kV kv.1, kv.2)) H') → tPairs trs σ H Q := by
  induction h with
  | nil => exact fun ρ σ n B H E Qd Q S hw xw k => k [] [] n B H (Mv.refl S.sub) S.pk .nil hw
  | cons a b _ ih =>
    intro ρ σ n B H E Qd Q S hw xw k
    refine a.snd ρ σ n B H E _ _ S hw xw fun v1 d1 n1 B1 H1 m1 pk1 r1 q1 => b.snd ρ σ n1 B1 H1 E _ _ (S.step m1 pk1) q1 (xw.step m1) fun v2 d2 n2 B2 H2 m2 pk2 r2 q2 => ?_
    match d1, d2, r1, r2, q2 with
    | .py y, .py z, r1, r2, q2 =>
      simp only at q2
      match hk : keyOf y, q2 with
      | some k', q2 =>
        obtain ⟨ev, _⟩ := keyOf_v r1 hk
        have m12 := m1.trans m2
        refine ih ρ σ n2 B2 H2 E _ _ (S.step m12 pk2) q2 (xw.step m12) fun kvs es n3 B3 H3 m3 pk3 r3 q3 => ?_
        rw [ev]
        exact k ((k', v2) :: kvs) ((k', z) :: es) n3 B3 H3 (m12.trans m3) pk3 (.cons (Dd.mono m3.b r2) r3) q3
def wDisp (ws : List (WE × WE)) : WV := fun ρ n E Q => wPairs ws ρ n E fun es n' => es.length ≤ 15 ∧ Q (.dow (mergeD [] es)) n'
theorem bv_disp {keys : List (Option Expr)} {values : List Expr} {trs : List (TE × TE)} {ws : List (WE × WE)} (h : BPs X G pos keys values trs ws) (hp : PE X (.Dict keys values pos) (tDisp trs)) : BV X G (.Dict keys values pos) (tDisp trs) (wDisp ws) :=
  ⟨hp, fun ρ σ n B H E Qd Q S hw xw k => fun q hq => by
    have F := free_new S hq
    have m0 : Mv G.pn B H B (upd H q (.dK [])) := Mv.newOwn S.sub hq
    have pk0 := S.pk.own F (.none hq) (o := .dK [])
    refine h.snd ρ σ n B _ E _ _ (S.step m0 pk0) hw (xw.step m0) fun kvs es n1 B1 H1 m1 pk1 r1 q1 => ?_
    have hq1 := m1.kp.at_ (G := G) F upd_same
    have F1 := F.mv m1 upd_same
    refine ⟨hq1, kvs, rfl, by rw [r1.len]; exact q1.1, ?_⟩
    have m01 : Mv G.pn B H B1 (upd H1 q (.dK (mergeK [] kvs))) := (m0.trans m1).own hq F1.1 (fun p c T e => (F1.2.2 p c T e).1)
    exact k (.ref q) (.dow (mergeD [] es)) n1 B1 _ m01 (pk1.own F1 (.dK hq1)) ⟨q, _, rfl, hq, F1, upd_same, DdP.merge r1 .nil⟩ q1.2⟩
/-! ### dict comprehensions -/
def dcGo (wg : WG) (wt : WT) (wk wv : WE) : List D → Kd → Nat → List Sl → (Kd → Nat → Prop) → Prop
  | [], acc, n, _, Q => Q acc n
  | d :: ds, acc, n, ρ, Q => wg d ρ fun ρ2 => wt ρ2 n (fun _ _ => False) fun b n1 => if b = true then wk ρ2 n1 (fun _ _ => False) fun y n2 => wv ρ2 n2 (fun _ _ => False) fun z n3 => (match y, z with
      | .py y, .py z => (match keyOf y with
        | some k => dcGo wg wt wk wv ds (putD acc k z) n3 ρ Q
        | none => False)
      | _, _ => False)
    else dcGo wg wt wk wv ds acc n1 ρ Q
def wDc (wi : WI) (wg : WG) (wt : WT) (wk wv : WE) (vs : List Nat) : WV := fun ρ n E Q => wi ρ n E fun ds n1 => dcGo wg wt wk wv ds [] n1 (wipeB ρ vs) fun ks n' => Q (.dow ks) n'
/-! ### two fors -/
def NoD (ρ : List Sl) (σ : L2.St) (D : Addr) : Prop := (∀ j, ownAt ρ j → σ[j]? ≠ some (some (.ref D))) ∧ ¬ ghost ρ D
theorem St.noD {G : Cg} {n : Nat} {B H : Hp} {ρ : List Sl} {σ : L2.St} (S : St G n B H ρ σ) {D : Addr} (h : H D = none) : NoD ρ σ D := by
  refine ⟨fun j ⟨x, hx, ox⟩ e => ?_, fun g => ?_⟩
  · cases x with
    | mat t l rows => cases ox
    | own ds =>
      obtain ⟨l, vs, h1, h2, _⟩ := S.own j ds hx
      rw [h1] at e
      cases e
      rw [h] at h2
      cases h2
    | dow ds =>
      obtain ⟨l, vs, h1, h2, _⟩ := S.dow j ds hx
      rw [h1] at e
      cases e
      rw [h] at h2
      cases h2
    | no => cases ox
    | val d => cases ox
  · obtain ⟨o, e⟩ := S.mat.there g
    rw [h] at e
    cases e
theorem ghost_wipe {ρ : List Sl} {D : Addr} : ∀ vs : List Nat, ghost (wipeB ρ vs) D → ghost ρ D
  | [], h => h
  | v :: vs, h => ghost_wipe vs (mat_setS (fun _ _ _ => by intro z; cases z) h)
theorem NoD.wipe {ρ : List Sl} {σ : L2.St} {D : Addr} (h : NoD ρ σ D) : ∀ vs : List Nat, NoD (wipeB ρ vs) (L2.wipe σ vs) D
  | [] => h
  | v :: vs => ⟨fun j ⟨x, hx, ox⟩ => by
    have ih := (NoD.wipe h vs).1
    have hx' : ((wipeB ρ vs).set v .no)[j]? = some x := hx
    by_cases e : v = j
    · subst e
      rw [List.getElem?_set_self'] at hx'
      cases q : (wipeB ρ vs)[v]? with
      | none =>
        rw [q] at hx'
        cases hx'
      | some y =>
        rw [q] at hx'
        have z : Sl.no = x := Option.some.inj hx'
        rw [← z] at ox
        cases ox
    · rw [List.getElem?_set_ne e] at hx'
      show ((L2.wipe σ vs).set v none)[j]? ≠ _
      rw [List.getElem?_set_ne e]
      exact ih j ⟨x, hx', ox⟩, fun g => h.2 (ghost_wipe (v :: vs) g)⟩
/-- what no slot holds may be written -/
theorem St.hide {G : Cg} {n : Nat} {B H : Hp} {ρ : List Sl} {σ : L2.St} {D : Addr} {o : HO} (S : St G n B H ρ σ) (F : Free G B D) (hn : NoD ρ σ D) (hm : MutO H D) (nt : notTb o := by trivial) : St G n B (upd H D o) ρ σ := by
  refine ⟨S.mv.own F.2.1 F.1 (fun p c T e => (F.2.2 p c T e).1) nt, S.pk.own F hm nt, S.len, S.val, fun j ds h => ?_, fun j ks h => ?_, S.dis, S.mat.other hn.2⟩
  · obtain ⟨l', vs, a1, a2, a3, a4, a5⟩ := S.own j ds h
    exact ⟨l', vs, a1, by rw [upd_ne (fun z => hn.1 j ⟨_, h, rfl⟩ (by rw [a1, z]))]; exact a2, a3, a4, a5⟩
  · obtain ⟨l', vs, a1, a2, a4, a5⟩ := S.dow j ks h
    exact ⟨l', vs, a1, by rw [upd_ne (fun z => hn.1 j ⟨_, h, rfl⟩ (by rw [a1, z]))]; exact a2, a4, a5⟩
def lc2Go (wg : WG) (wt : WT) (wi1 : WI) (wg1 : WG) (wt1 : WT) (we : WE) (vs1 : List Nat) : List D → List PyData → Nat → List Sl → (List PyData → Nat → Prop) → Prop
  | [], acc, n, _, Q => Q acc n
  | d :: ds, acc, n, ρ, Q => wg d ρ fun ρ2 => wt ρ2 n (fun _ _ => False) fun b n1 => if b = true then wi1 ρ2 n1 (fun _ _ => False) fun ds1 n2 => acc.length + ds1.length ≤ 100000 ∧ lcGo wg1 wt1 we ds1 acc n2 (wipeB ρ2 vs1) fun acc' n3 => lc2Go wg wt wi1 wg1 wt1 we vs1 ds acc' n3 ρ Q
    else lc2Go wg wt wi1 wg1 wt1 we vs1 ds acc n1 ρ Q
def wLc2 (wi : WI) (wg : WG) (wt : WT) (wi1 : WI) (wg1 : WG) (wt1 : WT) (we : WE) (vs vs1 : List Nat) : WN := fun ρ n E Q => wi ρ n E fun ds n1 => lc2Go wg wt wi1 wg1 wt1 we vs1 ds [] n1 (wipeB ρ vs) Q
theorem snd_lc2 {wi wi1 : TI} {g g1 : TG} {ii ii1 : WI} {wg wg1 : WG} {is is1 vs vs1 : List Nat} (hi : SndI G wi ii) (hg : SndG G g wg is) (ht : SndT G tt wt) (hi1 : SndI G wi1 ii1) (hg1 : SndG G g1 wg1 is1) (ht1 : SndT G tt1 wt1) (he : Snd G te we) (his : ∀ i ∈ is, i ∈ vs) (his1 : ∀ i ∈ is1, i ∈ vs1) :
    SndN G (tLc2 wi g tt wi1 g1 tt1 te vs vs1) (wLc2 ii wg wt ii1 wg1 wt1 we vs vs1) := by
  intro ρ σ n B H E Qd Q S hw xw k
  refine hi ρ σ n B H E _ _ S hw xw fun J ds n1 B1 H1 m1 pk1 yl hz q1 => ?_
  intro D hD
  have S1 := S.step m1 pk1
  have F1 := free_new S1 hD
  have hH : H D = none := up_none m1 hD
  refine ⟨fun i m Hc => m = ds.length - i ∧ i ≤ ds.length ∧ ∃ n' Bc accV acc, Mv G.pn B1 H1 Bc Hc ∧ Pk G.pn n' Bc Hc ∧ Free G Bc D ∧ Hc D = some (.lst accV) ∧ accV.length ≤ sizeLine ∧ DdA G.K Bc accV acc ∧ lc2Go wg wt ii1 wg1 wt1 we vs1 (ds.drop i) acc n' (wipeB ρ vs) Qd,
    ⟨ds.length, rfl, Nat.zero_le _, n1, B1, [], [], Mv.newOwn m1.s hD, pk1.own F1 (.none hD), F1, upd_same, Nat.zero_le _, .nil, q1⟩, ?_⟩
  rintro i m Hc ⟨rfl, hi', n', Bc, accV, acc, mc, pkc, Fc, hDc, hl, hA, q⟩
  obtain ⟨yg, ys, yy⟩ := yl Bc Hc mc.b mc.s
  by_cases hlt : i < ds.length
  · refine .inr ⟨yg i hlt, fun H' => i + 1 ≤ ds.length ∧ ∃ n' Bc accV acc, Mv G.pn B1 H1 Bc H' ∧ Pk G.pn n' Bc H' ∧ Free G Bc D ∧ H' D = some (.lst accV) ∧ accV.length ≤ sizeLine ∧ DdA G.K Bc accV acc ∧ lc2Go wg wt ii1 wg1 wt1 we vs1 (ds.drop (i + 1)) acc n' (wipeB ρ vs) Qd,
      fun H' p => ⟨ds.length - (i + 1), by omega, rfl, p⟩, fun x H' y => ?_⟩
    obtain ⟨B', d, hd, my, ry⟩ := yy i x H' hlt y
    have ed : ds.drop i = d :: ds.drop (i + 1) := by
      rw [List.drop_eq_getElem_cons hlt]
      have := (List.getElem?_eq_some_iff.mp hd).2
      rw [this]
    rw [ed] at q
    simp only [lc2Go] at q
    have m2 := mc.trans (my.of (pn := G.pn))
    have pk2 := pkc.mv my
    have S2 := (S1.step m2 pk2).wipe vs
    refine hg _ _ n' B' H' x d _ _ S2 ry q fun ρ3 σ3 S3 o3 q3 => ⟨wipe_only o3.o his, ?_⟩
    refine ht ρ3 σ3 n' B' H' _ _ _ S3 q3 XW.none fun b n3 B3 H3 m3 pk3 q4 => ?_
    have m03 := (my.of (pn := G.pn)).trans m3
    cases b with
    | true =>
      rw [if_pos rfl] at q4 ⊢
      refine hi1 ρ3 σ3 n3 B3 H3 _ _ _ (S3.step m3 pk3) q4 XW.none fun J1 ds1 n4 B4 H4 m4 pk4 yl1 hz1 q5 => ?_
      obtain ⟨hlen, q5⟩ := q5
      have m04 := m03.trans m4
      have hD4 := m04.kp.at_ Fc hDc
      have F4 := Fc.mv m04 hDc
      have S4 := ((S3.step m3 pk3).step m4 pk4)
      have nD : NoD ρ3 σ3 D := ⟨fun j oj => by
        obtain ⟨a1, a2⟩ := o3.w j oj
        rw [a2]
        exact (NoD.wipe (S1.noD hD) vs).1 j a1, fun g => (NoD.wipe (S1.noD hD) vs).2 (o3.g D g)⟩
      refine ⟨fun j k' Hd => k' = ds1.length - j ∧ j ≤ ds1.length ∧ ∃ n' Bc accW acc', Same B4 Bc ∧ St G n' Bc Hd ρ3 σ3 ∧ Mv G.pn B1 H1 Bc Hd ∧ Pk G.pn n' Bc Hd ∧ Free G Bc D ∧ Hd D = some (.lst accW) ∧ accW.length ≤ accV.length + j ∧ DdA G.K Bc accW acc' ∧
          lcGo wg1 wt1 we (ds1.drop j) acc' n' (wipeB ρ3 vs1) fun acc' n3 => lc2Go wg wt ii1 wg1 wt1 we vs1 (ds.drop (i + 1)) acc' n3 (wipeB ρ vs) Qd,
        ⟨ds1.length, rfl, Nat.zero_le _, n4, B4, accV, acc, Same.refl B4, S4, mc.trans m04, pk4, F4, hD4, Nat.le_refl _, hA.mono m04.b, q5⟩, ?_⟩
      rintro j k' Hd ⟨rfl, hj', n5, B5, accW, acc', sb, S5, mo, pk5, F5, hD5, hl5, hA5, q6⟩
      obtain ⟨yg1, ys1, yy1⟩ := yl1 B5 Hd sb S5.sub
      have hVl : accV.length = acc.length := hA.len
      by_cases hlt1 : j < ds1.length
      · refine .inr ⟨yg1 j hlt1, fun H' => j + 1 ≤ ds1.length ∧ ∃ n' Bc accW acc', Same B4 Bc ∧ St G n' Bc H' ρ3 σ3 ∧ Mv G.pn B1 H1 Bc H' ∧ Pk G.pn n' Bc H' ∧ Free G Bc D ∧ H' D = some (.lst accW) ∧ accW.length ≤ accV.length + (j + 1) ∧ DdA G.K Bc accW acc' ∧
            lcGo wg1 wt1 we (ds1.drop (j + 1)) acc' n' (wipeB ρ3 vs1) fun acc' n3 => lc2Go wg wt ii1 wg1 wt1 we vs1 (ds.drop (i + 1)) acc' n3 (wipeB ρ vs) Qd,
          fun H' p => ⟨ds1.length - (j + 1), by omega, rfl, p⟩, fun x1 H' y1 => ?_⟩
        obtain ⟨B6, d1, hd1, my1, ry1⟩ := yy1 j x1 H' hlt1 y1
        have ed1 : ds1.drop j = d1 :: ds1.drop (j + 1) := by
          rw [List.drop_eq_getElem_cons hlt1]
          have := (List.getElem?_eq_some_iff.mp hd1).2
          rw [this]
        rw [ed1] at q6
        simp only [lcGo] at q6
        have pk6 := pk5.mv my1
        have S6' := S5.step (my1.of (pn := G.pn)) pk6
        have S6 := S6'.wipe vs1
        refine hg1 _ _ n5 B6 H' x1 d1 _ _ S6 ry1 q6 fun ρ7 σ7 S7 o7 q7 => ⟨wipe_only o7.o his1, ?_⟩
        refine ht1 ρ7 σ7 n5 B6 H' _ _ _ S7 q7 XW.none fun b1 n8 B8 H8 m8 pk8 q8 => ?_
        have m58 := (my1.of (pn := G.pn)).trans m8
        cases b1 with
        | true =>
          rw [if_pos rfl] at q8 ⊢
          refine he ρ7 σ7 n8 B8 H8 _ _ _ (S7.step m8 pk8) q8 XW.none fun z dz n9 B9 H9 m9 pk9 r9 q9 => ?_
          match dz, r9, q9 with
          | .py ez, r9, q9 =>
            have m59 := m58.trans m9
            have hD9 := m59.kp.at_ F5 hD5
            have F9 := F5.mv m59 hD5
            have hbl : accW.length < sizeLine := Nat.lt_of_lt_of_le (m := 100000) (by omega) (by decide)
            exact ⟨accW, hD9, hbl, hlt1, n9, B9, accW ++ [z], acc' ++ [ez], (sb.trans my1.b).trans (m8.trans m9).b, ((S5.step m59 pk9).hide F9 nD (.lst hD9)), (mo.trans m59).own hD F9.1 (fun p c T e => (F9.2.2 p c T e).1), pk9.own F9 (.lst hD9), F9, upd_same, by rw [List.length_append]; exact Nat.succ_le_succ hl5, (hA5.mono m59.b).snoc r9, q9⟩
        | false =>
          rw [if_neg (by decide)] at q8 ⊢
          exact ⟨hlt1, n8, B8, accW, acc', (sb.trans my1.b).trans m8.b, S5.step m58 pk8, mo.trans m58, pk8, F5.mv m58 hD5, m58.kp.at_ F5 hD5, Nat.le_succ_of_le hl5, hA5.mono m58.b, q8⟩
      · have e : j = ds1.length := by omega
        subst e
        rw [List.drop_length] at q6
        exact .inl ⟨ys1, hlt, n5, B5, accW, acc', mo, pk5, F5, hD5, line5 (by omega), hA5, q6⟩
    | false =>
      rw [if_neg (by decide)] at q4 ⊢
      exact ⟨hlt, n3, B3, accV, acc, mc.trans m03, pk3, Fc.mv m03 hDc, m03.kp.at_ Fc hDc, hl, hA.mono m03.b, q4⟩
  · have e : i = ds.length := by omega
    subst e
    rw [List.drop_length] at q
    exact .inl ⟨ys, k D accV acc n' Bc Hc (m1.trans mc) pkc hH Fc hDc hl hA q⟩
theorem bn_lc2 {elt tg iter tg1 iter1 : Expr} {ifs ifs1 : List Expr} {scope : Scope} {own : List (Str × Nat)} {vs1 : List Nat} {wi wi1 : TI} {g g1 : TG} {ii ii1 : WI} {wg wg1 : WG} {is is1 : List Nat} (hc : X.calm = true) (hN : X.N.Nodup) (hi : BI X G tg iter wi ii) (ok : BlkOk X.N X.env.scope scope own) (hv : ∀ i ∈ vs1, i ∈ own.map (·.2))
    (hg : ∀ (s : Shared) (H : Hp) (C : Addr) (cl : List (Str × Addr)) (fp : List Addr), BG (X.blk s H scope (compEnvC scope cl C X.env) fp) G tg g wg is) (ht : ∀ (s : Shared) (H : Hp) (C : Addr) (cl : List (Str × Addr)) (fp : List Addr), BTs (X.blk s H scope (compEnvC scope cl C X.env) fp) G ifs tt wt)
    (hi1 : ∀ (s : Shared) (H : Hp) (C : Addr) (cl : List (Str × Addr)) (fp : List Addr), BI (X.blk s H scope (compEnvC scope cl C X.env) fp) G tg1 iter1 wi1 ii1)
    (hg1 : ∀ (s : Shared) (H : Hp) (C : Addr) (cl : List (Str × Addr)) (fp : List Addr), BG (X.blk s H scope (compEnvC scope cl C X.env) fp) G tg1 g1 wg1 is1) (ht1 : ∀ (s : Shared) (H : Hp) (C : Addr) (cl : List (Str × Addr)) (fp : List Addr), BTs (X.blk s H scope (compEnvC scope cl C X.env) fp) G ifs1 tt1 wt1)
    (he : ∀ (s : Shared) (H : Hp) (C : Addr) (cl : List (Str × Addr)) (fp : List Addr), BE (X.blk s H scope (compEnvC scope cl C X.env) fp) G elt te we) (his : ∀ i ∈ is, i ∈ own.map (·.2) := by decide) (his1 : ∀ i ∈ is1, i ∈ vs1 := by decide) (hs : ∀ x, foldedSetIterable iter X.env x = pure x := by intro _; rfl) (hs1 : ∀ env x, foldedSetIterable iter1 env x = pure x := by intro _ _; rfl) :
    BN X G (.ListComp elt [⟨tg, iter, ifs, 0⟩, ⟨tg1, iter1, ifs1, 0⟩] scope pos) (tLc2 wi g tt wi1 g1 tt1 te (own.map (·.2)) vs1) (wLc2 ii wg wt ii1 wg1 wt1 we (own.map (·.2)) vs1) :=
  ⟨pe_lc2 hc hN hi.pi ok hv (fun s H C cl fp => (hg s H C cl fp).pg) (fun s H C cl fp => (ht s H C cl fp).pt) (fun s H C cl fp => (hi1 s H C cl fp).pi) (fun s H C cl fp => (hg1 s H C cl fp).pg) (fun s H C cl fp => (ht1 s H C cl fp).pt) (fun s H C cl fp => (he s H C cl fp).pe) hs hs1,
    snd_lc2 hi.snd (hg X.s_0 G.H0 0 [] []).snd (ht X.s_0 G.H0 0 [] []).snd (hi1 X.s_0 G.H0 0 [] []).snd (hg1 X.s_0 G.H0 0 [] []).snd (ht1 X.s_0 G.H0 0 [] []).snd (he X.s_0 G.H0 0 [] []).snd his his1⟩
end
end Fv
set_option maxRecDepth 100000
set_option maxHeartbeats 4000000
/-! Contracts by value: what a def wishes of its arguments, what it tells. -/
namespace Fv
open PySem PySem.Spec PyProof.Rows L2 Gb
/-- what stays through a proof -/
structure Fx where
  P : Program
  w : World
  K : PySem.W.Frag
  mg : Str → Option Value
  base : Heap
  C : Addr
  ex : Str → Option Value
def Fx.g (F : Fx) (pn : Pn) (xe : WX) (B H : Hp) : Cg := ⟨F.K, F.C, pn, xe, F.ex, B, H⟩
/-- .. of no pen, for R alone -/
def XKx (E : XK) : WX := fun cls d _ H => E cls d H
abbrev FB := List D → Nat → XQ → QE → Prop
/-- how an end is wished: one's own list (true), or any value -/
def QEnd (F : Fx) (pn : Pn) (B H : Hp) (QD : QE) (Q : VK) : Bool → Prop
  | false => ∀ v d n' B' H', Mv pn B H B' H' → Pk pn n' B' H' → R (F.g pn (fun _ _ _ _ => True) B H) B' v d → QD d n' → Q v H'
  | true => RtN (F.g pn (fun _ _ _ _ => True) B H) QD Q
def SpB (F : Fx) (m : Bool) (f : FB) : Sp := fun vs H Q E => ∃ (pn : Pn) (B : Hp) (n : Nat) (ds : List D) (EX : XQ) (QD : QE), Same B H ∧ Pk pn n B H ∧ RA (F.g pn (fun _ _ _ _ => True) B H) B vs ds ∧ f ds n EX QD ∧ QEnd F pn B H QD Q m ∧
  ∀ x n' cv dd B' H', Mv pn B H B' H' → Pk pn n' B' H' → ExR (F.g pn (fun _ _ _ _ => True) B H) B' cv dd x → EX x n' → E cv dd H'
theorem R.g {F : Fx} {pn : Pn} {xe xe' : WX} {B H B0 H0 B' : Hp} {v : V} {d : D} (h : R (F.g pn xe B H) B' v d) : R (F.g pn xe' B0 H0) B' v d := by
  cases d <;> exact h
theorem RA.g {F : Fx} {pn : Pn} {xe xe' : WX} {B H B0 H0 B' : Hp} : ∀ {vs : List V} {ds : List D}, RA (F.g pn xe B H) B' vs ds → RA (F.g pn xe' B0 H0) B' vs ds
  | [], [], _ => trivial
  | _ :: _, _ :: _, h => ⟨h.1.g, RA.g h.2⟩
  | [], _ :: _, h => h.elim
  | _ :: _, [], h => h.elim
theorem RA.len {G : Cg} {B : Hp} : ∀ {vs : List V} {ds : List D}, RA G B vs ds → vs.length = ds.length
  | [], [], _ => rfl
  | _ :: _, _ :: _, h => by rw [List.length_cons, List.length_cons, RA.len h.2]
  | [], _ :: _, h => h.elim
  | _ :: _, [], h => h.elim
/-! ### a def by its body -/
def startB (N : List Str) (ds : List D) : List Sl := ds.map Sl.val ++ List.replicate (N.length - ds.length) .no
theorem RA.get {G : Cg} {B : Hp} : ∀ {vs : List V} {ds : List D} {i : Nat} {d : D}, RA G B vs ds → ds[i]? = some d → ∃ v, vs[i]? = some v ∧ R G B v d
  | [], [], _, _, _, e => by simp at e
  | v :: _, d :: _, 0, _, h, e => by
    simp at e
    subst e
    exact ⟨v, rfl, h.1⟩
  | _ :: vs, _ :: ds, i + 1, d, h, e => by
    obtain ⟨v, h1, h2⟩ := RA.get (i := i) h.2 (by simpa using e)
    exact ⟨v, by simpa using h1, h2⟩
  | [], _ :: _, _, _, h, _ => h.elim
  | _ :: _, [], _, _, h, _ => h.elim
theorem st_start {G : Cg} {n : Nat} {B H : Hp} {N : List Str} {vs : List V} {ds : List D} (hb : G.B0 = B) (hh : G.H0 = H) (sb : Same B H) (pk : Pk G.pn n B H) (r : RA G B vs ds) : St G n B H (startB N ds) (L2.start N vs) := by
  have hl := r.len
  have at_ : ∀ {i : Nat} {s : Sl}, (startB N ds)[i]? = some s → s ≠ .no → ∃ d, ds[i]? = some d ∧ s = .val d := fun {i s} h hn => by
    unfold startB at h
    by_cases hi : i < ds.length
    · rw [List.getElem?_append_left (by simpa using hi), List.getElem?_map] at h
      cases e : ds[i]? with
      | none =>
        rw [e] at h
        cases h
      | some d =>
        rw [e] at h
        exact ⟨d, rfl, (Option.some.inj h).symm⟩
    · rw [List.getElem?_append_right (by simpa using hi), List.getElem?_replicate] at h
      split at h
      · exact absurd (Option.some.inj h).symm hn
      · cases h
  refine ⟨by rw [hb, hh]; exact Mv.refl sb, pk, ?_, fun i d h => ?_, fun i xs h => ?_, fun i xs h => ?_, fun i j l _ hi _ _ => ?_, .no_ fun i t l rows => ?_⟩
  · unfold startB L2.start
    rw [List.length_append, List.length_append, List.length_map, List.length_map, List.length_replicate, List.length_replicate, hl]
  · obtain ⟨d', h1, h2⟩ := at_ h (fun z => nomatch z)
    cases h2
    obtain ⟨v, h3, h4⟩ := r.get h1
    refine ⟨v, ?_, h4⟩
    unfold L2.start
    rw [List.getElem?_append_left (by simpa using (List.getElem?_eq_some_iff.mp h3).1), List.getElem?_map, h3]
    rfl
  · obtain ⟨d', _, h2⟩ := at_ h (fun z => nomatch z)
    cases h2
  · obtain ⟨d', _, h2⟩ := at_ h (fun z => nomatch z)
    cases h2
  · obtain ⟨x, h1, h2⟩ := hi
    obtain ⟨d', _, h4⟩ := at_ h1 (fun z => by rw [z] at h2; cases h2)
    rw [h4] at h2
    cases h2
  · intro h
    obtain ⟨d', _, h2⟩ := at_ h (fun z => nomatch z)
    cases h2
/-- a def that may be called by its name -/
structure ClB (F : Fx) (k : Nat) (x : Str) (m : Bool) (f : FB) : Prop where
  ex : ∃ (fa : Addr) (fd : FuncData) (ps : List Str), FnOk F.P F.w F.K F.mg F.base (L2.CX F.P F.w) k fa fd ps (SpB F m f) ∧ F.mg x = some (.ref fa) ∧ PySem.W.keepIn F.K (.ref fa) = true ∧ Binds F.K fd ps []
abbrev cxB (F : Fx) (N : List Str) (x : Str) (sc : Scope) (f : Addr) (cd : Value) (A : Around) (outer : List Env) (s : Shared) (H : Hp) (E : XK) : Cx := cxOf (L2.CX F.P F.w) F.P F.w F.K F.mg F.base N x sc f cd A outer s H E
theorem fn_b {F : Fx} {x qual : Str} {st : Stmt} {fa : Addr} {fd : FuncData} {N ps : List Str} {k : Nat} {m : Bool} {f : FB} (Fn : Fun F.K x qual st fa fd) (S : FnScope N ps (defScope st)) (len : ∀ ds n EX QD, f ds n EX QD → ds.length = ps.length)
    (hbody : ∀ (cdv : Value) (A : Around) (outer : List Env) (s : Shared) (H : Hp) (E : XK) (pn : Pn) (B : Hp), Room k (cxB F N qual (defScope st) fa cdv A outer s H E).A → Takes (cxB F N qual (defScope st) fa cdv A outer s H E) (XKx E) →
      PassesOwn (model F.P F.w) (cxB F N qual (defScope st) fa cdv A outer s H E).A (cxB F N qual (defScope st) fa cdv A outer s H E).env (cxB F N qual (defScope st) fa cdv A outer s H E).xe →
      ∃ t w, BSs m (cxB F N qual (defScope st) fa cdv A outer s H E) (F.g pn (XKx E) B H) (defBody st) t w ∧ ∀ ds n EX QD, f ds n EX QD → w (startB N ds) n (fun _ => EX) { nx := fun _ n' => m = false ∧ QD (.py .none) n', rt := QD }) :
    FnOk F.P F.w F.K F.mg F.base (L2.CX F.P F.w) (k + 1) fa fd ps (SpB F m f) := by
  refine Fn.okX S (fun vs H Q E h => ?_) (fun cdv A outer s H vs Q E hr h => ?_)
  · obtain ⟨pn, B, n, ds, EX, QD, _, _, r, hf, _⟩ := h
    rw [r.len]
    exact len _ _ _ _ hf
  · obtain ⟨pn, B, n, ds, EX, QD, sb, pk, r, hf, hq, he⟩ := h
    obtain ⟨t, w, hb, hw⟩ := hbody cdv A outer s H E pn B hr (takes_of rfl rfl rfl rfl) (passes_of rfl)
    refine ⟨t, hb.ps, hb.snd (startB N ds) (L2.start N vs) n B H (fun _ => EX) { nx := fun _ H' => Q .non H', rt := Q } { nx := fun _ n' => m = false ∧ QD (.py .none) n', rt := QD } (st_start rfl rfl sb pk r.g) (hw ds n EX QD hf) (fun ρ' σ' n1 B1 H1 s1 S1 x n' cv dd B' H' mv pk' er ex => he x n' cv dd B' H' (S1.mv.trans mv) pk' er ex) ?_⟩
    refine ⟨fun ρ' σ' n' B' H' _ S' q => ?_, fun _ _ _ _ _ _ _ q => q.elim, fun _ _ _ _ _ _ _ q => q.elim, fun hm v d n' B' H' mv pk' rv q => ?_, fun hm => ?_⟩
    · obtain ⟨hm, q⟩ := q
      subst hm
      exact hq .non (.py .none) n' B' H' S'.mv S'.pk r_non q
    · subst hm
      exact hq v d n' B' H' mv pk' rv.g q
    · subst hm
      exact RtN.wx (G := F.g pn (fun _ _ _ _ => True) B H) (G' := F.g pn (XKx E) B H) rfl rfl rfl rfl (show RtN (F.g pn (fun _ _ _ _ => True) B H) QD Q from hq)
theorem cl_b {F : Fx} {x : Str} {st : Stmt} {N ps : List Str} {k : Nat} {m : Bool} {f : FB} (D : Dn F.K F.mg x st ps) (S : FnScope N ps (defScope st)) (len : ∀ ds n EX QD, f ds n EX QD → ds.length = ps.length)
    (hbody : ∀ (fa : Addr) (cdv : Value) (A : Around) (outer : List Env) (s : Shared) (H : Hp) (E : XK) (pn : Pn) (B : Hp), Room k (cxB F N x (defScope st) fa cdv A outer s H E).A → Takes (cxB F N x (defScope st) fa cdv A outer s H E) (XKx E) →
      PassesOwn (model F.P F.w) (cxB F N x (defScope st) fa cdv A outer s H E).A (cxB F N x (defScope st) fa cdv A outer s H E).env (cxB F N x (defScope st) fa cdv A outer s H E).xe →
      ∃ t w, BSs m (cxB F N x (defScope st) fa cdv A outer s H E) (F.g pn (XKx E) B H) (defBody st) t w ∧ ∀ ds n EX QD, f ds n EX QD → w (startB N ds) n (fun _ => EX) { nx := fun _ n' => m = false ∧ QD (.py .none) n', rt := QD }) :
    ClB F (k + 1) x m f := by
  obtain ⟨fa, fd, Fn, hm, b⟩ := D.ex
  exact ⟨fa, fd, ps, fn_b Fn S len (hbody fa), hm, Fn.kp, b⟩
/-! ### calls -/
/-- f(..), W: what is wished of an exception -/
def tCallX (sp : Sp) (W : WX) (t : TA) : TE := fun σ H Q => t σ H fun vs H1 => sp vs H1 Q (fun cls d H' => W cls d σ H')
section
variable {X : Cx} {G : Cg} {k j : Nat} {x : Str} {f : FB} {p pos : Pos} {e : Expr} {es : List Expr} {t : TA} {wa : WA} {W : WX}
theorem pe_callW {fa : Addr} {fd : FuncData} {ps : List Str} {sp : Sp} (F : FnOk X.prog X.w X.K X.mg X.base (L2.CX X.prog X.w) k fa fd ps sp) (hr : Room k X.A) (hg : Gl X x) (hm : X.mg x = some (.ref fa)) (hk : PySem.W.keepIn X.K (.ref fa) = true) (hb : Binds X.K fd ps []) (tk : Takes X W) (ha : PA X (e :: es) t)
    (hdb : (x == ("__debug__" : Str)) = false := by decide) (he : starEach (e :: es) X.env = (false, eval e X.env) :: starEach es X.env := by rfl) (hpl : (backTo pos (starEach es X.env)).any (·.1) = false := by rfl) : PE X (.Call (.Name x p) (e :: es) [] pos) (tCallX sp W t) := by
  refine ⟨fun pins s σ H Q I h => ?_⟩
  refine wpAny_Call_Name_kw (ld_glob I hg hm ?_ hdb)
  refine PySem.W.callWith_K (h₀ := X.base) I.ok.mod.kin hk (thn (ha.run pos pins s σ H _ I h) fun us s1 ⟨vs, H1, I1, r, q⟩ => ⟨I1.kIn, ?_⟩) he hpl
  have hl : (us ++ []).length = ps.length := by
    rw [List.append_nil, ← r.length]
    exact F.len _ _ _ _ q
  have hb2 := hb s1 us I1.kIn hl
  rw [List.append_nil] at hb2
  refine wpAny_call (codeAny_mono (F.run X.A X.stack s1 H1 ⟨us, []⟩ us vs Q _ hr I1.env0 hb2 r q) fun r' s' hq => ?_)
  cases r' with
  | error e' => exact tk e' s' (XE.of_call I1 (fun cls d H' h => h) hq)
  | ok fl =>
    cases fl with
    | ret u => exact I1.after hq
    | next => exact hq.elim
    | brk => exact hq.elim
    | cont => exact hq.elim
def Fof (X : Cx) (G : Cg) : Fx := ⟨X.prog, X.w, X.K, X.mg, X.base, G.C, G.ex⟩
theorem R.of {F : Fx} {G : Cg} {B0 H0 B : Hp} {xe : WX} {v : V} {d : D} (h1 : F.K = G.K) (h2 : F.C = G.C) (h3 : F.ex = G.ex) : R (F.g G.pn xe B0 H0) B v d ↔ R G B v d := by
  obtain ⟨K, C, pn, xe', ex, B', H'⟩ := G
  obtain ⟨P, w, K2, mg, base, C2, ex2⟩ := F
  cases h1
  cases h2
  cases h3
  cases d <;> exact Iff.rfl
theorem RA.of {F : Fx} {G : Cg} {B0 H0 B : Hp} {xe : WX} (h1 : F.K = G.K) (h2 : F.C = G.C) (h3 : F.ex = G.ex) : ∀ {vs : List V} {ds : List D}, RA G B vs ds → RA (F.g G.pn xe B0 H0) B vs ds
  | [], [], _ => trivial
  | _ :: _, _ :: _, h => ⟨(R.of h1 h2 h3).mpr h.1, RA.of h1 h2 h3 h.2⟩
  | [], _ :: _, h => h.elim
  | _ :: _, [], h => h.elim
def wCall (f : FB) (wa : WA) : WE := fun ρ n E Q => wa ρ n E fun ds n1 => f ds n1 E Q
theorem exr_of {F : Fx} {G : Cg} {B0 H0 B : Hp} {xe : WX} {cv : Value} {dd : Option Addr} {x : Exn} (h1 : F.K = G.K) (h3 : F.ex = G.ex) (h : ExR (F.g G.pn xe B0 H0) B cv dd x) : ExR G B cv dd x := by
  obtain ⟨K, C, pn, xe', ex, B', H'⟩ := G
  obtain ⟨P, w, K2, mg, base, C2, ex2⟩ := F
  cases h1
  cases h3
  exact h
/-- a call that tells a value; what it lets out is let out -/
theorem be_call {F : Fx} (c : ClB F k x false f) (hr : Room j X.A) (hk : k ≤ j) (hg : Gl X x) (tk : Takes X G.xe) (ha : BA X G (e :: es) t wa) (hF : Fof X G = F := by rfl)
    (hdb : (x == ("__debug__" : Str)) = false := by decide) (he : starEach (e :: es) X.env = (false, eval e X.env) :: starEach es X.env := by rfl) (hpl : (backTo pos (starEach es X.env)).any (·.1) = false := by rfl) (hK : X.K = G.K := by rfl) : BE X G (.Call (.Name x p) (e :: es) [] pos) (tCallX (SpB F false f) G.xe t) (wCall f wa) := by
  subst hF
  obtain ⟨fa, fd, ps, Fn, hm, kp, b⟩ := c.ex
  refine ⟨pe_callW Fn (hr.mono hk) hg hm kp b tk ha.pe hdb he hpl, fun ρ σ n B H E Qd Q S hw xw kk => ha.snd ρ σ n B H E _ _ S hw xw fun vs ds n1 B1 H1 m1 pk1 r1 q1 => ?_⟩
  refine ⟨G.pn, B1, n1, ds, E, Qd, m1.s, pk1, RA.of hK rfl rfl r1, q1, fun v d n' B' H' mv pk' rv q => kk v d n' B' H' (m1.trans mv) pk' ((R.of (F := Fof X G) hK rfl rfl).mp rv) q, fun y n' cv dd B' H' mv pk' er ex => xw y n' cv dd B' H' (m1.trans mv) pk' (exr_of (F := Fof X G) hK rfl er) ex⟩
/-- .. that tells a list of the asker's own -/
theorem bn_call {F : Fx} (c : ClB F k x true f) (hr : Room j X.A) (hk : k ≤ j) (hg : Gl X x) (tk : Takes X G.xe) (ha : BA X G (e :: es) t wa) (hF : Fof X G = F := by rfl)
    (hdb : (x == ("__debug__" : Str)) = false := by decide) (he : starEach (e :: es) X.env = (false, eval e X.env) :: starEach es X.env := by rfl) (hpl : (backTo pos (starEach es X.env)).any (·.1) = false := by rfl) (hK : X.K = G.K := by rfl) : BN X G (.Call (.Name x p) (e :: es) [] pos) (tCallX (SpB F true f) G.xe t) (fun ρ n E Q => wCall f wa ρ n E fun d n' => match d with
      | .py (.list ds) => Q ds n'
      | _ => False) := by
  subst hF
  obtain ⟨fa, fd, ps, Fn, hm, kp, b⟩ := c.ex
  refine ⟨pe_callW Fn (hr.mono hk) hg hm kp b tk ha.pe hdb he hpl, fun ρ σ n B H E Qd Q S hw xw kk => ha.snd ρ σ n B H E _ _ S hw xw fun vs ds n1 B1 H1 m1 pk1 r1 q1 => ?_⟩
  refine ⟨G.pn, B1, n1, ds, E, _, m1.s, pk1, RA.of hK rfl rfl r1, q1, ⟨fun l ws es' n' B' H' mv pk' fr hl hz hA q => ?_, fun _ _ _ _ _ _ _ _ _ q => q.elim, fun _ _ _ _ _ q => q.elim⟩, fun y n' cv dd B' H' mv pk' er ex => xw y n' cv dd B' H' (m1.trans mv) pk' (exr_of (F := Fof X G) hK rfl er) ex⟩
  have S1 := S.step m1 pk1
  have hl1 : H1 l = none := fr.2.1
  exact kk l ws es' n' B' H' (m1.trans mv) pk' (m1.kp.up hl1) ⟨fr.1, S1.mv.kp.up hl1, fr.2.2⟩ hl hz (by rw [← hK]; exact hA) q
/-- .. where nothing may be let out: in any context -/
theorem be_call0 {F : Fx} (c : ClB F k x false f) (hr : Room j X.A) (hk : k ≤ j) (hg : Gl X x) (ha : BA X G (e :: es) t wa) (hF : Fof X G = F := by rfl)
    (hdb : (x == ("__debug__" : Str)) = false := by decide) (he : starEach (e :: es) X.env = (false, eval e X.env) :: starEach es X.env := by rfl) (hpl : (backTo pos (starEach es X.env)).any (·.1) = false := by rfl) (hK : X.K = G.K := by rfl) : BE X G (.Call (.Name x p) (e :: es) [] pos) (tCallX (SpB F false f) (fun _ _ _ _ => False) t) (fun ρ n E Q => wa ρ n E fun ds n1 => f ds n1 (fun _ _ => False) Q) := by
  subst hF
  obtain ⟨fa, fd, ps, Fn, hm, kp, b⟩ := c.ex
  refine ⟨pe_callW Fn (hr.mono hk) hg hm kp b takes0 ha.pe hdb he hpl, fun ρ σ n B H E Qd Q S hw xw kk => ha.snd ρ σ n B H E _ _ S hw xw fun vs ds n1 B1 H1 m1 pk1 r1 q1 => ?_⟩
  refine ⟨G.pn, B1, n1, ds, (fun _ _ => False), Qd, m1.s, pk1, RA.of hK rfl rfl r1, q1, fun v d n' B' H' mv pk' rv q => kk v d n' B' H' (m1.trans mv) pk' ((R.of (F := Fof X G) hK rfl rfl).mp rv) q, fun y n' cv dd B' H' mv pk' er ex => ex⟩
/-- .. that tells lists of the asker's own in a tuple, or None -/
def wMatR (Q : Sl → Nat → Prop) : QE := fun d n' => match d with
  | .py .none => Q (.val (.py .none)) n'
  | .py (.tuple (.none :: es)) => ∀ (l : Addr) (rows : Rws), (rows.map fun r => PyData.list r.2) = es → Q (.mat false l rows) n'
  | .py (.tuple es) => ∀ (l : Addr) (rows : Rws), (rows.map fun r => PyData.list r.2) = es → Q (.mat true l rows) n'
  | _ => False
def wCallM (f : FB) (wa : WA) : WV := fun ρ n E Q => wa ρ n E fun ds n1 => f ds n1 E (wMatR Q)
theorem MatAt.up {G G' : Cg} {n : Nat} {B H B' H' : Hp} {ρ : List Sl} {σ : L2.St} {t : Bool} {l : Addr} {rows : Rws} (S : St G n B H ρ σ) (h1 : G'.K = G.K) (h2 : G'.pn = G.pn) (h3 : G'.H0 = H) (h : MatAt G' B' H' t l rows) : MatAt G B' H' t l rows ∧ ∀ a, a ∈ l :: rows.map (·.1) → H a = none := by
  have up : ∀ a, Free G' B' a → Free G B' a ∧ H a = none := fun a fr => by
    have e : H a = none := by
      rw [← h3]
      exact fr.2.1
    exact ⟨⟨fr.1, S.mv.kp.up e, by rw [← h2]; exact fr.2.2⟩, e⟩
  refine ⟨⟨h.at_, (up l h.fr).1, h.nd, h.len, fun r hr => ?_⟩, fun a ha => ?_⟩
  · obtain ⟨vs, g1, g2, g3, g4⟩ := h.row r hr
    exact ⟨vs, g1, g2, by rw [← h1]; exact g3, (up _ g4).1⟩
  · rcases List.mem_cons.mp ha with rfl | ha
    · exact (up _ h.fr).2
    · obtain ⟨r, hr, rfl⟩ := List.mem_map.mp ha
      obtain ⟨vs, g1, g2, g3, g4⟩ := h.row r hr
      exact (up _ g4).2
end
end Fv
set_option maxRecDepth 100000
set_option maxHeartbeats 4000000
/-! Exception classes of one's own over any built-in one: made, their fields set. -/
namespace PySem
namespace Xb
open PySem.W PySem.Calls PyProof.Rows PySem.HandSPX Builtin Builtin.ObjectAttr
/-- own classes, then the tail tl -/
def refsT (tl : List Value) : List Value → Bool
  | .ref c :: r => refsT tl r
  | .none :: r => .none :: r == tl
  | l => l == tl
/-- a built-in exception class that is called Bi, whose mro is tl -/
structure Bas (newId iniId : String) (tl : List Value) : Prop where
  nw : ∃ (Bn inN : String) (bmN : List Value), ExcBaseFacts Bn newId inN bmN ∧ tl.contains (.type Bn) = true
  na : tl.contains (.type "AttributeError") = false
  nn : tl.contains (.type "NameError") = false
  ob : tl.contains (.type "object") = true
  hd : ∀ c r, tl ≠ .ref c :: r
  ps : ∀ me : Value, refuseLoop me "__setattr__" tl = pure ()
  ini : ∃ B : String, Slot B "__init__" iniId ∧ entryFor table iniId = some Builtin.«BaseException.__init__» ∧ builtinKind iniId = some .slot ∧ splitId iniId = some (B, "__init__") ∧
    Manifest.signature? iniId = some ⟨.positional, "*", B, .self, [⟨"args", .varPos, false⟩]⟩ ∧ (B != "*") = true ∧ tl.contains (.type B) = true
theorem refsT_cases {tl : List Value} : ∀ l : List Value, refsT tl l = true → (∃ c r, l = .ref c :: r ∧ refsT tl r = true) ∨ l = tl
  | [], e => .inr (beq_iff_eq.mp e)
  | .ref c :: r, e => .inl ⟨c, r, rfl, e⟩
  | .none :: _, e => .inr (beq_iff_eq.mp e)
  | .ellipsis :: _, e => .inr (beq_iff_eq.mp e)
  | .notImplemented :: _, e => .inr (beq_iff_eq.mp e)
  | .bool _ :: _, e => .inr (beq_iff_eq.mp e)
  | .int _ _ :: _, e => .inr (beq_iff_eq.mp e)
  | .float _ _ :: _, e => .inr (beq_iff_eq.mp e)
  | .str _ _ :: _, e => .inr (beq_iff_eq.mp e)
  | .bytes _ _ :: _, e => .inr (beq_iff_eq.mp e)
  | .type _ :: _, e => .inr (beq_iff_eq.mp e)
  | .builtin _ :: _, e => .inr (beq_iff_eq.mp e)
section
variable {newId iniId : String} {tl : List Value}
theorem Bas.pass (T : Bas newId iniId tl) (me : Value) : ∀ l : List Value, refsT tl l = true → refuseLoop me "__setattr__" l = pure () := by
  intro l
  induction l with
  | nil =>
    intro e
    rcases refsT_cases [] e with ⟨c, r, q, _⟩ | q
    · cases q
    · rw [q]
      exact T.ps me
  | cons a r ih =>
    intro e
    rcases refsT_cases (a :: r) e with ⟨c, r', q, h⟩ | q
    · cases q
      rw [refuseLoop_ref]
      exact ih h
    · rw [q]
      exact T.ps me
theorem refsT_has (Y : String) : ∀ l : List Value, refsT tl l = true → l.contains (.type Y) = tl.contains (.type Y) := by
  intro l
  induction l with
  | nil =>
    intro e
    rcases refsT_cases [] e with ⟨c, r, q, _⟩ | q
    · cases q
    · rw [q]
  | cons a r ih =>
    intro e
    rcases refsT_cases (a :: r) e with ⟨c, r', q, h⟩ | q
    · cases q
      rw [List.contains_cons, ih h]
      rfl
    · rw [q]
theorem Bas.ne (T : Bas newId iniId tl) {l : List Value} (h : refsT tl l = true) : l.isEmpty = false := by
  have := refsT_has "object" l h
  rw [T.ob] at this
  cases l with
  | nil => simp at this
  | cons _ _ => rfl
end
section
variable {pg : Program} {wd : World} {M : Model} {A : Around} {E : Value → Shared → Prop} {R : Result → Shared → Prop} {h : Heap} {g : Array GenState} {d : Drawn} {t : Nat} {os : OsState}
variable {nm q : Str} {C N : Addr} {bs bm tl : List Value} {hdct : Bool} {sn : List Str} {sub : List Value} {ab : Bool} {col : Option Bool} {dd : Option Addr} {k0 k1 k2 k3 k5 : Option Value} {newId iniId : String}
theorem new_check (T : Bas newId iniId tl) (hT : refsT tl bm = true) {us : List Value} {Q : Unit → Shared → Prop}
    (hC : h.get? C = some (excClassObj nm q C N bs bm hdct sn sub ab col dd k0 k1 k2 k3 k5 newId)) (hq : Q () ⟨h, g, d, t, os⟩) :
    wpAny M A (checkBuiltinCall newId ⟨.ref C :: us, []⟩) Q E ⟨h, g, d, t, os⟩ := by
  obtain ⟨Bn, inN, bmN, F, hB⟩ := T.nw
  have has : (Value.ref C :: bm).contains (.type Bn) = true := by
    rw [List.contains_cons, refsT_has _ _ hT, hB, Bool.or_true]
  have hns := F.noStar
  simp only [checkBuiltinCall, F.newKind, F.newRow, F.newSplit]
  repeat (first | refine wpAny_loadPart_at hC ?_ | (refine wpAny_isSubtype_exc hC ?_
                                                    rw [has]) | refine wpAny_staticBase_exc hC ?_ | refine wpAny_madeBy_exc hC ?_ | simp only [Bool.false_eq_true, bne_self_eq_false, if_false] | wp_step)
  exact hq
theorem new_any (T : Bas newId iniId tl) (hT : refsT tl bm = true) {us : List Value} (hl : us.length ≤ sizeLine)
    (hC : h.get? C = some (excClassObj nm q C N bs bm hdct sn sub ab col dd k0 k1 k2 k3 k5 newId))
    (hq : R (.ok (.ret (.ref (h.objs.size + 1)))) ⟨(h.push (W.kdv_tup us)).push (excO C h.objs.size), g, d, t, os⟩) :
    codeAny (model pg wd) A (.builtin newId ⟨.ref C :: us, []⟩) R ⟨h, g, d, t, os⟩ := by
  obtain ⟨Bn, inN, bmN, F, hB⟩ := T.nw
  have fe := F.ends
  have has : (Value.ref C :: bm).contains (.type Bn) = true := by
    rw [List.contains_cons, refsT_has _ _ hT, hB, Bool.or_true]
  have hasA : (Value.ref C :: bm).contains (.type "AttributeError") = false := by
    rw [List.contains_cons, refsT_has _ _ hT, T.na]
    rfl
  have hasN : (Value.ref C :: bm).contains (.type "NameError") = false := by
    rw [List.contains_cons, refsT_has _ _ hT, T.nn]
    rfl
  refine codeAny_builtinAt F.entry ?_
  unfold Builtin.«BaseException.__new__»
  refine wpAt_bind ?_
  show wpAt _ _ _ (stack >>= _) _ _ _
  refine wpAt_bind (wpAt_stack fun at0 under => wpAt_of_wpAny ?_)
  wp_walk
  refine wpAt_of_wpAny ?_
  rw [F.owner]
  repeat (first | with_reducible refine wpAny_madeHere_exc F.canon hC ?_ | with_reducible refine wpAny_loadPart_at hC ?_ | (with_reducible refine wpAny_isSubtype_exc hC ?_
                                                                                                                            first | rw [has] | rw [hasA] | rw [hasN]) | wp_step)
  show R _ _
  rw [Heap.size_push]
  exact hq
theorem made_any (T : Bas newId iniId tl) (hT : refsT tl bm = true) {us : List Value} {fI : Addr} {Q : Fin → Shared → Prop} (hl : us.length ≤ sizeLine)
    (hC : h.get? C = some (excClassObj nm q C N bs bm hdct sn sub ab col dd k0 k1 k2 k3 k5 newId))
    (hi : W.Looks (model pg wd) h (typeLookup (.ref C) "__init__") (some (.ref fI))) (hb : ∀ me, W.Looks (model pg wd) h (bindSpecial (.ref fI) me) (.ref fI, [me]))
    (hq : codeAny (model pg wd) A (.call (.ref fI) ⟨.ref (h.objs.size + 1) :: us, []⟩)
      (fun r s2 => match r with | .ok (.ret v) => v = .none ∧ Q (.done (.ret (.ref (h.objs.size + 1)))) s2 | .ok _ => False | .error e => E e s2)
      ⟨(h.push (W.kdv_tup us)).push (excO C h.objs.size), g, d, t, os⟩) :
    wpAny (model pg wd) A (Builtin.«type.__call__» ⟨.ref C :: us, []⟩) Q E ⟨h, g, d, t, os⟩ := by
  obtain ⟨Bn, inN, bmN, F, hB⟩ := T.nw
  repeat (first | with_reducible refine wpAny_loadPart_at hC ?_ | with_reducible refine wpAny_madeBy_exc hC ?_ | wp_step)
  refine codeAny_call_builtin_code (Code.quiet_builtin _ F.quiet) (new_check T hT hC (new_any T hT hl hC ?_))
  show wpAny _ _ _ _ _ _
  have up : ∀ b o, h.get? b = some o → ((h.push (W.kdv_tup us)).push (excO C h.objs.size)).get? b = some o := fun b o e => Heap.get?_push_of_some _ (Heap.get?_push_of_some _ e)
  have hC2 := up _ _ hC
  have at1 : ((h.push (W.kdv_tup us)).push (excO C h.objs.size)).get? (h.objs.size + 1) = some (excO C h.objs.size) := by heap_get
  have selfIn : (Value.ref C :: bm).contains (.ref C) = true := by simp
  have hi2 := hi.keeps up
  have hb2 := (hb (.ref (h.objs.size + 1))).keeps up
  unfold isInstance
  repeat (first | with_reducible refine wpAny_loadPart_at at1 ?_ | (with_reducible refine wpAny_isSubtype_exc hC2 ?_
                                                                    rw [selfIn]) | wp_step)
  show wpAny _ _ (typeLookup (.ref C) _) _ _ _
  refine hi2.at (wpAny_holding (wpAny_bind (hb2.at (wpAny_bind (wpAny_call (codeAny_mono hq fun r s2 z => ?_))))))
  rcases r with e | (v | _ | _ | _) <;> first | exact z | exact z.elim | skip
  obtain ⟨rfl, z⟩ := z
  first
    | exact wpAny_pure (wpAny_pure z)
    | (wp_walk
       exact z)
theorem call_any (T : Bas newId iniId tl) (hT : refsT tl bm = true) {us : List Value} {fI : Addr} (hl : us.length ≤ sizeLine)
    (hC : h.get? C = some (excClassObj nm q C N bs bm hdct sn sub ab col dd k0 k1 k2 k3 k5 newId))
    (hi : W.Looks (model pg wd) h (typeLookup (.ref C) "__init__") (some (.ref fI))) (hb : ∀ me, W.Looks (model pg wd) h (bindSpecial (.ref fI) me) (.ref fI, [me]))
    (hq : codeAny (model pg wd) (A.under (.builtin "type.__call__" ⟨.ref C :: us, []⟩)) (.call (.ref fI) ⟨.ref (h.objs.size + 1) :: us, []⟩) (W.InitBack (h.objs.size + 1) R)
      ⟨(h.push (W.kdv_tup us)).push (excO C h.objs.size), g, d, t, os⟩) :
    codeAny (model pg wd) A (.call (.ref C) ⟨us, []⟩) R ⟨h, g, d, t, os⟩ := by
  have tcl := tc_lookup
  have tcb := tc_bind (.ref C)
  have ty : (⟨h, g, d, t, os⟩ : Shared).TypeIs (.ref C) "type" := ⟨_, hC, rfl⟩
  refine codeAny_of_tree ?_
  show wpAny _ _ (callAny (.ref C) _) _ _ _
  repeat (any_goals (first | assumption | with_reducible refine wpAny_loadPart_at hC ?_ | wp_step))
  refine ⟨rfl, codeAny_call_builtin_at (Code.quiet_builtin _ (by decide +kernel)) entry_typeCall (wpAny_check_type_call_sub hC (made_any T hT hl hC hi hb (codeAny_mono hq fun r s2 z => ?_)))⟩
  rcases r with e | (v | _ | _ | _) <;> exact z
theorem ini_check {B : String} (hs : (B != "*") = true) (hk : builtinKind iniId = some .slot) (hsp : splitId iniId = some (B, "__init__")) (hsg : Manifest.signature? iniId = some ⟨.positional, "*", B, .self, [⟨"args", .varPos, false⟩]⟩) (hB : bm.contains (.type B) = true)
    {e : Addr} {oe : Obj} {us : List Value} {Q : Unit → Shared → Prop} (hC : h.get? C = some (excClassObj nm q C N bs bm hdct sn sub ab col dd k0 k1 k2 k3 k5 newId)) (he : h.get? e = some oe) (hcl : oe.cls = .ref C) (hq : Q () ⟨h, g, d, t, os⟩) :
    wpAny M A (checkBuiltinCall iniId ⟨.ref e :: us, []⟩) Q E ⟨h, g, d, t, os⟩ := by
  have has : (Value.ref C :: bm).contains (.type B) = true := by rw [List.contains_cons, hB, Bool.or_true]
  simp only [checkBuiltinCall, hk, hsp, hsg]
  repeat (first | (with_reducible refine wpAny_loadPart_at he ?_
                   rw [hcl]) | with_reducible refine wpAny_loadPart_at hC ?_ | (with_reducible refine wpAny_isSubtype_exc hC ?_
                                                                                rw [has]) | wp_step)
  refine wpAny_onRaise ?_
  rw [show ∀ (a b : String) (n : Nat), Bind.check ⟨.positional, "*", B, .self, [⟨"args", .varPos, false⟩]⟩ a b n (List.map (fun x => x.fst) ({ pos := Value.ref e :: us } : Args).kw) = pure () from fun a b n => check_star_args _ _ _ _ _ _]
  exact wpAny_pure hq
theorem ini_any (T : Bas newId iniId tl) (hT : refsT tl bm = true) {e t0 : Addr} {us : List Value} (hl : us.length ≤ sizeLine)
    (hC : h.get? C = some (excClassObj nm q C N bs bm hdct sn sub ab col dd k0 k1 k2 k3 k5 newId)) (he : h.get? e = some (excO C t0))
    (hq : ∀ h2 t1, (∀ b o, b ≠ e → h.get? b = some o → h2.get? b = some o) → h2.get? e = some (excO C t1) → R (.ok (.ret .none)) ⟨h2, g, d, t, os⟩) :
    codeAny (model pg wd) A (.call (.builtin iniId) ⟨.ref e :: us, []⟩) R ⟨h, g, d, t, os⟩ := by
  obtain ⟨B, sl, en, hk, hsp, hsg, hs, hB⟩ := T.ini
  refine codeAny_call_builtin sl.plain en (ini_check hs hk hsp hsg ((refsT_has B bm hT).trans hB) hC he rfl ?_)
  wp_walk
  refine hq _ h.objs.size (fun b o hb ho => ?_) ?_
  · rw [Heap.get?_update_other _ _ (Ne.symm hb)]
    exact Heap.get?_push_of_some _ ho
  · rw [Heap.get?_update_self _ (Heap.get?_push_of_some _ he) rfl]
    rfl
/-- a field is set, the exception has no dict yet -/
theorem sets_new {K : W.Frag} {name : Str} {tk : Tok} {v : Value} {x : Addr} {fv : Array Value} {cd : ClassData} (T : Bas newId iniId tl)
    (kin : K.In h) (hx : h.get? x = some { cls := .ref C, data := .fields fv }) (hcd : W.clsIn K C = some cd) (hm : refsT tl cd.mro = true) (hh : cd.hasDict = true) (ha : W.findIn K (.ref C) name = some none)
    (hq : ∀ h2 tk2 dx, (∀ b o, b ≠ x → h.get? b = some o → h2.get? b = some o) → h.objs.size ≤ dx → dx ≠ x → h2.get? x = some { cls := .ref C, dict := some dx, data := .fields fv } →
      h2.Ns1 dx (fun y => if y = name then some v else none) → R (.ok (.ret .none)) ⟨h2, g, d, tk2, os⟩) :
    codeAny (model pg wd) A (.call (.builtin "object.__setattr__") ⟨[.ref x, .str name tk, v], []⟩) R ⟨h, g, d, t, os⟩ := by
  have J : W.InstAt h x { cls := .ref C, data := .fields fv } C none := ⟨hx, rfl, rfl, trivial⟩
  have so := F.store_object
  have hob : cd.mro.contains (.type "object") = true := (refsT_has "object" _ hm).trans T.ob
  have far : x ≠ h.objs.size := Nat.ne_of_lt (Heap.lt_size hx)
  have isO : W.Looks (model pg wd) h (isInstance (.ref x) (.type "object")) true := J.type.andThen (W.looks_mroIn kin (by unfold W.mroIn; rw [hcd, Option.bind_some, if_neg (by rw [T.ne hm]; decide), hob]))
  refine codeAny_call_builtin so.slot.plain so.entry (@W.check_slot (model pg wd) _ _ ⟨h, g, d, t, os⟩ "object.__setattr__" "object" "__setattr__" (.ref x) [.str name tk, v] [] _ so.kind so.split isO (so.args (.ref x) (.str name tk) v) ?_)
  have lm : W.Looks (model pg wd) h (mroOf (.ref C)) cd.mro := (W.looks_clsIn kin hcd).andThen .now
  have ln : W.Looks (model pg wd) h (storeTaker? none) none := .now
  have lc : W.Looks (model pg wd) h (classData C) cd := W.looks_clsIn kin hcd
  rw [W.osa_eq, refuse_eq]
  refine wpAny_bind (wpAny_bind (J.type.at (wpAny_bind (lm.at ?_))))
  rw [T.pass _ _ hm]
  refine wpAny_pure (wpAny_bind (J.type.at (wpAny_bind ((W.looks_findIn kin ha).at (wpAny_bind (ln.at ?_))))))
  show wpAny _ _ (storeInOwnDict (.ref x) (.ref C) (.str name tk) name v false) _ _ _
  obtain ⟨nm, bs, mro, ns, qn, hasD, sn, sb, ab, col, del⟩ := cd
  dsimp only at hh
  subst hh
  unfold storeInOwnDict ownDictForStores
  repeat (first | with_reducible refine store_in_new ?_ ?_ | with_reducible refine wpAny_loadPart_at hx ?_ | with_reducible refine lc.at ?_ | wp_step)
  · exact ⟨_, #[], _, (Heap.get?_update_ne _ _ _ _ far.symm).trans (Heap.get?_push_at rfl rfl), rfl, fun e he => absurd he (by simp), fun _ => rfl⟩
  · intro h2 tk2 hn2 hs
    have hx1 : (h.push { cls := .type "dict", data := .dict #[] }).get? x = some { cls := .ref C, data := .fields fv } := Heap.get?_push_of_some _ hx
    refine hq h2 tk2 h.objs.size (fun b o hb ho => ?_) (Nat.le_refl _) far.symm ?_ hn2
    · exact (hs.2 b (Nat.ne_of_lt (Heap.lt_size ho))).trans ((Heap.get?_update_ne _ _ _ _ hb).trans (Heap.get?_push_of_some _ ho))
    · exact (hs.2 x far).trans (Heap.get?_update_self _ hx1 rfl)
/-- .. has one -/
theorem sets_old {K : W.Frag} {name : Str} {tk : Tok} {v : Value} {x dx : Addr} {fv : Array Value} {cd : ClassData} {m0 : Str → Option Value} {nl : List Str} (T : Bas newId iniId tl)
    (kin : K.In h) (hx : h.get? x = some { cls := .ref C, dict := some dx, data := .fields fv }) (hns : h.Ns1 dx m0) (hw : Within m0 nl) (hz : nl.length ≤ 1000) (hcd : W.clsIn K C = some cd) (hm : refsT tl cd.mro = true) (hh : cd.hasDict = true)
    (ha : W.findIn K (.ref C) name = some none)
    (hq : ∀ h2 tk2, (∀ b o, b ≠ dx → h.get? b = some o → h2.get? b = some o) → h2.Ns1 dx (fun y => if y = name then some v else m0 y) → R (.ok (.ret .none)) ⟨h2, g, d, tk2, os⟩) :
    codeAny (model pg wd) A (.call (.builtin "object.__setattr__") ⟨[.ref x, .str name tk, v], []⟩) R ⟨h, g, d, t, os⟩ := by
  obtain ⟨oD, esD, epD, hoD, hdD, _⟩ := hns.count hw
  have J : W.InstAt h x { cls := .ref C, dict := some dx, data := .fields fv } C (some oD) := ⟨hx, rfl, rfl, hoD⟩
  have so := F.store_object
  have hob : cd.mro.contains (.type "object") = true := (refsT_has "object" _ hm).trans T.ob
  have isO : W.Looks (model pg wd) h (isInstance (.ref x) (.type "object")) true := J.type.andThen (W.looks_mroIn kin (by unfold W.mroIn; rw [hcd, Option.bind_some, if_neg (by rw [T.ne hm]; decide), hob]))
  refine codeAny_call_builtin so.slot.plain so.entry (@W.check_slot (model pg wd) _ _ ⟨h, g, d, t, os⟩ "object.__setattr__" "object" "__setattr__" (.ref x) [.str name tk, v] [] _ so.kind so.split isO (so.args (.ref x) (.str name tk) v) ?_)
  have lm : W.Looks (model pg wd) h (mroOf (.ref C)) cd.mro := (W.looks_clsIn kin hcd).andThen .now
  have ln : W.Looks (model pg wd) h (storeTaker? none) none := .now
  have lc : W.Looks (model pg wd) h (classData C) cd := W.looks_clsIn kin hcd
  rw [W.osa_eq, refuse_eq]
  refine wpAny_bind (wpAny_bind (J.type.at (wpAny_bind (lm.at ?_))))
  rw [T.pass _ _ hm]
  refine wpAny_pure (wpAny_bind (J.type.at (wpAny_bind ((W.looks_findIn kin ha).at (wpAny_bind (ln.at ?_))))))
  show wpAny _ _ (storeInOwnDict (.ref x) (.ref C) (.str name tk) name v false) _ _ _
  obtain ⟨nm, bs, mro, ns, qn, hasD, sn, sb, ab, col, del⟩ := cd
  dsimp only at hh
  subst hh
  unfold storeInOwnDict ownDictForStores
  repeat (first | with_reducible refine PySem.OEX.store_in_old hns hw hz ?_ | with_reducible refine wpAny_loadPart_at hx ?_ | with_reducible refine lc.at ?_ | wp_step)
  intro h2 tk2 hn2 hs
  exact hq h2 tk2 (fun b o hb ho => (hs.2 b hb).trans ho) hn2
end
/-! ### the bases -/
theorem bas_V : Bas "ValueError.__new__" "ValueError.__init__" [.type "ValueError", .type "Exception", .type "BaseException", .type "object"] where
  nw := ⟨_, _, _, F.excBase_ValueError, by decide +kernel⟩
  na := by decide +kernel
  nn := by decide +kernel
  ob := by decide +kernel
  hd := fun _ _ e => by cases e
  ps := fun me => by kernel_rfl
  ini := ⟨_, F.excBase_ValueError.init, F.excBase_ValueError.initEntry, F.excBase_ValueError.initKind, F.excBase_ValueError.initSplit, F.excBase_ValueError.initRow, F.excBase_ValueError.noStar, by decide +kernel⟩
end Xb
end PySem
set_option maxRecDepth 100000
set_option maxHeartbeats 4000000
/-! Exceptions that are made: their __init__, raise. -/
namespace Fv
open PySem PySem.Spec PyProof.Rows L2
open PySem.Xb (Bas refsT)
/-- what the written part says of an exception's class -/
structure OxT (K : PySem.W.Frag) (C : Addr) (newId iniId : String) (tl : List Value) : Prop where
  bas : Bas newId iniId tl
  cls : ∃ nm q N bs bm sn sub ab col dd k0 k1 k2 k3 k5, K.lookup C = some (excClassObj nm q C N bs bm true sn sub ab col dd k0 k1 k2 k3 k5 newId) ∧ refsT tl bm = true
  sa : PySem.W.findIn K (.ref C) "__setattr__" = some (some (.builtin "object.__setattr__"))
  exC : PySem.W.subIn K (.ref C) (.type "BaseException") = some true
  tyC : PySem.W.typeIn K (.ref C) = some (.type "type")
  kC : PySem.W.keepIn K (.ref C) = true
section
variable {X : Cx} {pins : List (Addr × Obj)} {σ : L2.St} {H : Hp} {s : Shared} {a C dx : Addr} {f : Str} {y : V} {u : Value} {fs : List (Str × V)} {Q : Unit → Shared → Prop} {E : Value → Shared → Prop} {A : Around} {newId iniId : String} {tl : List Value}
theorem oxt_cls (T : OxT X.K C newId iniId tl) : ∃ cd : ClassData, PySem.W.clsIn X.K C = some cd ∧ refsT tl cd.mro = true ∧ cd.hasDict = true := by
  obtain ⟨nm, q, N, bs, bm, sn, sub, ab, col, dd, k0, k1, k2, k3, k5, hC, hbm⟩ := T.cls
  refine ⟨_, by unfold PySem.W.clsIn; rw [hC] <;> rfl, ?_, rfl⟩
  show refsT tl (.ref C :: bm) = true
  exact hbm
theorem fld_new (T : OxT X.K C newId iniId tl) (I : Inv X pins σ H s) (e : H a = some (exo a C none)) (hno : PySem.W.findIn X.K (.ref C) f = some none) (ry : RelV y u)
    (k : ∀ dx s2, H dx = none → dx ≠ a → Inv X pins σ (upd (upd H dx (exd dx [(f, y)])) a (exo a C (some dx))) s2 → Q () s2) : wpAny (model X.prog X.w) A (setAttr (.ref a) f u) Q E s := by
  obtain ⟨cd, hcl, hmr, hdi⟩ := oxt_cls T
  obtain ⟨t1, ho⟩ := exo_at I.hok e
  obtain ⟨hp, g, d, t, os⟩ := s
  refine PySem.W.set_plain I.kIn (ox := { cls := .ref C, dict := none, data := .fields #[.ref t1, .none, .none, .none, .bool false, .none] }) (od := none) ⟨ho, rfl, rfl, trivial⟩ T.sa ?_
  refine PySem.Xb.sets_new T.bas I.kIn ho hcl hmr hdi hno (fun h2 tk2 dx kp dn dne hx hn => ?_)
  have nodx : H dx = none := I.hok.fresh dn
  have lt2 : ∀ {b : Addr} {o : Obj}, hp.get? b = some o → b ≠ dx := fun {b o} z => Nat.ne_of_lt (Nat.lt_of_lt_of_le (Heap.lt_size z) dn)
  have nea : ∀ {b : Addr}, H b = none → b ≠ a := fun {b} n z => by
    rw [z, e] at n
    cases n
  have U : Un X.fs [] H (upd (upd H dx (exd dx [(f, y)])) a (exo a C (some dx))) hp h2 := {
    keep := fun b o z n _ _ => kp b o (nea n) z
    slot := fun b o z n _ _ => ⟨o.slots, kp b o (nea n) z⟩
    free := fun b o z n _ => by
      rw [upd_ne (nea n), upd_ne (lt2 z)]
      exact n
    there := fun b o z _ => by
      by_cases hb : b = a
      · exact ⟨_, by rw [hb]; exact hx⟩
      · exact ⟨o, kp b o hb z⟩
    tups := fun b xs z => by
      rw [upd_ne (at_ne e z exo_tup), upd_ne (ne_of_none z nodx)]
      exact z
    frzs := fun b o v z => by
      rw [upd_ne (at_ne e z exo_frz), upd_ne (ne_of_none z nodx)]
      exact z
    tbls := fun b ps z => ⟨#[], by rw [upd_ne (at_ne e z exo_tbl), upd_ne (ne_of_none z nodx), z]; simp⟩ }
  refine k dx _ nodx dne (I.un (t' := tk2) U fun b o z => ?_)
  by_cases hb : b = a
  · subst hb
    rw [upd_same] at z
    cases z
    exact exo_ok hx
  · rw [upd_ne hb] at z
    by_cases hd : b = dx
    · subst hd
      rw [upd_same] at z
      cases z
      exact exd_ok hn (relO_put (fs := []) ry fun g => True.intro)
    · rw [upd_ne hd] at z
      refine (I.hok b o z).stay (fun c v hc y => kp c v ?_ y) (fun c hc => ?_) (fun c xs hc => ?_)
      · rcases hc with hc | hc
        · rw [hc]
          exact hb
        · exact at_ne e hc exo_own
      · rw [upd_ne (at_ne e hc exo_own), upd_ne (ne_of_none hc nodx)]
        exact hc
      · rw [upd_ne (at_ne e hc exo_tup), upd_ne (ne_of_none hc nodx)]
        exact hc
theorem fld_old (T : OxT X.K C newId iniId tl) (I : Inv X pins σ H s) (e : H a = some (exo a C (some dx))) (ed : H dx = some (exd dx fs)) (hl : fs.length ≤ 900) (hno : PySem.W.findIn X.K (.ref C) f = some none) (ry : RelV y u)
    (k : ∀ s2, Inv X pins σ (upd H dx (exd dx ((f, y) :: fs))) s2 → Q () s2) : wpAny (model X.prog X.w) A (setAttr (.ref a) f u) Q E s := by
  obtain ⟨cd, hcl, hmr, hdi⟩ := oxt_cls T
  obtain ⟨t1, ho⟩ := exo_at I.hok e
  obtain ⟨mA, hns, rel⟩ := exd_at I.hok ed
  have hw := within_of rel
  obtain ⟨hp, g, d, t, os⟩ := s
  obtain ⟨oD, _, _, hoD, _, _⟩ := hns.count hw
  refine PySem.W.set_plain I.kIn (ox := { cls := .ref C, dict := some dx, data := .fields #[.ref t1, .none, .none, .none, .bool false, .none] }) (od := some oD) ⟨ho, rfl, rfl, hoD⟩ T.sa ?_
  refine PySem.Xb.sets_old T.bas I.kIn ho hns hw (by rw [List.length_map]; omega) hcl hmr hdi hno (fun h2 tk2 kp hn => ?_)
  have there : ∃ o, h2.get? dx = some o := by
    obtain ⟨o, _, _, z, _⟩ := hn
    exact ⟨o, z⟩
  exact k _ (I.write (t' := tk2) (x := dx) (e := dx) (o := exd dx ((f, y) :: fs)) (by rw [ed]; exact True.intro) (.inl rfl) kp there (exd_ok hn (relO_put ry rel)))
theorem ini_ok {us : List Value} {Q : Value → Shared → Prop} (T : OxT X.K C newId iniId tl) (I : Inv X pins σ H s) (e : H a = some (exo a C none)) (hl : us.length ≤ sizeLine) (k : ∀ s2, Inv X pins σ H s2 → Q .none s2) :
    wpAny (model X.prog X.w) A (call (.builtin iniId) (.ref a :: us)) Q E s := by
  obtain ⟨nm, q, N, bs, bm, sn, sub, ab, col, dd, k0, k1, k2, k3, k5, hC, hbm⟩ := T.cls
  obtain ⟨t1, ho⟩ := exo_at I.hok e
  obtain ⟨hp, g, d, t, os⟩ := s
  refine wpAny_call (PySem.Xb.ini_any T.bas hbm hl (I.kIn _ _ hC) ho fun h2 t2 kp hx => ?_)
  have J := I.write (t' := t) (x := a) (e := a) (o := exo a C none) (by rw [e]; exact True.intro) (.inl rfl) kp ⟨_, hx⟩ (exo_ok hx)
  have same : upd H a (exo a C none) = H := by
    funext b
    by_cases hb : b = a
    · rw [hb, upd_same, e]
    · rw [upd_ne hb]
  rw [same] at J
  exact k _ J
end
/-! ### readings -/
/-- B.__init__(self, ..) -/
def tIni (K : PySem.W.Frag) (newId iniId : String) (tl : List Value) (ta : TA) : TE := fun σ H Q => ta σ H fun vs H1 => ∃ (a C : Addr) (ws : List V), vs = .ref a :: ws ∧ ws.length ≤ 1000 ∧ OxT K C newId iniId tl ∧ H1 a = some (exo a C none) ∧ Q .non H1
/-- self.f = e -/
def tFs (K : PySem.W.Frag) (newId iniId : String) (tl : List Value) (f : Str) (to te : TE) : TS := fun D σ H => te σ H fun y H1 => to σ H1 fun x H2 => ∃ a C : Addr, x = .ref a ∧ OxT K C newId iniId tl ∧ PySem.W.findIn K (.ref C) f = some none ∧
  ((H2 a = some (exo a C none) ∧ ∀ dx, H2 dx = none → dx ≠ a → D.nx σ (upd (upd H2 dx (exd dx [(f, y)])) a (exo a C (some dx)))) ∨
    ∃ (dx : Addr) (fs : List (Str × V)), H2 a = some (exo a C (some dx)) ∧ H2 dx = some (exd dx fs) ∧ fs.length ≤ 900 ∧ D.nx σ (upd H2 dx (exd dx ((f, y) :: fs))))
section
variable {X : Cx} {o e : Expr} {es : List Expr} {to te : TE} {ta : TA} {f B : Str} {Bs : String} {p p' p1 p2 pos : Pos} {newId iniId : String} {tl : List Value}
theorem pe_ini {pl : Sem Bool} (hg : Gl X B) (hm : X.mg B = none) (hv : bootBuiltins B = some (.type Bs)) (hty : typeOf (.type Bs) = pure (.type "type")) (hst : Manifest.isStub Bs = false) (hdb : (B == ("__debug__" : Str)) = false) (hnn : B ≠ "__name__")
    (vV : PySem.W.findCls X.K (.type Bs) (.type "type") "__init__" = some (.val (.builtin iniId))) (ha : PA X (e :: es) ta)
    (hc : eval (.Call (.Attribute (.Name B p1) "__init__" p2) (e :: es) [] pos) X.env = (do
      let w1 ← eval (.Name B p1) X.env
      standAt p2.atName
      let (f, first) ← holding [w1] (getMethod w1 "__init__" pl)
      callWith pos f first (backTo pos (starEach (e :: es) X.env)) (backToKw pos (keywordEach [] X.env))) := by rfl)
    (he : starEach (e :: es) X.env = (false, eval e X.env) :: starEach es X.env := by rfl) (hpl : (backTo pos (starEach es X.env)).any (·.1) = false := by rfl) (hh : PySem.W.handedIn (.builtin iniId) = true := by rfl) :
    PE X (.Call (.Attribute (.Name B p1) "__init__" p2) (e :: es) [] pos) (tIni X.K newId iniId tl ta) := by
  refine ⟨fun pins s σ H Q I h => ?_⟩
  refine PySem.W.methodCall_KW (ld_blt I hg hm hv ?_ hnn hdb) hc
  obtain ⟨m, fr⟩ := I.fr
  refine PySem.W.method_type fr I.ok.mod.kin hty hst vV hh ?_
  show wpAny _ _ (callWith pos (Value.builtin iniId) [] (backTo pos (starEach (e :: es) X.env)) []) _ _ _
  refine PyProof.Rows.callWith_method1 (thn (ha.run pos pins _ σ H _ (I.tok _) h) fun us s1 ⟨vs, H1, I1, r1, a, C, ws, ev, hl, T, ea, q⟩ => ?_) he hpl
  subst ev
  cases r1 with
  | @cons _ u0 _ ur ra rr =>
    cases ra
    have hlen : ur.length ≤ sizeLine := by
      rw [← Paired.length rr, sizeLine_eq]
      omega
    exact ini_ok T I1 ea hlen fun s2 J => ⟨.non, H1, J, rfl, q⟩
theorem ps_fs (ho : PE X o to) (he : PE X e te) (hs : swapsWith e (some (.Attribute o f p')) pos.line X.env = pure false := by rfl) : PS X (.Assign [.Attribute o f p'] e pos) (tFs X.K newId iniId tl f to te) := by
  refine ⟨fun pins s σ H D I h => ?_⟩
  refine plainObj_wpAny_Assign_Attribute (thn (he.run pins s σ H _ I h) fun v s1 ⟨y, H1, I1, r1, q1⟩ => thn (ho.run pins s1 σ H1 _ I1 q1) fun u s2 ⟨x, H2, I2, r2, a, C, ex, T, hno, q⟩ => ?_) hs
  subst ex
  cases r2
  rcases q with ⟨ea, q⟩ | ⟨dx, fs, ea, ed, hl, q⟩
  · exact fld_new T I2 ea hno r1 fun dx s2 n ne J => ⟨σ, _, J, q dx n ne⟩
  · exact fld_old T I2 ea ed hl hno r1 fun s2 J => ⟨σ, _, J, q⟩
/-- C(e, ..), C's own __init__ keeping sp -/
def tMkB (C : Addr) (sp : Sp) (ta : TA) : L2.St → Hp → XK → Prop := fun σ H Q => ta σ H fun vs H1 => vs.length ≤ 1000 ∧ ∀ a, H1 a = none → sp (.ref a :: vs) (upd H1 a (exo a C none))
  (fun v H2 => v = .non ∧ ∃ (d : Addr) (fs : List (Str × V)), H2 a = some (exo a C (some d)) ∧ H2 d = some (exd d fs) ∧ H1 d = none ∧ Q (.ref C) (some d) (upd (L2.del H2 a) d (.xd fs))) (fun _ _ _ => False)
theorem pmk_b {CT : CXT} {x : Str} {C fI : Addr} {k : Nat} {fd : FuncData} {ps : List Str} {sp : Sp} (T : OxT X.K C newId iniId tl) (iC : PySem.W.findIn X.K (.ref C) "__init__" = some (some (.ref fI))) (tI : PySem.W.typeIn X.K (.ref fI) = some (.type "function"))
    (F1 : FnOk X.prog X.w X.K X.mg X.base CT k fI fd ps sp) (hr : Room (k + 1) X.A) (hb : Binds X.K fd ps []) (hx : Passes CT X (fun _ _ _ => False)) (hg : Gl X x) (hm : X.mg x = some (.ref C)) (ha : PA X (e :: es) ta)
    (hdb : (x == ("__debug__" : Str)) = false := by decide) (he : starEach (e :: es) X.env = (false, eval e X.env) :: starEach es X.env := by rfl) (hpl : (backTo pos (starEach es X.env)).any (·.1) = false := by rfl) :
    PMk X (.Call (.Name x p) (e :: es) [] pos) (tMkB C sp ta) := by
  intro pins s σ H Q I h
  obtain ⟨nm, q, N, bs, bm, sn, sub, ab, col, dd, k0, k1, k2, k3, k5, hC, hbm⟩ := T.cls
  refine wpAny_Call_Name_kw (ld_glob I hg hm ?_ hdb)
  refine PySem.W.callWith_K (h₀ := X.base) I.ok.mod.kin T.kC (thn (ha.run pos pins s σ H _ I h) fun us s1 ⟨vs, H1, I1, r1, hz, q1⟩ => ⟨I1.kIn, ?_⟩) he hpl
  show wpAny _ _ (call (.ref C) us) _ _ _
  obtain ⟨hp, g, dr, tk, os⟩ := s1
  have sz1 : hp.objs.size ≤ hp.objs.size + 1 := Nat.le_succ _
  have free1 : H1 (hp.objs.size + 1) = none := I1.hok.fresh sz1
  have hq := q1 (hp.objs.size + 1) free1
  have kp : ∀ b o, hp.get? b = some o → ((hp.push (PySem.W.kdv_tup us)).push (PySem.HandSPX.excO C hp.objs.size)).get? b = some o := fun b o z => Heap.get?_push_of_some _ (Heap.get?_push_of_some _ z)
  have at1 : ((hp.push (PySem.W.kdv_tup us)).push (PySem.HandSPX.excO C hp.objs.size)).get? (hp.objs.size + 1) = some (PySem.HandSPX.excO C hp.objs.size) := by heap_get
  have I2 : Inv X pins σ (upd H1 (hp.objs.size + 1) (exo (hp.objs.size + 1) C none)) ⟨(hp.push (PySem.W.kdv_tup us)).push (PySem.HandSPX.excO C hp.objs.size), g, dr, tk, os⟩ :=
    I1.laid (t' := tk) (a := hp.objs.size + 1) (o := exo (hp.objs.size + 1) C none) (h' := (hp.push (PySem.W.kdv_tup us)).push (PySem.HandSPX.excO C hp.objs.size)) kp sz1 (exo_ok at1)
  have r2 : Vals (V.ref (hp.objs.size + 1) :: vs) (Value.ref (hp.objs.size + 1) :: us) := .cons rfl r1
  have hl : ((Value.ref (hp.objs.size + 1) :: us) ++ []).length = ps.length := by
    have z := r2.length
    rw [F1.len _ _ _ _ hq] at z
    rw [List.append_nil]
    exact z.symm
  have hb2 := hb _ (Value.ref (hp.objs.size + 1) :: us) I2.kIn hl
  rw [List.append_nil] at hb2
  have hus : us.length ≤ sizeLine := by
    rw [← Paired.length r1, sizeLine_eq]
    omega
  refine wpAny_call (PySem.Xb.call_any T.bas hbm hus (I1.kIn _ _ hC) (PySem.W.looks_findIn I1.kIn iC) (fun me => PySem.W.bind_fn I1.kIn me tI)
    (codeAny_mono (F1.run _ X.stack _ _ ⟨Value.ref (hp.objs.size + 1) :: us, []⟩ (Value.ref (hp.objs.size + 1) :: us) _ _ (fun _ _ _ => False) (hr.make C us []) (I2.env0.make C us []) hb2 r2 hq) fun r s2 hq2 => ?_))
  cases r with
  | error er => exact hx pins σ _ _ er s2 I2 hq2
  | ok fl =>
    cases fl with
    | ret u =>
      obtain ⟨v, H2, os2, bare2, un2, hok2, rv, ev, d, fs, ea, ed, hd1, q2⟩ := hq2
      subst ev
      obtain ⟨h2, g2, d2, t2, os3⟩ := s2
      exact ⟨rv, mk_end (raises_own T.exC T.tyC) I1 sz1 kp un2 hok2 os2 bare2 ea ed hd1 q2⟩
    | next => exact hq2.elim
    | brk => exact hq2.elim
    | cont => exact hq2.elim
end
end Fv
set_option maxRecDepth 100000
set_option maxHeartbeats 4000000
/-! Exceptions as values: their fields, isinstance; try with several clauses. -/
namespace PySem.W
open PySem PySem.Spec PySem.Calls PyProof.Rows
section
variable {pg : Program} {wd : World} {A : Around} {E : Value → Shared → Prop} {s : Shared} {K : Frag} {x D : Addr} {ox : Obj} {od : Option Obj}
theorem fv_found {a g : Value} {name : Str} (hc : (clsIn K D).isSome = true) (ha : findIn K (.ref D) name = some (some a)) (hg : specialIn K a "__get__" = some (some g)) (ht : takesIn K a = some true) : findObj K D od name = some (.bind g a) := by
  obtain ⟨cd, hc⟩ := Option.isSome_iff_exists.mp hc
  unfold findObj
  rw [hc, Option.bind_some, ha, Option.bind_some]
  simp [hg, ht]
theorem fv_class {Q : Option Value → Shared → Prop} (hga : findIn K (.ref D) "__getattribute__" = some (some (.builtin "BaseException.__getattribute__"))) (hgt : findIn K (.ref D) "__getattr__" = some none) (hsub : subIn K (.ref D) (.type "BaseException") = some true)
    (hdct : hasDictIn K D = true) (ha : findIn K (.ref D) "__class__" = some (some (.builtin "object.__class__")))
    (hn : specialIn K (.builtin "object.__class__") "__get__" = some (some (.builtin "getset_descriptor.__get__"))) (htk : takesIn K (.builtin "object.__class__") = some true) (hm : mroIn K D (.type "object") = some true)
    (kin : K.In s.heap) (I : InstAt s.heap x ox D od) (k : Q (some (.ref D)) { s with toks := s.toks + 1 }) : wpAny (model pg wd) A (getAttr? (.ref x) "__class__") Q E s := by
  have fnd : findObj K D od "__class__" = some (.bind (.builtin "getset_descriptor.__get__") (.builtin "object.__class__")) := fv_found (by
    obtain ⟨cd, hc, _⟩ := any_some hdct
    rw [hc]
    rfl) ha hn htk
  obtain ⟨hp, g, d, t, os⟩ := s
  have l0 := I.type (M := model pg wd)
  have l1 := looks_findIn (M := model pg wd) kin hga
  have l2 := looks_findIn (M := model pg wd) kin hgt
  have l3 := looks_find (M := model pg wd) kin I fnd
  have isE : Looks (model pg wd) hp (isInstance (.ref x) (.type "BaseException")) true := l0.andThen (looks_subIn kin hsub)
  have e0 : (false && onTheHeap (Value.builtin "BaseException.__getattribute__")) = false := rfl
  have e2 : (Value.builtin "BaseException.__getattribute__" == Value.builtin "object.__getattribute__") = false := by decide +kernel
  have e1 : (onTheHeap (Value.ref D) && Value.builtin "BaseException.__getattribute__" == Value.builtin "object.__getattribute__") = false := by
    rw [e2]
    rfl
  unfold getAttr? getAttrBy? getAttrBy
  refine wpAny_bind (wpAny_mkText (wpAny_bind (wpAny_attempt (wpAny_holding (wpAny_bind (l0.at (wpAny_bind (l1.at ?_))))))))
  show wpAny _ _ (if (onTheHeap (Value.ref D) && Value.builtin "BaseException.__getattribute__" == Value.builtin "object.__getattribute__") = true then _ else _) _ _ _
  rw [e1, if_neg Bool.false_ne_true]
  unfold getAttrByItsOwn hookBefore
  refine wpAny_bind ?_
  rw [if_pos (show onTheHeap (Value.ref D) = true from rfl)]
  refine l2.at (wpAny_bind (wpAny_attempt (wpAny_holding ?_)))
  unfold callGetattribute
  rw [e0, if_neg Bool.false_ne_true]
  unfold boundAndCalled
  rw [PySem.F.excAttr_ValueError.ga.bind (.ref x)]
  refine wpAny_bind (wpAny_pure ?_)
  show wpAny _ _ (call (.builtin "BaseException.__getattribute__") [.ref x, .str "__class__" t]) _ _ _
  refine wpAny_call (codeAny_call_builtin PySem.F.excAttr_ValueError.ga.plain PySem.F.entry_bexc_ga (@check_slot (model pg wd) _ _ ⟨hp, g, d, t + 1, os⟩ "BaseException.__getattribute__" "BaseException" "__getattribute__" (.ref x) [.str "__class__" t] [] _ (by decide +kernel) (by decide +kernel) isE (PySem.F.args_bexc_ga (.ref x) (.str "__class__" t)) ?_))
  unfold Builtin.«object.__getattribute__»
  refine wpAny_bind (wpAny_of_eq (a := ((Value.ref x : Value), [Value.str "__class__" t])) (by first | rfl | (simp only [slotArgs]; rfl)) (wpAny_bind (wpAny_pure (wpAny_bind (l0.at (wpAny_bind (l3.at ?_)))))))
  show wpAny _ _ (holding [Value.builtin "object.__class__"] (call (.builtin "getset_descriptor.__get__") [.builtin "object.__class__", .ref x, .ref D]) >>= ret) _ _ _
  refine wpAny_bind (wpAny_holding (wpAny_call (class_get (s := ⟨hp, g, d, t + 1, os⟩) (ox := ox) (od := od) kin I hm ?_)))
  refine wpAny_pure ?_
  show wpAny _ _ (handedOut (.ref D)) _ _ _
  rw [handedOut_of (v := .ref D) rfl]
  first
    | exact wpAny_pure (wpAny_pure k)
    | exact wpAny_pure k
    | exact wpAny_pure (wpAny_bind (wpAny_pure (wpAny_pure k)))
theorem fv_kitx (hga : findIn K (.ref D) "__getattribute__" = some (some (.builtin "BaseException.__getattribute__"))) (hgt : findIn K (.ref D) "__getattr__" = some none) (hsub : subIn K (.ref D) (.type "BaseException") = some true) (hdct : hasDictIn K D = true) (ha : findIn K (.ref D) "__class__" = some (some (.builtin "object.__class__")))
    (hn : specialIn K (.builtin "object.__class__") "__get__" = some (some (.builtin "getset_descriptor.__get__"))) (htk : takesIn K (.builtin "object.__class__") = some true) (hm : mroIn K D (.type "object") = some true) :
    KitX K (.ref x) (.ref D) (fun h => ∃ ox od, InstAt h x ox D od) where
  ty := fun _ _ _ ⟨_, _, J⟩ => J.type
  it := fun _ _ kin _ => by
    obtain ⟨cdD, hcD, _⟩ := any_some hdct
    unfold clsIn at hcD
    split at hcD
    · rename_i c2 d2 cd2 sl2 ho
      intro A2 Q2 E2 s2 k q
      unfold isType loadHead
      exact wpAny_bind (wpAny_loadPart (k _ _ (kin _ _ ho)) (wpAny_pure q))
    · cases hcD
  ne := fun h tp dd its n sl kin htp => by
    obtain ⟨cdD, hcD, _⟩ := any_some hdct
    refine Bool.eq_false_iff.mpr fun q => ?_
    have e : D = tp := Value.ref.inj (beq_iff_eq.mp q)
    subst e
    unfold clsIn at hcD
    split at hcD
    · rename_i c2 d2 cd2 sl2 ho
      have z := (kin _ _ ho).symm.trans htp
      cases z
    · cases hcD
  ca := fun kin ⟨_, _, J⟩ k => fv_class hga hgt hsub hdct ha hn htk hm kin J k
end
end PySem.W
namespace Fv
open PySem PySem.Spec PyProof.Rows L2
/-! ### an exception that is kept -/
theorem exK_at {P : Program} {w : World} {H : Hp} {h : Heap} {a C dd : Addr} (hok : HOk P w H h) (e : H a = some (exK a C dd)) : ∃ (vs : Array Value) (sl : Array (Option Value)), h.get? a = some ({ cls := .ref C, dict := some dd, data := .fields vs, slots := sl } : Obj) := by
  have x : ObjOk P w H h a (.ext fun h => ∃ (vs : Array Value) (sl : Array (Option Value)), h.get? a = some ({ cls := .ref C, dict := some dd, data := .fields vs, slots := sl } : Obj)) := hok a _ e
  exact x.1
theorem exK_ok {P : Program} {w : World} {H : Hp} {h : Heap} {a C dd : Addr} {vs : Array Value} {sl : Array (Option Value)} (e : h.get? a = some ({ cls := .ref C, dict := some dd, data := .fields vs, slots := sl } : Obj)) : ObjOk P w H h a (exK a C dd) :=
  ⟨⟨vs, sl, e⟩, ⟨_, e⟩, fun h1 h2 z k => by
    obtain ⟨v, s, q⟩ := z
    exact ⟨v, s, k _ q⟩⟩
theorem exK_inst {X : Cx} {pins : List (Addr × Obj)} {σ : L2.St} {H : Hp} {s : Shared} {a C dd : Addr} {gs : List (Str × V)} (I : Inv X pins σ H s) (e : H a = some (exK a C dd)) (ed : H dd = some (.xd gs)) :
    ∃ (ox od : Obj) (mA : Str → Option Value), PySem.W.InstAt s.heap a ox C (some od) ∧ (∀ name, PySem.W.lookIn name od = some (mA name)) ∧ ∀ f, RelO (gs.lookup f) (mA f) := by
  obtain ⟨vs, sl, ho⟩ := exK_at I.hok e
  have hx : ObjOk X.prog X.w H s.heap dd (.xd gs) := I.hok dd _ ed
  obtain ⟨mA, hns, hr⟩ := hx
  obtain ⟨od, hod, hl⟩ := lookIn_ns hns
  exact ⟨_, od, mA, ⟨ho, rfl, rfl, hod⟩, hl, hr⟩
/-- what a class of exceptions must say for its instances to be looked at -/
structure XlC (K : PySem.W.Frag) (C : Addr) : Prop where
  f : XfC K C
  i : ExcC K C
/-- e.f -/
def tXe (K : PySem.W.Frag) (f : Str) (te : TE) : TE := fun σ H Q => te σ H fun x H1 => ∃ (a C dd : Addr) (gs : List (Str × V)) (v : V), x = .ref a ∧ H1 a = some (exK a C dd) ∧ H1 dd = some (.xd gs) ∧ gs.lookup f = some v ∧ XlC K C ∧ PySem.W.findIn K (.ref C) f = some none ∧ Q v H1
theorem pe_xe {X : Cx} {e : Expr} {te : TE} {pos : Pos} {n : Str} (he : PE X e te) (hb : attributeBase e n X.env (eval e X.env) = eval e X.env := by rfl) : PE X (.Attribute e n pos) (tXe X.K n te) := by
  refine ⟨fun pins s σ H Q I h => ?_⟩
  refine attr_of hb (thn (he.run pins s σ H _ I h) fun u s1 ⟨x, H1, I1, rx, a, C, dd, gs, v, ex, ea, ed, l, T, hno, q⟩ => ?_)
  subst ex
  cases rx
  obtain ⟨ox, od, mA, J, hl, hr⟩ := exK_inst I1 ea ed
  obtain ⟨u, hu, ru⟩ := RelO.some_of (v := v) (o := mA n) (by rw [← l]; exact hr n)
  exact HandSPX.exc_get I1.kIn J T.f.ga T.f.gg T.f.exC (PySem.W.findObj_own T.f.hdC hno rfl (by rw [hl, hu])) (handed_of ru) ⟨v, H1, I1.tok _, ru, q⟩
/-- isinstance(e, c), isinstance(e, (c1, ..)) -/
def rXis (K : PySem.W.Frag) : List V → Hp → VK → Prop := fun xs H Q => ∃ (a C dd : Addr) (gs : List (Str × V)) (c : V) (b : Bool), xs = [.ref a, c] ∧ H a = some (exK a C dd) ∧ H dd = some (.xd gs) ∧ XlC K C ∧
  ((∃ cv : Value, (∀ u, RelV c u → u = cv) ∧ PySem.W.kitOne K (.ref C) cv = some b) ∨ ∃ (t : Addr) (cs : List V) (us : List Value), c = .ref t ∧ H t = some (.tup cs) ∧ Paired (fun c u => ∀ u', RelV c u' → u' = u) cs us ∧ PySem.W.kitAny K (.ref C) us = some b) ∧ Q (.bl b) H
theorem paired_eq {cs : List V} {us us2 : List Value} (h : Paired (fun c u => ∀ u', RelV c u' → u' = u) cs us) (r : Vals cs us2) : us2 = us := by
  induction h generalizing us2 with
  | nil =>
    cases r
    rfl
  | cons h _ ih =>
    cases r with
    | cons r rr => rw [h _ r, ih rr]
theorem call_xis {X : Cx} : CallR X (.builtin "isinstance") (rXis X.K) := by
  intro pins s σ H xs us Q I r h
  obtain ⟨a, C, dd, gs, c, b, rfl, ea, ed, T, hc, q⟩ := h
  obtain ⟨ox, od, mA, J, _, _⟩ := exK_inst I ea ed
  have Z := PySem.W.fv_kitx (x := a) T.i.hg T.i.hk T.i.hs T.i.hd T.i.ha T.i.hn T.i.ht T.i.hm
  cases r with
  | cons rx rr =>
    cases rr with
    | cons rt rr =>
      cases rr
      cases rx
      rcases hc with ⟨cv, hcv, e⟩ | ⟨t, cs, us, rfl, et, hp, e⟩
      · have ec := hcv _ rt
        subst ec
        exact PySem.W.kia_one Z I.kIn ⟨ox, _, J⟩ e (fun z => nomatch z) fun tk => ⟨.bl b, H, I.kept (t' := tk) fun _ _ z => z, rfl, q⟩
      · cases rt
        obtain ⟨its, rv, ⟨⟨cl, d0, da, sl⟩, ho, hcl, n, hdt⟩, hz⟩ := I.tuple (SqT.of et)
        have ev := paired_eq hp rv
        subst ev
        simp only at hcl hdt
        subst hcl hdt
        exact PySem.W.kia_tup Z I.kIn ⟨ox, _, J⟩ ho e (fun z => nomatch z) fun tk => ⟨.bl b, H, I.kept (t' := tk) fun _ _ z => z, rfl, q⟩
end Fv
set_option maxRecDepth 100000
set_option maxHeartbeats 4000000
/-! try with several clauses, named or not; what they catch is kept. -/
namespace Fv
open PySem PySem.Spec PyProof.Rows L2 Gb
/-- the ends behind a suite whose exception had the name at slot i -/
def endAs (oi : Option Nat) (D : Ends) : Ends := match oi with
  | none => D
  | some i => { nx := fun σ H => D.nx (σ.set i none) H, rt := D.rt, bk := fun σ H => D.bk (σ.set i none) H, ct := fun σ H => D.ct (σ.set i none) H }
def setAs (oi : Option Nat) (v : V) (σ : L2.St) : L2.St := match oi with
  | none => σ
  | some i => σ.set i (some v)
def wTry (K : PySem.W.Frag) (Wo : WX) (D : Ends) : List (Value × Option Nat × TS) → WX
  | [] => Wo
  | (c, oi, ts) :: r => fun cls d σ H => ∃ b, PySem.W.exmOne K cls c = some b ∧ (b = true → ∃ C dd, cls = .ref C ∧ d = some dd ∧ ∀ a, H a = none → ts (endAs oi D) (setAs oi (.ref a) σ) (upd H a (exK a C dd))) ∧ (b = false → wTry K Wo D r cls d σ H)
inductive HdN (X : Cx) : List ExceptHandler → List (Value × Option Nat × TS) → Prop
  | nil : HdN X [] []
  | bare {x : Str} {c : Value} {ts : TS} {b₀ : Stmt} {suite : List Stmt} {np pos' : Pos} {hds : List ExceptHandler} {l : List (Value × Option Nat × TS)} (hc : Names X x c)
      (hsu : ∀ (a : Addr) (pn : List (Addr × Obj)), PSs (X.suite a pn) (b₀ :: suite) ts) (r : HdN X hds l) : HdN X (.ExceptHandler (some (.Name x np)) none (b₀ :: suite) pos' :: hds) ((c, none, ts) :: l)
  | named {x n : Str} {c : Value} {i : Nat} {ts : TS} {b₀ : Stmt} {suite : List Stmt} {np pos' : Pos} {hds : List ExceptHandler} {l : List (Value × Option Nat × TS)} (hc : Names X x c) (hi : X.N[i]? = some n) (hln : X.env.kindOf n = some .local)
      (hsu : ∀ (a : Addr) (pn : List (Addr × Obj)), PSs (X.suite a pn) (b₀ :: suite) ts) (r : HdN X hds l) : HdN X (.ExceptHandler (some (.Name x np)) (some n) (b₀ :: suite) pos' :: hds) ((c, some i, ts) :: l)
section
variable {X : Cx} {pins : List (Addr × Obj)} {σ : L2.St} {H : Hp} {s : Shared}
/-- into a suite, without a pin -/
theorem inv_suite (I : Inv X pins σ H s) (a : Addr) : Inv (X.suite a (X.pn ++ pins)) [] σ H s :=
  ⟨I.ok.suite _ _, I.os, I.bare, I.base, I.loc, I.cell, I.free, I.freeC, fun p hp => I.pin p (by rw [List.append_nil] at hp; exact hp), I.hok, I.len⟩
theorem inv_unsuite {a : Addr} {pn' : List (Addr × Obj)} (I : Inv (X.suite a (X.pn ++ pins)) pn' σ H s) (ok : X.Ok) : Inv X pins σ H s :=
  ⟨ok, I.os, I.bare, I.base, I.loc, I.cell, I.free, I.freeC, fun p hp => I.pin p (List.mem_append_left _ hp), I.hok, I.len⟩
/-- what stands at a, untracked so far, is told from now on -/
theorem inv_track {a : Addr} {o : HO} {ob : Obj} {vs : Array Value} (I : Inv X pins σ H s) (na : H a = none) (n0 : X.s_0.heap.get? a = none) (hp : ∀ p ∈ X.pn ++ pins, p.1 ≠ a) (nL : a ≠ X.env.locals) (ha : s.heap.get? a = some ob) (hd : ob.data = .fields vs)
    (ok : ObjOk X.prog X.w (upd H a o) s.heap a o) : Inv X pins σ (upd H a o) s := by
  have ne : ∀ {b : Addr} {u : HO}, H b = some u → b ≠ a := fun {b u} h z => by
    rw [z, na] at h
    cases h
  refine ⟨I.ok, I.os, I.bare, ⟨I.base.keep, I.base.slot, fun b ob' e n hx => ?_, I.base.there, fun b xs h => ?_, fun b ob' u h => ?_, fun b ps h => ?_⟩, I.loc, I.cell, ?_, fun x c e => ?_, fun p hpm => ?_, fun b u h => ?_, I.len⟩
  · rw [upd_ne (fun z => by rw [z, n0] at e; cases e)]
    exact I.base.free b ob' e n hx
  · have := I.base.tups b xs h
    rw [upd_ne (ne this)]
    exact this
  · have := I.base.frzs b ob' u h
    rw [upd_ne (ne this)]
    exact this
  · obtain ⟨m, this⟩ := I.base.tbls b ps h
    exact ⟨m, by rw [upd_ne (ne this)]; exact this⟩
  · rw [upd_ne (Ne.symm nL)]
    exact I.free
  · rw [upd_ne (fun z => ?_)]
    · exact I.freeC x c e
    · obtain ⟨v, o2, ho2, hd2⟩ := I.cell x c e
      rw [z, ha] at ho2
      cases ho2
      rw [hd] at hd2
      cases hd2
  · obtain ⟨h1, h2, h3⟩ := I.pin p hpm
    exact ⟨h1, by rw [upd_ne (hp p hpm)]; exact h2, h3⟩
  · by_cases z : b = a
    · subst z
      rw [upd_same] at h
      cases h
      exact ok
    · rw [upd_ne z] at h
      exact (I.hok b u h).stay (fun c v _ q => q) (fun c q => by rw [upd_ne (ne q)]; exact q) fun c xs q => by rw [upd_ne (ne q)]; exact q
end
section
variable {X : Cx} {pins : List (Addr × Obj)} {D : Ends} {f : Flow} {s : Shared} {a : Addr} {pn' : List (Addr × Obj)}
/-- a suite's end, seen from around it -/
theorem sp_suite (ok : X.Ok) (h : SP (X.suite a (X.pn ++ pins)) pn' D f s) : SP X pins D f s := by
  match f, h with
  | .next, ⟨σ, H, J, q⟩ => exact ⟨σ, H, inv_unsuite J ok, q⟩
  | .brk, ⟨σ, H, J, q⟩ => exact ⟨σ, H, inv_unsuite J ok, q⟩
  | .cont, ⟨σ, H, J, q⟩ => exact ⟨σ, H, inv_unsuite J ok, q⟩
  | .ret u, ⟨v, σ, H, J, r, q⟩ => exact ⟨v, σ, H, inv_unsuite J ok, r, q⟩
/-- .. of a suite whose exception has a name: the name goes -/
theorem sp_named {i : Nat} {n : Str} {pos : Pos} (ok : X.Ok) (hN : X.N.Nodup) (hi : X.N[i]? = some n) (hl : X.env.kindOf n = some .local) (h : SP (X.suite a (X.pn ++ pins)) pn' (endAs (some i) D) f s) :
    wpAny (model X.prog X.w) X.A (do bindName X.env n .none; unbindBehindTheSuite X.env n pos) (fun _ s7 => SP X pins D f s7) X.xe s := by
  match f, h with
  | .next, ⟨σ, H, J, q⟩ => exact gone_ok (inv_unsuite J ok) hN hi hl fun s7 J7 => ⟨_, _, J7, q⟩
  | .brk, ⟨σ, H, J, q⟩ => exact gone_ok (inv_unsuite J ok) hN hi hl fun s7 J7 => ⟨_, _, J7, q⟩
  | .cont, ⟨σ, H, J, q⟩ => exact gone_ok (inv_unsuite J ok) hN hi hl fun s7 J7 => ⟨_, _, J7, q⟩
  | .ret u, ⟨v, σ, H, J, r, q⟩ => exact gone_ok (inv_unsuite J ok) hN hi hl fun s7 J7 => ⟨_, _, _, J7, r, q⟩
/-- the air around a suite: what is caught, where it stands, the state without it -/
structure Air (X : Cx) (pins : List (Addr × Obj)) (a : Addr) (cls : Value) (d : Option Addr) (σ : L2.St) (H : Hp) (s' : Shared) (h3 : Heap) where
  B : Heap
  sI : Shared
  J : Inv X pins σ H sI
  nb : ∀ b o, sI.heap.get? b = some o → b ∉ frs X.stack → B.get? b = some o
  up : sI.heap.UpToSlots h3
  os : s'.os = sI.os
  ag : AllBare s'.gens
  fl : HandSPX.FlyingZ B (X.env :: X.outer) a (Zc cls d) h3
  na : H a = none
  nL : a ≠ X.env.locals
  n0 : X.s_0.heap.get? a = none
  np : ∀ p ∈ X.pn ++ pins, p.1 ≠ a
theorem Air.on {cls : Value} {d : Option Addr} {σ : L2.St} {H : Hp} {h3 h4 : Heap} (x : Air X pins a cls d σ H s h3) (fl : HandSPX.FlyingZ x.B (X.env :: X.outer) a (Zc cls d) h4) (up : h3.UpToSlots h4) : Inv X pins σ H { s with heap := h4 } :=
  x.J.landed x.nb fl.1 (x.up.trans up) x.os x.ag
/-- the exception is told at a suite's entry -/
theorem Air.told {C dd : Addr} {σ : L2.St} {H : Hp} {h3 h4 : Heap} (x : Air X pins a (.ref C) (some dd) σ H s h3) (fl : HandSPX.FlyingZ x.B (X.env :: X.outer) a (Zc (.ref C) (some dd)) h4) (up : h3.UpToSlots h4) :
    Inv (X.suite a (X.pn ++ pins)) [] σ (upd H a (exK a C dd)) { s with heap := h4 } := by
  obtain ⟨⟨cl4, di4, da4, sl4⟩, vs4, he4, ⟨z1, z2⟩, hd4⟩ := fl.there
  simp only at z1 z2 hd4
  subst z1 z2 hd4
  exact inv_suite (inv_track (x.on fl up) x.na x.n0 x.np x.nL he4 rfl (exK_ok he4)) a
end
section
variable {X : Cx} {body : List Stmt} {h₀ : ExceptHandler} {hds : List ExceptHandler} {l : List (Value × Option Nat × TS)} {pos : Pos} {tb : WX → TS} {Wo : WX}
/-- the clauses, one after the other -/
theorem air_go (hs : X.stack = X.env :: X.outer) (hf : X.env.frame = some X.env.locals) (hN : X.N.Nodup) (ok : X.Ok) (tk : Takes X Wo) {pins : List (Addr × Obj)} {D : Ends} {s : Shared} {a : Addr} {cls : Value} {d : Option Addr} {σ : L2.St} {H : Hp} {h3 : Heap} (x : Air X pins a cls d σ H s h3) (hk : HdN X hds l) :
    wTry X.K Wo D l cls d σ H → wpAny (model X.prog X.w) X.A (handleBy (.ref a) X.env hds) (SP X pins D) X.xe { s with heap := h3 } := by
  obtain ⟨oe3, vs3, he3, hz3, hd3⟩ := x.fl.there
  have J3 : Inv X pins σ H { s with heap := h3 } := x.J.landed x.nb x.fl.1 x.up x.os x.ag
  have S3 := inv_suite J3 a
  have ty : PySem.W.Looks (model X.prog X.w) h3 (typeOf (.ref a)) cls := fun A Q E s k q => wpAny_typeOf_ref (k _ _ he3) (by rw [hz3.1]; exact q)
  have asked : ∀ {y : Str} {c : Value} {np : Pos} {Q : Value → Shared → Prop} {E : Value → Shared → Prop}, Names X y c → Q c { s with heap := h3 } → wpAny (model X.prog X.w) (X.A.mark (some (.ref a))) (eval (.Name y np) X.env) Q E { s with heap := h3 } := fun {y c np Q E} hc q => by
    obtain ⟨hg, hdbg, hm | ⟨hm, hv, hnn⟩⟩ := hc
    · exact ld_glob (X := X.suite a (X.pn ++ pins)) S3 hg hm q hdbg
    · exact ld_blt (X := X.suite a (X.pn ++ pins)) S3 hg hm hv q hnn hdbg
  induction hk with
  | nil =>
    intro w
    refine wpAny_handleBy_nil ?_
    obtain ⟨k1, k2, k3, oe, vs, T, oT, ts', he, hz, hd, h1, hr⟩ := id x.fl
    unfold PySem.passOn
    refine wpAny_bind (wpAny_field he hd h1 ?_)
    rw [if_neg (show ¬ ((Value.ref T == Value.none) = true) from by simp)]
    have out : wpAny (model X.prog X.w) X.A (setFlight (.ref a) X.env.frame) (fun _ s4 => wpAny (model X.prog X.w) X.A (throw (.ref a) : Sem Flow) (SP X pins D) X.xe s4) X.xe { s with heap := h3 } := by
      rw [hf]
      exact HandSPX.setFlight_upZ x.fl fun h4 hh4 up4 => wpAny_throw (tk _ _ ⟨a, x.B, x.sI, pins, σ, H, cls, d, rfl, x.J, x.nb, x.up.trans up4, .inr (.inr (by rw [hs]; exact hh4)), x.na, x.os, x.ag, w⟩)
    first
      | exact wpAny_bind (wpAny_pure (wpAny_bind out))
      | exact wpAny_bind out
  | @bare y c ts b₀ suite np pos' hds2 l2 hc hsu r ih =>
    rintro ⟨b, hb1, hyes, hno⟩
    refine wpAny_handleBy_cons (codeAny_handlers_test (asked hc ((PySem.W.exm_one (M := model X.prog X.w) J3.kIn ty hb1).here ?_))) (by intro q; cases q)
    cases b with
    | true =>
      obtain ⟨C, dd, rfl, rfl, hy⟩ := hyes rfl
      refine codeAny_handlers_suite (HandSPX.lands_againZ x.fl fun h4 fl4 up4 => ?_)
      exact wpAny_mono ((hsu a (X.pn ++ pins)).run [] _ _ _ _ (x.told fl4 up4) (hy a x.na)) (fun f s6 hsp => sp_suite ok hsp) (fun _ _ z => z.elim)
    | false => exact ih (hno rfl)
  | @named y n c i ts b₀ suite np pos' hds2 l2 hc hi hln hsu r ih =>
    rintro ⟨b, hb1, hyes, hno⟩
    refine wpAny_handleBy_cons (codeAny_handlers_test (asked hc ((PySem.W.exm_one (M := model X.prog X.w) J3.kIn ty hb1).here ?_))) (by intro q; cases q)
    cases b with
    | true =>
      obtain ⟨C, dd, rfl, rfl, hy⟩ := hyes rfl
      refine codeAny_handlers_suite_as (HandSPX.lands_againZ x.fl fun h4 fl4 up4 => ?_)
      refine store_ok (X := X.suite a (X.pn ++ pins)) (v := .ref a) (x.told fl4 up4) hN hi (.inl hln) rfl (fun s5 S5 => ?_) (.inr hln)
      exact wpAny_mono ((hsu a (X.pn ++ pins)).run [] s5 _ _ _ S5 (hy a x.na)) (fun f s6 hsp => sp_named ok hN hi hln hsp) (fun _ _ z => z.elim)
    | false => exact ih (hno rfl)
theorem ps_tryN (hs : X.stack = X.env :: X.outer) (hf : X.env.frame = some X.env.locals) (hex : X.ex = []) (hN : X.N.Nodup) (tk : Takes X Wo)
    (hb : ∀ (W : WX) (pn : List (Addr × Obj)) (xe : Value → Shared → Prop), Takes (X.tr pn xe) W → PassesOwn (model X.prog X.w) X.A X.env xe → PSs (X.tr pn xe) body (tb W))
    (hh : HdN X (h₀ :: hds) l) : PS X (.Try body (h₀ :: hds) [] [] pos) (fun D σ H => tb (wTry X.K Wo D l) D σ H) := by
  refine ⟨fun pins s σ H D I h => ?_⟩
  have ok := I.ok
  have hfr : X.A.frames = some (X.env :: X.outer) := by rw [ok.frames, hs]
  refine wpAny_Try_except (wpAny_mono ((hb (wTry X.K Wo D l) (X.pn ++ pins) _ (fun u s' xx => ?_) PassesOwn.looking).run [] s σ H D (I.toTry _) h) (fun f s1 hsp => ?_) (fun e s1 he => he))
  · obtain ⟨a, B, sI, pins', σ', H', cls, d, rfl, J', nb, up, sky, na, os, ag, w⟩ := xx
    have J : Inv X pins σ' H' sI := J'.ofTry ok
    have sky2 : Sky B (X.env :: X.outer) a (Zc cls d) X.env.locals s'.heap := by
      rw [← hs]
      exact sky
    have hBa : B.get? a = none := by
      rcases sky2 with ⟨_, z, _⟩ | z | z
      · exact z
      · exact z.2.1
      · exact z.2.1
    refine Sky.land Zc.steady hfr hf sky2 fun h3 fl3 up3 => ?_
    obtain ⟨oe3, vs3, he3, hz3, hd3⟩ := fl3.there
    have far : a ∉ frs (X.env :: X.outer) := fun hm => by
      obtain ⟨_, o1, e1, hnf⟩ := fl3.2.2.1.mem hm
      rw [he3] at e1
      cases e1
      exact hnf _ hd3
    have nsI : sI.heap.get? a = none := by
      cases q : sI.heap.get? a with
      | none => rfl
      | some o1 =>
        have := nb a o1 q (by rw [hs]; exact far)
        rw [hBa] at this
        cases this
    refine air_go hs hf hN ok tk ⟨B, sI, J, nb, up.trans up3, os, ag, fl3, na, fun z => far (List.mem_filterMap.mpr ⟨X.env, List.mem_cons_self, by rw [hf, z]⟩), ?_, fun p hp z => ?_⟩ hh w
    · cases q : X.s_0.heap.get? a with
      | none => rfl
      | some o1 =>
        obtain ⟨o2, q2⟩ := J.base.there a o1 q (by rw [hex]; exact List.not_mem_nil)
        rw [nsI] at q2
        cases q2
    · have := (J.pin p hp).1
      rw [z, nsI] at this
      cases this
  · match f, hsp with
    | .next, ⟨σ', H', J', q⟩ => exact wpAny_execs_nil ⟨σ', H', J'.ofTry ok, q⟩
    | .brk, ⟨σ', H', J', q⟩ => exact ⟨σ', H', J'.ofTry ok, q⟩
    | .cont, ⟨σ', H', J', q⟩ => exact ⟨σ', H', J'.ofTry ok, q⟩
    | .ret u, ⟨v, σ', H', J', r, q⟩ => exact ⟨v, σ', H', J'.ofTry ok, r, q⟩
end
end Fv
set_option maxRecDepth 100000
set_option maxHeartbeats 4000000
/-! Exceptions by value: raise, try, fields, isinstance. -/
namespace Fv
open PySem PySem.Spec PyProof.Rows L2 Gb
def Cg.wx (G : Cg) (W : WX) : Cg := ⟨G.K, G.C, G.pn, W, G.ex, G.B0, G.H0⟩
theorem R.wx {G : Cg} {W : WX} {B : Hp} {v : V} {d : D} (h : R G B v d) : R (G.wx W) B v d := by
  cases d <;> exact h
theorem R.unwx {G : Cg} {W : WX} {B : Hp} {v : V} {d : D} (h : R (G.wx W) B v d) : R G B v d := by
  cases d <;> exact h
theorem St.wx {G : Cg} {W : WX} {n : Nat} {B H : Hp} {ρ : List Sl} {σ : L2.St} (S : St G n B H ρ σ) : St (G.wx W) n B H ρ σ :=
  ⟨S.mv, S.pk, S.len, fun i d h => let ⟨v, h1, h2⟩ := S.val i d h; ⟨v, h1, h2.wx⟩, S.own, S.dow, S.dis, ⟨fun i t l rows h => ⟨(S.mat.at_ i t l rows h).1, let A := (S.mat.at_ i t l rows h).2; ⟨A.at_, A.fr, A.nd, A.len, A.row⟩⟩, S.mat.sep, S.mat.own⟩⟩
theorem St.unwx {G : Cg} {W : WX} {n : Nat} {B H : Hp} {ρ : List Sl} {σ : L2.St} (S : St (G.wx W) n B H ρ σ) : St G n B H ρ σ :=
  ⟨S.mv, S.pk, S.len, fun i d h => let ⟨v, h1, h2⟩ := S.val i d h; ⟨v, h1, h2.unwx⟩, S.own, S.dow, S.dis, ⟨fun i t l rows h => ⟨(S.mat.at_ i t l rows h).1, let A := (S.mat.at_ i t l rows h).2; ⟨A.at_, A.fr, A.nd, A.len, A.row⟩⟩, S.mat.sep, S.mat.own⟩⟩
section
variable {m : Bool} {X : Cx} {G : Cg} {a b c d e f o : Expr} {es rest : List Expr} {ta tb tc td te tk : TE} {wa wb wc wd we wy : WE} {pos p p2 p3 apos cpos : Pos} {x : Str} {n : Nat} {t u tt tt1 : TT} {w v wt wt1 : WT} {st : Stmt} {sts : List Stmt} {ts : TS} {ws : WS}
/-- every class that G knows -/
def XlAll (G : Cg) (K : PySem.W.Frag) : Prop := ∀ nm cv, G.ex nm = some cv → ∃ C, cv = .ref C ∧ XlC K C
/-- e.f of an exception -/
def wXe (f : Str) (wa : WE) : WE := fun ρ n E Q => wa ρ n E fun d n' => match d with
  | .exc x => (match x.fs.lookup f with
    | some z => Q (.py z) n'
    | none => False)
  | _ => False
theorem be_xe (hall : XlAll G X.K) (hno : ∀ nm C, G.ex nm = some (.ref C) → PySem.W.findIn X.K (.ref C) x = some none) (ha : BE X G a ta wa) (hb : attributeBase a x X.env (eval a X.env) = eval a X.env := by rfl) (hK : X.K = G.K := by rfl) :
    BE X G (.Attribute a x pos) (tXe X.K x ta) (wXe x wa) :=
  ⟨pe_xe ha.pe hb, fun ρ σ n B H E Qd Q S hw xw k => ha.snd ρ σ n B H E _ _ S hw xw fun v d n' B' H' m pk r q => by
    match d, r, q with
    | .exc y, ⟨a', C, dd, ev, ec, ea, gs, ed, hf⟩, q =>
      simp only at q
      obtain ⟨_, hC, hX⟩ := hall _ _ ec
      cases hC
      have hx := hf x
      match hz : y.fs.lookup x, q with
      | some z, q =>
        rw [hz] at hx
        match hg : gs.lookup x, hx with
        | some vz, hx => exact ⟨a', C, dd, gs, vz, ev, m.s _ _ ea, m.s _ _ ed, hg, hX, hno _ _ ec, k vz (.py z) n' B' H' m pk hx q⟩⟩
/-- isinstance(e, c), isinstance(e, (c1, ..)) of an exception; is: the answer, by its class -/
def wXi (is : Str → Bool) (wa : WE) : WE := fun ρ n E Q => wa ρ n E fun d n' => match d with
  | .exc x => Q (.py (.bool (is x.cls))) n'
  | _ => False
theorem be_xi1 {is : Str → Bool} {v : V} {cv : Value} (hall : XlAll G X.K) (hv : ∀ u, RelV v u → u = cv) (his : ∀ nm C, G.ex nm = some (.ref C) → PySem.W.kitOne X.K (.ref C) cv = some (is nm)) (hg : Gl X "isinstance") (hm : X.mg "isinstance" = none) (ha : BE X G a ta wa) (hb : PE X b (tC v))
    (hs : starEach [b] X.env = (false, eval b X.env) :: starEach [] X.env := by rfl) (he : starEach (a :: [b]) X.env = (false, eval a X.env) :: starEach [b] X.env := by rfl) (hpl : (backTo pos (starEach [b] X.env)).any (·.1) = false := by rfl) :
    BE X G (.Call (.Name "isinstance" p) [a, b] [] pos) (tCB (rXis X.K) (tCons ta (tCons (tC v) tNil))) (wXi is wa) :=
  ⟨pe_callB call_xis hg hm (by decide +kernel) (pa_cons ha.pe (pa_cons hb pa_nil hs) he) (by decide) (by decide) he hpl, fun ρ σ n B H E Qd Q S hw xw k => ha.snd ρ σ n B H E _ _ S hw xw fun v1 d1 n1 B1 H1 m1 pk1 r1 q1 => by
    match d1, r1, q1 with
    | .exc y, ⟨a', C, dd, ev, ec, ea, gs, ed, hf⟩, q1 =>
      subst ev
      obtain ⟨_, hC, hX⟩ := hall _ _ ec
      cases hC
      exact ⟨a', C, dd, gs, v, is y.cls, rfl, m1.s _ _ ea, m1.s _ _ ed, hX, .inl ⟨cv, hv, his _ _ ec⟩, k _ _ n1 B1 H1 m1 pk1 r_bl q1⟩⟩
/-- the classes of a written tuple -/
structure PCs (X : Cx) (cs : List Expr) (t : TA) (vs : List V) (us : List Value) : Prop where
  pe : PA X cs t
  t : ∀ σ H Q, Q vs H → t σ H Q
  r : Paired (fun c u => ∀ u', RelV c u' → u' = u) vs us
theorem pcs_nil : PCs X [] tNil [] [] := ⟨pa_nil, fun _ _ _ q => q, .nil⟩
theorem pcs_cons {v : V} {cv : Value} {cs : List Expr} {t : TA} {vs : List V} {us : List Value} (h : PE X a (tC v)) (hv : ∀ u, RelV v u → u = cv) (r : PCs X cs t vs us) (hs : starEach (a :: cs) X.env = (false, eval a X.env) :: starEach cs X.env := by rfl) : PCs X (a :: cs) (tCons (tC v) t) (v :: vs) (cv :: us) :=
  ⟨pa_cons h r.pe hs, fun σ H Q q => r.t σ H _ q, .cons hv r.r⟩
theorem be_xiN {is : Str → Bool} {cs : List Expr} {t : TA} {vs : List V} {us : List Value} {kt : Nat} (hall : XlAll G X.K) (hc : PCs X cs t vs us) (hlen : vs.length ≤ 1000) (his : ∀ nm C, G.ex nm = some (.ref C) → PySem.W.kitAny X.K (.ref C) us = some (is nm)) (hg : Gl X "isinstance") (hm : X.mg "isinstance" = none) (ha : BE X G a ta wa)
    (hs : starEach [.Tuple cs kt p2] X.env = (false, eval (.Tuple cs kt p2) X.env) :: starEach [] X.env := by rfl) (he : starEach (a :: [.Tuple cs kt p2]) X.env = (false, eval a X.env) :: starEach [.Tuple cs kt p2] X.env := by rfl) (hpl : (backTo pos (starEach [.Tuple cs kt p2] X.env)).any (·.1) = false := by rfl) :
    BE X G (.Call (.Name "isinstance" p) [a, .Tuple cs kt p2] [] pos) (tCB (rXis X.K) (tCons ta (tCons (tTup t) tNil))) (wXi is wa) :=
  ⟨pe_callB call_xis hg hm (by decide +kernel) (pa_cons ha.pe (pa_cons (pe_tup hc.pe) pa_nil hs) he) (by decide) (by decide) he hpl, fun ρ σ n B H E Qd Q S hw xw k => ha.snd ρ σ n B H E _ _ S hw xw fun v1 d1 n1 B1 H1 m1 pk1 r1 q1 => by
    match d1, r1, q1 with
    | .exc y, ⟨a', C, dd, ev, ec, ea, gs, ed, hf⟩, q1 =>
      subst ev
      obtain ⟨_, hC, hX⟩ := hall _ _ ec
      cases hC
      refine hc.t σ H1 _ ⟨Nat.le_trans hlen (by decide), fun q hq => ?_⟩
      have m := Mv.newOwn (pn := none) (o := .tup vs) m1.s hq
      have ne : ∀ {b : Addr} {u : HO}, B1 b = some u → upd H1 q (.tup vs) b = some u := fun {b u} h => m.kp _ _ (m1.s _ _ h)
      exact ⟨a', C, dd, gs, .ref q, is y.cls, rfl, ne ea, ne ed, hX, .inr ⟨q, vs, us, rfl, upd_same, hc.r, his _ _ ec⟩, k _ _ n1 B1 _ (m1.trans m.of) (pk1.mv m) r_bl q1⟩⟩
/-! ### raise -/
abbrev FsRel (K : PySem.W.Frag) (B : Hp) (gs : List (Str × V)) (fs : List (Str × PyData)) : Prop := ∀ f, match gs.lookup f, fs.lookup f with
  | some v, some d => Dd K B v d
  | none, none => True
  | _, _ => False
abbrev FI := List PyData → (List (Str × PyData) → Prop) → Prop
/-- what an exception class's __init__ keeps; no pen is used -/
def SpI (F : Fx) (C : Addr) (fi : FI) : Sp := fun vs H Q _ => ∃ (a : Addr) (us : List V) (B : Hp) (ds : List PyData) (QD : List (Str × PyData) → Prop), vs = .ref a :: us ∧ H a = some (exo a C none) ∧ Same B (Gb.del H a) ∧ DdA F.K B us ds ∧ fi ds QD ∧
  ∀ B' H' d gs fs, Mv none B (Gb.del H a) B' (Gb.del (Gb.del H' a) d) → H' a = some (exo a C (some d)) → H' d = some (exd d gs) → H d = none → d ≠ a → FsRel F.K B' gs fs → QD fs → Q .non H'
/-- an exception class that may be called by its name -/
structure ClE (F : Fx) (k : Nat) (x : Str) (C : Addr) (fi : FI) : Prop where
  ex : ∃ (fI : Addr) (fd : FuncData) (ps : List Str) (newId iniId : String) (tl : List Value), OxT F.K C newId iniId tl ∧ F.mg x = some (.ref C) ∧ F.ex x = some (.ref C) ∧ PySem.W.findIn F.K (.ref C) "__init__" = some (some (.ref fI)) ∧ PySem.W.typeIn F.K (.ref fI) = some (.type "function") ∧
    FnOk F.P F.w F.K F.mg F.base (L2.CX F.P F.w) k fI fd ps (SpI F C fi) ∧ Binds F.K fd ps []
def sRaise (nm : Str) (fi : FI) (wa : WA) : WS := fun ρ n E _ => wa ρ n (E ρ) fun ds n1 => match pyAll ds with
  | some ps => ps.length ≤ 1000 ∧ fi ps fun fs => E ρ ⟨nm, fs⟩ n1
  | none => False
theorem gdel_upd {H : Hp} {a : Addr} {o : HO} (h : H a = none) : Gb.del (upd H a o) a = H := by
  rw [Gb.del_upd, Gb.del_none h]
def tRz (F : Fx) (W : WX) (C : Addr) (fi : FI) (t : TA) : TS := fun _ σ H => tMkB C (SpI F C fi) t σ H fun cls d H' => W cls d σ H'
theorem bs_raise {F : Fx} {k j : Nat} {C : Addr} {fi : FI} {t : TA} {wa : WA} (c : ClE F k x C fi) (hr : Room j X.A) (hk : k + 1 ≤ j) (hcalm : X.calm = true) (hg : Gl X x) (tk : Takes X G.xe) (ha : BA X G (e :: es) t wa) (hF : Fof X G = F := by rfl)
    (hdb : (x == ("__debug__" : Str)) = false := by decide) (he : starEach (e :: es) X.env = (false, eval e X.env) :: starEach es X.env := by rfl) (hpl : (backTo p2 (starEach es X.env)).any (·.1) = false := by rfl) (hK : X.K = G.K := by rfl) :
    BS m X G (.Raise (some (.Call (.Name x p) (e :: es) [] p2)) none pos) (tRz F G.xe C fi t) (sRaise x fi wa) := by
  subst hF
  obtain ⟨fI, fd, ps, newId, iniId, tl, T, hm, hx, iC, tI, Fn, b⟩ := c.ex
  refine ⟨ps_raise hcalm tk (pmk_b T iC tI Fn (hr.mono hk) b passL hg hm ha.pe hdb he hpl), fun ρ σ n B H E D DB S hw xs eo => ?_⟩
  refine ha.snd ρ σ n B H _ _ _ S hw (xs.at S) fun vs ds n1 B1 H1 m1 pk1 r1 q1 => ?_
  match hp : pyAll ds, q1 with
  | some ys, q1 =>
    simp only at q1
    have hA := ra_py r1 hp
    refine ⟨by rw [hA.len]; exact q1.1, fun a' hna => ?_⟩
    have hA' : DdA (Fof X G).K B1 vs ys := by
      show DdA X.K B1 vs ys
      rw [hK]
      exact hA
    refine ⟨a', vs, B1, ys, _, rfl, upd_same, by rw [gdel_upd hna]; exact m1.s, hA', q1.2, fun B' H' d gs fs mv ea ed hd ne hf q => ⟨rfl, d, gs, ea, ed, ?_, ?_⟩⟩
    · rw [upd_ne ne] at hd
      exact hd
    · rw [gdel_upd hna] at mv
      rw [upd_ne ne] at hd
      have hdn : Gb.del (Gb.del H' a') d d = none := Gb.del_same
      have mn : Mv none B' (Gb.del (Gb.del H' a') d) (upd B' d (.xd gs)) (upd (Gb.del (Gb.del H' a') d) d (.xd gs)) := Mv.new mv.s hdn
      have eH : upd (Gb.del (Gb.del H' a') d) d (.xd gs) = upd (L2.del H' a') d (.xd gs) := by
        funext y
        by_cases hy : y = d
        · rw [hy, upd_same, upd_same]
        · rw [upd_ne hy, upd_ne hy, Gb.del_ne hy]
          rfl
      rw [eH] at mn
      have mall := mv.trans mn
      refine (xs.at S).step m1 ⟨x, fs⟩ n1 (.ref C) (some d) _ _ (mall.of) (pk1.mv mall) ⟨hx, gs, upd_same, fun f => ?_⟩ q
      have hff := hf f
      split at hff
      · rename_i e1 e2
        rw [e1, e2]
        rw [← hK]
        exact Dd.mono mn.b hff
      · rename_i e1 e2
        rw [e1, e2]
        trivial
      · exact hff.elim
end
end Fv
set_option maxRecDepth 100000
set_option maxHeartbeats 4000000
/-! An exception's __init__; try by value. -/
namespace Fv
open PySem PySem.Spec PyProof.Rows L2 Gb
section
variable {m : Bool} {X : Cx} {G : Cg} {a b c d e f o : Expr} {es rest : List Expr} {ta tb tc td te tk : TE} {wa wb wc wd we wy : WE} {pos p p2 p3 apos cpos : Pos} {x : Str} {n : Nat} {t u tt tt1 : TT} {w v wt wt1 : WT} {st : Stmt} {sts : List Stmt}
/-! ### __init__ -/
/-- where the exception that is being made stands: no field as yet, or these -/
def Stage (G : Cg) (B H : Hp) (a C : Addr) : Option (List (Str × PyData)) → Prop
  | none => H a = some (exo a C none)
  | some fs => ∃ d gs, H a = some (exo a C (some d)) ∧ H d = some (exd d gs) ∧ d ≠ a ∧ Free G B d ∧ gs.length = fs.length ∧ FsRel G.K B gs fs
theorem FsRel.mono {K : PySem.W.Frag} {B B' : Hp} {gs : List (Str × V)} {fs : List (Str × PyData)} (h : FsRel K B gs fs) (s : Same B B') : FsRel K B' gs fs := fun f => by
  have q := h f
  split at q
  · exact Dd.mono s q
  · trivial
  · exact q.elim
theorem FsRel.put {K : PySem.W.Frag} {B : Hp} {gs : List (Str × V)} {fs : List (Str × PyData)} {f : Str} {v : V} {d : PyData} (h : FsRel K B gs fs) (r : Dd K B v d) : FsRel K B ((f, v) :: gs) ((f, d) :: fs) := fun g => by
  have e1 : ((f, v) :: gs).lookup g = if g = f then some v else gs.lookup g := lookup_put f g v gs
  have e2 : ((f, d) :: fs).lookup g = if g = f then some d else fs.lookup g := by
    by_cases z : g = f
    · subst z
      simp [List.lookup]
    · have zb : (g == f) = false := beq_eq_false_iff_ne.mpr z
      rw [if_neg z]
      simp [List.lookup, zb]
  rw [e1, e2]
  by_cases z : g = f
  · rw [if_pos z, if_pos z]
    exact r
  · rw [if_neg z, if_neg z]
    exact h g
def wIni : List (Str × WE) → List Sl → Option (List (Str × PyData)) → (List (Str × PyData) → Prop) → Prop
  | [], _, fs, Q => (match fs with
    | some fs => Q fs
    | none => False)
  | (f, w) :: r, ρ, fs, Q => w ρ 0 (fun _ _ => False) fun d n' => n' = 0 ∧ (match d with
    | .py d => (fs.getD []).length ≤ 900 ∧ wIni r ρ (some ((f, d) :: fs.getD [])) Q
    | _ => False)
inductive BIni (X : Cx) (G : Cg) (newId iniId : String) (tl : List Value) : List Stmt → TS → List (Str × WE) → Prop
  | nil : BIni X G newId iniId tl [] tNext []
  | cons {f : Str} {e : Expr} {te : TE} {we : WE} {st : Stmt} {sts : List Stmt} {ts : TS} {ws : List (Str × WE)} : BE X G e te we → PS X st (tFs X.K newId iniId tl f (tVar 0) te) → BIni X G newId iniId tl sts ts ws → BIni X G newId iniId tl (st :: sts) (tSeq (tFs X.K newId iniId tl f (tVar 0) te) ts) ((f, we) :: ws)
theorem BIni.pss {newId iniId : String} {tl : List Value} {sts : List Stmt} {ts : TS} {ws : List (Str × WE)} (h : BIni X G newId iniId tl sts ts ws) : PSs X sts ts := by
  induction h with
  | nil => exact pss_nil
  | cons _ hp _ ih => exact pss_cons hp ih
theorem St.hide0 {n : Nat} {B H : Hp} {ρ : List Sl} {σ : L2.St} {D : Addr} {o : HO} (S : St G n B H ρ σ) (hpn : G.pn = none) (F : Free G B D) (hn : NoD ρ σ D) (nt : notTb o := by trivial) : St G n B (upd H D o) ρ σ := by
  refine ⟨S.mv.own F.2.1 F.1 (fun p c T e => (F.2.2 p c T e).1) nt, by rw [hpn]; trivial, S.len, S.val, fun j ds h => ?_, fun j ks h => ?_, S.dis, S.mat.other hn.2⟩
  · obtain ⟨l', vs, a1, a2, a3, a4, a5⟩ := S.own j ds h
    exact ⟨l', vs, a1, by rw [upd_ne (fun z => hn.1 j ⟨_, h, rfl⟩ (by rw [a1, z]))]; exact a2, a3, a4, a5⟩
  · obtain ⟨l', vs, a1, a2, a4, a5⟩ := S.dow j ks h
    exact ⟨l', vs, a1, by rw [upd_ne (fun z => hn.1 j ⟨_, h, rfl⟩ (by rw [a1, z]))]; exact a2, a4, a5⟩
theorem exo_nt {a C : Addr} {d : Option Addr} : notTb (exo a C d) := True.intro
theorem exd_nt {d : Addr} {fs : List (Str × V)} : notTb (exd d fs) := True.intro
theorem Stage.step {B H B' H' : Hp} {a' C : Addr} {fs : Option (List (Str × PyData))} (hpn : G.pn = none) (h : Stage G B H a' C fs) (m : Mv G.pn B H B' H') : Stage G B' H' a' C fs := by
  rw [hpn] at m
  cases fs with
  | none => exact m.kp _ _ h
  | some fs =>
    obtain ⟨d, gs, h1, h2, h3, h4, h5, h6⟩ := h
    exact ⟨d, gs, m.kp _ _ h1, m.kp _ _ h2, h3, h4.mv (m.of) h2 exd_nt, h5, h6.mono m.b⟩
theorem BIni.snd {newId iniId : String} {tl : List Value} {sts : List Stmt} {ts : TS} {ws : List (Str × WE)} (h : BIni X G newId iniId tl sts ts ws) (hK : X.K = G.K) (hpn : G.pn = none) {C : Addr} (T : OxT X.K C newId iniId tl) (hno : ∀ p ∈ ws, PySem.W.findIn X.K (.ref C) p.1 = some none) :
    ∀ ρ σ B H a' fs (QD : List (Str × PyData) → Prop) (D : Ends), St G 0 B H ρ σ → ρ[0]? = some (.val (.raw (.ref a'))) → ((∀ j, ¬ ownAt ρ j) ∧ ∀ a, ¬ ghost ρ a) → Free G B a' → Stage G B H a' C fs → wIni ws ρ fs QD →
      (∀ B' H' fs', St G 0 B' H' ρ σ → Stage G B' H' a' C (some fs') → Free G B' a' → QD fs' → D.nx σ H') → ts D σ H := by
  induction h with
  | nil =>
    intro ρ σ B H a' fs QD D S h0 hnn F hs hw k
    cases fs with
    | none => exact hw.elim
    | some fs => exact k B H fs S hs F hw
  | @cons f e te we st sts ts ws he hp _ ih =>
    intro ρ σ B H a' fs QD D S h0 hnn F hs hw k
    refine he.snd ρ σ 0 B H _ _ _ S hw XW.none fun v d n1 B1 H1 m1 pk1 r1 q1 => ?_
    obtain ⟨rfl, q1⟩ := q1
    match d, r1, q1 with
    | .py d, r1, q1 =>
      obtain ⟨hlen, q1⟩ := q1
      have S1 := S.step m1 pk1
      have hs1 := hs.step hpn m1
      obtain ⟨v0, e1, e2⟩ := S1.val 0 _ h0
      have e2' : v0 = V.ref a' := e2
      subst e2'
      have m1' : Mv none B H B1 H1 := by
        rw [hpn] at m1
        exact m1
      have noD : ∀ D', NoD ρ σ D' := fun D' => ⟨fun j hj => absurd hj (hnn.1 j), hnn.2 D'⟩
      have ih2 := ih (fun p hp => hno p (List.mem_cons_of_mem _ hp))
      refine ⟨_, e1, a', C, rfl, T, hno (f, we) List.mem_cons_self, ?_⟩
      cases fs with
      | none =>
        have ha1 : H1 a' = some (exo a' C none) := hs1
        have F1 : Free G B1 a' := F.mv m1 (show H a' = some (exo a' C none) from hs) exo_nt
        refine .inl ⟨ha1, fun dx hdx ne => ?_⟩
        have Fd := free_new S1 hdx
        have Sa := S1.hide0 hpn Fd (noD dx) (o := exd dx [(f, v)]) exd_nt
        have Fa2 := F1
        have Sb := Sa.hide0 hpn Fa2 (noD a') (o := exo a' C (some dx)) exo_nt
        refine ih2 ρ σ B1 _ a' (some ((f, d) :: [])) QD D Sb h0 hnn F1 ⟨dx, [(f, v)], upd_same, by rw [upd_ne ne, upd_same], ne, Fd, rfl, ?_⟩ q1 k
        exact FsRel.put (gs := []) (fs := []) (fun g => trivial) r1
      | some fs =>
        obtain ⟨dx, gs, g1, g2, g3, g4, g5, g6⟩ := hs1
        obtain ⟨_, _, hsa, _⟩ := hs
        have F1 : Free G B1 a' := F.mv m1 hsa exo_nt
        refine .inr ⟨dx, gs, g1, g2, by rw [g5]; exact hlen, ?_⟩
        have Sb := S1.hide0 hpn g4 (noD dx) (o := exd dx ((f, v) :: gs)) exd_nt
        exact ih2 ρ σ B1 _ a' (some ((f, d) :: fs)) QD D Sb h0 hnn F1 ⟨dx, (f, v) :: gs, by rw [upd_ne (Ne.symm g3)]; exact g1, upd_same, g3, g4, by rw [List.length_cons, List.length_cons, g5], g6.put r1⟩ q1 k
end
theorem ra_pys {G : Cg} {B : Hp} : ∀ {vs : List V} {ds : List PyData}, DdA G.K B vs ds → RA G B vs (ds.map D.py)
  | _, _, .nil => trivial
  | _, _, .cons a b => ⟨a, ra_pys b⟩
theorem noOwn_start {N : List Str} {ds : List D} (j : Nat) : ¬ ownAt (startB N ds) j := fun ⟨x, hx, ox⟩ => by
  unfold startB at hx
  by_cases hi : j < ds.length
  · rw [List.getElem?_append_left (by simpa using hi), List.getElem?_map] at hx
    cases e : ds[j]? with
    | none =>
      rw [e] at hx
      cases hx
    | some d =>
      rw [e] at hx
      have z : Sl.val d = x := Option.some.inj hx
      rw [← z] at ox
      cases ox
  · rw [List.getElem?_append_right (by simpa using hi), List.getElem?_replicate] at hx
    split at hx
    · have z : Sl.no = x := Option.some.inj hx
      rw [← z] at ox
      cases ox
    · cases hx
theorem noGhost_start {N : List Str} {ds : List D} {a : Addr} : ¬ ghost (startB N ds) a := fun ⟨i, t, l, rows, hx, _⟩ => by
  unfold startB at hx
  by_cases hi : i < ds.length
  · rw [List.getElem?_append_left (by simpa using hi), List.getElem?_map] at hx
    cases e : ds[i]? with
    | none =>
      rw [e] at hx
      cases hx
    | some d =>
      rw [e] at hx
      cases hx
  · rw [List.getElem?_append_right (by simpa using hi), List.getElem?_replicate] at hx
    split at hx <;> cases hx
/-- B.__init__(self, ..) as a statement -/
def tIniS (K : PySem.W.Frag) (newId iniId : String) (tl : List Value) (c : V) : TS := tDrop (tIni K newId iniId tl (tCons (tVar 0) (tCons (tC c) tNil)))
/-- an exception class by its __init__ -/
theorem cl_e {F : Fx} {x qual : Str} {st : Stmt} {C fI : Addr} {fd : FuncData} {N ps : List Str} {k : Nat} {fi : FI} {newId iniId : String} {tl : List Value} (T : OxT F.K C newId iniId tl) (hm : F.mg x = some (.ref C)) (hx : F.ex x = some (.ref C)) (iC : PySem.W.findIn F.K (.ref C) "__init__" = some (some (.ref fI))) (tI : PySem.W.typeIn F.K (.ref fI) = some (.type "function"))
    (Fn : Fun F.K "__init__" qual st fI fd) (b : Binds F.K fd ps []) (S : FnScope N ps (defScope st)) (len : ∀ ds QD, fi ds QD → ds.length + 1 = ps.length) (hN : 0 < N.length) (fns : List Str) (hno : ∀ f ∈ fns, PySem.W.findIn F.K (.ref C) f = some none)
    (hbody : ∀ (cdv : Value) (A : Around) (outer : List Env) (s : Shared) (H : Hp) (E : XK) (B : Hp) (H0 : Hp), Room k (cxB F N qual (defScope st) fI cdv A outer s H E).A →
      ∃ st1 sts c ts ws, defBody st = st1 :: sts ∧ PS (cxB F N qual (defScope st) fI cdv A outer s H E) st1 (tIniS F.K newId iniId tl c) ∧ BIni (cxB F N qual (defScope st) fI cdv A outer s H E) (F.g none (fun _ _ _ _ => False) B H0) newId iniId tl sts ts ws ∧ ws.map (·.1) = fns ∧
        ∀ a ds QD, fi ds QD → wIni ws (startB N (.raw (.ref a) :: ds.map D.py)) none QD) : ClE F (k + 1) x C fi := by
  refine ⟨fI, fd, ps, newId, iniId, tl, T, hm, hx, iC, tI, Fn.okX S (fun vs H Q E h => ?_) (fun cdv A outer s H vs Q E hr h => ?_), b⟩
  · obtain ⟨a, us, B, ds, QD, rfl, _, _, hA, hf, _⟩ := h
    rw [List.length_cons, hA.len]
    exact len _ _ hf
  · obtain ⟨a, us, B, ds, QD, rfl, ha, sb, hA, hf, hq⟩ := h
    obtain ⟨st1, sts, c, ts, ws, hb, hp1, hbi, hfn, hw⟩ := hbody cdv A outer s H E B (Gb.del H a) hr
    rw [hb]
    refine ⟨_, pss_cons hp1 hbi.pss, ?_⟩
    -- the state at the entry
    have S0 : St (F.g none (fun _ _ _ _ => False) B (Gb.del H a)) 0 B (Gb.del H a) (startB N (.raw (.ref a) :: ds.map D.py)) (L2.start N (.ref a :: us)) :=
      st_start rfl rfl sb trivial ⟨rfl, ra_pys (G := F.g none (fun _ _ _ _ => False) B (Gb.del H a)) hA⟩
    have Fa : Free (F.g none (fun _ _ _ _ => False) B (Gb.del H a)) B a := ⟨sb.free Gb.del_same, Gb.del_same, fun _ _ _ e => by cases e⟩
    have S1 := S0.hide0 rfl Fa ⟨fun j hj => absurd hj (noOwn_start j), noGhost_start⟩ (o := exo a C none) exo_nt
    have eH : upd (Gb.del H a) a (exo a C none) = H := by
      funext y
      by_cases hy : y = a
      · rw [hy, upd_same, ha]
      · rw [upd_ne hy, Gb.del_ne hy]
    rw [eH] at S1
    have h0 : (startB N (.raw (.ref a) :: ds.map D.py))[0]? = some (.val (.raw (.ref a))) := by
      unfold startB
      rfl
    obtain ⟨v0, e1, e2⟩ := S1.val 0 _ h0
    have e2' : v0 = V.ref a := e2
    subst e2'
    refine ⟨_, e1, a, C, [c], rfl, by show 1 ≤ 1000; decide, T, ha, ?_⟩
    refine hbi.snd rfl rfl T (fun p hp => hno p.1 (by rw [← hfn]; exact List.mem_map.mpr ⟨p, hp, rfl⟩)) _ _ B H a none QD _ S1 h0 ⟨fun j => noOwn_start j, fun _ => noGhost_start⟩ Fa ha (hw a ds QD hf) fun B' H' fs' S' hs' Fa' q => ?_
    obtain ⟨d, gs, g1, g2, g3, g4, g5, g6⟩ := hs'
    have mv := S'.mv
    have hd0 : Gb.del H a d = none := g4.2.1
    refine hq B' H' d gs fs' ⟨fun y o hy => ?_, mv.b, fun y o hy => ?_, mv.f, mv.t, fun y ps hy => ?_⟩ g1 g2 ?_ g3 g6 q
    · have ne1 : y ≠ a := fun z => by rw [z, Gb.del_same] at hy; cases hy
      have ne2 : y ≠ d := fun z => by rw [z, hd0] at hy; cases hy
      rw [Gb.del_ne ne2, Gb.del_ne ne1]
      exact mv.kp _ _ hy
    · have ne1 : y ≠ a := fun z => by rw [z, Fa'.1] at hy; cases hy
      have ne2 : y ≠ d := fun z => by rw [z, g4.1] at hy; cases hy
      rw [Gb.del_ne ne2, Gb.del_ne ne1]
      exact mv.s _ _ hy
    · exact mv.u y ps (Gb.del_le _ _ (Gb.del_le _ _ hy))
    · rw [Gb.del_ne g3] at hd0
      exact hd0
end Fv
set_option maxRecDepth 100000
set_option maxHeartbeats 4000000
/-! try by value. -/
namespace Fv
open PySem PySem.Spec PyProof.Rows L2 Gb
def asB (oi : Option Nat) (d : D) (ρ : List Sl) : List Sl := match oi with
  | none => ρ
  | some i => ρ.set i (.val d)
def unB (oi : Option Nat) (ρ : List Sl) : List Sl := match oi with
  | none => ρ
  | some i => ρ.set i .no
/-- what the clauses do with the exception x: is: whether a clause names its class -/
def hGo : List ((Str → Bool) × Option Nat × WS) → List Sl → Exn → Nat → XB → EB → Prop
  | [], ρ, x, n, E, _ => E ρ x n
  | (is, oi, ws) :: r, ρ, x, n, E, DB => if is x.cls = true then x.fs ≠ [] ∧ ws (asB oi (.exc x) ρ) n (fun _ _ _ => False) { nx := fun ρ' n' => DB.nx (unB oi ρ') n', rt := DB.rt, bk := fun ρ' n' => DB.bk (unB oi ρ') n', ct := fun ρ' n' => DB.ct (unB oi ρ') n' } else hGo r ρ x n E DB
def sTry (wb : WS) (lb : List ((Str → Bool) × Option Nat × WS)) : WS := fun ρ n E DB => wb ρ n (fun ρ' x n' => hGo lb ρ' x n' E DB) DB
inductive BHd (m : Bool) (X : Cx) (G : Cg) : List ExceptHandler → List (Value × Option Nat × TS) → List ((Str → Bool) × Option Nat × WS) → Prop
  | nil : BHd m X G [] [] []
  | bare {x : Str} {c : Value} {is : Str → Bool} {ts : TS} {ws : WS} {b₀ : Stmt} {suite : List Stmt} {np pos' : Pos} {hds : List ExceptHandler} {l : List (Value × Option Nat × TS)} {lb : List ((Str → Bool) × Option Nat × WS)} (hc : Names X x c)
      (his : ∀ nm C, G.ex nm = some (.ref C) → PySem.W.exmOne X.K (.ref C) c = some (is nm)) (hsu : ∀ (a : Addr) (pn : List (Addr × Obj)), BSs m (X.suite a pn) (G.wx fun _ _ _ _ => False) (b₀ :: suite) ts ws) (r : BHd m X G hds l lb) :
      BHd m X G (.ExceptHandler (some (.Name x np)) none (b₀ :: suite) pos' :: hds) ((c, none, ts) :: l) ((is, none, ws) :: lb)
  | named {x n : Str} {c : Value} {i : Nat} {is : Str → Bool} {ts : TS} {ws : WS} {b₀ : Stmt} {suite : List Stmt} {np pos' : Pos} {hds : List ExceptHandler} {l : List (Value × Option Nat × TS)} {lb : List ((Str → Bool) × Option Nat × WS)} (hc : Names X x c) (hi : X.N[i]? = some n) (hln : X.env.kindOf n = some .local)
      (his : ∀ nm C, G.ex nm = some (.ref C) → PySem.W.exmOne X.K (.ref C) c = some (is nm)) (hsu : ∀ (a : Addr) (pn : List (Addr × Obj)), BSs m (X.suite a pn) (G.wx fun _ _ _ _ => False) (b₀ :: suite) ts ws) (r : BHd m X G hds l lb) :
      BHd m X G (.ExceptHandler (some (.Name x np)) (some n) (b₀ :: suite) pos' :: hds) ((c, some i, ts) :: l) ((is, some i, ws) :: lb)
section
variable {m : Bool} {X : Cx} {G : Cg} {hds : List ExceptHandler} {l : List (Value × Option Nat × TS)} {lb : List ((Str → Bool) × Option Nat × WS)} {body : List Stmt} {h₀ : ExceptHandler} {pos : Pos} {tb : WX → TS} {wb : WS}
theorem BHd.hdn (h : BHd m X G hds l lb) : HdN X hds l := by
  induction h with
  | nil => exact .nil
  | bare hc his hsu r ih => exact .bare hc (fun a pn => (hsu a pn).ps) ih
  | named hc hi hln his hsu r ih => exact .named hc hi hln (fun a pn => (hsu a pn).ps) ih
theorem setAs_st {n : Nat} {B H : Hp} {ρ : List Sl} {σ : L2.St} (S : St G n B H ρ σ) (oi : Option Nat) {v : V} {d : D} (r : R G B v d) : St G n B H (asB oi d ρ) (setAs oi v σ) := by
  cases oi with
  | none => exact S
  | some i => exact S.set r
theorem endAs_nx {oi : Option Nat} {D : Ends} {σ : L2.St} {H : Hp} (h : D.nx (match oi with | none => σ | some i => σ.set i none) H) : (endAs oi D).nx σ H := by
  cases oi <;> exact h
theorem endAs_bk {oi : Option Nat} {D : Ends} {σ : L2.St} {H : Hp} (h : D.bk (match oi with | none => σ | some i => σ.set i none) H) : (endAs oi D).bk σ H := by
  cases oi <;> exact h
theorem endAs_ct {oi : Option Nat} {D : Ends} {σ : L2.St} {H : Hp} (h : D.ct (match oi with | none => σ | some i => σ.set i none) H) : (endAs oi D).ct σ H := by
  cases oi <;> exact h
theorem endAs_rt {oi : Option Nat} {D : Ends} : (endAs oi D).rt = D.rt := by
  cases oi <;> rfl
theorem un_st {n : Nat} {B H : Hp} {ρ : List Sl} {σ : L2.St} (S : St G n B H ρ σ) (oi : Option Nat) : St G n B H (unB oi ρ) (match oi with | none => σ | some i => σ.set i none) := by
  cases oi with
  | none => exact S
  | some i => exact S.drop i
/-- one clause's suite -/
theorem suite_go {D : Ends} {DB : EB} {B0 : Hp} (eo : EO G m B0 D DB) {oi : Option Nat} {ts : TS} {ws : WS} (hs : SndS m (G.wx fun _ _ _ _ => False) ts ws) {n : Nat} {B H : Hp} {ρ : List Sl} {σ : L2.St} {x : Exn} {C dd : Addr} (s0 : Same B0 B) (S : St G n B H ρ σ) (he : G.ex x.cls = some (.ref C)) (hf : FsAt G.K B dd x.fs)
    (hw : ws (asB oi (.exc x) ρ) n (fun _ _ _ => False) { nx := fun ρ' n' => DB.nx (unB oi ρ') n', rt := DB.rt, bk := fun ρ' n' => DB.bk (unB oi ρ') n', ct := fun ρ' n' => DB.ct (unB oi ρ') n' }) {a : Addr} (ha : H a = none) :
    ts (endAs oi D) (setAs oi (.ref a) σ) (upd H a (exK a C dd)) := by
  have mv : Mv G.pn B H (upd B a (exK a C dd)) (upd H a (exK a C dd)) := Mv.new S.sub ha (by trivial)
  have S1 := S.step mv (S.pk.mv (Mv.new S.sub ha (by trivial)))
  have r : R G (upd B a (exK a C dd)) (.ref a) (.exc x) := ⟨a, C, dd, rfl, he, upd_same, hf.mono mv.b⟩
  have S2 := (setAs_st S1 oi r).wx (W := fun _ _ _ _ => False)
  refine hs _ _ n _ _ (fun _ _ _ => False) _ _ S2 hw (fun _ _ _ _ _ _ _ => XW.none) ⟨fun ρ' σ' n' B' H' sb S' q => endAs_nx (eo.nx _ _ n' B' H' ((s0.trans mv.b).trans sb) (un_st S'.unwx oi) q), fun ρ' σ' n' B' H' sb S' q => endAs_bk (eo.bk _ _ n' B' H' ((s0.trans mv.b).trans sb) (un_st S'.unwx oi) q),
    fun ρ' σ' n' B' H' sb S' q => endAs_ct (eo.ct _ _ n' B' H' ((s0.trans mv.b).trans sb) (un_st S'.unwx oi) q), fun hm v d n' B' H' mv' pk' rv q => ?_, fun hm => ?_⟩
  · rw [endAs_rt]
    exact eo.rt hm v d n' B' H' mv' pk' rv.unwx q
  · rw [endAs_rt]
    exact RtN.wx (G := G) rfl rfl rfl rfl (eo.rn hm)
theorem clause_go {D : Ends} {DB : EB} {B0 : Hp} {E : XB} (hall : ∀ nm cv, G.ex nm = some cv → ∃ C, cv = .ref C) (xs : XS G B0 E) (eo : EO G m B0 D DB) {hds : List ExceptHandler} (hh : BHd m X G hds l lb) {n : Nat} {B H : Hp} {ρ : List Sl} {σ : L2.St} {x : Exn} {cv : Value} {dd : Option Addr} (s0 : Same B0 B) (S : St G n B H ρ σ) (he : ExR G B cv dd x) :
    hGo lb ρ x n E DB → wTry X.K G.xe D l cv dd σ H := by
  induction hh with
  | nil => exact fun q => xs ρ σ n B H s0 S x n cv dd B H (Mv.refl S.sub) S.pk he q
  | @bare y c is ts ws b₀ suite np pos' hds2 l2 lb2 hc his hsu r ih =>
    intro q
    obtain ⟨C, rfl⟩ := hall _ _ he.1
    refine ⟨is x.cls, his _ _ he.1, fun e => ?_, fun e => ?_⟩
    · unfold hGo at q
      rw [if_pos e] at q
      cases dd with
      | none => exact absurd he.2 q.1
      | some dd => exact ⟨C, dd, rfl, rfl, fun a ha => suite_go eo (hsu 0 []).snd s0 S he.1 he.2 q.2 ha⟩
    · unfold hGo at q
      rw [if_neg (by rw [e]; exact Bool.false_ne_true)] at q
      exact ih q
  | @named y nn c i is ts ws b₀ suite np pos' hds2 l2 lb2 hc hi hln his hsu r ih =>
    intro q
    obtain ⟨C, rfl⟩ := hall _ _ he.1
    refine ⟨is x.cls, his _ _ he.1, fun e => ?_, fun e => ?_⟩
    · unfold hGo at q
      rw [if_pos e] at q
      cases dd with
      | none => exact absurd he.2 q.1
      | some dd => exact ⟨C, dd, rfl, rfl, fun a ha => suite_go eo (hsu 0 []).snd s0 S he.1 he.2 q.2 ha⟩
    · unfold hGo at q
      rw [if_neg (by rw [e]; exact Bool.false_ne_true)] at q
      exact ih q
theorem bs_try (hs : X.stack = X.env :: X.outer) (hf : X.env.frame = some X.env.locals) (hex : X.ex = []) (hN : X.N.Nodup) (hall : ∀ nm cv, G.ex nm = some cv → ∃ C, cv = .ref C) (tk : Takes X G.xe)
    (hb : ∀ (W : WX) (pn : List (Addr × Obj)) (xe : Value → Shared → Prop), Takes (X.tr pn xe) W → BSs m (X.tr pn xe) (G.wx W) body (tb W) wb)
    (hh : BHd m X G (h₀ :: hds) l lb) : BS m X G (.Try body (h₀ :: hds) [] [] pos) (fun D σ H => tb (wTry X.K G.xe D l) D σ H) (sTry wb lb) := by
  refine ⟨ps_tryN hs hf hex hN tk (fun W pn xe tk' _ => (hb W pn xe tk').ps) hh.hdn, fun ρ σ n B H E D DB S hw xs eo => ?_⟩
  have hbs := (hb (wTry X.K G.xe D l) [] (fun _ _ => True) (fun _ _ _ => trivial)).snd
  refine hbs ρ σ n B H _ D DB S.wx hw (fun ρ' σ' n' B' H' sb S' x n2 cv dd B2 H2 mv pk er q => ?_) ⟨fun ρ' σ' n' B' H' sb S' q => eo.nx _ _ n' B' H' sb S'.unwx q, fun ρ' σ' n' B' H' sb S' q => eo.bk _ _ n' B' H' sb S'.unwx q, fun ρ' σ' n' B' H' sb S' q => eo.ct _ _ n' B' H' sb S'.unwx q,
    fun hm v d n' B' H' mv pk r q => eo.rt hm v d n' B' H' mv pk r.unwx q, fun hm => RtN.wx (G := G) rfl rfl rfl rfl (eo.rn hm)⟩
  have S2 := S'.unwx.step mv pk
  exact clause_go hall xs eo hh (sb.trans mv.b) S2 er q
end
end Fv
set_option maxRecDepth 100000
set_option maxHeartbeats 4000000
/-! A lambda without parameters, handed to a def that calls it. -/
namespace Fv
open PySem PySem.Spec PyProof.Rows L2 Gb
open LamX (Tabs TabS CodeO TabB LamS lamCx lamEnv)
/-- the heap behind the making of a lambda -/
def LamH (H : Hp) (P : Addr) (q : Str) (H1 : Hp) (c2 : Addr) : Prop :=
  (H1 = H ∧ H c2 = some (CodeO c2 q)) ∨ ∃ ps more : Array Value, H P = some (.tbl ps) ∧ H c2 = none ∧ H1 = upd (upd H P (.tbl (ps ++ more))) c2 (CodeO c2 q)
section
variable {X : Cx} {pins : List (Addr × Obj)} {σ : L2.St} {H : Hp} {s : Shared}
theorem lam_mk {T : List (Addr × Str)} {c P : Addr} {params : Arguments} {body : Expr} {scope : Scope} {pos : Pos} {E : Value → Shared → Prop} {Q : Value → Shared → Prop} (I : Inv X pins σ H s) (TB : TabB X.base X.mg c P) (hcode : X.env.code = .ref c)
    (hm : (P, X.env.qual ++ "<lambda>") ∈ T) (hu : ∀ p ∈ T, p.1 = P → p.2 = X.env.qual ++ "<lambda>") (hT : Tabs T H) (hdef : defaultsOf params X.env = ([], [])) (hfree : ∀ y ∈ scope.names, y.2 = .free → ∃ c, X.env.cells.lookup y.1 = some c)
    (k : ∀ (f c2 : Addr) (pm ctv : Value) (H1 : Hp) (s2 : Shared), Inv X pins σ H1 s2 → LamH H P (X.env.qual ++ "<lambda>") H1 c2 → Tabs T H1 →
      s2.heap.get? f = some (PySem.W.kla_obj "<lambda>" (X.env.qual ++ "<lambda>") params body scope (cloFrom X.env.cells scope.names []) pm c2 ctv) → H1 f = none → f ∉ frs X.stack → Q (.ref f) s2) :
    wpAny (model X.prog X.w) X.A (eval (.Lambda params body scope pos) X.env) Q E s := by
  obtain ⟨ps, hP, ht, ha⟩ := hT _ hm
  have bP : s.heap.BuiltinsAt X.mg P := TB.bm.keeps I.bk
  have atP : s.heap.get? P = some { cls := .none, data := .fields ps } := I.hok P _ hP
  have far : ∀ f, s.heap.objs.size ≤ f → f ∉ frs X.stack := fun f hf z => by
    rcases List.mem_cons.mp (I.stkSub _ z) with e | e
    · have h1 := I.lt
      rw [← e] at h1
      exact Nat.lt_irrefl _ (Nat.lt_of_lt_of_le h1 hf)
    · exact I.nofs hf e
  refine PySem.W.kla_eval hdef ?_
  cases hc : codeAmong pos ps.toList with
  | some cv =>
    obtain ⟨c2, rfl, hco⟩ := ha pos cv hc
    refine PySem.W.kla_makeFunctionHit (mg := X.mg) (c := c) (P := P) (ps := ps) (closure_ok hfree) I.ok.glob (I.mod.glob.keeps I.bk) hcode (TB.code.keeps I.bk) atP ht hc bP fun ctv h2 tk hx hsz => ?_
    have I1 : Inv X pins σ H { s with heap := h2.push (PySem.W.kla_obj "<lambda>" (X.env.qual ++ "<lambda>") params body scope (cloFrom X.env.cells scope.names []) ((X.mg "__name__").getD .none) c2 ctv), toks := tk } := I.kept fun b o e => Heap.get?_push_of_some _ (hx b o e)
    exact k h2.objs.size c2 ((X.mg "__name__").getD .none) ctv H _ I1 (.inl ⟨rfl, hco⟩) hT (Heap.get?_push_size _ rfl) (I.hok.fresh hsz) (far _ hsz)
  | none =>
    refine PySem.W.kla_makeFunction (mg := X.mg) (c := c) (P := P) (ps := ps) (closure_ok hfree) I.ok.glob (I.mod.glob.keeps I.bk) hcode (TB.code.keeps I.bk) atP ht hc TB.gP bP fun c2 ctv h2 tk hx hge hlt hrec htb => ?_
    obtain ⟨c3, oc, vs, t, e3, hoc, hd, hv⟩ := hrec
    cases e3
    have hsz : s.heap.objs.size ≤ h2.objs.size := Nat.le_trans hge (Nat.le_of_lt hlt)
    have nC : H c2 = none := I.hok.fresh hge
    have I1 := LamX.inv_table (t' := tk) (more := #[rawInt pos.line, rawInt pos.col, .ref c2]) (h' := h2.push (PySem.W.kla_obj "<lambda>" (X.env.qual ++ "<lambda>") params body scope (cloFrom X.env.cells scope.names []) ((X.mg "__name__").getD .none) c2 ctv)) I hP
      (fun b o hb e => Heap.get?_push_of_some _ (hx b o hb e)) (Heap.get?_push_of_some _ htb) hge ⟨oc, vs, t, Heap.get?_push_of_some _ hoc, hd, hv⟩
    have nP : ∀ {b : Addr} {o : HO}, H b = some o → notTb o → b ≠ P := fun {b o} e n z => by
      rw [z, hP] at e
      cases e
      exact n
    have stay : ∀ {b : Addr} {o : HO}, H b = some o → notTb o → upd (upd H P (.tbl (ps ++ #[rawInt pos.line, rawInt pos.col, .ref c2]))) c2 (CodeO c2 (X.env.qual ++ "<lambda>")) b = some o := fun {b o} e n => by
      rw [upd_ne (ne_of_none e nC), upd_ne (nP e n)]
      exact e
    have eL : (ps ++ #[rawInt pos.line, rawInt pos.col, .ref c2]).toList = ps.toList ++ [rawInt pos.line, rawInt pos.col, .ref c2] := by simp
    refine k h2.objs.size c2 ((X.mg "__name__").getD .none) ctv _ _ I1 (.inr ⟨ps, _, hP, nC, rfl⟩) (fun p hp => ?_) (Heap.get?_push_size _ rfl) ?_ (far _ hsz)
    · by_cases hb : p.1 = P
      · rw [hu p hp hb, hb]
        refine ⟨_, by rw [upd_ne (ne_of_none hP nC), upd_same], by rw [eL]; exact PySem.TriplesOk_snoc _ _ _ _ ht, fun p2 cv hcv => ?_⟩
        rw [eL] at hcv
        rcases LamX.among_app _ ht hcv with z | z
        · obtain ⟨c0, e1, e2⟩ := ha p2 cv z
          exact ⟨c0, e1, stay e2 True.intro⟩
        · exact ⟨c2, z, upd_same⟩
      · obtain ⟨qs, a1, a2, a3⟩ := hT p hp
        refine ⟨qs, by rw [upd_ne (ne_of_none a1 nC), upd_ne hb]; exact a1, a2, fun p2 cv hcv => ?_⟩
        obtain ⟨c0, e1, e2⟩ := a3 p2 cv hcv
        exact ⟨c0, e1, stay e2 True.intro⟩
    · have n1 : h2.objs.size ≠ c2 := Nat.ne_of_gt hlt
      have n2 : h2.objs.size ≠ P := Nat.ne_of_gt (Nat.lt_of_lt_of_le (Heap.lt_size atP) hsz)
      rw [upd_ne n1, upd_ne n2]
      exact I.hok.fresh hsz
/-- x(), in the def that got the lambda -/
theorem pe_actW {CXg : CXT} {Eg : XK} {Ng : List Str} {qg : Str} {sg : Scope} {g f c2 : Addr} {cdg pm ctv : Value} {params : Arguments} {body : Expr} {scope : Scope} {k i : Nat} {a : Str} {pn : List (Addr × Obj)} {xe : Value → Shared → Prop} {W : WX} {tb : XK → TE} {p1 p2 : Pos}
    (I : Inv X pins σ H s) (L : LamS X.env.scope scope) (hf : s.heap.get? f = some (PySem.W.kla_obj "<lambda>" (X.env.qual ++ "<lambda>") params body scope (cloFrom X.env.cells scope.names []) pm c2 ctv)) (hfn : H f = none) (hfr : f ∉ frs X.stack)
    (hbind : bindArgs (PySem.W.kla_fn "<lambda>" (X.env.qual ++ "<lambda>") params body scope (cloFrom X.env.cells scope.names []) pm (.ref c2) ctv) ⟨[], []⟩ = pure [])
    (tk : Takes ((cxOf CXg X.prog X.w X.K X.mg X.base Ng qg sg g cdg X.A X.stack s H Eg).tr pn xe) W) (hr : Room (k + 1) (X.A.deeper (envOfC qg sg s.heap.objs.size g cdg)))
    (hbody : ∀ (E : XK) (A : Around) (outer : List Env) (s : Shared) (H : Hp), Room k (A.deeper (lamEnv X scope s.heap.objs.size f c2)) → PE (lamCx X A outer s H E scope f c2) body (tb E))
    (hN : Ng[i]? = some a) (hv : Vis sg a) (hd : (a == ("__debug__" : Str)) = false := by decide) (hcd : (a == ("__classdict__" : Str)) = false := by decide) :
    PE ((cxOf CXg X.prog X.w X.K X.mg X.base Ng qg sg g cdg X.A X.stack s H Eg).tr pn xe) (.Call (.Name a p1) [] [] p2)
      (fun σZ HZ Q => σZ[i]? = some (some (.ref f)) ∧ HZ c2 = some (CodeO c2 (X.env.qual ++ "<lambda>")) ∧ tb (fun cls d H' => W cls d σZ H') σ HZ Q) := by
  refine ⟨fun pinsZ sZ σZ HZ Q IZ ⟨hs, hc, ht⟩ => ?_⟩
  refine wpAny_Call_Name_kw (thn ((pe_var (pos := p1) (i := i) hN hv hd hcd).run pinsZ sZ σZ HZ (fun v H1 => v = .ref f ∧ H1 = HZ) IZ ⟨.ref f, hs, rfl, rfl⟩) fun u s1 ⟨v, H1, I1, r1, ev, eH⟩ => ?_)
  subst ev
  subst eH
  cases r1
  have of1 : s1.heap.get? f = some (PySem.W.kla_obj "<lambda>" (X.env.qual ++ "<lambda>") params body scope (cloFrom X.env.cells scope.names []) pm c2 ctv) := I1.base.keep f _ hf hfn hfr (fun z => nomatch (show f ∈ ([] : List Addr) from z))
  refine PySem.W.callWith_F0 ⟨_, _, _, _, of1⟩ ?_
  have un : Un (frs X.stack) [] H H1 s.heap s1.heap := I1.base
  obtain ⟨⟨oc, vs, t, hoc, hdc, hvc⟩, _, _⟩ := I1.hok c2 _ hc
  have ran : codeAny (model X.prog X.w) (X.A.deeper (envOfC qg sg s.heap.objs.size g cdg)) (.call (.ref f) ⟨[], []⟩) (CR (L2.CX X.prog X.w) (envOfC qg sg s.heap.objs.size g cdg :: X.stack) X.prog X.w H1 s1 Q (fun cls d H' => W cls d σZ H')) s1 := by
    refine PySem.W.kla_callFunE hr.depth of1 rfl L.co L.gen rfl ⟨c2, oc, vs, t, rfl, hoc, hdc, hvc⟩ ?_
    rw [hbind]
    refine wpAny_pure (wpAny_newFunctionEnv (fun y hy => (L.own y hy).2) (fun y hy => absurd hy (by simp)) (fun h₁ hns hsb => ⟨I1.nolimit.fresh _ hsb, ?_⟩) L.kind)
    show codeAny _ _ (.expr body (lamEnv X scope s1.heap.objs.size f c2)) _ _
    have kp : ∀ b o, s1.heap.get? b = some o → h₁.get? b = some o := fun b o e => hsb.extBut b o (Nat.ne_of_lt (Heap.lt_size e)) (Heap.get?_push_of_some _ e)
    have J : Inv (lamCx X (X.A.deeper (envOfC qg sg s.heap.objs.size g cdg)) (envOfC qg sg s.heap.objs.size g cdg :: X.stack) s1 H1 (fun cls d H' => W cls d σZ H') scope f c2) [] σ H1 { s1 with heap := h₁, toks := s1.toks + ([] : List (Str × Value)).length } :=
      LamX.lam_start2 I L I1.env0 hr.hd un hns kp
    refine PySem.W.kla_codeExpr (wpAny_mono ((hbody _ _ _ s1 H1 (hr.deeper _)).run [] _ _ H1 Q J ht) (fun v s2 ⟨w2, H2, J2, rv, q⟩ => ⟨w2, H2, J2.os, J2.bare, J2.base, J2.hok, rv, q⟩) fun e s2 hq => hq)
  refine wpAny_call (codeAny_mono ran fun r s2 hq => ?_)
  cases r with
  | error e => exact tk e s2 (XE.of_call I1 (fun cls d H' h => h) hq)
  | ok fl =>
    cases fl with
    | ret u => exact I1.after hq
    | next => exact hq.elim
    | brk => exact hq.elim
    | cont => exact hq.elim
end
/-! ### by value -/
/-- a reading that is by value itself -/
def tSem (G : Cg) (w : WE) : TE := fun σ H Q => ∃ ρ n B E Qd, St G n B H ρ σ ∧ w ρ n E Qd ∧ XW G σ B H E ∧ ∀ v d n' B' H', Mv G.pn B H B' H' → Pk G.pn n' B' H' → R G B' v d → Qd d n' → Q v H'
theorem be_sem {X : Cx} {G : Cg} {e : Expr} {w : WE} (h : PE X e (tSem G w)) : BE X G e (tSem G w) w := ⟨h, fun ρ σ n B H E Qd Q S hw xw k => ⟨ρ, n, B, E, Qd, S, hw, xw, k⟩⟩
/-- what a thunk wishes -/
abbrev TH := Nat → XQ → QE → Prop
def wAct (v : V) (th : TH) : WE := fun ρ n E Q => ρ[0]? = some (.val (.raw v)) ∧ th n E Q
/-- a def with one parameter, that calls what it is handed -/
structure ClL (F : Fx) (k : Nat) (x : Str) (a : Str) (f : TH → TH) : Prop where
  ex : ∃ (g : Addr) (Ng : List Str) (st : Stmt) (fd : FuncData), F.mg x = some (.ref g) ∧ PySem.W.keepIn F.K (.ref g) = true ∧ Fun F.K x x st g fd ∧ Binds F.K fd [a] [] ∧ FnScope Ng [a] (defScope st) ∧ Ng[0]? = some a ∧ Vis (defScope st) a ∧ (a == ("__debug__" : Str)) = false ∧ (a == ("__classdict__" : Str)) = false ∧
    ∀ (cdv : Value) (A : Around) (outer : List Env) (s : Shared) (H : Hp) (E : XK) (pn : Pn) (B : Hp) (v : V) (th : TH) (tA : WX → TE), Room k (cxB F Ng x (defScope st) g cdv A outer s H E).A → Takes (cxB F Ng x (defScope st) g cdv A outer s H E) (XKx E) →
      (∀ (W : WX) (pnz : List (Addr × Obj)) (xe : Value → Shared → Prop), Takes ((cxB F Ng x (defScope st) g cdv A outer s H E).tr pnz xe) W → ∀ p1 p2, BE ((cxB F Ng x (defScope st) g cdv A outer s H E).tr pnz xe) ((F.g pn (XKx E) B H).wx W) (.Call (.Name a p1) [] [] p2) (tA W) (wAct v th)) →
      ∃ t w, BSs false (cxB F Ng x (defScope st) g cdv A outer s H E) (F.g pn (XKx E) B H) (defBody st) t w ∧ ∀ n EX QD, f th n EX QD → w (startB Ng [.raw v]) n (fun _ => EX) { nx := fun _ n' => QD (.py .none) n', rt := QD }
section
variable {X : Cx} {G : Cg} {k j : Nat} {x a : Str} {f : TH → TH} {p lpos pos : Pos} {params : Arguments} {body : Expr} {scope : Scope} {w0 : WE} {t0 : XK → TE} {c P : Addr}
theorem be_lam {F : Fx} (cl : ClL F k x a f) (hr : Room j X.A) (hk : k + 1 ≤ j) (hg : Gl X x) (tk : Takes X G.xe) {pp cc : Addr} {T : List (Addr × Str)} (hpn : G.pn = some (pp, cc, T)) (TB : TabB X.base X.mg c P) (hcode : X.env.code = .ref c) (hmT : (P, X.env.qual ++ "<lambda>") ∈ T) (hu : ∀ p ∈ T, p.1 = P → p.2 = X.env.qual ++ "<lambda>")
    (L : LamS X.env.scope scope) (hdef : defaultsOf params X.env = ([], [])) (hbind : ∀ (q : Str) (cl : List (Str × Addr)) (pm cv ctv : Value), bindArgs (PySem.W.kla_fn "<lambda>" q params body scope cl pm cv ctv) ⟨[], []⟩ = pure [])
    (k0 : Nat) (hk0 : k0 + 2 ≤ j) (hk1 : k ≤ k0 + 1) (hbody : ∀ (A : Around) (outer : List Env) (s : Shared) (H : Hp) (E : XK) (f c2 : Addr), Room k0 (A.deeper (lamEnv X scope s.heap.objs.size f c2)) → BE (lamCx X A outer s H E scope f c2) (G.wx (XKx E)) body (t0 E) w0) (hF : Fof X G = F := by rfl) (hK : X.K = G.K := by rfl)
    (hdb : (x == ("__debug__" : Str)) = false := by decide) : BE X G (.Call (.Name x p) [.Lambda params body scope lpos] [] pos) (tSem G (fun ρ n E Q => f (fun n E Q => w0 ρ n E Q) n E Q)) (fun ρ n E Q => f (fun n E Q => w0 ρ n E Q) n E Q) := by
  subst hF
  obtain ⟨g, Ng, st, fd, hm, hkp, Fn, hb, Sg, hNg, hva, ha1, ha2, hgb⟩ := cl.ex
  obtain ⟨oc, od, kV, doc, pm0, an, cdv, ct, osl, rfl, lk, hcg⟩ := Fn.ex
  refine be_sem ⟨fun pins s σ H Q I ⟨ρ, n, B, E, Qd, S, hw, xw, kq⟩ => ?_⟩
  have pk := S.pk
  rw [hpn] at pk
  obtain ⟨hpen, hBp, hT, hTb, hTu, hcb⟩ := pk
  refine wpAny_Call_Name_kw (ld_glob I hg hm ?_ hdb)
  refine PySem.W.callWith_K (h₀ := X.base) I.ok.mod.kin hkp ?_ (by rfl) (by rfl)
  show wpAny _ _ (spliced ((false, eval (.Lambda params body scope lpos) X.env) :: backTo pos (starEach [] X.env))) _ _ s
  refine Calls.spliced_cons (lam_mk I TB hcode hmT hu hT hdef (L.has I.ok) fun fa c2 pm ctv H1 s1 I1 lh T1 hfa hfn hfr => ?_)
  refine Calls.spliced_nil ⟨I1.kIn, ?_⟩
  -- the state behind the making
  have hco : H1 c2 = some (CodeO c2 (X.env.qual ++ "<lambda>")) := by
    rcases lh with ⟨rfl, h⟩ | ⟨ps, more, h1, h2, rfl⟩
    · exact h
    · exact upd_same
  have m01 : Mv G.pn B H B H1 := by
    rcases lh with ⟨rfl, _⟩ | ⟨ps, more, h1, h2, rfl⟩
    · exact Mv.refl S.sub
    · have ne : ∀ {b : Addr} {o : HO}, H b = some o → notTb o → b ≠ P ∧ b ≠ c2 := fun {b o} e nt => ⟨fun z => by
        rw [z, h1] at e
        cases e
        exact nt, ne_of_none e h2⟩
      have stay : ∀ {b : Addr} {o : HO}, H b = some o → notTb o → upd (upd H P (.tbl (ps ++ more))) c2 (CodeO c2 (X.env.qual ++ "<lambda>")) b = some o := fun {b o} e nt => by
        obtain ⟨n1, n2⟩ := ne e nt
        rw [upd_ne n2, upd_ne n1]
        exact e
      rw [hpn]
      refine ⟨⟨fun b o _ nt e => stay e nt, fun o nt e => ⟨o, stay e nt, nt⟩, fun b qs e => ?_⟩, Same.refl B, fun b o e => ?_, fun x o u h _ _ => h, fun x ps h => h, fun b qs e => ?_⟩
      · have nc : b ≠ c2 := ne_of_none e h2
        by_cases hb : b = P
        · exact ⟨_, by rw [upd_ne nc, hb, upd_same]⟩
        · exact ⟨qs, by rw [upd_ne nc, upd_ne hb]; exact e⟩
      · refine stay (S.sub _ _ e) ?_
        cases o with
        | tbl qs => exact absurd e (hTb b qs)
        | _ => trivial
      · by_cases nc : b = c2
        · rw [nc, upd_same] at e
          have e2 : HO.ext _ = HO.tbl qs := Option.some.inj e
          cases e2
        · rw [upd_ne nc] at e
          by_cases hb : b = P
          · rw [hb]
            exact ⟨ps, h1⟩
          · rw [upd_ne hb] at e
            exact ⟨qs, e⟩
  have pk1 : Pk G.pn n B H1 := by
    rw [hpn] at m01 ⊢
    obtain ⟨t, l, xs, e1, e2, e3⟩ := hpen
    refine ⟨⟨t, l, xs, ?_, ?_, e3⟩, hBp, T1, hTb, fun b qs e => ?_, hcb⟩
    · rcases lh with ⟨rfl, _⟩ | ⟨ps, more, g1, g2, rfl⟩
      · exact e1
      · rw [upd_ne (ne_of_none e1 g2), upd_ne (fun z => by rw [z, g1] at e1; cases e1)]
        exact e1
    · rcases lh with ⟨rfl, _⟩ | ⟨ps, more, g1, g2, rfl⟩
      · exact e2
      · rw [upd_ne (ne_of_none e2 g2), upd_ne (fun z => by rw [z, g1] at e2; cases e2)]
        exact e2
    · obtain ⟨q2, h2⟩ := m01.u b qs e
      exact hTu b q2 h2
  have S1 := S.step m01 pk1
  have ran : codeAny (model X.prog X.w) X.A (.call (.ref g) ⟨[.ref fa], []⟩) (CR (L2.CX X.prog X.w) X.stack X.prog X.w H1 s1 Q (fun cls d H' => G.xe cls d σ H')) s1 := by
    refine LamX.run_ofS (N := Ng) (ps := [a]) (us := [.ref fa]) (vs := [.ref fa]) lk hcg Sg (hr.mono hk) I1.env0 (hb s1 [.ref fa] I1.kIn rfl) (.cons rfl .nil) rfl fun hr2 => ?_
    have hrz : Room (k0 + 1) (X.A.deeper (envOfC x (defScope st) s1.heap.objs.size g cdv)) := (hr.mono hk0).deeper _
    have st0 : St ((Fof X G).g G.pn (XKx (fun cls d H' => G.xe cls d σ H')) B H1) n B H1 (startB Ng [.raw (.ref fa)]) (L2.start Ng [.ref fa]) := st_start rfl rfl S1.sub pk1 ⟨rfl, trivial⟩
    have act : ∀ (W : WX) (pnz : List (Addr × Obj)) (xe : Value → Shared → Prop), Takes ((cxB (Fof X G) Ng x (defScope st) g cdv X.A X.stack s1 H1 (fun cls d H' => G.xe cls d σ H')).tr pnz xe) W → ∀ p1 p2, BE ((cxB (Fof X G) Ng x (defScope st) g cdv X.A X.stack s1 H1 (fun cls d H' => G.xe cls d σ H')).tr pnz xe)
        (((Fof X G).g G.pn (XKx (fun cls d H' => G.xe cls d σ H')) B H1).wx W) (.Call (.Name a p1) [] [] p2) (fun σZ HZ Q => σZ[0]? = some (some (.ref fa)) ∧ HZ c2 = some (CodeO c2 (X.env.qual ++ "<lambda>")) ∧ t0 (fun cls d H' => W cls d σZ H') σ HZ Q) (wAct (.ref fa) (fun n E Q => w0 ρ n E Q)) := by
      intro W pnz xe tkz p1 p2
      refine ⟨pe_actW I1 L hfa hfn hfr (hbind _ _ _ _ _) tkz hrz (fun E' A outer s2 H2 hr3 => (hbody A outer s2 H2 E' fa c2 hr3).pe) hNg hva ha1 ha2, fun ρg σg n2 B2 H2 Ez Qz Qv Sz hwz xz kz => ?_⟩
      obtain ⟨hw0, hth⟩ := hwz
      obtain ⟨v0, e1, e2⟩ := Sz.val 0 _ hw0
      have e2' : v0 = V.ref fa := e2
      subst e2'
      have mz : Mv G.pn B H1 B2 H2 := Sz.mv
      have pkz : Pk G.pn n2 B2 H2 := Sz.pk
      have Sm := (S1.step mz pkz)
      have hc2 : H2 c2 = some (CodeO c2 (X.env.qual ++ "<lambda>")) := by
        rw [hpn] at mz
        refine mz.kp.1 _ _ (fun z => ?_) True.intro hco
        rw [hpn] at pk1
        obtain ⟨⟨t', l', xs', e1', _⟩, _⟩ := pk1
        rw [z, e1'] at hco
        cases hco
      refine ⟨e1, hc2, ?_⟩
      have hsn := (hbody (X.A.deeper (envOfC x (defScope st) s1.heap.objs.size g cdv)) [] s1 H1 (fun cls d H' => W cls d σg H') fa c2 (hrz.deeper _)).snd
      refine hsn ρ σ n2 B2 H2 Ez Qz Qv Sm.wx hth (fun y n3 cv dd B3 H3 mv pk3 er ex => ?_) (fun v d n3 B3 H3 mv pk3 rv q => ?_)
      · refine xz y n3 cv dd B3 H3 mv pk3 ?_ ex
        obtain ⟨r1, r2⟩ := er
        refine ⟨r1, ?_⟩
        cases dd with
        | none => exact r2
        | some d' =>
          have r2' : FsAt G.K B3 d' y.fs := r2
          show FsAt X.K B3 d' y.fs
          rw [hK]
          exact r2'
      · refine kz v d n3 B3 H3 mv pk3 ?_ q
        have := rv.unwx
        exact R.wx ((R.of (F := Fof X G) hK rfl rfl).mpr this)
    obtain ⟨t, w, hbs, hwf⟩ := hgb cdv X.A X.stack s1 H1 (fun cls d H' => G.xe cls d σ H') G.pn B (.ref fa) (fun n E Q => w0 ρ n E Q) _ hr2 (takes_of rfl rfl rfl rfl) act
    refine ⟨t, hbs.ps, hbs.snd _ _ n B H1 (fun _ => E) _ { nx := fun _ n' => Qd (.py .none) n', rt := Qd } st0 (hwf n E Qd hw) (fun ρ' σ' n1 B1 H2 sb S' y n2 cv dd B2 H3 mv pk2 er ex => ?_) ⟨fun ρ' σ' n' B' H' _ S' q => ?_, fun _ _ _ _ _ _ _ q => q.elim, fun _ _ _ _ _ _ _ q => q.elim, fun _ v d n' B' H' mv pk2 rv q => ?_, fun hm => by cases hm⟩⟩
    · exact xw y n2 cv dd B2 H3 ((m01.trans S'.mv).trans mv) pk2 (exr_of (F := Fof X G) hK rfl er) ex
    · exact kq .non (.py .none) n' B' H' (m01.trans S'.mv) S'.pk r_non q
    · exact kq v d n' B' H' (m01.trans mv) pk2 ((R.of (F := Fof X G) hK rfl rfl).mp rv) q
  refine wpAny_call (codeAny_mono ran fun r s2 hq => ?_)
  cases r with
  | error e => exact tk e s2 (XE.of_call I1 (fun cls d H' h => h) hq)
  | ok fl =>
    cases fl with
    | ret u => exact I1.after hq
    | next => exact hq.elim
    | brk => exact hq.elim
    | cont => exact hq.elim
end
end Fv
set_option maxRecDepth 100000
set_option maxHeartbeats 4000000
/-! Promises over a heap, used by value: the callee is run on what it may see. -/
namespace Fv
open PySem PySem.Spec PyProof.Rows L2 Gb
/-- a list or a tuple -/
def isSq : HO → Bool
  | .lst _ => true
  | .tup _ => true
  | .frz _ (.tup _) => true
  | _ => false
def sqO : Option HO → Option HO
  | some o => if isSq o then some o else none
  | none => none
theorem sqO_some {x : Option HO} {o : HO} (h : sqO x = some o) : x = some o ∧ isSq o = true := by
  cases x with
  | none => cases h
  | some u =>
    unfold sqO at h
    by_cases e : isSq u = true
    · simp only [e, if_true] at h
      cases h
      exact ⟨rfl, e⟩
    · simp only [e, if_false] at h
      cases h
/-- what a callee of the pen may see: the pen, the lists and tuples that are told -/
def cutH (p : Addr) (B H : Hp) : Hp := fun b => if b = p then H p else sqO (B b)
/-- .. and behind it -/
def joinH (p : Addr) (B H J : Hp) : Hp := fun b => if b = p then J p else match H b with
  | some o => some o
  | none => sqO (J b)
def joinB (p : Addr) (B H J : Hp) : Hp := fun b => match B b with
  | some o => some o
  | none => if b = p then none else match H b with
    | some _ => none
    | none => sqO (J b)
/-- lists and tuples are not too long -/
def LenOk (H : Hp) : Prop := ∀ b o, H b = some o → match o with
  | .lst xs => xs.length ≤ sizeLine
  | .tup xs => xs.length ≤ sizeLine
  | .frz _ (.tup xs) => xs.length ≤ sizeLine
  | _ => True
def SpF (sp : Sp) : Sp := fun vs H Q _ => ∃ (p : Addr) (B : Hp), Same B H ∧ B p = none ∧ (∃ kvs, H p = some (.dK kvs)) ∧ sp vs (cutH p B H) (fun v J => Ex (cutH p B H) J ∧ (∃ kvs, J p = some (.dK kvs)) ∧ (LenOk J → (∀ b u, H b = some u → cutH p B H b = none → J b = none) → Q v (joinH p B H J))) (fun _ _ _ => False)
section
variable {P : Program} {w : World} {p : Addr} {B H J : Hp} {h h2 : Heap}
theorem cut_some {b : Addr} {o : HO} (ne : b ≠ p) (e : cutH p B H b = some o) : B b = some o ∧ isSq o = true := by
  unfold cutH at e
  rw [if_neg ne] at e
  exact sqO_some e
theorem cut_p : cutH p B H p = H p := if_pos rfl
theorem sq_stay {H1 H2 : Hp} {h1 h2 : Heap} {b : Addr} {o : HO} (s : isSq o = true) (x : ObjOk P w H1 h1 b o) (k : ∀ u, h1.get? b = some u → h2.get? b = some u) : ObjOk P w H2 h2 b o := by
  cases o with
  | lst xs =>
    obtain ⟨z, its, n, r, e⟩ := x
    exact ⟨z, its, n, r, k _ e⟩
  | tup xs =>
    obtain ⟨z, its, r, ob, e, c⟩ := x
    exact ⟨z, its, r, ob, k _ e, c⟩
  | frz ob u =>
    cases u with
    | tup xs =>
      obtain ⟨g, z, its, r, ob, e, c⟩ := x
      exact ⟨k _ g, z, its, r, ob, k _ e, c⟩
    | _ => cases s
  | _ => cases s
theorem dk_stay2 {H1 H2 : Hp} {h1 h2 : Heap} {b : Addr} {kvs : List (Key × V)} (x : ObjOk P w H1 h1 b (.dK kvs)) (k : ∀ u, h1.get? b = some u → h2.get? b = some u) : ObjOk P w H2 h2 b (.dK kvs) := by
  obtain ⟨z, y, vs, r, ob, es, ep, e, c⟩ := x
  exact ⟨z, y, vs, r, ob, es, ep, k _ e, c⟩
theorem cut_ok (s : Same B H) (hp : ∃ kvs, H p = some (.dK kvs)) (ok : HOk P w H h) : HOk P w (cutH p B H) h := fun b o e => by
  by_cases z : b = p
  · subst z
    rw [cut_p] at e
    obtain ⟨kvs, q⟩ := hp
    rw [q] at e
    cases e
    exact dk_stay2 (ok _ _ q) fun _ x => x
  · obtain ⟨e1, e2⟩ := cut_some z e
    exact sq_stay e2 (ok _ _ (s _ _ e1)) fun _ x => x
theorem len_of (ok : HOk P w H h) : LenOk H := fun b o e => by
  have x := ok b o e
  cases o with
  | lst xs => exact x.1
  | tup xs => exact x.1
  | frz ob u =>
    cases u with
    | tup xs => exact x.2.1
    | _ => trivial
  | _ => trivial
end
theorem ok_there {P : Program} {w : World} {H : Hp} {h : Heap} {b : Addr} {o : HO} (x : ObjOk P w H h b o) : ∃ u, h.get? b = some u := by
  induction o with
  | lst xs =>
    obtain ⟨_, _, _, _, e⟩ := x
    exact ⟨_, e⟩
  | tup xs =>
    obtain ⟨_, _, _, ob, e, _⟩ := x
    exact ⟨_, e⟩
  | dK kvs =>
    obtain ⟨_, _, _, _, o, _, _, e, _⟩ := x
    exact ⟨_, e⟩
  | dT kvs =>
    obtain ⟨_, _, _, _, o, _, _, e, _⟩ := x
    exact ⟨_, e⟩
  | set S n =>
    obtain ⟨o, _, _, _, e, _⟩ := x
    exact ⟨_, e⟩
  | ins C dx fs =>
    obtain ⟨_, _, _, e, _⟩ := x
    exact ⟨_, e⟩
  | own y =>
    obtain ⟨_, e⟩ := x
    exact ⟨_, e⟩
  | xd fs =>
    obtain ⟨_, ⟨_, _, _, e, _⟩, _⟩ := x
    exact ⟨_, e⟩
  | met f y => exact ⟨_, x⟩
  | rng lo hi =>
    obtain ⟨_, _, _, e⟩ := x
    exact ⟨_, e⟩
  | frz o u ih => exact ⟨_, x.1⟩
  | tbl ps => exact ⟨_, x⟩
  | ext φ => exact x.2.1
theorem fn_frame {P : Program} {w : World} {K : PySem.W.Frag} {mg : Str → Option Value} {base : Heap} {k : Nat} {f : Addr} {fd : FuncData} {ps : List Str} {sp : Sp} (F : FnOk P w K mg base CX0 k f fd ps sp) : FnOk P w K mg base (L2.CX P w) k f fd ps (SpF sp) := by
  refine ⟨fun vs H Q E h => ?_, fun A outer s H args us vs Q E hr he hb hv hs => ?_⟩
  · obtain ⟨p, B, _, _, _, q⟩ := h
    exact F.len _ _ _ _ q
  · obtain ⟨p, B, sb, bp, hp, q⟩ := hs
    have sub : ∀ {b : Addr} {o : HO}, cutH p B H b = some o → H b = some o := fun {b o} e => by
      by_cases z : b = p
      · subst z
        rw [cut_p] at e
        exact e
      · exact sb _ _ (cut_some z e).1
    have subN : ∀ {b : Addr}, H b = none → cutH p B H b = none := fun {b} e => by
      cases z : cutH p B H b with
      | none => rfl
      | some o =>
        rw [sub z] at e
        cases e
    have e0 : Env0 P w K mg base A outer s (cutH p B H) := ⟨he.frames, he.mod, fun b o e => ⟨(he.bs b o e).1, subN (he.bs b o e).2⟩, he.bsz, he.funs, fun b hb => subN (he.frf b hb), cut_ok sb hp he.hok, he.bare⟩
    refine codeAny_mono (F.run A outer s _ args us vs _ _ hr e0 hb hv q) fun r s2 hq => ?_
    cases r with
    | error e => exact (show False from hq).elim
    | ok fl =>
      cases fl with
      | next => exact hq.elim
      | brk => exact hq.elim
      | cont => exact hq.elim
      | ret u =>
        obtain ⟨v, J, os, bare, un, hok, rv, ex, hJp, q2⟩ := hq
        refine ⟨v, joinH p B H J, os, bare, ?_, ?_, rv, q2 (len_of hok) fun b u e n => let ⟨o, g⟩ := ok_there (he.hok b u e); un.free b o g n (by simp)⟩
        · -- what is not tracked stays
          have ip : ∀ {b : Addr}, H b = none → b ≠ p := fun {b} e z => by
            obtain ⟨kvs, g⟩ := hp
            rw [z, g] at e
            cases e
          refine ⟨fun b o e n => un.keep b o e (subN n), fun b o e n => un.slot b o e (subN n), fun b o e n hx => ?_, un.there, fun b xs e => ?_, fun b o u e => ?_, fun b qs e => ?_⟩
          · unfold joinH
            rw [if_neg (ip n), n]
            show sqO (J b) = none
            rw [un.free b o e (subN n) hx]
            rfl
          · unfold joinH
            rw [if_neg (fun z => by obtain ⟨kvs, g⟩ := hp; rw [z, g] at e; cases e), e]
          · unfold joinH
            rw [if_neg (fun z => by obtain ⟨kvs, g⟩ := hp; rw [z, g] at e; cases e), e]
          · refine ⟨#[], ?_⟩
            unfold joinH
            rw [if_neg (fun z => by obtain ⟨kvs, g⟩ := hp; rw [z, g] at e; cases e), e]
            simp
        · intro b o e
          by_cases z : b = p
          · subst z
            unfold joinH at e
            rw [if_pos rfl] at e
            obtain ⟨kvs, g⟩ := hJp
            rw [g] at e
            cases e
            exact dk_stay2 (hok _ _ g) fun _ x => x
          · unfold joinH at e
            rw [if_neg z] at e
            cases hb : H b with
            | none =>
              rw [hb] at e
              obtain ⟨e1, e2⟩ := sqO_some e
              exact sq_stay e2 (hok _ _ e1) fun _ x => x
            | some o1 =>
              rw [hb] at e
              have e' : o1 = o := Option.some.inj e
              subst e'
              cases hc : cutH p B H b with
              | some o2 =>
                have := sub hc
                rw [hb] at this
                cases this
                obtain ⟨_, sq⟩ := cut_some z hc
                have hJ : J b = some o1 := ex _ _ hc (by cases o1 <;> first | trivial | cases sq)
                exact sq_stay sq (hok _ _ hJ) fun _ x => x
              | none =>
                have nfr : b ∉ frs outer := fun m => by
                  rw [he.frf b m] at hb
                  cases hb
                refine (he.hok b o1 hb).stay (fun c u hcx g => ?_) (fun c g => ?_) fun c xs g => ?_
                · rcases hcx with rfl | hcx
                  · exact un.keep c u g hc nfr (by simp)
                  · have nc : cutH p B H c = none := by
                      cases y : cutH p B H c with
                      | none => rfl
                      | some o2 =>
                        have g2 := sub y
                        rw [hcx] at g2
                        cases g2
                        by_cases zc : c = p
                        · obtain ⟨kvs, g3⟩ := hp
                          rw [zc, g3] at hcx
                          cases hcx
                        · have := (cut_some zc y).2
                          cases this
                    exact un.keep c u g nc (fun m => by rw [he.frf c m] at hcx; cases hcx) (by simp)
                · unfold joinH
                  rw [if_neg (fun zc => by obtain ⟨kvs, g3⟩ := hp; rw [zc, g3] at g; cases g), g]
                · unfold joinH
                  rw [if_neg (fun zc => by obtain ⟨kvs, g3⟩ := hp; rw [zc, g3] at g; cases g), g]
/-! ### the steps of it -/
section
variable {p c : Addr} {T : List (Addr × Str)} {n k : Nat} {B H J : Hp}
theorem join_mv (sb : Same B H) (pk : Pk (some (p, c, T)) n B H) (hg : Go p c k (cutH p B H) J) : Mv (some (p, c, T)) B H (joinB p B H J) (joinH p B H J) ∧ Pk (some (p, c, T)) (n + k) (joinB p B H J) (joinH p B H J) := by
  obtain ⟨hpen, bp, hT, hTb, hTu, ys, hcb⟩ := pk
  obtain ⟨t, l, xs, h1, h2, h3⟩ := id hpen
  have cp : c ≠ p := fun z => by rw [z, h1] at h2; cases h2
  have penC : Pen (cutH p B H) p c n := by
    refine ⟨t, l, xs, by rw [cut_p]; exact h1, ?_, h3⟩
    unfold cutH
    rw [if_neg cp, hcb]
    have := sb _ _ hcb
    rw [h2] at this
    cases this
    rfl
  obtain ⟨t2, l2, xs2, g1, g2, g3⟩ := hg.2 n penC
  have hcJ : J c = some (.lst (xs.map V.int)) := by
    refine hg.1 _ _ ?_ trivial
    obtain ⟨_, _, ys2, _, q2, _⟩ := penC
    unfold cutH
    rw [if_neg cp, hcb]
    have := sb _ _ hcb
    rw [h2] at this
    cases this
    rfl
  have jH : ∀ {b : Addr} {o : HO}, b ≠ p → H b = some o → joinH p B H J b = some o := fun {b o} nb e => by
    unfold joinH
    rw [if_neg nb, e]
  have jp : joinH p B H J p = J p := if_pos rfl
  have jB : ∀ {b : Addr} {o : HO}, joinB p B H J b = some o → B b = some o ∨ (B b = none ∧ b ≠ p ∧ H b = none ∧ J b = some o ∧ isSq o = true) := fun {b o} e => by
    unfold joinB at e
    cases hb : B b with
    | some u =>
      rw [hb] at e
      exact .inl e
    | none =>
      rw [hb] at e
      by_cases z : b = p
      · simp only [z, if_true] at e
        cases e
      · simp only [z, if_false] at e
        cases hh : H b with
        | some u =>
          rw [hh] at e
          cases e
        | none =>
          rw [hh] at e
          obtain ⟨e1, e2⟩ := sqO_some e
          exact .inr ⟨rfl, z, rfl, e1, e2⟩
  have nB : ∀ {b : Addr} {o : HO}, B b = some o → b ≠ p := fun {b o} e z => by
    rw [z, bp] at e
    cases e
  refine ⟨⟨⟨fun b o nb _ e => jH nb e, fun o _ _ => ⟨.dK (penD c t2 l2), by rw [jp]; exact g1, True.intro⟩, fun b ps e => ⟨ps, jH (fun z => by rw [z, h1] at e; cases e) e⟩⟩, fun b o e => by unfold joinB; rw [e], fun b o e => ?_, fun x o u e eh _ => ?_, fun x ps e => ?_, fun x ps e => ?_⟩, ⟨t2, l2, xs2, by rw [jp]; exact g1, ?_, g3⟩, ?_, fun q hq => ?_, fun b ps e => ?_, fun b ps e => ?_, ys, by unfold joinB; rw [hcb]⟩
  · rcases jB e with e1 | ⟨e1, e2, e3, e4, e5⟩
    · exact jH (nB e1) (sb _ _ e1)
    · unfold joinH
      rw [if_neg e2, e3]
      show sqO (J b) = _
      rw [e4]
      unfold sqO
      simp only [e5, if_true]
  · rcases jB e with e1 | ⟨_, _, e3, _⟩
    · exact e1
    · rw [eh] at e3
      cases e3
  · rcases jB e with e1 | ⟨_, _, _, _, e5⟩
    · exact e1
    · cases e5
  · by_cases z : x = p
    · rw [z, jp, g1] at e
      cases e
    · unfold joinH at e
      rw [if_neg z] at e
      cases hh : H x with
      | some u =>
        rw [hh] at e
        cases e
        exact ⟨ps, rfl⟩
      | none =>
        rw [hh] at e
        have := (sqO_some e).2
        cases this
  · rw [jH cp h2, ← hcJ, g2]
  · unfold joinB
    rw [bp]
    simp
  · obtain ⟨ps, a1, a2, a3⟩ := hT q hq
    refine ⟨ps, jH (fun z => by rw [z, h1] at a1; cases a1) a1, a2, fun pos cv hc => ?_⟩
    obtain ⟨cc, b1, b2⟩ := a3 pos cv hc
    exact ⟨cc, b1, jH (fun z => by rw [z, h1] at b2; cases b2) b2⟩
  · rcases jB e with e1 | ⟨_, _, _, _, e5⟩
    · exact hTb _ _ e1
    · cases e5
  · by_cases z : b = p
    · rw [z, jp, g1] at e
      cases e
    · unfold joinH at e
      rw [if_neg z] at e
      cases hh : H b with
      | some u =>
        rw [hh] at e
        cases e
        exact hTu b ps hh
      | none =>
        rw [hh] at e
        have := (sqO_some e).2
        cases this
/-- a datum that the callee tells -/
theorem join_rd (hex : Ex (cutH p B H) J) (hJp : ∃ kvs, J p = some (.dK kvs)) (hfr : ∀ b u, H b = some u → cutH p B H b = none → J b = none) (sb : Same B H) {a : Addr} {o : HO} (e : J a = some o) (sq : isSq o = true) : joinB p B H J a = some o := by
  have nap : a ≠ p := fun z => by
    obtain ⟨kvs, g⟩ := hJp
    rw [z, g] at e
    cases e
    cases sq
  have cb : cutH p B H a = sqO (B a) := if_neg nap
  cases hb : B a with
  | some u =>
    rw [hb] at cb
    by_cases s : isSq u = true
    · have cb2 : cutH p B H a = some u := by
        rw [cb]
        unfold sqO
        simp only [s, if_true]
      have := hex _ _ cb2 (by cases u <;> first | trivial | cases s)
      rw [e] at this
      unfold joinB
      rw [hb]
      exact this.symm
    · have cb2 : cutH p B H a = none := by
        rw [cb]
        unfold sqO
        simp only [s, if_false]
        rfl
      rw [hfr a u (sb _ _ hb) cb2] at e
      cases e
  | none =>
    rw [hb] at cb
    cases hh : H a with
    | some u =>
      rw [hfr a u hh cb] at e
      cases e
    | none =>
      unfold joinB
      rw [hb]
      simp only [nap, if_false, hh]
      rw [e]
      unfold sqO
      simp only [sq, if_true]
mutual
/-- numbers, texts, and tuples of such -/
def flatT : PyData → Bool
  | .list _ => false
  | .dict _ => false
  | .tuple ds => flatTs ds
  | _ => true
def flatTs : List PyData → Bool
  | [] => true
  | d :: ds => flatT d && flatTs ds
end
theorem len_sq {K : PySem.W.Frag} (hl : LenOk J) {a : Addr} {xs : List V} (h : SqT K J a xs) : xs.length ≤ sizeLine := by
  rcases h with (h | ⟨o, h⟩) | ⟨o, its, n, _, _, _, hz, r⟩
  · exact hl _ _ h
  · exact hl _ _ h
  · rw [r.length]
    simpa using hz
theorem sq_join {K : PySem.W.Frag} (hex : Ex (cutH p B H) J) (hJp : ∃ kvs, J p = some (.dK kvs)) (hfr : ∀ b u, H b = some u → cutH p B H b = none → J b = none) (sb : Same B H) {a : Addr} {xs : List V} (h : SqT K J a xs) : SqT K (joinB p B H J) a xs := by
  rcases h with (h | ⟨o, h⟩) | h
  · exact .inl (.inl (join_rd hex hJp hfr sb h rfl))
  · exact .inl (.inr ⟨o, join_rd hex hJp hfr sb h rfl⟩)
  · exact .inr h
mutual
theorem dd_join {K : PySem.W.Frag} (hl : LenOk J) (hex : Ex (cutH p B H) J) (hJp : ∃ kvs, J p = some (.dK kvs)) (hfr : ∀ b u, H b = some u → cutH p B H b = none → J b = none) (sb : Same B H) :
    ∀ {v : V} {d : PyData}, Dp K J v d → flatT d = true → Dd K (joinB p B H J) v d
  | _, _, .non, _ => .non
  | _, _, .bl b, _ => .bl b
  | _, _, .int i, _ => .int i
  | _, _, .str x, _ => .str x
  | _, _, .lst h a, z => by cases z
  | _, _, .tup h a, z => .tup (sq_join hex hJp hfr sb h) (dda_join hl hex hJp hfr sb a z) (len_sq hl h)
theorem dda_join {K : PySem.W.Frag} (hl : LenOk J) (hex : Ex (cutH p B H) J) (hJp : ∃ kvs, J p = some (.dK kvs)) (hfr : ∀ b u, H b = some u → cutH p B H b = none → J b = none) (sb : Same B H) :
    ∀ {vs : List V} {ds : List PyData}, DpAll K J vs ds → flatTs ds = true → DdA K (joinB p B H J) vs ds
  | _, _, .nil, _ => .nil
  | _, _, .cons a b, z => by
    have z' := Bool.and_eq_true_iff.mp z
    exact .cons (dd_join hl hex hJp hfr sb a z'.1) (dda_join hl hex hJp hfr sb b z'.2)
end
end
end Fv
set_option maxRecDepth 100000
set_option maxHeartbeats 4000000
/-! repr; a law's end where it is known that nothing is being shown, with tables of code objects. -/
namespace Fv
open PySem PySem.Spec PyProof.Rows L2 Gb
/-! ### repr -/
def rRepr (K : PySem.W.Frag) : List V → Hp → VK → Prop := fun vs H Q => ∃ v d, vs = [v] ∧ Dp K H v d ∧ d.showable = true ∧ d.hasDict = false ∧ d.depth ≤ 40 ∧ d.shown.length ≤ sizeLine ∧ Q (.str d.shown) H
/-- what repr can show -/
structure Shows (d : PyData) : Prop where
  s : d.showable = true
  n : d.hasDict = false
  dp : d.depth ≤ 40
  l : d.shown.length ≤ sizeLine
  c : d.canLay0 = true
def wRepr (wa : WE) : WE := fun ρ n E Q => wa ρ n E fun d n' => match d with
  | .py d => Shows d ∧ Q (.py (.str d.shown)) n'
  | _ => False
section
variable {X : Cx} {G : Cg} {a : Expr} {ta : TE} {wa : WE} {p pos : Pos}
end
/-! ### a def that is run while nothing is being shown -/
structure FnG (P : Program) (w : World) (K : PySem.W.Frag) (mg : Str → Option Value) (base : Heap) (k : Nat) (f : Addr) (fd : FuncData) (ps : List Str) (sp : Sp) : Prop where
  run : ∀ (A : Around) (outer : List Env) (s : Shared) (H : Hp) (args : Args) (us : List Value) (vs : List V) (Q : VK) (E : XK), Room k A → A.guards = some [] → Env0 P w K mg base A outer s H → BindsTo s fd args (ps.zip us) → Vals vs us → vs.length = ps.length → sp vs H Q E →
    codeAny (model P w) A (.call (.ref f) args) (CR (L2.CX P w) outer P w H s Q E) s
/-! ### the end -/
section
variable {P : Program} {w : World} {K : PySem.W.Frag} {mg mb : Str → Option Value} {s : Shared} {a fa : Addr} {cs : List (Addr × Addr)} {vs : List Value} {ns : List Int} {H : Hp}
/-- what is tracked at the start: the script, known; the tables, empty -/
structure Start (K : PySem.W.Frag) (H : Hp) (a : Addr) (cs : List (Addr × Addr)) (ob : Obj) (ns : List Int) : Prop where
  tab : ∀ p ∈ cs, H p.2 = some (.tbl #[])
  at_ : ∀ b u, H b = some u → (b = a ∧ u = .frz ob (.lst (ns.map V.int)) ∧ K.lookup a = none) ∨ (b ∈ cs.map (·.2) ∧ u = .tbl #[])
  sq : SqL K H a (ns.map V.int)
end
end Fv
set_option maxRecDepth 100000
set_option maxHeartbeats 4000000
/-! Sets of up to 75 unlike tuples. -/
namespace Fv
open PySem PySem.Spec PyProof.Rows L2 Gb
section
variable {P : Program} {w : World} {A : Around} {E : Value → Shared → Prop} {s : Shared} {a : Addr} {L : List (Addr × List Int)} {t : SetTable}
/-- the set at a, whatever its entries' array -/
structure Big (P : Program) (w : World) (h : Heap) (a : Addr) (L : List (Addr × List Int)) (t : SetTable) : Prop where
  it : ∃ o es ep, h.get? a = some o ∧ o.ExactSet ∧ o.data = .set es ep t ∧ es.toList = rowsOf P w L
  un : (L.map (·.2)).Nodup ∧ ∀ p ∈ L, IsT P w h p.2 p.1
  tb : TabOk t (L.map fun p => thash P w p.2)
  fl : t.plain = true ∧ (w.params.followText "set-order" = true ∨ t.led = true)
  rm : L.length * 5 < t.mask * 3
theorem Big.of {h : Heap} {es : Array (Int × Value)} {ep : Nat} (R : SetTR P w h a L es ep t) : Big P w h a L t := by
  obtain ⟨o, h1, h2, h3⟩ := R.ob
  exact ⟨⟨o, es, ep, h1, h2, h3, R.rows⟩, ⟨R.nd, R.tup⟩, R.tab, ⟨R.plain, R.led⟩, R.room⟩
theorem Big.tr {h : Heap} (R : Big P w h a L t) (hl : L.length < 64) : ∃ es ep, SetTR P w h a L es ep t := by
  obtain ⟨o, es, ep, h1, h2, h3, h4⟩ := R.it
  exact ⟨es, ep, { ob := ⟨o, h1, h2, h3⟩, rows := h4, tab := R.tb, nd := R.un.1, tup := R.un.2, plain := R.fl.1, led := R.fl.2, room := R.rm, few := hl }⟩
theorem rows_size {es : Array (Int × Value)} (h : es.toList = rowsOf P w L) : es.size = L.length := by
  have e := congrArg List.length h
  simpa [rowsOf] using e
theorem rows_at {es : Array (Int × Value)} (h : es.toList = rowsOf P w L) {i : Nat} {p : Addr × List Int} (e : L[i]? = some p) : es[i]? = some (thash P w p.2, Value.ref p.1) := by
  have e1 : es.toList[i]? = some (thash P w p.2, Value.ref p.1) := by
    rw [h]
    simp [rowsOf, e]
  simpa using e1
theorem tb_fits {es : Array (Int × Value)} (T : TabOk t (L.map fun p => thash P w p.2)) (h : es.toList = rowsOf P w L) (hr : L.length * 5 < t.mask * 3) : t.fits es.size = true := by
  have e1 := T.sz
  have e2 := rows_size h
  simp only [List.length_map] at e1
  unfold SetTable.fits SetTable.fill
  rw [T.dm]
  simp only [Bool.and_eq_true, beq_iff_eq, decide_eq_true_eq, List.size_toArray, List.length_nil]
  omega
/-- where a way is behind c steps -/
abbrev wy (t : SetTable) (h : Int) (c : Nat) : SetTable.Probe := nth t.mask (runAt t.mask (SetTable.bits h % (t.mask + 1)) (SetTable.bits h)) c
theorem wy_plus (t : SetTable) (h : Int) (c q : Nat) : nth t.mask (wy t h c) q = wy t h (c + q) := (nth_add t.mask c _ q).symm
theorem nth_nod (m : Nat) : ∀ (n : Nat) (p : SetTable.Probe), p.dummy = none → (nth m p n).dummy = none
  | 0, _, h => h
  | n + 1, p, h => nth_nod m n (adv m p) (by unfold adv; split <;> exact h)
/-- the place of i isn't met from c on before d -/
def Unmet (L : List (Addr × List Int)) (t : SetTable) (h : Int) (k : List Int) (c d : Nat) : Prop := ∀ (c' i : Nat) (p : Addr × List Int), c ≤ c' → c' < d → L[i]? = some p → p.2 = k → t.place.toList[i]? ≠ some (wy t h c').j
theorem met_next (T : TabOk t (L.map fun p => thash P w p.2)) {ha : Nat → Int} (hes : ∀ (i : Nat) (p : Addr × List Int), L[i]? = some p → ha i = thash P w p.2) {k : List Int} {K c : Nat} (hKf : K < 10 * SetTable.turns t.mask) (hc : c ≤ K)
    (hK : (wy t (thash P w k) K).j ∉ t.place.toList) (hb : ∀ c, c < K → (wy t (thash P w k) c).j ∈ t.place.toList) :
    (∃ q i p, c ≤ q ∧ q < K ∧ L[i]? = some p ∧ t.place.toList[i]? = some (wy t (thash P w k) q).j ∧ Unmet L t (thash P w k) k c q ∧ t.probe ha (thash P w k) (wy t (thash P w k) c) = some (.candidate (wy t (thash P w k) q).j i (wy t (thash P w k) (q + 1)))) ∨
    (Unmet L t (thash P w k) k c K ∧ t.probe ha (thash P w k) (wy t (thash P w k) c) = some (.empty (wy t (thash P w k) K).j none)) := by
  have un : ∀ d, (∀ k' i', k' < d → t.place.toList[i']? = some (nth t.mask (wy t (thash P w k) c) k').j → ha i' ≠ thash P w k) → Unmet L t (thash P w k) k c (c + d) := by
    intro d hno c' i p h1 h2 h3 h4 h5
    refine hno (c' - c) i (by omega) ?_ ?_
    · rw [wy_plus, show c + (c' - c) = c' from by omega]
      exact h5
    · rw [hes i p h3, h4]
  have sp := go_spec t T.ris T.dm ha (thash P w k) (10 * SetTable.turns t.mask) (K - c) (wy t (thash P w k) c) (nth_nod _ c _ rfl) (by omega) (fun q hq => by rw [wy_plus]; exact hb _ (by omega)) (by rw [wy_plus, show c + (K - c) = K from by omega]; exact hK)
  rcases sp with ⟨q, i, hq, hi, _, hno, e⟩ | ⟨hno, e⟩
  · left
    rw [wy_plus] at hi
    rw [wy_plus, wy_plus] at e
    have hlt : i < L.length := by
      have z := (List.getElem?_eq_some_iff.mp hi).1
      have z2 := T.sz
      simp only [List.length_map] at z2
      simp only [Array.length_toList] at z
      omega
    exact ⟨c + q, i, L[i], by omega, by omega, List.getElem?_eq_getElem hlt, hi, un q hno, e⟩
  · right
    rw [wy_plus, show c + (K - c) = K from by omega] at e
    have h1 := un (K - c) hno
    rw [show c + (K - c) = K from by omega] at h1
    exact ⟨h1, e⟩
/-- THE SEARCH -/
theorem big_find (R : Big P w s.heap a L t) {x : Addr} {k : List Int} (hx : IsT P w s.heap k x) (hu : A.units < cLine) {K : Nat} (hKf : K < 10 * SetTable.turns t.mask) (hK : (wy t (thash P w k) K).j ∉ t.place.toList)
    (hb : ∀ c, c < K → (wy t (thash P w k) c).j ∈ t.place.toList) {Q : SetFound → Shared → Prop} (hin : k ∈ L.map (·.2) → Q (.there none) s) (hout : k ∉ L.map (·.2) → Q (.free (wy t (thash P w k) K).j false) s) :
    ∀ (f c : Nat) (st : Option SetTable.Probe), st.getD (t.probeStart (thash P w k)) = wy t (thash P w k) c → c ≤ K → K < f + c → (∀ (i : Nat) p, L[i]? = some p → p.2 = k → ∃ c', c ≤ c' ∧ c' < K ∧ t.place.toList[i]? = some (wy t (thash P w k) c').j) →
      wpAny (model P w) A (setSearchFrom a (.ref x) (thash P w k) true f st) Q E s := by
  obtain ⟨o, es, ep, ho, hex, hd, hr⟩ := R.it
  have fits := tb_fits R.tb hr R.rm
  have hgw : ¬ t.gaveWay = true := by
    unfold SetTable.gaveWay
    rw [mask_odd R.tb.mok]
    decide
  have hes : ∀ (i : Nat) (p : Addr × List Int), L[i]? = some p → (fun i => (es[i]?.map (·.1)).getD 0) i = thash P w p.2 := fun i p h => by
    show (es[i]?.map (·.1)).getD 0 = _
    rw [rows_at hr h]
    rfl
  intro f
  induction f with
  | zero => intro c st _ hc hf _; omega
  | succ f ih =>
    intro c st hst hc hf hre
    rw [setSearchFrom_succ]
    refine wpAny_bind (wpAny_setState_of ho hd fits ?_)
    dsimp only
    refine wp_if_neg hgw ?_
    try refine wpAny_bind (wpAny_pure ?_)
    rw [hst]
    rcases met_next R.tb hes hKf hc hK hb with ⟨q, i, p, hcq, hqK, hp, hi, hun, e⟩ | ⟨hun, e⟩
    · rw [e]
      dsimp only
      have hpm := List.mem_of_getElem? hp
      have after : wpAny (model P w) A (searchRest a (.ref x) (thash P w k) true f es t (wy t (thash P w k) q).j i (wy t (thash P w k) (q + 1))) Q E s := by
        unfold searchRest
        rw [rows_at hr hp]
        dsimp only
        refine wpAny_bind (wpAny_holding (wpAny_eqBool_tuple hu (R.un.2 p hpm) hx ?_))
        refine wpAny_bind (wpAny_setState_of ho hd fits ?_)
        dsimp only
        rcases Classical.em (p.2 = k) with ek | nk
        · exact wp_if_pos (by simp [ek]) (wpAny_pure (hin (ek ▸ List.mem_map_of_mem hpm)))
        · refine wp_if_neg (by simp [nk]) ?_
          try refine wpAny_bind (wpAny_pure ?_)
          have live : t.slot (wy t (thash P w k) q).j = .live i := slot_live R.tb.ris hi
          have em : t.sameMemory t.moves t.mask = some true := sameMem t
          simp only [em, if_true, live, rows_at hr hp]
          refine wpAny_bind (wpAny_isSame_ref_self (wpAny_bind (wpAny_pure ?_)))
          simp only [if_true]
          refine wp_if_neg (by simp [nk]) ?_
          refine ih (q + 1) _ rfl (by omega) (by omega) fun i0 p0 h0 e0 => ?_
          obtain ⟨c', l1, l2, l3⟩ := hre i0 p0 h0 e0
          refine ⟨c', ?_, l2, l3⟩
          rcases Nat.lt_trichotomy c' q with z | z | z
          · exact absurd l3 (hun c' i0 p0 l1 z h0 e0)
          · subst z
            have live0 := slot_live R.tb.ris l3
            rw [live] at live0
            injection live0 with ei
            rw [← ei, hp] at h0
            cases h0
            exact absurd e0 nk
          · omega
      rcases Bool.eq_false_or_eq_true t.led with hl | hl
      · refine wp_if_neg (by simp [hl]) ?_
        try refine wpAny_bind (wpAny_pure ?_)
        exact after
      · refine wp_if_pos (by simp [hl]) (wpAny_bind (seen_tup hx (fun y hy => ?_) ?_))
        · obtain ⟨z, hz, rfl⟩ := List.mem_map.mp hy
          have hz2 : z ∈ es.toList := by
            have hz1 : z ∈ es ∧ z.1 = thash P w k := by simpa using hz
            simpa using hz1.1
          rw [hr] at hz2
          obtain ⟨p2, hp2, rfl⟩ := List.mem_map.mp hz2
          exact ⟨p2.2, p2.1, rfl, R.un.2 p2 hp2⟩
        · refine wp_if_neg (by decide) ?_
          try refine wpAny_bind (wpAny_pure ?_)
          exact after
    · rw [e]
      dsimp only
      refine wpAny_pure (hout fun hm => ?_)
      obtain ⟨p0, m0, e0⟩ := List.mem_map.mp hm
      obtain ⟨i0, h0⟩ := List.mem_iff_getElem?.mp m0
      obtain ⟨c', l1, l2, l3⟩ := hre i0 p0 h0 e0
      exact hun c' i0 p0 l1 l2 h0 e0 l3
/-- the 64th tuple and the next ones: no table is laid anew -/
theorem big_more (R : Big P w s.heap a L t) {x : Addr} {k : List Int} (hx : IsT P w s.heap k x) (hu : A.units < cLine) (h63 : 63 ≤ L.length) (h75 : L.length ≤ 75) {Q : Bool → Shared → Prop}
    (hQ : ∀ b h' L' t', Heap.SameBut a s.heap h' → Big P w h' a L' t' → (k ∈ L.map (·.2) → L' = L) → (k ∉ L.map (·.2) → L'.Perm ((x, k) :: L)) → Q b { s with heap := h' }) : wpAny (model P w) A (setAddHashed a (.ref x) (thash P w k)) Q E s := by
  have hm127 : t.mask = 127 := by
    have := R.rm
    rcases R.tb.mok with e | e | e <;> omega
  obtain ⟨o, es, ep, ho, hex, hd, hr⟩ := R.it
  have fits := tb_fits R.tb hr R.rm
  have room := R.rm
  obtain ⟨K, hKf, hK, hb⟩ := R.tb.first (by simp only [List.length_map]; omega) (thash P w k)
  unfold setAddHashed
  refine wpAny_holding ?_
  rw [show (100000 : Nat) = 99999 + 1 from rfl, setAddHashedIn_succ]
  refine wpAny_bind (wpAny_setState_of ho hd fits ?_)
  dsimp only
  refine wp_if_neg (by simp [byScan, Value.scannable]) ?_
  try refine wpAny_bind (wpAny_pure ?_)
  have hKs : K < 100000 := by
    have e : SetTable.turns t.mask = SetTable.turns 127 := by rw [hm127]
    rw [e] at hKf
    have : 10 * SetTable.turns 127 ≤ 100000 := by decide
    omega
  unfold setSearch
  refine wpAny_bind (big_find R hx hu hKf hK hb (fun hin => ?_) (fun hout => ?_) 100000 0 none rfl (Nat.zero_le _) (by omega) fun i p hp ek => ?_)
  · exact wpAny_pure (hQ false s.heap L t (Heap.SameBut.refl a s.heap) R (fun _ => rfl) fun z => absurd hin z)
  · dsimp only
    refine wpAny_bind (wpAny_setState_of ho hd fits ?_)
    dsimp only
    obtain ⟨g1, g2, g3, g4, g5, g6, _, _, g9⟩ := R.tb.put hK hb
    have pl : (t.put (way t.mask (thash P w k) K)).1.plain = true := g6.trans R.fl.1
    have put1 : (t.put (way t.mask (thash P w k) K)).1.tooFull = false := by
      unfold SetTable.tooFull
      rw [g9, g4, hm127]
      simp only [List.length_map, decide_eq_false_iff_not]
      omega
    rcases ept : t.put (way t.mask (thash P w k) K) with ⟨t1, pp⟩
    rw [ept] at g1 g3 g4 g5 pl put1
    dsimp only at g1 g3 g4 g5 pl put1 ⊢
    first
      | (refine wpAny_bind ?_; refine wp_if_pos pl ?_; refine hashBy_tup hx ?_)
      | refine wp_if_pos pl (wpAny_bind (hashBy_tup hx ?_))
    simp only [if_true]
    have pm := put_perm L pp (x, k)
    have hin : (SetTable.insertAt es pp (thash P w k, Value.ref x)).toList = rowsOf P w (L.take pp ++ (x, k) :: L.drop pp) := by
      rw [SetTable.toList_insertAt, rows_put, hr]
    have htb : TabOk t1 ((L.take pp ++ (x, k) :: L.drop pp).map fun p => thash P w p.2) := by
      have e : (L.take pp ++ (x, k) :: L.drop pp).map (fun p => thash P w p.2) = (L.map fun p => thash P w p.2).take pp ++ thash P w k :: (L.map fun p => thash P w p.2).drop pp := by
        simp
      rw [e, g1]
      exact g3
    have hlen : (L.take pp ++ (x, k) :: L.drop pp).length = L.length + 1 := pm.length_eq
    have hsz := rows_size hin
    rw [hlen] at hsz
    refine wpAny_bind (wpAny_storeSet_of ho hd ?_ (by rw [hsz, sizeLine_eq]; omega))
    have sb : Heap.SameBut a s.heap (s.heap.update a (Obj.putSet (SetTable.insertAt es pp (thash P w k, Value.ref x)) t1)) := Heap.SameBut.update ..
    have ho1 := store_at (es' := SetTable.insertAt es pp (thash P w k, Value.ref x)) (t' := t1) ho hd
    have nd1 : ((L.take pp ++ (x, k) :: L.drop pp).map (·.2)).Nodup := (pm.map (·.2)).nodup_iff.mpr (List.nodup_cons.mpr ⟨hout, R.un.1⟩)
    have R1 : Big P w (s.heap.update a (Obj.putSet (SetTable.insertAt es pp (thash P w k, Value.ref x)) t1)) a (L.take pp ++ (x, k) :: L.drop pp) t1 := by
      refine ⟨⟨_, _, _, ho1, ⟨hex.1, hex.2.1, hex.2.2⟩, rfl, hin⟩, ⟨nd1, fun p hp => ?_⟩, htb, ⟨pl, by rw [g5]; exact R.fl.2⟩, by rw [hlen, g4, hm127]; omega⟩
      rcases List.mem_cons.mp (pm.mem_iff.mp hp) with rfl | hp
      · exact isT_same hx ho hd sb
      · exact isT_same (R.un.2 p hp) ho hd sb
    first
      | refine wp_if_neg (by simp [put1]) ?_
      | (refine wpAny_bind ?_; refine wp_if_neg (by simp [put1]) ?_; refine wpAny_pure ?_)
    exact wpAny_pure (hQ true _ _ t1 sb R1 (fun z => absurd z hout) fun _ => pm)
  · have hi : (L.map fun p => thash P w p.2)[i]? = some (thash P w k) := by
      rw [List.getElem?_map, hp, ← ek]
      rfl
    have hil : i < t.place.toList.length := by
      have z := (List.getElem?_eq_some_iff.mp hp).1
      have z2 := R.tb.sz
      simp only [List.length_map] at z2
      rw [Array.length_toList]
      omega
    obtain ⟨c, hc, e⟩ := R.tb.before hK hi (List.getElem?_eq_getElem hil)
    exact ⟨c, Nat.zero_le _, hc, by rw [List.getElem?_eq_getElem hil]; exact congrArg some e.symm⟩
/-- ADDING, up to 76 in all -/
theorem big_add (R : Big P w s.heap a L t) {x : Addr} {k : List Int} (hx : IsT P w s.heap k x) (hu : A.units < cLine) (h75 : L.length ≤ 75) {Q : Bool → Shared → Prop}
    (hQ : ∀ b h' L' t', Heap.SameBut a s.heap h' → Big P w h' a L' t' → (k ∈ L.map (·.2) → L' = L) → (k ∉ L.map (·.2) → L'.Perm ((x, k) :: L)) → Q b { s with heap := h' }) : wpAny (model P w) A (setAddHashed a (.ref x) (thash P w k)) Q E s := by
  rcases Nat.lt_or_ge L.length 63 with c | c
  · obtain ⟨es, ep, R2⟩ := R.tr (by omega)
    exact add_at R2 hx hu (by omega) fun b h' L' es' ep' t' z R' z1 z2 => hQ b h' L' t' z (.of R') z1 z2
  · exact big_more R hx hu c h75 hQ
end
end Fv
set_option maxRecDepth 100000
set_option maxHeartbeats 4000000
/-! set(xs), len(set(xs)): lists of tuples of ints with up to 75 unlike ones. -/
namespace Fv
open PySem PySem.Spec PyProof.Rows L2 Gb
abbrev newSet (w : World) : Obj := { cls := .type "set", dict := none, data := .set #[] 0 (.fresh 0 0 (!w.params.followText "set-order")) }
abbrev Kt := List (Addr × List Int)
/-- how many unlike ones there may be -/
def Most (ks : Kt) : Prop := ∀ D : List (List Int), D.Nodup → (∀ k ∈ D, k ∈ ks.map (·.2)) → D.length ≤ 75
/-- the set S has what the first i of the list have -/
structure Fed (P : Program) (w : World) (ks : Kt) (S : Addr) (i : Nat) (h : Heap) : Prop where
  ex : ∃ L t, Big P w h S L t ∧ (∀ p ∈ L, p ∈ ks.take i) ∧ ∀ p ∈ ks.take i, p.2 ∈ L.map (·.2)
section
variable {P : Program} {w : World} {A : Around} {E : Value → Shared → Prop} {s : Shared} {S : Addr} {ks : Kt} {i : Nat}
theorem Big.kept {h h' : Heap} {L : Kt} {t : SetTable} (R : Big P w h S L t) (ha : ∀ o, h.get? S = some o → h'.get? S = some o) (ht : ∀ p ∈ L, IsT P w h' p.2 p.1) : Big P w h' S L t := by
  obtain ⟨o, es, ep, h1, r⟩ := R.it
  exact ⟨⟨o, es, ep, ha o h1, r⟩, ⟨R.un.1, ht⟩, R.tb, R.fl, R.rm⟩
theorem Fed.none {h : Heap} (e : h.get? S = some (newSet w)) : Fed P w ks S 0 h := by
  refine ⟨[], _, .of (setTR_fresh e), fun p hp => ?_, fun p hp => ?_⟩
  · cases hp
  · simp at hp
theorem Fed.kept {h h' : Heap} (R : Fed P w ks S i h) (ha : ∀ o, h.get? S = some o → h'.get? S = some o) (ht : ∀ p ∈ ks, IsT P w h' p.2 p.1) : Fed P w ks S i h' := by
  obtain ⟨L, t, B, h1, h2⟩ := R.ex
  exact ⟨L, t, B.kept ha fun p hp => ht p (List.mem_of_mem_take (h1 p hp)), h1, h2⟩
/-- one more of the list is added -/
theorem fed_add (R : Fed P w ks S i s.heap) (hm : Most ks) {p : Addr × List Int} (hp : ks[i]? = some p) (hx : IsT P w s.heap p.2 p.1) (hu : A.units < cLine) {Q : Bool → Shared → Prop}
    (hQ : ∀ b h', Heap.SameBut S s.heap h' → Fed P w ks S (i + 1) h' → Q b { s with heap := h' }) : wpAny (model P w) A (setAddHashed S (.ref p.1) (thash P w p.2)) Q E s := by
  obtain ⟨L, t, B, h1, h2⟩ := R.ex
  have h75 : L.length ≤ 75 := by
    have z := hm (L.map (·.2)) B.un.1 fun k hk => by
      obtain ⟨q, hq, rfl⟩ := List.mem_map.mp hk
      exact List.mem_map_of_mem (List.mem_of_mem_take (h1 q hq))
    rwa [List.length_map] at z
  have tk := take_next hp
  refine big_add B hx hu h75 fun b h' L' t' sb B' c1 c2 => hQ b h' sb ⟨L', t', B', ?_, ?_⟩
  · intro q hq
    rw [tk]
    rcases Classical.em (p.2 ∈ L.map (·.2)) with c | c
    · rw [c1 c] at hq
      exact List.mem_append_left _ (h1 q hq)
    · rcases List.mem_cons.mp ((c2 c).mem_iff.mp hq) with rfl | z
      · exact List.mem_append_right _ (List.mem_singleton.mpr rfl)
      · exact List.mem_append_left _ (h1 q z)
  · intro q hq
    rw [tk] at hq
    rcases Classical.em (p.2 ∈ L.map (·.2)) with c | c
    · rw [c1 c]
      rcases List.mem_append.mp hq with z | z
      · exact h2 q z
      · rw [List.mem_singleton.mp z]
        exact c
    · rw [((c2 c).map (·.2)).mem_iff, List.map_cons]
      rcases List.mem_append.mp hq with z | z
      · exact List.mem_cons_of_mem _ (h2 q z)
      · rw [List.mem_singleton.mp z]
        exact List.mem_cons_self
/-- the loop that feeds the set -/
theorem big_loop {I : Addr} {fp wr : List Addr} {G : Array GenState → Array GenState → Prop} {n : Nat} {Pv : Nat → Value → Prop} {St : Nat → Shared → Prop} {R : Result → Shared → Prop}
    (W : WalksS P w A.in1 I fp wr G n Pv St) (hSf : S ∉ fp) (hn : n = ks.length) (hm : Most ks) (hval : ∀ i v, Pv i v → ∃ p, ks[i]? = some p ∧ v = .ref p.1) {h0 : Heap} (hk : ∀ p ∈ ks, IsT P w h0 p.2 p.1) (hS0 : h0.get? S = none)
    (hw0 : ∀ b ∈ wr, h0.get? b = none) (hu : A.in1.units < cLine) : ∀ (d i : Nat) (s : Shared), i + d = n → St i s → (∀ b o, h0.get? b = some o → s.heap.get? b = some o) → Fed P w ks S i s.heap →
      (∀ s', Moved (S :: wr) G s s' → Fed P w ks S n s'.heap → (∀ b o, h0.get? b = some o → s'.heap.get? b = some o) → R (.ok (.ret .none)) s') → codeAny (model P w) A (.builtin "set.update.loop" ⟨[.ref S, .ref I], []⟩) R s := by
  have hSw : S ∉ wr := fun z => hSf (W.sub _ z)
  have hmono : ∀ b ∈ wr, b ∈ S :: wr := fun b z => List.mem_cons_of_mem _ z
  have old : ∀ {s s' : Shared}, Moved wr G s s' → (∀ b o, h0.get? b = some o → s.heap.get? b = some o) → ∀ b o, h0.get? b = some o → s'.heap.get? b = some o := fun mv z b o e =>
    mv.heap b o (fun y => by rw [hw0 b y] at e; cases e) (z b o e)
  have tups : ∀ {h : Heap}, (∀ b o, h0.get? b = some o → h.get? b = some o) → ∀ p ∈ ks, IsT P w h p.2 p.1 := fun z p hp => isT_keep (hk p hp) z
  intro d
  induction d with
  | zero =>
    intro i s e st z F hR
    obtain rfl : i = n := by omega
    refine codeAny_builtin PyProof.Rows.F.entry_set_update_loop ?_
    rw [Around.under_plainId PyProof.Rows.F.plain_set_update_loop _]
    show wpAny _ A.in1 (pyNext (.ref I) >>= _) _ _ s
    refine wpAny_bind (W.done s _ _ st fun s' mv => ?_)
    show wpAny _ A.in1 (ret Value.none) _ _ s'
    exact wpAny_pure (hR s' (mv.mono hmono) (F.kept (fun o e => mv.heap S o hSw e) (tups (old mv z))) (old mv z))
  | succ d ih =>
    intro i s e st z F hR
    refine codeAny_builtin PyProof.Rows.F.entry_set_update_loop ?_
    rw [Around.under_plainId PyProof.Rows.F.plain_set_update_loop _]
    show wpAny _ A.in1 (pyNext (.ref I) >>= _) _ _ s
    refine wpAny_bind (W.item i s _ _ (by omega) st fun v s1 hv st1 mv => ?_)
    obtain ⟨p, hp, rfl⟩ := hval i v hv
    have z1 := old mv z
    have hx := tups z1 p (List.mem_of_getElem? hp)
    show wpAny _ A.in1 (holding [Value.ref p.1] (setAdd S (.ref p.1)) >>= _) _ _ s1
    refine wpAny_bind (wpAny_holding ?_)
    unfold setAdd
    refine wpAny_holding (wpAny_bind (wpAny_pyHash_tuple hu hx ?_))
    refine fed_add (s := { s1 with toks := s1.toks + (p.2.length + 1) }) (F.kept (fun o e => mv.heap S o hSw e) (tups z1)) hm hp hx hu fun b h2 sb F2 => ?_
    have z2 : ∀ b o, h0.get? b = some o → h2.get? b = some o := fun b o y => (sb.2 b (fun c => by rw [c, hS0] at y; cases y)).trans (z1 b o y)
    refine wpAny_pure ⟨plainId_quiet PyProof.Rows.F.plain_set_update_loop _, ih (i + 1) _ (by omega) (W.frame _ s1 _ _ st1 (Nat.le_add_right _ _) fun b hb o y => ?_) z2 F2 fun s3 mv3 F3 z3 => ?_⟩
    · rw [sb.2 b (fun c : b = S => hSf (by rw [← c]; exact hb))]
      exact y
    · refine hR s3 (Moved.trans W.gtrans ((mv.mono hmono).then_heap (Nat.le_add_right _ _) fun b o hb y => ?_) mv3) F3 z3
      rw [sb.2 b (fun c : b = S => hb (by rw [c]; exact List.mem_cons_self))]
      exact y
/-- set(xs), xs a list of tuples of ints -/
theorem big_set {l : Addr} {items : Array Value} {Q : Value → Shared → Prop} (hh : A.handled = none) (hl : s.heap.IsList l items) (hit : items.toList = ks.map fun p => Value.ref p.1) (hk : ∀ p ∈ ks, IsT P w s.heap p.2 p.1) (hm : Most ks) (hu : A.units + 3 < cLine)
    (hQ : ∀ (h' : Heap) (tk : Nat), Fed P w ks s.heap.objs.size ks.length h' → (∀ b o, s.heap.get? b = some o → h'.get? b = some o) → Q (.ref s.heap.objs.size) { s with heap := h', toks := tk }) : wpAny (model P w) A (call (.type "set") [.ref l]) Q E s := by
  have hsize : items.size = ks.length := by
    have z := congrArg List.length hit
    rwa [Array.length_toList, List.length_map] at z
  obtain ⟨c, tl, hmro⟩ := F.called_set.mro
  have hmade := F.called_set.made
  have hsub := F.called_set.sub
  refine wpAny_call (codeAny_of_tree ?_)
  show wpAny _ _ (callAny (.type "set") _) _ _ _
  refine wpAny_pure ⟨Code.quiet_builtin _ (by decide +kernel), codeAny_builtin F.entry_type_call ?_⟩
  rw [Around.under_plain (weight_type_call_type "set" [.ref l] []) rfl]
  have h1 := F.called_set.notType
  have h2 := F.called_set.canCreate
  have hct := F.typeCall_set_1 (.ref l)
  repeat (any_goals (first | assumption | wp_step))
  have fresh : ∀ b, s.heap.objs.size ≤ b → s.heap.get? b = none := fun b hb => by
    rcases e : s.heap.get? b with _ | o
    · rfl
    · exact absurd (Heap.lt_size e) (Nat.not_lt.mpr hb)
  refine codeAny_mono (code_set_led1 (.ref l) (E := E) (Q₁ := fun v s₁ => v = .ref s.heap.objs.size ∧ s₁ = { s with heap := s.heap.push (newSet w) }) ⟨rfl, rfl⟩) fun r s₁ hr => ?_
  rcases r with e | fl
  · exact hr
  cases fl with
  | ret v =>
    obtain ⟨rfl, rfl⟩ := hr
    have at1 : (s.heap.push (newSet w)).get? s.heap.objs.size = some (newSet w) := Heap.get?_push_size _ rfl
    have ty1 : Shared.TypeIs { s with heap := s.heap.push (newSet w) } (.ref s.heap.objs.size) "set" := ⟨_, at1, rfl⟩
    have hli := F.called_set.init.lookup
    have hbi := F.called_set.init.bind (.ref s.heap.objs.size)
    repeat (any_goals (first | assumption | wp_step))
    refine codeAny_mono (codeAny_call_builtin (R := wants (fun r s₂ => r = .none ∧ ∃ h' tk, s₂ = { s with heap := h', toks := tk } ∧ Fed P w ks s.heap.objs.size ks.length h' ∧ ∀ b o, s.heap.get? b = some o → h'.get? b = some o) E) F.called_set.init.plain F.entry_set_init (check_set_init_1 ty1 ?_)) fun r₂ s₂ hr₂ => ?_
    · obtain ⟨ol, hol, hcl, nl, hdl⟩ := hl
      obtain ⟨ocls, odict, odata, oslots⟩ := ol
      simp only at hcl hdl
      subst hcl; subst hdl
      have hlt := Heap.lt_size hol
      have l1 : (s.heap.push (newSet w)).IsList l items := ⟨_, Heap.get?_push_of_some _ hol, rfl, nl, rfl⟩
      have hol' := Heap.get?_push_of_some (newSet w) hol
      have hsls := F.sub_list_set
      have hslf := F.sub_list_frozenset
      have hne : (Value.type "list" == Value.type "dict") = false := by decide
      unfold Builtin.«set.__init__» noKeywords Builtin.Frozenset.updateFrom
      generalize hPI : pyIter = PI
      wp_walk
      subst hPI
      refine wpAny_pyIter_list l1 (wpAny_bind (wpAny_runValue ?_))
      have hh3 : A.in1.in1.in1.handled = none := by simp [hh]
      have size1 : (s.heap.push (newSet w)).objs.size = s.heap.objs.size + 1 := Heap.size_push ..
      have hneI : l ≠ (s.heap.push (newSet w)).objs.size := by
        rw [size1]
        exact Nat.ne_of_lt (Nat.lt_succ_of_lt hlt)
      have hSf : s.heap.objs.size ∉ [(s.heap.push (newSet w)).objs.size, l] := by
        rw [size1]
        simp only [List.mem_cons, List.not_mem_nil, or_false, not_or]
        exact ⟨Nat.ne_of_lt (Nat.lt_succ_self _), Nat.ne_of_gt hlt⟩
      have hval : ∀ (i : Nat) (v : Value), items[i]? = some v → ∃ p, ks[i]? = some p ∧ v = .ref p.1 := fun i v hv => by
        have q : items.toList[i]? = some v := by rw [Array.getElem?_toList]; exact hv
        rw [hit, List.getElem?_map] at q
        rcases e : ks[i]? with _ | p
        · rw [e] at q
          cases q
        · rw [e] at q
          exact ⟨p, rfl, (Option.some.inj q).symm⟩
      refine big_loop ((Walks.list hh3 _ l hneI items).toS) hSf hsize hm hval hk (fresh _ (Nat.le_refl _)) (fun b hb => fresh b (by rw [List.mem_singleton.mp hb, size1]; omega)) hu items.size 0 _ (by omega)
        ⟨⟨_, Heap.get?_push_size _ rfl, rfl, rfl⟩, l1.push _⟩ (fun b o e => Heap.get?_push_of_some _ (Heap.get?_push_of_some _ e)) ?c0 ?c1
      case c0 => exact Fed.none (Heap.get?_push_of_some _ at1)
      case c1 =>
        intro s' mv F' z
        obtain ⟨h', g2, d', tk', os'⟩ := s'
        have eg : g2 = s.gens := mv.gens
        have ed : d' = s.drawn := mv.drawn
        have eo : os' = s.os := mv.os
        subst eg; subst ed; subst eo
        show wpAny _ _ _ _ _ _
        refine wpAny_pure ?_
        show wpAny _ _ (ret Value.none) _ _ _
        rw [hsize] at F'
        exact wpAny_pure ⟨rfl, h', tk', rfl, F', z⟩
    · rcases r₂ with e | fl₂
      · exact hr₂
      cases fl₂ with
      | ret r =>
        obtain ⟨rfl, h', tk, rfl, F', z⟩ := hr₂
        repeat (any_goals (first | assumption | wp_step))
        exact hQ _ _ F' z
      | _ => exact hr₂.elim
  | _ => exact hr.elim
end
section
variable {X : Cx} {G : Cg} {Kx : PySem.W.Frag} {a : Expr} {ta : TE} {p p2 q pos : Pos}
/-- len(set(xs)): how many unlike ones, D the unlike ones in any order -/
def tLenSetB (K : PySem.W.Frag) (ta : TE) : TE := fun σ H Q => ta σ H fun x H1 => ∃ (l : Addr) (ks : Kt) (D : List (List Int)), x = .ref l ∧ SqL K H1 l (ks.map fun z => V.ref z.1) ∧ (∀ z ∈ ks, SqT K H1 z.1 (z.2.map V.int)) ∧ D.Nodup ∧ (∀ k, k ∈ D ↔ k ∈ ks.map (·.2)) ∧ D.length ≤ 75 ∧ Q (.int D.length) H1
theorem pe_lenSetB (hc : X.calm = true) (hu : X.A.units + 64 < cLine) (hg : Gl X "len") (hm : X.mg "len" = none) (hg2 : Gl X "set") (hm2 : X.mg "set" = none) (ha : PE X a ta) (hK : X.K = Kx := by rfl)
    (na : starEach [a] X.env = (false, eval a X.env) :: starEach [] X.env := by rfl) : PE X (.Call (.Name "len" p) [.Call (.Name "set" p2) [a] [] q] [] pos) (tLenSetB Kx ta) := by
  subst hK
  refine ⟨fun pins s σ H Q I h => ?_⟩
  refine Call_ (ld_blt I hg hm boot_len ?_)
  refine PyProof.Rows.callWith_builtin1 (PyProof.Rows.args_cons ?_ rfl) rfl rfl
  refine Call_ (ld_blt I hg2 hm2 boot_set ?_)
  refine PyProof.Rows.callWith_type1 (PyProof.Rows.args_cons (thn (ha.run pins s σ H _ I h) fun v s1 ⟨x, H1, I1, r1, q1⟩ => PyProof.Rows.args_nil ?_) na) na rfl
  obtain ⟨l, ks, D, rfl, hl, hk, hnd, hmem, h75, q1⟩ := q1
  cases r1
  obtain ⟨its, rv, pl, hz⟩ := I1.list hl
  have most : Most ks := fun D' n' m' => Nat.le_trans (nd_len n' fun k z => (hmem k).mpr (m' k z)) h75
  refine big_set (P := X.prog) (w := X.w) (ks := ks) (I1.ok.hd hc) pl.isList (by simpa using refs_of_vals rv) (fun z hz => I1.isT (hk z hz)) most (by omega) fun h' tk F k => ?_
  refine PyProof.Rows.args_nil ?_
  obtain ⟨L, t, B, g1, g2⟩ := F.ex
  rw [List.take_length] at g1 g2
  have hL : L.length = D.length := by
    have e1 := nd_len B.un.1 fun k (z : k ∈ L.map (·.2)) => by
      obtain ⟨y, hy, rfl⟩ := List.mem_map.mp z
      exact (hmem _).mpr (List.mem_map_of_mem (g1 y hy))
    have e2 := nd_len hnd fun k z => by
      obtain ⟨y, hy, rfl⟩ := List.mem_map.mp ((hmem k).mp z)
      exact g2 y hy
    rw [List.length_map] at e1 e2
    omega
  obtain ⟨o, es, ep, ho, hex, hd, hr⟩ := B.it
  have hsz : es.size = D.length := (rows_size hr).trans hL
  have I2 : Inv X pins σ H1 { s1 with heap := h', toks := tk } := I1.kept k
  exact call_len_set ho hex hd (tb_fits B.tb hr B.rm) (by rw [hsz]; omega) ⟨.int D.length, H1, I2.tok _, ⟨_, by rw [hsz]⟩, q1⟩
end
end Fv
set_option maxRecDepth 100000
set_option maxHeartbeats 4000000
/-! More rules: statements as a script prints them, lists together, sets. -/
namespace Fv
open PySem PySem.Spec PyProof.Rows L2 Gb
section
variable {m : Bool} {X : Cx} {G : Cg} {a b c d e f o : Expr} {es rest : List Expr} {ta tb tc td te tk : TE} {wa wb wc wd we wy : WE} {pos p p2 p3 apos cpos tpos : Pos} {x y z : Str} {n : Nat} {t u tt tt1 : TT} {w v wt wt1 : WT} {wl wl2 : WL} {wn : WN} {wv wv2 wv3 : WV} {st : Stmt} {i j l : Nat}
/-! ### name = e -/
theorem bs_setV {pos' : Pos} (h : BV X G a ta wv) (hN : X.N.Nodup) (hi : X.N[i]? = some x) (hx : Loc X.env.scope x) (hs : swapsWith a (some (.Name x pos')) pos.line X.env = pure false := by rfl)
    (hf : X.fn x = true ∨ X.env.scope.names.lookup x = some .local := by first | exact .inl rfl | exact .inr rfl) : BS m X G (.Assign [.Name x pos'] a pos) (tAsg ta (gName i)) (sSet i wv) :=
  bs_set h (ps_set hN hi hx h.pe hs hf)
theorem bn_toE {wn : WN} (h : BN X G a ta wn) : BV X G a ta (wVE (wOfN wn)) := BE.toV h.e
/-- name += e, numbers -/
def sAug (i : Nat) (w : WE) : WS := fun ρ n E DB => match ρ[i]? with
  | some (.val (.py (.int z))) => w ρ n (E ρ) fun d n1 => (match d with
    | .py (.int y) => DB.nx (ρ.set i (.val (.py (.int (z + y))))) n1
    | _ => False)
  | _ => False
theorem bs_parV {px py pt : Pos} {kt k2 : Nat} {pt2 : Pos} (hN : X.N.Nodup) (ha : BV X G a ta wv) (hb : BV X G b tb wv2) (hc : X.calm = true) (hi : X.N[i]? = some x) (hj : X.N[j]? = some y) (hij : i ≠ j) (hx : X.env.scope.names.lookup x = some .local) (hy : X.env.scope.names.lookup y = some .local)
    (hw : swappedStores [.Tuple [.Name x px, .Name y py] kt pt] (.Tuple [a, b] k2 pt2) X.env = pure (some [x, y])) (he1 : starEach (a :: [b]) X.env = (false, eval a X.env) :: starEach [b] X.env := by rfl) (he2 : starEach (b :: []) X.env = (false, eval b X.env) :: starEach [] X.env := by rfl)
    (hs : swapsWithSole [.Tuple [.Name x px, .Name y py] kt pt] (.Tuple [a, b] k2 pt2) pos.line X.env = pure false := by rfl) : BS m X G (.Assign [.Tuple [.Name x px, .Name y py] kt pt] (.Tuple [a, b] k2 pt2) pos) (tPar i j (tCons ta (tCons tb tNil))) (sPar i j wv wv2) :=
  bs_par ha hb hij (ps_par hc hN hi hj hij hx hy (pa_cons ha.pe (pa_cons hb.pe pa_nil he2) he1) hw hs)
theorem bs_appendV (i : Nat) (ho : PE X o (tVar i)) (ha : BE X G a ta wa) (hK : X.K = G.K := by rfl) (h1 : attributeBase o "append" X.env (eval o X.env) = eval o X.env := by rfl)
    (h2 : ((backTo cpos (starEach (a :: []) X.env)).all (fun x => !x.1) && (backToKw cpos (keywordEach [] X.env)).all (fun x => x.1.isSome) && decide ((a :: []).length + ([] : List Keyword).length + (if ([] : List Keyword).isEmpty then 0 else 1) < 30)) = true := by rfl)
    (h3 : (apos.endLine == cpos.line) = true := by rfl) (h4 : starEach (a :: []) X.env = (false, eval a X.env) :: starEach [] X.env := by rfl) (h5 : (backTo cpos (starEach [] X.env)).any (·.1) = false := by rfl)
    (hs : swapsWith (.Call (.Attribute o "append" apos) [a] [] cpos) none pos.line X.env = pure false := by rfl) : BS m X G (.Expr (.Call (.Attribute o "append" apos) [a] [] cpos) pos) (tDrop (tBM G.K "list" rAppend (tVar i) (tCons ta tNil))) (sAppend i wa) :=
  bs_append i ha (ps_expr (pe_bmK PySem.F.plainAttrs_list PySem.F.slot_list_append PySem.F.type_list_append mt_append ho (pa_cons ha.pe pa_nil h4) hK h1 h2 h3 h4 h5) hs)
theorem bs_augIxV (i : Nat) {ppos : Pos} (ho : PE X o (tVar i)) (hb : BE X G b tb wb) (ha : BE X G a ta wa) (hK : X.K = G.K := by rfl) (h1 : ∀ ov iv new, augStore b ov iv new = (do holding [new, ov, iv] (setItem ov iv new); release [new, ov, iv] []; pure .next) := by intros; rfl) :
    BS m X G (.AugAssign (.Subscript o b tpos) .Add a ppos) (tAugS (tVar i) tb ta (rGetN G.K) (ipI fun i j => i + j) rSetL) (sAugIx2 i wb wa) :=
  bs_augIx i hb ha (ps_augIx ho hb.pe ha.pe hK h1)
end
end Fv
set_option maxRecDepth 100000
set_option maxHeartbeats 4000000
/-! Lists put together, len(set(..)), comprehensions that get a name. -/
namespace Fv
open PySem PySem.Spec PyProof.Rows L2 Gb
section
variable {m : Bool} {X : Cx} {G : Cg} {a b c d e f o : Expr} {es rest : List Expr} {ta tb tc td te tk : TE} {wa wb wc wd we wy : WE} {pos p p2 q q2 p3 apos cpos tpos : Pos} {x y z : Str} {n : Nat} {t u tt tt1 : TT} {w v wt wt1 : WT} {wl wl2 : WL} {wn : WN} {wv wv2 wv3 : WV} {st : Stmt} {i j l : Nat}
/-- xs + ys, lists -/
def wCat (wl wl2 : WL) : WN := fun ρ n E Q => wl ρ n E fun k ds n1 => wl2 ρ n1 E fun k2 es n2 => k = false ∧ k2 = false ∧ ds.length + es.length ≤ 100000 ∧ Q (ds ++ es) n2
theorem bn_cat (ha : BL X G a ta wl) (hb : BL X G b tb wl2) : BN X G (.BinOp a .Add b pos) (tOp rCat ta tb) (wCat wl wl2) :=
  ⟨pe_op op_cat ha.pe hb.pe, fun ρ σ n B H E Qd Q S hw xw k => ha.snd ρ σ n B H E _ _ S hw xw fun l vs kk ds n1 B1 H1 m1 pk1 hs1 hz hA q1 =>
    hb.snd ρ σ n1 B1 H1 E _ _ (S.step m1 pk1) q1 (xw.step m1) fun l2 us k2 es n2 B2 H2 m2 pk2 hs2 hz2 hA2 q2 => by
      obtain ⟨rfl, rfl, hn, q2⟩ := q2
      have h1 : H2 l = some (.lst vs) := hs1.step m2 pk1
      have h2 : H2 l2 = some (.lst us) := hs2
      have hlen : vs.length + us.length ≤ sizeLine := by
        rw [hA.len, hA2.len]
        exact line5 hn
      refine ⟨l, l2, vs, us, rfl, rfl, h1, h2, hlen, fun p hp => ?_⟩
      have m12 := m1.trans m2
      have mm := Mv.newOwn (pn := none) (o := .lst (vs ++ us)) m12.s hp
      exact k p _ _ n2 _ _ (m12.trans mm.of) (pk2.mv mm) (up_none m12 hp) (free_new (S.step m12 pk2) hp) upd_same (by rw [List.length_append]; exact hlen) ((hA.mono m2.b).app hA2) q2⟩
/-- xs * k, a list -/
def wRep (wl : WL) (wb : WE) : WN := fun ρ n E Q => wl ρ n E fun k ds n1 => wb ρ n1 E fun y n2 => match y with
  | .py (.int j) => k = false ∧ -(2 ^ 63) ≤ j ∧ j < 2 ^ 63 ∧ ds.length * j.toNat ≤ 100000 ∧ Q (List.replicate j.toNat ds).flatten n2
  | _ => False
theorem bn_rep (ha : BL X G a ta wl) (hb : BE X G b tb wb) : BN X G (.BinOp a .Mult b pos) (tOp rRep ta tb) (wRep wl wb) :=
  ⟨pe_op op_rep ha.pe hb.pe, fun ρ σ n B H E Qd Q S hw xw k => ha.snd ρ σ n B H E _ _ S hw xw fun l vs kk ds n1 B1 H1 m1 pk1 hs1 hz hA q1 =>
    hb.snd ρ σ n1 B1 H1 E _ _ (S.step m1 pk1) q1 (xw.step m1) fun y d n2 B2 H2 m2 pk2 r2 q2 => by
      split at q2
      · rename_i j
        have ey := dd_int r2
        subst ey
        obtain ⟨rfl, j1, j2, hn, q2⟩ := q2
        have h1 : H2 l = some (.lst vs) := hs1.step m2 pk1
        have hlen : vs.length * j.toNat ≤ sizeLine := by
          rw [hA.len]
          exact line5 hn
        refine ⟨l, j, vs, rfl, rfl, h1, j1, j2, hlen, fun p hp => ?_⟩
        have m12 := m1.trans m2
        have mm := Mv.newOwn (pn := none) (o := .lst (List.replicate j.toNat vs).flatten) m12.s hp
        refine k p _ _ n2 _ _ (m12.trans mm.of) (pk2.mv mm) (up_none m12 hp) (free_new (S.step m12 pk2) hp) upd_same ?_ ((hA.mono m2.b).rep _) q2
        rw [List.length_flatten, List.map_replicate, List.sum_replicate_nat, Nat.mul_comm]
        exact hlen
      · exact q2.elim⟩
/-- t * k, a tuple, k from 2 on -/
def bRepT : BOp := fun x y Q => match x, y with
  | .py (.tuple ds), .py (.int j) => ds ≠ [] ∧ 2 ≤ j ∧ j ≤ 1000 ∧ ds.length ≤ 90 ∧ Q (.py (.tuple (List.replicate j.toNat ds).flatten))
  | _, _ => False
/-! ### len(set(..)) -/
def wLenSet (wl : WL) : WE := fun ρ n E Q => wl ρ n E fun k ds n1 => k = false ∧ ∃ rows D : List (List Int), ds = rows.map (fun r => PyData.tuple (r.map PyData.int)) ∧ D.Nodup ∧ (∀ k, k ∈ D ↔ k ∈ rows) ∧ D.length ≤ 75 ∧ Q (.py (.int D.length)) n1
theorem rows_tups {K : PySem.W.Frag} {H : Hp} : ∀ {vs : List V} {rows : List (List Int)}, DdA K H vs (rows.map fun r => PyData.tuple (r.map PyData.int)) → ∃ ks : Kt, vs = ks.map (fun z => V.ref z.1) ∧ ks.map (·.2) = rows ∧ ∀ z ∈ ks, SqT K H z.1 (z.2.map V.int)
  | _, [], .nil => ⟨[], rfl, rfl, fun z hz => by cases hz⟩
  | _, r :: rs, .cons h hs => by
    obtain ⟨ks, rfl, e2, h3⟩ := rows_tups (rows := rs) hs
    obtain ⟨a, xs, rfl, hT, hA, _⟩ := dd_tup h
    have ex := ints_of hA
    subst ex
    refine ⟨(a, r) :: ks, rfl, by rw [List.map_cons, e2], fun z hz => ?_⟩
    rcases List.mem_cons.mp hz with rfl | hz
    · exact hT
    · exact h3 z hz
theorem be_lenSetB (hc : X.calm = true) (hu : X.A.units + 64 < cLine) (hg : Gl X "len") (hm : X.mg "len" = none) (hg2 : Gl X "set") (hm2 : X.mg "set" = none) (ha : BL X G a ta wl)
    (na : starEach [a] X.env = (false, eval a X.env) :: starEach [] X.env := by rfl) (hK : X.K = G.K := by rfl) : BE X G (.Call (.Name "len" p) [.Call (.Name "set" p2) [a] [] q] [] pos) (tLenSetB G.K ta) (wLenSet wl) :=
  ⟨pe_lenSetB hc hu hg hm hg2 hm2 ha.pe hK na, fun ρ σ n B H E Qd Q S hw xw k => ha.snd ρ σ n B H E _ _ S hw xw fun l vs kk ds n1 B1 H1 m1 pk1 hs1 hz hA q1 => by
    obtain ⟨rfl, rows, D, rfl, hnd, hmem, h75, q1⟩ := q1
    obtain ⟨ks, rfl, e2, h3⟩ := rows_tups hA
    exact ⟨l, ks, D, rfl, SqL.of hs1, fun z hz => Same.t m1.s (h3 z hz), hnd, by rw [e2]; exact hmem, h75, k _ _ n1 B1 H1 m1 pk1 r_int q1⟩⟩
/-! ### name = [..] -/
theorem bs_setLcG {elt tg iter : Expr} {ifs : List Expr} {scope : Scope} {own : List (Str × Nat)} {wi : TI} {g : TG} {ii : WI} {wg : WG} {is : List Nat} {py spos : Pos} {wv : WV} (hc : X.calm = true) (hN : X.N.Nodup) (hy : X.N[i]? = some y) (hyl : X.env.scope.names.lookup y = some .local)
    (hsw : swapsWith (.ListComp elt [⟨tg, iter, ifs, 0⟩] scope pos) (some (.Name y py)) spos.line X.env = pure true) (hi : BI X G tg iter wi ii) (ok : BlkOk X.N X.env.scope scope own)
    (hg : ∀ (s : Shared) (H : Hp) (C : Addr) (cl : List (Str × Addr)) (fp : List Addr), BG (X.blk s H scope (compEnvC scope cl C X.env) fp) G tg g wg is) (ht : ∀ (s : Shared) (H : Hp) (C : Addr) (cl : List (Str × Addr)) (fp : List Addr), BTs (X.blk s H scope (compEnvC scope cl C X.env) fp) G ifs tt wt)
    (he : ∀ (s : Shared) (H : Hp) (C : Addr) (cl : List (Str × Addr)) (fp : List Addr), BE (X.blk s H scope (compEnvC scope cl C X.env) fp) G elt te we) (his : ∀ i ∈ is, i ∈ own.map (·.2) := by decide) (hs : ∀ x, foldedSetIterable iter X.env x = pure x := by intro _; rfl)
    (hv : BN X G (.ListComp elt [⟨tg, iter, ifs, 0⟩] scope pos) (tLc wi g tt te (own.map (·.2))) (wLc ii wg wt we (own.map (·.2))) → BV X G (.ListComp elt [⟨tg, iter, ifs, 0⟩] scope pos) (tLc wi g tt te (own.map (·.2))) wv) :
    BS m X G (.Assign [.Name y py] (.ListComp elt [⟨tg, iter, ifs, 0⟩] scope pos) spos) (tAsg (tLc wi g tt te (own.map (·.2))) (gName i)) (sSet i wv) :=
  bs_set (hv (bn_lc hc hN hi ok hg ht he his hs)) (ps_setLc hc hN hy hyl hsw hi.pi ok (fun s H C cl fp => (hg s H C cl fp).pg) (fun s H C cl fp => (ht s H C cl fp).pt) (fun s H C cl fp => (he s H C cl fp).pe) hs)
/-- .. told -/
theorem bs_setLcE {elt tg iter : Expr} {ifs : List Expr} {scope : Scope} {own : List (Str × Nat)} {wi : TI} {g : TG} {ii : WI} {wg : WG} {is : List Nat} {py spos : Pos} (hc : X.calm = true) (hN : X.N.Nodup) (hi : BI X G tg iter wi ii) (ok : BlkOk X.N X.env.scope scope own)
    (hg : ∀ (s : Shared) (H : Hp) (C : Addr) (cl : List (Str × Addr)) (fp : List Addr), BG (X.blk s H scope (compEnvC scope cl C X.env) fp) G tg g wg is) (ht : ∀ (s : Shared) (H : Hp) (C : Addr) (cl : List (Str × Addr)) (fp : List Addr), BTs (X.blk s H scope (compEnvC scope cl C X.env) fp) G ifs tt wt)
    (he : ∀ (s : Shared) (H : Hp) (C : Addr) (cl : List (Str × Addr)) (fp : List Addr), BE (X.blk s H scope (compEnvC scope cl C X.env) fp) G elt te we) (hy : X.N[i]? = some y) (hyl : X.env.scope.names.lookup y = some .local)
    (hsw : swapsWith (.ListComp elt [⟨tg, iter, ifs, 0⟩] scope pos) (some (.Name y py)) spos.line X.env = pure true) (his : ∀ i ∈ is, i ∈ own.map (·.2) := by decide) (hs : ∀ x, foldedSetIterable iter X.env x = pure x := by intro _; rfl) :
    BS m X G (.Assign [.Name y py] (.ListComp elt [⟨tg, iter, ifs, 0⟩] scope pos) spos) (tAsg (tLc wi g tt te (own.map (·.2))) (gName i)) (sSet i (wVE (wOfN (wLc ii wg wt we (own.map (·.2)))))) :=
  bs_setLcG hc hN hy hyl hsw hi ok hg ht he his hs bn_toE
end
end Fv
set_option maxRecDepth 100000
set_option maxHeartbeats 4000000
/-! Webs by value: their fields, their methods, their making. -/
namespace Fv
open PySem PySem.Spec PyProof.Rows L2 Gb
/-! ### methods -/
/-- o.m(..), W: what is wished of an exception -/
def tMethX (C : Addr) (m : Str) (sp : Sp) (W : WX) (ta : TE) (t : TA) : TE := fun σ H Q => ta σ H fun x H1 => ∃ a dx fs, x = .ref a ∧ H1 a = some (.ins C dx fs) ∧ fs.lookup m = none ∧ t σ H1 fun vs H2 => sp (x :: vs) H2 Q (fun cls d H' => W cls d σ H')
/-- C(..) -/
def tMakeX (C : Addr) (sp : Sp) (W : WX) (t : TA) : TE := fun σ H Q => t σ H fun vs H1 => ∀ x dx, H1 x = none → H1 dx = none → dx ≠ x →
  sp (.ref x :: vs) (upd (upd H1 dx (.own x)) x (.ins C dx [])) (fun v H2 => v = .non ∧ Q (.ref x) H2) (fun cls d H' => W cls d σ H')
section
variable {X : Cx} {k j : Nat} {x m : Str} {C fa : Addr} {fd : FuncData} {ps : List Str} {sp : Sp} {W : WX} {p pos apos : Pos} {e o : Expr} {es : List Expr} {ta : TE} {t : TA}
theorem run_x {pins : List (Addr × Obj)} {σ : L2.St} {H : Hp} {s : Shared} {Q : VK} {us : List Value} {vs : List V} (F : FnOk X.prog X.w X.K X.mg X.base (L2.CX X.prog X.w) k fa fd ps sp) (hr : Room k X.A) (hb : Binds X.K fd ps []) (tk : Takes X W)
    (I : Inv X pins σ H s) (r : Vals vs us) (h : sp vs H Q (fun cls d H' => W cls d σ H')) : wpAny (model X.prog X.w) X.A (call (.ref fa) us) (EP X pins σ Q) X.xe s := by
  have hl : (us ++ []).length = ps.length := by
    rw [List.append_nil, ← r.length]
    exact F.len _ _ _ _ h
  have hb2 := hb s us I.kIn hl
  rw [List.append_nil] at hb2
  refine wpAny_call (codeAny_mono (F.run X.A X.stack s H ⟨us, []⟩ us vs Q _ hr I.env0 hb2 r h) fun r' s' hq => ?_)
  rcases r' with e' | fl
  · exact tk e' s' (XE.of_call I (fun cls d H' h => h) hq)
  · cases fl with
    | ret u => exact I.after hq
    | next => exact hq.elim
    | brk => exact hq.elim
    | cont => exact hq.elim
theorem pe_methX0 {pl : Sem Bool} (he : PE X o ta) (c : Cls X.K C) (hm : Meth X.K C m fa) (F : FnOk X.prog X.w X.K X.mg X.base (L2.CX X.prog X.w) k fa fd ps sp) (hr : Room k X.A) (hb : Binds X.K fd ps []) (tk : Takes X W)
    (ht : eval (.Call (.Attribute o m apos) [] [] pos) X.env = (do
      let ov ← eval o X.env
      standAt apos.atName
      let (f, first) ← holding [ov] (getMethod ov m pl)
      callWith pos f first (backTo pos (starEach [] X.env)) (backToKw pos (keywordEach [] X.env))) := by rfl) : PE X (.Call (.Attribute o m apos) [] [] pos) (tMethX C m sp W ta tNil) := by
  refine ⟨fun pins s σ H Q I h => ?_⟩
  refine PySem.W.methodCall_KW (pl := pl) (thn (he.run pins s σ H _ I h) fun u s1 ⟨x, H1, I1, rx, a, dx, fs, ex, ea, l, q⟩ => ?_) ht
  subst ex
  obtain rfl : u = Value.ref a := rx
  refine getmeth_ok I1 ea c hm l ?_
  exact PySem.W.callWith_K0 (first := [.ref a]) I1.kIn hm.kp (run_x (us := [.ref a]) (vs := [.ref a]) F hr hb tk I1 (.cons rfl .nil) q)
theorem pe_makeX (M : Mk X.K C fa) (F : FnOk X.prog X.w X.K X.mg X.base (L2.CX X.prog X.w) k fa fd ps sp) (hr : Room (k + 1) X.A) (hg : Gl X x) (hm : X.mg x = some (.ref C)) (hb : Binds X.K fd ps []) (tk : Takes X W) (ha : PA X (e :: es) t)
    (hdb : (x == ("__debug__" : Str)) = false := by decide) (he : starEach (e :: es) X.env = (false, eval e X.env) :: starEach es X.env := by rfl) (hpl : (backTo pos (starEach es X.env)).any (·.1) = false := by rfl) : PE X (.Call (.Name x p) (e :: es) [] pos) (tMakeX C sp W t) := by
  refine ⟨fun pins s σ H Q I h => ?_⟩
  refine wpAny_Call_Name_kw (ld_glob I hg hm ?_ hdb)
  refine PySem.W.callWith_K (h₀ := X.base) I.ok.mod.kin M.kp (thn (ha.run pos pins s σ H _ I h) fun us s1 ⟨vs, H1, I1, r, q⟩ => ⟨I1.kIn, ?_⟩) he hpl
  have hq := q (s1.heap.objs.size + 1) s1.heap.objs.size (I1.hok.fresh (Nat.le_succ _)) (I1.hok.fresh (Nat.le_refl _)) (Nat.ne_of_lt (Nat.lt_succ_self _))
  have I2 := Inv.made (C := C) I1
  have r2 : Vals (V.ref (s1.heap.objs.size + 1) :: vs) (Value.ref (s1.heap.objs.size + 1) :: us) := .cons rfl r
  have hl : (Value.ref (s1.heap.objs.size + 1) :: us ++ []).length = ps.length := by
    rw [List.append_nil, ← r2.length]
    exact F.len _ _ _ _ hq
  have hb2 := hb _ (Value.ref (s1.heap.objs.size + 1) :: us) I2.kIn hl
  rw [List.append_nil] at hb2
  refine wpAny_call (make_map (f := fa) I1.kIn M.makes M.init (beq_iff_eq.mp M.fn) (codeAny_mono (F.run _ X.stack _ _ ⟨Value.ref (s1.heap.objs.size + 1) :: us, []⟩ (Value.ref (s1.heap.objs.size + 1) :: us) _ _ _ (hr.make C us []) (I2.env0.make C us []) hb2 r2 hq) fun r' s' hq' => ?_))
  rcases r' with e' | fl
  · exact tk e' s' (XE.of_call I2 (fun cls d H' h => h) hq')
  · cases fl with
    | ret u =>
      obtain ⟨v, H', I3, rv, ev, q3⟩ := I2.after hq'
      subst ev
      exact ⟨rv, ⟨V.ref (s1.heap.objs.size + 1), H', I3, rfl, q3⟩⟩
    | next => exact hq'.elim
    | brk => exact hq'.elim
    | cont => exact hq'.elim
end
/-! ### a class of the module -/
structure DnM (K : PySem.W.Frag) (C : Addr) (m qual : Str) (st : Stmt) (ps : List Str) : Prop where
  ex : ∃ (f : Addr) (fd : FuncData), Fun K m qual st f fd ∧ Meth K C m f ∧ Binds K fd ps []
structure DnI (K : PySem.W.Frag) (C : Addr) (qual : Str) (st : Stmt) (ps : List Str) : Prop where
  ex : ∃ (f : Addr) (fd : FuncData), Fun K "__init__" qual st f fd ∧ Mk K C f ∧ Binds K fd ps []
/-- a method that lets nothing out, over a heap -/
structure ClM0 (F : Fx) (k : Nat) (C : Addr) (m : Str) (sp : Sp) : Prop where
  cls : Cls F.K C
  ex : ∃ (f : Addr) (fd : FuncData) (ps : List Str), FnOk F.P F.w F.K F.mg F.base CX0 k f fd ps sp ∧ Meth F.K C m f ∧ Binds F.K fd ps []
theorem clm0_of {F : Fx} {C : Addr} {m qual : Str} {st : Stmt} {N ps : List Str} {k : Nat} {sp : Sp} (D : DnM F.K C m qual st ps) (c : Cls F.K C) (S : FnScope N ps (defScope st)) (len : ∀ vs H Q E, sp vs H Q E → vs.length = ps.length)
    (hbody : ∀ (cdv : Value) (f : Addr) (A : Around) (outer : List Env) (s : Shared) (H : Hp) (vs : List V) (Q : VK) (E : XK), Room k (A.deeper (envOfC qual (defScope st) s.heap.objs.size f cdv)) → sp vs H Q E →
      ∃ t, PSs (cxOf CX0 F.P F.w F.K F.mg F.base N qual (defScope st) f cdv A outer s H E).nox (defBody st) t ∧ t { nx := fun _ H' => Q .non H', rt := Q } (L2.start N vs) H) : ClM0 F (k + 1) C m sp := by
  obtain ⟨f, fd, Fn, M, b⟩ := D.ex
  exact ⟨c, f, fd, ps, Fn.ok S len (fun cdv => hbody cdv f), M, b⟩
/-! ### by value -/
structure ClMB (F : Fx) (k : Nat) (m : Str) (o : Bool) (f : FB) : Prop where
  cls : Cls F.K F.C
  nm : m ≠ "_rows" ∧ m ≠ "_ties"
  ex : ∃ (fa : Addr) (fd : FuncData) (ps : List Str), FnOk F.P F.w F.K F.mg F.base (L2.CX F.P F.w) k fa fd ps (SpB F o f) ∧ Meth F.K F.C m fa ∧ Binds F.K fd ps []
/-- a method of the class Web as the module has it -/
theorem clm_b {F : Fx} {m qual : Str} {st : Stmt} {N ps : List Str} {k : Nat} {o : Bool} {f : FB} (D : DnM F.K F.C m qual st ps) (c : Cls F.K F.C) (S : FnScope N ps (defScope st)) (len : ∀ ds n EX QD, f ds n EX QD → ds.length = ps.length)
    (hbody : ∀ (fa : Addr) (cdv : Value) (A : Around) (outer : List Env) (s : Shared) (H : Hp) (E : XK) (pn : Pn) (B : Hp), Room k (cxB F N qual (defScope st) fa cdv A outer s H E).A → Takes (cxB F N qual (defScope st) fa cdv A outer s H E) (XKx E) →
      PassesOwn (model F.P F.w) (cxB F N qual (defScope st) fa cdv A outer s H E).A (cxB F N qual (defScope st) fa cdv A outer s H E).env (cxB F N qual (defScope st) fa cdv A outer s H E).xe →
      ∃ t w, BSs o (cxB F N qual (defScope st) fa cdv A outer s H E) (F.g pn (XKx E) B H) (defBody st) t w ∧ ∀ ds n EX QD, f ds n EX QD → w (startB N ds) n (fun _ => EX) { nx := fun _ n' => o = false ∧ QD (.py .none) n', rt := QD })
    (nm : m ≠ "_rows" ∧ m ≠ "_ties" := by decide) : ClMB F (k + 1) m o f := by
  obtain ⟨fa, fd, Fn, M, b⟩ := D.ex
  exact ⟨c, nm, fa, fd, ps, fn_b Fn S len (hbody fa), M, b⟩
theorem look_none {m : Str} {r t : V} (nm : m ≠ "_rows" ∧ m ≠ "_ties") : ([("_rows", r), ("_ties", t)] : List (Str × V)).lookup m = none := by
  have e1 : (m == ("_rows" : Str)) = false := by simpa using nm.1
  have e2 : (m == ("_ties" : Str)) = false := by simpa using nm.2
  simp only [List.lookup, e1, e2]
def wMt (f : FB) (wo : WE) (wa : WA) : WE := fun ρ n E Q => wo ρ n E fun d n1 => match d with
  | .web s M => wa ρ n1 E fun ds n2 => f (.web s M :: ds) n2 E Q
  | _ => False
def wOnL (w : WE) : WN := fun ρ n E Q => w ρ n E fun d n' => match d with
  | .py (.list ds) => Q ds n'
  | _ => False
section
variable {X : Cx} {G : Cg} {k j : Nat} {x m : Str} {f : FB} {p pos apos : Pos} {o e : Expr} {es : List Expr} {to ta te : TE} {wo wa we : WE} {t : TA} {wt : WA} {pl : Sem Bool}
theorem snd_mtN {F : Fx} {W : WX} (hK : F.K = G.K) (hC : F.C = G.C) (hx : F.ex = G.ex) (nm : m ≠ "_rows" ∧ m ≠ "_ties") (ho : Snd G to wo) (ht : SndA G t wt) (hW : W = G.xe) : SndN G (tMethX G.C m (SpB F true f) W to t) (wOnL (wMt f wo wt)) := by
  intro ρ σ n B H E Qd Q S hw xw kk
  refine ho ρ σ n B H E _ _ S hw xw fun v d n1 B1 H1 m1 pk1 r1 q1 => ?_
  split at q1
  · rename_i s M
    obtain ⟨a, ea, hw1⟩ := r1
    obtain ⟨dx, r, tt, h1, h2, h3, h4⟩ := hw1.ex
    refine ⟨a, dx, _, ea, m1.s _ _ h1, look_none nm, ?_⟩
    refine ht ρ σ n1 B1 H1 E _ _ (S.step m1 pk1) q1 (xw.step m1) fun vs ds n2 B2 H2 m2 pk2 r2 q2 => ?_
    have m12 := m1.trans m2
    refine ⟨G.pn, B2, n2, .web s M :: ds, E, _, m2.s, pk2, ?_, q2, ⟨fun l ws es' n' B' H' mv pk' fr hl hz hA q => ?_, fun _ _ _ _ _ _ _ _ _ q => q.elim, fun _ _ _ _ _ q => q.elim⟩, fun y n' cv dd B' H' mv pk' er ex => ?_⟩
    · exact ⟨(R.of (F := F) hK hC hx).mpr ⟨a, ea, hw1.mono m2.b⟩, RA.of hK hC hx r2⟩
    · have S1 := S.step m12 pk2
      have hl1 : H2 l = none := fr.2.1
      exact kk l ws es' n' B' H' (m12.trans mv) pk' (m12.kp.up hl1) ⟨fr.1, S1.mv.kp.up hl1, fr.2.2⟩ hl hz (by rw [← hK]; exact hA) q
    · rw [hW]
      exact xw y n' cv dd B' H' (m12.trans mv) pk' (exr_of (F := F) hK hx er) ex
  · exact q1.elim
def wMtM (f : FB) (wo : WE) (wa : WA) : WV := fun ρ n E Q => wo ρ n E fun d n1 => match d with
  | .web s M => wa ρ n1 E fun ds n2 => f (.web s M :: ds) n2 E (wMatR Q)
  | _ => False
theorem bn_mt0 {F : Fx} (c : ClMB F k m true f) (hr : Room j X.A) (hk : k ≤ j) (tk : Takes X G.xe) (ho : BE X G o to wo) (hF : Fof X G = F := by rfl) (hK : X.K = G.K := by rfl)
    (ht : eval (.Call (.Attribute o m apos) [] [] pos) X.env = (do
      let ov ← eval o X.env
      standAt apos.atName
      let (f, first) ← holding [ov] (getMethod ov m pl)
      callWith pos f first (backTo pos (starEach [] X.env)) (backToKw pos (keywordEach [] X.env))) := by rfl) : BN X G (.Call (.Attribute o m apos) [] [] pos) (tMethX G.C m (SpB F true f) G.xe to tNil) (wOnL (wMt f wo wANil)) := by
  subst hF
  obtain ⟨cc, nm, fa, fd, ps, Fn, M, b⟩ := c
  exact ⟨pe_methX0 (pl := pl) ho.pe cc M Fn (hr.mono hk) b tk ht, snd_mtN hK rfl rfl nm ho.snd (ba_nil (X := X)).snd rfl⟩
/-! ### fields, len -/
/-- what the class Web lets one look at -/
structure Wc (K : PySem.W.Frag) (C : Addr) : Prop where
  cls : Cls K C
  rows : NoAttr K C "_rows"
  ties : NoAttr K C "_ties"
def wFr (wa : WE) : WE := fun ρ n E Q => wa ρ n E fun d n1 => match d with
  | .web s M => Q (.py (.tuple (rowsD M s))) n1
  | _ => False
def wFt (wa : WE) : WE := fun ρ n E Q => wa ρ n E fun d n1 => match d with
  | .web s M => Q (.py (.tuple ((tiesW M s).map tieD))) n1
  | _ => False
theorem be_ft (W : Wc G.K G.C) (ha : BE X G o ta wa) (hb : attributeBase o "_ties" X.env (eval o X.env) = eval o X.env := by rfl) (hK : X.K = G.K := by rfl) : BE X G (.Attribute o "_ties" pos) (tFld G.K ta "_ties") (wFt wa) :=
  ⟨pe_fldK ha.pe hb hK, fun ρ σ n B H E Qd Q S hw xw kk => ha.snd ρ σ n B H E _ _ S hw xw fun v d n1 B1 H1 m1 pk1 r1 q1 => by
    split at q1
    · rename_i s M
      obtain ⟨a, ea, hw1⟩ := r1
      obtain ⟨dx, r, tt, h1, h2, h3, h4⟩ := hw1.ex
      exact ⟨a, G.C, dx, _, .ref tt, ea, m1.s _ _ h1, W.cls, W.ties, rfl, kk _ (.py _) n1 B1 H1 m1 pk1 h4 q1⟩
    · exact q1.elim⟩
/-- len(web), by the old rule -/
def spLenW (K : PySem.W.Frag) (C : Addr) : Sp := fun vs H Q _ => ∃ (x : Addr) (s : Nat) (M : Nat → Nat → Int), vs = [.ref x] ∧ WebAt K C H x s M ∧ Q (.int s) H
def wLenW (wa : WE) : WE := fun ρ n E Q => wa ρ n E fun d n1 => match d with
  | .web s _ => Q (.py (.int s)) n1
  | _ => False
theorem be_lenW0 {F : Fx} (c : ClM0 F k F.C "__len__" (spLenW F.K F.C)) (hr : Room j X.A) (hk : k + 1 ≤ j) (hg : Gl X "len") (hm : X.mg "len" = none) (ha : BE X G o ta wa) (hF : Fof X G = F := by rfl) (hK : X.K = G.K := by rfl)
    (he : starEach (o :: []) X.env = (false, eval o X.env) :: starEach [] X.env := by rfl) (hpl : (backTo pos (starEach [] X.env)).any (·.1) = false := by rfl) : BE X G (.Call (.Name "len" p) [o] [] pos) (tCB (rLenO G.C (spLenW X.K G.C)) (tCons ta tNil)) (wLenW wa) := by
  subst hF
  obtain ⟨cc, fl, fd, ps, Fn, M, b⟩ := c
  refine ⟨pe_callB (call_lenO M Fn (hr.mono hk) b) hg hm PySem.boot_len (pa_cons ha.pe pa_nil he) (by decide) (by decide) he hpl, fun ρ σ n B H E Qd Q S hw xw kk => ha.snd ρ σ n B H E _ _ S hw xw fun v d n1 B1 H1 m1 pk1 r1 q1 => ?_⟩
  split at q1
  · rename_i s M
    obtain ⟨a, rfl, hw1⟩ := r1
    obtain ⟨dx, r, tt, h1, h2, h3, h4⟩ := hw1.ex
    have h12 := hw1.s12
    exact ⟨a, dx, _, rfl, m1.s _ _ h1, a, s, M, rfl, by rw [hK]; exact hw1.mono m1.s, s, rfl, by omega, kk _ _ n1 B1 H1 m1 pk1 r_int q1⟩
  · exact q1.elim
theorem be_lenW {F : Fx} (c : ClM0 F k F.C "__len__" (spLenW F.K F.C)) (hr : Room j X.A) (hk : k + 1 ≤ j) (hg : Gl X "len") (hm : X.mg "len" = none) (ha : BE X G o ta wa) (hF : Fof X G = F := by rfl) (hK : X.K = G.K := by rfl)
    (he : starEach (o :: []) X.env = (false, eval o X.env) :: starEach [] X.env := by rfl) (hpl : (backTo pos (starEach [] X.env)).any (·.1) = false := by rfl) : BE X G (.Call (.Name "len" p) [o] [] pos) (tCB (rLenO G.C (spLenW G.K G.C)) (tCons ta tNil)) (wLenW wa) := by
  have h := be_lenW0 (p := p) c hr hk hg hm ha hF hK he hpl
  rw [hK] at h
  exact h
end
end Fv
set_option maxRecDepth 100000
set_option maxHeartbeats 4000000
/-! What the bodies' proofs use: comprehensions and loops by invariants, types of data. -/
namespace Fv
open PySem PySem.Spec PyProof.Rows L2 Gb
structure Bz (mg : Str → Option Value) : Prop extends Bt mg where
  bool : mg "bool" = none
  any : mg "any" = none
  sorted : mg "sorted" = none
  repr : mg "repr" = none
  dict : mg "dict" = none
  str : mg "str" = none
  enumerate : mg "enumerate" = none
section
variable {wg wg1 : WG} {wt wt1 : WT} {we : WE} {wi1 : WI} {vs1 : List Nat} {ρ : List Sl} {n : Nat}
/-- each item tells f of it -/
theorem lc_map (f : D → PyData) {Q : List PyData → Nat → Prop} : ∀ (ds : List D) (acc : List PyData),
    (∀ d ∈ ds, ∀ (P : PyData → Nat → Prop) (R : Nat → Prop), P (f d) n → wg d ρ fun ρ2 => wt ρ2 n (fun _ _ => False) fun b n1 => if b = true then we ρ2 n1 (fun _ _ => False) fun z n2 => (match z with
      | .py e => P e n2
      | _ => False) else R n1) → Q (acc ++ ds.map f) n → lcGo wg wt we ds acc n ρ Q
  | [], acc, _, q => by
    rw [List.map_nil, List.append_nil] at q
    exact q
  | d :: ds, acc, h, q => by
    refine h d (List.mem_cons_self ..) (fun e n2 => lcGo wg wt we ds (acc ++ [e]) n2 ρ Q) (fun n1 => lcGo wg wt we ds acc n1 ρ Q) ?_
    refine lc_map f ds (acc ++ [f d]) (fun x hx => h x (List.mem_cons_of_mem _ hx)) ?_
    rw [List.append_assoc]
    exact q
/-- those items that p lets by -/
theorem lc_filter (p : D → Bool) (f : D → PyData) {Q : List PyData → Nat → Prop} : ∀ (ds : List D) (acc : List PyData),
    (∀ d ∈ ds, ∀ (P : PyData → Nat → Prop) (R : Nat → Prop), (p d = true → P (f d) n) → (p d = false → R n) → wg d ρ fun ρ2 => wt ρ2 n (fun _ _ => False) fun b n1 => if b = true then we ρ2 n1 (fun _ _ => False) fun z n2 => (match z with
      | .py e => P e n2
      | _ => False) else R n1) → Q (acc ++ (ds.filter p).map f) n → lcGo wg wt we ds acc n ρ Q
  | [], acc, _, q => by
    rw [List.filter_nil, List.map_nil, List.append_nil] at q
    exact q
  | d :: ds, acc, h, q => by
    refine h d (List.mem_cons_self ..) (fun e n2 => lcGo wg wt we ds (acc ++ [e]) n2 ρ Q) (fun n1 => lcGo wg wt we ds acc n1 ρ Q) (fun hp => ?_) (fun hp => ?_)
    · refine lc_filter p f ds (acc ++ [f d]) (fun x hx => h x (List.mem_cons_of_mem _ hx)) ?_
      rw [List.filter_cons_of_pos hp, List.map_cons] at q
      rw [List.append_assoc]
      exact q
    · refine lc_filter p f ds acc (fun x hx => h x (List.mem_cons_of_mem _ hx)) ?_
      rw [List.filter_cons_of_neg (by rw [hp]; exact Bool.false_ne_true)] at q
      exact q
/-- a comprehension of two loops, each step telling gs of its item -/
theorem lc2_map (gs : D → List PyData) {Q : List PyData → Nat → Prop} : ∀ (ds : List D) (acc : List PyData), acc.length + (ds.flatMap gs).length ≤ 100000 →
    (∀ d ∈ ds, ∀ (acc : List PyData) (P : List PyData → Nat → Prop) (R : Nat → Prop), acc.length + (gs d).length ≤ 100000 → P (acc ++ gs d) n → wg d ρ fun ρ2 => wt ρ2 n (fun _ _ => False) fun b n1 => if b = true then wi1 ρ2 n1 (fun _ _ => False) fun ds1 n2 => acc.length + ds1.length ≤ 100000 ∧ lcGo wg1 wt1 we ds1 acc n2 (wipeB ρ2 vs1) P else R n1) →
    Q (acc ++ ds.flatMap gs) n → lc2Go wg wt wi1 wg1 wt1 we vs1 ds acc n ρ Q
  | [], acc, _, _, q => by
    rw [List.flatMap_nil, List.append_nil] at q
    exact q
  | d :: ds, acc, hb, h, q => by
    rw [List.flatMap_cons, List.length_append] at hb
    refine h d (List.mem_cons_self ..) acc (fun acc' n3 => lc2Go wg wt wi1 wg1 wt1 we vs1 ds acc' n3 ρ Q) (fun n1 => lc2Go wg wt wi1 wg1 wt1 we vs1 ds acc n1 ρ Q) (by omega) ?_
    refine lc2_map gs ds _ (by rw [List.length_append]; omega) (fun x hx => h x (List.mem_cons_of_mem _ hx)) ?_
    rw [List.flatMap_cons] at q
    rw [List.append_assoc]
    exact q
end
/-- a loop by what holds ahead of each step -/
theorem for_inv {wg : WG} {b : WS} {E : XB} (I : Nat → List Sl → Nat → Prop) : ∀ (ds : List D) (i : Nat) (DB : EB) (ρ : List Sl) (n : Nat),
    (∀ (j : Nat) (d : D) (ρ : List Sl) (n : Nat) (DB' : EB), ds[j]? = some d → I (i + j) ρ n → DB'.rt = DB.rt → DB'.bk = DB.nx → (∀ ρ' n', I (i + j + 1) ρ' n' → DB'.nx ρ' n') → (∀ ρ' n', I (i + j + 1) ρ' n' → DB'.ct ρ' n') → wg d ρ fun ρ2 => b ρ2 n E DB') →
    I i ρ n → (∀ ρ' n', I (i + ds.length) ρ' n' → DB.nx ρ' n') → forGo wg b ds ρ n E DB
  | [], i, DB, ρ, n, _, h0, hd => hd ρ n h0
  | d :: ds, i, DB, ρ, n, hs, h0, hd => by
    have go : ∀ ρ' n', I (i + 1) ρ' n' → forGo wg b ds ρ' n' E DB := fun ρ' n' h => by
      refine for_inv I ds (i + 1) DB ρ' n' (fun j d' ρ2 n2 DB' hj hI hrt hbk hnx hct => ?_) h (fun ρ2 n2 h2 => hd ρ2 n2 (by rw [List.length_cons, Nat.add_comm ds.length 1, ← Nat.add_assoc]; exact h2))
      refine hs (j + 1) d' ρ2 n2 DB' (by simpa using hj) (by rw [Nat.add_comm j 1, ← Nat.add_assoc]; exact hI) hrt hbk (fun ρ' n' q => hnx _ _ ?_) (fun ρ' n' q => hct _ _ ?_)
      · rw [Nat.add_comm j 1, ← Nat.add_assoc] at q
        exact q
      · rw [Nat.add_comm j 1, ← Nat.add_assoc] at q
        exact q
    exact hs 0 d ρ n _ rfl h0 rfl rfl go go
theorem isB_int (d : PyData) : isB d "int" = match d with
    | .int _ => true
    | .bool _ => true
    | _ => false := by
  cases d <;> (simp only [isB, tyName]; decide +kernel)
theorem isB_bool (d : PyData) : isB d "bool" = match d with
    | .bool _ => true
    | _ => false := by
  cases d <;> (simp only [isB, tyName]; decide +kernel)
theorem isB_tuple (d : PyData) : isB d "tuple" = match d with
    | .tuple _ => true
    | _ => false := by
  cases d <;> (simp only [isB, tyName]; decide +kernel)
theorem isB_list (d : PyData) : isB d "list" = match d with
    | .list _ => true
    | _ => false := by
  cases d <;> (simp only [isB, tyName]; decide +kernel)
/-- a whole number; a truth is none -/
def isWhole : PyData → Bool
  | .int _ => true
  | _ => false
def numOf : PyData → Int
  | .int i => i
  | _ => 0
theorem blsOf_wh {f : PyData → Bool} (ds : List PyData) : blsOf (ds.map fun d => PyData.bool (f d)) = some (ds.map f) := by
  rw [show (ds.map fun d => PyData.bool (f d)) = (ds.map f).map PyData.bool from by rw [List.map_map]; rfl]
  exact blsOf_map _
theorem wholes {ds : List PyData} (h : ds.all isWhole = true) : ds = (ds.map numOf).map PyData.int := by
  rw [List.map_map]
  refine (List.map_id ds).symm.trans (List.map_congr_left fun d hd => ?_)
  have := List.all_eq_true.mp h d hd
  cases d <;> first | rfl | cases this
section
variable {X : Cx} {G : Cg} {a b c d : Expr} {ta tb tc td : TE} {wa wb wc wd : WE} {pos p tpos : Pos} {elts : List Expr} {kk : Nat}
theorem bi_zipLT2 (hg : Gl X "zip") (hm : X.mg "zip" = none) (ha : BE X G a ta wa) (hb : BE X G b tb wb) (hK : X.K = G.K := by rfl) (h1 : starEach [b] X.env = (false, eval b X.env) :: starEach [] X.env := by rfl) (hs : starEach [a, b] X.env = (false, eval a X.env) :: starEach [b] X.env := by rfl) (hpl : (backTo pos (starEach [b] X.env)).any (·.1) = false := by rfl) :
    BI X G (.Tuple elts kk tpos) (.Call (.Name "zip" p) [a, b] [] pos) (iZipLT G.K (tCons ta (tCons tb tNil))) (wIZip false true wa wb) :=
  bi_zipLT hg hm ha hb (pi_zipLT hg hm (pa_cons ha.pe (pa_cons hb.pe pa_nil h1) hs) hK hs hpl)
end
end Fv
set_option maxRecDepth 100000
set_option maxHeartbeats 4000000
namespace Gb
open PySem PySem.Spec PyProof.Rows L2
open PySem.W (Datum Tup T4)
section
variable {P : Program} {w : World} {K : PySem.W.Frag} {mg : Str → Option Value} {base : Heap}
-- GbB
theorem put_turn {c : Addr} {t l t' : Int} : putK (penD c t l) (.inr "turn") (.int t') = penD c t' l := rfl
-- GbB
theorem put_left {c : Addr} {t l l' : Int} : putK (penD c t l) (.inr "left") (.int l') = penD c t l' := rfl
-- GbB
theorem penD_inj {c c' : Addr} {t l t' l' : Int} (h : penD c t l = penD c' t' l') : t = t' := by
  injection h with _ h2
  injection h2 with h3 _
  injection h3 with _ h5
  injection h5
-- GbB
theorem pen_go {H : Hp} {p c : Addr} {t l t' l' : Int} {xs : List V} (h : H p = some (.dK (penD c t l))) (hc : H c = some (.lst xs)) (h0 : 0 ≤ t') (h1 : t' ≤ t + 1) (h2 : 0 ≤ l') : Go p c 1 H (upd H p (.dK (penD c t' l'))) := by
  refine ⟨fun b o e n => ?_, fun n q => ?_⟩
  · have nb : b ≠ p := fun z => by
      rw [z, h] at e
      cases e
      exact n
    rw [upd_ne nb]
    exact e
  · obtain ⟨t0, l0, ys, a1, a2, a3, a4, a5⟩ := q
    rw [h] at a1
    injection a1 with a1
    injection a1 with a1
    have e := penD_inj a1
    have nc : c ≠ p := fun z => by
      rw [z, h] at a2
      cases a2
    exact ⟨t', l', ys, upd_same, by rw [upd_ne nc]; exact a2, h0, by omega, h2⟩
-- GbB
def primesV : List V := [.int 2147483647, .int 2147483629, .int 2147483587, .int 2147483579, .int 2147483563]
-- GbB
theorem primes_at {i : Int} (h0 : 0 ≤ i) (h1 : i < 5) : ∃ m : Int, atI primesV i = some (.int m) ∧ 0 < m ∧ m ≤ 2147483647 := by
  have h : i = 0 ∨ i = 1 ∨ i = 2 ∨ i = 3 ∨ i = 4 := by omega
  rcases h with rfl | rfl | rfl | rfl | rfl
  · exact ⟨_, rfl, by decide, by decide⟩
  · exact ⟨_, rfl, by decide, by decide⟩
  · exact ⟨_, rfl, by decide, by decide⟩
  · exact ⟨_, rfl, by decide, by decide⟩
  · exact ⟨_, rfl, by decide, by decide⟩
-- GbB
theorem dput_left {H : Hp} {p c : Addr} {t l l' : Int} (h : H p = some (.dK (penD c t l))) : DPut H p (.str "left") (.int l') (upd H p (.dK (penD c t l'))) := by
  have q := DPut.k (k := .inr "left") (v := .int l') h (by show 3 < sizeLine; decide)
  rw [put_left] at q
  exact q
-- GbB
theorem dput_turn {H : Hp} {p c : Addr} {t l t' : Int} (h : H p = some (.dK (penD c t l))) : DPut H p (.str "turn") (.int t') (upd H p (.dK (penD c t' l))) := by
  have q := DPut.k (k := .inr "turn") (v := .int t') h (by show 3 < sizeLine; decide)
  rw [put_turn] at q
  exact q
-- GbB
def spDraw : Sp := fun vs H Q _ => ∃ (p c : Addr) (n : Nat) (many : Int), vs = [.ref p, .int many] ∧ Pen H p c n ∧ n < 2 ^ 60 ∧ 0 < many ∧ many < 1000000 ∧ ∀ r H', 0 ≤ r → r < many → Go p c 1 H H' → Q (.int r) H'
-- GbC
def spPick (K : PySem.W.Frag) : Sp := fun vs H Q _ => ∃ (p c l : Addr) (n : Nat) (xs : List V), vs = [.ref p, .ref l] ∧ Pen H p c n ∧ n + 1 ≤ 2 ^ 60 ∧ SqL K H l xs ∧ 0 < xs.length ∧ xs.length < 1000 ∧
  ∀ (i : Nat) (v : V) (H' : Hp), xs[i]? = some v → Go p c 1 H H' → Q v H'
-- GbC
def spGreat : Sp := fun vs H Q _ => ∃ (p c : Addr) (n : Nat) (k : Nat), vs = [.ref p, .int (k : Int)] ∧ Pen H p c n ∧ n + k ≤ 2 ^ 60 ∧ k ≤ 1000 ∧ ∀ (r : Nat) H', r < 10 ^ k → Go p c k H H' → Q (.int (r : Int)) H'
-- GbC
def spShuf (K : PySem.W.Frag) : Sp := fun vs H Q _ => ∃ (p c l : Addr) (n : Nat) (xs : List V), vs = [.ref p, .ref l] ∧ Pen H p c n ∧ n + xs.length ≤ 2 ^ 60 ∧ SqL K H l xs ∧ xs.length < 1000 ∧
  ∀ r ys H', H r = none → H' r = some (.lst ys) → ys.Perm xs → Go p c xs.length H H' → Q (.ref r) H'
-- GbC
theorem erase_perm {α : Type} {y : α} : ∀ {zs : List α} {k : Nat}, zs[k]? = some y → (y :: zs.eraseIdx k).Perm zs
  | [], _, h => by simp at h
  | z :: r, 0, h => by
    have e : z = y := Option.some.inj h
    rw [e]
    exact List.Perm.refl _
  | z :: r, k + 1, h => by
    have ih := erase_perm (zs := r) (k := k) h
    show (y :: z :: r.eraseIdx k).Perm (z :: r)
    exact (List.Perm.swap z y _).trans (ih.cons z)
-- GbC
theorem seqIx {r : Int} {m : Nat} (h0 : 0 ≤ r) (h1 : r < m) : seqIndex? r m = some r.toNat := (ixN_seq (by unfold ixN; rw [if_pos h0, if_pos h1])).1
-- GbD
abbrev Tie := T4 Int Int Int Int
-- GbD
structure TieOk (m s : Int) (t : Tie) : Prop where
  a0 : 0 ≤ t.a
  ab : t.a < t.b
  bs : t.b < s
  c1 : 1 ≤ t.c
  cm : t.c ≤ m
  d1 : 1 ≤ t.d
  dm : t.d ≤ m
-- GbD
/-- the ties of a web of s posts, at most m cords each way -/
structure TiesOk (m s : Int) (ts : List Tie) : Prop where
  all : ∀ t ∈ ts, TieOk m s t
  nd : (ts.map fun t => (t.a, t.b)).Nodup
-- GbD
def rowT (f n : Int) : List Tie := (List.range (n - 1).toNat).map fun (k : Nat) => ⟨f + (k : Int), f + (k : Int) + 1, 1, 1⟩
-- GbD
def movT (ts : List Tie) (by_ : Int) : List Tie := ts.map fun t => ⟨t.a + by_, t.b + by_, t.c, t.d⟩
-- GbD
def armsT : Int → List Int → List Tie
  | _, [] => []
  | f, n :: r => (⟨0, f, 1, 1⟩ :: rowT f n) ++ armsT (f + n) r
-- GbD
theorem is_t4 {K : PySem.W.Frag} {H : Hp} {t : Addr} {a b c d : Int} (h : H t = some (.tup [.int a, .int b, .int c, .int d])) : Is K H (.ref t) (⟨a, b, c, d⟩ : Tie) :=
  .tup (SqT.of h) (.cons (.int a) (.cons (.int b) (.cons (.int c) (.cons (.int d) .nil))))
-- GbD
def spRow (K : PySem.W.Frag) : Sp := fun vs H Q _ => ∃ f n : Int, vs = [.int f, .int n] ∧ -1000 ≤ n ∧ n ≤ 1000 ∧ ∀ r H', Same H H' → Ls K (nw H H') r (rowT f n) → Q r H'
-- GbD
def spMov (K : PySem.W.Frag) : Sp := fun vs H Q _ => ∃ (v : V) (ts : List Tie) (b : Int), vs = [v, .int b] ∧ Is K H v ts ∧ ts.length ≤ 1000 ∧ ∀ r H', Same H H' → Ls K (nw H H') r (movT ts b) → Q r H'
-- GbE
theorem cut_to (xs : List V) (n : Nat) : cutV xs none (some (n : Int)) = xs.take n := by
  unfold cutV
  rw [HT.sIx_none, HT.sIx_nat]
  show (xs.drop 0).take (min n xs.length - 0) = xs.take n
  rw [List.drop_zero, Nat.sub_zero]
  by_cases h : n ≤ xs.length
  · rw [Nat.min_eq_left h]
  · rw [Nat.min_eq_right (by omega), List.take_length, List.take_of_length_le (by omega)]
-- GbE
/-- one tie of so many, there so many cords one way -/
structure Dbl (ts : List Tie) (at_ : Nat) (times : Int) (ts' : List Tie) : Prop where
  ex : ∃ (t : Tie) (x y : Int), ts[at_]? = some t ∧ ((x = times ∧ y = 1) ∨ (x = 1 ∧ y = times)) ∧ ts' = ts.take at_ ++ [⟨t.a, t.b, x, y⟩] ++ ts.drop (at_ + 1)
-- GbE
def spDbl (K : PySem.W.Frag) : Sp := fun vs H Q _ => ∃ (p c : Addr) (n : Nat) (v : V) (ts : List Tie) (at_ : Nat) (times : Int), vs = [.ref p, v, .int (at_ : Int), .int times] ∧ Pen H p c n ∧ n + 1 ≤ 2 ^ 60 ∧ Is K H v ts ∧ at_ < ts.length ∧ ts.length ≤ 1000 ∧
  ∀ (r : V) (H' : Hp) (ts' : List Tie), Go p c 1 H H' → Ls K H' r ts' → Dbl ts at_ times ts' → Q r H'
-- GbF
def spArms (K : PySem.W.Frag) : Sp := fun vs H Q _ => ∃ (v : V) (ls : List Int), vs = [v] ∧ Is K H v ls ∧ ls.length ≤ 10 ∧ (∀ n ∈ ls, 0 ≤ n ∧ n ≤ 100) ∧ ∀ r H', Same H H' → Ls K (nw H H') r (armsT 1 ls) → Q r H'
-- GbG
abbrev pr (t : Tie) : Int × Int := (t.a, t.b)
-- GbG
theorem TieOk.mono {m s m' s' : Int} {t : Tie} (h : TieOk m s t) (hm : m ≤ m') (hs : s ≤ s') : TieOk m' s' t := ⟨h.a0, h.ab, Int.lt_of_lt_of_le h.bs hs, h.c1, Int.le_trans h.cm hm, h.d1, Int.le_trans h.dm hm⟩
-- GbG
theorem TiesOk.mono {m s m' s' : Int} {ts : List Tie} (h : TiesOk m s ts) (hm : m ≤ m') (hs : s ≤ s') : TiesOk m' s' ts := ⟨fun t ht => (h.all t ht).mono hm hs, h.nd⟩
-- GbG
theorem TiesOk.nil {m s : Int} : TiesOk m s [] := ⟨fun t ht => (by cases ht), List.nodup_nil⟩
-- GbG
theorem nd_iff {ts : List Tie} : (ts.map pr).Nodup ↔ ts.Pairwise fun x y => pr x ≠ pr y := List.pairwise_map
-- GbG
theorem TiesOk.perm {m s : Int} {ts us : List Tie} (h : TiesOk m s ts) (p : us.Perm ts) : TiesOk m s us := ⟨fun t ht => h.all t (p.mem_iff.mp ht), ((p.map pr).nodup_iff).mpr h.nd⟩
-- GbG
theorem TiesOk.app {m s : Int} {ts us : List Tie} (h : TiesOk m s ts) (h' : TiesOk m s us) (d : ∀ x ∈ ts, ∀ y ∈ us, pr x ≠ pr y) : TiesOk m s (ts ++ us) := by
  refine ⟨fun t ht => ?_, ?_⟩
  · rcases List.mem_append.mp ht with q | q
    · exact h.all t q
    · exact h'.all t q
  · show ((ts ++ us).map pr).Nodup
    rw [nd_iff, List.pairwise_append]
    exact ⟨nd_iff.mp h.nd, nd_iff.mp h'.nd, d⟩
-- GbG
theorem TiesOk.one {m s : Int} {t : Tie} (h : TieOk m s t) : TiesOk m s [t] := ⟨fun u hu => by
  rw [List.mem_singleton] at hu
  rw [hu]
  exact h, by simp⟩
-- GbG
theorem TiesOk.snoc {m s : Int} {ts : List Tie} {t : Tie} (h : TiesOk m s ts) (ht : TieOk m s t) (d : ∀ x ∈ ts, pr x ≠ pr t) : TiesOk m s (ts ++ [t]) :=
  h.app (.one ht) fun x hx y hy => by
    rw [List.mem_singleton] at hy
    rw [hy]
    exact d x hx
-- GbG
/-- rising by their second posts, from lo to below hi -/
structure Ris (lo hi : Int) (ts : List Tie) : Prop where
  pw : ts.Pairwise fun x y => x.b < y.b
  lo_ : ∀ t ∈ ts, lo ≤ t.b
  hi_ : ∀ t ∈ ts, t.b < hi
-- GbG
theorem Ris.app {lo mi hi : Int} {ts us : List Tie} (h : Ris lo mi ts) (h' : Ris mi hi us) (h1 : lo ≤ mi) (h2 : mi ≤ hi) : Ris lo hi (ts ++ us) := by
  refine ⟨List.pairwise_append.mpr ⟨h.pw, h'.pw, fun x hx y hy => ?_⟩, fun t ht => ?_, fun t ht => ?_⟩
  · have q1 := h.hi_ x hx
    have q2 := h'.lo_ y hy
    omega
  · rcases List.mem_append.mp ht with q | q
    · exact h.lo_ t q
    · have := h'.lo_ t q
      omega
  · rcases List.mem_append.mp ht with q | q
    · have := h.hi_ t q
      omega
    · exact h'.hi_ t q
-- GbG
theorem Ris.ties {m s lo hi : Int} {ts : List Tie} (r : Ris lo hi ts) (h : ∀ t ∈ ts, TieOk m s t) : TiesOk m s ts := by
  refine ⟨h, ?_⟩
  show (ts.map pr).Nodup
  rw [nd_iff]
  refine r.pw.imp fun {x y} q e => ?_
  have e2 : x.b = y.b := congrArg Prod.snd e
  omega
-- GbG
theorem Dbl.split {ts ts' : List Tie} {i : Nat} {times : Int} (d : Dbl ts i times ts') : ∃ (t t' : Tie), ts = ts.take i ++ [t] ++ ts.drop (i + 1) ∧ ts' = ts.take i ++ [t'] ++ ts.drop (i + 1) ∧ t'.a = t.a ∧ t'.b = t.b ∧ ((t'.c = times ∧ t'.d = 1) ∨ (t'.c = 1 ∧ t'.d = times)) := by
  obtain ⟨t, x, y, ht, hxy, rfl⟩ := d.ex
  obtain ⟨hi, rfl⟩ := List.getElem?_eq_some_iff.mp ht
  refine ⟨ts[i], _, ?_, rfl, rfl, rfl, hxy⟩
  rw [List.append_assoc, List.singleton_append, ← List.drop_eq_getElem_cons hi, List.take_append_drop]
-- GbG
theorem Dbl.len {ts ts' : List Tie} {i : Nat} {times : Int} (d : Dbl ts i times ts') : ts'.length = ts.length := by
  obtain ⟨t, t', e1, e2, _⟩ := d.split
  have h1 := congrArg List.length e1
  have h2 := congrArg List.length e2
  rw [List.length_append, List.length_append, List.length_singleton] at h1 h2
  omega
-- GbG
theorem Dbl.ok {m m' s times : Int} {ts ts' : List Tie} {i : Nat} (d : Dbl ts i times ts') (h : TiesOk m s ts) (hm : m ≤ m') (h1 : 1 ≤ times) (h2 : times ≤ m') (h3 : 1 ≤ m') : TiesOk m' s ts' := by
  obtain ⟨t, t', e1, e2, ea, eb, hc⟩ := d.split
  have hmem : t ∈ ts := by
    rw [e1]
    exact List.mem_append_left _ (List.mem_append_right _ (List.mem_singleton.mpr rfl))
  have ht := h.all t hmem
  refine ⟨fun u hu => ?_, ?_⟩
  · rw [e2] at hu
    rcases List.mem_append.mp hu with q | q
    · rcases List.mem_append.mp q with q | q
      · exact (h.all u (List.mem_of_mem_take q)).mono hm (Int.le_refl _)
      · rw [List.mem_singleton] at q
        rw [q]
        refine ⟨by rw [ea]; exact ht.a0, by rw [ea, eb]; exact ht.ab, by rw [eb]; exact ht.bs, ?_, ?_, ?_, ?_⟩
        · rcases hc with ⟨a, b⟩ | ⟨a, b⟩ <;> omega
        · rcases hc with ⟨a, b⟩ | ⟨a, b⟩ <;> omega
        · rcases hc with ⟨a, b⟩ | ⟨a, b⟩ <;> omega
        · rcases hc with ⟨a, b⟩ | ⟨a, b⟩ <;> omega
    · exact (h.all u (List.mem_of_mem_drop q)).mono hm (Int.le_refl _)
  · have e : ts'.map pr = ts.map pr := by
      rw [e2, List.map_append, List.map_append]
      have e3 : ts.map pr = (ts.take i).map pr ++ [pr t] ++ (ts.drop (i + 1)).map pr := by
        have q := congrArg (List.map pr) e1
        rw [List.map_append, List.map_append] at q
        exact q
      rw [e3]
      have ep : pr t' = pr t := by
        show (t'.a, t'.b) = (t.a, t.b)
        rw [ea, eb]
      show (ts.take i).map pr ++ [pr t'] ++ _ = _
      rw [ep]
    show (ts'.map pr).Nodup
    rw [e]
    exact h.nd
-- GbG
def renT (f : Int → Int) (t : Tie) : Tie := if f t.a < f t.b then ⟨f t.a, f t.b, t.c, t.d⟩ else ⟨f t.b, f t.a, t.d, t.c⟩
-- GbG
theorem ren_ties {m s : Int} {ts : List Tie} {f : Int → Int} (h : TiesOk m s ts) (hr : ∀ i, 0 ≤ i → i < s → 0 ≤ f i ∧ f i < s) (hi : ∀ i j, 0 ≤ i → i < s → 0 ≤ j → j < s → f i = f j → i = j) : TiesOk m s (ts.map (renT f)) := by
  refine ⟨fun u hu => ?_, ?_⟩
  · obtain ⟨t, ht, rfl⟩ := List.mem_map.mp hu
    have q := h.all t ht
    have q1 := q.a0
    have q2 := q.ab
    have q3 := q.bs
    have ha := hr t.a (by omega) (by omega)
    have hb := hr t.b (by omega) (by omega)
    unfold renT
    by_cases c : f t.a < f t.b
    · rw [if_pos c]
      exact ⟨ha.1, c, hb.2, q.c1, q.cm, q.d1, q.dm⟩
    · rw [if_neg c]
      have ne : f t.a ≠ f t.b := fun e => by
        have := hi _ _ (by omega) (by omega) (by omega) (by omega) e
        omega
      exact ⟨hb.1, by show f t.b < f t.a; omega, ha.2, q.d1, q.dm, q.c1, q.cm⟩
  · show ((ts.map (renT f)).map pr).Nodup
    rw [nd_iff, List.pairwise_map]
    have hp := nd_iff.mp h.nd
    refine List.Pairwise.imp_of_mem (fun {x y} hx hy q e => q ?_) hp
    have x1 := h.all x hx
    have y1 := h.all y hy
    have xa := x1.a0
    have xb := x1.ab
    have xs := x1.bs
    have ya := y1.a0
    have yb := y1.ab
    have ys := y1.bs
    have key : ∀ i j, 0 ≤ i → i < s → 0 ≤ j → j < s → f i = f j → i = j := hi
    have e1 : (renT f x).a = (renT f y).a := congrArg Prod.fst e
    have e2 : (renT f x).b = (renT f y).b := congrArg Prod.snd e
    show (x.a, x.b) = (y.a, y.b)
    unfold renT at e1 e2
    by_cases c1 : f x.a < f x.b
    · rw [if_pos c1] at e1 e2
      by_cases c2 : f y.a < f y.b
      · rw [if_pos c2] at e1 e2
        rw [key x.a y.a (by omega) (by omega) (by omega) (by omega) e1, key x.b y.b (by omega) (by omega) (by omega) (by omega) e2]
      · rw [if_neg c2] at e1 e2
        have k1 := key x.a y.b (by omega) (by omega) (by omega) (by omega) e1
        have k2 := key x.b y.a (by omega) (by omega) (by omega) (by omega) e2
        omega
    · rw [if_neg c1] at e1 e2
      by_cases c2 : f y.a < f y.b
      · rw [if_pos c2] at e1 e2
        have k1 := key x.b y.a (by omega) (by omega) (by omega) (by omega) e1
        have k2 := key x.a y.b (by omega) (by omega) (by omega) (by omega) e2
        omega
      · rw [if_neg c2] at e1 e2
        rw [key x.b y.b (by omega) (by omega) (by omega) (by omega) e1, key x.a y.a (by omega) (by omega) (by omega) (by omega) e2]
-- GbH
theorem go_same {p c : Addr} {k : Nat} {H H1 H2 : Hp} (g : Go p c k H H1) (s : Same H1 H2) : Go p c k H H2 := g.trans (Go.of (p := p) (c := c) s)
-- GbH
/-- (size, ties) -/
def Web2 (K : PySem.W.Frag) (H : Hp) (r : V) (s : Int) (ts : List Tie) : Prop := ∃ t v, r = .ref t ∧ H t = some (.tup [.int s, v]) ∧ Ls K H v ts
-- GbH
theorem Ls.nw {K : PySem.W.Frag} {H H' : Hp} {v : V} {ts : List Tie} (h : Ls K (nw H H') v ts) : Ls K H' v ts := h.ex (Ex.of nw_le)
-- GbH
def spGood (K : PySem.W.Frag) : Sp := fun vs H Q _ => ∃ (p c : Addr) (n : Nat) (most : Int), vs = [.ref p, .int most] ∧ Pen H p c n ∧ n + 10 ≤ 2 ^ 60 ∧ 1 ≤ most ∧ most ≤ 12 ∧
  ∀ (r : V) (H' : Hp) (s : Int) (ts : List Tie), Go p c 10 H H' → Web2 K H' r s ts → 1 ≤ s → s ≤ most → TiesOk 3 s ts → ts.length ≤ 20 → Q r H'
-- GbI
def spFlat (K : PySem.W.Frag) : Sp := fun vs H Q _ => ∃ (p c : Addr) (n : Nat) (most : Int), vs = [.ref p, .int most] ∧ Pen H p c n ∧ n + 10 ≤ 2 ^ 60 ∧ 2 ≤ most ∧ most ≤ 12 ∧
  ∀ (r : V) (H' : Hp) (s : Int) (ts : List Tie), Go p c 10 H H' → Web2 K H' r s ts → 2 ≤ s → s ≤ most → TiesOk 4 s ts → ts.length ≤ 20 → 0 < ts.length → Q r H'
-- GbJ
/-- the same web, its posts called otherwise, its ties in another order -/
structure Ren (s : Int) (ts ts' : List Tie) : Prop where
  ex : ∃ f : Int → Int, (∀ i, 0 ≤ i → i < s → 0 ≤ f i ∧ f i < s) ∧ (∀ i j, 0 ≤ i → i < s → 0 ≤ j → j < s → f i = f j → i = j) ∧ ts'.Perm (ts.map (renT f))
-- GbJ
theorem Ren.ok {m s : Int} {ts ts' : List Tie} (r : Ren s ts ts') (h : TiesOk m s ts) : TiesOk m s ts' := by
  obtain ⟨f, h1, h2, h3⟩ := r.ex
  exact (ren_ties h h1 h2).perm h3
-- GbJ
theorem Ren.len {s : Int} {ts ts' : List Tie} (r : Ren s ts ts') : ts'.length = ts.length := by
  obtain ⟨f, h1, h2, h3⟩ := r.ex
  rw [h3.length_eq, List.length_map]
-- GbJ
def spRen (K : PySem.W.Frag) : Sp := fun vs H Q _ => ∃ (p c : Addr) (n : Nat) (s m : Int) (v : V) (ts : List Tie), vs = [.ref p, .int s, v] ∧ Pen H p c n ∧ n + 300 ≤ 2 ^ 60 ∧ 1 ≤ s ∧ s ≤ 12 ∧ Is K H v ts ∧ TiesOk m s ts ∧ ts.length ≤ 200 ∧
  ∀ (r : V) (H' : Hp) (ts' : List Tie), Go p c 300 H H' → Ls K H' r ts' → Ren s ts ts' → Q r H'
-- GbK
theorem int4 {a b c d : Int} {i : Nat} {v : V} (h : ([.int a, .int b, .int c, .int d] : List V)[i]? = some v) {R : Int → Prop} (ha : R a) (hb : R b) (hc : R c) (hd : R d) : ∃ z, v = .int z ∧ R z := by
  match i, h with
  | 0, e => exact ⟨_, (Option.some.inj e).symm, ha⟩
  | 1, e => exact ⟨_, (Option.some.inj e).symm, hb⟩
  | 2, e => exact ⟨_, (Option.some.inj e).symm, hc⟩
  | 3, e => exact ⟨_, (Option.some.inj e).symm, hd⟩
-- GbK
def spWeb (K : PySem.W.Frag) (lo : Int) : Sp := fun vs H Q _ => ∃ (p c : Addr) (n : Nat) (most : Int), vs = [.ref p, .int most] ∧ Pen H p c n ∧ n + 1000 ≤ 2 ^ 60 ∧ lo ≤ most ∧ most ≤ 12 ∧
  ∀ (r : V) (H' : Hp) (s : Int) (ts : List Tie), Go p c 1000 H H' → Web2 K H' r s ts → 1 ≤ s → s ≤ most → TiesOk 9 s ts → ts.length ≤ 200 → Q r H'
-- GbM
def spSteep (K : PySem.W.Frag) : Sp := fun vs H Q _ => ∃ (p c : Addr) (n : Nat) (most : Int), vs = [.ref p, .int most] ∧ Pen H p c n ∧ n + 20 ≤ 2 ^ 60 ∧ 2 ≤ most ∧ most ≤ 12 ∧
  ∀ (r : V) (H' : Hp) (s : Int) (ts : List Tie), Go p c 20 H H' → Web2 K H' r s ts → 2 ≤ s → s ≤ most → TiesOk 9 s ts → ts.length ≤ 30 → Q r H'
-- GbN
theorem int7 {a b c d e f g : Int} {i : Nat} {v : V} (h : ([.int a, .int b, .int c, .int d, .int e, .int f, .int g] : List V)[i]? = some v) {R : Int → Prop} (ha : R a) (hb : R b) (hc : R c) (hd : R d) (he : R e) (hf : R f) (hg : R g) : ∃ z, v = .int z ∧ R z := by
  match i, h with
  | 0, e => exact ⟨_, (Option.some.inj e).symm, ha⟩
  | 1, e => exact ⟨_, (Option.some.inj e).symm, hb⟩
  | 2, e => exact ⟨_, (Option.some.inj e).symm, hc⟩
  | 3, e => exact ⟨_, (Option.some.inj e).symm, hd⟩
  | 4, e => exact ⟨_, (Option.some.inj e).symm, he⟩
  | 5, e => exact ⟨_, (Option.some.inj e).symm, hf⟩
  | 6, e => exact ⟨_, (Option.some.inj e).symm, hg⟩
-- GbN
/-- the ties so far of a web whose posts are gone through: all with first posts below i, those of i with second posts below i + 1 + j -/
structure AnyAt (K : PySem.W.Frag) (p c : Addr) (H : Hp) (l : Addr) (s : Int) (i j : Nat) (H' : Hp) (vs : List V) (ts : List Tie) : Prop where
  loc : Loc p c (1 + 48 * i + 4 * j) H H' l vs
  all : All K (del H' l) vs ts
  ok : TiesOk 9 s ts
  lt : ∀ t ∈ ts, t.a < i ∨ (t.a = i ∧ t.b < i + 1 + j)
  len : ts.length ≤ 12 * i + j
-- GbO
def spSome (K : PySem.W.Frag) : Sp := fun vs H Q _ => ∃ (p c : Addr) (n : Nat) (most : Int), vs = [.ref p, .int most] ∧ Pen H p c n ∧ n + 2000 ≤ 2 ^ 60 ∧ 2 ≤ most ∧ most ≤ 12 ∧
  ∀ (r : V) (H' : Hp) (s : Int) (ts : List Tie), Go p c 2000 H H' → Web2 K H' r s ts → 1 ≤ s → s ≤ most → TiesOk 9 s ts → ts.length ≤ 200 → Q r H'
-- GbO
def spNum (K : PySem.W.Frag) : Sp := fun vs H Q _ => ∃ (p c : Addr) (n far : Nat), vs = [.ref p, .int (far : Int)] ∧ Pen H p c n ∧ n + 110 ≤ 2 ^ 60 ∧ 2 ≤ far ∧ far ≤ 60 ∧
  ∀ (r : Int) (H' : Hp), Go p c 110 H H' → -(10 ^ far) < r → r < 10 ^ far → Q (.int r) H'
-- GbP
/-- a row of numbers at an address, a standing -/
def rowH (ns : List Int) : HO := .tup (ns.map V.int)
-- GbP
structure StAt (H : Hp) (v : V) (o n : List Int) : Prop where
  ex : ∃ t a b, v = .ref t ∧ H t = some (.tup [.ref a, .ref b]) ∧ H a = some (rowH o) ∧ H b = some (rowH n)
-- GbP
theorem StAt.same {H H' : Hp} {v : V} {o n : List Int} (e : Ex H H') (h : StAt H v o n) : StAt H' v o n := by
  obtain ⟨t, a, b, rfl, h1, h2, h3⟩ := h.ex
  exact ⟨t, a, b, rfl, e _ _ h1 trivial, e _ _ h2 trivial, e _ _ h3 trivial⟩
-- GbP
def spStand (K : PySem.W.Frag) : Sp := fun vs H Q _ => ∃ (p c : Addr) (m far : Nat) (s : Int), vs = [.ref p, .int s, .int (far : Int)] ∧ Pen H p c m ∧ m + 3000 ≤ 2 ^ 60 ∧ 1 ≤ s ∧ s ≤ 12 ∧ 2 ≤ far ∧ far ≤ 60 ∧
  ∀ (r : V) (H' : Hp) (o n : List Int), Go p c 3000 H H' → StAt H' r o n → (o.length : Int) = s → (n.length : Int) = s → (∀ k ∈ o ++ n, -(10 ^ far) < k ∧ k < 10 ^ far) → Q r H'
end
end Gb
set_option maxRecDepth 100000
set_option maxHeartbeats 4000000
namespace Gb
open PySem PySem.Spec PyProof.Rows L2
open PySem.W (Datum Tup T4)
def rowV (M : Nat → Nat → Int) (s i : Nat) : List V := (List.range s).map fun j => V.int (M i j)
theorem rowV_len {M : Nat → Nat → Int} {s i : Nat} : (rowV M s i).length = s := by
  unfold rowV
  rw [List.length_map, List.length_range]
theorem rowV_get {M : Nat → Nat → Int} {s i j : Nat} (h : j < s) : (rowV M s i)[j]? = some (.int (M i j)) := by
  unfold rowV
  rw [List.getElem?_map, List.getElem?_range h]
  rfl
/-- there and back of the ties -/
def setM (M : Nat → Nat → Int) (i j : Nat) (x : Int) : Nat → Nat → Int := fun a b => if a = i ∧ b = j then x else M a b
def tieM (M : Nat → Nat → Int) (t : Tie) : Nat → Nat → Int := setM (setM M t.a.toNat t.b.toNat t.c) t.b.toNat t.a.toNat t.d
def matOf (ts : List Tie) : Nat → Nat → Int := ts.foldl tieM fun _ _ => 0
theorem rowV_set {M : Nat → Nat → Int} {s i j : Nat} {x : Int} : (rowV M s i).set j (.int x) = rowV (setM M i j x) s i := by
  apply List.ext_getElem?
  intro k
  rw [List.getElem?_set, rowV_len]
  by_cases hk : k < s
  · rw [rowV_get hk, rowV_get hk]
    by_cases e : j = k
    · subst e
      rw [if_pos rfl, if_pos hk]
      show _ = some (V.int (if i = i ∧ j = j then x else M i j))
      rw [if_pos ⟨rfl, rfl⟩]
    · rw [if_neg e]
      show _ = some (V.int (if i = i ∧ k = j then x else M i k))
      rw [if_neg (fun h => e h.2.symm)]
  · have h1 : (rowV M s i)[k]? = none := List.getElem?_eq_none (by rw [rowV_len]; omega)
    have h2 : (rowV (setM M i j x) s i)[k]? = none := List.getElem?_eq_none (by rw [rowV_len]; omega)
    rw [h1, h2]
    split
    · rw [if_neg (by omega)]
    · rfl
theorem rowV_other {M : Nat → Nat → Int} {s i j k : Nat} {x : Int} (h : k ≠ i) : rowV (setM M i j x) s k = rowV M s k := by
  unfold rowV
  apply List.map_congr_left
  intro b _
  show V.int (if k = i ∧ b = j then x else M k b) = _
  rw [if_neg (fun e => h e.1)]
theorem rowV_zero {s i : Nat} : rowV (fun _ _ => 0) s i = (List.replicate s [V.int 0]).flatten := by
  unfold rowV
  apply List.ext_getElem?
  intro k
  have e : ∀ n : Nat, (List.replicate n [V.int 0]).flatten = List.replicate n (V.int 0) := by
    intro n
    induction n with
    | zero => rfl
    | succ n ih =>
      rw [List.replicate_succ, List.flatten_cons, ih]
      rfl
  rw [e, List.getElem?_map, List.getElem?_replicate]
  by_cases hk : k < s
  · rw [List.getElem?_range hk, if_pos hk]
    rfl
  · rw [if_neg hk, List.getElem?_eq_none (by rw [List.length_range]; omega)]
    rfl
theorem ixN_nat {n i : Nat} (h : i < n) : ixN n (i : Int) = some i := by
  unfold ixN
  rw [if_pos (by omega), if_pos (by omega), Int.toNat_natCast]
theorem atI_nat {xs : List V} {i : Nat} {v : V} (h : xs[i]? = some v) : atI xs (i : Int) = some v := by
  unfold atI
  rw [ixN_nat (List.getElem?_eq_some_iff.mp h).1]
  exact h
/-- a list of lists of its own -/
structure Rows (H0 H : Hp) (D : Addr) (rs : List Addr) (R : Nat → List V) : Prop where
  fD : H0 D = none
  at_ : H D = some (.lst (rs.map V.ref))
  nd : rs.Nodup
  nD : D ∉ rs
  fr : ∀ a ∈ rs, H0 a = none
  it : ∀ i a, rs[i]? = some a → H a = some (.lst (R i))
  ol : Same H0 H
section
variable {H0 H H' : Hp} {D : Addr} {rs : List Addr} {R : Nat → List V}
theorem Rows.start (h : H0 D = none) : Rows H0 (upd H0 D (.lst [])) D [] R := ⟨h, upd_same, List.Pairwise.nil, (fun h => by cases h), (fun a h => by cases h), (fun i a h => by cases h), same_new h⟩
theorem Rows.same (A : Rows H0 H D rs R) (e : Same H H') : Rows H0 H' D rs R := ⟨A.fD, e _ _ A.at_, A.nd, A.nD, A.fr, fun i a h => e _ _ (A.it i a h), A.ol.trans e⟩
theorem Rows.snoc (A : Rows H0 H D rs R) {l : Addr} {z : List V} (h : H l = none) (hz : R rs.length = z) : Rows H0 (upd (upd H l (.lst z)) D (.lst (rs.map V.ref ++ [.ref l]))) D (rs ++ [l]) R := by
  have hlD : l ≠ D := fun e => by
    rw [e, A.at_] at h
    cases h
  have hl0 : H0 l = none := A.ol.free h
  have nl : l ∉ rs := fun hm => by
    obtain ⟨i, hi⟩ := List.getElem?_of_mem hm
    rw [A.it i l hi] at h
    cases h
  have ne : ∀ a ∈ rs, a ≠ D := fun a ha e => A.nD (e ▸ ha)
  refine ⟨A.fD, ?_, ?_, ?_, ?_, ?_, ?_⟩
  · rw [upd_same, List.map_append]
    rfl
  · exact List.nodup_append.mpr ⟨A.nd, List.pairwise_singleton _ _, fun a ha b hb => by
      rw [List.mem_singleton.mp hb]
      exact fun e => nl (e ▸ ha)⟩
  · intro hm
    rcases List.mem_append.mp hm with hm | hm
    · exact A.nD hm
    · exact hlD (List.mem_singleton.mp hm).symm
  · intro a ha
    rcases List.mem_append.mp ha with ha | ha
    · exact A.fr a ha
    · rw [List.mem_singleton.mp ha]
      exact hl0
  · intro i a hi
    by_cases hlt : i < rs.length
    · rw [List.getElem?_append_left hlt] at hi
      have ha := List.mem_of_getElem? hi
      have nal : a ≠ l := fun e => nl (e ▸ ha)
      rw [upd_ne (ne a ha), upd_ne nal]
      exact A.it i a hi
    · rw [List.getElem?_append_right (by omega)] at hi
      have h0 : i - rs.length = 0 := by
        cases e : i - rs.length with
        | zero => rfl
        | succ n =>
          rw [e] at hi
          cases hi
      rw [h0] at hi
      have ea : l = a := Option.some.inj hi
      have ei : i = rs.length := by omega
      rw [← ea, upd_ne hlD, upd_same, ei, hz]
  · intro b o e
    have h1 : b ≠ D := fun q => by
      rw [q, A.fD] at e
      cases e
    have h2 : b ≠ l := fun q => by
      rw [q, hl0] at e
      cases e
    rw [upd_ne h1, upd_ne h2]
    exact A.ol _ _ e
theorem Rows.set (A : Rows H0 H D rs R) {i : Nat} {a : Addr} {z : List V} {R' : Nat → List V} (h : rs[i]? = some a) (hz : R' i = z) (ho : ∀ k, k ≠ i → R' k = R k) : Rows H0 (upd H a (.lst z)) D rs R' := by
  have ha := List.mem_of_getElem? h
  have hil := (List.getElem?_eq_some_iff.mp h).1
  refine ⟨A.fD, ?_, A.nd, A.nD, A.fr, ?_, ?_⟩
  · rw [upd_ne (fun e => A.nD (by rw [e]; exact ha))]
    exact A.at_
  · intro k b hk
    by_cases e : k = i
    · subst e
      have eb : a = b := Option.some.inj (h.symm.trans hk)
      rw [← eb, upd_same, hz]
    · have hkl := (List.getElem?_eq_some_iff.mp hk).1
      have nb : b ≠ a := fun q => by
        have := (List.getElem_inj (h₀ := hkl) (h₁ := hil) A.nd).mp (by
          have q1 := (List.getElem?_eq_some_iff.mp hk).2
          have q2 := (List.getElem?_eq_some_iff.mp h).2
          rw [q1, q2, q])
        exact e this
      rw [upd_ne nb, ho k e]
      exact A.it k b hk
  · intro b o e
    rw [upd_ne (fun q => by rw [q, A.fr a ha] at e; cases e)]
    exact A.ol _ _ e
end
end Gb
set_option maxRecDepth 100000
set_option maxHeartbeats 4000000
/-! Maths of webs: ties told and given, gains as sums over ties, bounds. -/
namespace Fv
open PySem PySem.Spec PyProof.Rows L2 Gb
open PySem.W (T4)
/-! ### pairs -/
theorem mem_pairsW {s : Nat} {p : Nat × Nat} (h : p ∈ pairsW s) : p.1 < p.2 ∧ p.2 < s := by
  unfold pairsW at h
  obtain ⟨i, hi, h⟩ := List.mem_flatMap.mp h
  obtain ⟨d, hd, rfl⟩ := List.mem_map.mp h
  have h1 := List.mem_range.mp hi
  have h2 := List.mem_range.mp hd
  exact ⟨by show i < i + 1 + d; omega, by show i + 1 + d < s; omega⟩
theorem in_pairsW {s i j : Nat} (h1 : i < j) (h2 : j < s) : (i, j) ∈ pairsW s := by
  unfold pairsW
  refine List.mem_flatMap.mpr ⟨i, List.mem_range.mpr (by omega), List.mem_map.mpr ⟨j - (i + 1), List.mem_range.mpr (by omega), ?_⟩⟩
  rw [show i + 1 + (j - (i + 1)) = j by omega]
/-- rising, pair by pair -/
def PLt (p q : Nat × Nat) : Prop := p.1 < q.1 ∨ (p.1 = q.1 ∧ p.2 < q.2)
theorem pairsW_rise (s : Nat) : (pairsW s).Pairwise PLt := by
  have gen : ∀ l : List Nat, l.Pairwise (· < ·) → (l.flatMap fun i => (List.range (s - (i + 1))).map fun d => (i, i + 1 + d)).Pairwise PLt := by
    intro l
    induction l with
    | nil => exact fun _ => List.Pairwise.nil
    | cons i l ih =>
      intro h
      obtain ⟨h1, h2⟩ := List.pairwise_cons.mp h
      rw [List.flatMap_cons]
      refine List.pairwise_append.mpr ⟨List.pairwise_map.mpr (List.pairwise_lt_range.imp fun {u w} e => .inr ⟨rfl, by show i + 1 + u < i + 1 + w; omega⟩), ih h2, fun p hp q hq => .inl ?_⟩
      obtain ⟨d, _, rfl⟩ := List.mem_map.mp hp
      obtain ⟨j, hj, hq⟩ := List.mem_flatMap.mp hq
      obtain ⟨d', _, rfl⟩ := List.mem_map.mp hq
      exact h1 j hj
  exact gen _ List.pairwise_lt_range
theorem PLt.ne {p q : Nat × Nat} (h : PLt p q) : p ≠ q := fun e => by
  subst e
  rcases h with h | h
  · exact Nat.lt_irrefl _ h
  · exact Nat.lt_irrefl _ h.2
theorem tieW_ok {M : Nat → Nat → Int} {p : Nat × Nat} {t : Tw} (h : tieW M p = some t) : t = ⟨p.1, p.2, M p.1 p.2, M p.2 p.1⟩ ∧ M p.1 p.2 > 0 := by
  unfold tieW at h
  split at h
  · rename_i h1
    cases h
    exact ⟨rfl, h1⟩
  · cases h
theorem mem_tiesW0 {M : Nat → Nat → Int} {s : Nat} {t : Tw} (h : t ∈ tiesW M s) : ∃ i j : Nat, i < j ∧ j < s ∧ t = ⟨i, j, M i j, M j i⟩ := by
  obtain ⟨p, hp, e⟩ := List.mem_filterMap.mp h
  obtain ⟨h1, h2⟩ := mem_pairsW hp
  exact ⟨p.1, p.2, h1, h2, (tieW_ok e).1⟩
/-! ### there and back -/
theorem tieM_off {M : Nat → Nat → Int} {t : Tw} {i j : Nat} (h1 : ¬ (t.a.toNat = i ∧ t.b.toNat = j)) (h2 : ¬ (t.b.toNat = i ∧ t.a.toNat = j)) : tieM M t i j = M i j := by
  unfold tieM setM
  rw [if_neg (fun e => h2 ⟨e.1.symm, e.2.symm⟩), if_neg (fun e => h1 ⟨e.1.symm, e.2.symm⟩)]
theorem mat_off {i j : Nat} : ∀ {ts : List Tw} {M : Nat → Nat → Int}, (∀ t ∈ ts, ¬ (t.a.toNat = i ∧ t.b.toNat = j) ∧ ¬ (t.b.toNat = i ∧ t.a.toNat = j)) → ts.foldl tieM M i j = M i j
  | [], _, _ => rfl
  | t :: ts, M, h => by
    rw [List.foldl_cons, mat_off fun t' h' => h t' (List.mem_cons_of_mem _ h')]
    exact tieM_off (h t List.mem_cons_self).1 (h t List.mem_cons_self).2
theorem mat_on {s : Int} {ts : List Tw} (ok : TiesOk 9 s ts) {t : Tw} (ht : t ∈ ts) : matOf ts t.a.toNat t.b.toNat = t.c ∧ matOf ts t.b.toNat t.a.toNat = t.d := by
  obtain ⟨l1, l2, rfl⟩ := List.append_of_mem ht
  have o := ok.all t ht
  have hnd := ok.nd
  rw [List.map_append, List.map_cons] at hnd
  have h2 := (List.nodup_append.mp hnd).2.1
  have hnot : ∀ t' ∈ l2, (t'.a, t'.b) ≠ (t.a, t.b) := fun t' h' e => by
    have := (List.nodup_cons.mp h2).1
    exact this (e ▸ List.mem_map.mpr ⟨t', h', rfl⟩)
  have off : ∀ t' ∈ l2, ¬ (t'.a.toNat = t.a.toNat ∧ t'.b.toNat = t.b.toNat) ∧ ¬ (t'.b.toNat = t.a.toNat ∧ t'.a.toNat = t.b.toNat) := fun t' h' => by
    have o' := ok.all t' (List.mem_append_right _ (List.mem_cons_of_mem _ h'))
    have a1 := o.a0
    have a2 := o.ab
    have b1 := o'.a0
    have b2 := o'.ab
    refine ⟨fun e => hnot t' h' ?_, fun e => ?_⟩
    · have e1 : t'.a = t.a := by omega
      have e2 : t'.b = t.b := by omega
      rw [e1, e2]
    · omega
  have off' : ∀ t' ∈ l2, ¬ (t'.a.toNat = t.b.toNat ∧ t'.b.toNat = t.a.toNat) ∧ ¬ (t'.b.toNat = t.b.toNat ∧ t'.a.toNat = t.a.toNat) := fun t' h' => ⟨fun e => (off t' h').2 ⟨e.2, e.1⟩, fun e => (off t' h').1 ⟨e.2, e.1⟩⟩
  have hab : t.a.toNat ≠ t.b.toNat := by
    have a1 := o.a0
    have a2 := o.ab
    omega
  unfold matOf
  rw [List.foldl_append, List.foldl_cons, mat_off off, mat_off off']
  unfold tieM setM
  refine ⟨?_, ?_⟩
  · rw [if_neg (fun e => hab e.1), if_pos ⟨rfl, rfl⟩]
  · rw [if_pos ⟨rfl, rfl⟩]
theorem mat_none {s : Int} {ts : List Tw} (ok : TiesOk 9 s ts) {i j : Nat} (hij : i < j) (h : ∀ t ∈ ts, ¬ (t.a = (i : Int) ∧ t.b = (j : Int))) : matOf ts i j = 0 := by
  unfold matOf
  refine mat_off fun t ht => ?_
  have o := ok.all t ht
  have a1 := o.a0
  have a2 := o.ab
  exact ⟨fun e => h t ht ⟨by omega, by omega⟩, fun e => by omega⟩
theorem mem_tiesW {s : Nat} {ts : List Tw} (ok : TiesOk 9 (s : Int) ts) (t : Tw) : t ∈ tiesW (matOf ts) s ↔ t ∈ ts := by
  constructor
  · intro h
    obtain ⟨p, hp, e⟩ := List.mem_filterMap.mp h
    obtain ⟨h1, h2⟩ := mem_pairsW hp
    obtain ⟨et, hpos⟩ := tieW_ok e
    have hex : ∃ t' ∈ ts, t'.a = (p.1 : Int) ∧ t'.b = (p.2 : Int) := Classical.byContradiction fun hno => by
      have := mat_none ok h1 fun t' ht' e' => hno ⟨t', ht', e'⟩
      omega
    obtain ⟨t', ht', ea, eb⟩ := hex
    have on := mat_on ok ht'
    rw [ea, eb, Int.toNat_natCast, Int.toNat_natCast] at on
    have : t = t' := by
      rw [et, on.1, on.2, ← ea, ← eb]
    rw [this]
    exact ht'
  · intro h
    have o := ok.all t h
    have on := mat_on ok h
    have a1 := o.a0
    have a2 := o.ab
    have a3 := o.bs
    have c1 := o.c1
    refine List.mem_filterMap.mpr ⟨(t.a.toNat, t.b.toNat), in_pairsW (by omega) (by omega), ?_⟩
    unfold tieW
    show (if matOf ts t.a.toNat t.b.toNat > 0 then some (⟨(t.a.toNat : Int), (t.b.toNat : Int), matOf ts t.a.toNat t.b.toNat, matOf ts t.b.toNat t.a.toNat⟩ : Tw) else none) = some t
    rw [on.1, on.2, if_pos (by omega), Int.toNat_of_nonneg a1, Int.toNat_of_nonneg (by omega)]
/-- one tie ahead of another -/
def TLt (t u : Tw) : Prop := t.a < u.a ∨ (t.a = u.a ∧ t.b < u.b)
theorem TLt.ne {t u : Tw} (h : TLt t u) : t ≠ u := fun e => by
  subst e
  rcases h with h | h
  · exact Int.lt_irrefl _ h
  · exact Int.lt_irrefl _ h.2
theorem TLt.asymm {t u : Tw} (h : TLt t u) (h' : TLt u t) : False := by
  rcases h with h | h <;> rcases h' with h' | h' <;> omega
theorem tiesW_rise (M : Nat → Nat → Int) (s : Nat) : (tiesW M s).Pairwise TLt := by
  have gen : ∀ l : List (Nat × Nat), l.Pairwise PLt → (l.filterMap (tieW M)).Pairwise TLt := by
    intro l
    induction l with
    | nil => exact fun _ => List.Pairwise.nil
    | cons p l ih =>
      intro h
      obtain ⟨h1, h2⟩ := List.pairwise_cons.mp h
      rw [List.filterMap_cons]
      cases e : tieW M p with
      | none => exact ih h2
      | some t =>
        refine List.pairwise_cons.mpr ⟨fun u hu => ?_, ih h2⟩
        obtain ⟨q, hq, e'⟩ := List.mem_filterMap.mp hu
        have := h1 q hq
        rw [(tieW_ok e).1, (tieW_ok e').1]
        rcases this with h | h
        · exact .inl (by show (p.1 : Int) < q.1; omega)
        · exact .inr ⟨by show (p.1 : Int) = q.1; omega, by show (p.2 : Int) < q.2; omega⟩
  exact gen _ (pairsW_rise s)
theorem tiesW_nodup (M : Nat → Nat → Int) (s : Nat) : (tiesW M s).Nodup := (tiesW_rise M s).imp fun h => h.ne
theorem ties_nodup {s : Int} {ts : List Tw} (ok : TiesOk 9 s ts) : ts.Nodup := (List.pairwise_map.mp ok.nd).imp fun h e => h (by rw [e])
theorem perm_of {α : Type} [DecidableEq α] : ∀ {l m : List α}, l.Nodup → m.Nodup → (∀ x, x ∈ l ↔ x ∈ m) → l.Perm m
  | [], m, _, _, h => by
    cases m with
    | nil => exact List.Perm.nil
    | cons y _ => exact absurd ((h y).mpr List.mem_cons_self) (by simp)
  | x :: l, m, h1, h2, h => by
    obtain ⟨n1, n2⟩ := List.nodup_cons.mp h1
    have hx := (h x).mp List.mem_cons_self
    have ih := perm_of (l := l) (m := m.erase x) n2 (h2.erase x) fun y => by
      rw [h2.mem_erase_iff]
      constructor
      · intro hy
        exact ⟨fun e => n1 (e ▸ hy), (h y).mp (List.mem_cons_of_mem _ hy)⟩
      · intro hy
        exact (List.mem_cons.mp ((h y).mpr hy.2)).elim (fun e => absurd e hy.1) id
    exact (ih.cons x).trans (List.perm_cons_erase hx).symm
theorem tiesW_perm {s : Nat} {ts : List Tw} (ok : TiesOk 9 (s : Int) ts) : (tiesW (matOf ts) s).Perm ts := perm_of (tiesW_nodup _ _) (ties_nodup ok) fun t => mem_tiesW ok t
/-- rising lists that are one another's permutations are the same -/
theorem rise_eq {α : Type} {r : α → α → Prop} (as : ∀ x y, r x y → r y x → False) : ∀ {l m : List α}, l.Perm m → l.Pairwise r → m.Pairwise r → l = m
  | [], m, h, _, _ => by rw [h.nil_eq]
  | x :: l, m, h, h1, h2 => by
    cases m with
    | nil => exact absurd h.length_eq (by simp)
    | cons y m =>
      obtain ⟨a1, a2⟩ := List.pairwise_cons.mp h1
      obtain ⟨b1, b2⟩ := List.pairwise_cons.mp h2
      have e : x = y := Classical.byContradiction fun ne => by
        have hx := (List.mem_cons.mp (h.mem_iff.mp List.mem_cons_self)).resolve_left ne
        have hy := (List.mem_cons.mp (h.mem_iff.mpr (List.mem_cons_self (a := y) (l := m)))).resolve_left (fun e => ne e.symm)
        exact as _ _ (a1 _ hy) (b1 _ hx)
      subst e
      rw [rise_eq as (List.perm_cons _ |>.mp h) a2 b2]
/-! ### gains -/
def up (i : Int) : Int := if i > 0 then i else 0
def addAt (xs : List Int) (i : Nat) (d : Int) : List Int := xs.set i (xs.getD i 0 + d)
def gainT (ns : List Int) (acc : List Int) (t : Tw) : List Int :=
  addAt (addAt acc t.b.toNat (t.c * up (ns.getD t.a.toNat 0))) t.a.toNat (t.d * up (ns.getD t.b.toNat 0))
def gainsOf (ts : List Tw) (s : Nat) (ns : List Int) : List Int := ts.foldl (gainT ns) (List.replicate s 0)
def lessI (xs ys : List Int) : List Int := List.zipWith (fun x y => x - y) xs ys
theorem addAt_len {xs : List Int} {i : Nat} {d : Int} : (addAt xs i d).length = xs.length := by
  unfold addAt
  rw [List.length_set]
theorem gainT_len {ns acc : List Int} {t : Tw} : (gainT ns acc t).length = acc.length := by
  unfold gainT
  rw [addAt_len, addAt_len]
theorem fold_len {ns : List Int} : ∀ {ts : List Tw} {acc : List Int}, (ts.foldl (gainT ns) acc).length = acc.length
  | [], _ => rfl
  | t :: ts, acc => by rw [List.foldl_cons, fold_len, gainT_len]
theorem gains_len {ts : List Tw} {s : Nat} {ns : List Int} : (gainsOf ts s ns).length = s := by
  unfold gainsOf
  rw [fold_len, List.length_replicate]
/-- what a tie brings to post j -/
def ct (ns : List Int) (j : Nat) (t : Tw) : Int := (if t.b.toNat = j then t.c * up (ns.getD t.a.toNat 0) else 0) + (if t.a.toNat = j then t.d * up (ns.getD t.b.toNat 0) else 0)
theorem getD_some {xs : List Int} {j : Nat} (h : j < xs.length) : xs[j]? = some (xs.getD j 0) := by
  rw [List.getD_eq_getElem?_getD, List.getElem?_eq_getElem h]
  rfl
/-! ### bounds -/
def Wi (b : Int) (xs : List Int) : Prop := ∀ x ∈ xs, -b ≤ x ∧ x ≤ b
theorem Wi.mono {b c : Int} {xs : List Int} (h : Wi b xs) (hc : b ≤ c) : Wi c xs := fun x hx => by
  have := h x hx
  omega
theorem Wi.at {b : Int} {xs : List Int} (h : Wi b xs) (hb : 0 ≤ b) (j : Nat) : -b ≤ xs.getD j 0 ∧ xs.getD j 0 ≤ b := by
  rw [List.getD_eq_getElem?_getD]
  cases e : xs[j]? with
  | none => exact ⟨by show -b ≤ 0; omega, hb⟩
  | some x => exact h x (List.mem_of_getElem? e)
/-- has to do with j -/
def has (j : Nat) (t : Tw) : Bool := decide (t.a.toNat = j) || decide (t.b.toNat = j)
def oth (j : Nat) (t : Tw) : Nat := if t.a.toNat = j then t.b.toNat else t.a.toNat
theorem sub_len {α : Type} [DecidableEq α] : ∀ {l m : List α}, l.Nodup → (∀ x ∈ l, x ∈ m) → l.length ≤ m.length
  | [], _, _, _ => Nat.zero_le _
  | x :: l, m, h, hs => by
    obtain ⟨h1, h2⟩ := List.nodup_cons.mp h
    have hx := hs x List.mem_cons_self
    have := sub_len (l := l) (m := m.erase x) h2 fun y hy => (List.mem_erase_of_ne (fun e => h1 (by rw [← e]; exact hy))).mpr (hs y (List.mem_cons_of_mem _ hy))
    rw [List.length_erase_of_mem hx] at this
    have hp := List.length_pos_of_mem hx
    rw [List.length_cons]
    omega
end Fv
set_option maxRecDepth 100000
set_option maxHeartbeats 4000000
/-! What is handed in: whole numbers, sizes, ties. -/
namespace Fv
open PySem PySem.Spec PyProof.Rows L2 Gb
def isBtw (lo hi : Int) : PyData → Bool
  | .int i => decide (lo ≤ i) && decide (i ≤ hi)
  | _ => false
def fWhole : FB := fun ds n _ Q => ∃ d, ds = [.py d] ∧ Q (.py (.bool (isWhole d))) n
theorem sc_is_whole : FnScope ["thing"] ["thing"] (defScope s_is_whole) := ⟨rfl, rfl, rfl, by decide +kernel, rfl, by decide +kernel, by decide +kernel⟩
theorem ok_is_whole {F : Fx} (D : Dn F.K F.mg "is_whole" s_is_whole ["thing"]) (bz : Bz F.mg)  : ClB F 1 "is_whole" false fWhole := by
  refine cl_b D sc_is_whole (fun ds n EX QD h => ?_) (fun fa cdv A outer s H E pn B0 hr tk po => ?_)
  · obtain ⟨d, rfl, _⟩ := h
    rfl
  · have nd := sc_is_whole.nd
    refine ⟨_, _, (bss_one (bs_ret (be_and (be_isi (T := "int") (by decide) (by rfl) bz.isinstance (BE.f (be_nm 0 (pv 0))) (pe_bltn (v := .ty "int") (u := .type "int") (by rfl) bz.int (by decide +kernel) rfl)) (be_one (be_not (be_isi (T := "bool") (by decide) (by rfl) bz.isinstance (BE.f (be_nm 0 (pv 0))) (pe_bltn (v := .ty "bool") (u := .type "bool") (by rfl) bz.bool (by decide +kernel) rfl))))))), ?_⟩
    rintro _ n EX QD ⟨d, rfl, q⟩
    simp only [startB, Nat.reduceAdd, Nat.reduceSub, List.replicate_succ, List.replicate_zero, wLc, wLc2, wISeq, wipeB, List.set_cons_succ, List.set_cons_zero, wgTup, wgCons, wgNil, wgNm, Bool.not_true, Bool.not_false, Bool.false_eq_true, if_true, if_false, List.map_cons, List.map_nil, List.length_cons, List.length_nil, List.cons_append, List.nil_append, wName, List.getElem?_cons_zero, List.getElem?_cons_succ, wC, wOp, wCall, wACons, wANil, wAndV, wOrV, wNotV, wIsi, wIsi2, wCmp, wChain, wChain3, wOfT, wIfE, wAnd, wOr, wNotT, bInt, bEq, bNe, bIsN, bNotN, bIn, bNotIn, wCall1, bLen, bAll, bAny, bSum, sRet, sRetN, sRetO, sIf, sSeq, sNil, sExpr, sSet, sAsg, sPar, wVE, wVN, wOfN, wOfE, wTup, wLst, pyAll, isB_int, isB_bool]
    cases d <;> exact q
def fBetween : FB := fun ds n _ Q => ∃ d lo hi, ds = [.py d, .py (.int lo), .py (.int hi)] ∧ Q (.py (.bool (isBtw lo hi d))) n
theorem sc_is_between : FnScope ["thing", "low", "high"] ["thing", "low", "high"] (defScope s_is_between) := ⟨rfl, rfl, rfl, by decide +kernel, rfl, by decide +kernel, by decide +kernel⟩
theorem ok_is_between {F : Fx} (D : Dn F.K F.mg "is_between" s_is_between ["thing", "low", "high"]) (bz : Bz F.mg) (c_is_whole : ClB F 1 "is_whole" false fWhole) : ClB F 2 "is_between" false fBetween := by
  refine cl_b D sc_is_between (fun ds n EX QD h => ?_) (fun fa cdv A outer s H E pn B0 hr tk po => ?_)
  · obtain ⟨d, lo, hi, rfl, _⟩ := h
    rfl
  · have nd := sc_is_between.nd
    refine ⟨_, _, (bss_one (bs_ret (be_and (be_call c_is_whole hr (by decide) (by rfl) tk (ba_cons (be_nm 0 (pv 0)) ba_nil)) (be_one (be_chain op_le op_le of_int of_int (BE.f (be_nm 1 (pv 1))) (BE.f (be_nm 0 (pv 0))) (BE.f (be_nm 2 (pv 2)))))))), ?_⟩
    rintro _ n EX QD ⟨d, lo, hi, rfl, q⟩
    simp only [startB, Nat.reduceAdd, Nat.reduceSub, List.replicate_succ, List.replicate_zero, wLc, wLc2, wISeq, wipeB, List.set_cons_succ, List.set_cons_zero, wgTup, wgCons, wgNil, wgNm, Bool.not_true, Bool.not_false, Bool.false_eq_true, if_true, if_false, List.map_cons, List.map_nil, List.length_cons, List.length_nil, List.cons_append, List.nil_append, wName, List.getElem?_cons_zero, List.getElem?_cons_succ, wC, wOp, wCall, wACons, wANil, wAndV, wOrV, wNotV, wIsi, wIsi2, wCmp, wChain, wChain3, wOfT, wIfE, wAnd, wOr, wNotT, bInt, bEq, bNe, bIsN, bNotN, bIn, bNotIn, wCall1, bLen, bAll, bAny, bSum, sRet, sRetN, sRetO, sIf, sSeq, sNil, sExpr, sSet, sAsg, sPar, wVE, wVN, wOfN, wOfE, wTup, wLst, pyAll, fWhole]
    refine ⟨d, rfl, ?_⟩
    cases d <;> simp only [isWhole, isBtw, if_true, if_false, Bool.false_eq_true] at q ⊢ <;> try exact q
    rename_i i
    by_cases h1 : lo ≤ i
    · simp only [decide_eq_true h1, if_true, Bool.true_and] at q ⊢
      exact q
    · simp only [decide_eq_false h1, if_false, Bool.false_and, Bool.false_eq_true] at q ⊢
      exact q
def xPart (c part : Str) : Exn := ⟨c, [("part", .str part)]⟩
def fiPart : FI := fun ds Q => ∃ p, ds = [p] ∧ Q [("part", p)]
def fNeedSize : FB := fun ds n EX Q => ∃ d, ds = [.py d] ∧ if isBtw 1 12 d = true then Q (.py .none) n else EX (xPart "NoWeb" "size") n
theorem sc_need_size : FnScope ["size"] ["size"] (defScope s_need_size) := ⟨rfl, rfl, rfl, by decide +kernel, rfl, by decide +kernel, by decide +kernel⟩
theorem ok_need_size {F : Fx} (D : Dn F.K F.mg "need_size" s_need_size ["size"]) (bz : Bz F.mg) {CE : Addr} (c_is_between : ClB F 2 "is_between" false fBetween) (e_NoWeb : ClE F 1 "NoWeb" CE fiPart) (v_MOST_POSTS : ∃ u, F.mg "MOST_POSTS" = some u ∧ RelV (.int 12) u) : ClB F 3 "need_size" false fNeedSize := by
  refine cl_b D sc_need_size (fun ds n EX QD h => ?_) (fun fa cdv A outer s H E pn B0 hr tk po => ?_)
  · obtain ⟨d, rfl, _⟩ := h
    rfl
  · have nd := sc_need_size.nd
    refine ⟨_, _, (bss_one (bs_if (bt_not (bt_val (be_call c_is_between hr (by decide) (by rfl) tk (ba_cons (be_nm 0 (pv 0)) (ba_cons be_int (ba_cons (be_gi (pe_gv (by rfl) v_MOST_POSTS)) ba_nil))))))
    (bss_one (bs_raise e_NoWeb hr (by decide) rfl (by rfl) tk (ba_cons be_str ba_nil)))
    bss_nil)), ?_⟩
    rintro _ n EX QD ⟨d, rfl, q⟩
    simp only [startB, Nat.reduceAdd, Nat.reduceSub, List.replicate_succ, List.replicate_zero, wLc, wLc2, wISeq, wipeB, List.set_cons_succ, List.set_cons_zero, wgTup, wgCons, wgNil, wgNm, Bool.not_true, Bool.not_false, Bool.false_eq_true, if_true, if_false, List.map_cons, List.map_nil, List.length_cons, List.length_nil, List.cons_append, List.nil_append, wName, List.getElem?_cons_zero, List.getElem?_cons_succ, wC, wOp, wCall, wACons, wANil, wAndV, wOrV, wNotV, wIsi, wIsi2, wCmp, wChain, wChain3, wOfT, wIfE, wAnd, wOr, wNotT, bInt, bEq, bNe, bIsN, bNotN, bIn, bNotIn, wCall1, bLen, bAll, bAny, bSum, sRet, sRetN, sRetO, sIf, sSeq, sNil, sExpr, sSet, sAsg, sPar, wVE, wVN, wOfN, wOfE, wTup, wLst, pyAll, sRaise, fBetween]
    refine ⟨d, 1, 12, rfl, ?_⟩
    cases hb : isBtw 1 12 d with
    | true =>
      rw [hb, if_pos rfl] at q
      exact ⟨trivial, q⟩
    | false =>
      rw [hb, if_neg Bool.false_ne_true] at q
      exact ⟨by decide, _, rfl, q⟩
def goodT (s a b c d : Int) : Bool := decide (0 ≤ a) && decide (a < b) && decide (b < s) && decide (1 ≤ c) && decide (c ≤ 9) && decide (1 ≤ d) && decide (d ≤ 9)
/-- the tie that a datum is -/
def tieT (s : Int) : PyData → Option Tw
  | .tuple [.int a, .int b, .int c, .int d] => if goodT s a b c d = true then some ⟨a, b, c, d⟩ else none
  | _ => none
theorem tieT_some {s : Int} {d : PyData} {t : Tw} (h : tieT s d = some t) : d = tieD t ∧ goodT s t.a t.b t.c t.d = true := by
  unfold tieT at h
  split at h
  · split at h
    · rename_i h1
      cases h
      exact ⟨rfl, h1⟩
    · cases h
  · cases h
theorem tieT_short {s : Int} {ds : List PyData} (h : ds.length ≠ 4) : tieT s (.tuple ds) = none := by
  unfold tieT
  split
  · rename_i e
    cases e
    exact absurd rfl h
  · rfl
theorem tieT_wh {s : Int} {ds : List PyData} (h : ds.all isWhole = false) : tieT s (.tuple ds) = none := by
  unfold tieT
  split
  · rename_i e
    cases e
    exact absurd h (by simp [isWhole])
  · rfl
theorem tieT_good {s a b c d : Int} : (tieT s (.tuple [.int a, .int b, .int c, .int d])).isSome = goodT s a b c d := by
  unfold tieT
  cases h : goodT s a b c d with
  | true =>
    simp only [h, if_true]
    rfl
  | false =>
    simp only [h, Bool.false_eq_true, if_false]
    rfl
theorem len4 {α : Type} {ds : List α} (h : ds.length = 4) : ∃ a b c d, ds = [a, b, c, d] := by
  match ds, h with
  | [a, b, c, d], _ => exact ⟨a, b, c, d, rfl⟩
theorem shaped_int (i : Int) : SeqAt.shaped (.int i) = true := by
  unfold SeqAt.shaped
  simp [PyData.canLay0, PyData.depth]
theorem eqv_int (i j : Int) : PyData.eqv (.int i) (.int j) = decide (i = j) := by
  unfold PyData.eqv
  first | rfl | simp
def wholeRow (m : Int) : PyData → Bool
  | .tuple ds => decide ((ds.length : Int) = m) && ds.all isWhole
  | _ => false
def fWholeRow : FB := fun ds n _ Q => ∃ d m, ds = [.py d, .py (.int m)] ∧ Q (.py (.bool (wholeRow m d))) n
theorem sc_is_whole_row : FnScope ["thing", "many", "number"] ["thing", "many"] (defScope s_is_whole_row) := ⟨rfl, rfl, rfl, by decide +kernel, rfl, by decide +kernel, by decide +kernel⟩
theorem ok_is_whole_row {F : Fx} (D : Dn F.K F.mg "is_whole_row" s_is_whole_row ["thing", "many"]) (bz : Bz F.mg) (c_is_whole : ClB F 1 "is_whole" false fWhole) : ClB F 2 "is_whole_row" false fWholeRow := by
  refine cl_b D sc_is_whole_row (fun ds n EX QD h => ?_) (fun fa cdv A outer s H E pn B0 hr tk po => ?_)
  · obtain ⟨d, m, rfl, _⟩ := h
    rfl
  · have nd := sc_is_whole_row.nd
    refine ⟨_, _, (bss_one (bs_ret (be_and (be_isi (T := "tuple") (by decide) (by rfl) bz.isinstance (BE.f (be_nm 0 (pv 0))) (pe_bltn (v := .ty "tuple") (u := .type "tuple") (by rfl) bz.tuple (by decide +kernel) rfl)) (be_and (be_eq hr.units (BE.f (be_len (by rfl) bz.len (BE.f (be_nm 0 (pv 0))))) (BE.f (be_nm 1 (pv 1)))) (be_one (be_all rfl (by rfl) bz.all (BE.f (BN.e (bn_lc (own := [("number", 2)]) rfl nd (bi_seq (be_nm 0 (pv 0))) (blkOk_by (N := ["thing", "many", "number"]) (sc := defScope s_is_whole_row) (by decide +kernel)) (fun _ _ _ _ _ => (bg_nm (pg_name (i := 2) nd rfl (.inl rfl)))) (fun _ _ _ _ _ => bts_nil) (fun _ _ _ _ _ => (be_call0 c_is_whole hr (by decide) (by rfl) (ba_cons (be_nm 2 (pv 2)) ba_nil)))))))))))), ?_⟩
    rintro _ n EX QD ⟨d, m, rfl, q⟩
    simp only [startB, Nat.reduceAdd, Nat.reduceSub, List.replicate_succ, List.replicate_zero, wLc, wLc2, wISeq, wipeB, List.set_cons_succ, List.set_cons_zero, wgTup, wgCons, wgNil, wgNm, Bool.not_true, Bool.not_false, Bool.false_eq_true, if_true, if_false, List.map_cons, List.map_nil, List.length_cons, List.length_nil, List.cons_append, List.nil_append, wName, List.getElem?_cons_zero, List.getElem?_cons_succ, wC, wOp, wCall, wACons, wANil, wAndV, wOrV, wNotV, wIsi, wIsi2, wCmp, wChain, wChain3, wOfT, wIfE, wAnd, wOr, wNotT, bInt, bEq, bNe, bIsN, bNotN, bIn, bNotIn, wCall1, bLen, bAll, bAny, bSum, sRet, sRetN, sRetO, sIf, sSeq, sNil, sExpr, sSet, sAsg, sPar, wVE, wVN, wOfN, wOfE, wTup, wLst, pyAll, isB_tuple, fWhole]
    cases d with
    | tuple ds =>
      simp only [if_true]
      refine ⟨shaped_int _, shaped_int _, ?_⟩
      rw [eqv_int]
      by_cases h4 : (ds.length : Int) = m
      · rw [decide_eq_true h4, if_pos rfl]
        refine lc_map (fun z => match z with
          | .py d => .bool (isWhole d)
          | _ => .none) _ _ (fun z hz P R p => ?_) ?_
        · obtain ⟨w, _, rfl⟩ := List.mem_map.mp hz
          simp only [startB, Nat.reduceAdd, Nat.reduceSub, List.replicate_succ, List.replicate_zero, wLc, wLc2, wISeq, wipeB, List.set_cons_succ, List.set_cons_zero, wgTup, wgCons, wgNil, wgNm, Bool.not_true, Bool.not_false, Bool.false_eq_true, if_true, if_false, List.map_cons, List.map_nil, List.length_cons, List.length_nil, List.cons_append, List.nil_append, wName, List.getElem?_cons_zero, List.getElem?_cons_succ, wC, wOp, wCall, wACons, wANil, wAndV, wOrV, wNotV, wIsi, wIsi2, wCmp, wChain, wChain3, wOfT, wIfE, wAnd, wOr, wNotT, bInt, bEq, bNe, bIsN, bNotN, bIn, bNotIn, wCall1, bLen, bAll, bAny, bSum, sRet, sRetN, sRetO, sIf, sSeq, sNil, sExpr, sSet, sAsg, sPar, wVE, wVN, wOfN, wOfE, wTup, wLst, pyAll, wYes]
          exact ⟨w, rfl, p⟩
        · rw [List.nil_append, List.map_map]
          rw [show List.map (_ ∘ Fv.D.py) ds = ds.map (fun d => PyData.bool (isWhole d)) from rfl, blsOf_wh]
          have ea : (ds.map isWhole).all id = ds.all isWhole := by
            rw [List.all_map]
            rfl
          simp only [ea]
          have q : QD (.py (.bool (decide ((ds.length : Int) = m) && ds.all isWhole))) n := q
          rw [decide_eq_true h4, Bool.true_and] at q
          exact q
      · have q : QD (.py (.bool (decide ((ds.length : Int) = m) && ds.all isWhole))) n := q
        rw [decide_eq_false h4, Bool.false_and] at q
        rw [decide_eq_false h4]
        exact q
    | _ => exact q
def fIsTie : FB := fun ds n _ Q => ∃ s d, ds = [.py (.int s), .py d] ∧ Q (.py (.bool (tieT s d).isSome)) n
theorem sc_is_tie : FnScope ["size", "thing", "one", "other", "there", "back"] ["size", "thing"] (defScope s_is_tie) := ⟨rfl, rfl, rfl, by decide +kernel, rfl, by decide +kernel, by decide +kernel⟩
theorem ok_is_tie {F : Fx} (D : Dn F.K F.mg "is_tie" s_is_tie ["size", "thing"]) (bz : Bz F.mg) (c_is_whole_row : ClB F 2 "is_whole_row" false fWholeRow) (v_MOST_CORDS : ∃ u, F.mg "MOST_CORDS" = some u ∧ RelV (.int 9) u) : ClB F 3 "is_tie" false fIsTie := by
  refine cl_b D sc_is_tie (fun ds n EX QD h => ?_) (fun fa cdv A outer s H E pn B0 hr tk po => ?_)
  · obtain ⟨d, lo, rfl, _⟩ := h
    rfl
  · have nd := sc_is_tie.nd
    refine ⟨_, _, (bss_cons (bs_if (bt_not (bt_val (be_call c_is_whole_row hr (by decide) (by rfl) tk (ba_cons (be_nm 1 (pv 1)) (ba_cons be_int ba_nil)))))
    (bss_one (bs_ret be_bl))
    bss_nil)
    (bss_cons (bs_asg (be_nm 1 (pv 1)) (bg_tup (bgs_cons (bg_nm (pg_name (i := 2) nd rfl (.inl rfl))) (bgs_cons (bg_nm (pg_name (i := 3) nd rfl (.inl rfl))) (bgs_cons (bg_nm (pg_name (i := 4) nd rfl (.inl rfl))) (bgs_cons (bg_nm (pg_name (i := 5) nd rfl (.inl rfl))) bgs_nil (pgs_cons (pg_name (i := 5) nd rfl (.inl rfl)) pgs_nil)) (pgs_cons (pg_name (i := 4) nd rfl (.inl rfl)) (pgs_cons (pg_name (i := 5) nd rfl (.inl rfl)) pgs_nil))) (pgs_cons (pg_name (i := 3) nd rfl (.inl rfl)) (pgs_cons (pg_name (i := 4) nd rfl (.inl rfl)) (pgs_cons (pg_name (i := 5) nd rfl (.inl rfl)) pgs_nil)))) (pgs_cons (pg_name (i := 2) nd rfl (.inl rfl)) (pgs_cons (pg_name (i := 3) nd rfl (.inl rfl)) (pgs_cons (pg_name (i := 4) nd rfl (.inl rfl)) (pgs_cons (pg_name (i := 5) nd rfl (.inl rfl)) pgs_nil))))) (pg_tupK (n := 4) (by rfl) (pgs_cons (pg_name (i := 2) nd rfl (.inl rfl)) (pgs_cons (pg_name (i := 3) nd rfl (.inl rfl)) (pgs_cons (pg_name (i := 4) nd rfl (.inl rfl)) (pgs_cons (pg_name (i := 5) nd rfl (.inl rfl)) pgs_nil)))))))
    (bss_one (bs_ret (be_and (be_chain3 op_le op_lt op_lt of_int of_int of_int (BE.f be_int) (BE.f (be_nm 2 (pv 2))) (BE.f (be_nm 3 (pv 3))) (BE.f (be_nm 0 (pv 0)))) (be_and (be_chain op_le op_le of_int of_int (BE.f be_int) (BE.f (be_nm 4 (pv 4))) (BE.f (be_gi (pe_gv (by rfl) v_MOST_CORDS)))) (be_one (be_chain op_le op_le of_int of_int (BE.f be_int) (BE.f (be_nm 5 (pv 5))) (BE.f (be_gi (pe_gv (by rfl) v_MOST_CORDS))))))))))), ?_⟩
    rintro _ n EX QD ⟨s, d, rfl, q⟩
    simp only [startB, Nat.reduceAdd, Nat.reduceSub, List.replicate_succ, List.replicate_zero, wLc, wLc2, wISeq, wipeB, List.set_cons_succ, List.set_cons_zero, wgTup, wgCons, wgNil, wgNm, Bool.not_true, Bool.not_false, Bool.false_eq_true, if_true, if_false, List.map_cons, List.map_nil, List.length_cons, List.length_nil, List.cons_append, List.nil_append, wName, List.getElem?_cons_zero, List.getElem?_cons_succ, wC, wOp, wCall, wACons, wANil, wAndV, wOrV, wNotV, wIsi, wIsi2, wCmp, wChain, wChain3, wOfT, wIfE, wAnd, wOr, wNotT, bInt, bEq, bNe, bIsN, bNotN, bIn, bNotIn, wCall1, bLen, bAll, bAny, bSum, sRet, sRetN, sRetO, sIf, sSeq, sNil, sExpr, sSet, sAsg, sPar, wVE, wVN, wOfN, wOfE, wTup, wLst, pyAll, fWholeRow]
    refine ⟨d, 4, rfl, ?_⟩
    cases hw : wholeRow 4 d with
    | false =>
      have e : tieT s d = none := by
        cases d with
        | tuple ds =>
          unfold wholeRow at hw
          rw [Bool.and_eq_false_iff] at hw
          rcases hw with h | h
          · exact tieT_short (fun e => by rw [e] at h; exact absurd h (by decide))
          · exact tieT_wh h
        | _ => rfl
      rw [e] at q
      exact q
    | true =>
      obtain ⟨ds, rfl⟩ : ∃ ds, d = .tuple ds := by
        cases d <;> first | exact ⟨_, rfl⟩ | cases hw
      unfold wholeRow at hw
      rw [Bool.and_eq_true] at hw
      have h4 := of_decide_eq_true hw.1
      have ei := wholes hw.2
      generalize ds.map numOf = ns at ei
      subst ei
      obtain ⟨a, b, c, d, rfl⟩ := len4 (ds := ns) (by rw [List.length_map] at h4; omega)
      rw [List.map_cons, List.map_cons, List.map_cons, List.map_cons, List.map_nil, tieT_good] at q
      simp only [List.map_cons, List.map_nil, List.length_cons, List.length_nil, Bool.not_true, Bool.false_eq_true, if_false]
      refine ⟨trivial, trivial, ?_⟩
      unfold goodT at q
      generalize decide (0 ≤ a) = p1 at q ⊢
      generalize decide (a < b) = p2 at q ⊢
      generalize decide (b < s) = p3 at q ⊢
      generalize decide (1 ≤ c) = p4 at q ⊢
      generalize decide (c ≤ 9) = p5 at q ⊢
      generalize decide (1 ≤ d) = p6 at q ⊢
      generalize decide (d ≤ 9) = p7 at q ⊢
      cases p1 <;> first | exact q | skip
      cases p2 <;> first | exact q | skip
      cases p3 <;> first | exact q | skip
      cases p4 <;> first | exact q | skip
      cases p5 <;> first | exact q | skip
      cases p6 <;> first | exact q | skip
/-! ### lists of ties -/
def allT (s : Int) : List PyData → Option (List Tw)
  | [] => some []
  | d :: ds => match tieT s d, allT s ds with
    | some t, some ts => some (t :: ts)
    | _, _ => none
theorem allT_is {s : Int} : ∀ {ds : List PyData}, ds.all (fun d => (tieT s d).isSome) = (allT s ds).isSome
  | [] => rfl
  | d :: ds => by
    have ih := allT_is (s := s) (ds := ds)
    unfold allT
    rw [List.all_cons, ih]
    cases tieT s d <;> cases allT s ds <;> rfl
theorem goodT_ok {s : Int} {t : Tw} (h : goodT s t.a t.b t.c t.d = true) : TieOk 9 s t := by
  unfold goodT at h
  simp only [Bool.and_eq_true, decide_eq_true_eq] at h
  obtain ⟨⟨⟨⟨⟨⟨h1, h2⟩, h3⟩, h4⟩, h5⟩, h6⟩, h7⟩ := h
  exact ⟨h1, h2, h3, h4, h5, h6, h7⟩
theorem ok_goodT {s : Int} {t : Tw} (h : TieOk 9 s t) : goodT s t.a t.b t.c t.d = true := by
  unfold goodT
  simp only [Bool.and_eq_true, decide_eq_true_eq]
  exact ⟨⟨⟨⟨⟨⟨h.a0, h.ab⟩, h.bs⟩, h.c1⟩, h.cm⟩, h.d1⟩, h.dm⟩
theorem allT_some {s : Int} : ∀ {ds : List PyData} {ts : List Tw}, allT s ds = some ts → ds = ts.map tieD ∧ ∀ t ∈ ts, TieOk 9 s t
  | [], ts, h => by
    cases h
    exact ⟨rfl, fun t ht => by cases ht⟩
  | d :: ds, ts, h => by
    unfold allT at h
    cases e1 : tieT s d with
    | none =>
      rw [e1] at h
      cases h
    | some t =>
      cases e2 : allT s ds with
      | none =>
        rw [e1, e2] at h
        cases h
      | some us =>
        rw [e1, e2] at h
        cases h
        obtain ⟨h1, h2⟩ := tieT_some e1
        obtain ⟨h3, h4⟩ := allT_some e2
        refine ⟨by rw [List.map_cons, ← h1, ← h3], fun u hu => ?_⟩
        rcases List.mem_cons.mp hu with rfl | hu
        · exact goodT_ok h2
        · exact h4 u hu
theorem tieT_of {s : Int} {t : Tw} (h : TieOk 9 s t) : tieT s (tieD t) = some t := by
  show (if goodT s t.a t.b t.c t.d = true then some _ else none) = _
  rw [if_pos (ok_goodT h)]
theorem allT_of {s : Int} : ∀ {ts : List Tw}, (∀ t ∈ ts, TieOk 9 s t) → allT s (ts.map tieD) = some ts
  | [], _ => rfl
  | t :: ts, h => by
    rw [List.map_cons]
    unfold allT
    rw [tieT_of (h t List.mem_cons_self), allT_of fun u hu => h u (List.mem_cons_of_mem _ hu)]
def tiesL (s : Int) (ds : List PyData) : Option (List Tw) := match allT s ds with
  | some ts => if (ts.map fun t => (t.a, t.b)).Nodup then some ts else none
  | none => none
/-- the ties that a datum is -/
def tiesT (s : Int) : PyData → Option (List Tw)
  | .list ds => tiesL s ds
  | .tuple ds => tiesL s ds
  | _ => none
theorem tiesL_of {s : Int} {ts : List Tw} (ok : TiesOk 9 s ts) : tiesL s (ts.map tieD) = some ts := by
  unfold tiesL
  rw [allT_of ok.all]
  exact if_pos ok.nd
def ddup : List (List Int) → List (List Int)
  | [] => []
  | x :: xs => if x ∈ ddup xs then ddup xs else x :: ddup xs
theorem ddup_nd : ∀ xs : List (List Int), (ddup xs).Nodup
  | [] => List.Pairwise.nil
  | x :: xs => by
    unfold ddup
    split
    · exact ddup_nd xs
    · rename_i h
      exact List.nodup_cons.mpr ⟨h, ddup_nd xs⟩
theorem ddup_mem {x : List Int} : ∀ xs : List (List Int), x ∈ ddup xs ↔ x ∈ xs
  | [] => Iff.rfl
  | y :: xs => by
    unfold ddup
    split
    · rename_i h
      rw [ddup_mem xs, List.mem_cons]
      exact ⟨.inr, fun h' => h'.elim (fun e => e ▸ (ddup_mem xs).mp h) id⟩
    · rw [List.mem_cons, List.mem_cons, ddup_mem xs]
theorem ddup_le : ∀ xs : List (List Int), (ddup xs).length ≤ xs.length
  | [] => Nat.le_refl _
  | x :: xs => by
    have := ddup_le xs
    unfold ddup
    split
    · exact Nat.le_succ_of_le this
    · exact Nat.succ_le_succ this
theorem ddup_lt : ∀ xs : List (List Int), decide ((ddup xs).length < xs.length) = !decide xs.Nodup
  | [] => by decide
  | x :: xs => by
    have ih := ddup_lt xs
    have le := ddup_le xs
    unfold ddup
    split
    · rename_i h
      rw [decide_eq_true (show (ddup xs).length < (x :: xs).length from Nat.lt_succ_of_le le), decide_eq_false (fun nd => (List.nodup_cons.mp nd).1 ((ddup_mem xs).mp h))]
      rfl
    · rename_i h
      have e1 : decide ((x :: ddup xs).length < (x :: xs).length) = decide ((ddup xs).length < xs.length) := by
        rw [List.length_cons, List.length_cons]
        exact decide_eq_decide.mpr (by omega)
      rw [e1, ih]
      congr 1
      exact decide_eq_decide.mpr ⟨fun nd => List.nodup_cons.mpr ⟨fun hm => h ((ddup_mem xs).mpr hm), nd⟩, fun nd => (List.nodup_cons.mp nd).2⟩
def pairL (t : Tw) : List Int := [t.a, t.b]
theorem pairL_nd (ts : List Tw) : (ts.map pairL).Nodup ↔ (ts.map fun t => (t.a, t.b)).Nodup := by
  unfold List.Nodup
  rw [List.pairwise_map, List.pairwise_map]
  refine ⟨fun h => h.imp fun {t u} ne e => ne ?_, fun h => h.imp fun {t u} ne e => ne ?_⟩
  · unfold pairL
    rw [(Prod.mk.inj e).1, (Prod.mk.inj e).2]
  · unfold pairL at e
    cases t
    cases u
    simp only [List.cons.injEq] at e
    simp only [e.1, e.2.1]
theorem ddup_75 {s : Int} {ts : List Tw} (h : ∀ t ∈ ts, TieOk 9 s t) (hs : s ≤ 12) : (ddup (ts.map pairL)).length ≤ 75 := by
  have nd : ((ddup (ts.map pairL)).map fun r => ((r.getD 0 0).toNat, (r.getD 1 0).toNat)).Nodup := by
    refine List.pairwise_map.mpr ((ddup_nd _).imp_of_mem fun {x y} hx hy ne e => ne ?_)
    obtain ⟨t, ht, rfl⟩ := List.mem_map.mp ((ddup_mem _).mp hx)
    obtain ⟨u, hu, rfl⟩ := List.mem_map.mp ((ddup_mem _).mp hy)
    have o := h t ht
    have o' := h u hu
    have a1 := o.a0
    have a2 := o.ab
    have b1 := o'.a0
    have b2 := o'.ab
    have e1 : t.a.toNat = u.a.toNat := (Prod.mk.inj e).1
    have e2 : t.b.toNat = u.b.toNat := (Prod.mk.inj e).2
    unfold pairL
    rw [show t.a = u.a by omega, show t.b = u.b by omega]
  have := sub_len (m := pairsW 12) nd fun x hx => by
    obtain ⟨r, hr, rfl⟩ := List.mem_map.mp hx
    obtain ⟨t, ht, rfl⟩ := List.mem_map.mp ((ddup_mem _).mp hr)
    have o := h t ht
    have a1 := o.a0
    have a2 := o.ab
    have a3 := o.bs
    show (t.a.toNat, t.b.toNat) ∈ _
    exact in_pairsW (by omega) (by omega)
  rw [List.length_map] at this
  exact Nat.le_trans this (by decide)
def fAreTies : FB := fun ds n _ Q => ∃ (s : Int) (d : PyData), ds = [.py (.int s), .py d] ∧ s ≤ 12 ∧ Q (.py (.bool (tiesT s d).isSome)) n
theorem sc_are_ties : FnScope ["size", "thing", "tie"] ["size", "thing"] (defScope s_are_ties) := ⟨rfl, rfl, rfl, by decide +kernel, rfl, by decide +kernel, by decide +kernel⟩
theorem ok_are_ties {F : Fx} (D : Dn F.K F.mg "are_ties" s_are_ties ["size", "thing"]) (bz : Bz F.mg) (c_is_tie : ClB F 3 "is_tie" false fIsTie) : ClB F 4 "are_ties" false fAreTies := by
  refine cl_b D sc_are_ties (fun ds n EX QD h => ?_) (fun fa cdv A outer s H E pn B0 hr tk po => ?_)
  · obtain ⟨s, d, rfl, _⟩ := h
    rfl
  · have nd := sc_are_ties.nd
    refine ⟨_, _, (bss_cons (bs_if (BW.bt (bw_or (bt_not (bt_val (be_isi2 (T := "list") (T' := "tuple") (by decide) (by decide) (by rfl) bz.isinstance (BE.f (be_nm 1 (pv 1))) (pe_bltn (v := .ty "list") (u := .type "list") (by rfl) bz.list (by decide +kernel) rfl) (pe_bltn (v := .ty "tuple") (u := .type "tuple") (by rfl) bz.tuple (by decide +kernel) rfl)))) (bw_or1 (bt_not (bt_val (be_all rfl (by rfl) bz.all (BE.f (BN.e (bn_lc (own := [("tie", 2)]) rfl nd (bi_seq (be_nm 1 (pv 1))) (blkOk_by (N := ["size", "thing", "tie"]) (sc := defScope s_are_ties) (by decide +kernel)) (fun _ _ _ _ _ => (bg_nm (pg_name (i := 2) nd rfl (.inl rfl)))) (fun _ _ _ _ _ => bts_nil) (fun _ _ _ _ _ => (be_call0 c_is_tie hr (by decide) (by rfl) (ba_cons (be_nm 0 (pv 0)) (ba_cons (be_nm 2 (pv 2)) ba_nil)))))))))))))
    (bss_one (bs_ret be_bl))
    bss_nil)
    (bss_one (bs_ret (be_eq hr.units (BE.f (be_lenSetB rfl hr.units (by rfl) bz.len (by rfl) bz.set (BN.l (bn_lc (own := [("tie", 2)]) rfl nd (bi_seq (be_nm 1 (pv 1))) (blkOk_by (N := ["size", "thing", "tie"]) (sc := defScope s_are_ties) (by decide +kernel)) (fun _ _ _ _ _ => (bg_nm (pg_name (i := 2) nd rfl (.inl rfl)))) (fun _ _ _ _ _ => bts_nil) (fun _ _ _ _ _ => (be_tup (ba_cons (be_ix (BE.l (be_nm 2 (pv 2))) be_int) (ba_cons (be_ix (BE.l (be_nm 2 (pv 2))) be_int) ba_nil)))))))) (BE.f (be_len (by rfl) bz.len (BE.f (be_nm 1 (pv 1))))))))), ?_⟩
    rintro _ n EX QD ⟨s, d, rfl, hs, q⟩
    simp only [startB, Nat.reduceAdd, Nat.reduceSub, List.replicate_succ, List.replicate_zero, wLc, wLc2, wISeq, wipeB, List.set_cons_succ, List.set_cons_zero, wgTup, wgCons, wgNil, wgNm, Bool.not_true, Bool.not_false, Bool.false_eq_true, if_true, if_false, List.map_cons, List.map_nil, List.length_cons, List.length_nil, List.cons_append, List.nil_append, wName, List.getElem?_cons_zero, List.getElem?_cons_succ, wC, wOp, wCall, wACons, wANil, wAndV, wOrV, wNotV, wIsi, wIsi2, wCmp, wChain, wChain3, wOfT, wIfE, wAnd, wOr, wNotT, bInt, bEq, bNe, bIsN, bNotN, bIn, bNotIn, wCall1, bLen, bAll, bAny, bSum, sRet, sRetN, sRetO, sIf, sSeq, sNil, sExpr, sSet, sAsg, sPar, wVE, wVN, wOfN, wOfE, wTup, wLst, pyAll, isB_tuple, isB_list, fIsTie]
    cases d with
    | list ds =>
      simp only [Bool.true_or, Bool.or_true, Bool.not_true, Bool.false_eq_true, if_false]
      refine lc_map (fun z => match z with
        | .py d => .bool (tieT s d).isSome
        | _ => .none) _ _ (fun z hz P R p => ?_) ?_
      · obtain ⟨w, _, rfl⟩ := List.mem_map.mp hz
        simp only [startB, Nat.reduceAdd, Nat.reduceSub, List.replicate_succ, List.replicate_zero, wLc, wLc2, wISeq, wipeB, List.set_cons_succ, List.set_cons_zero, wgTup, wgCons, wgNil, wgNm, Bool.not_true, Bool.not_false, Bool.false_eq_true, if_true, if_false, List.map_cons, List.map_nil, List.length_cons, List.length_nil, List.cons_append, List.nil_append, wName, List.getElem?_cons_zero, List.getElem?_cons_succ, wC, wOp, wCall, wACons, wANil, wAndV, wOrV, wNotV, wIsi, wIsi2, wCmp, wChain, wChain3, wOfT, wIfE, wAnd, wOr, wNotT, bInt, bEq, bNe, bIsN, bNotN, bIn, bNotIn, wCall1, bLen, bAll, bAny, bSum, sRet, sRetN, sRetO, sIf, sSeq, sNil, sExpr, sSet, sAsg, sPar, wVE, wVN, wOfN, wOfE, wTup, wLst, pyAll, wYes]
        exact ⟨s, w, rfl, p⟩
      rw [List.nil_append, List.map_map, show List.map (_ ∘ Fv.D.py) ds = ds.map (fun d => PyData.bool (tieT s d).isSome) from rfl, blsOf_wh]
      have ea : (ds.map fun d => (tieT s d).isSome).all id = (allT s ds).isSome := by
        rw [List.all_map, ← allT_is]
        rfl
      have q : QD (.py (.bool (tiesL s ds).isSome)) n := q
      simp only [ea]
      cases e : allT s ds with
      | none =>
        have e2 : tiesL s ds = none := by
          unfold tiesL
          rw [e]
        rw [e2] at q
        exact q
      | some ts =>
        obtain ⟨rfl, all⟩ := allT_some e
        simp only [Option.isSome_some, Bool.not_true, Bool.false_eq_true, if_false, wLenSet, startB, Nat.reduceAdd, Nat.reduceSub, List.replicate_succ, List.replicate_zero, wLc, wLc2, wISeq, wipeB, List.set_cons_succ, List.set_cons_zero, wgTup, wgCons, wgNil, wgNm, Bool.not_true, Bool.not_false, Bool.false_eq_true, if_true, if_false, List.map_cons, List.map_nil, List.length_cons, List.length_nil, List.cons_append, List.nil_append, wName, List.getElem?_cons_zero, List.getElem?_cons_succ, wC, wOp, wCall, wACons, wANil, wAndV, wOrV, wNotV, wIsi, wIsi2, wCmp, wChain, wChain3, wOfT, wIfE, wAnd, wOr, wNotT, bInt, bEq, bNe, bIsN, bNotN, bIn, bNotIn, wCall1, bLen, bAll, bAny, bSum, sRet, sRetN, sRetO, sIf, sSeq, sNil, sExpr, sSet, sAsg, sPar, wVE, wVN, wOfN, wOfE, wTup, wLst, pyAll]
        refine lc_map (fun z => match z with
          | .py (.tuple (.int a :: .int b :: _)) => .tuple [.int a, .int b]
          | _ => .none) _ _ (fun z hz P R p => ?_) ?_
        · obtain ⟨w, hw, rfl⟩ := List.mem_map.mp hz
          obtain ⟨t, ht, rfl⟩ := List.mem_map.mp hw
          simp only [startB, Nat.reduceAdd, Nat.reduceSub, List.replicate_succ, List.replicate_zero, wLc, wLc2, wISeq, wipeB, List.set_cons_succ, List.set_cons_zero, wgTup, wgCons, wgNil, wgNm, Bool.not_true, Bool.not_false, Bool.false_eq_true, if_true, if_false, List.map_cons, List.map_nil, List.length_cons, List.length_nil, List.cons_append, List.nil_append, wName, List.getElem?_cons_zero, List.getElem?_cons_succ, wC, wOp, wCall, wACons, wANil, wAndV, wOrV, wNotV, wIsi, wIsi2, wCmp, wChain, wChain3, wOfT, wIfE, wAnd, wOr, wNotT, bInt, bEq, bNe, bIsN, bNotN, bIn, bNotIn, wCall1, bLen, bAll, bAny, bSum, sRet, sRetN, sRetO, sIf, sSeq, sNil, sExpr, sSet, sAsg, sPar, wVE, wVN, wOfN, wOfE, wTup, wLst, pyAll, wYes, wIx, tieD]
          exact ⟨show 2 ≤ 100000 by decide, p⟩
        rw [List.nil_append, List.map_map, List.map_map]
        refine ⟨trivial, ts.map pairL, ddup (ts.map pairL), ?_, ddup_nd _, (fun k => ddup_mem _), ddup_75 all hs, ?_⟩
        · rw [List.map_map]
          exact List.map_congr_left fun t _ => rfl
        refine ⟨shaped_int _, shaped_int _, ?_⟩
        have e2 : (tiesL s (ts.map tieD)).isSome = decide (ts.map fun t => (t.a, t.b)).Nodup := by
          unfold tiesL
          rw [e]
          by_cases nd : (ts.map fun t => (t.a, t.b)).Nodup
          · rw [decide_eq_true nd]
            show (if _ then some ts else none).isSome = true
            rw [if_pos nd]
            rfl
          · rw [decide_eq_false nd]
            show (if _ then some ts else none).isSome = false
            rw [if_neg nd]
            rfl
        rw [e2] at q
        rw [eqv_int]
        have el : decide (((ddup (ts.map pairL)).length : Int) = ((ts.map tieD).length : Int)) = decide (ts.map fun t => (t.a, t.b)).Nodup := by
          have h1 := ddup_lt (ts.map pairL)
          have h2 := ddup_le (ts.map pairL)
          rw [List.length_map] at h1 h2
          rw [← decide_eq_decide.mpr (pairL_nd ts), List.length_map]
          cases hd : decide (ts.map pairL).Nodup with
          | true =>
            rw [hd] at h1
            have := of_decide_eq_false h1
            exact decide_eq_true (by omega)
          | false =>
            rw [hd] at h1
            have := of_decide_eq_true h1
            exact decide_eq_false (by omega)
        rw [el]
        exact q
    | tuple ds =>
      simp only [Bool.true_or, Bool.or_true, Bool.not_true, Bool.false_eq_true, if_false]
      refine lc_map (fun z => match z with
        | .py d => .bool (tieT s d).isSome
        | _ => .none) _ _ (fun z hz P R p => ?_) ?_
      · obtain ⟨w, _, rfl⟩ := List.mem_map.mp hz
        simp only [startB, Nat.reduceAdd, Nat.reduceSub, List.replicate_succ, List.replicate_zero, wLc, wLc2, wISeq, wipeB, List.set_cons_succ, List.set_cons_zero, wgTup, wgCons, wgNil, wgNm, Bool.not_true, Bool.not_false, Bool.false_eq_true, if_true, if_false, List.map_cons, List.map_nil, List.length_cons, List.length_nil, List.cons_append, List.nil_append, wName, List.getElem?_cons_zero, List.getElem?_cons_succ, wC, wOp, wCall, wACons, wANil, wAndV, wOrV, wNotV, wIsi, wIsi2, wCmp, wChain, wChain3, wOfT, wIfE, wAnd, wOr, wNotT, bInt, bEq, bNe, bIsN, bNotN, bIn, bNotIn, wCall1, bLen, bAll, bAny, bSum, sRet, sRetN, sRetO, sIf, sSeq, sNil, sExpr, sSet, sAsg, sPar, wVE, wVN, wOfN, wOfE, wTup, wLst, pyAll, wYes]
        exact ⟨s, w, rfl, p⟩
      rw [List.nil_append, List.map_map, show List.map (_ ∘ Fv.D.py) ds = ds.map (fun d => PyData.bool (tieT s d).isSome) from rfl, blsOf_wh]
      have ea : (ds.map fun d => (tieT s d).isSome).all id = (allT s ds).isSome := by
        rw [List.all_map, ← allT_is]
        rfl
      have q : QD (.py (.bool (tiesL s ds).isSome)) n := q
      simp only [ea]
      cases e : allT s ds with
      | none =>
        have e2 : tiesL s ds = none := by
          unfold tiesL
          rw [e]
        rw [e2] at q
        exact q
      | some ts =>
        obtain ⟨rfl, all⟩ := allT_some e
        simp only [Option.isSome_some, Bool.not_true, Bool.false_eq_true, if_false, wLenSet, startB, Nat.reduceAdd, Nat.reduceSub, List.replicate_succ, List.replicate_zero, wLc, wLc2, wISeq, wipeB, List.set_cons_succ, List.set_cons_zero, wgTup, wgCons, wgNil, wgNm, Bool.not_true, Bool.not_false, Bool.false_eq_true, if_true, if_false, List.map_cons, List.map_nil, List.length_cons, List.length_nil, List.cons_append, List.nil_append, wName, List.getElem?_cons_zero, List.getElem?_cons_succ, wC, wOp, wCall, wACons, wANil, wAndV, wOrV, wNotV, wIsi, wIsi2, wCmp, wChain, wChain3, wOfT, wIfE, wAnd, wOr, wNotT, bInt, bEq, bNe, bIsN, bNotN, bIn, bNotIn, wCall1, bLen, bAll, bAny, bSum, sRet, sRetN, sRetO, sIf, sSeq, sNil, sExpr, sSet, sAsg, sPar, wVE, wVN, wOfN, wOfE, wTup, wLst, pyAll]
        refine lc_map (fun z => match z with
          | .py (.tuple (.int a :: .int b :: _)) => .tuple [.int a, .int b]
          | _ => .none) _ _ (fun z hz P R p => ?_) ?_
        · obtain ⟨w, hw, rfl⟩ := List.mem_map.mp hz
          obtain ⟨t, ht, rfl⟩ := List.mem_map.mp hw
          simp only [startB, Nat.reduceAdd, Nat.reduceSub, List.replicate_succ, List.replicate_zero, wLc, wLc2, wISeq, wipeB, List.set_cons_succ, List.set_cons_zero, wgTup, wgCons, wgNil, wgNm, Bool.not_true, Bool.not_false, Bool.false_eq_true, if_true, if_false, List.map_cons, List.map_nil, List.length_cons, List.length_nil, List.cons_append, List.nil_append, wName, List.getElem?_cons_zero, List.getElem?_cons_succ, wC, wOp, wCall, wACons, wANil, wAndV, wOrV, wNotV, wIsi, wIsi2, wCmp, wChain, wChain3, wOfT, wIfE, wAnd, wOr, wNotT, bInt, bEq, bNe, bIsN, bNotN, bIn, bNotIn, wCall1, bLen, bAll, bAny, bSum, sRet, sRetN, sRetO, sIf, sSeq, sNil, sExpr, sSet, sAsg, sPar, wVE, wVN, wOfN, wOfE, wTup, wLst, pyAll, wYes, wIx, tieD]
          exact ⟨show 2 ≤ 100000 by decide, p⟩
        rw [List.nil_append, List.map_map, List.map_map]
        refine ⟨trivial, ts.map pairL, ddup (ts.map pairL), ?_, ddup_nd _, (fun k => ddup_mem _), ddup_75 all hs, ?_⟩
        · rw [List.map_map]
          exact List.map_congr_left fun t _ => rfl
        refine ⟨shaped_int _, shaped_int _, ?_⟩
        have e2 : (tiesL s (ts.map tieD)).isSome = decide (ts.map fun t => (t.a, t.b)).Nodup := by
          unfold tiesL
          rw [e]
          by_cases nd : (ts.map fun t => (t.a, t.b)).Nodup
          · rw [decide_eq_true nd]
            show (if _ then some ts else none).isSome = true
            rw [if_pos nd]
            rfl
          · rw [decide_eq_false nd]
            show (if _ then some ts else none).isSome = false
            rw [if_neg nd]
            rfl
        rw [e2] at q
        rw [eqv_int]
        have el : decide (((ddup (ts.map pairL)).length : Int) = ((ts.map tieD).length : Int)) = decide (ts.map fun t => (t.a, t.b)).Nodup := by
          have h1 := ddup_lt (ts.map pairL)
          have h2 := ddup_le (ts.map pairL)
          rw [List.length_map] at h1 h2
          rw [← decide_eq_decide.mpr (pairL_nd ts), List.length_map]
          cases hd : decide (ts.map pairL).Nodup with
          | true =>
            rw [hd] at h1
            have := of_decide_eq_false h1
            exact decide_eq_true (by omega)
          | false =>
            rw [hd] at h1
            have := of_decide_eq_true h1
            exact decide_eq_false (by omega)
        rw [el]
        exact q
    | _ => exact q
def fNeedTies : FB := fun ds n EX Q => ∃ (s : Int) (d : PyData), ds = [.py (.int s), .py d] ∧ s ≤ 12 ∧ if (tiesT s d).isSome = true then Q (.py .none) n else EX (xPart "NoWeb" "ties") n
theorem sc_need_ties : FnScope ["size", "ties"] ["size", "ties"] (defScope s_need_ties) := ⟨rfl, rfl, rfl, by decide +kernel, rfl, by decide +kernel, by decide +kernel⟩
theorem ok_need_ties {F : Fx} (D : Dn F.K F.mg "need_ties" s_need_ties ["size", "ties"]) (bz : Bz F.mg) {CE : Addr} (c_are_ties : ClB F 4 "are_ties" false fAreTies) (e_NoWeb : ClE F 1 "NoWeb" CE fiPart) : ClB F 5 "need_ties" false fNeedTies := by
  refine cl_b D sc_need_ties (fun ds n EX QD h => ?_) (fun fa cdv A outer s H E pn B0 hr tk po => ?_)
  · obtain ⟨s, d, rfl, _⟩ := h
    rfl
  · have nd := sc_need_ties.nd
    refine ⟨_, _, (bss_one (bs_if (bt_not (bt_val (be_call c_are_ties hr (by decide) (by rfl) tk (ba_cons (be_nm 0 (pv 0)) (ba_cons (be_nm 1 (pv 1)) ba_nil)))))
    (bss_one (bs_raise e_NoWeb hr (by decide) rfl (by rfl) tk (ba_cons be_str ba_nil)))
    bss_nil)), ?_⟩
    rintro _ n EX QD ⟨s, d, rfl, hs, q⟩
    simp only [startB, Nat.reduceAdd, Nat.reduceSub, List.replicate_succ, List.replicate_zero, wLc, wLc2, wISeq, wipeB, List.set_cons_succ, List.set_cons_zero, wgTup, wgCons, wgNil, wgNm, Bool.not_true, Bool.not_false, Bool.false_eq_true, if_true, if_false, List.map_cons, List.map_nil, List.length_cons, List.length_nil, List.cons_append, List.nil_append, wName, List.getElem?_cons_zero, List.getElem?_cons_succ, wC, wOp, wCall, wACons, wANil, wAndV, wOrV, wNotV, wIsi, wIsi2, wCmp, wChain, wChain3, wOfT, wIfE, wAnd, wOr, wNotT, bInt, bEq, bNe, bIsN, bNotN, bIn, bNotIn, wCall1, bLen, bAll, bAny, bSum, sRet, sRetN, sRetO, sIf, sSeq, sNil, sExpr, sSet, sAsg, sPar, wVE, wVN, wOfN, wOfE, wTup, wLst, pyAll, sRaise, fAreTies]
    refine ⟨s, d, rfl, hs, ?_⟩
    cases hb : (tiesT s d).isSome with
    | true =>
      rw [hb, if_pos rfl] at q
      exact ⟨trivial, q⟩
    | false =>
      rw [hb, if_neg Bool.false_ne_true] at q
      exact ⟨by decide, _, rfl, q⟩
end Fv
set_option maxRecDepth 100000
set_option maxHeartbeats 4000000
/-! The refusals' classes. -/
namespace Fv
open PySem PySem.Spec PyProof.Rows L2 Gb
structure DnE (F : Fx) (x : Str) (C : Addr) (qual : Str) (st : Stmt) (ps : List Str) (base newId iniId : String) (tl : List Value) (fns : List Str) : Prop where
  T : OxT F.K C newId iniId tl
  hm : F.mg x = some (.ref C)
  hx : F.ex x = some (.ref C)
  no : ∀ f ∈ fns, PySem.W.findIn F.K (.ref C) f = some none
  bs : F.mg base = none
  vV : PySem.W.findCls F.K (.type base) (.type "type") "__init__" = some (.val (.builtin iniId))
  ex : ∃ (fI : Addr) (fd : FuncData), PySem.W.findIn F.K (.ref C) "__init__" = some (some (.ref fI)) ∧ PySem.W.typeIn F.K (.ref fI) = some (.type "function") ∧ Fun F.K "__init__" qual st fI fd ∧ Binds F.K fd ps []
abbrev tlV : List Value := [.type "ValueError", .type "Exception", .type "BaseException", .type "object"]
abbrev DnV (F : Fx) (x : Str) (C : Addr) (qual : Str) (st : Stmt) (ps fns : List Str) : Prop := DnE F x C qual st ps "ValueError" "ValueError.__new__" "ValueError.__init__" tlV fns
theorem bini_cons {X : Cx} {G : Cg} {newId iniId : String} {tl : List Value} {f : Str} {o e : Expr} {te : TE} {we : WE} {p' pos : Pos} {sts : List Stmt} {ts : TS} {ws : List (Str × WE)} (h : BE X G e te we) (ho : PE X o (tVar 0)) (hr : BIni X G newId iniId tl sts ts ws)
    (hs : swapsWith e (some (.Attribute o f p')) pos.line X.env = pure false := by rfl) : BIni X G newId iniId tl (.Assign [.Attribute o f p'] e pos :: sts) (tSeq (tFs X.K newId iniId tl f (tVar 0) te) ts) ((f, we) :: ws) := .cons h (ps_fs ho h.pe hs) hr
theorem sc_NoWeb___init__ : FnScope ["self", "part"] ["self", "part"] (defScope s_NoWeb___init__) := ⟨rfl, rfl, rfl, by decide +kernel, rfl, by decide +kernel, by decide +kernel⟩
theorem ok_NoWeb {F : Fx} {C : Addr} (D : DnV F "NoWeb" C "NoWeb.__init__" s_NoWeb___init__ ["self", "part"] ["part"]) : ClE F 1 "NoWeb" C fiPart := by
  obtain ⟨fI, fd, iC, tI, Fn, b⟩ := D.ex
  refine cl_e D.T D.hm D.hx iC tI Fn b sc_NoWeb___init__ (fun ds QD ⟨p, e, _⟩ => by rw [e]; rfl) (by decide) ["part"] D.no fun cdv A outer s H E B H0 hr => ?_
  have nd := sc_NoWeb___init__.nd
  refine ⟨_, _, _, _, _, rfl, ps_expr (pe_ini (Bs := "ValueError") (by rfl) D.bs (by decide +kernel) (by rfl) (by decide +kernel) (by decide) (by decide) D.vV (pa_cons (pv 0) (pa_cons pe_str pa_nil))), bini_cons (be_nm 1 (pv 1)) (pv 0) .nil, rfl, fun a ds QD ⟨p, e, q⟩ => ?_⟩
  subst e
  exact ⟨rfl, by decide, q⟩
theorem sc_NoStanding___init__ : FnScope ["self", "part"] ["self", "part"] (defScope s_NoStanding___init__) := ⟨rfl, rfl, rfl, by decide +kernel, rfl, by decide +kernel, by decide +kernel⟩
theorem ok_NoStanding {F : Fx} {C : Addr} (D : DnV F "NoStanding" C "NoStanding.__init__" s_NoStanding___init__ ["self", "part"] ["part"]) : ClE F 1 "NoStanding" C fiPart := by
  obtain ⟨fI, fd, iC, tI, Fn, b⟩ := D.ex
  refine cl_e D.T D.hm D.hx iC tI Fn b sc_NoStanding___init__ (fun ds QD ⟨p, e, _⟩ => by rw [e]; rfl) (by decide) ["part"] D.no fun cdv A outer s H E B H0 hr => ?_
  have nd := sc_NoStanding___init__.nd
  refine ⟨_, _, _, _, _, rfl, ps_expr (pe_ini (Bs := "ValueError") (by rfl) D.bs (by decide +kernel) (by rfl) (by decide +kernel) (by decide) (by decide) D.vV (pa_cons (pv 0) (pa_cons pe_str pa_nil))), bini_cons (be_nm 1 (pv 1)) (pv 0) .nil, rfl, fun a ds QD ⟨p, e, q⟩ => ?_⟩
  subst e
  exact ⟨rfl, by decide, q⟩
end Fv
set_option maxRecDepth 100000
set_option maxHeartbeats 4000000
/-! What is looked at of a refusal's class. -/
namespace Fv
open PySem PySem.Spec PyProof.Rows L2 Gb
open PySem.Xb (Bas refsT)
def oxB (K : PySem.W.Frag) (C : Addr) (newId : String) (tl : List Value) : Bool :=
  (match K.lookup C with
  | some ⟨.type "type", _, .cls cd, sl⟩ => (match cd.mro, sl.toList with
    | .ref C' :: bm, [_, _, _, _, some (.builtin n), _] => decide (C' = C) && (decide (n = newId) && (!cd.hasDel && (cd.hasDict && refsT tl bm)))
    | _, _ => false)
  | _ => false) && (He.eqO (PySem.W.findIn K (.ref C) "__setattr__") (some (some (.builtin "object.__setattr__"))) && (decide (PySem.W.subIn K (.ref C) (.type "BaseException") = some true) && (decide (PySem.W.typeIn K (.ref C) = some (.type "type")) && PySem.W.keepIn K (.ref C))))
theorem oxB_ok {K : PySem.W.Frag} {C : Addr} {newId iniId : String} {tl : List Value} (b : Bas newId iniId tl) (h : oxB K C newId tl = true) : OxT K C newId iniId tl := by
  unfold oxB at h
  rw [Bool.and_eq_true, Bool.and_eq_true, Bool.and_eq_true, Bool.and_eq_true] at h
  obtain ⟨h1, h2, h3, h4, h5⟩ := h
  refine ⟨b, ?_, He.eqO_ok h2, of_decide_eq_true h3, of_decide_eq_true h4, h5⟩
  split at h1
  · rename_i dd cd sl ho
    split at h1
    · rename_i C' bm k0 k1 k2 k3 n k5 hm hs
      simp only [Bool.and_eq_true, decide_eq_true_eq, Bool.not_eq_true'] at h1
      obtain ⟨rfl, rfl, hdel, hd, ht⟩ := h1
      obtain ⟨nm, bs, mro, ns, qn, hd', sn, sub, ab, col, del⟩ := cd
      dsimp only at hm hdel hd
      subst hm hdel hd
      have hsl : sl = #[k0, k1, k2, k3, some (.builtin n), k5] := by
        obtain ⟨l⟩ := sl
        simp only at hs
        rw [hs]
      subst hsl
      exact ⟨nm, qn, ns, bs, bm, sn, sub, ab, col, dd, k0, k1, k2, k3, k5, ho, ht⟩
    · cases h1
  · cases h1
def iniB (K : PySem.W.Frag) (base iniId : String) : Bool := match PySem.W.findCls K (.type base) (.type "type") "__init__" with
  | some (.val (.builtin s)) => decide (s = iniId)
  | _ => false
theorem iniB_ok {K : PySem.W.Frag} {base iniId : String} (h : iniB K base iniId = true) : PySem.W.findCls K (.type base) (.type "type") "__init__" = some (.val (.builtin iniId)) := by
  unfold iniB at h
  split at h
  · rename_i s e
    rw [e, of_decide_eq_true h]
  · cases h
end Fv
set_option maxRecDepth 100000
set_option maxHeartbeats 4000000
/-! What is looked at of the refusals that a law asks for. -/
namespace Fv
open PySem PySem.Spec PyProof.Rows L2 Gb
def six : List Str := ["NoWeb", "NoStanding", "NoLots", "NotAlike", "NoPart", "NoTie"]
def flds : List Str := ["part", "one", "other", "post", "posts", "tie"]
def refs (K : PySem.W.Frag) (xs : List Str) : List Value := xs.map fun x => .ref (He.ga K x)
structure RowP (K : PySem.W.Frag) (nm : Str) (C : Addr) : Prop where
  xl : XlC K C
  fld : ∀ f ∈ flds, PySem.W.findIn K (.ref C) f = some none
  exm : ∀ c ∈ six, PySem.W.exmOne K (.ref C) (.ref (He.ga K c)) = some (decide (c = nm))
  kv : PySem.W.kitOne K (.ref C) (.type "ValueError") = some true
  kk : PySem.W.kitOne K (.ref C) (.type "KeyError") = some false
  ka : PySem.W.kitOne K (.ref C) (.ref (He.ga K "NotAlike")) = some false
  k4 : PySem.W.kitAny K (.ref C) (refs K ["NoStanding", "NoLots", "NotAlike", "NoPart"]) = some (decide ("NoStanding" = nm))
  k3 : PySem.W.kitAny K (.ref C) (refs K ["NoLots", "NotAlike", "NoPart"]) = some false
def rowB (K : PySem.W.Frag) (nm : Str) (C : Addr) : Bool :=
  xfB K C && (He.eqO (PySem.W.findIn K (.ref C) "__class__") (some (some (.builtin "object.__class__"))) && (He.eqO (PySem.W.specialIn K (.builtin "object.__class__") "__get__") (some (some (.builtin "getset_descriptor.__get__"))) && (decide (PySem.W.takesIn K (.builtin "object.__class__") = some true) && (decide (PySem.W.mroIn K C (.type "object") = some true) &&
  (flds.all (fun f => He.eqO (PySem.W.findIn K (.ref C) f) (some none)) && (six.all (fun c => decide (PySem.W.exmOne K (.ref C) (.ref (He.ga K c)) = some (decide (c = nm)))) &&
  (decide (PySem.W.kitOne K (.ref C) (.type "ValueError") = some true) && (decide (PySem.W.kitOne K (.ref C) (.type "KeyError") = some false) && (decide (PySem.W.kitOne K (.ref C) (.ref (He.ga K "NotAlike")) = some false) &&
  (decide (PySem.W.kitAny K (.ref C) (refs K ["NoStanding", "NoLots", "NotAlike", "NoPart"]) = some (decide (("NoStanding" : Str) = nm))) && decide (PySem.W.kitAny K (.ref C) (refs K ["NoLots", "NotAlike", "NoPart"]) = some false)))))))))))
def refB (K : PySem.W.Frag) : Bool := rowB K "NoWeb" (He.ga K "NoWeb") && rowB K "NoStanding" (He.ga K "NoStanding")
end Fv
set_option maxRecDepth 100000
set_option maxHeartbeats 4000000
/-! A law's end where what stands at the modules' dict is known not to be the law's: so dicts can be shown. -/
namespace Fv
open PySem PySem.Spec PyProof.Rows L2 Gb
section
variable {P : Program} {w : World} {K : PySem.W.Frag} {mg mb : Str → Option Value} {s : Shared} {a fa : Addr} {cs : List (Addr × Addr)} {vs : List Value} {ns : List Int} {H : Hp}
/-- what is tracked at the start: the script, known; the tables, empty -/
structure StartS (K : PySem.W.Frag) (H : Hp) (a : Addr) (cs : List (Addr × Addr)) (ob : Obj) (ns : List Int) (o1 : Obj) : Prop where
  tab : ∀ p ∈ cs, H p.2 = some (.tbl #[])
  at_ : ∀ b u, H b = some u → (b = a ∧ u = .frz ob (.lst (ns.map V.int)) ∧ K.lookup a = none) ∨ (b ∈ cs.map (·.2) ∧ u = .tbl #[]) ∨ (b = sysModules ∧ u = .frz o1 (.own 0))
  sm : ∃ o u, H sysModules = some (.frz o u)
  k1 : K.lookup sysModules = none
  sq : SqL K H a (ns.map V.int)
theorem start_anyS (ob o1 : Obj) (k1 : K.lookup sysModules = none) (c1 : ∀ p ∈ cs, p.2 ≠ sysModules) (nT : ∀ p ∈ cs, p.2 ≠ a) (hk : K.lookup a = none ∨ ((∀ H : Hp, SqL K H a (ns.map V.int)) ∧ a ≠ sysModules)) : ∃ H : Hp, StartS K H a cs ob ns o1 := by
  have mem : ∀ p ∈ cs, p.2 ∈ cs.map (·.2) := fun p hp => List.mem_map.mpr ⟨p, hp, rfl⟩
  have n1 : sysModules ∉ cs.map (·.2) := fun h => by
    obtain ⟨p, hp, e⟩ := List.mem_map.mp h
    exact c1 p hp e
  rcases hk with hk | ⟨hk, hak⟩
  · refine ⟨fun b => if b = a then some (.frz ob (.lst (ns.map V.int))) else if b ∈ cs.map (·.2) then some (.tbl #[]) else if b = sysModules then some (.frz o1 (.own 0)) else none, fun p hp => ?_, fun b u e => ?_, ?_, k1, .inl (.inr ⟨ob, if_pos rfl⟩)⟩
    · show (if p.2 = a then _ else _) = _
      rw [if_neg (nT p hp), if_pos (mem p hp)]
    · have e2 : (if b = a then some (HO.frz ob (.lst (ns.map V.int))) else if b ∈ cs.map (·.2) then some (HO.tbl #[]) else if b = sysModules then some (HO.frz o1 (.own 0)) else none) = some u := e
      by_cases h1 : b = a
      · rw [if_pos h1] at e2
        exact .inl ⟨h1, (Option.some.inj e2).symm, hk⟩
      · rw [if_neg h1] at e2
        by_cases h2 : b ∈ cs.map (·.2)
        · rw [if_pos h2] at e2
          exact .inr (.inl ⟨h2, (Option.some.inj e2).symm⟩)
        · rw [if_neg h2] at e2
          by_cases h3 : b = sysModules
          · rw [if_pos h3] at e2
            exact .inr (.inr ⟨h3, (Option.some.inj e2).symm⟩)
          · rw [if_neg h3] at e2
            cases e2
    · by_cases h1 : sysModules = a
      · exact ⟨ob, _, if_pos h1⟩
      · refine ⟨o1, .own 0, ?_⟩
        show (if sysModules = a then _ else _) = _
        rw [if_neg h1, if_neg n1, if_pos rfl]
  · refine ⟨fun b => if b ∈ cs.map (·.2) then some (.tbl #[]) else if b = sysModules then some (.frz o1 (.own 0)) else none, fun p hp => if_pos (mem p hp), fun b u e => ?_, ⟨o1, .own 0, by show (if _ then _ else _) = _; rw [if_neg n1, if_pos rfl]⟩, k1, hk _⟩
    have e2 : (if b ∈ cs.map (·.2) then some (HO.tbl #[]) else if b = sysModules then some (HO.frz o1 (.own 0)) else none) = some u := e
    by_cases h2 : b ∈ cs.map (·.2)
    · rw [if_pos h2] at e2
      exact .inr (.inl ⟨h2, (Option.some.inj e2).symm⟩)
    · rw [if_neg h2] at e2
      by_cases h3 : b = sysModules
      · rw [if_pos h3] at e2
        exact .inr (.inr ⟨h3, (Option.some.inj e2).symm⟩)
      · rw [if_neg h3] at e2
        cases e2
theorem end_callS {k : Nat} {fd : FuncData} {x : Str} {sp : Sp} (h1s : ∃ o1, s.heap.get? sysModules = some o1) (k1 : K.lookup sysModules = none) (c1 : ∀ p ∈ cs, p.1 ≠ sysModules ∧ p.2 ≠ sysModules) (b1 : cs ≠ [] → ∀ bm, mg "__builtins__" = some (.ref bm) → bm ≠ sysModules) (kin : K.In s.heap) (hns : s.heap.Ns mainGlobals mg) (hb : s.heap.Ns builtinsNs mb) (hbb : ∀ x : Str, x ≠ "__name__" → mb x = bootBuiltins x) (hlim : s.heap.NoLimit) (hg : s.gens = #[])
    (hT : ∀ p ∈ cs, s.heap.get? p.2 = some { cls := .none, data := .fields #[] }) (nT : ∀ p ∈ cs, K.lookup p.2 = none) (hC : ∀ p ∈ cs, PySem.W.CodeHd s.heap p.1 p.2)
    (hbm : ∃ (bm : Addr) (ob : Obj), mg "__builtins__" = some (.ref bm) ∧ bm ≠ builtinsNs ∧ s.heap.get? bm = some ob ∧ ob.cls = .type "module" ∧ ob.dict = some builtinsNs ∧ ob.data = .plain)
    (ha : s.heap.get? a = some { cls := .type "list", data := .seq vs.toArray }) (hi : IntsAre vs ns) (hl : ns.length ≤ sizeLine) (hr : Room k callerA)
    (F : ∀ base : Heap, K.In base → base.Ns mainGlobals mg → (∀ p ∈ cs, LamX.TabB base mg p.1 p.2) → FnG P w K mg base k fa fd [x] sp) (hbind : ∀ (s : Shared) (u : Value), BindsTo s fd ⟨[u], []⟩ [(x, u)])
    (hsp : ∀ (H : Hp) (o1 : Obj), StartS K H a cs { cls := .type "list", data := .seq vs.toArray } ns o1 → sp [.ref a] H (fun v _ => v = .bl true) fun _ _ _ => False) :
    codeAny (model P w) callerA (.call (.ref fa) ⟨[.ref a], []⟩) (fun r s' => r = .ok (.ret (.bool true)) ∧ OldK s.heap s'.heap ∧ s'.os = s.os ∧ AllBare s'.gens) s := by
  have rv := vals_ints hi
  have isT : ∀ b : Addr, b ∈ cs.map (·.2) → s.heap.get? b = some { cls := .none, data := .fields #[] } := fun b hb => by
    obtain ⟨p, hp, e⟩ := List.mem_map.mp hb
    rw [← e]
    exact hT p hp
  obtain ⟨o1, ho1⟩ := h1s
  obtain ⟨H, hS⟩ := start_anyS (K := K) (cs := cs) (ns := ns) (a := a) { cls := .type "list", data := .seq vs.toArray } o1 k1 (fun p hp => (c1 p hp).2) (fun p hp z => by
    have := hT p hp
    rw [z, ha] at this
    cases this) (by
    cases hk : K.lookup a with
    | none => exact .inl rfl
    | some o =>
      right
      have e := kin a o hk
      rw [ha] at e
      cases e
      refine ⟨fun _ => .inr ⟨_, vs.toArray, _, hk, rfl, rfl, rfl, by rw [List.size_toArray, hi.length]; exact hl, by simpa using rv⟩, fun z => ?_⟩
      rw [z, k1] at hk
      cases hk)
  have hok : HOk P w H s.heap := fun b u e => by
    rcases hS.at_ b u e with ⟨rfl, rfl, _⟩ | ⟨hm, rfl⟩ | ⟨rfl, rfl⟩
    · exact ⟨ha, by rw [List.length_map]; exact hl, vs, _, rv, ha⟩
    · exact isT b hm
    · exact ⟨ho1, o1, ho1⟩
  -- what has other content is not tracked
  have untr : ∀ {b : Addr} {o : Obj}, b ≠ sysModules → s.heap.get? b = some o → (∀ vs n, o.data ≠ .seq vs n) → o.data ≠ .fields #[] → H b = none := fun {b o} nsm e n1 n2 => by
    cases q : H b with
    | none => rfl
    | some u =>
      rcases hS.at_ b u q with ⟨rfl, _⟩ | ⟨hm, _⟩ | ⟨rfl, _⟩
      · rw [ha] at e
        cases e
        exact absurd rfl (n1 _ _)
      · rw [isT b hm] at e
        cases e
        exact absurd rfl n2
      · exact absurd rfl nsm
  have nsK : ∀ {b : Addr} {m : Str → Option Value}, b ≠ sysModules → s.heap.Ns b m → (hidT s.heap H).Ns b m := fun {b m} nsm ⟨o, es, ep, e, d, r⟩ => ⟨o, es, ep, hidT_get e (untr nsm e (fun _ _ z => by rw [d] at z; cases z) fun z => by rw [d] at z; cases z), d, r⟩
  have hKb : K.In (hidT s.heap H) := fun b o e => hidT_get (kin b o e) (by
    cases q : H b with
    | none => rfl
    | some u =>
      rcases hS.at_ b u q with ⟨rfl, _, hk⟩ | ⟨hm, _⟩ | ⟨rfl, _⟩
      · rw [hk] at e
        cases e
      · obtain ⟨p, hp, ep⟩ := List.mem_map.mp hm
        rw [← ep, nT p hp] at e
        cases e
      · rw [k1] at e
        cases e)
  have hM : L2.Mod K mg (hidT s.heap H) := ⟨hKb, nsK (by decide) hns, ⟨mb, nsK (by decide) hb, hbb⟩, let ⟨mc, h1, h2⟩ := hlim; ⟨mc, nsK (by decide) h1, h2⟩⟩
  have b1' := b1
  have TB : ∀ p ∈ cs, LamX.TabB (hidT s.heap H) mg p.1 p.2 := fun p hp => by
    have hTp := hT p hp
    refine ⟨?_, ?_, fun z => ?_⟩
    · obtain ⟨o, us, file, tf, flags, tg, inF, text, tt, e1, r1, r2, r3, rest⟩ := hC p hp
      refine ⟨o, us, file, tf, flags, tg, inF, text, tt, hidT_get e1 (untr (c1 p hp).1 e1 (fun _ _ z => by rw [r2] at z; cases z) fun z => ?_), r1, r2, r3, rest⟩
      rw [r2] at z
      cases z
      simp at r3
    · obtain ⟨bm, ob, b1, b2, b3, b4, b5, b6⟩ := hbm
      refine ⟨bm, ob, b1, b2, fun q => ?_, fun q => ?_, hidT_get b3 (untr (b1' (fun z => by rw [z] at hp; cases hp) bm b1) b3 (fun _ _ z => by rw [b6] at z; cases z) fun z => by rw [b6] at z; cases z), b4, b5, b6⟩
      · obtain ⟨o, es, ep, e, hd, _⟩ := hns
        rw [q, e] at b3
        cases b3
        rw [hd] at b6
        cases b6
      · rw [q, hTp] at b3
        cases b3
        cases b6
    · obtain ⟨o, es, ep, e, hd, _⟩ := hns
      rw [z, hTp] at e
      cases e
      cases hd
  have e0 : Env0 P w K mg (hidT s.heap H) callerA [] s H := ⟨rfl, hM, fun b o e => of_hidT e, Nat.le_of_eq (hidT_size _ _), trivial, fun b hb => absurd (show b ∈ ([] : List Addr) from hb) (by simp), hok, .of_eq hg⟩
  refine codeAny_mono ((F _ hKb (nsK (by decide) hns) TB).run callerA [] s H ⟨[.ref a], []⟩ [.ref a] [.ref a] _ _ hr rfl e0 (hbind s (.ref a)) (.cons rfl .nil) rfl (hsp H o1 hS)) fun r s2 h => ?_
  match r, h with
  | .error e, ⟨_, _, _, _, _, _, _, _, _, _, _, _, z⟩ => exact z.elim
  | .ok .next, h => exact h.elim
  | .ok .brk, h => exact h.elim
  | .ok .cont, h => exact h.elim
  | .ok (.ret u), ⟨v, H2, os, bare, un, hok2, rv2, q⟩ =>
    have q' : v = .bl true := q
    subst q'
    cases rv2
    have key : ∀ b o, b ∉ cs.map (·.2) → s.heap.get? b = some o → s2.heap.get? b = some o := fun b o nb e => by
      cases q : H b with
      | none => exact un.keep b o e q (by intro z; exact absurd (show b ∈ ([] : List Addr) from z) (by simp)) (by simp)
      | some u =>
        rcases hS.at_ b u q with ⟨rfl, rfl, _⟩ | ⟨hm, _⟩ | ⟨rfl, rfl⟩
        · obtain ⟨e2, _⟩ := hok2 b _ (un.frzs b _ _ q)
          rw [ha] at e
          cases e
          exact e2
        · exact absurd hm nb
        · obtain ⟨e2, _⟩ := hok2 sysModules _ (un.frzs sysModules _ _ q)
          rw [ho1] at e
          cases e
          exact e2
    have grown : ∀ p ∈ cs, ∃ more : Array Value, s2.heap.get? p.2 = some { cls := .none, data := .fields more } := fun p hp => by
      obtain ⟨more, z⟩ := un.tbls p.2 #[] (hS.tab p hp)
      exact ⟨_, hok2 p.2 _ z⟩
    refine ⟨rfl, ⟨fun b o e => ?_, fun b o e => ?_⟩, os, bare⟩
    · by_cases hb : b ∈ cs.map (·.2)
      · obtain ⟨p, hp, rfl⟩ := List.mem_map.mp hb
        obtain ⟨more, hm⟩ := grown p hp
        rw [hT p hp] at e
        cases e
        exact .inr (.inl ⟨((hC p hp).tab (hT p hp)).isCodeTable, rfl, #[], more, rfl, by rw [Array.empty_append]; exact hm⟩)
      · exact .inl (key b o hb e)
    · by_cases hb : b ∈ cs.map (·.2)
      · obtain ⟨p, hp, rfl⟩ := List.mem_map.mp hb
        obtain ⟨more, hm⟩ := grown p hp
        exact ⟨_, hm⟩
      · exact ⟨o, key b o hb e⟩
end
theorem end_walkS {l : PySem.W.OpenLaw} {n k : Nat} {q : Program} {loose : List Str} {XP : (Str → Option Value) → Heap → Prop} {YP : World → Heap → Prop} {d : DefRec} {x : Str}
    (hn : l.most = some n) (hn2 : n ≤ sizeLine) (hdf : d.params.defaults = []) (hr : Room k callerA)
    (F : ∀ (w : World) (mg : Str → Option Value) (fa : Addr) (h : Heap), YP w h → h.Ns mainGlobals mg → mg d.name = some (.ref fa) →
      ∃ (K : PySem.W.Frag) (fd : FuncData) (cs : List (Addr × Addr)) (sp : Sp), K.In h ∧ (∀ p ∈ cs, h.get? p.2 = some { cls := .none, data := .fields #[] }) ∧ (∀ p ∈ cs, K.lookup p.2 = none) ∧ (∃ o1, h.get? sysModules = some o1) ∧ K.lookup sysModules = none ∧ (∀ p ∈ cs, p.1 ≠ sysModules ∧ p.2 ≠ sysModules) ∧ (cs ≠ [] → ∀ bm, mg "__builtins__" = some (.ref bm) → bm ≠ sysModules) ∧ (∀ p ∈ cs, PySem.W.CodeHd h p.1 p.2) ∧ (∀ (s : Shared) (u : Value), BindsTo s fd ⟨[u], []⟩ [(x, u)]) ∧
        (∀ (H : Hp) (a : Addr) (ns : List Int) (ob o1 : Obj), ns.length ≤ n → StartS K H a cs ob ns o1 → sp [.ref a] H (fun v _ => v = .bl true) fun _ _ _ => False) ∧
        ∀ base : Heap, K.In base → base.Ns mainGlobals mg → (∀ p ∈ cs, LamX.TabB base mg p.1 p.2) → FnG l.prog w K mg base k fa fd [x] sp) :
    PySem.W.WalkO q loose XP YP l.row.toRowW d [] (fun f vs => PySem.call f vs) := by
  refine Att.attach_callB hn hdf fun w s₀ s1 mg mb fa o pm cd doc a vs ns G Y ho hd hcd hmg hobj hints hlen hbits hg => ?_
  obtain ⟨K, fd, cs, sp, kin, hT, nT, h1s, k1, c1, b1, C, hb, hsp, hF⟩ := F w mg fa _ Y G.T.g hmg
  exact end_callS h1s k1 c1 b1 kin G.T.g G.T.b G.T.builtins G.T.nolimit hg hT nT C G.T.bmain hobj hints (Nat.le_trans hlen hn2) hr hF hb fun H o1 hS => hsp H a ns _ o1 hlen hS
/-- the head's hook that also says that something stands at the modules' dict -/
def hookS (n : Nat) (fa : List He.Fa) (fn : List He.DefD) (ts : List He.Tab) (tf : List He.Defn) (ex : PySem.W.Frag → Bool) : PySem.W.Hook where
  α := He.AlX × Bool
  obs := fun s => (He.obsX n fa fn ts tf ex s.heap.get?, (s.heap.get? sysModules).isSome)
  val := fun w => (He.valX fn ts w, true)
  says := fun w h => (∃ K : PySem.W.Frag, K.In h ∧ He.SaysX fa fn ts tf ex w h K) ∧ ∃ o, h.get? sysModules = some o
  of := fun w s e => ⟨(He.hookX n fa fn ts tf ex).of w s (congrArg (fun z : He.AlX × Bool => z.1) e), Option.isSome_iff_exists.mp (congrArg (fun z : He.AlX × Bool => z.2) e)⟩
  keeps := fun w h h' ⟨x, o, e⟩ k => ⟨(He.hookX n fa fn ts tf ex).keeps w h h' x k, o, k _ _ e⟩
def obS (n : Nat) (fa : List He.Fa) (fn : List He.DefD) (ts : List He.Tab) (tf : List He.Defn) (ex : PySem.W.Frag → Bool) (g : Addr → Option Obj) : He.AlX × Bool := (He.obsX n fa fn ts tf ex g, (g sysModules).isSome)
end Fv
set_option maxRecDepth 100000
set_option maxHeartbeats 4000000
/-! A head's hook that looks only at what stands at given names and at what that names: no sieving of doubles. -/
namespace Fv
open PySem PySem.Spec PyProof.Rows L2 Gb
def levQ (g : Addr → Option Obj) : Nat → List Addr → List Addr
  | 0, fs => fs
  | n + 1, fs => fs ++ levQ g n (fs.flatMap fun a => match g a with
    | some o => He.refsD o
    | none => [])
def topQ (g : Addr → Option Obj) (xs : List Str) : List Addr := xs.filterMap fun x => match PySem.W.nsIn (He.frG g [mainGlobals]) mainGlobals x with
  | some (some (.ref a)) => some a
  | _ => none
def asQ (g : Addr → Option Obj) (n : Nat) (xs : List Str) : List Addr := mainGlobals :: levQ g n (topQ g xs)
/-- what is seen of the fragment over the addresses `as` -/
def obsF (fa : List He.Fa) (fn : List He.DefD) (tf : List He.Defn) (ex : PySem.W.Frag → Bool) (g : Addr → Option Obj) (K : PySem.W.Frag) : He.AlX := (He.obsT fa fn [] K, ex K && He.tabsB g tf K)
theorem saysF_of {fa : List He.Fa} {fn : List He.DefD} {tf : List He.Defn} {ex : PySem.W.Frag → Bool} {w : World} {h : Heap} {as : List Addr} (e : obsF fa fn tf ex h.get? (He.frT h.get? as) = He.valX fn [] w) : He.SaysX fa fn [] tf ex w h (He.frT h.get? as) := by
  have e1 : He.obsT fa fn [] (He.frT h.get? as) = He.valT fn [] w := congrArg (fun z : He.AlX => z.1) e
  have e2 : (ex (He.frT h.get? as) && He.tabsB h.get? tf (He.frT h.get? as)) = true := congrArg (fun z : He.AlX => z.2) e
  obtain ⟨h1, h2⟩ := Bool.and_eq_true_iff.mp e2
  have key : ∀ p ∈ tf, PySem.W.codeHdIn (He.frT h.get? as) (He.cT (He.frT h.get? as) p).1 (He.cT (He.frT h.get? as) p).2 = true ∧ ∃ o, h.get? (He.cT (He.frT h.get? as) p).2 = some o ∧ He.emptyTab o = true := fun p hp => by
    obtain ⟨h3, h4⟩ := Bool.and_eq_true_iff.mp (List.all_eq_true.mp h2 p hp)
    refine ⟨h3, ?_⟩
    cases q : h.get? (He.cT (He.frT h.get? as) p).2 with
    | none => rw [q] at h4; cases h4
    | some o => rw [q] at h4; exact ⟨o, rfl, h4⟩
  exact ⟨e1, h1, fun p hp => (key p hp).1, fun p hp => by
    obtain ⟨_, o, q, z⟩ := key p hp
    exact He.frT_none q z, fun p hp => by
    obtain ⟨_, o, q, z⟩ := key p hp
    rw [q, He.emptyTab_eq z]⟩
def obQ (n : Nat) (xs : List Str) (fa : List He.Fa) (fn : List He.DefD) (tf : List He.Defn) (ex : PySem.W.Frag → Bool) (g : Addr → Option Obj) : He.AlX × Bool := (obsF fa fn tf ex g (He.frT g (asQ g n xs)), (g sysModules).isSome)
def hookQ (n : Nat) (xs : List Str) (fa : List He.Fa) (fn : List He.DefD) (tf : List He.Defn) (ex : PySem.W.Frag → Bool) : PySem.W.Hook where
  α := He.AlX × Bool
  obs := fun s => obQ n xs fa fn tf ex s.heap.get?
  val := fun w => (He.valX fn [] w, true)
  says := fun w h => (∃ K : PySem.W.Frag, K.In h ∧ He.SaysX fa fn [] tf ex w h K) ∧ ∃ o, h.get? sysModules = some o
  of := fun w s e => ⟨⟨_, He.frT_in, saysF_of (congrArg (fun z : He.AlX × Bool => z.1) e)⟩, Option.isSome_iff_exists.mp (congrArg (fun z : He.AlX × Bool => z.2) e)⟩
  keeps := fun w h h' ⟨⟨K, hK, c⟩, o, e⟩ k => ⟨⟨K, PySem.W.Frag.In.keeps hK k, ⟨c.t, c.more, c.hd, c.out, fun p hp => k _ _ (c.empty p hp)⟩⟩, o, k _ _ e⟩
theorem obQ_eq {n : Nat} {xs : List Str} {fa : List He.Fa} {fn : List He.DefD} {tf : List He.Defn} {ex : PySem.W.Frag → Bool} {g : Addr → Option Obj} {s : Shared} (h : ∀ a, g a = s.heap.get? a) : obQ n xs fa fn tf ex g = (hookQ n xs fa fn tf ex).obs s := by
  have e : g = s.heap.get? := funext h
  rw [e] <;> rfl
section
open HandSHeadRun
/-- the run's equation in two halves -/
theorem runEqI_two {r : PySem.W.OpenRow} {q : PySem.Program} {H : PySem.W.Hook} {ob : PySem.W.SharedT → H.α} {M : Nat} {loose : List PySem.Str} {w : World}
    (h1 : (wholeF (fun p => stepQ (denQ tabQ) p w) fenceQ M r.prog).map (fun x => (looksF r.prog x.1.heap x.2.abs, seenQ q loose (importedModules r.prog.main.body) (fun s => PySem.W.xlAt q [] s && PySem.W.recOk r.toRowW.records s) x.2.abs)) = some (true, PySem.W.openGood q loose))
    (h2 : (wholeF (fun p => stepQ (denQ tabQ) p w) fenceQ M r.prog).map (fun x => ob x.2) = some (H.val w)) : RunEqI r q H ob M loose w := by
  unfold RunEqI
  cases e : wholeF (fun p => stepQ (denQ tabQ) p w) fenceQ M r.prog with
  | none => rw [e] at h2; cases h2
  | some x =>
    rw [e] at h1 h2
    have a := Prod.mk.inj (Option.some.inj h1)
    have b := Option.some.inj h2
    exact congrArg some (Prod.ext a.1 (Prod.ext a.2 b))
end
end Fv
set_option maxRecDepth 100000
set_option maxHeartbeats 4000000
/-! What is looked at of the refusals that a law asks for, for any list of classes. -/
namespace Fv
open PySem PySem.Spec PyProof.Rows L2 Gb
def refsG (K : PySem.W.Frag) (xs : List Str) : List Value := xs.map fun x => .ref (He.ga K x)
/-- cs: the classes, fs: their fields, ks: those that are KeyErrors -/
structure RowG (K : PySem.W.Frag) (cs fs ks : List Str) (nm : Str) (C : Addr) : Prop where
  xl : XlC K C
  fld : ∀ f ∈ fs, PySem.W.findIn K (.ref C) f = some none
  exm : ∀ c ∈ cs, PySem.W.exmOne K (.ref C) (.ref (He.ga K c)) = some (decide (c = nm))
  kit : ∀ c ∈ cs, PySem.W.kitOne K (.ref C) (.ref (He.ga K c)) = some (decide (c = nm))
  kv : PySem.W.kitOne K (.ref C) (.type "ValueError") = some (!ks.any fun c => decide (c = nm))
  kk : PySem.W.kitOne K (.ref C) (.type "KeyError") = some (ks.any fun c => decide (c = nm))
def rowGB (K : PySem.W.Frag) (cs fs ks : List Str) (nm : Str) (C : Addr) : Bool :=
  xfB K C && (He.eqO (PySem.W.findIn K (.ref C) "__class__") (some (some (.builtin "object.__class__"))) && (He.eqO (PySem.W.specialIn K (.builtin "object.__class__") "__get__") (some (some (.builtin "getset_descriptor.__get__"))) && (decide (PySem.W.takesIn K (.builtin "object.__class__") = some true) && (decide (PySem.W.mroIn K C (.type "object") = some true) &&
  (fs.all (fun f => He.eqO (PySem.W.findIn K (.ref C) f) (some none)) && (cs.all (fun c => decide (PySem.W.exmOne K (.ref C) (.ref (He.ga K c)) = some (decide (c = nm)))) && (cs.all (fun c => decide (PySem.W.kitOne K (.ref C) (.ref (He.ga K c)) = some (decide (c = nm)))) &&
  (decide (PySem.W.kitOne K (.ref C) (.type "ValueError") = some (!ks.any fun c => decide (c = nm))) && decide (PySem.W.kitOne K (.ref C) (.type "KeyError") = some (ks.any fun c => decide (c = nm)))))))))))
theorem rowGB_ok {K : PySem.W.Frag} {cs fs ks : List Str} {nm : Str} {C : Addr} (h : rowGB K cs fs ks nm C = true) : RowG K cs fs ks nm C := by
  unfold rowGB at h
  simp only [Bool.and_eq_true, decide_eq_true_eq, List.all_eq_true] at h
  obtain ⟨h1, h2, h3, h4, h5, h6, h7, h8, h9, ha⟩ := h
  have f := xfB_ok h1
  exact ⟨⟨f, ⟨f.ga, f.gg, f.exC, f.hdC, He.eqO_ok h2, He.eqO_ok h3, h4, h5⟩⟩, fun x hx => He.eqO_ok (h6 x hx), h7, h8, h9, ha⟩
/-- rs: the classes that are raised -/
def refGB (K : PySem.W.Frag) (rs cs fs ks : List Str) : Bool := rs.all fun nm => rowGB K cs fs ks nm (He.ga K nm)
theorem RowG.any {K : PySem.W.Frag} {cs fs ks : List Str} {nm : Str} {C : Addr} (R : RowG K cs fs ks nm C) : ∀ xs : List Str, (∀ x ∈ xs, x ∈ cs) → PySem.W.kitAny K (.ref C) (refsG K xs) = some (xs.any fun c => decide (c = nm))
  | [], _ => rfl
  | x :: xs, h => by
    have e := R.kit x (h x List.mem_cons_self)
    have r := R.any xs fun y hy => h y (List.mem_cons_of_mem _ hy)
    show (match PySem.W.kitOne K (.ref C) (.ref (He.ga K x)) with
      | some true => some true
      | some false => PySem.W.kitAny K (.ref C) (refsG K xs)
      | none => none) = _
    rw [e]
    by_cases hx : x = nm
    · rw [decide_eq_true hx, List.any_cons, decide_eq_true hx]
      rfl
    · rw [decide_eq_false hx, List.any_cons, decide_eq_false hx]
      exact r
structure RefG (F : Fx) (rs cs fs ks : List Str) : Prop where
  ex : ∀ nm cv, F.ex nm = some cv → nm ∈ rs ∧ cv = .ref (He.ga F.K nm)
  tab : refGB F.K rs cs fs ks = true
  mgs : ∀ x ∈ cs, F.mg x = some (.ref (He.ga F.K x))
  mgV : F.mg "ValueError" = none
  mgK : F.mg "KeyError" = none
section
variable {F : Fx} {rs cs fs ks : List Str}
theorem RefG.row (R : RefG F rs cs fs ks) {nm : Str} {C : Addr} (h : F.ex nm = some (.ref C)) : RowG F.K cs fs ks nm C := by
  obtain ⟨h1, h2⟩ := R.ex _ _ h
  cases h2
  have t := R.tab
  unfold refGB at t
  exact rowGB_ok (List.all_eq_true.mp t nm h1)
theorem RefG.all (R : RefG F rs cs fs ks) : ∀ nm cv, F.ex nm = some cv → ∃ C, cv = .ref C ∧ XlC F.K C := fun nm cv h => by
  obtain ⟨h1, h2⟩ := R.ex _ _ h
  subst h2
  exact ⟨_, rfl, (R.row h).xl⟩
theorem RefG.cl (R : RefG F rs cs fs ks) {x : Str} (h : x ∈ cs) : ∃ u, F.mg x = some u ∧ RelV (.ref (He.ga F.K x)) u := ⟨_, R.mgs x h, rfl⟩
end
section
variable {m : Bool} {X : Cx} {G : Cg} {a b : Expr} {ta : TE} {wa : WE} {pos p p2 : Pos} {x : Str}
theorem be_xeH (hall : XlAll G X.K) (hno : ∀ nm C, G.ex nm = some (.ref C) → PySem.W.findIn X.K (.ref C) x = some none) (ha : BE X G a ta wa) (hb : attributeBase a x X.env (eval a X.env) = eval a X.env := by rfl) (hK : X.K = G.K := by rfl) :
    BE X G (.Attribute a x pos) (tXe G.K x ta) (wXe x wa) := by
  have h := be_xe (pos := pos) hall hno ha hb hK
  rw [hK] at h
  exact h
theorem be_xi1H {is : Str → Bool} {v : V} {cv : Value} (hall : XlAll G X.K) (hv : ∀ u, RelV v u → u = cv) (his : ∀ nm C, G.ex nm = some (.ref C) → PySem.W.kitOne X.K (.ref C) cv = some (is nm)) (hg : Gl X "isinstance") (hm : X.mg "isinstance" = none) (ha : BE X G a ta wa) (hb : PE X b (tC v))
    (hs : starEach [b] X.env = (false, eval b X.env) :: starEach [] X.env := by rfl) (he : starEach (a :: [b]) X.env = (false, eval a X.env) :: starEach [b] X.env := by rfl) (hpl : (backTo pos (starEach [b] X.env)).any (·.1) = false := by rfl) (hK : X.K = G.K := by rfl) :
    BE X G (.Call (.Name "isinstance" p) [a, b] [] pos) (tCB (rXis G.K) (tCons ta (tCons (tC v) tNil))) (wXi is wa) := by
  have h := be_xi1 (p := p) (pos := pos) (is := is) hall hv his hg hm ha hb hs he hpl
  rw [hK] at h
  exact h
theorem be_xiNH {is : Str → Bool} {cs : List Expr} {t : TA} {vs : List V} {us : List Value} {kt : Nat} (hall : XlAll G X.K) (hc : PCs X cs t vs us) (hlen : vs.length ≤ 1000) (his : ∀ nm C, G.ex nm = some (.ref C) → PySem.W.kitAny X.K (.ref C) us = some (is nm)) (hg : Gl X "isinstance") (hm : X.mg "isinstance" = none) (ha : BE X G a ta wa)
    (hs : starEach [.Tuple cs kt p2] X.env = (false, eval (.Tuple cs kt p2) X.env) :: starEach [] X.env := by rfl) (he : starEach (a :: [.Tuple cs kt p2]) X.env = (false, eval a X.env) :: starEach [.Tuple cs kt p2] X.env := by rfl) (hpl : (backTo pos (starEach [.Tuple cs kt p2] X.env)).any (·.1) = false := by rfl) (hK : X.K = G.K := by rfl) :
    BE X G (.Call (.Name "isinstance" p) [a, .Tuple cs kt p2] [] pos) (tCB (rXis G.K) (tCons ta (tCons (tTup t) tNil))) (wXi is wa) := by
  have h := be_xiN (p := p) (pos := pos) (p2 := p2) (kt := kt) (is := is) hall hc hlen his hg hm ha hs he hpl
  rw [hK] at h
  exact h
end
/-- what is told of what is asked -/
def outT (Q : QE) (d : D) (n : Nat) : Prop := match pyAll [.py (.str "told"), d] with
  | some ps => ps.length ≤ 100000 ∧ Q (.py (.tuple ps)) n
  | none => False
end Fv
set_option maxRecDepth 100000
set_option maxHeartbeats 4000000
/-! dict(pairs); what is in a dict. -/
namespace Fv
open PySem PySem.Spec PyProof.Rows L2 Gb
open PySem.W (T4)
def pairD (p : Key × PyData) : PyData := .tuple [keyP p.1, p.2]
section
variable {X : Cx} {G : Cg} {a b : Expr} {ta tb : TE} {wa wb : WE} {wl : WL} {wk : WK} {pos p : Pos}
def wDictP (wl : WL) : WV := fun ρ n E Q => wl ρ n E fun k ds n1 => k = false ∧ ∃ es : List (Key × PyData), ds = es.map pairD ∧ Q (.dow (mergeD [] es)) n1
def rDictP (K : PySem.W.Frag) : List V → Hp → VK → Prop := fun xs H Q => ∃ (a : Addr) (ps : List Addr) (kvs : List (Key × V)), xs = [.ref a] ∧ SqL K H a (ps.map V.ref) ∧ Paired (fun p kv => SqT K H p [kV kv.1, kv.2]) ps kvs ∧ ∀ p, H p = none → Q (.ref p) (upd H p (.dK (mergeK [] kvs)))
end
end Fv
namespace Fv
open PySem PySem.Spec PyProof.Rows L2 Gb
end Fv
set_option maxRecDepth 100000
set_option maxHeartbeats 4000000
/-! repr of data with dicts. -/
namespace Fv
open PySem PySem.Spec PyProof.Rows L2 Gb
theorem vals_kv : ∀ {kvs : List (Key × V)} {vs : List (Key × Value)}, KV kvs vs → Vals (kvs.map (·.2)) (vs.map (·.2))
  | _, _, .nil => .nil
  | _, _, .cons h t => .cons h.2 (vals_kv t)
theorem keys_kv : ∀ {kvs : List (Key × V)} {vs : List (Key × Value)}, KV kvs vs → vs.map (·.1) = kvs.map (·.1)
  | _, _, .nil => rfl
  | _, _, .cons h t => by
    simp only [List.map_cons, h.1, keys_kv t]
theorem ddk_keys {K : PySem.W.Frag} {H : Hp} : ∀ {kvs : List (Key × V)} {ks : List (PyData × PyData)}, DdK K H kvs ks → ks.map (·.1) = kvs.map fun p => keyP p.1
  | _, _, .nil => rfl
  | _, _, .cons h t => by simp only [List.map_cons, ddk_keys t]
theorem reads_key {h : Heap} {k : Key} {v : Value} (e : keyIs k v = true) : Reads h v (keyP k) [] := by
  rcases keyIs_shape e with ⟨i, t, rfl, rfl⟩ | ⟨x, t, rfl, rfl⟩
  · exact .int i t
  · exact .str x t
theorem reads_keys {P : Program} {w : World} {h : Heap} : ∀ {es : List DictEntry} {vs : List (Key × Value)}, Pairs (mixKind P w) es vs → ∃ as, ReadsAll h (es.map (·.key)) (vs.map fun p => keyP p.1) as ∧ sysModules ∉ as
  | _, _, .nil => ⟨_, .nil, by simp⟩
  | _, _, .cons h1 h2 t => by
    obtain ⟨as, q, n⟩ := reads_keys t
    exact ⟨_, .cons (reads_key h1) q, by simpa using n⟩
theorem pairs_vals {P : Program} {w : World} : ∀ {es : List DictEntry} {vs : List (Key × Value)}, Pairs (mixKind P w) es vs → es.map (·.val) = vs.map (·.2)
  | _, _, .nil => rfl
  | _, _, .cons h1 h2 t => by simp only [List.map_cons, h2, pairs_vals t]
theorem sys_ne {H : Hp} {a : Addr} {u : HO} (hs : ∃ o u, H sysModules = some (.frz o u)) (h : H a = some u) (hu : ∀ o v, u ≠ .frz o v) : sysModules ≠ a := fun e => by
  obtain ⟨o, v, q⟩ := hs
  rw [e, h] at q
  exact hu o v (Option.some.inj q)
section
variable {X : Cx} {pins : List (Addr × Obj)} {σ : L2.St} {H : Hp} {s : Shared}
mutual
theorem Dd.readsS (I : Inv X pins σ H s) (hs : ∃ o u, H sysModules = some (.frz o u)) : ∀ {v : V} {d : PyData} {u : Value}, Dd X.K H v d → RelV v u → ∃ as, Reads s.heap u d as ∧ sysModules ∉ as
  | _, _, _, .non, r => by
    cases r
    exact ⟨_, .none, by simp⟩
  | _, _, _, .bl b, r => by
    cases r
    exact ⟨_, .bool b, by simp⟩
  | _, _, _, .int i, r => by
    obtain ⟨t, rfl⟩ := r
    exact ⟨_, .int i t, by simp⟩
  | _, _, _, .str x, r => by
    obtain ⟨t, rfl⟩ := r
    exact ⟨_, .str x t, by simp⟩
  | _, _, _, .lst h a _, r => by
    cases r
    obtain ⟨its, rv, ⟨o, n, ho, hc, _, hd⟩, _⟩ := I.list (SqL.of h)
    obtain ⟨as, q, nn⟩ := DdA.readsS I hs a (us := its) rv
    exact ⟨_, Reads.list ho hc hd q, by
      rw [List.mem_cons, not_or]
      exact ⟨sys_ne hs h (fun _ _ => nofun), nn⟩⟩
  | _, _, _, .tup h a _, r => by
    cases r
    obtain ⟨its, rv, ⟨o, ho, hc, n, hd⟩, _⟩ := I.tuple h
    obtain ⟨as, q, nn⟩ := DdA.readsS I hs a (us := its) rv
    exact ⟨_, Reads.tuple ho hc hd q, nn⟩
  | _, _, _, .dic (kvs := kvs) (ks := ks) h a, r => by
    cases r
    obtain ⟨_, _, vs, hkv, o, es, ep, ho, hex, hd, _, hp, _⟩ := I.hok _ _ h
    obtain ⟨as, q1, n1⟩ := reads_keys (h := s.heap) hp
    obtain ⟨bs, q2, n2⟩ := DdK.readsS I hs a (vals_kv hkv)
    have e1 : ks.map (·.1) = vs.map fun p => keyP p.1 := by
      rw [ddk_keys a]
      have e := keys_kv hkv
      calc kvs.map (fun p => keyP p.1) = (kvs.map (·.1)).map keyP := by rw [List.map_map]; rfl
        _ = (vs.map (·.1)).map keyP := by rw [e]
        _ = _ := by rw [List.map_map]; rfl
    refine ⟨_, Reads.dict ho hex.1 hd (e1 ▸ q1) (by rw [pairs_vals hp]; exact q2), ?_⟩
    rw [List.cons_append, List.mem_cons, List.mem_append, not_or, not_or]
    exact ⟨sys_ne hs h (fun _ _ => nofun), n1, n2⟩
theorem DdA.readsS (I : Inv X pins σ H s) (hs : ∃ o u, H sysModules = some (.frz o u)) : ∀ {vs : List V} {ds : List PyData} {us : List Value}, DdA X.K H vs ds → Vals vs us → ∃ as, ReadsAll s.heap us ds as ∧ sysModules ∉ as
  | _, _, _, .nil, r => by
    cases r
    exact ⟨_, .nil, by simp⟩
  | _, _, _, .cons h1 h2, r => by
    cases r with
    | cons r1 r2 =>
      obtain ⟨as, q1, n1⟩ := Dd.readsS I hs h1 r1
      obtain ⟨bs, q2, n2⟩ := DdA.readsS I hs h2 r2
      exact ⟨_, .cons q1 q2, by
        rw [List.mem_append, not_or]
        exact ⟨n1, n2⟩⟩
theorem DdK.readsS (I : Inv X pins σ H s) (hs : ∃ o u, H sysModules = some (.frz o u)) : ∀ {kvs : List (Key × V)} {ks : List (PyData × PyData)} {us : List Value}, DdK X.K H kvs ks → Vals (kvs.map (·.2)) us → ∃ as, ReadsAll s.heap us (ks.map (·.2)) as ∧ sysModules ∉ as
  | _, _, _, .nil, r => by
    cases r
    exact ⟨_, .nil, by simp⟩
  | _, _, _, .cons h1 h2, r => by
    cases r with
    | cons r1 r2 =>
      obtain ⟨as, q1, n1⟩ := Dd.readsS I hs h1 r1
      obtain ⟨bs, q2, n2⟩ := DdK.readsS I hs h2 r2
      exact ⟨_, .cons q1 q2, by
        rw [List.mem_append, not_or]
        exact ⟨n1, n2⟩⟩
end
end
/-! ### repr -/
def rReprD (K : PySem.W.Frag) : List V → Hp → VK → Prop := fun vs H Q => ∃ v d, vs = [v] ∧ Dd K H v d ∧ (∃ o u, H sysModules = some (.frz o u)) ∧ d.showable = true ∧ d.depth ≤ 40 ∧ d.shown.length ≤ sizeLine ∧ Q (.str d.shown) H
theorem call_reprD {X : Cx} (hg : X.A.guards = some []) (hu : X.A.units + 64 < cLine) : CallR X (.builtin "repr") (rReprD X.K) := by
  intro pins s σ H xs us Q I r h
  obtain ⟨v, d, rfl, hd, hsm, hs, hdp, hz, q⟩ := h
  obtain ⟨u, rfl, ru⟩ := vals1 r
  obtain ⟨as, hr, hn⟩ := Dd.readsS I hsm hd ru
  cases hd with
  | non =>
    cases ru
    exact PySem.P.repr_of_none ⟨.str _, H, I.tok _, ⟨_, rfl⟩, q⟩
  | bl b =>
    cases ru
    exact PySem.P.repr_of_bool ⟨.str _, H, I.tok _, ⟨_, rfl⟩, q⟩
  | int i =>
    obtain ⟨t, rfl⟩ := ru
    exact PySem.P.repr_of_int (of_decide_eq_true hs) ⟨.str _, H, I.tok _, ⟨_, rfl⟩, q⟩
  | str x =>
    obtain ⟨t, rfl⟩ := ru
    exact PySem.P.repr_of_str ⟨.str _, H, I.tok _, ⟨_, rfl⟩, q⟩ hz
  | @lst a xs ds h1 h2 =>
    cases ru
    exact repr_of_reads' hr hs (fun _ => hn) hg (by omega) (fun _ _ e => e) (fun h2 t tk hk => ⟨.str _, H, I.kept (t' := tk) hk, ⟨_, rfl⟩, q⟩) hz
  | @tup a xs ds h1 h2 =>
    cases ru
    exact repr_of_reads' hr hs (fun _ => hn) hg (by omega) (fun _ _ e => e) (fun h2 t tk hk => ⟨.str _, H, I.kept (t' := tk) hk, ⟨_, rfl⟩, q⟩) hz
  | @dic a xs ds h1 h2 =>
    cases ru
    exact repr_of_reads' hr hs (fun _ => hn) hg (by omega) (fun _ _ e => e) (fun h2 t tk hk => ⟨.str _, H, I.kept (t' := tk) hk, ⟨_, rfl⟩, q⟩) hz
/-- what repr can show, with dicts -/
structure ShowsD (d : PyData) : Prop where
  s : d.showable = true
  dp : d.depth ≤ 40
  l : d.shown.length ≤ sizeLine
def wReprD (wa : WE) : WE := fun ρ n E Q => wa ρ n E fun d n' => match d with
  | .py d => ShowsD d ∧ Q (.py (.str d.shown)) n'
  | _ => False
section
variable {X : Cx} {G : Cg} {a : Expr} {ta : TE} {wa : WE} {p pos : Pos}
theorem be_reprD (hsm : ∃ o u, G.H0 sysModules = some (.frz o u)) (hpn : ∀ q c T, G.pn = some (q, c, T) → sysModules ≠ q) (hgu : X.A.guards = some []) (hu : X.A.units + 64 < cLine) (hg : Gl X "repr") (hm : X.mg "repr" = none) (ha : BF X G a ta wa) (he : starEach (a :: []) X.env = (false, eval a X.env) :: starEach [] X.env := by rfl) (hpl : (backTo pos (starEach [] X.env)).any (·.1) = false := by rfl) (hK : X.K = G.K := by rfl) :
    BE X G (.Call (.Name "repr" p) [a] [] pos) (tCB (rReprD X.K) (tCons ta tNil)) (wReprD wa) :=
  ⟨pe_callB (call_reprD hgu hu) hg hm (by decide +kernel) (pa_cons ha.pe pa_nil he) (by decide) (by decide) he hpl, fun ρ σ n B H E Qd Q S hw xw k => ha.snd ρ σ n B H E _ _ S hw xw fun v d n1 B1 H1 Bf m1 pk1 lk r1 q1 => by
    match d, r1, q1 with
    | .py d, r1, q1 =>
      obtain ⟨hS, q1⟩ := q1
      have hs1 : ∃ o u, H1 sysModules = some (.frz o u) := by
        obtain ⟨o, u, e⟩ := hsm
        have m := S.mv.trans m1
        refine ⟨o, u, ?_⟩
        have kp := m.kp
        cases ep : G.pn with
        | none =>
          rw [ep] at kp
          exact kp _ _ e
        | some pc =>
          rw [ep] at kp
          exact kp.1 _ _ (hpn pc.1 pc.2.1 pc.2.2 ep) True.intro e
      refine ⟨v, d, rfl, ?_, hs1, hS.s, hS.dp, hS.l, k _ _ n1 B1 H1 m1 pk1 r_str q1⟩
      rw [hK]
      exact r1.mono lk.1⟩
end
end Fv
set_option maxRecDepth 100000
set_option maxHeartbeats 4000000
/-! list(d.values()), by value. -/
namespace Fv
open PySem PySem.Spec PyProof.Rows L2 Gb
section
variable {X : Cx} {o : Expr} {to : TE} {pos apos cpos p : Pos}
/-- the view of a dict's values: made, tracked -/
def tView (to : TE) : TE := fun σ H Q => to σ H fun x H1 => ∃ d kvs, x = .ref d ∧ H1 d = some (.dK kvs) ∧ ∀ v, H1 v = none → Q (.ref v) (upd H1 v (viewO "dict_values" v d))
def rListV : List V → Hp → VK → Prop := fun xs H Q => ∃ v d kvs, xs = [.ref v] ∧ H v = some (viewO "dict_values" v d) ∧ H d = some (.dK kvs) ∧ ∀ l, H l = none → Q (.ref l) (upd H l (.lst (kvs.map (·.2))))
end
section
variable {X : Cx} {G : Cg} {a : Expr} {ta : TE} {wa : WE} {p pos apos cpos : Pos}
/-- list(d.values()) -/
def wValues (wa : WE) : WN := fun ρ n E Q => wa ρ n E fun d n' => match d with
  | .py (.dict ks) => ks.length ≤ sizeLine ∧ Q (ks.map (·.2)) n'
  | _ => False
end
end Fv
set_option maxRecDepth 100000
set_option maxHeartbeats 4000000
/-! What zip draws of a dict: its keys. -/
namespace Fv
open PySem PySem.Spec PyProof.Rows L2 Gb
section
variable {prog : Program} {w : World} {A : Around} {E : Value → Shared → Prop} {s : Shared} {K : Type} [DecidableEq K] {knd : KeyKind prog w K}
end
end Fv
set_option maxRecDepth 100000
set_option maxHeartbeats 4000000
/-! zip of a dict that stands still and a list. -/
namespace Fv
open PySem PySem.Spec PyProof.Rows L2 Gb
/-- the keys of the dict at d (known: od), the items of the list at b, in new pairs -/
def ItKL (K : PySem.W.Frag) (d : Addr) (od : Obj) (kvs : List (Key × V)) (b : Addr) : It :=
  ⟨fun i H => ∃ (ys : List V) (k : Key) (v y : V), H d = some (.frz od (.dK kvs)) ∧ SqL K H b ys ∧ kvs[i]? = some (k, v) ∧ ys[i]? = some y,
    fun i H u H' => ∃ T k v y, u = .ref T ∧ H T = none ∧ H' = upd H T (.tup [kV k, y]) ∧ kvs[i]? = some (k, v) ∧ ∀ ys, SqL K H b ys → ys[i]? = some y,
    fun i H => ∃ ys : List V, H d = some (.frz od (.dK kvs)) ∧ SqL K H b ys ∧ i ≤ kvs.length ∧ i ≤ ys.length ∧ (i = kvs.length ∨ i = ys.length)⟩
def iZipKL (K : PySem.W.Frag) (ta : TA) : TI := fun σ H R => ta σ H fun vs H1 => ∃ d od kvs b ys, vs = [.ref d, .ref b] ∧ H1 d = some (.frz od (.dK kvs)) ∧ SqL K H1 b ys ∧ R (ItKL K d od kvs b) H1
end Fv
set_option maxRecDepth 100000
set_option maxHeartbeats 4000000
/-! {k: m for k, m in zip(d, xs)}: the dict d with other values. -/
namespace Fv
open PySem PySem.Spec PyProof.Rows L2 Gb
/-- under a lock; the keys are each once -/
def tLockN (t : TE) : TE := fun σ H Q => ∃ d kvs, H d = some (.dK kvs) ∧ ((kvs.map (·.1)).Nodup → kvs.length ≤ sizeLine → ∀ od, t σ (upd H d (.frz od (.dK kvs))) fun v H' => H' d = some (.frz od (.dK kvs)) ∧ Q v (upd H' d (.dK kvs)))
/-- the dict with the values at ds -/
def refill (kvs : List (Key × V)) (ys : List V) : List (Key × V) := kvs.zipWith (fun p y => (p.1, y)) ys
def wFill (i j : Nat) : WV := fun ρ n _ Q => ∃ (ks : List (PyData × PyData)) (ds : List PyData), ρ[0]? = some (.val (.py (.dict ks))) ∧ ρ[1]? = some (.val (.py (.list ds))) ∧ ds.length = ks.length ∧ i < ρ.length ∧ j < ρ.length ∧ Q (.dow ((ks.zip ds).map fun p => (p.1.1, p.2))) n
end Fv
set_option maxRecDepth 100000
set_option maxHeartbeats 4000000
/-! A thing copied, holder by holder: the stack of what is under way. -/
namespace Fv
open PySem PySem.Spec PyProof.Rows L2 Gb
mutual
/-- turns that a datum's copying takes, about -/
def szD : PyData → Nat
  | .list xs => 2 + szA xs
  | .tuple xs => 2 + szA xs
  | .dict ks => 2 + szK ks
  | _ => 1
def szA : List PyData → Nat
  | [] => 0
  | d :: ds => szD d + szA ds
def szK : List (PyData × PyData) → Nat
  | [] => 0
  | (_, d) :: ks => szD d + szK ks
end
def isHolder : PyData → Bool
  | .list _ => true
  | .tuple _ => true
  | .dict _ => true
  | _ => false
/-- what a holder holds -/
def memsOf : PyData → List PyData
  | .list xs => xs
  | .tuple xs => xs
  | .dict ks => ks.map (·.2)
  | _ => []
/-- what is under way: the tuple, the holder, its members, what is done -/
structure Fr where
  t : Addr
  hv : V
  hd : PyData
  m : Addr
  mv : List V
  ms : List PyData
  a : Addr
  dv : List V
/-- turns that are left below -/
def lowM : List Fr → Nat
  | [] => 0
  | g :: rest => 1 + szA (g.ms.drop (g.dv.length + 1)) + lowM rest
def muM : List Fr → Nat
  | [] => 0
  | f :: rest => szA (f.ms.drop f.dv.length) + lowM rest
/-- each holder is the member below that is under way -/
def Chain (d : PyData) : List Fr → Prop
  | [] => False
  | [f] => f.ms = [d]
  | f :: g :: rest => g.ms[g.dv.length]? = some f.hd ∧ f.ms = memsOf f.hd ∧ isHolder f.hd = true ∧ Chain d (g :: rest)
structure FrOk (K : PySem.W.Frag) (F H H0 : Hp) (f : Fr) : Prop where
  tup : F f.t = some (.tup [f.hv, .ref f.m, .ref f.a])
  mem : F f.m = some (.lst f.mv)
  mz : f.mv.length ≤ sizeLine
  hv : Dd K F f.hv f.hd
  mv : DdA K F f.mv f.ms
  own : H f.a = some (.lst f.dv)
  nF : F f.a = none
  n0 : H0 f.a = none
  dv : DdA K F f.dv (f.ms.take f.dv.length)
  le : f.dv.length ≤ f.ms.length
structure Stk (K : PySem.W.Frag) (B0 H0 F H : Hp) (l : Addr) (d : PyData) (fs : List Fr) : Prop where
  mv : Mv none B0 H0 F H
  at_ : H l = some (.lst (fs.reverse.map fun f => .ref f.t))
  nF : F l = none
  n0 : H0 l = none
  ok : ∀ f ∈ fs, FrOk K F H H0 f
  nd : (l :: fs.map (·.a)).Nodup
  ch : Chain d fs
section
variable {K : PySem.W.Frag} {B0 H0 F H F' H' : Hp} {l : Addr} {d : PyData} {fs rest : List Fr} {f g : Fr}
/-- the frame's facts where more is read and its own list stands -/
theorem FrOk.step (h : FrOk K F H H0 f) (e : Same F F') (own : H' f.a = some (.lst f.dv)) (nF : F' f.a = none) : FrOk K F' H' H0 f :=
  ⟨e _ _ h.tup, e _ _ h.mem, h.mz, h.hv.mono e, h.mv.mono e, own, nF, h.n0, h.dv.mono e, h.le⟩
/-- more is read -/
theorem Stk.grow (S : Stk K B0 H0 F H l d fs) (m : Mv none F H F' H') : Stk K B0 H0 F' H' l d fs :=
  ⟨S.mv.trans m, m.kp _ _ S.at_, m.stay S.at_ trivial S.nF, S.n0, fun f hf => (S.ok f hf).step m.b (m.kp _ _ (S.ok f hf).own) (m.stay (S.ok f hf).own trivial (S.ok f hf).nF), S.nd, S.ch⟩
theorem chain_top {d : PyData} {f f' : Fr} {rest : List Fr} (h : Chain d (f :: rest)) (e1 : f'.ms = f.ms) (e2 : f'.hd = f.hd) : Chain d (f' :: rest) := by
  cases rest with
  | nil =>
    show f'.ms = [d]
    rw [e1]
    exact h
  | cons g rest =>
    obtain ⟨h1, h2, h3, h4⟩ := h
    exact ⟨by rw [e2]; exact h1, by rw [e1, e2]; exact h2, by rw [e2]; exact h3, h4⟩
/-- one more is done at the top -/
theorem Stk.put (S : Stk K B0 H0 F H l d (f :: rest)) {v : V} {e : PyData} (he : f.ms[f.dv.length]? = some e) (hv : Dd K F v e) :
    Stk K B0 H0 F (upd H f.a (.lst (f.dv ++ [v]))) l d ({ f with dv := f.dv ++ [v] } :: rest) := by
  have fo := S.ok f (List.mem_cons_self ..)
  have hlt : f.dv.length < f.ms.length := (List.getElem?_eq_some_iff.mp he).1
  have la : l ≠ f.a := fun z => by
    have := (List.nodup_cons.mp S.nd).1
    exact this (by rw [z]; exact List.mem_cons_self ..)
  have nd2 := (List.nodup_cons.mp S.nd).2
  have len1 : (f.dv ++ [v]).length = f.dv.length + 1 := List.length_append
  refine ⟨S.mv.own fo.n0 fo.nF (fun p c T z => by cases z), ?_, S.nF, S.n0, fun x hx => ?_, S.nd, chain_top S.ch rfl rfl⟩
  · rw [upd_ne la]
    have := S.at_
    simpa using this
  · rcases List.mem_cons.mp hx with rfl | hx
    · refine ⟨fo.tup, fo.mem, fo.mz, fo.hv, fo.mv, upd_same, fo.nF, fo.n0, ?_, ?_⟩
      · show DdA K F (f.dv ++ [v]) (f.ms.take (f.dv ++ [v]).length)
        rw [len1, List.take_succ, he]
        exact DdA.app fo.dv (.cons hv .nil)
      · show (f.dv ++ [v]).length ≤ f.ms.length
        rw [len1]
        exact hlt
    · have xo := S.ok x (List.mem_cons_of_mem _ hx)
      have ne : x.a ≠ f.a := fun z => (List.nodup_cons.mp nd2).1 (List.mem_map.mpr ⟨x, hx, z⟩)
      exact xo.step (Same.refl F) (by rw [upd_ne ne]; exact xo.own) xo.nF
/-- a holder that is a member: one more frame (its tuple at t, its members at m, its done at a are new; l is put) -/
theorem Stk.push (S : Stk K B0 H0 F H l d (f :: rest)) {e : PyData} (he : f.ms[f.dv.length]? = some e) (ho : isHolder e = true)
    (mv : Mv none F H F' H') (ho1 : FrOk K F' H' H0 g) (e1 : g.hd = e) (e2 : g.ms = memsOf e) (e3 : g.dv = []) (gl : g.a ≠ l) (gn : ∀ x ∈ f :: rest, g.a ≠ x.a) :
    Stk K B0 H0 F' (upd H' l (.lst ((g :: f :: rest).reverse.map fun f => .ref f.t))) l d (g :: f :: rest) := by
  have S1 := S.grow mv
  have nl := (List.nodup_cons.mp S.nd).1
  refine ⟨S1.mv.own S1.n0 S1.nF (fun p c T z => by cases z), upd_same, S1.nF, S1.n0, fun x hx => ?_, ?_, ?_⟩
  · rcases List.mem_cons.mp hx with rfl | hx
    · exact ho1.step (Same.refl F') (by rw [upd_ne gl]; exact ho1.own) ho1.nF
    · have xo := S1.ok x hx
      have ne : x.a ≠ l := fun z => nl (List.mem_map.mpr ⟨x, hx, z⟩)
      exact xo.step (Same.refl F') (by rw [upd_ne ne]; exact xo.own) xo.nF
  · have nd2 := (List.nodup_cons.mp S.nd).2
    refine List.nodup_cons.mpr ⟨fun h => ?_, List.nodup_cons.mpr ⟨fun h => ?_, nd2⟩⟩
    · rcases List.mem_cons.mp h with z | h
      · exact gl z.symm
      · exact nl h
    · obtain ⟨x, hx, z⟩ := List.mem_map.mp h
      exact gn x hx z.symm
  · exact ⟨by rw [e1]; exact he, by rw [e1]; exact e2, by rw [e1]; exact ho, S.ch⟩
theorem ne_new {H : Hp} {a b : Addr} {o : HO} (h : (upd H a o) b = none) : b ≠ a := fun e => by
  rw [e, upd_same] at h
  cases h
theorem old_new {H : Hp} {a b : Addr} {o : HO} (h : (upd H a o) b = none) : H b = none := by
  have := ne_new h
  rwa [upd_ne this] at h
/-- frames = [([], [thing], [])] -/
theorem Stk.start {v0 : V} {a1 m a t : Addr} (sb : Same B0 H0) (hd : Dd K B0 v0 d) (h1 : H0 a1 = none) (h2 : (upd H0 a1 (.lst [])) m = none) (h3 : (upd (upd H0 a1 (.lst [])) m (.lst [v0])) a = none)
    (h4 : (upd (upd (upd H0 a1 (.lst [])) m (.lst [v0])) a (.lst [])) t = none) (h5 : (upd (upd (upd (upd H0 a1 (.lst [])) m (.lst [v0])) a (.lst [])) t (.tup [.ref a1, .ref m, .ref a])) l = none) :
    Stk K B0 H0 (upd (upd (upd B0 a1 (.lst [])) m (.lst [v0])) t (.tup [.ref a1, .ref m, .ref a])) (upd (upd (upd (upd (upd H0 a1 (.lst [])) m (.lst [v0])) a (.lst [])) t (.tup [.ref a1, .ref m, .ref a])) l (.lst [.ref t])) l d [⟨t, .ref a1, .list [], m, [v0], [d], a, []⟩] := by
  have m1 := Mv.new (pn := none) (o := .lst []) sb h1
  have m2 := Mv.new (pn := none) (o := .lst [v0]) m1.s h2
  have m3 := Mv.newOwn (pn := none) (o := .lst []) m2.s h3
  have m4 := Mv.new (pn := none) (o := .tup [.ref a1, .ref m, .ref a]) m3.s h4
  have m5 := Mv.newOwn (pn := none) (o := .lst [.ref t]) m4.s h5
  have mm := (((m1.trans m2).trans m3).trans m4).trans m5
  have nm : m ≠ a1 := ne_new h2
  have nam : a ≠ m := ne_new h3
  have na1 : a ≠ a1 := ne_new (old_new h3)
  have nta : t ≠ a := ne_new h4
  have ntm : t ≠ m := ne_new (old_new h4)
  have nt1 : t ≠ a1 := ne_new (old_new (old_new h4))
  have nlt : l ≠ t := ne_new h5
  have nla : l ≠ a := ne_new (old_new h5)
  have nlm : l ≠ m := ne_new (old_new (old_new h5))
  have nl1 : l ≠ a1 := ne_new (old_new (old_new (old_new h5)))
  have h3' : H0 a = none := old_new (old_new h3)
  have h5' : H0 l = none := old_new (old_new (old_new (old_new h5)))
  have bn : ∀ {x : Addr}, H0 x = none → B0 x = none := fun {x} hx => by
    cases q : B0 x with
    | none => rfl
    | some o =>
      have := sb _ _ q
      rw [hx] at this
      cases this
  have hd' : Dd K (upd (upd (upd B0 a1 (.lst [])) m (.lst [v0])) t (.tup [.ref a1, .ref m, .ref a])) v0 d := hd.mono mm.b
  refine ⟨mm, upd_same, by rw [upd_ne nlt, upd_ne nlm, upd_ne nl1]; exact bn h5', h5', fun x hx => ?_, ?_, rfl⟩
  · rw [List.mem_singleton.mp hx]
    refine ⟨upd_same, by rw [upd_ne (Ne.symm ntm)]; exact upd_same, by show 1 ≤ sizeLine; decide, ?_, .cons hd' .nil, ?_, ?_, h3', .nil, Nat.zero_le _⟩
    · exact .lst (by rw [upd_ne (Ne.symm nt1), upd_ne (Ne.symm nm)]; exact upd_same) .nil (Nat.zero_le _)
    · show upd _ l _ a = _
      rw [upd_ne (Ne.symm nla), upd_ne (Ne.symm nta)]
      exact upd_same
    · show upd _ t _ a = none
      rw [upd_ne (Ne.symm nta), upd_ne nam, upd_ne na1]
      exact bn h3'
  · exact List.nodup_cons.mpr ⟨fun h => nla (List.mem_singleton.mp h), List.nodup_cons.mpr ⟨by simp, List.nodup_nil⟩⟩
end
end Fv
set_option maxRecDepth 100000
set_option maxHeartbeats 4000000
/-! What holders hold. -/
namespace Fv
open PySem PySem.Spec PyProof.Rows L2 Gb
open PySem.W (T4)
abbrev memsD := memsOf
def holds : PyData → Prop
  | .list _ => True
  | .tuple _ => True
  | .dict ks => ks.length ≤ sizeLine
  | _ => False
def fMembers : FB := fun ds n _ Q => ∃ d, ds = [.py d] ∧ holds d ∧ Q (.py (.list (memsD d))) n
end Fv
set_option maxRecDepth 100000
set_option maxHeartbeats 4000000
/-! Ties sorted are the web's ties. -/
namespace Fv
open PySem PySem.Spec PyProof.Rows L2 Gb
open PySem.W (T4)
def tieL (t : Tw) : List Int := [t.a, t.b, t.c, t.d]
theorem tieD_L (t : Tw) : tieD t = .tuple ((tieL t).map PyData.int) := rfl
theorem le_ties (t u : Tw) : PySem.W.dataLe false id (tieD t) (tieD u) = decide (tieL t ≤ tieL u) := by
  show (!PySem.W.dataLt (tieD u) (tieD t)) = _
  rw [tieD_L, tieD_L, PySem.W.dataLt_tuple]
  show (!PySem.W.rowLt ((tieL u).map .int) ((tieL t).map .int)) = _
  rw [PySem.W.dataLt_ints]
  by_cases h : tieL u < tieL t
  · have h' : ¬ tieL t ≤ tieL u := fun r => List.not_lt.mpr r h
    simp [h, h']
  · have h' : tieL t ≤ tieL u := List.not_lt.mp h
    simp [h, h']
theorem le_TLt {t u : Tw} (h : tieL t ≤ tieL u) (ne : (t.a, t.b) ≠ (u.a, u.b)) : TLt t u := by
  have h' : ¬ tieL u < tieL t := fun q => List.not_lt.mpr h q
  unfold tieL at h'
  rw [List.cons_lt_cons_iff, List.cons_lt_cons_iff] at h'
  unfold TLt
  by_cases e : t.a = u.a
  · have eb : t.b ≠ u.b := fun q => ne (by rw [e, q])
    refine .inr ⟨e, ?_⟩
    have : ¬ u.b < t.b := fun q => h' (.inr ⟨e.symm, .inl q⟩)
    omega
  · have : ¬ u.a < t.a := fun q => h' (.inl q)
    exact .inl (by omega)
theorem sort_ties {s : Nat} {ts : List Tw} (ok : TiesOk 9 (s : Int) ts) : sortD (ts.map tieD) = (tiesW (matOf ts) s).map tieD := by
  unfold sortD
  have e := PySem.W.sort_maps (r := fun t u : Tw => decide (tieL t ≤ tieL u)) (s := PySem.W.dataLe false id) tieD (l := ts) fun a _ b _ => (le_ties a b).symm
  rw [← e]
  congr 1
  have hp : (ts.mergeSort fun t u => decide (tieL t ≤ tieL u)).Perm ts := List.mergeSort_perm _ _
  refine rise_eq (r := TLt) (fun _ _ a b => a.asymm b) (hp.trans (tiesW_perm ok).symm) ?_ (tiesW_rise _ _)
  have p1 : (ts.mergeSort fun t u => decide (tieL t ≤ tieL u)).Pairwise fun t u => decide (tieL t ≤ tieL u) = true := List.pairwise_mergeSort (fun a b c h1 h2 => by
    simp only [decide_eq_true_eq] at h1 h2 ⊢
    exact List.le_trans h1 h2) (fun a b => by
    simp only [Bool.or_eq_true, decide_eq_true_eq]
    exact List.le_total _ _) ts
  have p2 : (ts.mergeSort fun t u => decide (tieL t ≤ tieL u)).Pairwise fun t u => (t.a, t.b) ≠ (u.a, u.b) := List.pairwise_map.mp ((hp.map fun t : Tw => (t.a, t.b)).nodup_iff.mpr ok.nd)
  exact (p1.and p2).imp fun ⟨h1, h2⟩ => le_TLt (of_decide_eq_true h1) h2
theorem alike_ties : ∀ ts us : List Tw, ∀ d ∈ ts.map tieD, ∀ d' ∈ us.map tieD, PySem.W.alike d d' = true := fun ts us d hd d' hd' => by
  obtain ⟨t, _, rfl⟩ := List.mem_map.mp hd
  obtain ⟨u, _, rfl⟩ := List.mem_map.mp hd'
  simp [tieD, PySem.W.alike, PySem.W.alikeAll]
theorem tieD_depth (t : Tw) : (tieD t).depth ≤ 2 := by
  simp [tieD, PyData.depth, PyData.depthAll]
theorem depthAll_le {b : Nat} : ∀ {ds : List PyData}, (∀ d ∈ ds, d.depth ≤ b) → PyData.depthAll ds ≤ b
  | [], _ => by
    simp only [PyData.depthAll]
    exact Nat.zero_le _
  | d :: ds, h => by
    simp only [PyData.depthAll]
    exact Nat.max_le.mpr ⟨h d List.mem_cons_self, depthAll_le fun x hx => h x (List.mem_cons_of_mem _ hx)⟩
theorem layAll_of : ∀ {ds : List PyData}, (∀ d ∈ ds, d.canLay0 = true) → PyData.canLayAll0 ds = true
  | [], _ => by simp only [PyData.canLayAll0]
  | d :: ds, h => by
    simp only [PyData.canLayAll0, h d List.mem_cons_self, layAll_of fun x hx => h x (List.mem_cons_of_mem _ hx), Bool.and_self]
theorem tieD_lay (t : Tw) : (tieD t).canLay0 = true := by
  simp [tieD, PyData.canLay0, PyData.canLayAll0]
theorem sorts_ties (ts : List Tw) : SortsD (ts.map tieD) := by
  refine ⟨alike_ties ts ts, .inl fun d hd => ?_, Nat.le_trans (depthAll_le (b := 2) fun d hd => ?_) (by decide), layAll_of fun d hd => ?_⟩
  · obtain ⟨t, _, rfl⟩ := List.mem_map.mp hd
    exact ⟨_, _, rfl⟩
  · obtain ⟨t, _, rfl⟩ := List.mem_map.mp hd
    exact tieD_depth t
  · obtain ⟨t, _, rfl⟩ := List.mem_map.mp hd
    exact tieD_lay t
end Fv
set_option maxRecDepth 100000
set_option maxHeartbeats 4000000
/-! Web(size, ties). -/
namespace Fv
open PySem PySem.Spec PyProof.Rows L2 Gb
/-- what a class's call tells, by its arguments -/
abbrev FW := List PyData → Nat → XQ → QE → Prop
def SpW (F : Fx) (f : FW) : Sp := fun vs H Q E => ∃ (H1 B : Hp) (x dx : Addr) (us : List V) (ds : List PyData) (n : Nat) (EX : XQ) (QD : QE), vs = .ref x :: us ∧ H = upd (upd H1 dx (.own x)) x (.ins F.C dx []) ∧ H1 x = none ∧ H1 dx = none ∧ dx ≠ x ∧ Same B H1 ∧ DdA F.K B us ds ∧ f ds n EX QD ∧
  (∀ s M B' H', Mv none B H1 B' H' → WebAt F.K F.C B' x s M → QD (.web s M) n → Q .non H') ∧
  ∀ xn cv dd B' H', Mv none B H1 B' H' → ExR (F.g none (fun _ _ _ _ => True) B H) B' cv dd xn → EX xn n → E cv dd H'
structure ClW (F : Fx) (k : Nat) (x : Str) (f : FW) : Prop where
  ex : ∃ (fI : Addr) (fd : FuncData) (ps : List Str), FnOk F.P F.w F.K F.mg F.base (L2.CX F.P F.w) k fI fd ps (SpW F f) ∧ F.mg x = some (.ref F.C) ∧ Mk F.K F.C fI ∧ Binds F.K fd ps []
def wMk (f : FW) (wa : WA) : WE := fun ρ n E Q => wa ρ n E fun ds n1 => match pyAll ds with
  | some ps => f ps n1 E (fun d n' => n' = n1 → Q d n')
  | none => False
section
variable {X : Cx} {G : Cg} {k j : Nat} {x : Str} {f : FW} {p pos : Pos} {e : Expr} {es : List Expr} {t : TA} {wa : WA}
theorem be_mk {F : Fx} (c : ClW F k x f) (hr : Room j X.A) (hk : k + 1 ≤ j) (hg : Gl X x) (tk : Takes X G.xe) (ha : BA X G (e :: es) t wa) (hF : Fof X G = F := by rfl)
    (hdb : (x == ("__debug__" : Str)) = false := by decide) (he : starEach (e :: es) X.env = (false, eval e X.env) :: starEach es X.env := by rfl) (hpl : (backTo pos (starEach es X.env)).any (·.1) = false := by rfl) (hK : X.K = G.K := by rfl) :
    BE X G (.Call (.Name x p) (e :: es) [] pos) (tMakeX G.C (SpW F f) G.xe t) (wMk f wa) := by
  subst hF
  obtain ⟨fI, fd, ps, Fn, hm, M, b⟩ := c.ex
  refine ⟨pe_makeX M Fn (hr.mono hk) hg hm b tk ha.pe hdb he hpl, fun ρ σ n B H E Qd Q S hw xw kk => ha.snd ρ σ n B H E _ _ S hw xw fun vs ds n1 B1 H1 m1 pk1 r1 q1 => ?_⟩
  split at q1
  · rename_i pd ep
    intro z dz hz hdz ne
    refine ⟨H1, B1, z, dz, vs, pd, n1, E, _, rfl, rfl, hz, hdz, ne, m1.s, ?_, q1, fun s M B' H' mv hW q => ⟨rfl, ?_⟩, fun xn cv dd B' H' mv er ex => ?_⟩
    · show DdA X.K B1 vs pd
      rw [hK]
      exact ra_py r1 ep
    · refine kk (.ref z) (.web s M) n1 B' H' (m1.trans mv.of) (pk1.mv mv) ⟨z, rfl, ?_⟩ (q rfl)
      rw [← hK]
      exact hW
    · exact xw xn n1 cv dd B' H' (m1.trans mv.of) (pk1.mv mv) ⟨er.1, by
        have e2 := er.2
        cases dd with
        | none => exact e2
        | some a =>
          show FsAt G.K B' a xn.fs
          rw [← hK]
          exact e2⟩ ex
  · exact q1.elim
end
theorem bss_two {m : Bool} {X : Cx} {G : Cg} {st1 st2 : Stmt} {sts : List Stmt} {t1 t2 t3 : TS} {w1 w2 : WS} (h1 : BS m X G st1 t1 w1) (h2 : BS m X G st2 t2 w2) (h3 : PSs X sts t3) : PSs X (st1 :: st2 :: sts) (tSeq t1 (tSeq t2 t3)) ∧ SndS m G t1 w1 ∧ SndS m G t2 w2 := ⟨pss_cons h1.ps (pss_cons h2.ps h3), h1.snd, h2.snd⟩
abbrev wNo : WX := fun _ _ _ _ => False
/-- self.f = e -/
def tFldB (F : Fx) (f : Str) (we : WE) : TS := fun D σ H => ∃ ρ n B B0 H0 Qd, St (F.g none wNo B0 H0) n B H ρ σ ∧ we ρ n (fun _ _ => False) Qd ∧ ∀ v d n' B' H', Mv none B H B' H' → R (F.g none wNo B0 H0) B' v d → Qd d n' →
  ∃ a dx fs, σ[0]? = some (some (.ref a)) ∧ H' a = some (.ins F.C dx fs) ∧ Cls F.K F.C ∧ NoAttr F.K F.C f ∧ fs.length < 1000 ∧ D.nx σ (upd H' a (.ins F.C dx (putF f v fs)))
theorem ps_fldB {X : Cx} {F : Fx} {o e : Expr} {f : Str} {p' pos : Pos} {we : WE} (ho : PE X o (tVar 0)) (h : ∀ B0 H0, ∃ te, BE X (F.g none wNo B0 H0) e te we) (hs : swapsWith e (some (.Attribute o f p')) pos.line X.env = pure false := by rfl) (hK : X.K = F.K := by rfl) :
    PS X (.Assign [.Attribute o f p'] e pos) (tFldB F f we) := by
  refine ⟨fun pins s σ H D I ht => ?_⟩
  obtain ⟨ρ, n, B, B0, H0, Qd, S, hw, kk⟩ := ht
  obtain ⟨te, hb⟩ := h B0 H0
  refine (ps_fld ho hb.pe hs).run pins s σ H D I ?_
  refine hb.snd ρ σ n B H _ Qd _ S hw XW.none fun v d n' B' H' m _ r q => ?_
  obtain ⟨a, dx, fs, h1, h2, h3, h4, h5, h6⟩ := kk v d n' B' H' m r q
  exact ⟨.ref a, h1, a, F.C, dx, fs, rfl, h2, hK ▸ h3, hK ▸ h4, h5, h6⟩
def NT (H H' : Hp) : Prop := ∀ y ps, H' y = some (.tbl ps) → ∃ ps', H y = some (.tbl ps')
theorem NT.refl {H : Hp} : NT H H := fun _ ps h => ⟨ps, h⟩
theorem NT.upd {H H' : Hp} {a : Addr} {o : HO} (h : NT H H') (nt : notTb o := by trivial) : NT H (upd H' a o) := fun y ps q => by
  by_cases e : y = a
  · subst e
    rw [upd_same] at q
    cases q
    exact absurd nt (fun z => z)
  · rw [upd_ne e] at q
    exact h y ps q
/-- another object stands at x -/
theorem St.rebase {F : Fx} {n : Nat} {B0 H0 B H : Hp} {ρ : List Sl} {σ : L2.St} {x : Addr} {o o' : HO} (S : St (F.g none wNo B0 H0) n B H ρ σ) (hx : H0 x = some o) (nt : notTb o) (nt' : notTb o') (hb : B0 x = none) : St (F.g none wNo B0 (upd H0 x o')) n B (upd H x o') ρ σ := by
  have hB : B x = none := by
    cases e : B x with
    | none => rfl
    | some u =>
      have := S.mv.f _ _ _ e hx nt
      have hb' : B0 x = none := hb
      rw [show (F.g none wNo B0 H0).B0 = B0 from rfl, hb'] at this
      cases this
  refine ⟨⟨fun y u hy => ?_, S.mv.b, fun y u hy => ?_, fun y u v hy hv hn => ?_, S.mv.t, fun y ps hy => ?_⟩, trivial, S.len, fun i d h => ?_, fun i ds h => ?_, fun i ks h => ?_, S.dis, ⟨fun i t l rows h => ⟨(S.mat.at_ i t l rows h).1, ?_⟩, S.mat.sep, S.mat.own⟩⟩
  · by_cases e : y = x
    · subst e
      have hy' : upd H0 y o' y = some u := hy
      rw [upd_same] at hy' ⊢
      exact hy'
    · have hy' : upd H0 x o' y = some u := hy
      rw [upd_ne e] at hy' ⊢
      exact S.mv.kp y u hy'
  · by_cases e : y = x
    · rw [e, hB] at hy
      cases hy
    · rw [upd_ne e]
      exact S.mv.s y u hy
  · by_cases e : y = x
    · rw [e, hB] at hy
      cases hy
    · have hv' : upd H0 x o' y = some v := hv
      rw [upd_ne e] at hv'
      exact S.mv.f y u v hy hv' hn
  · by_cases e : y = x
    · subst e
      rw [upd_same] at hy
      cases hy
      exact absurd nt' (fun z => z)
    · rw [upd_ne e] at hy
      obtain ⟨ps', h⟩ := S.mv.u y ps hy
      exact ⟨ps', by show upd H0 x o' y = _; rw [upd_ne e]; exact h⟩
  · obtain ⟨v, h1, h2⟩ := S.val i d h
    exact ⟨v, h1, h2.g⟩
  · obtain ⟨l, vs, h1, h2, h3, h4, h5⟩ := S.own i ds h
    have ne : l ≠ x := fun e => by
      have : H0 l = none := h5.2.1
      rw [e, hx] at this
      cases this
    exact ⟨l, vs, h1, by rw [upd_ne ne]; exact h2, h3, h4, h5.1, by show upd H0 x o' l = none; rw [upd_ne ne]; exact h5.2.1, fun _ _ _ e => by cases e⟩
  · obtain ⟨l, vs, h1, h2, h4, h5⟩ := S.dow i ks h
    have ne : l ≠ x := fun e => by
      have : H0 l = none := h5.2.1
      rw [e, hx] at this
      cases this
    exact ⟨l, vs, h1, by rw [upd_ne ne]; exact h2, h4, h5.1, by show upd H0 x o' l = none; rw [upd_ne ne]; exact h5.2.1, fun _ _ _ e => by cases e⟩
  · have A := (S.mat.at_ i t l rows h).2
    have fr : ∀ {b : Addr}, Free (F.g none wNo B0 H0) B b → b ≠ x := fun {b} f e => by
      have : H0 b = none := f.2.1
      rw [e, hx] at this
      cases this
    have fr2 : ∀ {b : Addr}, Free (F.g none wNo B0 H0) B b → Free (F.g none wNo B0 (upd H0 x o')) B b := fun {b} f => ⟨f.1, by show upd H0 x o' b = none; rw [upd_ne (fr f)]; exact f.2.1, fun _ _ _ e => by cases e⟩
    refine ⟨by rw [upd_ne (fr A.fr)]; exact A.at_, fr2 A.fr, A.nd, A.len, fun r hr => ?_⟩
    obtain ⟨vs, h1, h2, h3, h4⟩ := A.row r hr
    exact ⟨vs, by rw [upd_ne (fr h4)]; exact h1, h2, h3, fr2 h4⟩
def fMk : FW := fun ds n EX Q => ∃ d e, ds = [d, e] ∧
  ((isBtw 1 12 d = false ∧ EX (xPart "NoWeb" "size") n) ∨ (∃ s : Nat, d = .int s ∧ 1 ≤ s ∧ s ≤ 12 ∧ ((tiesT s e = none ∧ EX (xPart "NoWeb" "ties") n) ∨ ∃ ts : List Tw, e = .list (ts.map tieD) ∧ TiesOk 9 s ts ∧ Q (.web s (matOf ts)) n)))
theorem len10 {α : Type} {l : List α} (h : l.length = 10) : ∃ a0 a1 a2 a3 a4 a5 a6 a7 a8 a9, l = [a0, a1, a2, a3, a4, a5, a6, a7, a8, a9] := by
  match l, h with
  | [a0, a1, a2, a3, a4, a5, a6, a7, a8, a9], _ => exact ⟨a0, a1, a2, a3, a4, a5, a6, a7, a8, a9, rfl⟩
def tellB (B H : Hp) (D : Addr) (rs : List Addr) : Hp := fun b => if b = D ∨ b ∈ rs then H b else B b
theorem tellB_D {B H : Hp} {D : Addr} {rs : List Addr} : tellB B H D rs D = H D := if_pos (.inl rfl)
theorem tellB_r {B H : Hp} {D a : Addr} {rs : List Addr} (h : a ∈ rs) : tellB B H D rs a = H a := if_pos (.inr h)
theorem Rows.tell {B H0 H : Hp} {D : Addr} {rs : List Addr} {R : Nat → List V} (A : Rows H0 H D rs R) (sb : Same B H0) (nt : NT H0 H) : Mv none B H0 (tellB B H D rs) H := by
  have new : ∀ b, (b = D ∨ b ∈ rs) → H0 b = none := fun b h => h.elim (fun e => e ▸ A.fD) (A.fr b)
  refine ⟨A.ol, fun b o h => ?_, fun b o h => ?_, fun b o u h h0 _ => ?_, fun b ps h => ?_, nt⟩
  · unfold tellB
    rw [if_neg (fun z => by have := sb _ _ h; rw [new b z] at this; cases this)]
    exact h
  · unfold tellB at h
    split at h
    · exact h
    · exact A.ol _ _ (sb _ _ h)
  · unfold tellB at h
    rw [if_neg (fun z => by rw [new b z] at h0; cases h0)] at h
    exact h
  · unfold tellB at h
    split at h
    · rename_i z
      rcases z with z | z
      · rw [z, A.at_] at h
        cases h
      · obtain ⟨i, hi⟩ := List.getElem?_of_mem z
        rw [A.it i b hi] at h
        cases h
    · exact h
def rowL (M : Nat → Nat → Int) (s i : Nat) : PyData := .list ((List.range s).map fun j => .int (M i j))
theorem rowV_dd {K : PySem.W.Frag} {H : Hp} (M : Nat → Nat → Int) (s i : Nat) : DdA K H (rowV M s i) ((List.range s).map fun j => .int (M i j)) := by
  have h := dd_ints (K := K) (H := H) ((List.range s).map fun j => M i j)
  rw [List.map_map, List.map_map] at h
  exact h
theorem rows_dd {K : PySem.W.Frag} {H : Hp} {M : Nat → Nat → Int} {s : Nat} (hs : s ≤ 12) : ∀ {rs : List Addr} {i0 : Nat}, (∀ k a, rs[k]? = some a → H a = some (.lst (rowV M s (i0 + k)))) → DdA K H (rs.map V.ref) ((List.range' i0 rs.length).map (rowL M s))
  | [], _, _ => .nil
  | a :: rs, i0, h => by
    rw [List.length_cons, List.range'_succ, List.map_cons, List.map_cons]
    refine .cons (.lst (h 0 a rfl) (rowV_dd M s _) (by rw [rowV_len]; exact Nat.le_trans hs (by decide))) (rows_dd hs fun k b hk => ?_)
    rw [Nat.add_assoc, Nat.add_comm 1 k]
    exact h (k + 1) b (by simpa using hk)
theorem sc_Web___init__ : FnScope ["self", "size", "ties", "rows", "one", "other", "there", "back", "_", "row"] ["self", "size", "ties"] (defScope s_Web___init__) := ⟨rfl, rfl, rfl, by decide +kernel, rfl, by decide +kernel, by decide +kernel⟩
theorem ok_Web {F : Fx} (D : DnI F.K F.C "Web.__init__" s_Web___init__ ["self", "size", "ties"]) (W : Wc F.K F.C) (hC : F.mg "Web" = some (.ref F.C)) (bz : Bz F.mg) (c_need_size : ClB F 3 "need_size" false fNeedSize) (c_need_ties : ClB F 5 "need_ties" false fNeedTies) : ClW F 6 "Web" fMk := by
  obtain ⟨fI, fd, Fn, Mk_, b⟩ := D.ex
  refine ⟨fI, fd, _, Fn.okX sc_Web___init__ (fun vs H Q E h => ?_) (fun cdv A outer s H vs Q E hr h => ?_), hC, Mk_, b⟩
  · obtain ⟨H1, B, x, dx, us, ds, n, EX, QD, rfl, _, _, _, _, _, hA, hf, _⟩ := h
    obtain ⟨d, e, rfl, _⟩ := hf
    rw [List.length_cons, hA.len]
    rfl
  · obtain ⟨H1, B, x, dx, us, ds, n, EX, QD, rfl, rfl, hx1, hdx1, ndx, sb, hA, hf, hq, he⟩ := h
    have nd := sc_Web___init__.nd
    generalize eH : upd (upd H1 dx (.own x)) x (.ins F.C dx []) = H at hr ⊢
    have hHx : H x = some (.ins F.C dx []) := by rw [← eH, upd_same]
    have hHd : H dx = some (.own x) := by rw [← eH, upd_ne ndx, upd_same]
    have h1H : Same H1 H := by
      rw [← eH]
      exact (same_new hdx1).trans (same_new (by rw [upd_ne (Ne.symm ndx)]; exact hx1))
    have sbH : Same B H := sb.trans h1H
    have bx : B x = none := sb.free hx1
    have bdx : B dx = none := sb.free hdx1
    have back : ∀ {B' H'}, Mv none B H B' H' → Mv none B H1 B' H' := fun m => ⟨h1H.trans m.kp, m.b, m.s, fun y o u hy hu hn => m.f y o u hy (h1H _ _ hu) hn, m.t, fun y ps hy => by
      obtain ⟨ps', h⟩ := m.u y ps hy
      rw [← eH] at h
      by_cases e1 : y = x
      · rw [e1, upd_same] at h
        cases h
      · rw [upd_ne e1] at h
        by_cases e2 : y = dx
        · rw [e2, upd_same] at h
          cases h
        · rw [upd_ne e2] at h
          exact ⟨ps', h⟩⟩
    obtain ⟨d, e, rfl, hf⟩ := hf
    have tk : Takes (cxB F ["self", "size", "ties", "rows", "one", "other", "there", "back", "_", "row"] "Web.__init__" (defScope s_Web___init__) fI cdv A outer s H E) (XKx E) := takes_of rfl rfl rfl rfl
    have hb : PSs (cxB F ["self", "size", "ties", "rows", "one", "other", "there", "back", "_", "row"] "Web.__init__" (defScope s_Web___init__) fI cdv A outer s H E) (defBody s_Web___init__) _ ∧ SndS false (F.g none (XKx E) B H) _ _ ∧ SndS false (F.g none (XKx E) B H) _ _ :=
      (bss_two (bs_expr (be_call c_need_size hr (by decide) (by rfl) tk (ba_cons (be_nm 1 (pv 1)) ba_nil)))
      (bs_expr (be_call c_need_ties hr (by decide) (by rfl) tk (ba_cons (be_nm 1 (pv 1)) (ba_cons (be_nm 2 (pv 2)) ba_nil))))
      (pss_cons (ps_setLc (i := 3) (own := [("_", 8)]) rfl nd rfl rfl (sw_true rfl rfl rfl (by decide +kernel)) (pi_range1 (by rfl) bz.range (pa_cons (pv 1) pa_nil)) (blkOk_by (N := ["self", "size", "ties", "rows", "one", "other", "there", "back", "_", "row"]) (sc := defScope s_Web___init__) (by decide +kernel)) (fun _ _ _ _ _ => (pg_name (i := 8) nd rfl (.inl rfl))) (fun _ _ _ _ _ => pts_nil) (fun _ _ _ _ _ => (pe_op op_rep (pe_lst (pa_cons pe_int pa_nil)) (pv 1))))
      (pss_cons (ps_for (passes_of rfl) rfl (pi_listK (pv 2)) (pg_tupK (n := 4) (by rfl) (pgs_cons (pg_name (i := 4) nd rfl (.inl rfl)) (pgs_cons (pg_name (i := 5) nd rfl (.inl rfl)) (pgs_cons (pg_name (i := 6) nd rfl (.inl rfl)) (pgs_cons (pg_name (i := 7) nd rfl (.inl rfl)) pgs_nil)))))
    (pss_cons (ps_asg (pv 6) (pg_sub (pe_ix ix_listK (pv 3) (pv 4) (fun _ _ => rfl)) (pv 5) set_list))
    (pss_one (ps_asg (pv 7) (pg_sub (pe_ix ix_listK (pv 3) (pv 5) (fun _ _ => rfl)) (pv 4) set_list)))))
      (pss_cons (ps_fldB (F := F) (pv 0) (fun _ _ => ⟨_, (be_tupleL (by rfl) bz.tuple (bn_lc (own := [("row", 9)]) rfl nd (bi_seq (be_nm 3 (pv 3))) (blkOk_by (N := ["self", "size", "ties", "rows", "one", "other", "there", "back", "_", "row"]) (sc := defScope s_Web___init__) (by decide +kernel)) (fun _ _ _ _ _ => (bg_nm (pg_name (i := 9) nd rfl (.inl rfl)))) (fun _ _ _ _ _ => bts_nil) (fun _ _ _ _ _ => (be_tupleL (by rfl) bz.tuple (be_nm 9 (pv 9)).l))).l)⟩))
      (pss_one (ps_fldB (F := F) (pv 0) (fun _ _ => ⟨_, (be_tupleL (by rfl) bz.tuple (bn_sorted hr.units (by rfl) bz.sorted (be_nm 2 (pv 2)).l).l)⟩)))))))
    obtain ⟨hp, snd1, snd2⟩ := hb
    refine ⟨_, hp, ?_⟩
    obtain ⟨v1, us1, rfl⟩ : ∃ v1 us1, us = v1 :: us1 := by
      cases hA with
      | cons a b => exact ⟨_, _, rfl⟩
    have xs : XS (F.g none (XKx E) B H) B (fun _ xn n2 => n2 = n ∧ EX xn n) := fun ρ σ n' B' H' s1 S1 xn n2 cv dd B2 H2 mv pk er ex => he xn cv dd B2 H2 (back (S1.mv.trans mv)) er ex.2
    have S0 : St (F.g none (XKx E) B H) n B H (startB ["self", "size", "ties", "rows", "one", "other", "there", "back", "_", "row"] [.raw (.ref x), .py d, .py e]) (L2.start ["self", "size", "ties", "rows", "one", "other", "there", "back", "_", "row"] (.ref x :: v1 :: us1)) :=
      st_start rfl rfl sbH trivial ⟨rfl, ra_pys (G := F.g none (XKx E) B H) hA⟩
    rcases hf with ⟨hb0, hE⟩ | ⟨s, rfl, hs1, hs12, hf⟩
    · refine snd1 _ _ n B H (fun _ xn n2 => n2 = n ∧ EX xn n) _ { nx := fun _ _ => False, rt := fun _ _ => False } S0 ?_ xs ⟨fun _ _ _ _ _ _ _ q => q.elim, fun _ _ _ _ _ _ _ q => q.elim, fun _ _ _ _ _ _ _ q => q.elim, fun _ _ _ _ _ _ _ _ _ q => q.elim, fun hm => by cases hm⟩
      simp only [startB, Nat.reduceAdd, Nat.reduceSub, List.replicate_succ, List.replicate_zero, wLc, wLc2, wISeq, wipeB, List.set_cons_succ, List.set_cons_zero, wgTup, wgCons, wgNil, wgNm, Bool.not_true, Bool.not_false, Bool.false_eq_true, if_true, if_false, List.map_cons, List.map_nil, List.length_cons, List.length_nil, List.cons_append, List.nil_append, wName, List.getElem?_cons_zero, List.getElem?_cons_succ, wC, wOp, wCall, wACons, wANil, wAndV, wOrV, wNotV, wIsi, wIsi2, wCmp, wChain, wChain3, wOfT, wIfE, wAnd, wOr, wNotT, bInt, bEq, bNe, bIsN, bNotN, bIn, bNotIn, wCall1, bLen, bAll, bAny, bSum, sRet, sRetN, sRetO, sIf, sSeq, sNil, sExpr, sSet, sAsg, sPar, wVE, wVN, wOfN, wOfE, wTup, wLst, pyAll, fNeedSize]
      refine ⟨d, rfl, ?_⟩
      rw [hb0, if_neg Bool.false_ne_true]
      exact ⟨trivial, hE⟩
    · refine snd1 _ _ n B H (fun _ xn n2 => n2 = n ∧ EX xn n) _ { nx := fun ρ' n' => ρ' = startB ["self", "size", "ties", "rows", "one", "other", "there", "back", "_", "row"] [.raw (.ref x), .py (.int s), .py e] ∧ n' = n, rt := fun _ _ => False } S0 ?_ xs ⟨fun ρ1 σ1 n1 B1 H1' sb1 S1 q1 => ?_, fun _ _ _ _ _ _ _ q => q.elim, fun _ _ _ _ _ _ _ q => q.elim, fun _ _ _ _ _ _ _ _ _ q => q.elim, fun hm => by cases hm⟩
      · simp only [startB, Nat.reduceAdd, Nat.reduceSub, List.replicate_succ, List.replicate_zero, wLc, wLc2, wISeq, wipeB, List.set_cons_succ, List.set_cons_zero, wgTup, wgCons, wgNil, wgNm, Bool.not_true, Bool.not_false, Bool.false_eq_true, if_true, if_false, List.map_cons, List.map_nil, List.length_cons, List.length_nil, List.cons_append, List.nil_append, wName, List.getElem?_cons_zero, List.getElem?_cons_succ, wC, wOp, wCall, wACons, wANil, wAndV, wOrV, wNotV, wIsi, wIsi2, wCmp, wChain, wChain3, wOfT, wIfE, wAnd, wOr, wNotT, bInt, bEq, bNe, bIsN, bNotN, bIn, bNotIn, wCall1, bLen, bAll, bAny, bSum, sRet, sRetN, sRetO, sIf, sSeq, sNil, sExpr, sSet, sAsg, sPar, wVE, wVN, wOfN, wOfE, wTup, wLst, pyAll, fNeedSize]
        refine ⟨_, rfl, ?_⟩
        rw [if_pos (show isBtw 1 12 (.int s) = true from by show (decide ((1 : Int) ≤ s) && decide ((s : Int) ≤ 12)) = true; rw [decide_eq_true (by omega : (1 : Int) ≤ s), decide_eq_true (by omega : (s : Int) ≤ 12)]; rfl)]
        exact ⟨trivial, trivial⟩
      obtain ⟨rfl, rfl⟩ := q1
      rcases hf with ⟨h0, hE⟩ | ⟨ts, rfl, ok, hQ⟩
      · refine snd2 _ _ n1 B1 H1' (fun _ xn n2 => n2 = n1 ∧ EX xn n1) _ { nx := fun _ _ => False, rt := fun _ _ => False } S1 ?_ (xs.mono sb1) ⟨fun _ _ _ _ _ _ _ q => q.elim, fun _ _ _ _ _ _ _ q => q.elim, fun _ _ _ _ _ _ _ q => q.elim, fun _ _ _ _ _ _ _ _ _ q => q.elim, fun hm => by cases hm⟩
        simp only [startB, Nat.reduceAdd, Nat.reduceSub, List.replicate_succ, List.replicate_zero, wLc, wLc2, wISeq, wipeB, List.set_cons_succ, List.set_cons_zero, wgTup, wgCons, wgNil, wgNm, Bool.not_true, Bool.not_false, Bool.false_eq_true, if_true, if_false, List.map_cons, List.map_nil, List.length_cons, List.length_nil, List.cons_append, List.nil_append, wName, List.getElem?_cons_zero, List.getElem?_cons_succ, wC, wOp, wCall, wACons, wANil, wAndV, wOrV, wNotV, wIsi, wIsi2, wCmp, wChain, wChain3, wOfT, wIfE, wAnd, wOr, wNotT, bInt, bEq, bNe, bIsN, bNotN, bIn, bNotIn, wCall1, bLen, bAll, bAny, bSum, sRet, sRetN, sRetO, sIf, sSeq, sNil, sExpr, sSet, sAsg, sPar, wVE, wVN, wOfN, wOfE, wTup, wLst, pyAll, fNeedTies]
        refine ⟨s, e, rfl, by omega, ?_⟩
        rw [h0, if_neg (by decide)]
        exact ⟨trivial, hE⟩
      refine snd2 _ _ n1 B1 H1' (fun _ xn n2 => n2 = n1 ∧ EX xn n1) _ { nx := fun ρ' n' => ρ' = startB ["self", "size", "ties", "rows", "one", "other", "there", "back", "_", "row"] [.raw (.ref x), .py (.int s), .py (.list (ts.map tieD))] ∧ n' = n1, rt := fun _ _ => False } S1 ?_ (xs.mono sb1) ⟨fun ρ2 σ2 n2 B2 H2 sb2 S2 q2 => ?_, fun _ _ _ _ _ _ _ q => q.elim, fun _ _ _ _ _ _ _ q => q.elim, fun _ _ _ _ _ _ _ _ _ q => q.elim, fun hm => by cases hm⟩
      · simp only [startB, Nat.reduceAdd, Nat.reduceSub, List.replicate_succ, List.replicate_zero, wLc, wLc2, wISeq, wipeB, List.set_cons_succ, List.set_cons_zero, wgTup, wgCons, wgNil, wgNm, Bool.not_true, Bool.not_false, Bool.false_eq_true, if_true, if_false, List.map_cons, List.map_nil, List.length_cons, List.length_nil, List.cons_append, List.nil_append, wName, List.getElem?_cons_zero, List.getElem?_cons_succ, wC, wOp, wCall, wACons, wANil, wAndV, wOrV, wNotV, wIsi, wIsi2, wCmp, wChain, wChain3, wOfT, wIfE, wAnd, wOr, wNotT, bInt, bEq, bNe, bIsN, bNotN, bIn, bNotIn, wCall1, bLen, bAll, bAny, bSum, sRet, sRetN, sRetO, sIf, sSeq, sNil, sExpr, sSet, sAsg, sPar, wVE, wVN, wOfN, wOfE, wTup, wLst, pyAll, fNeedTies]
        refine ⟨s, _, rfl, by omega, ?_⟩
        rw [show tiesT s (.list (ts.map tieD)) = some ts from tiesL_of ok]
        exact ⟨trivial, trivial⟩
      obtain ⟨rfl, rfl⟩ := q2
      obtain ⟨w0, w1, w2, u3, u4, u5, u6, u7, u8, u9, rfl⟩ := len10 (l := σ2) (by rw [← S2.len]; rfl)
      obtain ⟨y0, e0, r0⟩ := S2.val 0 (.raw (.ref x)) rfl
      obtain ⟨y1, e1, r1⟩ := S2.val 1 (.py (.int s)) rfl
      obtain ⟨y2, e2, r2⟩ := S2.val 2 (.py (.list (ts.map tieD))) rfl
      have z0 : w0 = some (.ref x) := (Option.some.inj e0).trans (congrArg some r0)
      have z1 : w1 = some (.int s) := (Option.some.inj e1).trans (congrArg some (dd_int r1))
      obtain ⟨a, vs, q2, ha, hvs, hz⟩ := dd_list r2
      have z2 : w2 = some (.ref a) := (Option.some.inj e2).trans (congrArg some q2)
      subst z0
      subst z1
      subst z2
      have ha2 := S2.sub _ _ ha
      have hlen := hvs.len
      rw [List.length_map] at hlen
      refine ⟨.int s, rfl, s, rfl, by omega, by omega, fun D1 hD1 => ?_⟩
      refine lc_range (lo := 0) (n := s) (fun i H' => ∃ rs, Rows H2 H' D1 rs (rowV (fun _ _ => 0) s) ∧ rs.length = i ∧ NT H2 H') ⟨[], Rows.start hD1, rfl, NT.refl.upd⟩ ?_ ?_
      · rintro i H3 hi ⟨rs, A, hl, nt⟩
        refine ⟨rfl, yes_of ?_⟩
        refine ⟨by show 1 ≤ sizeLine; decide, fun t ht => ?_⟩
        have k3 : (upd H3 t (.lst [.int 0])) t = some (.lst [.int 0]) := upd_same
        have s3 : Same H3 (upd H3 t (.lst [.int 0])) := same_new ht
        have nt3 : NT H2 (upd H3 t (.lst [.int 0])) := nt.upd
        generalize upd H3 t (.lst [.int 0]) = H4 at k3 s3 nt3 ⊢
        refine ⟨.int s, rfl, t, s, [.int 0], rfl, rfl, k3, by omega, by omega, ?_, fun p hp => ?_⟩
        · show 1 * (s : Int).toNat ≤ sizeLine
          exact Nat.le_trans (by omega : 1 * (s : Int).toNat ≤ 12) (by decide)
        · have A3 := A.same s3
          rw [Int.toNat_natCast]
          refine ⟨rs.map V.ref, ?_, ?_, rs ++ [p], A3.snoc hp rowV_zero, by rw [List.length_append, hl]; rfl, nt3.upd.upd⟩
          · rw [upd_ne (fun e => by rw [← e, A3.at_] at hp; cases hp)]
            exact A3.at_
          · rw [List.length_map, hl]
            exact Nat.lt_of_lt_of_le hi (Nat.le_trans hs12 (by decide))
      rintro H3 ⟨rs, A, hl, nt⟩
      refine ⟨.ref a, rfl, a, rfl, ⟨_, SqL.of (A.ol _ _ ha2)⟩, for_list (K := F.K) (a := a) (xs := vs) (fun i σ H' => ∃ (M : Nat → Nat → Int) (u4 u5 u6 u7 u8 u9 : Option V), σ = [some (.ref x), some (.int s), some (.ref a), some (.ref D1), u4, u5, u6, u7, u8, u9] ∧ Rows H2 H' D1 rs (rowV M s) ∧ M = (ts.take i).foldl tieM (fun _ _ => 0) ∧ NT H2 H')
        ⟨fun _ _ => 0, _, _, _, _, _, _, rfl, A, rfl, nt⟩ ?_ ?_ ?_⟩
      · rintro i σ H' _ ⟨M, u4, u5, u6, u7, u8, u9, rfl, A', _⟩
        exact SqL.of (A'.ol _ _ ha2)
      · rintro i y σ H' hy ⟨M, u4, u5, u6, u7, u8, u9, rfl, A', hM, nt'⟩
        obtain ⟨dt, hdt, hyt⟩ := hvs.get hy
        rw [List.getElem?_map] at hdt
        obtain ⟨t, ht, rfl⟩ : ∃ t, ts[i]? = some t ∧ tieD t = dt := by
          cases e : ts[i]? with
          | none =>
            rw [e] at hdt
            cases hdt
          | some t =>
            rw [e] at hdt
            exact ⟨t, rfl, Option.some.inj hdt⟩
        obtain ⟨c, us4, rfl, hc0, hc1, _⟩ := dd_tup hyt
        have e4 : us4 = [.int t.a, .int t.b, .int t.c, .int t.d] := ints_of (ns := [t.a, t.b, t.c, t.d]) hc1
        subst e4
        have hc := Same.t (S2.sub.trans A'.ol) hc0
        have okt := ok.all t (List.mem_of_getElem? ht)
        have ht' : (ts.take (i + 1)) = ts.take i ++ [t] := by
          rw [List.take_add_one, ht]
          rfl
        obtain ⟨na, hna⟩ := Int.eq_ofNat_of_zero_le okt.a0
        obtain ⟨nb, hnb⟩ := Int.eq_ofNat_of_zero_le (Int.le_of_lt (Int.lt_of_le_of_lt okt.a0 okt.ab))
        have hbs : nb < s := by
          have := okt.bs
          omega
        have hab : na < nb := by
          have := okt.ab
          omega
        have ga : rs[na]? = some (rs[na]'(by omega)) := List.getElem?_eq_getElem _
        have gb : rs[nb]? = some (rs[nb]'(by omega)) := List.getElem?_eq_getElem _
        have B1_ := A'.set (R' := rowV (setM M na nb t.c) s) ga rowV_set.symm (fun k hk => rowV_other hk)
        have B2_ := B1_.set (R' := rowV (setM (setM M na nb t.c) nb na t.d) s) gb rowV_set.symm (fun k hk => rowV_other hk)
        have e1 : ∀ (n : Nat) (u : Addr), rs[n]? = some u → L2.atI (rs.map V.ref) (n : Int) = some (.ref u) := fun n u h => Gb.atI_nat (by rw [List.getElem?_map, h]; rfl)
        refine ⟨c, _, rfl, hc, rfl, _, _, rfl, _, _, rfl, _, _, rfl, _, _, rfl, rfl, ?_⟩
        rw [hna, hnb]
        refine ⟨.int t.c, rfl, .ref D1, rfl, .int (na : Int), rfl, D1, _, (na : Int), _, rfl, rfl, SqL.of A'.at_, e1 _ _ ga, .int (nb : Int), rfl, _, _, (nb : Int), nb, rfl, rfl, A'.it _ _ ga, by rw [rowV_len]; exact Gb.ixN_nat hbs, ?_⟩
        refine ⟨.int t.d, rfl, .ref D1, rfl, .int (nb : Int), rfl, D1, _, (nb : Int), _, rfl, rfl, SqL.of B1_.at_, e1 _ _ gb, .int (na : Int), rfl, _, _, (na : Int), na, rfl, rfl, B1_.it _ _ gb, by rw [rowV_len]; exact Gb.ixN_nat (by omega), ?_⟩
        refine ⟨setM (setM M na nb t.c) nb na t.d, _, _, _, _, _, _, rfl, B2_, ?_, nt'.upd.upd⟩
        rw [ht', List.foldl_append, ← hM]
        show _ = setM (setM M t.a.toNat t.b.toNat t.c) t.b.toNat t.a.toNat t.d
        rw [hna, hnb, Int.toNat_natCast, Int.toNat_natCast]
      rintro σ H4 ⟨M, u4, u5, u6, u7, u8, u9, rfl, A3, hM, nt3⟩
      have hM' : M = matOf ts := by
        rw [hM, hlen, List.take_length]
        rfl
      subst hM'
      have mv3 := Rows.tell A3 S2.sub nt3
      have S3 : St (F.g none wNo B H) n2 (tellB B2 H4 D1 rs) H4 [.val (.raw (.ref x)), .val (.py (.int s)), .val (.py (.list (ts.map tieD))), .val (.py (.list ((List.range' 0 rs.length).map (rowL (matOf ts) s)))), .no, .no, .no, .no, .no, .no] [some (.ref x), some (.int s), some (.ref a), some (.ref D1), u4, u5, u6, u7, u8, u9] := by
        refine ⟨S2.mv.trans mv3, trivial, rfl, fun i d h => ?_, fun i ds h => ?_, fun i ds h => ?_, fun i j l ne ⟨z, hz, oz⟩ => ?_, .no_ fun i t l rows e => by
          have := List.mem_of_getElem? e
          simp at this⟩
        · match i, h with
          | 0, h =>
            cases h
            exact ⟨_, rfl, rfl⟩
          | 1, h =>
            cases h
            exact ⟨_, rfl, r_int⟩
          | 2, h =>
            cases h
            exact ⟨_, rfl, Dd.mono mv3.b (Dd.lst ha hvs hz)⟩
          | 3, h =>
            cases h
            refine ⟨_, rfl, Dd.lst (by rw [tellB_D]; exact A3.at_) (rows_dd hs12 fun k b hk => ?_) (by rw [List.length_map]; exact Nat.le_trans (by omega : rs.length ≤ 12) (by decide))⟩
            rw [tellB_r (List.mem_of_getElem? hk), Nat.zero_add]
            exact A3.it k b hk
          | j + 4, h => exact absurd (List.mem_of_getElem? (show [Sl.no, .no, .no, .no, .no, .no][j]? = some _ from h)) (by simp)
        · match i, h with
          | 0, h => cases h
          | 1, h => cases h
          | 2, h => cases h
          | 3, h => cases h
          | j + 4, h => exact absurd (List.mem_of_getElem? (show [Sl.no, .no, .no, .no, .no, .no][j]? = some _ from h)) (by simp)
        · match i, h with
          | 0, h => cases h
          | 1, h => cases h
          | 2, h => cases h
          | 3, h => cases h
          | j + 4, h => exact absurd (List.mem_of_getElem? (show [Sl.no, .no, .no, .no, .no, .no][j]? = some _ from h)) (by simp)
        · exfalso
          match i, hz with
          | 0, hz =>
            cases hz
            cases oz
          | 1, hz =>
            cases hz
            cases oz
          | 2, hz =>
            cases hz
            cases oz
          | 3, hz =>
            cases hz
            cases oz
          | j + 4, hz =>
            have := List.mem_of_getElem? (show [Sl.no, .no, .no, .no, .no, .no][j]? = some _ from hz)
            simp at this
            subst this
            cases oz
      have hDx : H4 x = some (.ins F.C dx []) := S3.mv.kp _ _ hHx
      refine ⟨_, n2, _, B, H, fun d n' => d = .py (.tuple (rowsD (matOf ts) s)) ∧ n' = n2, S3, ?_, fun v d n5 B5 H5 m5 rv qd => ?_⟩
      · simp only [startB, Nat.reduceAdd, Nat.reduceSub, List.replicate_succ, List.replicate_zero, wLc, wLc2, wISeq, wipeB, List.set_cons_succ, List.set_cons_zero, wgTup, wgCons, wgNil, wgNm, Bool.not_true, Bool.not_false, Bool.false_eq_true, if_true, if_false, List.map_cons, List.map_nil, List.length_cons, List.length_nil, List.cons_append, List.nil_append, wName, List.getElem?_cons_zero, List.getElem?_cons_succ, wC, wOp, wCall, wACons, wANil, wAndV, wOrV, wNotV, wIsi, wIsi2, wCmp, wChain, wChain3, wOfT, wIfE, wAnd, wOr, wNotT, bInt, bEq, bNe, bIsN, bNotN, bIn, bNotIn, wCall1, bLen, bAll, bAny, bSum, sRet, sRetN, sRetO, sIf, sSeq, sNil, sExpr, sSet, sAsg, sPar, wVE, wVN, wOfN, wOfE, wTup, wLst, pyAll, wTupOf]
        refine lc_map (fun z => match z with
          | .py (.list xs) => .tuple xs
          | _ => .none) _ _ (fun z hz P R p => ?_) ?_
        · obtain ⟨w, hw, rfl⟩ := List.mem_map.mp hz
          obtain ⟨i, _, rfl⟩ := List.mem_map.mp hw
          simp only [startB, Nat.reduceAdd, Nat.reduceSub, List.replicate_succ, List.replicate_zero, wLc, wLc2, wISeq, wipeB, List.set_cons_succ, List.set_cons_zero, wgTup, wgCons, wgNil, wgNm, Bool.not_true, Bool.not_false, Bool.false_eq_true, if_true, if_false, List.map_cons, List.map_nil, List.length_cons, List.length_nil, List.cons_append, List.nil_append, wName, List.getElem?_cons_zero, List.getElem?_cons_succ, wC, wOp, wCall, wACons, wANil, wAndV, wOrV, wNotV, wIsi, wIsi2, wCmp, wChain, wChain3, wOfT, wIfE, wAnd, wOr, wNotT, bInt, bEq, bNe, bIsN, bNotN, bIn, bNotIn, wCall1, bLen, bAll, bAny, bSum, sRet, sRetN, sRetO, sIf, sSeq, sNil, sExpr, sSet, sAsg, sPar, wVE, wVN, wOfN, wOfE, wTup, wLst, pyAll, wYes, rowL]
          exact ⟨rfl, p⟩
        · refine ⟨trivial, ?_, rfl⟩
          rw [List.nil_append, List.map_map, List.map_map, hl]
          unfold rowsD
          rw [List.range_eq_range']
          rfl
      obtain ⟨rfl, rfl⟩ := qd
      have S5 := S3.step (n' := n5) m5 trivial
      refine ⟨x, dx, [], rfl, m5.kp _ _ hDx, W.cls, W.rows, by decide, ?_⟩
      have S6 := S5.rebase hHx (by trivial) (o' := .ins F.C dx (putF "_rows" v [])) (by trivial) bx
      refine ⟨_, n5, _, _, _, fun d n' => d = .py (.tuple ((tiesW (matOf ts) s).map tieD)) ∧ n' = n5, S6, ?_, fun v2 d2 n7 B7 H7 m7 rv2 qd => ?_⟩
      · simp only [startB, Nat.reduceAdd, Nat.reduceSub, List.replicate_succ, List.replicate_zero, wLc, wLc2, wISeq, wipeB, List.set_cons_succ, List.set_cons_zero, wgTup, wgCons, wgNil, wgNm, Bool.not_true, Bool.not_false, Bool.false_eq_true, if_true, if_false, List.map_cons, List.map_nil, List.length_cons, List.length_nil, List.cons_append, List.nil_append, wName, List.getElem?_cons_zero, List.getElem?_cons_succ, wC, wOp, wCall, wACons, wANil, wAndV, wOrV, wNotV, wIsi, wIsi2, wCmp, wChain, wChain3, wOfT, wIfE, wAnd, wOr, wNotT, bInt, bEq, bNe, bIsN, bNotN, bIn, bNotIn, wCall1, bLen, bAll, bAny, bSum, sRet, sRetN, sRetO, sIf, sSeq, sNil, sExpr, sSet, sAsg, sPar, wVE, wVN, wOfN, wOfE, wTup, wLst, pyAll, wTupOf, wSorted]
        refine ⟨trivial, sorts_ties ts, trivial, ?_, trivial⟩
        rw [sort_ties ok]
      obtain ⟨rfl, rfl⟩ := qd
      have S7 := S6.step (n' := n7) m7 trivial
      have h7x : H7 x = some (.ins F.C dx (putF "_rows" v [])) := m7.kp _ _ upd_same
      refine ⟨x, dx, _, rfl, h7x, W.cls, W.ties, show 1 < 1000 by decide, ?_⟩
      obtain ⟨r, xr, rfl, _, _, _⟩ := dd_tup rv
      obtain ⟨t2, xt, rfl, _, _, _⟩ := dd_tup rv2
      have b7x : B7 x = none := by
        cases e : B7 x with
        | none => rfl
        | some u =>
          have := S7.mv.f x u (.ins F.C dx (putF "_rows" (.ref r) [])) e upd_same (by trivial)
          rw [show (F.g none wNo B (upd H x (.ins F.C dx (putF "_rows" (.ref r) [])))).B0 = B from rfl, bx] at this
          cases this
      have b7d : B7 dx = none := by
        cases e : B7 dx with
        | none => rfl
        | some u =>
          have := S7.mv.f dx u (.own x) e (by show upd H x _ dx = _; rw [upd_ne ndx]; exact hHd) (by trivial)
          rw [show (F.g none wNo B (upd H x (.ins F.C dx (putF "_rows" (.ref r) [])))).B0 = B from rfl, bdx] at this
          cases this
      have h7d : H7 dx = some (.own x) := S7.mv.kp _ _ (by show upd H x _ dx = _; rw [upd_ne ndx]; exact hHd)
      have s78 : Same B7 (upd (upd B7 dx (.own x)) x (.ins F.C dx (putF "_ties" (.ref t2) (putF "_rows" (.ref r) [])))) := (same_new b7d).trans (same_new (by rw [upd_ne (Ne.symm ndx)]; exact b7x))
      refine hq s (matOf ts) (upd (upd B7 dx (.own x)) x (.ins F.C dx (putF "_ties" (.ref t2) (putF "_rows" (.ref r) [])))) _ ⟨fun y o hy => ?_, fun y o hy => ?_, fun y o hy => ?_, fun y o u hy h1 nt => ?_, fun y ps hy => ?_, fun y ps hy => ?_⟩ ⟨hs1, hs12, dx, r, t2, upd_same, by rw [upd_ne ndx, upd_same], Dd.mono s78 (Dd.mono m7.b rv), Dd.mono s78 rv2⟩ hQ
      · have ne : y ≠ x := fun e => by rw [e, hx1] at hy; cases hy
        rw [upd_ne ne]
        exact S7.mv.kp _ _ (by show upd H x _ y = _; rw [upd_ne ne]; exact h1H _ _ hy)
      · exact s78 _ _ (S7.mv.b _ _ hy)
      · by_cases e : y = x
        · rw [e, upd_same] at hy ⊢
          exact hy
        · rw [upd_ne e] at hy ⊢
          by_cases e2 : y = dx
          · rw [e2, upd_same] at hy
            rw [e2, h7d]
            exact hy
          · rw [upd_ne e2] at hy
            exact S7.mv.s _ _ hy
      · have ne : y ≠ x := fun e => by rw [e, hx1] at h1; cases h1
        have ne2 : y ≠ dx := fun e => by rw [e, hdx1] at h1; cases h1
        rw [upd_ne ne, upd_ne ne2] at hy
        exact S7.mv.f y o u hy (by show upd H x _ y = _; rw [upd_ne ne]; exact h1H _ _ h1) nt
      · by_cases e : y = x
        · rw [e, upd_same] at hy
          cases hy
        · rw [upd_ne e] at hy
          by_cases e2 : y = dx
          · rw [e2, upd_same] at hy
            cases hy
          · rw [upd_ne e2] at hy
            exact S7.mv.t _ _ hy
      · by_cases e : y = x
        · rw [e, upd_same] at hy
          cases hy
        · rw [upd_ne e] at hy
          obtain ⟨ps', h8⟩ := S7.mv.u _ _ hy
          have h9 : upd H x (.ins F.C dx (putF "_rows" (.ref r) [])) y = some (.tbl ps') := h8
          rw [upd_ne e, ← eH, upd_ne e] at h9
          by_cases e2 : y = dx
          · rw [e2, upd_same] at h9
            cases h9
          · rw [upd_ne e2] at h9
            exact ⟨ps', h9⟩
end Fv
set_option maxRecDepth 100000
set_option maxHeartbeats 4000000
/-! More rules: one's own list told, one of two ways, xs != [], xs[::-1]. -/
namespace Fv
open PySem PySem.Spec PyProof.Rows L2 Gb
/-! ### one's own list is told -/
theorem St.tell {G : Cg} {n : Nat} {B H : Hp} {ρ : List Sl} {σ : L2.St} (S : St G n B H ρ σ) {i : Nat} {ds : List PyData} (hr : ρ[i]? = some (.own ds)) : ∃ B', Same B B' ∧ St G n B' H (ρ.set i (.val (.py (.list ds)))) σ := by
  obtain ⟨l, vs, h1, h2, h3, h4, h5⟩ := S.own i ds hr
  have sm : Same B (upd B l (.lst vs)) := same_new h5.1
  have hi : i < ρ.length := (List.getElem?_eq_some_iff.mp hr).1
  refine ⟨upd B l (.lst vs), sm, S.mv.tell h5.1 h2 h5.2.1, S.pk.tell h2 (fun p c T e => (h5.2.2 p c T e).1), by rw [List.length_set]; exact S.len, fun j d h => ?_, fun j es h => ?_, fun j ks h => ?_, fun j k a ne hj hk => ?_, (S.mat.tellB (S.mat.own i l ⟨_, hr, rfl⟩ h1) h5.1).sub (fun j t l' rows h => ⟨(mat_at (fun _ _ _ => by intro z; cases z) h).2, rfl⟩) (fun j ⟨x, hx, ox⟩ => by
      rw [List.getElem?_set] at hx
      split at hx
      · cases hx
        cases ox
      · exact ⟨⟨x, hx, ox⟩, rfl⟩)⟩
  · rw [List.getElem?_set] at h
    split at h
    · rename_i e
      cases h
      subst e
      exact ⟨.ref l, h1, r_lst upd_same (h4.mono sm) h3⟩
    · obtain ⟨v, g1, g2⟩ := S.val j d h
      exact ⟨v, g1, g2.mono sm⟩
  · rw [List.getElem?_set] at h
    split at h
    · cases h
    · rename_i ne
      obtain ⟨a, us, g1, g2, g3, g4, g5⟩ := S.own j es h
      have nl : a ≠ l := fun e => S.dis j i a (Ne.symm ne) ⟨_, h, rfl⟩ ⟨_, hr, rfl⟩ g1 (by rw [h1, e])
      exact ⟨a, us, g1, g2, g3, g4.mono sm, by rw [upd_ne nl]; exact g5.1, g5.2⟩
  · rw [List.getElem?_set] at h
    split at h
    · cases h
    · rename_i ne
      obtain ⟨a, us, g1, g2, g4, g5⟩ := S.dow j ks h
      have nl : a ≠ l := fun e => S.dis j i a (Ne.symm ne) ⟨_, h, rfl⟩ ⟨_, hr, rfl⟩ g1 (by rw [h1, e])
      exact ⟨a, us, g1, g2, g4.mono sm, by rw [upd_ne nl]; exact g5.1, g5.2⟩
  · have own : ∀ j, ownAt (ρ.set i (.val (.py (.list ds)))) j → ownAt ρ j := fun j ⟨x, hx, ox⟩ => by
      rw [List.getElem?_set] at hx
      split at hx
      · cases hx
        cases ox
      · exact ⟨x, hx, ox⟩
    exact S.dis j k a ne (own j hj) (own k hk)
def sTell (i : Nat) (w : WS) : WS := fun ρ n E DB => match ρ[i]? with
  | some (.own ds) => w (ρ.set i (.val (.py (.list ds)))) n E DB
  | _ => False
/-! ### one of two ways -/
section
variable {X : Cx} {G : Cg} {e : Expr} {t1 t2 : TE} {w1 w2 : WE}
def tAlt (t1 t2 : TE) : TE := fun σ H Q => t1 σ H Q ∨ t2 σ H Q
theorem pe_alt (h1 : PE X e t1) (h2 : PE X e t2) : PE X e (tAlt t1 t2) := ⟨fun pins s σ H Q I h => h.elim (h1.run pins s σ H Q I) (h2.run pins s σ H Q I)⟩
def wAlt (w1 w2 : WE) : WE := fun ρ n E Q => w1 ρ n E Q ∨ w2 ρ n E Q
theorem be_alt (h1 : BE X G e t1 w1) (h2 : BE X G e t2 w2) : BE X G e (tAlt t1 t2) (wAlt w1 w2) :=
  ⟨pe_alt h1.pe h2.pe, fun ρ σ n B H E Qd Q S hw xw k => hw.elim (fun h => .inl (h1.snd ρ σ n B H E Qd Q S h xw k)) (fun h => .inr (h2.snd ρ σ n B H E Qd Q S h xw k))⟩
end
/-! ### a list beside the empty one -/
section
variable {X : Cx} {G : Cg} {a b : Expr} {ta tb : TE} {wl : WL} {wn wn2 : WN} {pos p : Pos}
def rNeNil (K : PySem.W.Frag) : R2 := fun x y H Q => ∃ p q xs, x = .ref p ∧ y = .ref q ∧ SqL K H p xs ∧ SqL K H q [] ∧ Q (.bl (!xs.isEmpty)) H
theorem op_neNil (hu : X.A.units + 64 < cLine) : OpR X (compareOp .NotEq) (rNeNil X.K) := by
  intro pins s σ H x y v u Q I rx ry h
  obtain ⟨p, q, xs, rfl, rfl, hp, hq, k⟩ := h
  cases xs with
  | nil =>
    refine op_neD hu pins s σ H (.ref p) (.ref q) v u Q I rx ry ⟨.list [], .list [], .lst hp .nil, .lst hq .nil, by decide, by decide, ?_⟩
    rw [show PyData.eqv (.list []) (.list []) = true from by simp [PyData.eqv, PyData.eqvAll]]
    exact k
  | cons z xs =>
    cases rx
    cases ry
    obtain ⟨its, rv, h1, _⟩ := I.list hp
    obtain ⟨its2, rv2, h2, _⟩ := I.list hq
    have l1 := rv.length
    have l2 := rv2.length
    refine SeqAt.RcNeAt.lists_lengths (A := X.A) h1.isList h2.isList ?_ (by omega) X.prog X.w _ _ ⟨.bl true, H, I, rfl, k⟩
    rw [List.size_toArray, List.size_toArray, ← l1, ← l2]
    rfl
def wNeNil (wl : WL) (wn : WN) : WE := fun ρ n E Q => wl ρ n E fun k ds n1 => k = false ∧ wn ρ n1 E fun es n2 => es = [] ∧ Q (.py (.bool (!ds.isEmpty))) n2
theorem be_neNil (hu : X.A.units + 64 < cLine) (ha : BL X G a ta wl) (hb : BN X G b tb wn) (hK : X.K = G.K := by rfl) : BE X G (.Compare a [.NotEq] [b] pos) (tOp (rNeNil G.K) ta tb) (wNeNil wl wn) :=
  ⟨pe_cmpR (hK ▸ op_neNil hu) ha.pe hb.pe (nomark _), fun ρ σ n B H E Qd Q S hw xw k => ha.snd ρ σ n B H E _ _ S hw xw fun l vs kk ds n1 B1 H1 m1 pk1 hs1 hz hA q1 => by
    obtain ⟨rfl, q1⟩ := q1
    refine hb.snd ρ σ n1 B1 H1 E _ _ (S.step m1 pk1) q1 (xw.step m1) fun l2 us es n2 B2 H2 m2 pk2 hl2 fr2 hu2 hz2 hA2 q2 => ?_
    obtain ⟨rfl, q2⟩ := q2
    cases hA2
    have hs2 : H2 l = some (.lst vs) := by
      have := hs1.step m2 pk1
      exact this
    refine ⟨l, l2, vs, rfl, rfl, SqL.of hs2, SqL.of hu2, ?_⟩
    rw [hA.empty]
    exact k _ _ n2 B2 H2 (m1.trans m2) pk2 r_bl q2⟩
theorem bt_neNil (hu : X.A.units + 64 < cLine) (ha : BL X G a ta wl) (hb : BN X G b tb wn) (hK : X.K = G.K := by rfl) : BT X G (.Compare a [.NotEq] [b] pos) (tTest (tOp (rNeNil G.K) ta tb)) (wOfT (wNeNil wl wn)) :=
  bt_cmp (be_neNil hu ha hb hK) (pt_cmpR (hK ▸ op_neNil hu) ha.pe hb.pe (nomark _))
/-! ### xs[::-1] -/
def wRevL (wl : WL) : WN := fun ρ n E Q => wl ρ n E fun k ds n1 => k = false ∧ Q ds.reverse n1
theorem bn_revL {kk : Nat} {p2 p3 p4 : Pos} (ha : BL X G a ta wl) (hK : X.K = G.K := by rfl) : BN X G (.Subscript a (.Slice none none (some (.UnaryOp .USub (.Constant (.int 1) kk p2) p3)) p4) pos) (tRevL G.K ta) (wRevL wl) :=
  ⟨hK ▸ pe_revL ha.pe, fun ρ σ n B H E Qd Q S hw xw k => ha.snd ρ σ n B H E _ _ S hw xw fun l vs k2 ds n1 B1 H1 m1 pk1 hs1 hz hA q1 => by
    obtain ⟨rfl, q1⟩ := q1
    refine ⟨l, vs, rfl, SqL.of hs1, fun p hp => ?_⟩
    have m := Mv.newOwn (pn := none) (o := .lst vs.reverse) m1.s hp
    exact k p _ _ n1 _ _ (m1.trans m.of) (pk1.mv m) (up_none m1 hp) (free_new (S.step m1 pk1) hp) upd_same (by rw [List.length_reverse]; exact hz) hA.rev q1⟩
end
/-! ### any two tuples one behind the other -/
section
variable {X : Cx} {G : Cg} {a b : Expr} {ta tb : TE} {wa wb : WE} {pos : Pos}
def bCatA : BOp := fun x y Q => match x, y with
  | .py (.tuple xs), .py (.tuple ys) => xs.length + ys.length ≤ 100000 ∧ Q (.py (.tuple (xs ++ ys)))
  | _, _ => False
theorem bs_catA : OpS G (rCatA G.K) bCatA := fun B H x y dx dy P Q sb rx ry h k => by
  match dx, dy, rx, ry, h with
  | .py (.tuple xs), .py (.tuple ys), rx, ry, h =>
    obtain ⟨p, us, rfl, h1, h2, h3⟩ := dd_tup rx
    obtain ⟨q, ws, rfl, g1, g2, g3⟩ := dd_tup ry
    obtain ⟨hl, hq⟩ := h
    have l1 := h2.len
    have l2 := g2.len
    have hz : us.length + ws.length ≤ sizeLine := line5 (by omega)
    refine ⟨p, q, us, ws, rfl, rfl, Same.t sb h1, Same.t sb g1, hz, fun e => ?_, fun e e2 => ?_, fun e e2 r hr => ?_⟩
    · subst e
      have e2 : xs = [] := List.eq_nil_of_length_eq_zero l1.symm
      rw [e2, List.nil_append] at hq
      exact k _ _ B H (Mv.refl sb) ry hq
    · subst e2
      have e3 : ys = [] := List.eq_nil_of_length_eq_zero l2.symm
      rw [e3, List.append_nil] at hq
      exact k _ _ B H (Mv.refl sb) rx hq
    · exact k (.ref r) _ (upd B r (.tup (us ++ ws))) _ (Mv.new sb hr) (r_tup (SqT.of upd_same) ((h2.app g2).mono (same_new (sb.free hr))) (by rw [List.length_append]; exact hz)) hq
theorem be_catA (ha : BE X G a ta wa) (hb : BE X G b tb wb) (hK : X.K = G.K := by rfl) : BE X G (.BinOp a .Add b pos) (tOp (rCatA G.K) ta tb) (wOp bCatA wa wb) := be_opB (hK ▸ op_catA) bs_catA ha hb
end
/-! ### what is new is told -/
section
variable {X : Cx} {G : Cg} {e : Expr} {t : TE} {w : WV}
def wEd (w : WV) : WE := fun ρ n E Q => w ρ n E fun s n' => match s with
  | .val d => Q d n'
  | .own ds => Q (.py (.list ds)) n'
  | .dow ks => Q (.py (.dict ks)) n'
  | .no => False
  | .mat _ _ _ => False
theorem _root_.Fv.BV.ed (h : BV X G e t w) : BE X G e t (wEd w) := ⟨h.pe, fun ρ σ n B H E Qd Q S hw xw k => h.snd ρ σ n B H E _ Q S hw xw fun v s n' B' H' m pk r q => by
  match s, r, q with
  | .val d, r, q => exact k v d n' B' H' m pk r q
  | .own ds, r, q =>
    obtain ⟨l, vs, rfl, hl, fr, hl', hz, hA⟩ := r
    exact k (.ref l) _ n' (upd B' l (.lst vs)) H' (m.tell fr.1 hl' hl) (pk.tell hl' fun p c T e => (fr.2.2 p c T e).1) (r_lst upd_same (hA.mono (same_new fr.1)) hz) q
  | .dow ks, r, q =>
    obtain ⟨l, vs, rfl, hl, fr, hl', hA⟩ := r
    exact k (.ref l) _ n' (upd B' l (.dK vs)) H' (m.tell fr.1 hl' hl) (pk.tell hl' fun p c T e => (fr.2.2 p c T e).1) (r_dic upd_same (hA.mono (same_new fr.1))) q⟩
end
end Fv
set_option maxRecDepth 100000
set_option maxHeartbeats 4000000
/-! A holder filled anew. -/
namespace Fv
open PySem PySem.Spec PyProof.Rows L2 Gb
open PySem.W (T4)
/-- a holder with other members -/
def fillD : PyData → List PyData → PyData
  | .dict ks, ds => .dict ((ks.zip ds).map fun p => (p.1.1, p.2))
  | .tuple _, ds => .tuple ds
  | _, ds => .list ds
def fFilled : FB := fun ds n _ Q => ∃ d xs, ds = [.py d, .py (.list xs)] ∧ holds d ∧ xs.length = (memsD d).length ∧ Q (.py (fillD d xs)) n
end Fv
set_option maxRecDepth 100000
set_option maxHeartbeats 4000000
/-! A thing copied. -/
namespace Fv
open PySem PySem.Spec PyProof.Rows L2 Gb
open PySem.W (T4)
theorem at_of {xs : List V} {i : Nat} {v : V} (h : xs[i]? = some v) : atI xs (i : Int) = some v := by
  have hl := (List.getElem?_eq_some_iff.mp h).1
  unfold atI
  have e : ixN xs.length (i : Int) = some i := by
    unfold ixN
    rw [if_pos (by omega), if_pos (by omega)]
    simp
  rw [e]
  exact h
/-- a thing that is not too great is copied -/
def fCopied : FB := fun ds n _ Q => ∃ d, ds = [.py d] ∧ szD d ≤ 1000 ∧ Q (.py d) n
end Fv
set_option maxRecDepth 100000
set_option maxHeartbeats 4000000
/-! The refusals that keep what is handed in. -/
namespace Fv
open PySem PySem.Spec PyProof.Rows L2 Gb
abbrev tlK : List Value := [.type "KeyError", .type "LookupError", .type "Exception", .type "BaseException", .type "object"]
/-- one field, a copy -/
abbrev fiCopy (f : Str) : List PyData → (List (Str × PyData) → Prop) → Prop := fun ds QD => ∃ d, ds = [d] ∧ szD d ≤ 1000 ∧ QD [(f, d)]
abbrev fiCords : FI := fun ds Q => ∃ a b c, ds = [a, b, c] ∧ Q [("other", c), ("one", b), ("half", a)]
end Fv
set_option maxRecDepth 100000
set_option maxHeartbeats 4000000
/-! == by an own __eq__, isinstance of an own class. -/
namespace Fv
open PySem PySem.Spec PyProof.Rows L2 Gb
/-- what the class Web lets one ask of its instances -/
structure WebEq (K : PySem.W.Frag) (C : Addr) : Prop where
  ha : PySem.W.findIn K (.ref C) "__class__" = some (some (.builtin "object.__class__"))
  hn : PySem.W.specialIn K (.builtin "object.__class__") "__get__" = some (some (.builtin "getset_descriptor.__get__"))
  htk : PySem.W.takesIn K (.builtin "object.__class__") = some true
  hm : PySem.W.mroIn K C (.type "object") = some true
  kw : PySem.W.kitOne K (.ref C) (.ref C) = some true
  kl : PySem.W.kitOne K (.type "list") (.ref C) = some false
  kn : PySem.W.kitOne K (.type "NoneType") (.ref C) = some false
  fl : PySem.W.notFirst K C (.type "list") = true
  fn : PySem.W.notFirst K C (.type "NoneType") = true
  fw : PySem.W.notFirst K C (.ref C) = true
def webEqB (K : PySem.W.Frag) (C : Addr) : Bool :=
  decide (PySem.W.findIn K (.ref C) "__class__" = some (some (.builtin "object.__class__"))) && (decide (PySem.W.specialIn K (.builtin "object.__class__") "__get__" = some (some (.builtin "getset_descriptor.__get__"))) && (decide (PySem.W.takesIn K (.builtin "object.__class__") = some true) && (decide (PySem.W.mroIn K C (.type "object") = some true) && (decide (PySem.W.kitOne K (.ref C) (.ref C) = some true) && (decide (PySem.W.kitOne K (.type "list") (.ref C) = some false) && (decide (PySem.W.kitOne K (.type "NoneType") (.ref C) = some false) && (PySem.W.notFirst K C (.type "list") && (PySem.W.notFirst K C (.type "NoneType") && PySem.W.notFirst K C (.ref C)))))))))
theorem webEq_of {K : PySem.W.Frag} {C : Addr} (h : webEqB K C = true) : WebEq K C := by
  unfold webEqB at h
  simp only [Bool.and_eq_true, decide_eq_true_eq] at h
  obtain ⟨h1, h2, h3, h4, h5, h6, h7, h8, h9, h10⟩ := h
  exact ⟨h1, h2, h3, h4, h5, h6, h7, h8, h9, h10⟩
section
variable {X : Cx} {G : Cg} {a b : Expr} {ta tb : TE} {wa wb : WE} {p pos : Pos}
def wIsiW (wa : WE) : WE := fun ρ n E Q => wa ρ n E fun d n1 => match d with
  | .web _ _ => Q (.py (.bool true)) n1
  | .py .none => Q (.py (.bool false)) n1
  | .py (.list _) => Q (.py (.bool false)) n1
  | _ => False
/-- x == y by x's own -/
def rEqW (K : PySem.W.Frag) (C : Addr) (sp : Sp) : R2 := fun x y H Q => ∃ a dx fs tb, x = .ref a ∧ H a = some (.ins C dx fs) ∧ TyX K H y tb ∧ PySem.W.notFirst K C tb = true ∧ sp [x, y] H (fun v H' => (∃ b, v = .bl b) ∧ Q v H') (fun _ _ _ => False)
/-- x == y -/
def wEqW (f : FB) (wa wb : WE) : WE := fun ρ n E Q => wa ρ n E fun d n1 => wb ρ n1 E fun e n2 => match d, e with
  | .web s M, .web s' M' => f [.web s M, .web s' M'] n2 (fun _ _ => False) fun d n3 => ∃ b, d = .py (.bool b) ∧ Q d n3
  | .web s M, .py .none => f [.web s M, .py .none] n2 (fun _ _ => False) fun d n3 => ∃ b, d = .py (.bool b) ∧ Q d n3
  | .web s M, .py (.list ds) => f [.web s M, .py (.list ds)] n2 (fun _ _ => False) fun d n3 => ∃ b, d = .py (.bool b) ∧ Q d n3
  | _, _ => False
end
end Fv
set_option maxRecDepth 100000
set_option maxHeartbeats 0
namespace Hd
open PySem PySem.Spec PyProof.Rows L2 Gb
def d_is_whole : He.DefD := ⟨("is_whole", none), "is_whole", "is_whole", defArgs s_is_whole, defBody s_is_whole, defScope s_is_whole, [], []⟩
def d_is_between : He.DefD := ⟨("is_between", none), "is_between", "is_between", defArgs s_is_between, defBody s_is_between, defScope s_is_between, [], []⟩
def d_is_whole_row : He.DefD := ⟨("is_whole_row", none), "is_whole_row", "is_whole_row", defArgs s_is_whole_row, defBody s_is_whole_row, defScope s_is_whole_row, [], []⟩
def d_copied : He.DefD := ⟨("copied", none), "copied", "copied", defArgs s_copied, defBody s_copied, defScope s_copied, [], []⟩
def d_members_of : He.DefD := ⟨("members_of", none), "members_of", "members_of", defArgs s_members_of, defBody s_members_of, defScope s_members_of, [], []⟩
def d_filled_like : He.DefD := ⟨("filled_like", none), "filled_like", "filled_like", defArgs s_filled_like, defBody s_filled_like, defScope s_filled_like, [], []⟩
def d_tied_to : He.DefD := ⟨("tied_to", none), "tied_to", "tied_to", defArgs s_tied_to, defBody s_tied_to, defScope s_tied_to, [], []⟩
def d_lots_of : He.DefD := ⟨("lots_of", none), "lots_of", "lots_of", defArgs s_lots_of, defBody s_lots_of, defScope s_lots_of, [], []⟩
def d_need_size : He.DefD := ⟨("need_size", none), "need_size", "need_size", defArgs s_need_size, defBody s_need_size, defScope s_need_size, [], []⟩
def d_need_ties : He.DefD := ⟨("need_ties", none), "need_ties", "need_ties", defArgs s_need_ties, defBody s_need_ties, defScope s_need_ties, [], []⟩
def d_are_ties : He.DefD := ⟨("are_ties", none), "are_ties", "are_ties", defArgs s_are_ties, defBody s_are_ties, defScope s_are_ties, [], []⟩
def d_is_tie : He.DefD := ⟨("is_tie", none), "is_tie", "is_tie", defArgs s_is_tie, defBody s_is_tie, defScope s_is_tie, [], []⟩
def d_need_post : He.DefD := ⟨("need_post", none), "need_post", "need_post", defArgs s_need_post, defBody s_need_post, defScope s_need_post, [], []⟩
def d_is_part : He.DefD := ⟨("is_part", none), "is_part", "is_part", defArgs s_is_part, defBody s_is_part, defScope s_is_part, [], []⟩
def d_need_part : He.DefD := ⟨("need_part", none), "need_part", "need_part", defArgs s_need_part, defBody s_need_part, defScope s_need_part, [], []⟩
def d_need_standing : He.DefD := ⟨("need_standing", none), "need_standing", "need_standing", defArgs s_need_standing, defBody s_need_standing, defScope s_need_standing, [], []⟩
def d_standing_fault : He.DefD := ⟨("standing_fault", none), "standing_fault", "standing_fault", defArgs s_standing_fault, defBody s_standing_fault, defScope s_standing_fault, [], []⟩
def d_are_bearable : He.DefD := ⟨("are_bearable", none), "are_bearable", "are_bearable", defArgs s_are_bearable, defBody s_are_bearable, defScope s_are_bearable, [], []⟩
def d_beat_on : He.DefD := ⟨("beat_on", none), "beat_on", "beat_on", defArgs s_beat_on, defBody s_beat_on, defScope s_beat_on, [], []⟩
def d_beat_back : He.DefD := ⟨("beat_back", none), "beat_back", "beat_back", defArgs s_beat_back, defBody s_beat_back, defScope s_beat_back, [], []⟩
def d_run_of : He.DefD := ⟨("run_of", none), "run_of", "run_of", defArgs s_run_of, defBody s_run_of, defScope s_run_of, [], []⟩
def d_run_on : He.DefD := ⟨("run_on", none), "run_on", "run_on", defArgs s_run_on, defBody s_run_on, defScope s_run_on, [], []⟩
def d_following : He.DefD := ⟨("following", none), "following", "following", defArgs s_following, defBody s_following, defScope s_following, [], []⟩
def d_turned_about : He.DefD := ⟨("turned_about", none), "turned_about", "turned_about", defArgs s_turned_about, defBody s_turned_about, defScope s_turned_about, [], []⟩
def d_gains : He.DefD := ⟨("gains", none), "gains", "gains", defArgs s_gains, defBody s_gains, defScope s_gains, [], []⟩
def d_less : He.DefD := ⟨("less", none), "less", "less", defArgs s_less, defBody s_less, defScope s_less, [], []⟩
def d_with_more : He.DefD := ⟨("with_more", none), "with_more", "with_more", defArgs s_with_more, defBody s_with_more, defScope s_with_more, [], []⟩
def d_plus : He.DefD := ⟨("plus", none), "plus", "plus", defArgs s_plus, defBody s_plus, defScope s_plus, [], []⟩
def d_nought_on : He.DefD := ⟨("nought_on", none), "nought_on", "nought_on", defArgs s_nought_on, defBody s_nought_on, defScope s_nought_on, [], []⟩
def d_kinds_of : He.DefD := ⟨("kinds_of", none), "kinds_of", "kinds_of", defArgs s_kinds_of, defBody s_kinds_of, defScope s_kinds_of, [], []⟩
def d_is_kind : He.DefD := ⟨("is_kind", none), "is_kind", "is_kind", defArgs s_is_kind, defBody s_is_kind, defScope s_is_kind, [], []⟩
def d_steps_of : He.DefD := ⟨("steps_of", none), "steps_of", "steps_of", defArgs s_steps_of, defBody s_steps_of, defScope s_steps_of, [], []⟩
def d_halves_of : He.DefD := ⟨("halves_of", none), "halves_of", "halves_of", defArgs s_halves_of, defBody s_halves_of, defScope s_halves_of, [], []⟩
def d_step_of : He.DefD := ⟨("step_of", none), "step_of", "step_of", defArgs s_step_of, defBody s_step_of, defScope s_step_of, [], []⟩
def d_worth_of : He.DefD := ⟨("worth_of", none), "worth_of", "worth_of", defArgs s_worth_of, defBody s_worth_of, defScope s_worth_of, [], []⟩
def d_need_all_part : He.DefD := ⟨("need_all_part", none), "need_all_part", "need_all_part", defArgs s_need_all_part, defBody s_need_all_part, defScope s_need_all_part, [], []⟩
def d_need_waves : He.DefD := ⟨("need_waves", none), "need_waves", "need_waves", defArgs s_need_waves, defBody s_need_waves, defScope s_need_waves, [], []⟩
def d_are_weights : He.DefD := ⟨("are_weights", none), "are_weights", "are_weights", defArgs s_are_weights, defBody s_are_weights, defScope s_are_weights, [], []⟩
def d_cord_rows : He.DefD := ⟨("cord_rows", none), "cord_rows", "cord_rows", defArgs s_cord_rows, defBody s_cord_rows, defScope s_cord_rows, [], []⟩
def d_gaps_of : He.DefD := ⟨("gaps_of", none), "gaps_of", "gaps_of", defArgs s_gaps_of, defBody s_gaps_of, defScope s_gaps_of, [], []⟩
def d_weighed : He.DefD := ⟨("weighed", none), "weighed", "weighed", defArgs s_weighed, defBody s_weighed, defScope s_weighed, [], []⟩
def d_shown_by : He.DefD := ⟨("shown_by", none), "shown_by", "shown_by", defArgs s_shown_by, defBody s_shown_by, defScope s_shown_by, [], []⟩
def d_kind_of : He.DefD := ⟨("kind_of", none), "kind_of", "kind_of", defArgs s_kind_of, defBody s_kind_of, defScope s_kind_of, [], []⟩
def d_equations : He.DefD := ⟨("equations", none), "equations", "equations", defArgs s_equations, defBody s_equations, defScope s_equations, [], []⟩
def d_triangle_of : He.DefD := ⟨("triangle_of", none), "triangle_of", "triangle_of", defArgs s_triangle_of, defBody s_triangle_of, defScope s_triangle_of, [], []⟩
def d_solved : He.DefD := ⟨("solved", none), "solved", "solved", defArgs s_solved, defBody s_solved, defScope s_solved, [], []⟩
def d_lowest : He.DefD := ⟨("lowest", none), "lowest", "lowest", defArgs s_lowest, defBody s_lowest, defScope s_lowest, [], []⟩
def d_growing : He.DefD := ⟨("growing", none), "growing", "growing", defArgs s_growing, defBody s_growing, defScope s_growing, [], []⟩
def d_comes_back : He.DefD := ⟨("comes_back", none), "comes_back", "comes_back", defArgs s_comes_back, defBody s_comes_back, defScope s_comes_back, [], []⟩
def d_never_paper : He.DefD := ⟨("never_paper", none), "never_paper", "never_paper", defArgs s_never_paper, defBody s_never_paper, defScope s_never_paper, [], []⟩
def d_shows_never : He.DefD := ⟨("shows_never", none), "shows_never", "shows_never", defArgs s_shows_never, defBody s_shows_never, defScope s_shows_never, [], []⟩
def d_is_stepping : He.DefD := ⟨("is_stepping", none), "is_stepping", "is_stepping", defArgs s_is_stepping, defBody s_is_stepping, defScope s_is_stepping, [], []⟩
def d_is_owing : He.DefD := ⟨("is_owing", none), "is_owing", "is_owing", defArgs s_is_owing, defBody s_is_owing, defScope s_is_owing, [], []⟩
def d_standing_on : He.DefD := ⟨("standing_on", none), "standing_on", "standing_on", defArgs s_standing_on, defBody s_standing_on, defScope s_standing_on, [], []⟩
def d_is_nought : He.DefD := ⟨("is_nought", none), "is_nought", "is_nought", defArgs s_is_nought, defBody s_is_nought, defScope s_is_nought, [], []⟩
def d_part_paper : He.DefD := ⟨("part_paper", none), "part_paper", "part_paper", defArgs s_part_paper, defBody s_part_paper, defScope s_part_paper, [], []⟩
def d_owing_paper : He.DefD := ⟨("owing_paper", none), "owing_paper", "owing_paper", defArgs s_owing_paper, defBody s_owing_paper, defScope s_owing_paper, [], []⟩
def d_beats_till_back : He.DefD := ⟨("beats_till_back", none), "beats_till_back", "beats_till_back", defArgs s_beats_till_back, defBody s_beats_till_back, defScope s_beats_till_back, [], []⟩
def d_shape_of : He.DefD := ⟨("shape_of", none), "shape_of", "shape_of", defArgs s_shape_of, defBody s_shape_of, defScope s_shape_of, [], []⟩
def d_home_of : He.DefD := ⟨("home_of", none), "home_of", "home_of", defArgs s_home_of, defBody s_home_of, defScope s_home_of, [], []⟩
def d_part_home_beats : He.DefD := ⟨("part_home_beats", none), "part_home_beats", "part_home_beats", defArgs s_part_home_beats, defBody s_part_home_beats, defScope s_part_home_beats, [], []⟩
def d_arm_from : He.DefD := ⟨("arm_from", none), "arm_from", "arm_from", defArgs s_arm_from, defBody s_arm_from, defScope s_arm_from, [], []⟩
def d_shape_at : He.DefD := ⟨("shape_at", none), "shape_at", "shape_at", defArgs s_shape_at, defBody s_shape_at, defScope s_shape_at, [], []⟩
def d_shape_along : He.DefD := ⟨("shape_along", none), "shape_along", "shape_along", defArgs s_shape_along, defBody s_shape_along, defScope s_shape_along, [], []⟩
def d_tie_strength : He.DefD := ⟨("tie_strength", none), "tie_strength", "tie_strength", defArgs s_tie_strength, defBody s_tie_strength, defScope s_tie_strength, [], []⟩
def d_turned_order : He.DefD := ⟨("turned_order", none), "turned_order", "turned_order", defArgs s_turned_order, defBody s_turned_order, defScope s_turned_order, [], []⟩
def d_turning_beats : He.DefD := ⟨("turning_beats", none), "turning_beats", "turning_beats", defArgs s_turning_beats, defBody s_turning_beats, defScope s_turning_beats, [], []⟩
def d_wave_beats : He.DefD := ⟨("wave_beats", none), "wave_beats", "wave_beats", defArgs s_wave_beats, defBody s_wave_beats, defScope s_wave_beats, [], []⟩
def d_stretch_from : He.DefD := ⟨("stretch_from", none), "stretch_from", "stretch_from", defArgs s_stretch_from, defBody s_stretch_from, defScope s_stretch_from, [], []⟩
def d_rounds_till_owing : He.DefD := ⟨("rounds_till_owing", none), "rounds_till_owing", "rounds_till_owing", defArgs s_rounds_till_owing, defBody s_rounds_till_owing, defScope s_rounds_till_owing, [], []⟩
def d_owes : He.DefD := ⟨("owes", none), "owes", "owes", defArgs s_owes, defBody s_owes, defScope s_owes, [], []⟩
def d_level_standings : He.DefD := ⟨("level_standings", none), "level_standings", "level_standings", defArgs s_level_standings, defBody s_level_standings, defScope s_level_standings, [], []⟩
def d_only : He.DefD := ⟨("only", none), "only", "only", defArgs s_only, defBody s_only, defScope s_only, [], []⟩
def d_swing : He.DefD := ⟨("swing", none), "swing", "swing", defArgs s_swing, defBody s_swing, defScope s_swing, [], []⟩
def d_swings_on : He.DefD := ⟨("swings_on", none), "swings_on", "swings_on", defArgs s_swings_on, defBody s_swings_on, defScope s_swings_on, [], []⟩
def d_swings_till_back : He.DefD := ⟨("swings_till_back", none), "swings_till_back", "swings_till_back", defArgs s_swings_till_back, defBody s_swings_till_back, defScope s_swings_till_back, [], []⟩
def d_standing_behind : He.DefD := ⟨("standing_behind", none), "standing_behind", "standing_behind", defArgs s_standing_behind, defBody s_standing_behind, defScope s_standing_behind, [], []⟩
def d_far_on : He.DefD := ⟨("far_on", none), "far_on", "far_on", defArgs s_far_on, defBody s_far_on, defScope s_far_on, [], []⟩
def d_far_on_none : He.DefD := ⟨("far_on_none", none), "far_on_none", "far_on_none", defArgs s_far_on_none, defBody s_far_on_none, defScope s_far_on_none, [], []⟩
def d_far_on_waves : He.DefD := ⟨("far_on_waves", none), "far_on_waves", "far_on_waves", defArgs s_far_on_waves, defBody s_far_on_waves, defScope s_far_on_waves, [], []⟩
def d__law_pen : He.DefD := ⟨("_law_pen", none), "_law_pen", "_law_pen", defArgs s__law_pen, defBody s__law_pen, defScope s__law_pen, [], []⟩
def d__law_draw : He.DefD := ⟨("_law_draw", none), "_law_draw", "_law_draw", defArgs s__law_draw, defBody s__law_draw, defScope s__law_draw, [], []⟩
def d__law_pick : He.DefD := ⟨("_law_pick", none), "_law_pick", "_law_pick", defArgs s__law_pick, defBody s__law_pick, defScope s__law_pick, [], []⟩
def d__law_great : He.DefD := ⟨("_law_great", none), "_law_great", "_law_great", defArgs s__law_great, defBody s__law_great, defScope s__law_great, [], []⟩
def d__law_shuffled : He.DefD := ⟨("_law_shuffled", none), "_law_shuffled", "_law_shuffled", defArgs s__law_shuffled, defBody s__law_shuffled, defScope s__law_shuffled, [], []⟩
def d__law_any_web : He.DefD := ⟨("_law_any_web", none), "_law_any_web", "_law_any_web", defArgs s__law_any_web, defBody s__law_any_web, defScope s__law_any_web, [], []⟩
def d__law_number : He.DefD := ⟨("_law_number", none), "_law_number", "_law_number", defArgs s__law_number, defBody s__law_number, defScope s__law_number, [], []⟩
def d__law_standing : He.DefD := ⟨("_law_standing", none), "_law_standing", "_law_standing", defArgs s__law_standing, defBody s__law_standing, defScope s__law_standing, [], []⟩
def d__law_anything : He.DefD := ⟨("_law_anything", none), "_law_anything", "_law_anything", defArgs s__law_anything, defBody s__law_anything, defScope s__law_anything, [], []⟩
def d__law_bent : He.DefD := ⟨("_law_bent", none), "_law_bent", "_law_bent", defArgs s__law_bent, defBody s__law_bent, defScope s__law_bent, [], []⟩
def d__law_whole : He.DefD := ⟨("_law_whole", none), "_law_whole", "_law_whole", defArgs s__law_whole, defBody s__law_whole, defScope s__law_whole, [], []⟩
def d__law_due : He.DefD := ⟨("_law_due", none), "_law_due", "_law_due", defArgs s__law_due, defBody s__law_due, defScope s__law_due, [], []⟩
def d__law_told : He.DefD := ⟨("_law_told", none), "_law_told", "_law_told", defArgs s__law_told, defBody s__law_told, defScope s__law_told, [], []⟩
def d_law : He.DefD := ⟨("law", none), "law", "law", defArgs s_law, defBody s_law, defScope s_law, [], []⟩
def d_NoWeb___init__ : He.DefD := ⟨("NoWeb", some "__init__"), "__init__", "NoWeb.__init__", defArgs s_NoWeb___init__, defBody s_NoWeb___init__, defScope s_NoWeb___init__, [], []⟩
def d_NoStanding___init__ : He.DefD := ⟨("NoStanding", some "__init__"), "__init__", "NoStanding.__init__", defArgs s_NoStanding___init__, defBody s_NoStanding___init__, defScope s_NoStanding___init__, [], []⟩
def d_NoPart___init__ : He.DefD := ⟨("NoPart", some "__init__"), "__init__", "NoPart.__init__", defArgs s_NoPart___init__, defBody s_NoPart___init__, defScope s_NoPart___init__, [], []⟩
def d_NoBeats___init__ : He.DefD := ⟨("NoBeats", some "__init__"), "__init__", "NoBeats.__init__", defArgs s_NoBeats___init__, defBody s_NoBeats___init__, defScope s_NoBeats___init__, [], []⟩
def d_NoPost___init__ : He.DefD := ⟨("NoPost", some "__init__"), "__init__", "NoPost.__init__", defArgs s_NoPost___init__, defBody s_NoPost___init__, defScope s_NoPost___init__, [], []⟩
def d_NotAll___init__ : He.DefD := ⟨("NotAll", some "__init__"), "__init__", "NotAll.__init__", defArgs s_NotAll___init__, defBody s_NotAll___init__, defScope s_NotAll___init__, [], []⟩
def d_NotWaves___init__ : He.DefD := ⟨("NotWaves", some "__init__"), "__init__", "NotWaves.__init__", defArgs s_NotWaves___init__, defBody s_NotWaves___init__, defScope s_NotWaves___init__, [], []⟩
def d_TooGreat___init__ : He.DefD := ⟨("TooGreat", some "__init__"), "__init__", "TooGreat.__init__", defArgs s_TooGreat___init__, defBody s_TooGreat___init__, defScope s_TooGreat___init__, [], []⟩
def d_Web___init__ : He.DefD := ⟨("Web", some "__init__"), "__init__", "Web.__init__", defArgs s_Web___init__, defBody s_Web___init__, defScope s_Web___init__, [], []⟩
def d_Web___len__ : He.DefD := ⟨("Web", some "__len__"), "__len__", "Web.__len__", defArgs s_Web___len__, defBody s_Web___len__, defScope s_Web___len__, [], []⟩
def d_Web___eq__ : He.DefD := ⟨("Web", some "__eq__"), "__eq__", "Web.__eq__", defArgs s_Web___eq__, defBody s_Web___eq__, defScope s_Web___eq__, [], []⟩
def d_Web_ties : He.DefD := ⟨("Web", some "ties"), "ties", "Web.ties", defArgs s_Web_ties, defBody s_Web_ties, defScope s_Web_ties, [], []⟩
def d_Web_cords : He.DefD := ⟨("Web", some "cords"), "cords", "Web.cords", defArgs s_Web_cords, defBody s_Web_cords, defScope s_Web_cords, [], []⟩
def d_Web_parts : He.DefD := ⟨("Web", some "parts"), "parts", "Web.parts", defArgs s_Web_parts, defBody s_Web_parts, defScope s_Web_parts, [], []⟩
def d_Web__part_of : He.DefD := ⟨("Web", some "_part_of"), "_part_of", "Web._part_of", defArgs s_Web__part_of, defBody s_Web__part_of, defScope s_Web__part_of, [], []⟩
def fn : List He.DefD := [d_is_whole, d_is_between, d_is_whole_row, d_need_size, d_need_ties, d_are_ties, d_is_tie, d_need_standing, d_standing_fault, d_are_bearable, d_beat_on, d_beat_back, d_run_of, d_run_on, d_following, d_gains, d_less, d_steps_of, d_comes_back, d_never_paper, d_shows_never, d_standing_behind, d__law_pen, d__law_draw, d__law_pick, d__law_great, d__law_shuffled, d__law_any_web, d__law_number, d__law_standing, d__law_anything, d__law_bent, d__law_whole, d__law_due, d__law_told, d_law, d_NoWeb___init__, d_NoStanding___init__, d_Web___init__, d_Web___len__, d_Web_ties]
def fa : List He.Fa := [.glo "is_whole", .glo "is_between", .glo "is_whole_row", .glo "need_size", .glo "need_ties", .glo "are_ties", .glo "is_tie", .glo "need_standing", .glo "standing_fault", .glo "are_bearable", .glo "beat_on", .glo "beat_back", .glo "run_of", .glo "run_on", .glo "following", .glo "gains", .glo "less", .glo "steps_of", .glo "comes_back", .glo "never_paper", .glo "shows_never", .glo "standing_behind", .glo "_law_pen", .glo "_law_draw", .glo "_law_pick", .glo "_law_great", .glo "_law_shuffled", .glo "_law_any_web", .glo "_law_number", .glo "_law_standing", .glo "_law_anything", .glo "_law_bent", .glo "_law_whole", .glo "_law_due", .glo "_law_told", .glo "law", .glo "NoWeb", .glo "NoStanding", .glo "NoPart", .glo "NoBeats", .glo "NoPost", .glo "NotAll", .glo "NotWaves", .glo "TooGreat", .glo "Web", .free "len", .free "abs", .free "max", .free "min", .free "list", .free "tuple", .free "range", .free "isinstance", .free "all", .free "any", .free "set", .free "sum", .free "zip", .free "int", .free "sorted", .free "repr", .free "bool", .free "dict", .free "str", .free "enumerate", .free "ValueError", .free "KeyError", .int "MOST_POSTS" (12), .int "MOST_CORDS" (9), .int "GREATEST" (1000000000000000000000000000000), .meth "NoWeb" "__init__", .noat "NoWeb" "part", .meth "NoStanding" "__init__", .noat "NoStanding" "part", .cls "Web", .mkr "Web", .meth "Web" "__len__", .meth "Web" "ties", .noat "Web" "_rows", .noat "Web" "_ties", .glo "__builtins__"]
def hn : List PySem.Str := (["NoWeb", "NoStanding", "NoPart", "NoBeats", "NoPost", "NotAll", "NotWaves", "TooGreat", "Web", "is_whole", "is_between", "is_whole_row", "need_size", "need_ties", "are_ties", "is_tie", "need_standing", "standing_fault", "are_bearable", "beat_on", "beat_back", "run_of", "run_on", "following", "gains", "less", "steps_of", "comes_back", "never_paper", "shows_never"] : List PySem.Str) ++ (["standing_behind", "_law_pen", "_law_draw", "_law_pick", "_law_great", "_law_shuffled", "_law_any_web", "_law_number", "_law_standing", "_law_anything", "_law_bent", "_law_whole", "_law_due", "_law_told", "law"] : List PySem.Str)
def ex (K : PySem.W.Frag) : Bool := (Fv.oxB K (He.ga K "NoWeb") "ValueError.__new__" Fv.tlV) && (Fv.iniB K "ValueError" "ValueError.__init__") && (Fv.oxB K (He.ga K "NoStanding") "ValueError.__new__" Fv.tlV) && (Fv.oxB K (He.ga K "NoPart") "ValueError.__new__" Fv.tlV) && (Fv.oxB K (He.ga K "NoBeats") "ValueError.__new__" Fv.tlV) && (Fv.oxB K (He.ga K "NoPost") "LookupError.__new__" Fv.tlK) && (Fv.iniB K "KeyError" "KeyError.__init__") && (Fv.refGB K ["NoWeb", "NoStanding", "NoPart", "NoBeats", "NoPost"] ["NoWeb", "NoStanding", "NoPart", "NoBeats", "NoPost", "NotAll", "NotWaves", "TooGreat"] ["part", "posts", "beats", "post"] ["NoPost"]) && (Fv.webEqB K (He.ga K "Web")) && ((K.lookup 1).isNone) && (decide ((He.cT K ("law", none)).1 ≠ 1)) && (decide ((He.cT K ("law", none)).2 ≠ 1)) && (decide (He.ga K "__builtins__" ≠ 1))
def tf : List He.Defn := [("law", none)]
abbrev R : PySem.W.OpenRow := PySem.W.OpenLaw.row PySem.Challenge.rw_giveback_k04_standings_or_not
abbrev hk : PySem.W.Hook := Fv.hookQ 3 hn fa fn tf ex
def ob (s : PySem.W.SharedT) : He.AlX × Bool := Fv.obQ 3 hn fa fn tf ex (HandSHeadRun.getT s)
theorem ob_eq (s : PySem.W.SharedT) : ob s = hk.obs s.abs := Fv.obQ_eq (HandSHeadRun.getT_eq s)
def loose : List PySem.Str := (["is_whole", "is_between", "is_whole_row", "copied", "members_of", "filled_like", "NoWeb", "NoStanding", "NoPart", "NoBeats", "NoPost", "NotAll", "NotWaves", "TooGreat", "MOST_POSTS", "MOST_CORDS", "GREATEST", "Web", "tied_to", "lots_of", "need_size", "need_ties", "are_ties", "is_tie", "need_post", "is_part", "need_part", "need_standing", "standing_fault", "are_bearable"] : List PySem.Str) ++ (["beat_on", "beat_back", "run_of", "run_on", "following", "turned_about", "gains", "less", "with_more", "plus", "nought_on", "kinds_of", "is_kind", "steps_of", "halves_of", "step_of", "worth_of", "need_all_part", "need_waves", "are_weights", "cord_rows", "gaps_of", "weighed", "shown_by", "kind_of", "equations", "triangle_of", "solved", "lowest", "growing"] : List PySem.Str) ++ (["MOST_PAPER_BEATS", "comes_back", "never_paper", "shows_never", "is_stepping", "is_owing", "standing_on", "is_nought", "part_paper", "owing_paper", "beats_till_back", "ARMS_BEATS", "MIDDLE_BEATS", "THREE_BEATS", "shape_of", "home_of", "part_home_beats", "arm_from", "shape_at", "shape_along", "tie_strength", "turned_order", "turning_beats", "wave_beats", "stretch_from", "rounds_till_owing", "owes", "level_standings", "only", "swing"] : List PySem.Str) ++ (["swings_on", "swings_till_back", "MOST_BEATS", "TOO_GREAT", "standing_behind", "far_on", "far_on_none", "far_on_waves", "_law_pen", "_law_draw", "_law_pick", "_law_great", "_law_shuffled", "_law_any_web", "_law_number", "_law_standing", "_law_anything", "_law_bent", "_law_whole", "_law_due", "_law_told"] : List PySem.Str)
abbrev qv : PySem.Program := PySem.W.view R.prog [0, 122]
def wset (w : World) (b : Bool) : World := { w with params := { w.params with followText := fun r => bif r == "special-get-raises" then b else w.params.followText r } }
theorem wset_self (w : World) : wset w (w.params.followText "special-get-raises") = w := by
  have e : (fun r => bif r == "special-get-raises" then w.params.followText "special-get-raises" else w.params.followText r) = w.params.followText := funext fun r => by
    cases h : r == "special-get-raises" with
    | true => rw [eq_of_beq h]; rfl
    | false => rfl
  unfold wset
  rw [e]
theorem lookT (w : World) : (HandSHeadRun.wholeF (fun p => HandSHeadRun.stepQ (HandSHeadRun.denQ HandSHeadRun.tabQ) p (wset w true)) HandSHeadRun.fenceQ 6000 R.prog).map (fun x => (HandSHeadRun.looksF R.prog x.1.heap x.2.abs, HandSHeadRun.seenQ qv loose (importedModules R.prog.main.body) (fun s => PySem.W.xlAt qv [] s && PySem.W.recOk R.toRowW.records s) x.2.abs)) = some (true, PySem.W.openGood qv loose) := by
  kernel_rfl
theorem obT (w : World) : (HandSHeadRun.wholeF (fun p => HandSHeadRun.stepQ (HandSHeadRun.denQ HandSHeadRun.tabQ) p (wset w true)) HandSHeadRun.fenceQ 6000 R.prog).map (fun x => ob x.2) = some (hk.val (wset w true)) := by
  kernel_rfl
theorem runT (w : World) : HandSHeadRun.RunEqI R qv hk ob 6000 loose (wset w true) := Fv.runEqI_two (lookT w) (obT w)
theorem lookF (w : World) : (HandSHeadRun.wholeF (fun p => HandSHeadRun.stepQ (HandSHeadRun.denQ HandSHeadRun.tabQ) p (wset w false)) HandSHeadRun.fenceQ 6000 R.prog).map (fun x => (HandSHeadRun.looksF R.prog x.1.heap x.2.abs, HandSHeadRun.seenQ qv loose (importedModules R.prog.main.body) (fun s => PySem.W.xlAt qv [] s && PySem.W.recOk R.toRowW.records s) x.2.abs)) = some (true, PySem.W.openGood qv loose) := by
  kernel_rfl
theorem obF (w : World) : (HandSHeadRun.wholeF (fun p => HandSHeadRun.stepQ (HandSHeadRun.denQ HandSHeadRun.tabQ) p (wset w false)) HandSHeadRun.fenceQ 6000 R.prog).map (fun x => ob x.2) = some (hk.val (wset w false)) := by
  kernel_rfl
theorem runF (w : World) : HandSHeadRun.RunEqI R qv hk ob 6000 loose (wset w false) := Fv.runEqI_two (lookF w) (obF w)
theorem run (w : World) : HandSHeadRun.RunEqI R qv hk ob 6000 loose w := by
  have key : ∀ b, HandSHeadRun.RunEqI R qv hk ob 6000 loose (wset w b) := fun b => by
    cases b
    · exact runF w
    · exact runT w
  have h := key (w.params.followText "special-get-raises")
  rwa [wset_self] at h
end Hd
set_option maxRecDepth 100000
set_option maxHeartbeats 4000000
namespace Gb
open PySem PySem.Spec PyProof.Rows L2
open PySem.W (Datum Tup T4)
section
variable {P : Program} {w : World} {K : PySem.W.Frag} {mg : Str → Option Value} {base : Heap}
theorem sc__law_draw : FnScope ["pen", "many", "digit", "turn", "cell", "primes", "prime", "drawn"] ["pen", "many"] (defScope s__law_draw) := ⟨rfl, rfl, rfl, by decide +kernel, rfl, by decide +kernel, by decide +kernel⟩
theorem ok__law_draw (D : Dn K mg "_law_draw" s__law_draw ["pen", "many"]) (B : Bt mg) : Cl P w K mg base 1 "_law_draw" spDraw := by
  refine cl_of D sc__law_draw (fun vs H Q E h => ?_) (fun cdv f A outer s H vs Q E hr h => ?_)
  · obtain ⟨p, c, n, many, rfl, _⟩ := h
    rfl
  · obtain ⟨p, c, n, many, rfl, hp, hn, hm0, hm1, q⟩ := h
    have nd := sc__law_draw.nd
    have hu := hu_of hr
    refine ⟨_, (pss_cons (ps_if (pt_cmpR op_gt (pe_dget hu (pv 0) pe_str (fun _ _ => rfl)) pe_int (nomark _))
    (pss_cons (ps_set (i := 2) nd rfl (.inl rfl) (pe_op op_mod (pe_dget hu (pv 0) pe_str (fun _ _ => rfl)) (pv 1)))
    (pss_cons (ps_dput hu (pv 0) pe_str (pe_op op_fdiv (pe_dget hu (pv 0) pe_str (fun _ _ => rfl)) (pv 1)) rfl)
    (pss_one (ps_ret (pv 2)))))
    pss_nil)
    (pss_cons (ps_set (i := 3) nd rfl (.inl rfl) (pe_dget hu (pv 0) pe_str (fun _ _ => rfl)))
    (pss_cons (ps_dput hu (pv 0) pe_str (pe_op op_add (pv 3) pe_int) rfl)
    (pss_cons (ps_set (i := 4) nd rfl (.inl rfl) (pe_op op_add (pe_op op_mul pe_int (pv 3)) pe_int))
    (Evl.pss_cut (ps_if (pt_cmpR (op_neD hr.units) (pe_dget hu (pv 0) pe_str (fun _ _ => rfl)) (pe_lst pa_nil) (nomark _))
    (pss_one (ps_set (i := 4) nd rfl (.inl rfl) (pe_ix ix_list (pe_dget hu (pv 0) pe_str (fun _ _ => rfl)) (pe_op op_mod (pv 3) (pe_callB call_len_seq (by rfl) B.len PySem.boot_len (pa_cons (pe_dget hu (pv 0) pe_str (fun _ _ => rfl)) pa_nil))) (fun _ _ => rfl))))
    pss_nil)
    (Evl.pss_cut (ps_if (PW.pt (pw_and (pt_cmpR op_lt (pv 3) (pe_callB call_len_seq (by rfl) B.len PySem.boot_len (pa_cons (pe_dget hu (pv 0) pe_str (fun _ _ => rfl)) pa_nil)) (nomark _)) (pw_and1 (pt_cmpR op_ge (pe_callB call_abs (by rfl) B.abs (by decide +kernel) (pa_cons (pv 4) pa_nil)) (pe_op op_pow pe_int pe_int) (nomark _)))))
    (pss_cons (ps_dput hu (pv 0) pe_str (pe_op op_fdiv (pe_op op_sub (pe_callB call_abs (by rfl) B.abs (by decide +kernel) (pa_cons (pv 4) pa_nil)) (pe_op op_pow pe_int pe_int)) (pv 1)) rfl)
    (pss_one (ps_ret (pe_op op_mod (pe_op op_sub (pe_callB call_abs (by rfl) B.abs (by decide +kernel) (pa_cons (pv 4) pa_nil)) (pe_op op_pow pe_int pe_int)) (pv 1)))))
    pss_nil)
    (pss_cons (ps_set (i := 5) nd rfl (.inl rfl) (pe_lst (pa_cons pe_int (pa_cons pe_int (pa_cons pe_int (pa_cons pe_int (pa_cons pe_int pa_nil)))))))
    (pss_cons (ps_set (i := 6) nd rfl (.inl rfl) (pe_ix ix_list (pv 5) (pe_op op_mod (pv 3) pe_int) (fun _ _ => rfl)))
    (pss_cons (ps_set (i := 7) nd rfl (.inl rfl) (pe_op op_mod (pe_op op_add (pe_op op_add (pe_op op_mul (pe_op op_mod (pv 4) (pv 6)) pe_int) (pe_op op_mul (pe_op op_mul pe_int (pv 3)) (pv 3))) pe_int) (pv 6)))
    (pss_cons (ps_set (i := 7) nd rfl (.inl rfl) (pe_op op_mod (pe_op op_mul (pv 7) (pe_op op_add (pv 7) pe_int)) (pe_ix ix_list (pv 5) (pe_op op_mod (pe_op op_add (pv 3) pe_int) pe_int) (fun _ _ => rfl))))
    (pss_one (ps_ret (pe_op op_mod (pe_op op_fdiv (pe_op op_mod (pe_op op_mul (pv 7) (pv 7)) pe_int) pe_int) (pv 1)))))))))))))), ?_⟩
    obtain ⟨t, l, xs, h1, h2, h3, h4, h5⟩ := id hp
    have gl : DGet H p (.str "left") (some (.int l)) := DGet.k (k := .inr "left") h1
    have gt : DGet H p (.str "turn") (some (.int t)) := DGet.k (k := .inr "turn") h1
    have gc : DGet H p (.str "cells") (some (.ref c)) := DGet.k (k := .inr "cells") h1
    -- if pen['left'] > 0
    refine ⟨.ref p, rfl, p, .int l, rfl, gl, l, 0, rfl, rfl, _, rfl, ite2 (fun hl => ?_) (fun hl => ?_)⟩
    · refine ⟨.ref p, rfl, p, .int l, rfl, gl, .int many, rfl, l, many, rfl, rfl, hm0, ?_⟩
      refine ⟨.ref p, rfl, p, .int l, rfl, gl, .int many, rfl, l, many, rfl, rfl, ⟨hm0, by omega⟩, .ref p, rfl, p, _, rfl, dput_left h1, ?_⟩
      refine ⟨.int (l % many), rfl, ?_⟩
      exact q _ _ (Int.emod_nonneg _ (by omega)) (Int.emod_lt_of_pos _ hm0) (pen_go h1 h2 h3 (by omega) (Int.ediv_nonneg h5 (by omega)))
    -- turn = pen['turn']; pen['turn'] = turn + 1
    refine ⟨.ref p, rfl, p, .int t, rfl, gt, ?_⟩
    refine ⟨.int t, rfl, t, 1, rfl, rfl, .ref p, rfl, p, _, rfl, dput_turn h1, ?_⟩
    -- cell = 37 * turn + 13
    refine ⟨.int t, rfl, 37, t, rfl, rfl, .inl ⟨by decide, by decide⟩, 37 * t, 13, rfl, rfl, ?_⟩
    have nc : c ≠ p := fun z => by
      rw [z, h1] at h2
      cases h2
    have k1 : (upd H p (.dK (penD c (t + 1) l))) p = some (.dK (penD c (t + 1) l)) := upd_same
    have k2 : (upd H p (.dK (penD c (t + 1) l))) c = some (.lst (xs.map V.int)) := by
      rw [upd_ne nc]
      exact h2
    have g1 : Go p c 1 H (upd H p (.dK (penD c (t + 1) l))) := pen_go h1 h2 (by omega) (by omega) h5
    generalize hH1 : upd H p (.dK (penD c (t + 1) l)) = H1 at k1 k2 g1 ⊢
    have gc1 : DGet H1 p (.str "cells") (some (.ref c)) := DGet.k (k := .inr "cells") k1
    -- if pen['cells'] != []
    refine ⟨fun σ' H' => ∃ cell : Int, σ' = [some (.ref p), some (.int many), none, some (.int t), some (.int cell), none, none, none] ∧ H' p = some (.dK (penD c (t + 1) l)) ∧ H' c = some (.lst (xs.map V.int)) ∧ Go p c 1 H H', ?_, ?_⟩
    · refine ⟨.ref p, rfl, p, .ref c, rfl, gc1, Nat.zero_le _, fun e he => ?_⟩
      have k3 : (upd H1 e (.lst [])) p = some (.dK (penD c (t + 1) l)) := same_new he _ _ k1
      have k4 : (upd H1 e (.lst [])) c = some (.lst (xs.map V.int)) := same_new he _ _ k2
      have g2 : Go p c 1 H (upd H1 e (.lst [])) := g1.trans (k := 0) (Go.new he)
      have gc2 : DGet (upd H1 e (.lst [])) p (.str "cells") (some (.ref c)) := DGet.k (k := .inr "cells") k3
      refine ne_dat (a := xs) (b := ([] : List Int)) (.lst (SqL.of k4) (dpa_of_ints xs)) (.lst (SqL.of upd_same) .nil) ⟨_, rfl, ?_⟩
      by_cases hx : xs = []
      · rw [decide_eq_true hx]
        exact ⟨37 * t + 13, rfl, k3, k4, g2⟩
      · rw [decide_eq_false hx]
        have hpos : (0 : Int) < (xs.map V.int).length := by
          rw [List.length_map]
          have := List.length_pos_iff.mpr hx
          omega
        refine ⟨.ref p, rfl, p, .ref c, rfl, gc2, .int t, rfl, .ref p, rfl, p, .ref c, rfl, gc2, c, _, rfl, .inl (SqL.of k4), t, _, rfl, rfl, hpos, ?_⟩
        have hlt : (t % ((xs.map V.int).length : Int)).toNat < xs.length := by
          have h6 := Int.emod_nonneg t (b := ((xs.map V.int).length : Int)) (by omega)
          have h7 := Int.emod_lt_of_pos t hpos
          rw [List.length_map] at h6 h7 ⊢
          omega
        refine ⟨c, xs.map V.int, _, .int xs[(t % ((xs.map V.int).length : Int)).toNat], rfl, rfl, SqL.of k4, ?_, ?_⟩
        · refine at_of (j := (t % ((xs.map V.int).length : Int)).toNat) ?_ ?_
          · have h6 := Int.emod_nonneg t (b := ((xs.map V.int).length : Int)) (by omega)
            omega
          · rw [List.getElem?_map, List.getElem?_eq_getElem hlt]
            rfl
        · exact ⟨_, rfl, k3, k4, g2⟩
    · rintro σ' H' ⟨cell, rfl, k3, k4, g2⟩
      have gc2 : DGet H' p (.str "cells") (some (.ref c)) := DGet.k (k := .inr "cells") k3
      -- if turn < len(pen['cells']) and abs(cell) >= 10 ** 18
      refine ⟨fun σ2 H2 => σ2 = [some (.ref p), some (.int many), none, some (.int t), some (.int cell), none, none, none] ∧ H2 = H', ?_, ?_⟩
      · refine ⟨.int t, rfl, .ref p, rfl, p, .ref c, rfl, gc2, c, _, rfl, .inl (SqL.of k4), t, _, rfl, rfl, _, rfl, ite2 (fun _ => ?_) (fun _ => ⟨rfl, rfl⟩)⟩
        refine ⟨.int cell, rfl, cell, rfl, 10, 18, rfl, rfl, ⟨by decide, by decide, by decide⟩, _, _, rfl, rfl, _, rfl, ite2 (fun ha => ?_) (fun _ => ⟨rfl, rfl⟩)⟩
        have hge : (10 : Int) ^ (18 : Int).toNat ≤ (if cell < 0 then -cell else cell) := of_decide_eq_true ha
        refine ⟨.int cell, rfl, cell, rfl, 10, 18, rfl, rfl, ⟨by decide, by decide, by decide⟩, _, _, rfl, rfl, .int many, rfl, _, many, rfl, rfl, ⟨hm0, by omega⟩, .ref p, rfl, p, _, rfl, dput_left k3, ?_⟩
        refine ⟨.int cell, rfl, cell, rfl, 10, 18, rfl, rfl, ⟨by decide, by decide, by decide⟩, _, _, rfl, rfl, .int many, rfl, _, many, rfl, rfl, hm0, ?_⟩
        refine q _ _ (Int.emod_nonneg _ (by omega)) (Int.emod_lt_of_pos _ hm0) ?_
        refine ⟨fun b o eb nb => ?_, fun m hpm => ?_⟩
        · have nbp : b ≠ p := fun z => by
            rw [z, h1] at eb
            cases eb
            exact nb
          rw [upd_ne nbp]
          exact g2.1 _ _ eb nb
        · obtain ⟨t0, l0, ys, a1, a2, a3, a4, a5⟩ := g2.2 m hpm
          rw [k3] at a1
          injection a1 with a1
          injection a1 with a1
          have et := penD_inj a1
          have nc' : c ≠ p := nc
          exact ⟨t + 1, _, ys, upd_same, by rw [upd_ne nc']; exact a2, by omega, by omega, Int.ediv_nonneg (by omega) (by omega)⟩
      · rintro σ2 H2 ⟨rfl, rfl⟩
        -- primes = [..]
        refine ⟨by show 5 ≤ sizeLine; decide, fun e he => ?_⟩
        have g3 : Go p c 1 H (upd H2 e (.lst primesV)) := g2.trans (k := 0) (Go.new he)
        have ke : (upd H2 e (.lst primesV)) e = some (.lst primesV) := upd_same
        obtain ⟨m, hm2, hm3, hm4⟩ := primes_at (i := t % 5) (by omega) (by omega)
        obtain ⟨m', hm2', hm3', hm4'⟩ := primes_at (i := (t + 3) % 5) (by omega) (by omega)
        -- prime = primes[turn % 5]
        refine ⟨.ref e, rfl, .int t, rfl, t, 5, rfl, rfl, (by show (0 : Int) < 5; decide), e, primesV, t % 5, .int m, rfl, rfl, SqL.of ke, hm2, ?_⟩
        -- drawn = (cell % prime * 48271 + 40692 * turn * turn + 31) % prime
        refine ⟨.int cell, rfl, .int m, rfl, cell, m, rfl, rfl, hm3, cell % m, 48271, rfl, rfl, .inr ⟨by decide, by decide⟩, .int t, rfl, 40692, t, rfl, rfl, .inl ⟨by decide, by decide⟩, .int t, rfl, 40692 * t, t, rfl, rfl, .inr ⟨by omega, by omega⟩, _, _, rfl, rfl, _, 31, rfl, rfl, .int m, rfl, _, m, rfl, rfl, hm3, ?_⟩
        have hd0 := Int.emod_nonneg (cell % m * 48271 + 40692 * t * t + 31) (b := m) (by omega)
        have hd1 := Int.emod_lt_of_pos (cell % m * 48271 + 40692 * t * t + 31) hm3
        obtain ⟨d, ed⟩ : ∃ d : Int, d = (cell % m * 48271 + 40692 * t * t + 31) % m := ⟨_, rfl⟩
        rw [← ed] at hd0 hd1
        -- drawn = drawn * (drawn + 69621) % primes[(turn + 3) % 5]
        refine ⟨.int d, (by rw [ed]; rfl), .int d, (by rw [ed]; rfl), d, 69621, rfl, rfl, d, d + 69621, rfl, rfl, .inl ⟨by omega, by omega⟩, .ref e, rfl, .int t, rfl, t, 3, rfl, rfl, t + 3, 5, rfl, rfl, (by show (0 : Int) < 5; decide), e, primesV, (t + 3) % 5, .int m', rfl, rfl, SqL.of ke, hm2', _, m', rfl, rfl, hm3', ?_⟩
        have he0 := Int.emod_nonneg (d * (d + 69621)) (b := m') (by omega)
        have he1 := Int.emod_lt_of_pos (d * (d + 69621)) hm3'
        obtain ⟨d', ed'⟩ : ∃ d' : Int, d' = d * (d + 69621) % m' := ⟨_, rfl⟩
        rw [← ed'] at he0 he1
        -- return drawn * drawn % 2147483549 // 64 % many
        refine ⟨.int d', (by rw [ed']; rfl), .int d', (by rw [ed']; rfl), d', d', rfl, rfl, .inl ⟨by omega, by omega⟩, d' * d', 2147483549, rfl, rfl, (by show (0 : Int) < 2147483549; decide), _, 64, rfl, rfl, ⟨by decide, by decide⟩, .int many, rfl, _, many, rfl, rfl, hm0, ?_⟩
        exact q _ _ (Int.emod_nonneg _ (by omega)) (Int.emod_lt_of_pos _ hm0) g3
end
end Gb
set_option maxRecDepth 100000
set_option maxHeartbeats 4000000
namespace Gb
open PySem PySem.Spec PyProof.Rows L2
open PySem.W (Datum Tup T4)
section
variable {P : Program} {w : World} {K : PySem.W.Frag} {mg : Str → Option Value} {base : Heap}
theorem sc__law_pick : FnScope ["pen", "some"] ["pen", "some"] (defScope s__law_pick) := ⟨rfl, rfl, rfl, by decide +kernel, rfl, by decide +kernel, by decide +kernel⟩
theorem ok__law_pick (D : Dn K mg "_law_pick" s__law_pick ["pen", "some"]) (B : Bt mg) (c__law_draw : Cl P w K mg base 1 "_law_draw" spDraw) : Cl P w K mg base 2 "_law_pick" (spPick K) := by
  refine cl_of D sc__law_pick (fun vs H Q E h => ?_) (fun cdv f A outer s H vs Q E hr h => ?_)
  · obtain ⟨p, c, l, n, xs, rfl, _⟩ := h
    rfl
  · obtain ⟨p, c, l, n, xs, rfl, hp, hn, hS, h0, h1, q⟩ := h
    have nd := sc__law_pick.nd
    refine ⟨_, (pss_one (ps_ret (pe_ix ix_listK (pv 1) (pe_c c__law_draw hr (by decide) (by rfl) (pa_cons (pv 0) (pa_cons (pe_callB call_lenK (by rfl) B.len PySem.boot_len (pa_cons (pv 1) pa_nil)) pa_nil))) (fun _ _ => rfl)))), ?_⟩
    refine ⟨.ref l, rfl, .ref p, rfl, .ref l, rfl, l, xs, rfl, .inl hS, ⟨p, c, n, _, rfl, hp, by omega, by omega, by omega, fun r H' hr0 hr1 g => ?_⟩⟩
    have hlt : r.toNat < xs.length := by omega
    exact ⟨l, xs, r, xs[r.toNat], rfl, rfl, g.1.l hS, at_of (j := r.toNat) (by omega) (List.getElem?_eq_getElem hlt), q r.toNat _ H' (List.getElem?_eq_getElem hlt) g⟩
end
end Gb
set_option maxRecDepth 100000
set_option maxHeartbeats 4000000
namespace Gb
open PySem PySem.Spec PyProof.Rows L2
open PySem.W (Datum Tup T4)
section
variable {P : Program} {w : World} {K : PySem.W.Frag} {mg : Str → Option Value} {base : Heap}
theorem sc__law_great : FnScope ["pen", "figures", "found", "k"] ["pen", "figures"] (defScope s__law_great) := ⟨rfl, rfl, rfl, by decide +kernel, rfl, by decide +kernel, by decide +kernel⟩
theorem ok__law_great (D : Dn K mg "_law_great" s__law_great ["pen", "figures"]) (B : Bt mg) (c__law_draw : Cl P w K mg base 1 "_law_draw" spDraw) : Cl P w K mg base 2 "_law_great" spGreat := by
  refine cl_of D sc__law_great (fun vs H Q E h => ?_) (fun cdv f A outer s H vs Q E hr h => ?_)
  · obtain ⟨p, c, n, k, rfl, _⟩ := h
    rfl
  · obtain ⟨p, c, n, k, rfl, hp, hn, hk, q⟩ := h
    have nd := sc__law_great.nd
    refine ⟨_, (pss_cons (ps_set (i := 2) nd rfl (.inl rfl) pe_int)
    (pss_cons (ps_for PassesOwn.never rfl (pi_range1 (by rfl) B.range (pa_cons (pv 1) pa_nil)) (pg_name (i := 3) nd rfl (.inl rfl))
    (pss_one (ps_set (i := 2) nd rfl (.inl rfl) (pe_op op_add (pe_op op_mul pe_int (pv 2)) (pe_c c__law_draw hr (by decide) (by rfl) (pa_cons (pv 0) (pa_cons pe_int pa_nil)))))))
    (pss_one (ps_ret (pv 2))))), ?_⟩
    refine ⟨.int (k : Int), rfl, k, rfl, by omega, by omega, for_range (lo := 0) (n := k) (fun i σ H' => ∃ (r : Nat) (u : Option V), σ = [some (.ref p), some (.int (k : Int)), some (.int (r : Int)), u] ∧ r < 10 ^ i ∧ Go p c i H H')
      ⟨0, none, rfl, by decide, Go.refl⟩ ?_ ?_⟩
    · rintro i σ H' hi ⟨r, u, rfl, hr10, g⟩
      refine ⟨.int (r : Int), rfl, 10, r, rfl, rfl, .inl ⟨by decide, by decide⟩, .ref p, rfl, ⟨p, c, n + i, 10, rfl, g.2 n hp, by omega, by decide, by decide, fun d H2 hd0 hd1 g2 => ?_⟩⟩
      refine ⟨10 * (r : Int), d, rfl, rfl, 10 * r + d.toNat, some (.int (0 + (i : Int))), ?_, ?_, g.trans g2⟩
      · have e : 10 * (r : Int) + d = ((10 * r + d.toNat : Nat) : Int) := by omega
        rw [← e]
        rfl
      · rw [Nat.pow_succ]
        omega
    · rintro σ H' ⟨r, u, rfl, hr10, g⟩
      exact ⟨.int (r : Int), rfl, q r H' hr10 g⟩
end
end Gb
set_option maxRecDepth 100000
set_option maxHeartbeats 4000000
namespace Gb
open PySem PySem.Spec PyProof.Rows L2
open PySem.W (Datum Tup T4)
section
variable {P : Program} {w : World} {K : PySem.W.Frag} {mg : Str → Option Value} {base : Heap}
theorem sc__law_shuffled : FnScope ["pen", "some", "left", "k"] ["pen", "some"] (defScope s__law_shuffled) := ⟨rfl, rfl, rfl, by decide +kernel, rfl, by decide +kernel, by decide +kernel⟩
theorem ok__law_shuffled (D : Dn K mg "_law_shuffled" s__law_shuffled ["pen", "some"]) (B : Bt mg) (c__law_draw : Cl P w K mg base 1 "_law_draw" spDraw) : Cl P w K mg base 2 "_law_shuffled" (spShuf K) := by
  refine cl_of D sc__law_shuffled (fun vs H Q E h => ?_) (fun cdv f A outer s H vs Q E hr h => ?_)
  · obtain ⟨p, c, l, n, xs, rfl, _⟩ := h
    rfl
  · obtain ⟨p, c, l, n, xs, rfl, hp, hn, hS, h1, q⟩ := h
    have nd := sc__law_shuffled.nd
    refine ⟨_, (pss_cons (ps_set (i := 2) nd rfl (.inr rfl) (pe_callTy call_listK (by rfl) B.list (by decide +kernel) (pa_cons (pv 1) pa_nil)))
    (pss_one (ps_ret (pe_lc (own := [("k", 3)]) rfl nd (pi_range1 (by rfl) B.range (pa_cons (pe_callB call_lenK (by rfl) B.len PySem.boot_len (pa_cons (pv 2) pa_nil)) pa_nil)) (blkOk_by (N := ["pen", "some", "left", "k"]) (sc := defScope s__law_shuffled) (by decide +kernel)) (fun _ _ _ _ _ => (pg_name (i := 3) nd rfl (.inl rfl))) (fun _ _ _ _ _ => pts_nil) (fun _ _ _ _ _ => (pe_bmK PySem.F.plainAttrs_list PySem.F.slot_list_pop PySem.F.type_list_pop mt_popAt (pv 2) (pa_cons (pe_c c__law_draw hr (by decide) (by rfl) (pa_cons (pv 0) (pa_cons (pe_callB call_lenK (by rfl) B.len PySem.boot_len (pa_cons (pv 2) pa_nil)) pa_nil))) pa_nil))))))), ?_⟩
    refine ⟨.ref l, rfl, l, xs, rfl, .inl hS, fun a ha => ?_⟩
    have na := hp.ne ha
    refine ⟨.ref a, rfl, a, xs, rfl, .inl (SqL.of upd_same), xs.length, rfl, by omega, by omega, fun D hD => ?_⟩
    have naD : D ≠ a := fun e => by
      rw [e, upd_same] at hD
      cases hD
    have hD0 : H D = none := by
      rw [upd_ne naD] at hD
      exact hD
    have nD := hp.ne hD0
    -- two lists: what is left at a, what is taken at D
    refine lc_range (lo := 0) (n := xs.length) (fun i H' => ∃ zs ys : List V, H' a = some (.lst zs) ∧ H' D = some (.lst ys) ∧ (ys ++ zs).Perm xs ∧ ys.length = i ∧ Go p c i H (del (del H' a) D)) ?_ ?_ ?_
    · refine ⟨xs, [], ?_, upd_same, List.Perm.refl _, rfl, ?_⟩
      · rw [upd_ne naD.symm]
        exact upd_same
      · have e : del (del (upd (upd H a (.lst xs)) D (.lst [])) a) D = H := by
          funext b
          by_cases hb : b = D
          · rw [hb, del_same, hD0]
          · rw [del_ne hb]
            by_cases hb2 : b = a
            · rw [hb2, del_same, ha]
            · rw [del_ne hb2, upd_ne hb, upd_ne hb2]
        rw [e]
        exact Go.refl
    · rintro i H' hi ⟨zs, ys, ka, kD, pm, hl, g⟩
      have hlen := pm.length_eq
      rw [List.length_append] at hlen
      have hp' : Pen H' p c (n + i) := ((g.2 n hp).undel).undel
      refine ⟨rfl, .ref a, rfl, .inl ⟨rfl, _, SqL.of ka⟩, .ref p, rfl, .ref a, rfl, a, zs, rfl, .inl (SqL.of ka), ⟨p, c, n + i, (zs.length : Int), rfl, hp', by omega, by omega, by omega, fun r H2 hr0 hr1 g2 => ?_⟩⟩
      have ka2 := g2.1 _ _ ka trivial
      have kD2 := g2.1 _ _ kD trivial
      have hlt : r.toNat < zs.length := by omega
      have hz : zs[r.toNat]? = some zs[r.toNat] := List.getElem?_eq_getElem hlt
      refine ⟨a, zs, r, r.toNat, zs[r.toNat], rfl, rfl, ka2, by omega, by omega, seqIx hr0 hr1, hz, ?_⟩
      refine ⟨ys, by rw [upd_ne naD]; exact kD2, Nat.lt_of_le_of_lt (by omega : ys.length ≤ 1000) (by decide), ?_⟩
      refine ⟨zs.eraseIdx r.toNat, ys ++ [zs[r.toNat]], ?_, upd_same, ?_, by rw [List.length_append, List.length_singleton, hl], ?_⟩
      · rw [upd_ne naD.symm]
        exact upd_same
      · rw [List.append_assoc]
        exact ((erase_perm hz).append_left ys).trans pm
      · have e : del (del (upd (upd H2 a (.lst (zs.eraseIdx r.toNat))) D (.lst (ys ++ [zs[r.toNat]]))) a) D = del (del H2 a) D := by
          funext b
          by_cases hb : b = D
          · rw [hb, del_same, del_same]
          · rw [del_ne hb, del_ne hb]
            by_cases hb2 : b = a
            · rw [hb2, del_same, del_same]
            · rw [del_ne hb2, del_ne hb2, upd_ne hb, upd_ne hb2]
        rw [e]
        exact g.trans ((g2.del na.1 na.2).del nD.1 nD.2)
    · rintro H' ⟨zs, ys, ka, kD, pm, hl, g⟩
      have hlen := pm.length_eq
      rw [List.length_append] at hlen
      have hz : zs = [] := List.length_eq_zero_iff.mp (by omega)
      rw [hz, List.append_nil] at pm
      exact q D ys H' hD0 kD pm ⟨(g.1.trans del_ex).trans del_ex, fun m hm => ((g.2 m hm).undel).undel⟩
end
end Gb
set_option maxRecDepth 100000
set_option maxHeartbeats 4000000
namespace Gb
open PySem PySem.Spec PyProof.Rows L2
open PySem.W (Datum Tup T4)
section
variable {P : Program} {w : World} {K : PySem.W.Frag} {mg : Str → Option Value} {base : Heap}
theorem sc__law_any_web : FnScope ["pen", "most", "size", "ties", "sparse", "one", "two", "cords", "k"] ["pen", "most"] (defScope s__law_any_web) := ⟨rfl, rfl, rfl, by decide +kernel, rfl, by decide +kernel, by decide +kernel⟩
theorem ok__law_any_web (D : Dn K mg "_law_any_web" s__law_any_web ["pen", "most"]) (B : Bt mg) (c__law_draw : Cl P w K mg base 1 "_law_draw" spDraw) (c__law_pick : Cl P w K mg base 2 "_law_pick" (spPick K)) (c__law_shuffled : Cl P w K mg base 2 "_law_shuffled" (spShuf K)) : Cl P w K mg base 3 "_law_any_web" (spWeb K 1) := by
  refine cl_of D sc__law_any_web (fun vs H Q E h => ?_) (fun cdv f A outer s H vs Q E hr h => ?_)
  · obtain ⟨p, c, n, most, rfl, _⟩ := h
    rfl
  · obtain ⟨p, c, n, most, rfl, hp, hn, hm0, hm1, q⟩ := h
    have nd := sc__law_any_web.nd
    refine ⟨_, (pss_cons (ps_par (i := 2) (j := 3) (by rfl) nd rfl rfl (by decide) rfl rfl (pa_cons (pe_op op_add pe_int (pe_c c__law_draw hr (by decide) (by rfl) (pa_cons (pv 0) (pa_cons (pv 1) pa_nil)))) (pa_cons (pe_lst pa_nil) pa_nil)) (by rfl))
    (pss_cons (ps_set (i := 4) nd rfl (.inl rfl) (pe_op op_add pe_int (pe_c c__law_draw hr (by decide) (by rfl) (pa_cons (pv 0) (pa_cons pe_int pa_nil)))))
    (pss_cons (ps_for PassesOwn.never rfl (pi_range1 (by rfl) B.range (pa_cons (pv 2) pa_nil)) (pg_name (i := 5) nd rfl (.inl rfl))
    (pss_one (ps_for PassesOwn.never rfl (pi_range2 (by rfl) B.range (pa_cons (pe_op op_add (pv 5) pe_int) (pa_cons (pv 2) pa_nil))) (pg_name (i := 6) nd rfl (.inl rfl))
    (pss_one (ps_if (PW.pt (pw_and (pt_cmpR op_eq (pe_c c__law_draw hr (by decide) (by rfl) (pa_cons (pv 0) (pa_cons (pv 4) pa_nil))) pe_int (nomark _)) (pw_and1 (pt_cmpR op_eq (pe_c c__law_draw hr (by decide) (by rfl) (pa_cons (pv 0) (pa_cons pe_int pa_nil))) pe_int (nomark _)))))
    (pss_cons (ps_setLc (i := 7) (own := [("k", 8)]) rfl nd rfl rfl (sw_true rfl rfl rfl (by decide +kernel)) (pi_range1 (by rfl) B.range (pa_cons pe_int pa_nil)) (blkOk_by (N := ["pen", "most", "size", "ties", "sparse", "one", "two", "cords", "k"]) (sc := defScope s__law_any_web) (by decide +kernel)) (fun _ _ _ _ _ => (pg_name (i := 8) nd rfl (.inl rfl))) (fun _ _ _ _ _ => pts_nil) (fun _ _ _ _ _ => (pe_c c__law_pick hr (by decide) (by rfl) (pa_cons (pv 0) (pa_cons (pe_lst (pa_cons pe_int (pa_cons pe_int (pa_cons pe_int (pa_cons pe_int (pa_cons pe_int (pa_cons pe_int (pa_cons pe_int pa_nil)))))))) pa_nil)))))
    (pss_one (ps_expr (pe_bmK PySem.F.plainAttrs_list PySem.F.slot_list_append PySem.F.type_list_append mt_append (pv 3) (pa_cons (pe_tup (pa_cons (pv 5) (pa_cons (pv 6) (pa_cons (pe_ix ix_listK (pv 7) pe_int (fun _ _ => rfl)) (pa_cons (pe_ix ix_listK (pv 7) pe_int (fun _ _ => rfl)) pa_nil))))) pa_nil)))))
    pss_nil)))))
    (pss_one (ps_ret (pe_tup (pa_cons (pv 2) (pa_cons (pe_c c__law_shuffled hr (by decide) (by rfl) (pa_cons (pv 0) (pa_cons (pv 3) pa_nil))) pa_nil)))))))), ?_⟩
    -- size, ties = 1 + draw(pen, most), []
    refine ⟨.ref p, rfl, .int most, rfl, ⟨p, c, n, most, rfl, hp, by omega, by omega, by omega, fun d H1 d0 d1 g1 => ⟨1, d, rfl, rfl, ?_⟩⟩⟩
    refine ⟨Nat.zero_le _, fun l hl => ?_⟩
    obtain ⟨s, es⟩ : ∃ s : Int, s = 1 + d := ⟨_, rfl⟩
    refine ⟨.int s, .ref l, by rw [es], ?_⟩
    have hs1 : 1 ≤ s := by omega
    have hs2 : s ≤ most := by omega
    clear es d0 d1
    have np := (g1.2 n hp).ne hl
    have hp1 := g1.2 n hp
    have L1 : Loc p c 0 H1 (upd H1 l (.lst [])) l [] := Loc.start Go.refl hl hl np.1 np.2
    -- sparse = 1 + draw(pen, 6)
    refine ⟨.ref p, rfl, ⟨p, c, n + 1 + 0, 6, rfl, L1.pen hp1, by omega, by decide, by decide, fun d H2 d0 d1 g2 => ⟨1, d, rfl, rfl, ?_⟩⟩⟩
    obtain ⟨sp, hsp⟩ : ∃ sp : Int, 1 + d = sp := ⟨_, rfl⟩
    have hsp1 : 1 ≤ sp ∧ sp ≤ 6 := by omega
    have L2 : Loc p c 1 H1 H2 l [] := L1.call g2
    -- for one in range(size)
    refine ⟨.int s, rfl, s, rfl, by omega, by omega, for_range (lo := 0) (n := s.toNat) (fun i σ H' => ∃ (vs : List V) (ts : List Tie) (u5 u6 u7 u8 : Option V), σ = [some (.ref p), some (.int most), some (.int s), some (.ref l), some (.int sp), u5, u6, u7, u8] ∧ AnyAt K p c H1 l s i 0 H' vs ts)
      ⟨[], [], none, none, none, none, by rw [← hsp]; rfl, L2, .nil, .nil, fun t ht => (by cases ht), Nat.zero_le _⟩ ?_ ?_⟩
    · rintro i σ H' hi ⟨vs, ts, u5, u6, u7, u8, rfl, A⟩
      -- for two in range(one + 1, size)
      refine ⟨.int (0 + (i : Int)), rfl, 0 + (i : Int), 1, rfl, rfl, .int s, rfl, 0 + (i : Int) + 1, s, rfl, ⟨by omega, by omega, by omega, by omega⟩, for_range (lo := 0 + (i : Int) + 1) (n := (s - (0 + (i : Int) + 1)).toNat) (fun j σ H' => ∃ (vs : List V) (ts : List Tie) (u6 u7 u8 : Option V), σ = [some (.ref p), some (.int most), some (.int s), some (.ref l), some (.int sp), some (.int (0 + (i : Int))), u6, u7, u8] ∧ AnyAt K p c H1 l s i j H' vs ts)
        ⟨vs, ts, u6, u7, u8, rfl, A⟩ ?_ ?_⟩
      · rintro j σ H' hj ⟨vs, ts, u6, u7, u8, rfl, A⟩
        have hvl := all_len A.all
        have hil : i ≤ 11 := by omega
        have hjl : j ≤ 11 := by omega
        have hlen := A.len
        have pen1 : Pen H' p c (n + 1 + (1 + 48 * i + 4 * j)) := A.loc.pen hp1
        -- what holds where nothing is tied
        have skip : ∀ (H2 : Hp) (k : Nat), Go p c k H' H2 → k ≤ 4 → AnyAt K p c H1 l s i (j + 1) H2 vs ts := fun H2 k g hk =>
          ⟨(A.loc.call g).mono (by omega), DpAll.ex (Ex.del g.1) A.all, A.ok, fun t ht => by
            rcases A.lt t ht with h | ⟨h1, h2⟩
            · exact .inl h
            · exact .inr ⟨h1, by omega⟩, by omega⟩
        refine ⟨.ref p, rfl, .int sp, rfl, ⟨p, c, _, sp, rfl, pen1, by omega, by omega, by omega, fun d2 H2 _ _ g2 => ⟨rfl, _, rfl, ite2 (fun _ => ?_) (fun _ => ⟨vs, ts, _, _, _, rfl, skip H2 1 g2 (by decide)⟩)⟩⟩⟩
        refine ⟨.ref p, rfl, ⟨p, c, _, 2, rfl, g2.2 _ pen1, by omega, by decide, by decide, fun d3 H3 _ _ g3 => ⟨rfl, _, rfl, ite2 (fun _ => ?_) (fun _ => ⟨vs, ts, _, _, _, rfl, skip H3 2 (g2.trans g3) (by decide)⟩)⟩⟩⟩
        have g23 : Go p c 2 H' H3 := g2.trans g3
        have L3 := A.loc.call g23
        have pen3 : Pen H3 p c (n + 1 + (1 + 48 * i + 4 * j + 2)) := L3.pen hp1
        -- cords = [pick(pen, [1, 1, 1, 1, 2, 3, 9]) for k in range(2)]
        refine ⟨2, rfl, by decide, by decide, fun D hD => ?_⟩
        have nD := pen3.ne hD
        refine lc_rangeG (lo := 0) (n := 2) (k := 1) (fun _ y _ => ∃ z : Int, y = .int z ∧ 1 ≤ z ∧ z ≤ 9) (fun _ _ _ _ _ h => h) rel_go hD (fun e => e.elim nD.1 nD.2) (by decide) (fun _ => rfl) ?_ ?_
        · intro k H4 hk g4 _ Q' q'
          refine ⟨.ref p, rfl, by show 7 ≤ sizeLine; decide, fun e he => ?_⟩
          have k5 : (upd H4 e (.lst [.int 1, .int 1, .int 1, .int 1, .int 2, .int 3, .int 9])) e = some (.lst [.int 1, .int 1, .int 1, .int 1, .int 2, .int 3, .int 9]) := upd_same
          have s5 : Same H4 (upd H4 e (.lst [.int 1, .int 1, .int 1, .int 1, .int 2, .int 3, .int 9])) := same_new he
          generalize upd H4 e (.lst [.int 1, .int 1, .int 1, .int 1, .int 2, .int 3, .int 9]) = H5 at k5 s5 ⊢
          refine ⟨p, c, e, n + 1 + (1 + 48 * i + 4 * j + 2) + 1 * k, _, rfl, (go_same g4 s5).2 _ pen3, by omega, SqL.of k5, (by show 0 < 7; decide), (by show 7 < 1000; decide), fun i2 v2 H6 hv2 g6 => ?_⟩
          obtain ⟨z, rfl, hz⟩ := int7 hv2 (R := fun z => 1 ≤ z ∧ z ≤ 9) (by decide) (by decide) (by decide) (by decide) (by decide) (by decide) (by decide)
          have g5 : Go p c 1 H4 H6 := by
            have q0 := (Go.of (p := p) (c := c) s5).trans g6
            rw [Nat.zero_add] at q0
            exact q0
          exact q' _ H6 g5 ⟨z, rfl, hz⟩
        · intro ys H4 hy hyl hz g4 _
          obtain ⟨z0, z1, rfl, hz01, hz09, hz11, hz19⟩ : ∃ z0 z1 : Int, ys = [.int z0, .int z1] ∧ 1 ≤ z0 ∧ z0 ≤ 9 ∧ 1 ≤ z1 ∧ z1 ≤ 9 := by
            match ys, hyl with
            | [y0, y1], _ =>
              obtain ⟨z0, rfl, h1, h2⟩ := hz 0 y0 rfl
              obtain ⟨z1, rfl, h3, h4⟩ := hz 1 y1 rfl
              exact ⟨z0, z1, rfl, h1, h2, h3, h4⟩
          have L4 := L3.call g4
          have g24 := g23.trans g4
          -- ties.append((one, two, cords[0], cords[1]))
          refine ⟨.ref l, rfl, .inl ⟨rfl, _, SqL.of L4.at_⟩, .int (0 + (i : Int)), rfl, .int (0 + (i : Int) + 1 + (j : Int)), rfl, .ref D, rfl, D, _, 0, .int z0, rfl, rfl, SqL.of hy, rfl, .ref D, rfl, D, _, 1, .int z1, rfl, rfl, SqL.of hy, rfl, by show 4 ≤ sizeLine; decide, fun t ht => ?_⟩
          have ntl : t ≠ l := fun e => by
            rw [e, L4.at_] at ht
            cases ht
          have k5 : (upd H4 t (.tup [.int (0 + (i : Int)), .int (0 + (i : Int) + 1 + (j : Int)), .int z0, .int z1])) t = some (.tup [.int (0 + (i : Int)), .int (0 + (i : Int) + 1 + (j : Int)), .int z0, .int z1]) := upd_same
          have s5 : Same H4 (upd H4 t (.tup [.int (0 + (i : Int)), .int (0 + (i : Int) + 1 + (j : Int)), .int z0, .int z1])) := same_new ht
          generalize upd H4 t (.tup [.int (0 + (i : Int)), .int (0 + (i : Int) + 1 + (j : Int)), .int z0, .int z1]) = H5 at k5 s5 ⊢
          have L5 := L4.pure s5
          refine ⟨l, vs, .ref t, rfl, rfl, L5.at_, Nat.lt_of_le_of_lt (by omega : vs.length ≤ 1000) (by decide), vs ++ [.ref t], ts ++ [⟨0 + (i : Int), 0 + (i : Int) + 1 + (j : Int), z0, z1⟩], _, _, _, rfl, ?_⟩
          refine ⟨(L5.set (ys := vs ++ [.ref t])).mono (by omega), ?_, ?_, ?_, ?_⟩
          · rw [del_upd]
            refine all_snoc (DpAll.ex (Ex.del (g24.1.trans (Ex.of s5))) A.all) (is_t4 ?_)
            rw [del_ne ntl]
            exact k5
          · refine A.ok.snoc ⟨by show 0 ≤ 0 + (i : Int); omega, by show 0 + (i : Int) < 0 + (i : Int) + 1 + (j : Int); omega, by show 0 + (i : Int) + 1 + (j : Int) < s; omega, hz01, hz09, hz11, hz19⟩ fun x hx e => ?_
            have e1 : x.a = 0 + (i : Int) := congrArg Prod.fst e
            have e2 : x.b = 0 + (i : Int) + 1 + (j : Int) := congrArg Prod.snd e
            rcases A.lt x hx with h | ⟨h1, h2⟩
            · omega
            · omega
          · intro x hx
            rcases List.mem_append.mp hx with hx | hx
            · rcases A.lt x hx with h | ⟨h1, h2⟩
              · exact .inl h
              · exact .inr ⟨h1, by omega⟩
            · rw [List.mem_singleton] at hx
              rw [hx]
              exact .inr ⟨by show 0 + (i : Int) = (i : Int); omega, by show 0 + (i : Int) + 1 + (j : Int) < (i : Int) + 1 + ((j + 1 : Nat) : Int); omega⟩
          · rw [List.length_append]
            show ts.length + 1 ≤ _
            omega
      · rintro σ H' ⟨vs, ts, u6, u7, u8, rfl, A⟩
        have hlen := A.len
        refine ⟨vs, ts, _, _, _, _, rfl, A.loc.mono (by omega), A.all, A.ok, fun t ht => .inl ?_, by omega⟩
        have hb := (A.ok.all t ht).bs
        rcases A.lt t ht with h | ⟨h1, h2⟩
        · omega
        · omega
    · rintro σ H' ⟨vs, ts, u5, u6, u7, u8, rfl, A⟩
      have hvl := all_len A.all
      have hlen := A.len
      have hs12 : s.toNat ≤ 12 := by omega
      have pen1 : Pen H' p c (n + 1 + (1 + 48 * s.toNat + 4 * 0)) := A.loc.pen hp1
      refine ⟨.int s, rfl, .ref p, rfl, .ref l, rfl, ⟨p, c, l, _, vs, rfl, pen1, by omega, SqL.of A.loc.at_, by omega, fun r5 zs H5 _ hzs pm5 g5 => ?_⟩⟩
      have hA5 : All K H5 vs ts := DpAll.ex (del_ex.trans g5.1) A.all
      obtain ⟨ts', p1, p2⟩ := all_perm pm5 hA5
      refine ⟨by show 2 ≤ sizeLine; decide, fun e he => ?_⟩
      exact q _ _ s ts' ((go_same ((g1.trans A.loc.done).trans g5) (same_new he)).mono (by omega)) ⟨e, .ref r5, rfl, upd_same, Ls.ex (Ex.new he) ⟨r5, zs, rfl, hzs, p2⟩⟩ hs1 hs2 (A.ok.perm p1) (by rw [p1.length_eq]; omega)
end
end Gb
set_option maxRecDepth 100000
set_option maxHeartbeats 4000000
namespace Gb
open PySem PySem.Spec PyProof.Rows L2
open PySem.W (Datum Tup T4)
section
variable {P : Program} {w : World} {K : PySem.W.Frag} {mg : Str → Option Value} {base : Heap}
theorem sc__law_number : FnScope ["pen", "far", "found"] ["pen", "far"] (defScope s__law_number) := ⟨rfl, rfl, rfl, by decide +kernel, rfl, by decide +kernel, by decide +kernel⟩
theorem ok__law_number (D : Dn K mg "_law_number" s__law_number ["pen", "far"]) (B : Bt mg) (c__law_draw : Cl P w K mg base 1 "_law_draw" spDraw) (c__law_pick : Cl P w K mg base 2 "_law_pick" (spPick K)) (c__law_great : Cl P w K mg base 2 "_law_great" spGreat) : Cl P w K mg base 3 "_law_number" (spNum K) := by
  refine cl_of D sc__law_number (fun vs H Q E h => ?_) (fun cdv f A outer s H vs Q E hr h => ?_)
  · obtain ⟨p, c, n, far, rfl, _⟩ := h
    rfl
  · obtain ⟨p, c, n, far, rfl, hp, hn, hf0, hf1, q⟩ := h
    have nd := sc__law_number.nd
    refine ⟨_, (pss_cons (ps_set (i := 2) nd rfl (.inl rfl) (pe_c c__law_great hr (by decide) (by rfl) (pa_cons (pv 0) (pa_cons (pe_ix ix_listK (pe_lst (pa_cons pe_int (pa_cons pe_int (pa_cons pe_int (pa_cons pe_int (pa_cons (pv 1) pa_nil)))))) (pe_c c__law_draw hr (by decide) (by rfl) (pa_cons (pv 0) (pa_cons pe_int pa_nil))) (fun _ _ => rfl)) pa_nil))))
    (pss_one (ps_ret (pe_op op_mul (pv 2) (pe_c c__law_pick hr (by decide) (by rfl) (pa_cons (pv 0) (pa_cons (pe_lst (pa_cons pe_int (pa_cons (pe_un un_neg pe_int) (pa_cons pe_int (pa_cons pe_int pa_nil))))) pa_nil))))))), ?_⟩
    refine ⟨.ref p, rfl, .int (far : Int), rfl, by show 5 ≤ sizeLine; decide, fun l hl => ?_⟩
    have k1 : (upd H l (.lst [.int 1, .int 1, .int 1, .int 2, .int (far : Int)])) l = some (.lst [.int 1, .int 1, .int 1, .int 2, .int (far : Int)]) := upd_same
    have s1 : Same H (upd H l (.lst [.int 1, .int 1, .int 1, .int 2, .int (far : Int)])) := same_new hl
    generalize upd H l (.lst [.int 1, .int 1, .int 1, .int 2, .int (far : Int)]) = H1 at k1 s1 ⊢
    have g1 : Go p c 0 H H1 := Go.of s1
    refine ⟨.ref p, rfl, ⟨p, c, n, 5, rfl, g1.2 n hp, by omega, by decide, by decide, fun d H2 d0 d1 g2 => ?_⟩⟩
    have g3 := g1.trans g2
    obtain ⟨k, hk1, hk2⟩ : ∃ k : Nat, atI ([.int 1, .int 1, .int 1, .int 2, .int (far : Int)] : List V) d = some (.int (k : Int)) ∧ k ≤ far := by
      have h : d = 0 ∨ d = 1 ∨ d = 2 ∨ d = 3 ∨ d = 4 := by omega
      rcases h with rfl | rfl | rfl | rfl | rfl
      · exact ⟨1, rfl, by omega⟩
      · exact ⟨1, rfl, by omega⟩
      · exact ⟨1, rfl, by omega⟩
      · exact ⟨2, rfl, hf0⟩
      · exact ⟨far, rfl, Nat.le_refl _⟩
    refine ⟨l, _, d, .int (k : Int), rfl, rfl, SqL.of (g2.1 _ _ k1 trivial), hk1, ?_⟩
    refine ⟨p, c, _, k, rfl, g3.2 n hp, by omega, by omega, fun r H3 hr g4 => ?_⟩
    have g5 := g3.trans g4
    refine ⟨.int (r : Int), rfl, .ref p, rfl, ⟨1, rfl, by show 4 ≤ sizeLine; decide, fun l2 hl2 => ?_⟩⟩
    have k4 : (upd H3 l2 (.lst [.int 1, .int (-1), .int 1, .int 0])) l2 = some (.lst [.int 1, .int (-1), .int 1, .int 0]) := upd_same
    have s4 : Same H3 (upd H3 l2 (.lst [.int 1, .int (-1), .int 1, .int 0])) := same_new hl2
    generalize upd H3 l2 (.lst [.int 1, .int (-1), .int 1, .int 0]) = H4 at k4 s4 ⊢
    have g6 := go_same g5 s4
    refine ⟨p, c, l2, _, _, rfl, g6.2 n hp, by omega, SqL.of k4, (by show 0 < 4; decide), (by show 4 < 1000; decide), fun i v H5 hv g7 => ?_⟩
    obtain ⟨z, rfl, hz⟩ := int4 hv (R := fun z => z = 1 ∨ z = -1 ∨ z = 0) (.inl rfl) (.inr (.inl rfl)) (.inl rfl) (.inr (.inr rfl))
    have hpow : (10 : Nat) ^ k ≤ 10 ^ far := Nat.pow_le_pow_right (by decide) hk2
    have hrf : (r : Int) < 10 ^ far := by
      have e : ((10 ^ far : Nat) : Int) = (10 : Int) ^ far := by
        rw [Int.natCast_pow]
        rfl
      omega
    refine ⟨(r : Int), z, rfl, rfl, .inr ⟨by omega, by omega⟩, q _ H5 ((g6.trans g7).mono (by omega)) ?_ ?_⟩
    · rcases hz with rfl | rfl | rfl <;> omega
    · rcases hz with rfl | rfl | rfl <;> omega
end
end Gb
set_option maxRecDepth 100000
set_option maxHeartbeats 4000000
namespace Gb
open PySem PySem.Spec PyProof.Rows L2
open PySem.W (Datum Tup T4)
section
variable {P : Program} {w : World} {K : PySem.W.Frag} {mg : Str → Option Value} {base : Heap}
theorem sc__law_standing : FnScope ["pen", "size", "far", "k", "post"] ["pen", "size", "far"] (defScope s__law_standing) := ⟨rfl, rfl, rfl, by decide +kernel, rfl, by decide +kernel, by decide +kernel⟩
theorem ok__law_standing (D : Dn K mg "_law_standing" s__law_standing ["pen", "size", "far"]) (B : Bt mg) (c__law_number : Cl P w K mg base 3 "_law_number" (spNum K)) : Cl P w K mg base 4 "_law_standing" (spStand K) := by
  refine cl_of D sc__law_standing (fun vs H Q E h => ?_) (fun cdv f A outer s H vs Q E hr h => ?_)
  · obtain ⟨p, c, m, far, s, rfl, _⟩ := h
    rfl
  · obtain ⟨p, c, m, far, s, rfl, hp, hn, hs0, hs1, hf0, hf1, q⟩ := h
    have nd := sc__law_standing.nd
    refine ⟨_, (pss_one (ps_ret (pe_callTy call_tupK (by rfl) B.tuple (by decide +kernel) (pa_cons (pe_lc (own := [("k", 3)]) rfl nd (pi_range1 (by rfl) B.range (pa_cons pe_int pa_nil)) (blkOk_by (N := ["pen", "size", "far", "k", "post"]) (sc := defScope s__law_standing) (by decide +kernel)) (fun _ _ _ _ _ => (pg_name (i := 3) nd rfl (.inl rfl))) (fun _ _ _ _ _ => pts_nil) (fun _ _ _ _ _ => (pe_callTy call_tupK (by rfl) B.tuple (by decide +kernel) (pa_cons (pe_lc (own := [("post", 4)]) rfl nd (pi_range1 (by rfl) B.range (pa_cons (pv 1) pa_nil)) (blkOk_by (N := ["pen", "size", "far", "k", "post"]) (sc := (relS _ (defScope s__law_standing))) (by decide +kernel)) (fun _ _ _ _ _ => (pg_name (i := 4) nd rfl (.inl rfl))) (fun _ _ _ _ _ => pts_nil) (fun _ _ _ _ _ => (pe_c c__law_number hr (by decide) (by rfl) (pa_cons (pv 0) (pa_cons (pv 2) pa_nil))))) pa_nil)))) pa_nil)))), ?_⟩
    refine ⟨2, rfl, by decide, by decide, fun D hD => ?_⟩
    have nD := hp.ne hD
    refine lc_rangeG (lo := 0) (n := 2) (k := 1400) (fun _ y Hx => ∃ (a : Addr) (ns : List Int), y = .ref a ∧ Hx a = some (rowH ns) ∧ (ns.length : Int) = s ∧ ∀ k ∈ ns, -(10 ^ far) < k ∧ k < 10 ^ far) ?_ rel_go hD (fun e => e.elim nD.1 nD.2) (by decide) (fun _ => rfl) ?_ ?_
    · rintro i y H1 H2 e ⟨a, ns, rfl, h1, h2, h3⟩
      exact ⟨a, ns, rfl, e _ _ h1 trivial, h2, h3⟩
    · intro i H1 hi g1 hDs Q' q'
      have hp1 := g1.2 _ hp
      refine ⟨.int s, rfl, s, rfl, by omega, by omega, fun D2 hD2 => ?_⟩
      have nD2 := hp1.ne hD2
      refine lc_rangeG (lo := 0) (n := s.toNat) (k := 110) (fun _ y _ => ∃ z : Int, y = .int z ∧ -(10 ^ far) < z ∧ z < 10 ^ far) (fun _ _ _ _ _ h => h) rel_go hD2 (fun e => e.elim nD2.1 nD2.2) (by omega) (fun _ => rfl) ?_ ?_
      · intro j H2 hj g2 _ Q2 q2
        exact ⟨.ref p, rfl, .int (far : Int), rfl, ⟨p, c, _, far, rfl, g2.2 _ hp1, by omega, hf0, hf1, fun z H3 g3 h1 h2 => q2 _ H3 g3 ⟨z, rfl, h1, h2⟩⟩⟩
      · intro ys H2 hy hyl hz g2 _
        obtain ⟨ns, rfl, hns⟩ : ∃ ns : List Int, ys = ns.map V.int ∧ ∀ k ∈ ns, -(10 ^ far) < k ∧ k < 10 ^ far := by
          have : ∀ ys : List V, (∀ (i : Nat) (y : V), ys[i]? = some y → ∃ z : Int, y = .int z ∧ -(10 ^ far) < z ∧ z < 10 ^ far) → ∃ ns : List Int, ys = ns.map V.int ∧ ∀ k ∈ ns, -(10 ^ far) < k ∧ k < 10 ^ far := by
            intro ys
            induction ys with
            | nil => exact fun _ => ⟨[], rfl, fun k hk => by cases hk⟩
            | cons y r ih =>
              intro h
              obtain ⟨z, rfl, h1, h2⟩ := h 0 y rfl
              obtain ⟨ns, rfl, h3⟩ := ih fun i y e => h (i + 1) y e
              refine ⟨z :: ns, rfl, fun k hk => ?_⟩
              rcases List.mem_cons.mp hk with rfl | hk
              · exact ⟨h1, h2⟩
              · exact h3 k hk
          exact this ys hz
        rw [List.length_map] at hyl
        refine ⟨D2, _, rfl, .inl ⟨SqL.of hy, fun t ht => ?_⟩⟩
        obtain ⟨u, hu⟩ := hDs
        have ntD : t ≠ D := fun e => by
          rw [e, g2.1 _ _ hu trivial] at ht
          cases ht
        refine q' _ _ ((g2.trans (k := 0) (Go.new ht)).mono (by omega)) ⟨t, ns, rfl, ?_, by omega, hns⟩
        rw [del_ne ntD]
        exact upd_same
    · intro ys H1 hy hyl hz g1 _
      match ys, hyl with
      | [y0, y1], _ =>
        obtain ⟨a, o, rfl, ha, hol, ho⟩ := hz 0 y0 rfl
        obtain ⟨b, nn, rfl, hb, hnl, hnn⟩ := hz 1 y1 rfl
        refine ⟨D, _, rfl, .inl ⟨SqL.of hy, fun t ht => ?_⟩⟩
        have k2 : (upd H1 t (.tup [.ref a, .ref b])) t = some (.tup [.ref a, .ref b]) := upd_same
        have s2 : Same H1 (upd H1 t (.tup [.ref a, .ref b])) := same_new ht
        generalize upd H1 t (.tup [.ref a, .ref b]) = H2 at k2 s2 ⊢
        refine q _ H2 o nn ((go_same g1 s2).mono (by decide)) ⟨t, a, b, rfl, k2, s2 _ _ ha, s2 _ _ hb⟩ hol hnl fun k hk => ?_
        rcases List.mem_append.mp hk with h | h
        · exact ho k h
        · exact hnn k h
end
end Gb
set_option maxRecDepth 100000
set_option maxHeartbeats 4000000
/-! What a web tells; standings. -/
namespace Fv
open PySem PySem.Spec PyProof.Rows L2 Gb
open PySem.W (T4)
theorem sc_Web___len__ : FnScope ["self"] ["self"] (defScope s_Web___len__) := ⟨rfl, rfl, rfl, by decide +kernel, rfl, by decide +kernel, by decide +kernel⟩
theorem ok_Web_len {F : Fx} (D : DnM F.K F.C "__len__" "Web.__len__" s_Web___len__ ["self"]) (W : Wc F.K F.C) (bz : Bz F.mg) : ClM0 F 1 F.C "__len__" (spLenW F.K F.C) := by
  refine clm0_of D W.cls sc_Web___len__ (fun vs H Q E h => ?_) (fun cdv f A outer s H vs Q E hr h => ?_)
  · obtain ⟨x, s, M, rfl, _⟩ := h
    rfl
  · obtain ⟨x, s, M, rfl, hW, q⟩ := h
    have nd := sc_Web___len__.nd
    refine ⟨_, (pss_one (ps_ret (pe_callB call_lenK (by rfl) bz.len PySem.boot_len (pa_cons (pe_fldK (pv 0) rfl) pa_nil)))), ?_⟩
    obtain ⟨dx, r, t, h1, h2, h3, h4⟩ := hW.ex
    obtain ⟨a, xs, e, g1, g2, _⟩ := dd_tup h3
    cases e
    have hl : xs.length = s := by
      rw [g2.len]
      unfold rowsD
      rw [List.length_map, List.length_range]
    refine ⟨.ref x, rfl, x, F.C, dx, _, .ref r, rfl, h1, W.cls, W.rows, rfl, r, xs, rfl, .inr g1, ?_⟩
    rw [hl]
    exact q
def fTies : FB := fun ds n _ Q => ∃ s M, ds = [.web s M] ∧ Q (.py (.list ((tiesW M s).map tieD))) n
theorem sc_Web_ties : FnScope ["self"] ["self"] (defScope s_Web_ties) := ⟨rfl, rfl, rfl, by decide +kernel, rfl, by decide +kernel, by decide +kernel⟩
theorem ok_Web_ties {F : Fx} (D : DnM F.K F.C "ties" "Web.ties" s_Web_ties ["self"]) (W : Wc F.K F.C) (bz : Bz F.mg)  : ClMB F 1 "ties" true fTies := by
  refine clm_b D W.cls sc_Web_ties (fun ds n EX QD h => ?_) (fun fa cdv A outer s H E pn B0 hr tk po => ?_)
  · obtain ⟨s, M, rfl, _⟩ := h
    rfl
  · have nd := sc_Web_ties.nd
    refine ⟨_, _, (bss_one (bs_retN (bn_list (by rfl) bz.list (BE.l (be_ft W (be_nm 0 (pv 0))))))), ?_⟩
    rintro _ n EX QD ⟨s, M, rfl, q⟩
    simp only [startB, Nat.reduceAdd, Nat.reduceSub, List.replicate_succ, List.replicate_zero, wLc, wLc2, wISeq, wipeB, List.set_cons_succ, List.set_cons_zero, wgTup, wgCons, wgNil, wgNm, Bool.not_true, Bool.not_false, Bool.false_eq_true, if_true, if_false, List.map_cons, List.map_nil, List.length_cons, List.length_nil, List.cons_append, List.nil_append, wName, List.getElem?_cons_zero, List.getElem?_cons_succ, wC, wOp, wCall, wACons, wANil, wAndV, wOrV, wNotV, wIsi, wIsi2, wCmp, wChain, wChain3, wOfT, wIfE, wAnd, wOr, wNotT, bInt, bEq, bNe, bIsN, bNotN, bIn, bNotIn, wCall1, bLen, bAll, bAny, bSum, sRet, sRetN, sRetO, sIf, sSeq, sNil, sExpr, sSet, sAsg, sPar, wVE, wVN, wOfN, wOfE, wTup, wLst, pyAll, wListOf, wFt]
    exact q
abbrev intsD (xs : List Int) : List PyData := xs.map PyData.int
/-- the cords are no more than nine -/
def M9 (M : Nat → Nat → Int) : Prop := ∀ i j, 0 ≤ M i j ∧ M i j ≤ 9
theorem atI_ints {xs : List Int} {i : Nat} (h : i < xs.length) : L2.atI (intsD xs) (i : Int) = some (.int (xs.getD i 0)) :=
  L2.atI_nat (by rw [List.getElem?_map, getD_some h]; rfl)
theorem flat_zero (s : Nat) : (List.replicate s [PyData.int 0]).flatten = intsD (List.replicate s 0) := by
  induction s with
  | zero => rfl
  | succ n ih =>
    rw [List.replicate_succ, List.flatten_cons, ih]
    rfl
theorem get_ints {xs : List Int} {i : Nat} (h : i < xs.length) : (intsD xs)[i]? = some (.int (xs.getD i 0)) := by
  rw [List.getElem?_map, getD_some h]
  rfl
theorem set_ints {xs : List Int} {i : Nat} {z : Int} : (intsD xs).set i (.int z) = intsD (xs.set i z) := by
  rw [intsD, intsD, List.map_set]
abbrev stD2 (o n : List Int) : PyData := .tuple [.tuple (intsD o), .tuple (intsD n)]
/-! ### standings -/
def shapeS (s : Nat) : PyData → Bool
  | .tuple [.tuple a, .tuple b] => decide (a.length = s) && decide (b.length = s)
  | _ => false
def numsS : PyData → Bool
  | .tuple [.tuple a, .tuple b] => a.all (isBtw (-(10 ^ 30)) (10 ^ 30)) && b.all (isBtw (-(10 ^ 30)) (10 ^ 30))
  | _ => false
/-- refused, or gone on with -/
def needS (s : Nat) (d : PyData) (EX : XQ) (n : Nat) (k : Prop) : Prop :=
  if shapeS s d = true then (if numsS d = true then k else EX (xPart "NoStanding" "numbers") n) else EX (xPart "NoStanding" "standing") n
def fNeedStanding : FB := fun ds n EX Q => ∃ (s : Nat) (M : Nat → Nat → Int) (d : PyData), ds = [.web s M, .py d] ∧ s ≤ 12 ∧ needS s d EX n (Q (.py .none) n)
theorem len2 {α : Type} {ds : List α} (h : ds.length = 2) : ∃ a b, ds = [a, b] := by
  match ds, h with
  | [a, b], _ => exact ⟨a, b, rfl⟩
def rowOk (s : Nat) : PyData → Bool
  | .tuple a => decide (a.length = s)
  | _ => false
theorem shapeS_two (s : Nat) (a b : PyData) : shapeS s (.tuple [a, b]) = (rowOk s a && rowOk s b) := by
  cases a <;> cases b <;> simp [shapeS, rowOk]
theorem shapeS_not {s : Nat} {ds : List PyData} (h : ds.length ≠ 2) : shapeS s (.tuple ds) = false := by
  unfold shapeS
  split
  · rename_i e
    cases e
    exact absurd rfl h
  · rfl
def fBear : FB := fun ds n _ Q => ∃ xs ys, ds = [.py (.tuple [.tuple xs, .tuple ys])] ∧ xs.length + ys.length ≤ 100000 ∧ Q (.py (.bool (numsS (.tuple [.tuple xs, .tuple ys])))) n
theorem sc_are_bearable : FnScope ["rows", "row", "number"] ["rows"] (defScope s_are_bearable) := ⟨rfl, rfl, rfl, by decide +kernel, rfl, by decide +kernel, by decide +kernel⟩
theorem ok_are_bearable {F : Fx} (D : Dn F.K F.mg "are_bearable" s_are_bearable ["rows"]) (bz : Bz F.mg) (c_is_between : ClB F 2 "is_between" false fBetween) (v_GREATEST : ∃ u, F.mg "GREATEST" = some u ∧ RelV (.int (10 ^ 30)) u) : ClB F 3 "are_bearable" false fBear := by
  refine cl_b D sc_are_bearable (fun ds n EX QD h => ?_) (fun fa cdv A outer s H E pn B0 hr tk po => ?_)
  · obtain ⟨xs, ys, rfl, _⟩ := h
    rfl
  · have nd := sc_are_bearable.nd
    refine ⟨_, _, (bss_one (bs_ret (be_all rfl (by rfl) bz.all (BE.f (BN.e (bn_lc2 (own := [("row", 1), ("number", 2)]) (vs1 := [2]) rfl nd (bi_seq (be_nm 0 (pv 0))) (blkOk_by (N := ["rows", "row", "number"]) (sc := defScope s_are_bearable) (by decide +kernel)) (by decide) (fun _ _ _ _ _ => (bg_nm (pg_name (i := 1) nd rfl (.inl rfl)))) (fun _ _ _ _ _ => bts_nil) (fun _ _ _ _ _ => (bi_seq (be_nm 1 (pv 1)))) (fun _ _ _ _ _ => (bg_nm (pg_name (i := 2) nd rfl (.inl rfl)))) (fun _ _ _ _ _ => bts_nil) (fun _ _ _ _ _ => (be_call0 c_is_between hr (by decide) (by rfl) (ba_cons (be_nm 2 (pv 2)) (ba_cons (be_neg (be_gi (pe_gv (by rfl) v_GREATEST))) (ba_cons (be_gi (pe_gv (by rfl) v_GREATEST)) ba_nil))))))))))), ?_⟩
    rintro _ n EX QD ⟨xs, ys, rfl, hl, q⟩
    simp only [startB, Nat.reduceAdd, Nat.reduceSub, List.replicate_succ, List.replicate_zero, wLc, wLc2, wISeq, wipeB, List.set_cons_succ, List.set_cons_zero, wgTup, wgCons, wgNil, wgNm, Bool.not_true, Bool.not_false, Bool.false_eq_true, if_true, if_false, List.map_cons, List.map_nil, List.length_cons, List.length_nil, List.cons_append, List.nil_append, wName, List.getElem?_cons_zero, List.getElem?_cons_succ, wC, wOp, wCall, wACons, wANil, wAndV, wOrV, wNotV, wIsi, wIsi2, wCmp, wChain, wChain3, wOfT, wIfE, wAnd, wOr, wNotT, bInt, bEq, bNe, bIsN, bNotN, bIn, bNotIn, wCall1, bLen, bAll, bAny, bSum, sRet, sRetN, sRetO, sIf, sSeq, sNil, sExpr, sSet, sAsg, sPar, wVE, wVN, wOfN, wOfE, wTup, wLst, pyAll, fBetween]
    refine lc2_map (fun z => match z with
      | .py (.tuple xs) => xs.map fun x => .bool (isBtw (-(10 ^ 30)) (10 ^ 30) x)
      | _ => []) _ _ ?_ (fun z hz acc P R hb p => ?_) ?_
    · show 0 + (xs.map _ ++ (ys.map _ ++ [])).length ≤ 100000
      rw [List.length_append, List.length_append, List.length_map, List.length_map, List.length_nil]
      omega
    · obtain ⟨zs, rfl⟩ : ∃ zs, z = .py (.tuple zs) := by
        simp only [List.mem_cons, List.not_mem_nil, or_false] at hz
        rcases hz with rfl | rfl
        · exact ⟨_, rfl⟩
        · exact ⟨_, rfl⟩
      simp only [startB, Nat.reduceAdd, Nat.reduceSub, List.replicate_succ, List.replicate_zero, wLc, wLc2, wISeq, wipeB, List.set_cons_succ, List.set_cons_zero, wgTup, wgCons, wgNil, wgNm, Bool.not_true, Bool.not_false, Bool.false_eq_true, if_true, if_false, List.map_cons, List.map_nil, List.length_cons, List.length_nil, List.cons_append, List.nil_append, wName, List.getElem?_cons_zero, List.getElem?_cons_succ, wC, wOp, wCall, wACons, wANil, wAndV, wOrV, wNotV, wIsi, wIsi2, wCmp, wChain, wChain3, wOfT, wIfE, wAnd, wOr, wNotT, bInt, bEq, bNe, bIsN, bNotN, bIn, bNotIn, wCall1, bLen, bAll, bAny, bSum, sRet, sRetN, sRetO, sIf, sSeq, sNil, sExpr, sSet, sAsg, sPar, wVE, wVN, wOfN, wOfE, wTup, wLst, pyAll, wYes]
      refine ⟨by rw [List.length_map]; rw [List.length_map] at hb; exact hb, ?_⟩
      refine lc_map (fun z => match z with
        | .py d => .bool (isBtw (-(10 ^ 30)) (10 ^ 30) d)
        | _ => .none) _ _ (fun z hz P R p => ?_) ?_
      · obtain ⟨w, _, rfl⟩ := List.mem_map.mp hz
        simp only [startB, Nat.reduceAdd, Nat.reduceSub, List.replicate_succ, List.replicate_zero, wLc, wLc2, wISeq, wipeB, List.set_cons_succ, List.set_cons_zero, wgTup, wgCons, wgNil, wgNm, Bool.not_true, Bool.not_false, Bool.false_eq_true, if_true, if_false, List.map_cons, List.map_nil, List.length_cons, List.length_nil, List.cons_append, List.nil_append, wName, List.getElem?_cons_zero, List.getElem?_cons_succ, wC, wOp, wCall, wACons, wANil, wAndV, wOrV, wNotV, wIsi, wIsi2, wCmp, wChain, wChain3, wOfT, wIfE, wAnd, wOr, wNotT, bInt, bEq, bNe, bIsN, bNotN, bIn, bNotIn, wCall1, bLen, bAll, bAny, bSum, sRet, sRetN, sRetO, sIf, sSeq, sNil, sExpr, sSet, sAsg, sPar, wVE, wVN, wOfN, wOfE, wTup, wLst, pyAll, wYes, wNeg]
        exact ⟨w, _, _, rfl, p⟩
      · rw [List.map_map]
        exact p
    · show match blsOf ([] ++ (xs.map _ ++ (ys.map _ ++ []))) with
        | some ns => _
        | none => False
      rw [List.nil_append, List.append_nil, ← List.map_append, blsOf_wh]
      simp only [List.all_map]
      have e : ((xs ++ ys).all (id ∘ isBtw (-(10 ^ 30)) (10 ^ 30))) = numsS (.tuple [.tuple xs, .tuple ys]) := by
        rw [List.all_append]
        rfl
      rw [e]
      exact q
/-- what is wrong with it -/
def faultS (s : Nat) (d : PyData) : PyData := if shapeS s d = true then (if numsS d = true then .none else .str "numbers") else .str "standing"
def fFault : FB := fun ds n _ Q => ∃ (s : Nat) (M : Nat → Nat → Int) (d : PyData), ds = [.web s M, .py d] ∧ s ≤ 12 ∧ Q (.py (faultS s d)) n
theorem sc_standing_fault : FnScope ["web", "thing", "row"] ["web", "thing"] (defScope s_standing_fault) := ⟨rfl, rfl, rfl, by decide +kernel, rfl, by decide +kernel, by decide +kernel⟩
theorem ok_standing_fault {F : Fx} (D : Dn F.K F.mg "standing_fault" s_standing_fault ["web", "thing"]) (bz : Bz F.mg) (c_len : ClM0 F 1 F.C "__len__" (spLenW F.K F.C)) (c_are_bearable : ClB F 3 "are_bearable" false fBear) : ClB F 4 "standing_fault" false fFault := by
  refine cl_b D sc_standing_fault (fun ds n EX QD h => ?_) (fun fa cdv A outer s H E pn B0 hr tk po => ?_)
  · obtain ⟨s, M, d, rfl, _⟩ := h
    rfl
  · have nd := sc_standing_fault.nd
    refine ⟨_, _, (bss_cons (bs_if (BW.bt (bw_or (bt_not (bt_val (be_isi (T := "tuple") (by decide) (by rfl) bz.isinstance (BE.f (be_nm 1 (pv 1))) (pe_bltn (v := .ty "tuple") (u := .type "tuple") (by rfl) bz.tuple (by decide +kernel) rfl)))) (bw_or1 (bt_ne hr.units (BE.f (be_len (by rfl) bz.len (BE.f (be_nm 1 (pv 1))))) (BE.f be_int)))))
    (bss_one (bs_ret be_str))
    bss_nil)
    (bss_cons (bs_if (bt_not (bt_val (be_all rfl (by rfl) bz.all (BE.f (BN.e (bn_lc (own := [("row", 2)]) rfl nd (bi_seq (be_nm 1 (pv 1))) (blkOk_by (N := ["web", "thing", "row"]) (sc := defScope s_standing_fault) (by decide +kernel)) (fun _ _ _ _ _ => (bg_nm (pg_name (i := 2) nd rfl (.inl rfl)))) (fun _ _ _ _ _ => bts_nil) (fun _ _ _ _ _ => (be_and (be_isi (T := "tuple") (by decide) (by rfl) bz.isinstance (BE.f (be_nm 2 (pv 2))) (pe_bltn (v := .ty "tuple") (u := .type "tuple") (by rfl) bz.tuple (by decide +kernel) rfl)) (be_one (be_eq (by exact hr.units) (BE.f (be_len (by rfl) bz.len (BE.f (be_nm 2 (pv 2))))) (BE.f (be_lenW c_len (by exact hr) (by decide) (by rfl) bz.len (be_nm 0 (pv 0)) rfl rfl rfl rfl)) rfl))))))))))
    (bss_one (bs_ret be_str))
    bss_nil)
    (bss_cons (bs_if (bt_not (bt_val (be_call c_are_bearable hr (by decide) (by rfl) tk (ba_cons (be_nm 1 (pv 1)) ba_nil))))
    (bss_one (bs_ret be_str))
    bss_nil)
    (bss_one (bs_ret be_non))))), ?_⟩
    rintro _ n EX QD ⟨s, M, d, rfl, hs, q⟩
    simp only [startB, Nat.reduceAdd, Nat.reduceSub, List.replicate_succ, List.replicate_zero, wLc, wLc2, wISeq, wipeB, List.set_cons_succ, List.set_cons_zero, wgTup, wgCons, wgNil, wgNm, Bool.not_true, Bool.not_false, Bool.false_eq_true, if_true, if_false, List.map_cons, List.map_nil, List.length_cons, List.length_nil, List.cons_append, List.nil_append, wName, List.getElem?_cons_zero, List.getElem?_cons_succ, wC, wOp, wCall, wACons, wANil, wAndV, wOrV, wNotV, wIsi, wIsi2, wCmp, wChain, wChain3, wOfT, wIfE, wAnd, wOr, wNotT, bInt, bEq, bNe, bIsN, bNotN, bIn, bNotIn, wCall1, bLen, bAll, bAny, bSum, sRet, sRetN, sRetO, sIf, sSeq, sNil, sExpr, sSet, sAsg, sPar, wVE, wVN, wOfN, wOfE, wTup, wLst, pyAll, wLenW, fBear, isB_tuple]
    cases d with
    | tuple ds =>
      simp only [Bool.not_true, Bool.false_eq_true, if_false, eqv_int]
      refine ⟨shaped_int _, shaped_int _, ?_⟩
      by_cases h2 : (ds.length : Int) = 2
      · obtain ⟨a, b, rfl⟩ := len2 (ds := ds) (by omega)
        rw [decide_eq_true h2]
        simp only [Bool.not_true, Bool.false_eq_true, if_false]
        refine lc_map (fun z => match z with
          | .py d => .bool (rowOk s d)
          | _ => .none) _ _ (fun z hz P R p => ?_) ?_
        · obtain ⟨w, _, rfl⟩ := List.mem_map.mp hz
          simp only [startB, Nat.reduceAdd, Nat.reduceSub, List.replicate_succ, List.replicate_zero, wLc, wLc2, wISeq, wipeB, List.set_cons_succ, List.set_cons_zero, wgTup, wgCons, wgNil, wgNm, Bool.not_true, Bool.not_false, Bool.false_eq_true, if_true, if_false, List.map_cons, List.map_nil, List.length_cons, List.length_nil, List.cons_append, List.nil_append, wName, List.getElem?_cons_zero, List.getElem?_cons_succ, wC, wOp, wCall, wACons, wANil, wAndV, wOrV, wNotV, wIsi, wIsi2, wCmp, wChain, wChain3, wOfT, wIfE, wAnd, wOr, wNotT, bInt, bEq, bNe, bIsN, bNotN, bIn, bNotIn, wCall1, bLen, bAll, bAny, bSum, sRet, sRetN, sRetO, sIf, sSeq, sNil, sExpr, sSet, sAsg, sPar, wVE, wVN, wOfN, wOfE, wTup, wLst, pyAll, wYes, isB_tuple, wLenW, eqv_int]
          cases w with
          | tuple xs =>
            simp only [if_true]
            refine ⟨shaped_int _, shaped_int _, ?_⟩
            rw [show decide ((xs.length : Int) = (s : Int)) = decide (xs.length = s) from decide_eq_decide.mpr (by omega)]
            exact p
          | _ => exact p
        rw [List.nil_append, show List.map _ (List.map Fv.D.py [a, b]) = [rowOk s a, rowOk s b].map PyData.bool from rfl, blsOf_map]
        unfold faultS at q
        rw [shapeS_two] at q
        simp only [List.all_cons, List.all_nil, Bool.and_true, id_eq]
        cases hab : rowOk s a && rowOk s b with
        | false =>
          rw [hab, if_neg Bool.false_ne_true] at q
          exact q
        | true =>
          rw [hab, if_pos rfl] at q
          rw [Bool.and_eq_true] at hab
          obtain ⟨xs, rfl, hx⟩ : ∃ xs, a = .tuple xs ∧ xs.length = s := by
            cases a <;> first | exact ⟨_, rfl, of_decide_eq_true hab.1⟩ | cases hab.1
          obtain ⟨ys, rfl, hy⟩ : ∃ xs, b = .tuple xs ∧ xs.length = s := by
            cases b <;> first | exact ⟨_, rfl, of_decide_eq_true hab.2⟩ | cases hab.2
          simp only [Bool.not_true, Bool.false_eq_true, if_false]
          refine ⟨xs, ys, rfl, by omega, ?_⟩
          cases hn : numsS (.tuple [.tuple xs, .tuple ys]) with
          | true =>
            rw [hn, if_pos rfl] at q
            exact q
          | false =>
            rw [hn, if_neg Bool.false_ne_true] at q
            exact q
      · rw [decide_eq_false h2]
        unfold faultS at q
        rw [shapeS_not (by omega), if_neg Bool.false_ne_true] at q
        exact q
    | _ => exact q
theorem sc_need_standing : FnScope ["web", "standing", "fault"] ["web", "standing"] (defScope s_need_standing) := ⟨rfl, rfl, rfl, by decide +kernel, rfl, by decide +kernel, by decide +kernel⟩
theorem ok_need_standing {F : Fx} (D : Dn F.K F.mg "need_standing" s_need_standing ["web", "standing"]) (bz : Bz F.mg) {CE : Addr} (c_standing_fault : ClB F 4 "standing_fault" false fFault) (e_NoStanding : ClE F 1 "NoStanding" CE fiPart) : ClB F 5 "need_standing" false fNeedStanding := by
  refine cl_b D sc_need_standing (fun ds n EX QD h => ?_) (fun fa cdv A outer s H E pn B0 hr tk po => ?_)
  · obtain ⟨s, M, d, rfl, _⟩ := h
    rfl
  · have nd := sc_need_standing.nd
    refine ⟨_, _, (bss_cons (bs_setV (i := 2) (BE.toV (be_call c_standing_fault hr (by decide) (by rfl) tk (ba_cons (be_nm 0 (pv 0)) (ba_cons (be_nm 1 (pv 1)) ba_nil)))) nd rfl (.inl rfl))
    (bss_one (bs_if (bt_notN (BE.f (be_nm 2 (pv 2))) (BE.f be_non))
    (bss_one (bs_raise e_NoStanding hr (by decide) rfl (by rfl) tk (ba_cons (be_nm 2 (pv 2)) ba_nil)))
    bss_nil))), ?_⟩
    rintro _ n EX QD ⟨s, M, d, rfl, hs, q⟩
    simp only [startB, Nat.reduceAdd, Nat.reduceSub, List.replicate_succ, List.replicate_zero, wLc, wLc2, wISeq, wipeB, List.set_cons_succ, List.set_cons_zero, wgTup, wgCons, wgNil, wgNm, Bool.not_true, Bool.not_false, Bool.false_eq_true, if_true, if_false, List.map_cons, List.map_nil, List.length_cons, List.length_nil, List.cons_append, List.nil_append, wName, List.getElem?_cons_zero, List.getElem?_cons_succ, wC, wOp, wCall, wACons, wANil, wAndV, wOrV, wNotV, wIsi, wIsi2, wCmp, wChain, wChain3, wOfT, wIfE, wAnd, wOr, wNotT, bInt, bEq, bNe, bIsN, bNotN, bIn, bNotIn, wCall1, bLen, bAll, bAny, bSum, sRet, sRetN, sRetO, sIf, sSeq, sNil, sExpr, sSet, sAsg, sPar, wVE, wVN, wOfN, wOfE, wTup, wLst, pyAll, sRaise, fFault]
    refine ⟨s, M, d, rfl, hs, ?_⟩
    unfold needS at q
    cases h1 : shapeS s d with
    | false =>
      rw [h1, if_neg Bool.false_ne_true] at q
      have e : faultS s d = .str "standing" := by
        unfold faultS
        rw [h1]
        rfl
      rw [e]
      exact ⟨by decide, _, rfl, q⟩
    | true =>
      rw [h1, if_pos rfl] at q
      cases h2 : numsS d with
      | false =>
        rw [h2, if_neg Bool.false_ne_true] at q
        have e : faultS s d = .str "numbers" := by
          unfold faultS
          rw [h1, h2]
          rfl
        rw [e]
        exact ⟨by decide, _, rfl, q⟩
      | true =>
        rw [h2, if_pos rfl] at q
        have e : faultS s d = .none := by
          unfold faultS
          rw [h1, h2]
          rfl
        rw [e]
        exact ⟨trivial, q⟩
end Fv
/-! Statements that are never come to. -/
namespace Fv
open PySem PySem.Spec PyProof.Rows L2 Gb
theorem bss_never {m : Bool} {X : Cx} {G : Cg} {sts : List Stmt} : BSs m X G sts (fun _ _ _ => False) (fun _ _ _ _ => False) :=
  ⟨⟨fun _ _ _ _ _ _ h => h.elim⟩, fun _ _ _ _ _ _ _ _ _ h _ _ => h.elim⟩
end Fv
set_option maxRecDepth 100000
set_option maxHeartbeats 4000000
/-! What asks for a standing first of all, and is given none. -/
namespace Fv
open PySem PySem.Spec PyProof.Rows L2 Gb
def fRef2 : FB := fun ds n EX _ => ∃ (s : Nat) (M : Nat → Nat → Int) (d : PyData), ds = [.web s M, .py d] ∧ s ≤ 12 ∧ needS s d EX n False
def fRef3 : FB := fun ds n EX _ => ∃ (s : Nat) (M : Nat → Nat → Int) (d : PyData) (e : D), ds = [.web s M, .py d, e] ∧ s ≤ 12 ∧ needS s d EX n False
def fRef4 : FB := fun ds n EX _ => ∃ (s : Nat) (M : Nat → Nat → Int) (d : PyData) (e e2 : D), ds = [.web s M, e, e2, .py d] ∧ s ≤ 12 ∧ needS s d EX n False
namespace RG
theorem sc_beat_on : FnScope ["web", "standing"] ["web", "standing"] (defScope s_beat_on) := ⟨rfl, rfl, rfl, by decide +kernel, rfl, by decide +kernel, by decide +kernel⟩
end RG
theorem ok_beat_onR {F : Fx} (D : Dn F.K F.mg "beat_on" s_beat_on ["web", "standing"]) (bz : Bz F.mg) (c_need_standing : ClB F 5 "need_standing" false fNeedStanding) : ClB F 6 "beat_on" false fRef2 := by
  refine cl_b D RG.sc_beat_on (fun ds n EX QD h => ?_) (fun fa cdv A outer s H E pn B0 hr tk po => ?_)
  · obtain ⟨_, _, _, rfl, _⟩ := h
    rfl
  · have nd := RG.sc_beat_on.nd
    refine ⟨_, _, (bss_cons (bs_expr (be_call c_need_standing hr (by decide) (by rfl) tk (ba_cons (be_nm 0 (pv 0)) (ba_cons (be_nm 1 (pv 1)) ba_nil)))) bss_never), ?_⟩
    rintro _ n EX QD ⟨s, M, d, rfl, hs, q⟩
    simp only [startB, Nat.reduceAdd, Nat.reduceSub, List.replicate_succ, List.replicate_zero, wLc, wLc2, wISeq, wipeB, List.set_cons_succ, List.set_cons_zero, wgTup, wgCons, wgNil, wgNm, Bool.not_true, Bool.not_false, Bool.false_eq_true, if_true, if_false, List.map_cons, List.map_nil, List.length_cons, List.length_nil, List.cons_append, List.nil_append, wName, List.getElem?_cons_zero, List.getElem?_cons_succ, wC, wOp, wCall, wACons, wANil, wAndV, wOrV, wNotV, wIsi, wIsi2, wCmp, wChain, wChain3, wOfT, wIfE, wAnd, wOr, wNotT, bInt, bEq, bNe, bIsN, bNotN, bIn, bNotIn, wCall1, bLen, bAll, bAny, bSum, sRet, sRetN, sRetO, sIf, sSeq, sNil, sExpr, sSet, sAsg, sPar, wVE, wVN, wOfN, wOfE, wTup, wLst, pyAll]
    exact ⟨s, M, d, rfl, hs, q⟩
namespace RG
theorem sc_beat_back : FnScope ["web", "standing"] ["web", "standing"] (defScope s_beat_back) := ⟨rfl, rfl, rfl, by decide +kernel, rfl, by decide +kernel, by decide +kernel⟩
end RG
theorem ok_beat_backR {F : Fx} (D : Dn F.K F.mg "beat_back" s_beat_back ["web", "standing"]) (bz : Bz F.mg) (c_need_standing : ClB F 5 "need_standing" false fNeedStanding) : ClB F 6 "beat_back" false fRef2 := by
  refine cl_b D RG.sc_beat_back (fun ds n EX QD h => ?_) (fun fa cdv A outer s H E pn B0 hr tk po => ?_)
  · obtain ⟨_, _, _, rfl, _⟩ := h
    rfl
  · have nd := RG.sc_beat_back.nd
    refine ⟨_, _, (bss_cons (bs_expr (be_call c_need_standing hr (by decide) (by rfl) tk (ba_cons (be_nm 0 (pv 0)) (ba_cons (be_nm 1 (pv 1)) ba_nil)))) bss_never), ?_⟩
    rintro _ n EX QD ⟨s, M, d, rfl, hs, q⟩
    simp only [startB, Nat.reduceAdd, Nat.reduceSub, List.replicate_succ, List.replicate_zero, wLc, wLc2, wISeq, wipeB, List.set_cons_succ, List.set_cons_zero, wgTup, wgCons, wgNil, wgNm, Bool.not_true, Bool.not_false, Bool.false_eq_true, if_true, if_false, List.map_cons, List.map_nil, List.length_cons, List.length_nil, List.cons_append, List.nil_append, wName, List.getElem?_cons_zero, List.getElem?_cons_succ, wC, wOp, wCall, wACons, wANil, wAndV, wOrV, wNotV, wIsi, wIsi2, wCmp, wChain, wChain3, wOfT, wIfE, wAnd, wOr, wNotT, bInt, bEq, bNe, bIsN, bNotN, bIn, bNotIn, wCall1, bLen, bAll, bAny, bSum, sRet, sRetN, sRetO, sIf, sSeq, sNil, sExpr, sSet, sAsg, sPar, wVE, wVN, wOfN, wOfE, wTup, wLst, pyAll]
    exact ⟨s, M, d, rfl, hs, q⟩
namespace RG
theorem sc_comes_back : FnScope ["web", "standing", "beats", "kind", "alone"] ["web", "standing"] (defScope s_comes_back) := ⟨rfl, rfl, rfl, by decide +kernel, rfl, by decide +kernel, by decide +kernel⟩
end RG
theorem ok_comes_backR {F : Fx} (D : Dn F.K F.mg "comes_back" s_comes_back ["web", "standing"]) (bz : Bz F.mg) (c_need_standing : ClB F 5 "need_standing" false fNeedStanding) : ClB F 6 "comes_back" false fRef2 := by
  refine cl_b D RG.sc_comes_back (fun ds n EX QD h => ?_) (fun fa cdv A outer s H E pn B0 hr tk po => ?_)
  · obtain ⟨_, _, _, rfl, _⟩ := h
    rfl
  · have nd := RG.sc_comes_back.nd
    refine ⟨_, _, (bss_cons (bs_expr (be_call c_need_standing hr (by decide) (by rfl) tk (ba_cons (be_nm 0 (pv 0)) (ba_cons (be_nm 1 (pv 1)) ba_nil)))) bss_never), ?_⟩
    rintro _ n EX QD ⟨s, M, d, rfl, hs, q⟩
    simp only [startB, Nat.reduceAdd, Nat.reduceSub, List.replicate_succ, List.replicate_zero, wLc, wLc2, wISeq, wipeB, List.set_cons_succ, List.set_cons_zero, wgTup, wgCons, wgNil, wgNm, Bool.not_true, Bool.not_false, Bool.false_eq_true, if_true, if_false, List.map_cons, List.map_nil, List.length_cons, List.length_nil, List.cons_append, List.nil_append, wName, List.getElem?_cons_zero, List.getElem?_cons_succ, wC, wOp, wCall, wACons, wANil, wAndV, wOrV, wNotV, wIsi, wIsi2, wCmp, wChain, wChain3, wOfT, wIfE, wAnd, wOr, wNotT, bInt, bEq, bNe, bIsN, bNotN, bIn, bNotIn, wCall1, bLen, bAll, bAny, bSum, sRet, sRetN, sRetO, sIf, sSeq, sNil, sExpr, sSet, sAsg, sPar, wVE, wVN, wOfN, wOfE, wTup, wLst, pyAll]
    exact ⟨s, M, d, rfl, hs, q⟩
namespace RG
theorem sc_never_paper : FnScope ["web", "standing", "kind", "paper"] ["web", "standing"] (defScope s_never_paper) := ⟨rfl, rfl, rfl, by decide +kernel, rfl, by decide +kernel, by decide +kernel⟩
end RG
theorem ok_never_paperR {F : Fx} (D : Dn F.K F.mg "never_paper" s_never_paper ["web", "standing"]) (bz : Bz F.mg) (c_need_standing : ClB F 5 "need_standing" false fNeedStanding) : ClB F 6 "never_paper" false fRef2 := by
  refine cl_b D RG.sc_never_paper (fun ds n EX QD h => ?_) (fun fa cdv A outer s H E pn B0 hr tk po => ?_)
  · obtain ⟨_, _, _, rfl, _⟩ := h
    rfl
  · have nd := RG.sc_never_paper.nd
    refine ⟨_, _, (bss_cons (bs_expr (be_call c_need_standing hr (by decide) (by rfl) tk (ba_cons (be_nm 0 (pv 0)) (ba_cons (be_nm 1 (pv 1)) ba_nil)))) bss_never), ?_⟩
    rintro _ n EX QD ⟨s, M, d, rfl, hs, q⟩
    simp only [startB, Nat.reduceAdd, Nat.reduceSub, List.replicate_succ, List.replicate_zero, wLc, wLc2, wISeq, wipeB, List.set_cons_succ, List.set_cons_zero, wgTup, wgCons, wgNil, wgNm, Bool.not_true, Bool.not_false, Bool.false_eq_true, if_true, if_false, List.map_cons, List.map_nil, List.length_cons, List.length_nil, List.cons_append, List.nil_append, wName, List.getElem?_cons_zero, List.getElem?_cons_succ, wC, wOp, wCall, wACons, wANil, wAndV, wOrV, wNotV, wIsi, wIsi2, wCmp, wChain, wChain3, wOfT, wIfE, wAnd, wOr, wNotT, bInt, bEq, bNe, bIsN, bNotN, bIn, bNotIn, wCall1, bLen, bAll, bAny, bSum, sRet, sRetN, sRetO, sIf, sSeq, sNil, sExpr, sSet, sAsg, sPar, wVE, wVN, wOfN, wOfE, wTup, wLst, pyAll]
    exact ⟨s, M, d, rfl, hs, q⟩
namespace RG
theorem sc_run_of : FnScope ["web", "standing", "beats"] ["web", "standing", "beats"] (defScope s_run_of) := ⟨rfl, rfl, rfl, by decide +kernel, rfl, by decide +kernel, by decide +kernel⟩
end RG
theorem ok_run_ofR {F : Fx} (D : Dn F.K F.mg "run_of" s_run_of ["web", "standing", "beats"]) (bz : Bz F.mg) (c_need_standing : ClB F 5 "need_standing" false fNeedStanding) : ClB F 6 "run_of" false fRef3 := by
  refine cl_b D RG.sc_run_of (fun ds n EX QD h => ?_) (fun fa cdv A outer s H E pn B0 hr tk po => ?_)
  · obtain ⟨_, _, _, _, rfl, _⟩ := h
    rfl
  · have nd := RG.sc_run_of.nd
    refine ⟨_, _, (bss_cons (bs_expr (be_call c_need_standing hr (by decide) (by rfl) tk (ba_cons (be_nm 0 (pv 0)) (ba_cons (be_nm 1 (pv 1)) ba_nil)))) bss_never), ?_⟩
    rintro _ n EX QD ⟨s, M, d, e, rfl, hs, q⟩
    simp only [startB, Nat.reduceAdd, Nat.reduceSub, List.replicate_succ, List.replicate_zero, wLc, wLc2, wISeq, wipeB, List.set_cons_succ, List.set_cons_zero, wgTup, wgCons, wgNil, wgNm, Bool.not_true, Bool.not_false, Bool.false_eq_true, if_true, if_false, List.map_cons, List.map_nil, List.length_cons, List.length_nil, List.cons_append, List.nil_append, wName, List.getElem?_cons_zero, List.getElem?_cons_succ, wC, wOp, wCall, wACons, wANil, wAndV, wOrV, wNotV, wIsi, wIsi2, wCmp, wChain, wChain3, wOfT, wIfE, wAnd, wOr, wNotT, bInt, bEq, bNe, bIsN, bNotN, bIn, bNotIn, wCall1, bLen, bAll, bAny, bSum, sRet, sRetN, sRetO, sIf, sSeq, sNil, sExpr, sSet, sAsg, sPar, wVE, wVN, wOfN, wOfE, wTup, wLst, pyAll]
    exact ⟨s, M, d, rfl, hs, q⟩
namespace RG
theorem sc_standing_behind : FnScope ["web", "standing", "beats"] ["web", "standing", "beats"] (defScope s_standing_behind) := ⟨rfl, rfl, rfl, by decide +kernel, rfl, by decide +kernel, by decide +kernel⟩
end RG
theorem ok_standing_behindR {F : Fx} (D : Dn F.K F.mg "standing_behind" s_standing_behind ["web", "standing", "beats"]) (bz : Bz F.mg) (c_need_standing : ClB F 5 "need_standing" false fNeedStanding) : ClB F 6 "standing_behind" false fRef3 := by
  refine cl_b D RG.sc_standing_behind (fun ds n EX QD h => ?_) (fun fa cdv A outer s H E pn B0 hr tk po => ?_)
  · obtain ⟨_, _, _, _, rfl, _⟩ := h
    rfl
  · have nd := RG.sc_standing_behind.nd
    refine ⟨_, _, (bss_cons (bs_expr (be_call c_need_standing hr (by decide) (by rfl) tk (ba_cons (be_nm 0 (pv 0)) (ba_cons (be_nm 1 (pv 1)) ba_nil)))) bss_never), ?_⟩
    rintro _ n EX QD ⟨s, M, d, e, rfl, hs, q⟩
    simp only [startB, Nat.reduceAdd, Nat.reduceSub, List.replicate_succ, List.replicate_zero, wLc, wLc2, wISeq, wipeB, List.set_cons_succ, List.set_cons_zero, wgTup, wgCons, wgNil, wgNm, Bool.not_true, Bool.not_false, Bool.false_eq_true, if_true, if_false, List.map_cons, List.map_nil, List.length_cons, List.length_nil, List.cons_append, List.nil_append, wName, List.getElem?_cons_zero, List.getElem?_cons_succ, wC, wOp, wCall, wACons, wANil, wAndV, wOrV, wNotV, wIsi, wIsi2, wCmp, wChain, wChain3, wOfT, wIfE, wAnd, wOr, wNotT, bInt, bEq, bNe, bIsN, bNotN, bIn, bNotIn, wCall1, bLen, bAll, bAny, bSum, sRet, sRetN, sRetO, sIf, sSeq, sNil, sExpr, sSet, sAsg, sPar, wVE, wVN, wOfN, wOfE, wTup, wLst, pyAll]
    exact ⟨s, M, d, rfl, hs, q⟩
namespace RG
theorem sc_shows_never : FnScope ["web", "standing", "thing", "word", "posts", "weights", "alone"] ["web", "standing", "thing"] (defScope s_shows_never) := ⟨rfl, rfl, rfl, by decide +kernel, rfl, by decide +kernel, by decide +kernel⟩
end RG
theorem ok_shows_neverR {F : Fx} (D : Dn F.K F.mg "shows_never" s_shows_never ["web", "standing", "thing"]) (bz : Bz F.mg) (c_need_standing : ClB F 5 "need_standing" false fNeedStanding) : ClB F 6 "shows_never" false fRef3 := by
  refine cl_b D RG.sc_shows_never (fun ds n EX QD h => ?_) (fun fa cdv A outer s H E pn B0 hr tk po => ?_)
  · obtain ⟨_, _, _, _, rfl, _⟩ := h
    rfl
  · have nd := RG.sc_shows_never.nd
    refine ⟨_, _, (bss_cons (bs_expr (be_call c_need_standing hr (by decide) (by rfl) tk (ba_cons (be_nm 0 (pv 0)) (ba_cons (be_nm 1 (pv 1)) ba_nil)))) bss_never), ?_⟩
    rintro _ n EX QD ⟨s, M, d, e, rfl, hs, q⟩
    simp only [startB, Nat.reduceAdd, Nat.reduceSub, List.replicate_succ, List.replicate_zero, wLc, wLc2, wISeq, wipeB, List.set_cons_succ, List.set_cons_zero, wgTup, wgCons, wgNil, wgNm, Bool.not_true, Bool.not_false, Bool.false_eq_true, if_true, if_false, List.map_cons, List.map_nil, List.length_cons, List.length_nil, List.cons_append, List.nil_append, wName, List.getElem?_cons_zero, List.getElem?_cons_succ, wC, wOp, wCall, wACons, wANil, wAndV, wOrV, wNotV, wIsi, wIsi2, wCmp, wChain, wChain3, wOfT, wIfE, wAnd, wOr, wNotT, bInt, bEq, bNe, bIsN, bNotN, bIn, bNotIn, wCall1, bLen, bAll, bAny, bSum, sRet, sRetN, sRetO, sIf, sSeq, sNil, sExpr, sSet, sAsg, sPar, wVE, wVN, wOfN, wOfE, wTup, wLst, pyAll]
    exact ⟨s, M, d, rfl, hs, q⟩
namespace RG
theorem sc_steps_of : FnScope ["web", "posts", "weights", "standing", "halves", "by_post", "post", "weight", "having", "had"] ["web", "posts", "weights", "standing"] (defScope s_steps_of) := ⟨rfl, rfl, rfl, by decide +kernel, rfl, by decide +kernel, by decide +kernel⟩
end RG
theorem ok_steps_ofR {F : Fx} (D : Dn F.K F.mg "steps_of" s_steps_of ["web", "posts", "weights", "standing"]) (bz : Bz F.mg) (c_need_standing : ClB F 5 "need_standing" false fNeedStanding) : ClB F 6 "steps_of" false fRef4 := by
  refine cl_b D RG.sc_steps_of (fun ds n EX QD h => ?_) (fun fa cdv A outer s H E pn B0 hr tk po => ?_)
  · obtain ⟨_, _, _, _, _, rfl, _⟩ := h
    rfl
  · have nd := RG.sc_steps_of.nd
    refine ⟨_, _, (bss_cons (bs_expr (be_call c_need_standing hr (by decide) (by rfl) tk (ba_cons (be_nm 0 (pv 0)) (ba_cons (be_nm 3 (pv 3)) ba_nil)))) bss_never), ?_⟩
    rintro _ n EX QD ⟨s, M, d, e, e2, rfl, hs, q⟩
    simp only [startB, Nat.reduceAdd, Nat.reduceSub, List.replicate_succ, List.replicate_zero, wLc, wLc2, wISeq, wipeB, List.set_cons_succ, List.set_cons_zero, wgTup, wgCons, wgNil, wgNm, Bool.not_true, Bool.not_false, Bool.false_eq_true, if_true, if_false, List.map_cons, List.map_nil, List.length_cons, List.length_nil, List.cons_append, List.nil_append, wName, List.getElem?_cons_zero, List.getElem?_cons_succ, wC, wOp, wCall, wACons, wANil, wAndV, wOrV, wNotV, wIsi, wIsi2, wCmp, wChain, wChain3, wOfT, wIfE, wAnd, wOr, wNotT, bInt, bEq, bNe, bIsN, bNotN, bIn, bNotIn, wCall1, bLen, bAll, bAny, bSum, sRet, sRetN, sRetO, sIf, sSeq, sNil, sExpr, sSet, sAsg, sPar, wVE, wVN, wOfN, wOfE, wTup, wLst, pyAll]
    exact ⟨s, M, d, rfl, hs, q⟩
end Fv
set_option maxRecDepth 100000
set_option maxHeartbeats 4000000
/-! A tuple repeated, an empty one too. -/
namespace Fv
open PySem PySem.Spec PyProof.Rows L2 Gb
theorem tuple_mul0 (l : Addr) (n : Nat) (dd : Option Addr) (sl : Array (Option Value)) (x : Int) (u : Tok) (c0 : (decide (x < -(2 ^ 63)) || decide (x ≥ 2 ^ 63)) = false) :
    Meets (Builtin.«tuple.__mul__» ⟨[.ref l, .int x u], []⟩) (fun _ R s => s.heap.get? l = some { cls := .type "tuple", dict := dd, data := .seq #[] n, slots := sl } ∧
      R (.ok (.ret (Value.ref l))) s) :=
  .of_wp fun prog w A R s h => by
    obtain ⟨hp, g, d, tk, os⟩ := s
    obtain ⟨hl, h⟩ := h
    have f1 := AutoSeq1.idx_int
    wp_walk using wpAny_loadPart' hl
    refine wpAny_ite_false (decide_eq_false (by rw [c0]; exact Bool.false_ne_true)) ?_
    wp_walk using wpAny_loadPart' hl
    exact ⟨_, rfl, h⟩
/-- t * k, k from 2 on; the empty tuple stays itself -/
def rRepU (K : PySem.W.Frag) : R2 := fun x y H Q => ∃ l k xs, x = .ref l ∧ y = .int k ∧ SqT K H l xs ∧ 2 ≤ k ∧ k ≤ 1000 ∧ xs.length ≤ 1000 ∧ (xs = [] → Q (.ref l) H) ∧ (xs ≠ [] → ∀ p, H p = none → Q (.ref p) (upd H p (.tup (List.replicate k.toNat xs).flatten)))
section
variable {X : Cx} {G : Cg} {a b : Expr} {ta tb : TE} {wa wb : WE} {pos : Pos}
theorem op_repU : OpR X (binaryOp .Mult) (rRepU X.K) := by
  intro pins s σ H x y v u Q I rx ry h
  obtain ⟨l, k, xs, rfl, rfl, hT, h1, h2, hz, q0, q⟩ := h
  by_cases hne : xs = []
  · subst hne
    cases rx
    obtain ⟨t, rfl⟩ := ry
    obtain ⟨its, r, ⟨⟨cls, dd, data, sl⟩, ho, hc, n, hd⟩, hs⟩ := I.tuple hT
    simp only at hc hd
    subst hc hd
    have hle : its.length = 0 := r.length.symm
    have hn : its = [] := List.eq_nil_of_length_eq_zero hle
    subst hn
    have c0 : (decide (k < -(2 ^ 63)) || decide (k ≥ 2 ^ 63)) = false := by
      rw [decide_eq_false (by omega), decide_eq_false (by omega)] <;> rfl
    refine wpAny_binaryOp_repeat_ref (T := "tuple") (U := "int") (by decide) ⟨_, ho, rfl⟩ (fun s' => typeIs_int s' k t) noFill_tuple_mul F.fills_int_mul F.slot_int_rmul repeat_tuple F.slot_int_index.lookup
      (call_meets F.slot_int_rmul (typeIs_int s k t) F.entry_int_rmul (F.args_int_rmul_2 _ _) (int_rmul_tuple k t l #[] n dd sl)
        ⟨ho, rfl, ⟨_, ho, rfl⟩, call_meets F.slot_tuple_mul ⟨_, ho, rfl⟩ F.entry_tuple_mul (F.args_tuple_mul_2 _ _) (tuple_mul0 l n dd sl k t c0) ⟨ho, ?_⟩⟩)
    exact ⟨.ref l, H, I.tok _, rfl, q0 rfl⟩
  · exact op_repT pins s σ H (.ref l) (.int k) v u Q I rx ry ⟨l, k, xs, rfl, rfl, hT, hne, h1, h2, hz, q hne⟩
def bRepU : BOp := fun x y Q => match x, y with
  | .py (.tuple ds), .py (.int j) => 2 ≤ j ∧ j ≤ 1000 ∧ ds.length ≤ 1000 ∧ ds.length * j.toNat ≤ 100000 ∧ Q (.py (.tuple (List.replicate j.toNat ds).flatten))
  | _, _ => False
theorem bs_repU : OpS G (rRepU G.K) bRepU := by
  intro B H x y dx dy P Q sb rx ry hw k
  unfold bRepU at hw
  split at hw
  · rename_i ds j
    obtain ⟨a, xs, rfl, hT, hA, hz⟩ := dd_tup rx
    have ey := dd_int ry
    subst ey
    obtain ⟨h1, h2, h3, h4, q⟩ := hw
    have hl := hA.len
    refine ⟨a, j, xs, rfl, rfl, Same.t sb hT, h1, h2, by omega, fun e => ?_, fun e p hp => ?_⟩
    · have e2 : ds = [] := List.length_eq_zero_iff.mp (by rw [← hl, e]; rfl)
      refine k _ _ _ _ (Mv.refl sb) rx ?_
      rw [e2] at q ⊢
      rw [show (List.replicate j.toNat ([] : List PyData)).flatten = [] from by rw [List.flatten_replicate_nil]] at q
      exact q
    · have mm := Mv.new (pn := none) (o := .tup (List.replicate j.toNat xs).flatten) sb hp
      refine k _ _ _ _ mm (r_tup (SqT.of upd_same) ((hA.rep _).mono mm.b) ?_) q
      rw [List.length_flatten, List.map_replicate, List.sum_replicate_nat]
      refine line5 ?_
      rw [Nat.mul_comm, hl]
      exact h4
  · exact hw.elim
theorem be_repU (ha : BE X G a ta wa) (hb : BE X G b tb wb) (hK : X.K = G.K := by rfl) : BE X G (.BinOp a .Mult b pos) (tOp (rRepU G.K) ta tb) (wOp bRepU wa wb) := be_opB (hK ▸ op_repU) bs_repU ha hb
end
end Fv
set_option maxRecDepth 100000
set_option maxHeartbeats 4000000
/-! Lists of lists of one's own: made, read, written, told. -/
namespace Fv
open PySem PySem.Spec PyProof.Rows L2 Gb
open PySem.W (T4)
section
variable {m : Bool} {X : Cx} {G : Cg} {a b c d e f o : Expr} {es rest : List Expr} {ta tb tc td te to : TE} {wa wb wc wd we : WE} {pos p p2 p3 apos cpos tpos : Pos} {x : Str} {n : Nat} {t u tt : TT} {w v wt : WT} {wl wl2 : WL} {wn : WN} {wv wv2 : WV} {st : Stmt} {sts sts2 : List Stmt} {ts us : TS} {ws vs : WS}
def wRow (i : Nat) (wk : WE) : WL := fun ρ n E Q => match ρ[i]? with
  | some (.mat _ _ rows) => wk ρ n E fun y n1 => (match y with
    | .py (.int k) => (match L2.atI rows k with
      | some r => Q false r.2 n1
      | none => False)
    | _ => False)
  | _ => False
/-- all of it, looked at -/
def wMat (i : Nat) : WE := fun ρ n _ Q => match ρ[i]? with
  | some (.mat tp _ rows) => Q (.py (if tp = true then .tuple (rows.map fun r => .list r.2) else .list (rows.map fun r => .list r.2))) n
  | _ => False
def tellM (B H : Hp) (l : Addr) (as : List Addr) : Hp := fun b => if b = l ∨ b ∈ as then H b else B b
theorem MatAt.dd {B H : Hp} {tp : Bool} {l : Addr} {rows : Rws} (A : MatAt G B H tp l rows) {B' : Hp} (sb : Same B B') (hl : B' l = H l) (hr : ∀ r ∈ rows, B' r.1 = H r.1) : R G B' (.ref l) (.py (if tp = true then .tuple (rows.map fun r => .list r.2) else .list (rows.map fun r => .list r.2))) := by
  have all : ∀ rs : Rws, (∀ r ∈ rs, r ∈ rows) → DdA G.K B' (rs.map fun r => V.ref r.1) (rs.map fun r => .list r.2) := by
    intro rs
    induction rs with
    | nil => exact fun _ => .nil
    | cons r rs ih =>
      intro h
      obtain ⟨vs, h1, h2, h3, h4⟩ := A.row r (h r List.mem_cons_self)
      exact .cons (.lst (by rw [hr r (h r List.mem_cons_self)]; exact h1) (h3.mono sb) h2) (ih fun x hx => h x (List.mem_cons_of_mem _ hx))
  have hA := all rows fun r h => h
  have hlen : (rows.map fun r => V.ref r.1).length ≤ sizeLine := by rw [List.length_map]; exact A.len
  cases tp with
  | true => exact r_tup (SqT.of (hl.trans A.at_)) hA hlen
  | false => exact r_lst (hl.trans A.at_) hA hlen
theorem tellM_sub {B H : Hp} {l : Addr} {as : List Addr} (s : Same B H) : Same (tellM B H l as) H := fun b u h => by
  unfold tellM at h
  split at h
  · exact h
  · exact s _ _ h
theorem MatAt.nt {B H : Hp} {tp : Bool} {l : Addr} {rows : Rws} (A : MatAt G B H tp l rows) {b : Addr} (hb : b = l ∨ b ∈ rows.map (·.1)) {ps : Array Value} : H b ≠ some (.tbl ps) := fun h => by
  rcases hb with rfl | hb
  · rw [A.at_] at h
    cases tp <;> cases h
  · obtain ⟨r, hr, rfl⟩ := List.mem_map.mp hb
    obtain ⟨vs, h1, _⟩ := A.row r hr
    rw [h1] at h
    cases h
theorem MatAt.ne_pen {B H : Hp} {tp : Bool} {l : Addr} {rows : Rws} (A : MatAt G B H tp l rows) {b : Addr} (hb : b = l ∨ b ∈ rows.map (·.1)) : Free G B b := by
  rcases hb with rfl | hb
  · exact A.fr
  · obtain ⟨r, hr, rfl⟩ := List.mem_map.mp hb
    obtain ⟨vs, _, _, _, h4⟩ := A.row r hr
    exact h4
theorem MatAt.lk {n : Nat} {B H : Hp} {tp : Bool} {l : Addr} {rows : Rws} (A : MatAt G B H tp l rows) (s : Same B H) (pk : Pk G.pn n B H) : Lk G (tellM B H l (rows.map (·.1))) H := by
  refine ⟨tellM_sub s, fun p c T e => ?_⟩
  rw [e] at pk
  refine ⟨?_, fun b ps q => ?_⟩
  · unfold tellM
    rw [if_neg (fun z => ((A.ne_pen z).2.2 p c T e).1 rfl)]
    exact pk.2.1
  · unfold tellM at q
    split at q
    · rename_i z
      exact A.nt z q
    · exact pk.2.2.2.1 _ _ q
/-! ### a row is written -/
/-- x[j][k] = e -/
def sPutM (i : Nat) (w wj wk : WE) : WS := fun ρ n E DB => match ρ[i]? with
  | some (.mat tp l rows) => w ρ n (E ρ) fun d n1 => wj ρ n1 (E ρ) fun y n2 => (match y with
    | .py (.int j) => (match ixN rows.length j with
      | some j' => (match rows[j']? with
        | some r => wk ρ n2 (E ρ) fun z n3 => (match d, z with
          | .py d, .py (.int k) => (match ixN r.2.length k with
            | some k' => DB.nx (ρ.set i (.mat tp l (rows.set j' (r.1, r.2.set k' d)))) n3
            | none => False)
          | _, _ => False)
        | none => False)
      | none => False)
    | _ => False)
  | _ => False
/-- x[j][k] += e, numbers; k not less than nought -/
def sAugM (i : Nat) (wj wk w : WE) : WS := fun ρ n E DB => match ρ[i]? with
  | some (.mat tp l rows) => wj ρ n (E ρ) fun y n1 => (match y with
    | .py (.int j) => (match ixN rows.length j with
      | some j' => (match rows[j']? with
        | some r => wk ρ n1 (E ρ) fun z n2 => (match z with
          | .py (.int k) => 0 ≤ k ∧ (match r.2[k.toNat]? with
            | some (.int u) => w ρ n2 (E ρ) fun d n3 => (match d with
              | .py (.int d) => DB.nx (ρ.set i (.mat tp l (rows.set j' (r.1, r.2.set k.toNat (.int (u + d)))))) n3
              | _ => False)
            | _ => False)
          | _ => False)
        | none => False)
      | none => False)
    | _ => False)
  | _ => False
/-! ### told -/
def sTellM (i : Nat) (w : WS) : WS := fun ρ n E DB => match ρ[i]? with
  | some (.mat tp _ rows) => w (ρ.set i (.val (.py (if tp = true then .tuple (rows.map fun r => .list r.2) else .list (rows.map fun r => .list r.2))))) n E DB
  | _ => False
/-! ### made by a comprehension -/
def lcmGo (wg : WG) (wt : WT) (we : WN) : List D → Rws → Nat → List Sl → (Rws → Nat → Prop) → Prop
  | [], acc, n, _, Q => Q acc n
  | d :: ds, acc, n, ρ, Q => wg d ρ fun ρ2 => wt ρ2 n (fun _ _ => False) fun b n1 => if b = true then we ρ2 n1 (fun _ _ => False) fun es n2 => ∀ a, lcmGo wg wt we ds (acc ++ [(a, es)]) n2 ρ Q
    else lcmGo wg wt we ds acc n1 ρ Q
def wLcM (wi : WI) (wg : WG) (wt : WT) (we : WN) (vs : List Nat) : WV := fun ρ n E Q => wi ρ n E fun ds n1 => lcmGo wg wt we ds [] n1 (wipeB ρ vs) fun rows n' => ∀ D, Q (.mat false D rows) n'
end
end Fv
set_option maxRecDepth 100000
set_option maxHeartbeats 4000000
/-! Two items of rows written at once; a row appended to. -/
namespace Fv
open PySem PySem.Spec PyProof.Rows L2 Gb
open PySem.W (T4)
section
variable {m : Bool} {X : Cx} {G : Cg} {a b c d e f o : Expr} {es rest : List Expr} {ta tb tc td te to : TE} {wa wb wc wd we : WE} {pos p p2 p3 apos cpos tpos : Pos} {x : Str} {n : Nat}
def gPutM (i : Nat) (wj wk : WE) (d : D) (ρ : List Sl) (n : Nat) (E : XQ) (Q : List Sl → Nat → Prop) : Prop := match ρ[i]? with
  | some (.mat tp l rows) => wj ρ n E fun y n2 => (match y with
    | .py (.int j) => (match ixN rows.length j with
      | some j' => (match rows[j']? with
        | some r => wk ρ n2 E fun z n3 => (match d, z with
          | .py d, .py (.int k) => (match ixN r.2.length k with
            | some k' => Q (ρ.set i (.mat tp l (rows.set j' (r.1, r.2.set k' d)))) n3
            | none => False)
          | _, _ => False)
        | none => False)
      | none => False)
    | _ => False)
  | _ => False
/-- x[j1][k1], x[j2][k2] = e1, e2 -/
def sPutM2 (i : Nat) (w1 w2 wj1 wk1 wj2 wk2 : WE) : WS := fun ρ n E DB => w1 ρ n (E ρ) fun d1 n1 => w2 ρ n1 (E ρ) fun d2 n2 => match d1, d2 with
  | .py d1, .py d2 => gPutM i wj1 wk1 (.py d1) ρ n2 (E ρ) fun ρ' n3 => gPutM i wj2 wk2 (.py d2) ρ' n3 (E ρ') fun ρ'' n4 => DB.nx ρ'' n4
  | _, _ => False
/-- x[j].append(e) -/
def sAppM (i : Nat) (wj w : WE) : WS := fun ρ n E DB => match ρ[i]? with
  | some (.mat tp l rows) => wj ρ n (E ρ) fun y n1 => (match y with
    | .py (.int j) => (match ixN rows.length j with
      | some j' => (match rows[j']? with
        | some r => w ρ n1 (E ρ) fun d n2 => (match d with
          | .py d => r.2.length < 100000 ∧ DB.nx (ρ.set i (.mat tp l (rows.set j' (r.1, r.2 ++ [d])))) n2
          | _ => False)
        | none => False)
      | none => False)
    | _ => False)
  | _ => False
end
end Fv
set_option maxRecDepth 100000
set_option maxHeartbeats 4000000
/-! A tuple of two new lists of one's own. -/
namespace Fv
open PySem PySem.Spec PyProof.Rows L2 Gb
section
variable {m : Bool} {X : Cx} {G : Cg} {a b : Expr} {ta tb : TE} {pos : Pos} {kt : Nat} {wn1 wn2 : WN}
def wTup2N (wn1 wn2 : WN) : WV := fun ρ n E Q => wn1 ρ n E fun ds1 n1 => wn2 ρ n1 E fun ds2 n2 => ∀ l a b, Q (.mat true l [(a, ds1), (b, ds2)]) n2
/-! ### a list taken apart -/
def wgUnl (n : Nat) (ws : WGs) : WG := fun d ρ Q => match d with
  | .py (.list ds) => ds.length = n ∧ ws ds ρ Q
  | _ => False
end
end Fv
set_option maxRecDepth 100000
set_option maxHeartbeats 4000000
/-! A list of anything (dicts too) in a list of lists of ints. -/
namespace Fv
section
open PySem PySem.SeqAt PySem.MeetsSeq
open AutoSeq1 (wpAny_loadPart')
end
section
open PySem PySem.Spec PyProof.Rows L2 Gb
section
variable {X : Cx} {pins : List (Addr × Obj)} {σ : L2.St} {H : Hp} {s : Shared}
mutual
theorem Dd.readsZ (I : Inv X pins σ H s) : ∀ {v : V} {d : PyData} {u : Value}, Dd X.K H v d → RelV v u → ∃ as, Reads s.heap u d as
  | _, _, _, .non, r => by
    cases r
    exact ⟨_, .none⟩
  | _, _, _, .bl b, r => by
    cases r
    exact ⟨_, .bool b⟩
  | _, _, _, .int i, r => by
    obtain ⟨t, rfl⟩ := r
    exact ⟨_, .int i t⟩
  | _, _, _, .str x, r => by
    obtain ⟨t, rfl⟩ := r
    exact ⟨_, .str x t⟩
  | _, _, _, .lst h a _, r => by
    cases r
    obtain ⟨its, rv, ⟨o, n, ho, hc, _, hd⟩, _⟩ := I.list (SqL.of h)
    obtain ⟨as, q⟩ := DdA.readsZ I a (us := its) rv
    exact ⟨_, Reads.list ho hc hd q⟩
  | _, _, _, .tup h a _, r => by
    cases r
    obtain ⟨its, rv, ⟨o, ho, hc, n, hd⟩, _⟩ := I.tuple h
    obtain ⟨as, q⟩ := DdA.readsZ I a (us := its) rv
    exact ⟨_, Reads.tuple ho hc hd q⟩
  | _, _, _, .dic (kvs := kvs) (ks := ks) h a, r => by
    cases r
    obtain ⟨_, _, vs, hkv, o, es, ep, ho, hex, hd, _, hp, _⟩ := I.hok _ _ h
    obtain ⟨as, q1, _⟩ := reads_keys (h := s.heap) hp
    obtain ⟨bs, q2⟩ := DdK.readsZ I a (vals_kv hkv)
    have e1 : ks.map (·.1) = vs.map fun p => keyP p.1 := by
      rw [ddk_keys a]
      have e := keys_kv hkv
      calc kvs.map (fun p => keyP p.1) = (kvs.map (·.1)).map keyP := by rw [List.map_map]; rfl
        _ = (vs.map (·.1)).map keyP := by rw [e]
        _ = _ := by rw [List.map_map]; rfl
    exact ⟨_, Reads.dict ho hex.1 hd (e1 ▸ q1) (by rw [pairs_vals hp]; exact q2)⟩
theorem DdA.readsZ (I : Inv X pins σ H s) : ∀ {vs : List V} {ds : List PyData} {us : List Value}, DdA X.K H vs ds → Vals vs us → ∃ as, ReadsAll s.heap us ds as
  | _, _, _, .nil, r => by
    cases r
    exact ⟨_, .nil⟩
  | _, _, _, .cons h1 h2, r => by
    cases r with
    | cons r1 r2 =>
      obtain ⟨as, q1⟩ := Dd.readsZ I h1 r1
      obtain ⟨bs, q2⟩ := DdA.readsZ I h2 r2
      exact ⟨_, .cons q1 q2⟩
theorem DdK.readsZ (I : Inv X pins σ H s) : ∀ {kvs : List (Key × V)} {ks : List (PyData × PyData)} {us : List Value}, DdK X.K H kvs ks → Vals (kvs.map (·.2)) us → ∃ as, ReadsAll s.heap us (ks.map (·.2)) as
  | _, _, _, .nil, r => by
    cases r
    exact ⟨_, .nil⟩
  | _, _, _, .cons h1 h2, r => by
    cases r with
    | cons r1 r2 =>
      obtain ⟨as, q1⟩ := Dd.readsZ I h1 r1
      obtain ⟨bs, q2⟩ := DdK.readsZ I h2 r2
      exact ⟨_, .cons q1 q2⟩
end
end
/-- a list of anything in a list of lists of ints -/
def rInZ (K : PySem.W.Frag) : R2 := fun x y H Q => ∃ (xs : List PyData) (Ls : List (List Int)), Dd K H x (.list xs) ∧ Dd K H y (.list (Ls.map fun L => .list (L.map PyData.int))) ∧ Q (.bl (Ls.any fun L => PyData.eqvAll (L.map PyData.int) xs)) H
def bInZ : BC := fun x y Q => match x, y with
  | .py (.list xs), .py (.list ys) => ∃ Ls : List (List Int), ys = Ls.map (fun L => .list (L.map PyData.int)) ∧ Q (Ls.any fun L => PyData.eqvAll (L.map PyData.int) xs)
  | _, _ => False
end
end Fv
set_option maxRecDepth 100000
set_option maxHeartbeats 4000000
/-! Lists of one's own in a tuple, or None: looked at; a list beside the empty one (==). -/
namespace Fv
open PySem PySem.Spec PyProof.Rows L2 Gb
/-- a statement with what is known behind it, whatever way it goes -/
def sCut (w v : WS) : WS := fun ρ n E DB => ∃ P : List Sl → Nat → Prop, w ρ n E { DB with nx := P } ∧ ∀ ρ' n', P ρ' n' → v ρ' n' E DB
theorem bss_cut {m : Bool} {X : Cx} {G : Cg} {st : Stmt} {sts : List Stmt} {ts us : TS} {ws vs : WS} (h : BS m X G st ts ws) (h2 : BSs m X G sts us vs) : BSs m X G (st :: sts) (tSeq ts us) (sCut ws vs) :=
  ⟨pss_cons h.ps h2.ps, fun ρ σ n B H E D DB S hw xs eo => by
    obtain ⟨P, hw, hv⟩ := hw
    exact h.snd ρ σ n B H E _ { DB with nx := P } S hw xs ⟨fun ρ' σ' n' B' H' sb S' q => h2.snd ρ' σ' n' B' H' E D DB S' (hv ρ' n' q) (xs.mono sb) (eo.mono sb), eo.bk, eo.ct, eo.rt, eo.rn⟩⟩
section
variable {X : Cx} {G : Cg} {a b : Expr} {ta tb : TE} {wl : WL} {wn wn2 : WN} {pos p : Pos}
def wMatV (i : Nat) : WE := fun ρ n _ Q => match ρ[i]? with
  | some (.mat tp _ rows) => Q (.py (if tp = true then .tuple (rows.map fun r => .list r.2) else .list (rows.map fun r => .list r.2))) n
  | some (.val d) => Q d n
  | _ => False
def rEqNil (K : PySem.W.Frag) : R2 := fun x y H Q => ∃ p q xs, x = .ref p ∧ y = .ref q ∧ SqL K H p xs ∧ SqL K H q [] ∧ Q (.bl xs.isEmpty) H
theorem op_eqNil (hu : X.A.units + 64 < cLine) : OpR X (compareOp .Eq) (rEqNil X.K) := by
  intro pins s σ H x y v u Q I rx ry h
  obtain ⟨p, q, xs, rfl, rfl, hp, hq, k⟩ := h
  cases xs with
  | nil =>
    refine op_eqD hu pins s σ H (.ref p) (.ref q) v u Q I rx ry ⟨.list [], .list [], .lst hp .nil, .lst hq .nil, by decide, by decide, ?_⟩
    rw [show PyData.eqv (.list []) (.list []) = true from by simp [PyData.eqv, PyData.eqvAll]]
    exact k
  | cons z xs =>
    cases rx
    cases ry
    obtain ⟨its, rv, h1, _⟩ := I.list hp
    obtain ⟨its2, rv2, h2, _⟩ := I.list hq
    have l1 := rv.length
    have l2 := rv2.length
    refine SeqAt.RcAt.lists_lengths (A := X.A) h1.isList h2.isList ?_ (by omega) X.prog X.w _ _ ⟨.bl false, H, I, rfl, k⟩
    rw [List.size_toArray, List.size_toArray, ← l1, ← l2]
    rfl
def wEqNil (wl : WL) (wn : WN) : WE := fun ρ n E Q => wl ρ n E fun k ds n1 => k = false ∧ wn ρ n1 E fun es n2 => es = [] ∧ Q (.py (.bool ds.isEmpty)) n2
theorem be_eqNil (hu : X.A.units + 64 < cLine) (ha : BL X G a ta wl) (hb : BN X G b tb wn) (hK : X.K = G.K := by rfl) : BE X G (.Compare a [.Eq] [b] pos) (tOp (rEqNil G.K) ta tb) (wEqNil wl wn) :=
  ⟨pe_cmpR (hK ▸ op_eqNil hu) ha.pe hb.pe (nomark _), fun ρ σ n B H E Qd Q S hw xw k => ha.snd ρ σ n B H E _ _ S hw xw fun l vs kk ds n1 B1 H1 m1 pk1 hs1 hz hA q1 => by
    obtain ⟨rfl, q1⟩ := q1
    refine hb.snd ρ σ n1 B1 H1 E _ _ (S.step m1 pk1) q1 (xw.step m1) fun l2 us es n2 B2 H2 m2 pk2 hl2 fr2 hu2 hz2 hA2 q2 => ?_
    obtain ⟨rfl, q2⟩ := q2
    cases hA2
    have hs2 : H2 l = some (.lst vs) := by
      have := hs1.step m2 pk1
      exact this
    refine ⟨l, l2, vs, rfl, rfl, SqL.of hs2, SqL.of hu2, ?_⟩
    rw [hA.empty]
    exact k _ _ n2 B2 H2 (m1.trans m2) pk2 r_bl q2⟩
theorem bt_eqNil (hu : X.A.units + 64 < cLine) (ha : BL X G a ta wl) (hb : BN X G b tb wn) (hK : X.K = G.K := by rfl) : BT X G (.Compare a [.Eq] [b] pos) (tTest (tOp (rEqNil G.K) ta tb)) (wOfT (wEqNil wl wn)) :=
  bt_cmp (be_eqNil hu ha hb hK) (pt_cmpR (hK ▸ op_eqNil hu) ha.pe hb.pe (nomark _))
end
end Fv
set_option maxRecDepth 100000
set_option maxHeartbeats 4000000
/-! Standings that are none refused. -/
namespace Fv
open PySem PySem.Spec PyProof.Rows L2 Gb
open PySem.W (T4)
theorem needS_imp {s : Nat} {d : PyData} {EX : XQ} {n : Nat} {k k' : Prop} (h : needS s d EX n k) (f : shapeS s d = true → numsS d = true → k → k') : needS s d EX n k' := by
  unfold needS at h ⊢
  split
  · rename_i h1
    rw [if_pos h1] at h
    split
    · rename_i h2
      rw [if_pos h2] at h
      exact f h1 h2 h
    · rename_i h2
      rw [if_neg h2] at h
      exact h
  · rename_i h1
    rw [if_neg h1] at h
    exact h
theorem btw_ints {lo hi : Int} : ∀ {xs : List PyData}, xs.all (isBtw lo hi) = true → ∃ ns : List Int, xs = intsD ns ∧ ∀ x ∈ ns, lo ≤ x ∧ x ≤ hi
  | [], _ => ⟨[], rfl, fun x h => by cases h⟩
  | d :: xs, h => by
    rw [List.all_cons, Bool.and_eq_true] at h
    obtain ⟨ns, rfl, hn⟩ := btw_ints h.2
    cases d with
    | int i =>
      have h1 : (decide (lo ≤ i) && decide (i ≤ hi)) = true := h.1
      rw [Bool.and_eq_true, decide_eq_true_eq, decide_eq_true_eq] at h1
      refine ⟨i :: ns, rfl, fun x hx => ?_⟩
      rcases List.mem_cons.mp hx with rfl | hx
      · exact h1
      · exact hn x hx
    | _ => cases h.1
theorem std_of {s : Nat} {d : PyData} (h1 : shapeS s d = true) (h2 : numsS d = true) : ∃ o w : List Int, d = stD2 o w ∧ o.length = s ∧ w.length = s ∧ Wi (10 ^ 30) o ∧ Wi (10 ^ 30) w := by
  unfold shapeS at h1
  split at h1
  · rename_i a b
    rw [Bool.and_eq_true, decide_eq_true_eq, decide_eq_true_eq] at h1
    have h2 : (a.all (isBtw (-(10 ^ 30)) (10 ^ 30)) && b.all (isBtw (-(10 ^ 30)) (10 ^ 30))) = true := h2
    rw [Bool.and_eq_true] at h2
    obtain ⟨o, rfl, ho⟩ := btw_ints h2.1
    obtain ⟨w, rfl, hw⟩ := btw_ints h2.2
    rw [List.length_map, List.length_map] at h1
    exact ⟨o, w, rfl, h1.1, h1.2, ho, hw⟩
  · cases h1
abbrev Sd := List Int × List Int
abbrev sdD (p : Sd) : PyData := stD2 p.1 p.2
end Fv
set_option maxRecDepth 100000
set_option maxHeartbeats 4000000
/-! How great numbers get, and that they can be shown. -/
namespace Fv
open PySem PySem.Spec PyProof.Rows L2 Gb
open PySem.W (T4)
theorem int_short {i : Int} (h : -(10 ^ 428) ≤ i ∧ i ≤ 10 ^ 428) : i.natAbs < 10 ^ 429 := by
  have e : (10 : Int) ^ 428 = ((10 ^ 428 : Nat) : Int) := by rw [Int.natCast_pow]; rfl
  have h1 : i.natAbs ≤ 10 ^ 428 := by
    rw [e] at h
    omega
  exact Nat.lt_of_le_of_lt h1 (Nat.pow_lt_pow_right (by decide) (by decide))
theorem int_leaf {i : Int} (h : -(10 ^ 428) ≤ i ∧ i ≤ 10 ^ 428) : (PyData.int i).leavesShort 430 = true := by
  simp only [PyData.leavesShort, decide_eq_true_eq]
  have := PySem.int_text_length_le10 (a := i) (k := 429) (by decide) (int_short h)
  simp only [PyData.shown]
  rw [PySem.ofString_length]
  exact this
theorem int_log {i : Int} (h : -(10 ^ 428) ≤ i ∧ i ≤ 10 ^ 428) : (PyData.int i).showable = true := by
  simp only [PyData.showable, decide_eq_true_eq]
  by_cases h0 : i.natAbs = 0
  · rw [h0]
    decide
  · rw [Nat.log2_lt h0]
    exact Nat.lt_of_lt_of_le (int_short h) (by
      have : (10 : Nat) ^ 429 ≤ 2 ^ 1920 := by decide +kernel
      exact this)
abbrev big : Int := 10 ^ 428
structure SdOk (p : Sd) : Prop where
  l1 : p.1.length ≤ 12
  l2 : p.2.length ≤ 12
  w1 : Wi big p.1
  w2 : Wi big p.2
section
variable {p : Sd} (h : SdOk p)
include h
end
theorem shows_of {d : PyData} (s : d.showable = true) (c : d.canLay0 = true) (dp : d.depth ≤ 40) (l : d.leavesShort 430 = true) (b : d.bulk ≤ 20000) : Shows d := by
  refine ⟨s, PyData.hasDict_of_canLay d c, dp, ?_, c⟩
  refine Nat.le_trans (PyData.shown_le_bulk 430 (by decide) d l) (Nat.le_trans (Nat.add_le_add_right (Nat.mul_le_mul_left _ b) _) (by decide))
end Fv
set_option maxRecDepth 100000
set_option maxHeartbeats 4000000
/-! What is shown is a text of Python's own signs. -/
namespace Fv
open PySem PySem.Spec PyProof.Rows L2 Gb
def Good (x : Str) : Prop := ∀ c ∈ x.cps.toList, c < 0x110000
theorem good_ofString (s : String) : Good (Str.ofString s) := fun c hc => by
  rw [PyProof.Rows.signs_ofString] at hc
  obtain ⟨ch, _, rfl⟩ := List.mem_map.mp hc
  have := ch.valid
  have e : ch.toNat = ch.val.toNat := rfl
  rcases this with h | h
  · rw [e]
    exact Nat.lt_trans h (by decide)
  · rw [e]
    exact h.2
theorem good_app {x y : Str} (hx : Good x) (hy : Good y) : Good (x ++ y) := fun c hc => by
  rw [Str.cps_append, Array.toList_append, List.mem_append] at hc
  exact hc.elim (hx c) (hy c)
theorem good_from : ∀ (ts : List Str) (k : Nat) (acc : Str), Good acc → (∀ t ∈ ts, Good t) → Good (textFrom k acc ts)
  | [], _, acc, h, _ => h
  | t :: ts, k, acc, h, ht => by
    refine good_from ts (k + 1) _ (good_app (good_app h ?_) (ht t List.mem_cons_self)) fun u hu => ht u (List.mem_cons_of_mem _ hu)
    split <;> exact good_ofString _
theorem good_list {ts : List Str} (h : ∀ t ∈ ts, Good t) : Good (listText ts) := good_app (good_from ts 0 _ (good_ofString _) h) (good_ofString _)
theorem good_join : ∀ {ts : List Str}, (∀ t ∈ ts, Good t) → Good (Str.join ", " ts)
  | [], _ => fun c hc => by simp [Str.join, Str.empty] at hc
  | [x], h => h x List.mem_cons_self
  | x :: y :: r, h => good_app (good_app (h x List.mem_cons_self) (good_ofString _)) (good_join fun t ht => h t (List.mem_cons_of_mem _ ht))
theorem good_tuple {ts : List Str} (h : ∀ t ∈ ts, Good t) : Good (tupleText ts) := by
  refine good_app (good_app (good_ofString _) (good_join h)) ?_
  split <;> exact good_ofString _
theorem strOk_of {x : Str} (h : Good x) : PyData.strOk x = true := by
  unfold PyData.strOk
  rw [← Array.all_toList, List.all_eq_true]
  exact fun c hc => decide_eq_true (h c hc)
theorem good_int (i : Int) : Good (PyData.int i).shown := by
  simp only [PyData.shown]
  exact good_ofString _
theorem lay_str {x : Str} (h : Good x) : (PyData.str x).canLay0 = true := by
  simp only [PyData.canLay0, strOk_of h]
theorem shaped_str {x : Str} (h : Good x) : SeqAt.shaped (.str x) = true := by
  unfold SeqAt.shaped
  rw [lay_str h]
  simp [PyData.depth]
end Fv
set_option maxRecDepth 100000
set_option maxHeartbeats 4000000
/-! The pen's defs by value. -/
namespace Fv
open PySem PySem.Spec PyProof.Rows L2 Gb
theorem clb_of {F : Fx} {k : Nat} {x : Str} {sp : Sp} {f : FB} (c : Cl F.P F.w F.K F.mg F.base k x sp) (h : ∀ vs H Q E, SpB F false f vs H Q E → SpF sp vs H Q E) : ClB F k x false f := by
  obtain ⟨fa, fd, ps, Fn, hm, kp, b⟩ := c.ex
  exact ⟨fa, fd, ps, (fn_frame Fn).imp h, hm, kp, b⟩
section
variable {F : Fx} {B H : Hp}
/-- the pen among the arguments -/
theorem ra_pen {pn : Pn} {xe : WX} {vs : List V} {ds : List D} (r : RA (F.g pn xe B H) B vs (.pen :: ds)) : ∃ p c T ws, pn = some (p, c, T) ∧ vs = .ref p :: ws ∧ RA (F.g pn xe B H) B ws ds := by
  match vs, r with
  | v :: ws, ⟨⟨p, c, T, e1, e2⟩, r2⟩ => exact ⟨p, c, T, ws, e1, by rw [e2], r2⟩
theorem pen_facts {p c : Addr} {T : List (Addr × Str)} {n : Nat} (sb : Same B H) (pk : Pk (some (p, c, T)) n B H) : B p = none ∧ (∃ kvs, H p = some (.dK kvs)) ∧ Pen (cutH p B H) p c n := by
  obtain ⟨⟨t, l, xs, h1, h2, h3⟩, bp, _, _, _, ys, hcb⟩ := pk
  refine ⟨bp, ⟨_, h1⟩, t, l, xs, by rw [cut_p]; exact h1, ?_, h3⟩
  unfold cutH
  rw [if_neg (fun z => by rw [z, h1] at h2; cases h2), hcb]
  have := sb _ _ hcb
  rw [h2] at this
  cases this
  rfl
theorem go_pen {p c : Addr} {k n : Nat} {J : Hp} (g : Go p c k (cutH p B H) J) (hp : Pen (cutH p B H) p c n) : ∃ kvs, J p = some (.dK kvs) := by
  obtain ⟨t, l, xs, h1, _⟩ := g.2 n hp
  exact ⟨_, h1⟩
def fDraw : FB := fun ds n _ Q => ∃ many : Int, ds = [.pen, .py (.int many)] ∧ n < 2 ^ 60 ∧ 0 < many ∧ many < 1000000 ∧ ∀ r : Int, 0 ≤ r → r < many → Q (.py (.int r)) (n + 1)
theorem b_draw {k : Nat} {x : Str} (c : Cl F.P F.w F.K F.mg F.base k x spDraw) : ClB F k x false fDraw := clb_of c fun vs H Q E h => by
  obtain ⟨pn, B, n, ds, EX, QD, sb, pk, r, ⟨many, rfl, hn, h0, h1, hq⟩, qe, _⟩ := h
  obtain ⟨p, cc, T, ws, epn, evs, r2⟩ := ra_pen r
  subst epn evs
  obtain ⟨bp, hdk, hpen⟩ := pen_facts sb pk
  match ws, r2 with
  | [v], ⟨rv, _⟩ =>
    cases dd_int rv
    refine ⟨p, B, sb, bp, hdk, p, cc, n, many, rfl, hpen, hn, h0, h1, fun r J r0 r1 g => ⟨g.1, go_pen g hpen, fun _ _ => ?_⟩⟩
    obtain ⟨mv, pk2⟩ := join_mv sb pk g
    exact qe (.int r) _ _ _ _ mv pk2 r_int (hq r r0 r1)
def fPick : FB := fun ds n _ Q => ∃ xs : List PyData, ds = [.pen, .py (.list xs)] ∧ n + 1 ≤ 2 ^ 60 ∧ 0 < xs.length ∧ xs.length < 1000 ∧ ∀ d ∈ xs, Q (.py d) (n + 1)
theorem cut_lst {p : Addr} {a : Addr} {xs : List V} (bp : B p = none) (h : B a = some (.lst xs)) : cutH p B H a = some (.lst xs) := by
  unfold cutH
  rw [if_neg (fun z => by rw [z, bp] at h; cases h), h]
  rfl
theorem b_pick {k : Nat} {x : Str} (c : Cl F.P F.w F.K F.mg F.base k x (spPick F.K)) : ClB F k x false fPick := clb_of c fun vs H Q E h => by
  obtain ⟨pn, B, n, ds, EX, QD, sb, pk, r, ⟨xs, rfl, hn, h0, h1, hq⟩, qe, _⟩ := h
  obtain ⟨p, cc, T, ws, epn, evs, r2⟩ := ra_pen r
  subst epn evs
  obtain ⟨bp, hdk, hpen⟩ := pen_facts sb pk
  match ws, r2 with
  | [v], ⟨rv, _⟩ =>
    obtain ⟨a, us, rfl, g1, g2, g3⟩ := dd_list rv
    refine ⟨p, B, sb, bp, hdk, p, cc, a, n, us, rfl, hpen, hn, SqL.of (cut_lst bp g1), by rw [g2.len]; exact h0, by rw [g2.len]; exact h1, fun i v J hi g => ⟨g.1, go_pen g hpen, fun _ _ => ?_⟩⟩
    obtain ⟨mv, pk2⟩ := join_mv sb pk g
    obtain ⟨d, e1, e2⟩ := g2.get hi
    exact qe v (.py d) _ _ _ mv pk2 (Dd.mono mv.b e2) (hq d (List.mem_of_getElem? e1))
def fGreat : FB := fun ds n _ Q => ∃ k : Nat, ds = [.pen, .py (.int (k : Int))] ∧ n + k ≤ 2 ^ 60 ∧ k ≤ 1000 ∧ ∀ r : Nat, r < 10 ^ k → Q (.py (.int (r : Int))) (n + k)
theorem b_great {k : Nat} {x : Str} (c : Cl F.P F.w F.K F.mg F.base k x spGreat) : ClB F k x false fGreat := clb_of c fun vs H Q E h => by
  obtain ⟨pn, B, n, ds, EX, QD, sb, pk, r, ⟨m, rfl, hn, h0, hq⟩, qe, _⟩ := h
  obtain ⟨p, cc, T, ws, epn, evs, r2⟩ := ra_pen r
  subst epn evs
  obtain ⟨bp, hdk, hpen⟩ := pen_facts sb pk
  match ws, r2 with
  | [v], ⟨rv, _⟩ =>
    cases dd_int rv
    refine ⟨p, B, sb, bp, hdk, p, cc, n, m, rfl, hpen, hn, h0, fun r J r0 g => ⟨g.1, go_pen g hpen, fun _ _ => ?_⟩⟩
    obtain ⟨mv, pk2⟩ := join_mv sb pk g
    exact qe (.int r) _ _ _ _ mv pk2 r_int (hq r r0)
theorem dda_perm {K : PySem.W.Frag} {ys xs : List V} (h : ys.Perm xs) : ∀ {ds : List PyData}, DdA K B xs ds → ∃ es : List PyData, es.Perm ds ∧ DdA K B ys es := by
  induction h with
  | nil => exact fun a => ⟨_, .refl _, a⟩
  | cons x _ ih =>
    intro ds a
    match ds, a with
    | d :: ds, .cons r a =>
      obtain ⟨es, h1, h2⟩ := ih a
      exact ⟨d :: es, h1.cons d, .cons r h2⟩
  | swap x y l =>
    intro ds a
    match ds, a with
    | d :: e :: ds, .cons r (.cons r2 a) => exact ⟨e :: d :: ds, .swap d e ds, .cons r2 (.cons r a)⟩
  | trans _ _ ih1 ih2 =>
    intro ds a
    obtain ⟨es, h1, h2⟩ := ih2 a
    obtain ⟨fs, h3, h4⟩ := ih1 h2
    exact ⟨fs, h3.trans h1, h4⟩
def fShuf : FB := fun ds n _ Q => ∃ xs : List PyData, ds = [.pen, .py (.list xs)] ∧ n + xs.length ≤ 2 ^ 60 ∧ xs.length < 1000 ∧ ∀ ys : List PyData, ys.Perm xs → Q (.py (.list ys)) (n + xs.length)
theorem b_shuf {k : Nat} {x : Str} (c : Cl F.P F.w F.K F.mg F.base k x (spShuf F.K)) : ClB F k x false fShuf := clb_of c fun vs H Q E h => by
  obtain ⟨pn, B, n, ds, EX, QD, sb, pk, r, ⟨xs, rfl, hn, h1, hq⟩, qe, _⟩ := h
  obtain ⟨p, cc, T, ws, epn, evs, r2⟩ := ra_pen r
  subst epn evs
  obtain ⟨bp, hdk, hpen⟩ := pen_facts sb pk
  match ws, r2 with
  | [v], ⟨rv, _⟩ =>
    obtain ⟨a, us, rfl, g1, g2, g3⟩ := dd_list rv
    have hl := g2.len
    refine ⟨p, B, sb, bp, hdk, p, cc, a, n, us, rfl, hpen, by rw [hl]; exact hn, SqL.of (cut_lst bp g1), by rw [hl]; exact h1, fun q ys J hq0 hqJ hperm g => ⟨g.1, go_pen g hpen, fun hlen hfr => ?_⟩⟩
    obtain ⟨mv, pk2⟩ := join_mv sb pk g
    obtain ⟨es, e1, e2⟩ := dda_perm hperm (g2.mono mv.b)
    have := qe (.ref q) (.py (.list es)) (n + us.length) _ _ mv pk2 (r_lst (join_rd g.1 (go_pen g hpen) hfr sb hqJ rfl) e2 (hlen _ _ hqJ)) (by rw [hl]; exact hq es e1)
    exact this
theorem flat_ties : ∀ ts : List Tie, flatTs (ts.map PySem.W.Datum.toD) = true
  | [] => rfl
  | t :: ts => by
    show (flatT (PySem.W.Datum.toD t) && flatTs (ts.map PySem.W.Datum.toD)) = true
    rw [flat_ties ts]
    rfl
/-- size and ties -/
def webD (s : Int) (ts : List Tie) : PyData := .tuple [.int s, .list (ts.map tieD)]
theorem r_web2 {p c : Addr} {n k : Nat} {J : Hp} {r : V} {s : Int} {ts : List Tie} (g : Go p c k (cutH p B H) J) (hJp : ∃ kvs, J p = some (.dK kvs)) (hlen : LenOk J) (hfr : ∀ b u, H b = some u → cutH p B H b = none → J b = none) (sb : Same B H) (h : Web2 F.K J r s ts) : Dd F.K (joinB p B H J) r (webD s ts) := by
  obtain ⟨t, v, rfl, h1, l, us, rfl, h2, h3⟩ := h
  refine .tup (SqT.of (join_rd g.1 hJp hfr sb h1 rfl)) (.cons (.int s) (.cons (.lst (join_rd g.1 hJp hfr sb h2 rfl) ?_ (hlen _ _ h2)) .nil)) (hlen _ _ h1)
  have := dda_join hlen g.1 hJp hfr sb h3 (flat_ties ts)
  exact this
def fWeb (lo cost cap : Nat) (m : Int) : FB := fun ds n _ Q => ∃ most : Int, ds = [.pen, .py (.int most)] ∧ n + cost ≤ 2 ^ 60 ∧ (lo : Int) ≤ most ∧ most ≤ 12 ∧ ∀ (s : Int) (ts : List Tie), 1 ≤ s → s ≤ most → TiesOk m s ts → ts.length ≤ cap → Q (.py (webD s ts)) (n + cost)
theorem b_web {lo k : Nat} {x : Str} (c : Cl F.P F.w F.K F.mg F.base k x (spWeb F.K lo)) : ClB F k x false (fWeb lo 1000 200 9) := clb_of c fun vs H Q E h => by
  obtain ⟨pn, B, n, ds, EX, QD, sb, pk, r, ⟨most, rfl, hn, h1, h2, hq⟩, qe, _⟩ := h
  obtain ⟨p, cc, T, ws, epn, evs, r2⟩ := ra_pen r
  subst epn evs
  obtain ⟨bp, hdk, hpen⟩ := pen_facts sb pk
  match ws, r2 with
  | [v], ⟨rv, _⟩ =>
    cases dd_int rv
    refine ⟨p, B, sb, bp, hdk, p, cc, n, most, rfl, hpen, hn, h1, h2, fun r J s ts g hw hs0 hs1 hts hlt => ⟨g.1, go_pen g hpen, fun hlen hfr => ?_⟩⟩
    obtain ⟨mv, pk2⟩ := join_mv sb pk g
    exact qe r (.py (webD s ts)) _ _ _ mv pk2 (r_web2 (n := n) g (go_pen g hpen) hlen hfr sb hw) (hq s ts hs0 hs1 hts hlt)
def fNum : FB := fun ds n _ Q => ∃ far : Nat, ds = [.pen, .py (.int (far : Int))] ∧ n + 110 ≤ 2 ^ 60 ∧ 2 ≤ far ∧ far ≤ 60 ∧ ∀ r : Int, -(10 ^ far) < r → r < 10 ^ far → Q (.py (.int r)) (n + 110)
theorem b_num {k : Nat} {x : Str} (c : Cl F.P F.w F.K F.mg F.base k x (spNum F.K)) : ClB F k x false fNum := clb_of c fun vs H Q E h => by
  obtain ⟨pn, B, n, ds, EX, QD, sb, pk, r, ⟨far, rfl, hn, h1, h2, hq⟩, qe, _⟩ := h
  obtain ⟨p, cc, T, ws, epn, evs, r2⟩ := ra_pen r
  subst epn evs
  obtain ⟨bp, hdk, hpen⟩ := pen_facts sb pk
  match ws, r2 with
  | [v], ⟨rv, _⟩ =>
    cases dd_int rv
    refine ⟨p, B, sb, bp, hdk, p, cc, n, far, rfl, hpen, hn, h1, h2, fun r J g r0 r1 => ⟨g.1, go_pen g hpen, fun _ _ => ?_⟩⟩
    obtain ⟨mv, pk2⟩ := join_mv sb pk g
    exact qe (.int r) _ _ _ _ mv pk2 r_int (hq r r0 r1)
/-- a standing -/
def stD (o n : List Int) : PyData := .tuple [.tuple (o.map PyData.int), .tuple (n.map PyData.int)]
def fStand : FB := fun ds n _ Q => ∃ (far : Nat) (s : Int), ds = [.pen, .py (.int s), .py (.int (far : Int))] ∧ n + 3000 ≤ 2 ^ 60 ∧ 1 ≤ s ∧ s ≤ 12 ∧ 2 ≤ far ∧ far ≤ 60 ∧
  ∀ o nw : List Int, (o.length : Int) = s → (nw.length : Int) = s → (∀ k ∈ o ++ nw, -(10 ^ far) < k ∧ k < 10 ^ far) → Q (.py (stD o nw)) (n + 3000)
theorem b_stand {k : Nat} {x : Str} (c : Cl F.P F.w F.K F.mg F.base k x (spStand F.K)) : ClB F k x false fStand := clb_of c fun vs H Q E h => by
  obtain ⟨pn, B, n, ds, EX, QD, sb, pk, r, ⟨far, s, rfl, hn, h1, h2, h3, h4, hq⟩, qe, _⟩ := h
  obtain ⟨p, cc, T, ws, epn, evs, r2⟩ := ra_pen r
  subst epn evs
  obtain ⟨bp, hdk, hpen⟩ := pen_facts sb pk
  match ws, r2 with
  | [v, v2], ⟨rv, rv2, _⟩ =>
    cases dd_int rv
    cases dd_int rv2
    refine ⟨p, B, sb, bp, hdk, p, cc, n, far, s, rfl, hpen, hn, h1, h2, h3, h4, fun r J o nw g hst ho hw hb => ⟨g.1, go_pen g hpen, fun hlen hfr => ?_⟩⟩
    obtain ⟨mv, pk2⟩ := join_mv sb pk g
    obtain ⟨t, a, b, e0, e1, e2, e3⟩ := hst
    subst e0
    have tel : ∀ {q : Addr} {xs : List V}, J q = some (.tup xs) → joinB p B H J q = some (.tup xs) := fun {q xs} e => join_rd g.1 (go_pen g hpen) hfr sb e rfl
    exact qe (.ref t) (.py (stD o nw)) _ _ _ mv pk2 (.tup (SqT.of (tel e1)) (.cons (.tup (SqT.of (tel e2)) (dd_ints o) (hlen _ _ e2)) (.cons (.tup (SqT.of (tel e3)) (dd_ints nw) (hlen _ _ e3)) .nil)) (hlen _ _ e1)) (hq o nw ho hw hb)
end
end Fv
set_option maxRecDepth 100000
set_option maxHeartbeats 4000000
/-! A law's pen; what goes by value from there. -/
namespace Fv
open PySem PySem.Spec PyProof.Rows L2 Gb
open PySem.W (T4)
/-- the pen, all that is new no table -/
def spPen2 (K : PySem.W.Frag) : Sp := fun vs H Q _ => ∃ (a : Addr) (ns : List Int), vs = [.ref a] ∧ SqL K H a (ns.map V.int) ∧ ∀ p c H', Pen H' p c 0 → Same H H' → NT H H' → p ≠ c → Q (.ref p) H'
theorem sc__law_pen : FnScope ["script"] ["script"] (defScope s__law_pen) := ⟨rfl, rfl, rfl, by decide +kernel, rfl, by decide +kernel, by decide +kernel⟩
theorem ok__law_pen {P : Program} {w : World} {K : PySem.W.Frag} {mg : Str → Option Value} {base : Heap} (D : Dn K mg "_law_pen" s__law_pen ["script"]) (B : Bt mg) : Cl P w K mg base 1 "_law_pen" (spPen2 K) := by
  refine cl_of D sc__law_pen (fun vs H Q E h => ?_) (fun cdv f A outer s H vs Q E hr h => ?_)
  · obtain ⟨a, ns, rfl, _⟩ := h
    rfl
  · obtain ⟨a, ns, rfl, hs, q⟩ := h
    have nd := sc__law_pen.nd
    refine ⟨_, (pss_one (ps_ret (pe_disp (pps_cons pe_str (pe_callTy call_listK (by rfl) B.list (by decide +kernel) (pa_cons (pe_slice sl_listK (pv 0) po_none (po_some pe_int)) pa_nil)) (pps_cons pe_str pe_int (pps_cons pe_str pe_int pps_nil))) (by rfl) (by rfl) (fun z => by cases z) (by decide)))), ?_⟩
    intro p hp
    have k1 : (upd H p (.dK [])) p = some (.dK []) := upd_same
    have s1 : Same H (upd H p (.dK [])) := same_new hp
    have n1 : NT H (upd H p (.dK [])) := NT.refl.upd
    generalize upd H p (.dK []) = H1 at k1 s1 n1 ⊢
    refine ⟨.ref a, rfl, 63, rfl, a, _, rfl, Ex.l (Ex.of s1) hs, fun l hl => ?_⟩
    have k2 : (upd H1 l (.lst (cutV (ns.map V.int) none (some 63)))) l = some (.lst (cutV (ns.map V.int) none (some 63))) := upd_same
    have s2 : Same H1 (upd H1 l (.lst (cutV (ns.map V.int) none (some 63)))) := same_new hl
    have n2 : NT H (upd H1 l (.lst (cutV (ns.map V.int) none (some 63)))) := n1.upd
    generalize upd H1 l (.lst (cutV (ns.map V.int) none (some 63))) = H2 at k2 s2 n2 ⊢
    refine ⟨l, _, rfl, .inl (SqL.of k2), fun c hc => ?_⟩
    have k3 : (upd H2 c (.lst (cutV (ns.map V.int) none (some 63)))) c = some (.lst (cutV (ns.map V.int) none (some 63))) := upd_same
    have s3 : Same H2 (upd H2 c (.lst (cutV (ns.map V.int) none (some 63)))) := same_new hc
    have n3 : NT H (upd H2 c (.lst (cutV (ns.map V.int) none (some 63)))) := n2.upd
    generalize upd H2 c (.lst (cutV (ns.map V.int) none (some 63))) = H3 at k3 s3 n3 ⊢
    have kp := s3 _ _ (s2 _ _ k1)
    have e63 : cutV (ns.map V.int) none (some 63) = (ns.take 63).map V.int := by
      rw [show (63 : Int) = ((63 : Nat) : Int) from rfl, cut_to, List.map_take]
    have npc : p ≠ c := fun e => by rw [e, k3] at kp; cases kp
    refine ⟨kp, [(.inr "cells", .ref c), (.inr "turn", .int 0), (.inr "left", .int 0)], rfl, Nat.le_of_lt (Nat.lt_of_sub_ne_zero (by intro z; cases z)), ?_⟩
    refine q p c _ ⟨0, 0, ns.take 63, upd_same, ?_, by omega, by omega, by omega⟩ ?_ n3.upd npc
    · rw [upd_ne (Ne.symm npc), k3, e63]
    · exact fun b o e => by
        have nb : b ≠ p := fun z => by
          rw [z, hp] at e
          cases e
        rw [upd_ne nb]
        exact s3 _ _ (s2 _ _ (s1 _ _ e))
/-- what goes by value from here on -/
def tRest (F : Fx) (W : WX) (w : WS) : TS := fun D σ H => ∃ pn B0 H0 ρ n B Ex DB, St (F.g pn W B0 H0) n B H ρ σ ∧ w ρ n Ex DB ∧ XS (F.g pn W B0 H0) B Ex ∧ EO (F.g pn W B0 H0) false B D DB
def spLawX (K : PySem.W.Frag) : Sp := fun vs H Q _ => ∃ (a : Addr) (ob : Obj) (ns : List Int), vs = [.ref a] ∧ Start K H a [] ob ns ∧ ns.length ≤ 63 ∧ ∀ H', Q (.bl true) H'
end Fv
set_option maxRecDepth 100000
set_option maxHeartbeats 4000000
/-! Ties moved on. -/
namespace Fv
open PySem PySem.Spec PyProof.Rows L2 Gb
open PySem.W (T4)
def movW (ts : List Tw) (b : Int) : List Tw := ts.map fun t => ⟨t.a + b, t.b + b, t.c, t.d⟩
def movD (b : Int) : D → PyData
  | .py (.tuple [.int x, .int y, .int z, .int w]) => .tuple [.int (x + b), .int (y + b), .int z, .int w]
  | _ => .none
def fMoved : FB := fun ds n _ Q => ∃ (ts : List Tw) (b : Int), ds = [.py (.list (ts.map tieD)), .py (.int b)] ∧ Q (.py (.list ((movW ts b).map tieD))) n
end Fv
set_option maxRecDepth 100000
set_option maxHeartbeats 4000000
/-! Two webs beside one another. -/
namespace Fv
open PySem PySem.Spec PyProof.Rows L2 Gb
open PySem.W (T4)
/-- what stands for a web -/
structure WebOk (s : Nat) (M : Nat → Nat → Int) : Prop where
  s1 : 1 ≤ s
  s12 : s ≤ 12
  ok : TiesOk 9 (s : Int) (tiesW M s)
/-- the web of both -/
def bothW (s : Nat) (M : Nat → Nat → Int) (s' : Nat) (M' : Nat → Nat → Int) : List Tw := tiesW M s ++ movW (tiesW M' s') s
def fBeside : FB := fun ds n EX Q => ∃ (s : Nat) (M : Nat → Nat → Int) (s' : Nat) (M' : Nat → Nat → Int), ds = [.web s M, .web s' M'] ∧ WebOk s M ∧ WebOk s' M' ∧
  if s + s' ≤ 12 then Q (.web (s + s') (matOf (bothW s M s' M'))) n else EX (xPart "NoWeb" "size") n
def fBesideSt : FB := fun ds n EX Q => ∃ (s : Nat) (M : Nat → Nat → Int) (d : PyData) (s' : Nat) (M' : Nat → Nat → Int) (d' : PyData), ds = [.web s M, .py d, .web s' M', .py d'] ∧ WebOk s M ∧ WebOk s' M' ∧
  needS s d EX n (needS s' d' EX n (if s + s' ≤ 12 then ∀ p p' : Sd, d = sdD p → d' = sdD p' → p.1.length = s → p.2.length = s → p'.1.length = s' → p'.2.length = s' → Q (.py (sdD (p.1 ++ p'.1, p.2 ++ p'.2))) n else EX (xPart "NoWeb" "size") n))
end Fv
set_option maxRecDepth 100000
set_option maxHeartbeats 4000000
/-! What is no standing, by the law's own look. -/
namespace Fv
open PySem PySem.Spec PyProof.Rows L2 Gb
open PySem.W (T4)
theorem sc__law_whole : FnScope ["thing", "low", "high"] ["thing", "low", "high"] (defScope s__law_whole) := ⟨rfl, rfl, rfl, by decide +kernel, rfl, by decide +kernel, by decide +kernel⟩
theorem ok__law_whole {F : Fx} (D : Dn F.K F.mg "_law_whole" s__law_whole ["thing", "low", "high"]) (bz : Bz F.mg)  : ClB F 2 "_law_whole" false fBetween := by
  refine cl_b D sc__law_whole (fun ds n EX QD h => ?_) (fun fa cdv A outer s H E pn B0 hr tk po => ?_)
  · obtain ⟨d, lo, hi, rfl, _⟩ := h
    rfl
  · have nd := sc__law_whole.nd
    refine ⟨_, _, (bss_one (bs_ret (be_and (be_isi (T := "int") (by decide) (by rfl) bz.isinstance (BE.f (be_nm 0 (pv 0))) (pe_bltn (v := .ty "int") (u := .type "int") (by rfl) bz.int (by decide +kernel) rfl)) (be_and (be_not (be_isi (T := "bool") (by decide) (by rfl) bz.isinstance (BE.f (be_nm 0 (pv 0))) (pe_bltn (v := .ty "bool") (u := .type "bool") (by rfl) bz.bool (by decide +kernel) rfl))) (be_one (be_chain op_le op_le of_int of_int (BE.f (be_nm 1 (pv 1))) (BE.f (be_nm 0 (pv 0))) (BE.f (be_nm 2 (pv 2))))))))), ?_⟩
    rintro _ n EX QD ⟨d, lo, hi, rfl, q⟩
    simp only [startB, Nat.reduceAdd, Nat.reduceSub, List.replicate_succ, List.replicate_zero, wLc, wLc2, wISeq, wipeB, List.set_cons_succ, List.set_cons_zero, wgTup, wgCons, wgNil, wgNm, Bool.not_true, Bool.not_false, Bool.false_eq_true, if_true, if_false, List.map_cons, List.map_nil, List.length_cons, List.length_nil, List.cons_append, List.nil_append, wName, List.getElem?_cons_zero, List.getElem?_cons_succ, wC, wOp, wCall, wACons, wANil, wAndV, wOrV, wNotV, wIsi, wIsi2, wCmp, wChain, wChain3, wOfT, wIfE, wAnd, wOr, wNotT, bInt, bEq, bNe, bIsN, bNotN, bIn, bNotIn, wCall1, bLen, bAll, bAny, bSum, sRet, sRetN, sRetO, sIf, sSeq, sNil, sExpr, sSet, sAsg, sPar, wVE, wVN, wOfN, wOfE, wTup, wLst, pyAll, isB_list, isB_tuple, isB_int, isB_bool]
    cases d <;> simp only [isBtw, if_true, if_false, Bool.false_eq_true, Bool.not_true, Bool.not_false] at q ⊢ <;> try exact q
    rename_i i
    by_cases h1 : lo ≤ i
    · simp only [decide_eq_true h1, if_true, Bool.true_and] at q ⊢
      exact q
    · simp only [decide_eq_false h1, if_false, Bool.false_and, Bool.false_eq_true] at q ⊢
      exact q
theorem cpowY : CPow 10 30 := ⟨by decide, by decide, by decide⟩
section
variable {wg : WG} {wt : WT} {we : WE} {ρ : List Sl} {n : Nat}
def lift (p : PyData → Bool) : D → Bool := fun z => match z with
  | .py d => p d
  | _ => false
def down : D → PyData := fun z => match z with
  | .py d => d
  | _ => .none
theorem lift_filter (p : PyData → Bool) : ∀ ds : List PyData, ((ds.map D.py).filter (lift p)).map down = ds.filter p
  | [] => rfl
  | d :: ds => by
    have ih := lift_filter p ds
    rw [List.map_cons]
    cases h : p d with
    | true => rw [List.filter_cons_of_pos (show lift p (.py d) = true from h), List.filter_cons_of_pos h, List.map_cons, ih]; rfl
    | false => rw [List.filter_cons_of_neg (by show ¬ p d = true; rw [h]; exact Bool.false_ne_true), List.filter_cons_of_neg (by rw [h]; exact Bool.false_ne_true), ih]
/-- a comprehension that keeps what is asked -/
theorem lc_sieve (p : PyData → Bool) {Q : List PyData → Nat → Prop} (ds : List PyData)
    (h : ∀ d ∈ ds, ∀ (P : PyData → Nat → Prop) (R : Nat → Prop), (p d = true → P d n) → (p d = false → R n) → wg (.py d) ρ fun ρ2 => wt ρ2 n (fun _ _ => False) fun b n1 => if b = true then we ρ2 n1 (fun _ _ => False) fun z n2 => (match z with
      | .py e => P e n2
      | _ => False) else R n1) (q : Q (ds.filter p) n) : lcGo wg wt we (ds.map D.py) [] n ρ Q := by
  refine lc_filter (lift p) down _ _ (fun z hz P R h1 h2 => ?_) ?_
  · obtain ⟨w, hw, rfl⟩ := List.mem_map.mp hz
    exact h w hw P R h1 h2
  · rw [List.nil_append, lift_filter]
    exact q
end
theorem sieve_all (p : PyData → Bool) : ∀ xs : List PyData, (xs.filter fun d => !p d).isEmpty = xs.all p
  | [] => rfl
  | x :: xs => by
    rw [List.all_cons]
    cases h : p x with
    | true => rw [List.filter_cons_of_neg (by rw [h]; exact Bool.false_ne_true), Bool.true_and, sieve_all p xs]
    | false => rw [List.filter_cons_of_pos (by rw [h]; rfl), Bool.false_and]; rfl
def badSt (s : Nat) (d : PyData) : Str := if shapeS s d = true then (if numsS d = true then "none" else "numbers") else "standing"
def fBad : FB := fun ds n _ Q => ∃ (s : Nat) (d : PyData), ds = [.py (.int (s : Int)), .py d] ∧ s ≤ 12 ∧ Q (.py (.str (badSt s d))) n
end Fv
set_option maxRecDepth 100000
set_option maxHeartbeats 4000000
/-! range(a, 0, -1). -/
namespace Fv
open PySem PySem.Spec PyProof.Rows L2 Gb
section
variable {X : Cx} {G : Cg} {a b c : Expr} {ta tb tc : TE} {wa wb wc : WE} {pos p : Pos}
def dwnD (lo : Int) (n : Nat) : List D := (List.range n).map fun (k : Nat) => .py (.int (lo - (k : Int)))
def wIRd (wa wb wc : WE) : WI := fun ρ n E Q => wa ρ n E fun d n1 => wb ρ n1 E fun d2 n2 => wc ρ n2 E fun d3 n3 => match d, d2, d3 with
  | .py (.int i), .py (.int j), .py (.int k) => k = -1 ∧ j = 0 ∧ 0 ≤ i ∧ i ≤ 100000 ∧ Q (dwnD i i.toNat) n3
  | _, _, _ => False
end
end Fv
set_option maxRecDepth 100000
set_option maxHeartbeats 4000000
/-! A law's frame: from the pen on all goes by value. -/
namespace Fv
open PySem PySem.Spec PyProof.Rows L2 Gb
open PySem.W (T4)
theorem rep_no {m j : Nat} {x : Sl} (h : (List.replicate m Sl.no)[j]? = some x) : x = .no := by
  rw [List.getElem?_replicate] at h
  split at h
  · exact (Option.some.inj h).symm
  · cases h
section
variable {m : Bool} {X : Cx} {G : Cg} {a b c : Expr} {ta tb tc : TE} {wa wb wc : WE} {wv wv2 wv3 : WV} {pos : Pos} {x y z : Str} {i j l : Nat}
/-- x, y = a, b where they are no plain locals: by a tuple -/
theorem bs_parT {i j : Nat} {px py pt pt2 : Pos} {kt k2 : Nat} (ha : BE X G a ta wa) (hb : BE X G b tb wb) (ht : PG X (.Tuple [.Name x px, .Name y py] kt pt) (gTup G.K 2 (gCons (gName i) (gCons (gName j) gNil))))
    (he1 : starEach (a :: [b]) X.env = (false, eval a X.env) :: starEach [b] X.env := by rfl) (he2 : starEach (b :: []) X.env = (false, eval b X.env) :: starEach [] X.env := by rfl)
    (hs : swapsWithSole [.Tuple [.Name x px, .Name y py] kt pt] (.Tuple [a, b] k2 pt2) pos.line X.env = pure false := by rfl) (hw : swappedStores [.Tuple [.Name x px, .Name y py] kt pt] (.Tuple [a, b] k2 pt2) X.env = pure none := by rfl)
    (h1 : (assignEach [.Tuple [.Name x px, .Name y py] kt pt] X.env).map (·.2) = [assign (.Tuple [.Name x px, .Name y py] kt pt) X.env] := by rfl) :
    BS m X G (.Assign [.Tuple [.Name x px, .Name y py] kt pt] (.Tuple [a, b] k2 pt2) pos) (tAsg (tTup (tCons ta (tCons tb tNil))) (gTup G.K 2 (gCons (gName i) (gCons (gName j) gNil)))) (sPar i j (wVE wa) (wVE wb)) :=
  ⟨ps_asg (pe_tup (pa_cons ha.pe (pa_cons hb.pe pa_nil he2) he1)) ht hs hw h1, fun ρ σ n B H E D DB S hw xs eo => ha.snd ρ σ n B H _ _ _ S hw (xs.at S) fun v1 d1 n1 B1 H1 m1 pk1 r1 q1 =>
    hb.snd ρ σ n1 B1 H1 _ _ _ (S.step m1 pk1) q1 ((xs.at S).step m1) fun v2 d2 n2 B2 H2 m2 pk2 r2 q2 => ⟨Nat.le_trans (show 2 ≤ 100000 by decide) (line5 (Nat.le_refl _)), fun p hp => by
      have m3 := Mv.new (pn := none) (o := .tup [v1, v2]) m2.s hp
      have S3 := ((S.step m1 pk1).step m2 pk2).step m3.of (pk2.mv m3)
      refine ⟨p, [v1, v2], rfl, SqT.of upd_same, rfl, v1, [v2], rfl, v2, [], rfl, rfl, ?_⟩
      exact eo.nx _ _ n2 _ _ ((m1.b.trans m2.b).trans m3.b) ((S3.set (i := i) (r1.mono (m2.b.trans m3.b))).set (i := j) (r2.mono m3.b)) q2⟩⟩
end
/-! ### ranges -/
theorem rng0 {n j : Nat} {d : D} (h : (rngD 0 n)[j]? = some d) : j < n ∧ d = .py (.int (j : Int)) := by
  have hj : j < n := by
    have := (List.getElem?_eq_some_iff.mp h).1
    rw [rngD_len] at this
    exact this
  refine ⟨hj, ?_⟩
  unfold rngD at h
  rw [List.getElem?_map, List.getElem?_range hj] at h
  have := (Option.some.inj h).symm
  rw [this]
  show D.py (.int (0 + (j : Int))) = _
  rw [Int.zero_add]
/-- a loop that may be left by a break with the same known -/
theorem for_invB {wg : WG} {b : WS} {E : XB} (I : Nat → List Sl → Nat → Prop) (Bk : List Sl → Nat → Prop) (ds : List D) (DB : EB) (ρ : List Sl) (n : Nat)
    (hs : ∀ (j : Nat) (d : D) (ρ : List Sl) (n : Nat) (DB' : EB), ds[j]? = some d → I j ρ n → DB'.rt = DB.rt → (∀ ρ' n', Bk ρ' n' → DB'.bk ρ' n') → (∀ ρ' n', I (j + 1) ρ' n' → DB'.nx ρ' n') → (∀ ρ' n', I (j + 1) ρ' n' → DB'.ct ρ' n') → wg d ρ fun ρ2 => b ρ2 n E DB')
    (h0 : I 0 ρ n) (hp : ∀ ρ' n', I ds.length ρ' n' → DB.nx ρ' n') (hd : ∀ ρ' n', Bk ρ' n' → DB.nx ρ' n') : forGo wg b ds ρ n E DB :=
  for_inv I ds 0 DB ρ n (fun j d ρ n DB' hj hI hrt hbk hnx hct => hs j d ρ n DB' hj (by rw [Nat.zero_add] at hI; exact hI) hrt (fun ρ' n' h => by rw [hbk]; exact hd _ _ h) (fun ρ' n' h => hnx _ _ (by rw [Nat.zero_add]; exact h)) (fun ρ' n' h => hct _ _ (by rw [Nat.zero_add]; exact h))) h0 (fun ρ' n' h => hp _ _ (by rw [Nat.zero_add] at h; exact h))
end Fv
set_option maxRecDepth 100000
set_option maxHeartbeats 4000000
/-! What is told of what is asked, or what was refused. -/
namespace Fv
open PySem PySem.Spec PyProof.Rows L2 Gb
open PySem.W (T4)
abbrev RefL (F : Fx) : Prop := RefG F (["NoWeb", "NoStanding", "NoPart", "NoBeats", "NoPost"] : List Str) (["NoWeb", "NoStanding", "NoPart", "NoBeats", "NoPost", "NotAll", "NotWaves", "TooGreat"] : List Str) (["part", "posts", "beats", "post"] : List Str) (["NoPost"] : List Str)
def toldX (EX : XQ) (Q : QE) (x : Exn) (n : Nat) : Prop :=
  if decide (("NoStanding" : Str) = x.cls) = true then (x.fs ≠ [] ∧ (match x.fs.lookup ("part" : Str) with | some z => Q (.py z) n | none => False)) else EX x n
def toldR (Q : QE) (d : D) (n : Nat) : Prop := match d with | .py z => Q (.py (.list [z])) n | _ => False
def fTold (th : TH) : TH := fun n EX Q => th n (toldX EX Q) (toldR Q)
theorem sc__law_told : FnScope ["asked", "caught", "found", "e", "plain"] ["asked"] (defScope s__law_told) := ⟨rfl, rfl, rfl, by decide +kernel, rfl, by decide +kernel, by decide +kernel⟩
theorem ok__law_told {F : Fx} (D : Dn F.K F.mg "_law_told" s__law_told ["asked"]) (bz : Bz F.mg) (xr : RefL F) : ClL F 6 "_law_told" "asked" fTold := by
  obtain ⟨g, fd, Fn, hm, b⟩ := D.ex
  refine ⟨g, _, _, fd, hm, Fn.kp, Fn, b, sc__law_told, rfl, .inl (by rfl), by decide, by decide, fun cdv A outer s H E pn B v th tA hr tk act => ?_⟩
  have nd := sc__law_told.nd
  have hall : ∀ nm cv, F.ex nm = some cv → ∃ C, cv = .ref C := fun nm cv h => let ⟨C, e, _⟩ := xr.all nm cv h; ⟨C, e⟩
  have hal : XlAll (F.g pn (XKx E) B H) F.K := xr.all
  refine ⟨_, _, (bss_cons (bs_parT (i := 1) (j := 2) be_non be_non (pg_tupK (n := 2) (by rfl) (pgs_cons (pg_name (i := 1) nd rfl (.inl rfl)) (pgs_cons (pg_name (i := 2) nd rfl (.inl rfl)) pgs_nil))))
    (bss_cons (bs_try rfl rfl rfl nd hall tk (fun W pnz xe tkz => (bss_one (bs_setV (i := 2) (BE.toV (act W pnz xe tkz _ _)) nd rfl (.inl rfl))))
    (BHd.named (i := 3) ⟨by rfl, by decide, .inl (xr.mgs _ (by decide))⟩ rfl rfl (is := fun nm => decide (("NoStanding" : Str) = nm)) (fun nm C h => (xr.row h).exm _ (by decide)) (fun a pn => (bss_one (bs_setV (i := 1) (BE.toV (be_nm 3 (pv 3))) nd rfl (.inl rfl)))) BHd.nil))
    (bss_cons (bs_if (bt_isN (BE.f (be_nm 1 (pv 1))) (BE.f be_non))
    (bss_one (bs_ret (BN.e (bn_lst (ba_cons (be_nm 2 (pv 2)) ba_nil)))))
    bss_nil)
    (bss_cons (bs_setV (i := 4) (BE.toV (be_and (be_xi1H (is := fun nm => !(["NoPost"] : List Str).any fun c => decide (c = nm)) (v := .ty "ValueError") (cv := .type "ValueError") (by exact hal) (by exact fun u h => h) (by exact fun nm C h => (xr.row h).kv) (by rfl) bz.isinstance (be_nm 1 (pv 1)) (pe_bltn (v := .ty "ValueError") (u := .type "ValueError") (by rfl) xr.mgV (by decide +kernel) rfl)) (be_one (be_not (be_xiNH (is := fun nm => (["NoWeb", "NoPart"] : List Str).any fun c => decide (c = nm)) (by exact hal) (pcs_cons (pe_gv (by rfl) (xr.cl (x := "NoWeb") (by decide))) (by exact fun u h => h) (pcs_cons (pe_gv (by rfl) (xr.cl (x := "NoPart") (by decide))) (by exact fun u h => h) pcs_nil)) (by exact Nat.le_of_ble_eq_true rfl) (by exact fun nm C h => (xr.row h).any ["NoWeb", "NoPart"] (by decide)) (by rfl) bz.isinstance (be_nm 1 (pv 1))))))) nd rfl (.inl rfl))
    (bss_one (bs_ret (be_ifExp (bt_val (be_nm 4 (pv 4))) (be_xeH (by exact hal) (by exact fun nm C h => (xr.row h).fld _ (by decide)) (be_nm 1 (pv 1))) be_str))))))), ?_⟩
  intro n EX QD h
  simp only [startB, Nat.reduceAdd, Nat.reduceSub, List.replicate_succ, List.replicate_zero, wLc, wLc2, wISeq, wipeB, List.set_cons_succ, List.set_cons_zero, wgTup, wgCons, wgNil, wgNm, Bool.not_true, Bool.not_false, Bool.false_eq_true, if_true, if_false, List.map_cons, List.map_nil, List.length_cons, List.length_nil, List.cons_append, List.nil_append, wName, List.getElem?_cons_zero, List.getElem?_cons_succ, wC, wOp, wCall, wACons, wANil, wAndV, wOrV, wNotV, wIsi, wIsi2, wCmp, wChain, wChain3, wOfT, wIfE, wAnd, wOr, wNotT, bInt, bEq, bNe, bIsN, bNotN, bIn, bNotIn, wCall1, bLen, bAll, bAny, bSum, sRet, sRetN, sRetO, sIf, sSeq, sNil, sExpr, sSet, sAsg, sPar, wVE, wVN, wOfN, wOfE, wTup, wLst, pyAll, sTry, hGo, wAct]
  refine ⟨trivial, (congr (congrArg (th n) (funext fun x => funext fun n' => ?_)) (funext fun d => funext fun n' => ?_) : _ = th n (toldX EX QD) (toldR QD)).mpr h⟩
  · unfold toldX
    by_cases c1 : decide (("NoStanding" : Str) = x.cls) = true
    · rw [if_pos c1, if_pos c1]
      congr 1
      have e := (of_decide_eq_true c1).symm
      simp only [startB, Nat.reduceAdd, Nat.reduceSub, List.replicate_succ, List.replicate_zero, wLc, wLc2, wISeq, wipeB, List.set_cons_succ, List.set_cons_zero, wgTup, wgCons, wgNil, wgNm, Bool.not_true, Bool.not_false, Bool.false_eq_true, if_true, if_false, List.map_cons, List.map_nil, List.length_cons, List.length_nil, List.cons_append, List.nil_append, wName, List.getElem?_cons_zero, List.getElem?_cons_succ, wC, wOp, wCall, wACons, wANil, wAndV, wOrV, wNotV, wIsi, wIsi2, wCmp, wChain, wChain3, wOfT, wIfE, wAnd, wOr, wNotT, bInt, bEq, bNe, bIsN, bNotN, bIn, bNotIn, wCall1, bLen, bAll, bAny, bSum, sRet, sRetN, sRetO, sIf, sSeq, sNil, sExpr, sSet, sAsg, sPar, wVE, wVN, wOfN, wOfE, wTup, wLst, pyAll, asB, unB, wXi, isNon]
      rw [if_pos (by rw [e]; decide +kernel), if_pos (by rw [e]; decide +kernel)]
      simp only [startB, Nat.reduceAdd, Nat.reduceSub, List.replicate_succ, List.replicate_zero, wLc, wLc2, wISeq, wipeB, List.set_cons_succ, List.set_cons_zero, wgTup, wgCons, wgNil, wgNm, Bool.not_true, Bool.not_false, Bool.false_eq_true, if_true, if_false, List.map_cons, List.map_nil, List.length_cons, List.length_nil, List.cons_append, List.nil_append, wName, List.getElem?_cons_zero, List.getElem?_cons_succ, wC, wOp, wCall, wACons, wANil, wAndV, wOrV, wNotV, wIsi, wIsi2, wCmp, wChain, wChain3, wOfT, wIfE, wAnd, wOr, wNotT, bInt, bEq, bNe, bIsN, bNotN, bIn, bNotIn, wCall1, bLen, bAll, bAny, bSum, sRet, sRetN, sRetO, sIf, sSeq, sNil, sExpr, sSet, sAsg, sPar, wVE, wVN, wOfN, wOfE, wTup, wLst, pyAll, wXe]
      all_goals (cases x.fs.lookup ("part" : Str) <;> rfl)
    · rw [if_neg c1, if_neg c1]
  · rw [if_pos (show isNon (Fv.D.py PyData.none) = true from rfl)]
    unfold toldR
    cases d <;> simp only [pyAll, Option.map_some, Option.map_none]
    exact propext ⟨fun h => h.2, fun h => ⟨Nat.le_of_ble_eq_true rfl, h⟩⟩
end Fv
set_option maxRecDepth 100000
set_option maxHeartbeats 4000000
/-! What is due. -/
namespace Fv
open PySem PySem.Spec PyProof.Rows L2 Gb
open PySem.W (T4)
def fDueS : FB := fun ds n _ Q => ∃ (s : Nat) (d : PyData), ds = [.py (.int (s : Int)), .py d] ∧ s ≤ 12 ∧ Q (.py (faultS s d)) n
def rowBad : PyData → Bool
  | .tuple zs => !zs.all (isBtw (-(10 ^ 30)) (10 ^ 30))
  | _ => true
theorem sc__law_due : FnScope ["size", "thing", "bad", "row", "k"] ["size", "thing"] (defScope s__law_due) := ⟨rfl, rfl, rfl, by decide +kernel, rfl, by decide +kernel, by decide +kernel⟩
theorem ok__law_due {F : Fx} (D : Dn F.K F.mg "_law_due" s__law_due ["size", "thing"]) (bz : Bz F.mg) (c__law_whole : ClB F 2 "_law_whole" false fBetween) : ClB F 3 "_law_due" false fDueS := by
  refine cl_b D sc__law_due (fun ds n EX QD h => ?_) (fun fa cdv A outer s H E pn B0 hr tk po => ?_)
  · obtain ⟨s, d, rfl, _⟩ := h
    rfl
  · have nd := sc__law_due.nd
    refine ⟨_, _, (bss_cons (bs_if (BW.bt (bw_or (bt_not (bt_val (be_isi (T := "tuple") (by decide) (by rfl) bz.isinstance (BE.f (be_nm 1 (pv 1))) (pe_bltn (v := .ty "tuple") (u := .type "tuple") (by rfl) bz.tuple (by decide +kernel) rfl)))) (bw_or1 (bt_ne hr.units (BE.f (be_len (by rfl) bz.len (BE.f (be_nm 1 (pv 1))))) (BE.f be_int)))))
    (bss_one (bs_ret be_str))
    bss_nil)
    (bss_cons (bs_if (bt_neNil hr.units (BN.l (bn_lc (own := [("row", 3)]) rfl nd (bi_seq (be_nm 1 (pv 1))) (blkOk_by (N := ["size", "thing", "bad", "row", "k"]) (sc := defScope s__law_due) (by decide +kernel)) (fun _ _ _ _ _ => (bg_nm (pg_name (i := 3) nd rfl (.inl rfl)))) (fun _ _ _ _ _ => (bts_one (BW.bt (bw_or (bt_not (bt_val (be_isi (T := "tuple") (by decide) (by rfl) bz.isinstance (BE.f (be_nm 3 (pv 3))) (pe_bltn (v := .ty "tuple") (u := .type "tuple") (by rfl) bz.tuple (by decide +kernel) rfl)))) (bw_or1 (bt_ne (by exact hr.units) (BE.f (be_len (by rfl) bz.len (BE.f (be_nm 3 (pv 3))))) (BE.f (be_nm 0 (pv 0))) rfl)))))) (fun _ _ _ _ _ => (be_nm 3 (pv 3))))) (bn_lst ba_nil))
    (bss_one (bs_ret be_str))
    bss_nil)
    (bss_cons (bs_setLcE (i := 2) (own := [("row", 3)]) rfl nd (bi_seq (be_nm 1 (pv 1))) (blkOk_by (N := ["size", "thing", "bad", "row", "k"]) (sc := defScope s__law_due) (by decide +kernel)) (fun _ _ _ _ _ => (bg_nm (pg_name (i := 3) nd rfl (.inl rfl)))) (fun _ _ _ _ _ => (bts_one (bt_neNil (by exact hr.units) (BN.l (bn_lc (own := [("k", 4)]) rfl nd (bi_seq (be_nm 3 (pv 3))) (blkOk_by (N := ["size", "thing", "bad", "row", "k"]) (sc := (relS _ (defScope s__law_due))) (by decide +kernel)) (fun _ _ _ _ _ => (bg_nm (pg_name (i := 4) nd rfl (.inl rfl)))) (fun _ _ _ _ _ => (bts_one (bt_not (bt_val (be_call0 c__law_whole hr (by decide) (by rfl) (ba_cons (be_nm 4 (pv 4)) (ba_cons (be_neg (be_pow be_int be_int)) (ba_cons (be_pow be_int be_int) ba_nil)))))))) (fun _ _ _ _ _ => (be_nm 4 (pv 4))))) (bn_lst ba_nil) rfl))) (fun _ _ _ _ _ => (be_nm 3 (pv 3))) rfl rfl (sw_true rfl rfl rfl (by decide +kernel)))
    (bss_one (bs_ret (be_ifExp (bt_eqNil hr.units (BE.l (be_nm 2 (pv 2))) (bn_lst ba_nil)) be_non be_str)))))), ?_⟩
    rintro _ n EX QD ⟨s, d, rfl, hs, q⟩
    simp only [startB, Nat.reduceAdd, Nat.reduceSub, List.replicate_succ, List.replicate_zero, wLc, wLc2, wISeq, wipeB, List.set_cons_succ, List.set_cons_zero, wgTup, wgCons, wgNil, wgNm, Bool.not_true, Bool.not_false, Bool.false_eq_true, if_true, if_false, List.map_cons, List.map_nil, List.length_cons, List.length_nil, List.cons_append, List.nil_append, wName, List.getElem?_cons_zero, List.getElem?_cons_succ, wC, wOp, wCall, wACons, wANil, wAndV, wOrV, wNotV, wIsi, wIsi2, wCmp, wChain, wChain3, wOfT, wIfE, wAnd, wOr, wNotT, bInt, bEq, bNe, bIsN, bNotN, bIn, bNotIn, wCall1, bLen, bAll, bAny, bSum, sRet, sRetN, sRetO, sIf, sSeq, sNil, sExpr, sSet, sAsg, sPar, wVE, wVN, wOfN, wOfE, wTup, wLst, pyAll, isB_list, isB_tuple, isB_int, isB_bool]
    cases d with
    | tuple ds =>
      simp only [Bool.not_true, Bool.false_eq_true, if_false, eqv_int]
      refine ⟨shaped_int _, shaped_int _, ?_⟩
      by_cases h2 : (ds.length : Int) = 2
      · obtain ⟨a, b, rfl⟩ := len2 (ds := ds) (by omega)
        rw [decide_eq_true h2]
        simp only [Bool.not_true, Bool.false_eq_true, if_false, wNeNil, startB, Nat.reduceAdd, Nat.reduceSub, List.replicate_succ, List.replicate_zero, wLc, wLc2, wISeq, wipeB, List.set_cons_succ, List.set_cons_zero, wgTup, wgCons, wgNil, wgNm, Bool.not_true, Bool.not_false, Bool.false_eq_true, if_true, if_false, List.map_cons, List.map_nil, List.length_cons, List.length_nil, List.cons_append, List.nil_append, wName, List.getElem?_cons_zero, List.getElem?_cons_succ, wC, wOp, wCall, wACons, wANil, wAndV, wOrV, wNotV, wIsi, wIsi2, wCmp, wChain, wChain3, wOfT, wIfE, wAnd, wOr, wNotT, bInt, bEq, bNe, bIsN, bNotN, bIn, bNotIn, wCall1, bLen, bAll, bAny, bSum, sRet, sRetN, sRetO, sIf, sSeq, sNil, sExpr, sSet, sAsg, sPar, wVE, wVN, wOfN, wOfE, wTup, wLst, pyAll]
        refine lc_sieve (fun d => !rowOk s d) [a, b] (fun w hw P R p1 p2 => ?_) ?_
        · simp only [startB, Nat.reduceAdd, Nat.reduceSub, List.replicate_succ, List.replicate_zero, wLc, wLc2, wISeq, wipeB, List.set_cons_succ, List.set_cons_zero, wgTup, wgCons, wgNil, wgNm, Bool.not_true, Bool.not_false, Bool.false_eq_true, if_true, if_false, List.map_cons, List.map_nil, List.length_cons, List.length_nil, List.cons_append, List.nil_append, wName, List.getElem?_cons_zero, List.getElem?_cons_succ, wC, wOp, wCall, wACons, wANil, wAndV, wOrV, wNotV, wIsi, wIsi2, wCmp, wChain, wChain3, wOfT, wIfE, wAnd, wOr, wNotT, bInt, bEq, bNe, bIsN, bNotN, bIn, bNotIn, wCall1, bLen, bAll, bAny, bSum, sRet, sRetN, sRetO, sIf, sSeq, sNil, sExpr, sSet, sAsg, sPar, wVE, wVN, wOfN, wOfE, wTup, wLst, pyAll, isB_tuple, eqv_int]
          cases w with
          | tuple xs =>
            simp only [if_true]
            refine ⟨shaped_int _, shaped_int _, ?_⟩
            rw [show decide ((xs.length : Int) = (s : Int)) = decide (xs.length = s) from decide_eq_decide.mpr (by omega)]
            show (if (!rowOk s (.tuple xs)) = true then _ else _)
            cases hb : !rowOk s (.tuple xs) with
            | true => exact p1 hb
            | false => exact p2 hb
          | _ => exact p1 rfl
        · rw [sieve_all]
          unfold faultS at q
          rw [shapeS_two] at q
          simp only [List.all_cons, List.all_nil, Bool.and_true]
          refine ⟨trivial, by decide, trivial, ?_⟩
          cases hab : rowOk s a && rowOk s b with
          | false =>
            rw [hab, if_neg Bool.false_ne_true] at q
            exact q
          | true =>
            rw [hab, if_pos rfl] at q
            rw [Bool.and_eq_true] at hab
            obtain ⟨xs, rfl, hx⟩ : ∃ xs, a = .tuple xs ∧ xs.length = s := by
              cases a <;> first | exact ⟨_, rfl, of_decide_eq_true hab.1⟩ | cases hab.1
            obtain ⟨ys, rfl, hy⟩ : ∃ xs, b = .tuple xs ∧ xs.length = s := by
              cases b <;> first | exact ⟨_, rfl, of_decide_eq_true hab.2⟩ | cases hab.2
            simp only [Bool.not_true, Bool.false_eq_true, if_false, startB, Nat.reduceAdd, Nat.reduceSub, List.replicate_succ, List.replicate_zero, wLc, wLc2, wISeq, wipeB, List.set_cons_succ, List.set_cons_zero, wgTup, wgCons, wgNil, wgNm, Bool.not_true, Bool.not_false, Bool.false_eq_true, if_true, if_false, List.map_cons, List.map_nil, List.length_cons, List.length_nil, List.cons_append, List.nil_append, wName, List.getElem?_cons_zero, List.getElem?_cons_succ, wC, wOp, wCall, wACons, wANil, wAndV, wOrV, wNotV, wIsi, wIsi2, wCmp, wChain, wChain3, wOfT, wIfE, wAnd, wOr, wNotT, bInt, bEq, bNe, bIsN, bNotN, bIn, bNotIn, wCall1, bLen, bAll, bAny, bSum, sRet, sRetN, sRetO, sIf, sSeq, sNil, sExpr, sSet, sAsg, sPar, wVE, wVN, wOfN, wOfE, wTup, wLst, pyAll]
            refine lc_sieve rowBad [.tuple xs, .tuple ys] (fun w hw P R p1 p2 => ?_) ?_
            · obtain ⟨zs, rfl⟩ : ∃ zs, w = .tuple zs := by
                simp only [List.mem_cons, List.not_mem_nil, or_false] at hw
                rcases hw with rfl | rfl
                · exact ⟨_, rfl⟩
                · exact ⟨_, rfl⟩
              simp only [startB, Nat.reduceAdd, Nat.reduceSub, List.replicate_succ, List.replicate_zero, wLc, wLc2, wISeq, wipeB, List.set_cons_succ, List.set_cons_zero, wgTup, wgCons, wgNil, wgNm, Bool.not_true, Bool.not_false, Bool.false_eq_true, if_true, if_false, List.map_cons, List.map_nil, List.length_cons, List.length_nil, List.cons_append, List.nil_append, wName, List.getElem?_cons_zero, List.getElem?_cons_succ, wC, wOp, wCall, wACons, wANil, wAndV, wOrV, wNotV, wIsi, wIsi2, wCmp, wChain, wChain3, wOfT, wIfE, wAnd, wOr, wNotT, bInt, bEq, bNe, bIsN, bNotN, bIn, bNotIn, wCall1, bLen, bAll, bAny, bSum, sRet, sRetN, sRetO, sIf, sSeq, sNil, sExpr, sSet, sAsg, sPar, wVE, wVN, wOfN, wOfE, wTup, wLst, pyAll, wNeNil]
              refine lc_sieve (fun d => !isBtw (-(10 ^ 30)) (10 ^ 30) d) zs (fun w hw P R p1 p2 => ?_) ?_
              · simp only [startB, Nat.reduceAdd, Nat.reduceSub, List.replicate_succ, List.replicate_zero, wLc, wLc2, wISeq, wipeB, List.set_cons_succ, List.set_cons_zero, wgTup, wgCons, wgNil, wgNm, Bool.not_true, Bool.not_false, Bool.false_eq_true, if_true, if_false, List.map_cons, List.map_nil, List.length_cons, List.length_nil, List.cons_append, List.nil_append, wName, List.getElem?_cons_zero, List.getElem?_cons_succ, wC, wOp, wCall, wACons, wANil, wAndV, wOrV, wNotV, wIsi, wIsi2, wCmp, wChain, wChain3, wOfT, wIfE, wAnd, wOr, wNotT, bInt, bEq, bNe, bIsN, bNotN, bIn, bNotIn, wCall1, bLen, bAll, bAny, bSum, sRet, sRetN, sRetO, sIf, sSeq, sNil, sExpr, sSet, sAsg, sPar, wVE, wVN, wOfN, wOfE, wTup, wLst, pyAll, bPow, wNeg]
                refine ⟨cpowY, cpowY, w, _, _, rfl, ?_⟩
                show (if (!isBtw (-(10 ^ 30)) (10 ^ 30) w) = true then _ else _)
                cases hb : !isBtw (-(10 ^ 30)) (10 ^ 30) w with
                | true => exact p1 hb
                | false => exact p2 hb
              · rw [sieve_all]
                refine ⟨trivial, by decide, trivial, ?_⟩
                cases hb : zs.all (isBtw (-(10 ^ 30)) (10 ^ 30)) with
                | true => exact p2 (by simp only [rowBad, hb, Bool.not_true])
                | false => exact p1 (by simp only [rowBad, hb, Bool.not_false])
            · simp only [startB, Nat.reduceAdd, Nat.reduceSub, List.replicate_succ, List.replicate_zero, wLc, wLc2, wISeq, wipeB, List.set_cons_succ, List.set_cons_zero, wgTup, wgCons, wgNil, wgNm, Bool.not_true, Bool.not_false, Bool.false_eq_true, if_true, if_false, List.map_cons, List.map_nil, List.length_cons, List.length_nil, List.cons_append, List.nil_append, wName, List.getElem?_cons_zero, List.getElem?_cons_succ, wC, wOp, wCall, wACons, wANil, wAndV, wOrV, wNotV, wIsi, wIsi2, wCmp, wChain, wChain3, wOfT, wIfE, wAnd, wOr, wNotT, bInt, bEq, bNe, bIsN, bNotN, bIn, bNotIn, wCall1, bLen, bAll, bAny, bSum, sRet, sRetN, sRetO, sIf, sSeq, sNil, sExpr, sSet, sAsg, sPar, wVE, wVN, wOfN, wOfE, wTup, wLst, pyAll, wEqNil]
              have e : numsS (.tuple [.tuple xs, .tuple ys]) = (xs.all (isBtw (-(10 ^ 30)) (10 ^ 30)) && ys.all (isBtw (-(10 ^ 30)) (10 ^ 30))) := rfl
              rw [e] at q
              cases hx : xs.all (isBtw (-(10 ^ 30)) (10 ^ 30)) <;> cases hy : ys.all (isBtw (-(10 ^ 30)) (10 ^ 30)) <;> rw [hx, hy] at q <;> simp only [List.filter, rowBad, hx, hy, Bool.not_true, Bool.not_false, Bool.and_true, Bool.and_false, Bool.and_self, if_true, if_false, Bool.false_eq_true, List.isEmpty] at q ⊢
              all_goals exact ⟨trivial, by decide, trivial, q⟩
      · rw [decide_eq_false h2]
        unfold faultS at q
        rw [shapeS_not (by omega), if_neg Bool.false_ne_true] at q
        exact q
    | _ => exact q
end Fv
set_option maxRecDepth 100000
set_option maxHeartbeats 4000000
/-! What is told can be shown. -/
namespace Fv
open PySem PySem.Spec PyProof.Rows L2 Gb
/-- what can be shown, its size told -/
structure Sh (d : PyData) (b dp : Nat) : Prop where
  s : d.showable = true
  c : d.canLay0 = true
  l : d.leavesShort 430 = true
  b : d.bulk ≤ b
  dz : d.depth ≤ dp
  g : Good d.shown
structure ShA (ds : List PyData) (b dp : Nat) : Prop where
  s : PyData.showableAll ds = true
  c : PyData.canLayAll0 ds = true
  l : PyData.leavesShortAll 430 ds = true
  b : PyData.bulkAll ds ≤ b
  dz : PyData.depthAll ds ≤ dp
  g : ∀ t ∈ PyData.shownAll ds, Good t
theorem Sh.shows {d : PyData} {b dp : Nat} (h : Sh d b dp) (hb : b ≤ 20000) (hd : dp ≤ 40) : Shows d := shows_of h.s h.c (Nat.le_trans h.dz hd) h.l (Nat.le_trans h.b hb)
theorem sh_int {i : Int} (h : -big ≤ i ∧ i ≤ big) : Sh (.int i) 1 0 := ⟨int_log h, rfl, int_leaf h, by simp only [PyData.bulk]; omega, by simp only [PyData.depth]; omega, good_int i⟩
end Fv
set_option maxRecDepth 100000
set_option maxHeartbeats 4000000
/-! Things that can be shown and copied, dicts too: by parts. -/
namespace Fv
open PySem PySem.Spec PyProof.Rows L2 Gb
mutual
theorem szD_bulk : ∀ d : PyData, szD d ≤ 3 * d.bulk + 2
  | .none => by unfold szD PyData.bulk; omega
  | .bool _ => by unfold szD PyData.bulk; omega
  | .int _ => by unfold szD PyData.bulk; omega
  | .str _ => by unfold szD PyData.bulk; omega
  | .list xs => by
    have := szA_bulk xs
    unfold szD PyData.bulk; omega
  | .tuple xs => by
    have := szA_bulk xs
    unfold szD PyData.bulk; omega
  | .dict ks => by
    have := szK_bulk ks
    unfold szD PyData.bulk; omega
theorem szA_bulk : ∀ ds : List PyData, szA ds ≤ 3 * PyData.bulkAll ds
  | [] => by simp only [szA, PyData.bulkAll]; omega
  | d :: ds => by
    have h1 := szD_bulk d
    have h2 := szA_bulk ds
    simp only [szA, PyData.bulkAll]
    omega
theorem szK_bulk : ∀ ks : List (PyData × PyData), szK ks ≤ 3 * PyData.bulkKv ks
  | [] => by simp only [szK, PyData.bulkKv]; omega
  | (k, d) :: ks => by
    have h1 := szD_bulk d
    have h2 := szK_bulk ks
    simp only [szK, PyData.bulkKv]
    omega
end
/-- what can be shown and copied, its size told -/
structure Tm (b dp : Nat) (d : PyData) : Prop where
  s : d.showable = true
  l : d.leavesShort 430 = true
  b : d.bulk ≤ b
  dz : d.depth ≤ dp
  g : Good d.shown
structure TmA (b dp : Nat) (ds : List PyData) : Prop where
  s : PyData.showableAll ds = true
  l : PyData.leavesShortAll 430 ds = true
  b : PyData.bulkAll ds ≤ b
  dz : PyData.depthAll ds ≤ dp
  g : ∀ t ∈ PyData.shownAll ds, Good t
def goodB (x : Str) : Bool := x.cps.toList.all fun c => decide (c < 0x110000)
theorem goodB_ok {x : Str} (h : goodB x = true) : Good x := fun c hc => of_decide_eq_true (List.all_eq_true.mp h c hc)
def tmB (b dp : Nat) (d : PyData) : Bool := d.showable && (d.leavesShort 430 && (decide (d.bulk ≤ b) && (decide (d.depth ≤ dp) && goodB d.shown)))
theorem tmB_ok {b dp : Nat} {d : PyData} (h : tmB b dp d = true) : Tm b dp d := by
  unfold tmB at h
  simp only [Bool.and_eq_true, decide_eq_true_eq] at h
  exact ⟨h.1, h.2.1, h.2.2.1, h.2.2.2.1, goodB_ok h.2.2.2.2⟩
theorem Tm.mono {b dp b' dp' : Nat} {d : PyData} (h : Tm b dp d) (hb : b ≤ b') (hd : dp ≤ dp') : Tm b' dp' d := ⟨h.s, h.l, Nat.le_trans h.b hb, Nat.le_trans h.dz hd, h.g⟩
theorem Sh.tm {b dp : Nat} {d : PyData} (h : Sh d b dp) : Tm b dp d := ⟨h.s, h.l, h.b, h.dz, h.g⟩
theorem Tm.sz {b dp : Nat} {d : PyData} (h : Tm b dp d) : szD d ≤ 3 * b + 2 := Nat.le_trans (szD_bulk d) (by have := h.b; omega)
theorem Tm.shows {b dp : Nat} {d : PyData} (h : Tm b dp d) (hb : b ≤ 20000) (hd : dp ≤ 40) : ShowsD d :=
  ⟨h.s, Nat.le_trans h.dz hd, by
    have h1 := PyData.shown_le_bulk 430 (by decide) d h.l
    have h2 : d.bulk ≤ 20000 := Nat.le_trans h.b hb
    have h3 : (430 + 2) * d.bulk + 430 ≤ 8640430 := by omega
    exact Nat.le_trans h1 (Nat.le_trans h3 (by decide +kernel))⟩
theorem tmA_nil : TmA 0 0 [] := ⟨rfl, rfl, Nat.le_refl _, Nat.le_refl _, fun t h => by cases h⟩
theorem tmA_cons {b b' dp dp' : Nat} {d : PyData} {ds : List PyData} (h : Tm b dp d) (r : TmA b' dp' ds) : TmA (b + b' + 1) (max dp dp') (d :: ds) := by
  refine ⟨?_, ?_, ?_, ?_, ?_⟩
  · simp only [PyData.showableAll, h.s, r.s, Bool.and_self]
  · simp only [PyData.leavesShortAll, h.l, r.l, Bool.and_self]
  · have h1 := h.b
    have h2 := r.b
    simp only [PyData.bulkAll]
    omega
  · have h1 := h.dz
    have h2 := r.dz
    simp only [PyData.depthAll]
    omega
  · intro t ht
    simp only [PyData.shownAll] at ht
    rcases List.mem_cons.mp ht with rfl | ht
    · exact h.g
    · exact r.g t ht
theorem tmA_of {b dp : Nat} : ∀ {ds : List PyData}, (∀ d ∈ ds, Tm b dp d) → TmA ((b + 1) * ds.length) dp ds
  | [], _ => ⟨rfl, rfl, Nat.zero_le _, Nat.zero_le _, fun t h => by cases h⟩
  | d :: ds, h => by
    have k := tmA_cons (h d List.mem_cons_self) (tmA_of fun e he => h e (List.mem_cons_of_mem _ he))
    refine ⟨k.s, k.l, Nat.le_trans k.b (Nat.le_of_eq ?_), Nat.le_trans k.dz (by rw [Nat.max_self]; exact Nat.le_refl _), k.g⟩
    rw [List.length_cons, Nat.mul_succ]
    omega
theorem TmA.mono {b dp b' dp' : Nat} {d : List PyData} (h : TmA b dp d) (hb : b ≤ b') (hd : dp ≤ dp') : TmA b' dp' d := ⟨h.s, h.l, Nat.le_trans h.b hb, Nat.le_trans h.dz hd, h.g⟩
theorem tm_tup {b dp : Nat} {ds : List PyData} (h : TmA b dp ds) : Tm b (dp + 1) (.tuple ds) := by
  refine ⟨?_, ?_, ?_, ?_, ?_⟩
  · simp only [PyData.showable, h.s]
  · simp only [PyData.leavesShort, h.l]
  · have := h.b
    simp only [PyData.bulk]
    omega
  · have := h.dz
    simp only [PyData.depth]
    omega
  · simp only [PyData.shown]
    exact good_tuple h.g
theorem tm_lst {b dp : Nat} {ds : List PyData} (h : TmA b dp ds) : Tm b (dp + 1) (.list ds) := by
  refine ⟨?_, ?_, ?_, ?_, ?_⟩
  · simp only [PyData.showable, h.s]
  · simp only [PyData.leavesShort, h.l]
  · have := h.b
    simp only [PyData.bulk]
    omega
  · have := h.dz
    simp only [PyData.depth]
    omega
  · simp only [PyData.shown]
    exact good_list h.g
theorem tm_dict1 {b b' dp dp' : Nat} {k v : PyData} (hk : Tm b dp k) (hv : Tm b' dp' v) : Tm (b + b' + 2) (max dp dp' + 1) (.dict [(k, v)]) := by
  refine ⟨?_, ?_, ?_, ?_, ?_⟩
  · simp only [PyData.showable, PyData.showableKv, hk.s, hv.s, Bool.and_self]
  · simp only [PyData.leavesShort, PyData.leavesShortKv, hk.l, hv.l, Bool.and_self]
  · have h1 := hk.b
    have h2 := hv.b
    simp only [PyData.bulk, PyData.bulkKv]
    omega
  · have h1 := hk.dz
    have h2 := hv.dz
    simp only [PyData.depth, PyData.depthKv]
    omega
  · rw [PyData.shown_dict, PyData.shownKv_cons, PyData.shownKv_nil]
    refine good_app (good_app (good_ofString _) (good_join fun t ht => ?_)) (good_ofString _)
    rw [List.mem_singleton.mp ht]
    exact good_app (good_app hk.g (good_ofString _)) hv.g
theorem tm_int {i : Int} (h : -big ≤ i ∧ i ≤ big) : Tm 1 0 (.int i) := (sh_int h).tm
end Fv
set_option maxRecDepth 100000
set_option maxHeartbeats 4000000
/-! Things of any kind, standings bent. -/
namespace Fv
open PySem PySem.Spec PyProof.Rows L2 Gb
open PySem.W (T4)
theorem lc_inv {wg : WG} {wt : WT} {we : WE} {ρ : List Sl} {Q : List PyData → Nat → Prop} (I : Nat → List PyData → Nat → Prop) : ∀ (ds : List D) (i : Nat) (acc : List PyData) (n : Nat),
    (∀ (j : Nat) (d : D) (acc : List PyData) (n : Nat) (P : PyData → Nat → Prop) (R : Nat → Prop), ds[j]? = some d → I (i + j) acc n → (∀ e n2, I (i + j + 1) (acc ++ [e]) n2 → P e n2) → wg d ρ fun ρ2 => wt ρ2 n (fun _ _ => False) fun b n1 => if b = true then we ρ2 n1 (fun _ _ => False) fun z n2 => (match z with
      | .py e => P e n2
      | _ => False) else R n1) → I i acc n → (∀ acc n, I (i + ds.length) acc n → Q acc n) → lcGo wg wt we ds acc n ρ Q
  | [], i, acc, n, _, h0, hd => hd acc n h0
  | d :: ds, i, acc, n, hs, h0, hd => by
    refine hs 0 d acc n (fun e n2 => lcGo wg wt we ds (acc ++ [e]) n2 ρ Q) _ rfl h0 fun e n2 h => ?_
    refine lc_inv I ds (i + 1) (acc ++ [e]) n2 (fun j d' acc n P R hj hI hp => ?_) h (fun acc n h => hd acc n (by rw [List.length_cons, Nat.add_comm ds.length 1, ← Nat.add_assoc]; exact h))
    refine hs (j + 1) d' acc n P R (by simpa using hj) (by rw [Nat.add_comm j 1, ← Nat.add_assoc]; exact hI) fun e n2 q => hp e n2 ?_
    rw [Nat.add_comm j 1, ← Nat.add_assoc] at q
    exact q
theorem bv_disp2 {X : Cx} {G : Cg} {pos : Pos} {keys : List (Option Expr)} {values : List Expr} {trs : List (TE × TE)} {ws : List (WE × WE)} (h : BPs X G pos keys values trs ws) (hall : keys.all (·.isSome) = true) (hl : keys.length = values.length) (h0 : keys ≠ []) (h15 : keys.length ≤ 15) : BV X G (.Dict keys values pos) (tDisp trs) (wDisp ws) :=
  bv_disp h (pe_disp h.pps hall hl h0 h15)
/-- a call that is never gone to -/
def fNever : FB := fun _ _ _ _ => False
theorem cl_never {F : Fx} {x : Str} {st : Stmt} {ps : List Str} (D : Dn F.K F.mg x st ps) : ClB F 1 x false fNever := by
  obtain ⟨fa, fd, Fn, hm, b⟩ := D.ex
  refine ⟨fa, fd, ps, ⟨fun vs H Q E h => ?_, fun A outer s H args us vs Q E _ _ _ _ h => ?_⟩, hm, Fn.kp, b⟩
  · obtain ⟨_, _, _, _, _, _, _, _, _, h, _⟩ := h
    exact h.elim
  · obtain ⟨_, _, _, _, _, _, _, _, _, h, _⟩ := h
    exact h.elim
theorem cpow : CPow 10 30 := ⟨by decide, by decide, by decide⟩
/-- anything, by so many draws at most -/
def fAny (m : Nat) (c : Nat) : FB := fun ds n _ Q => ds = [.pen, .py (.int (m : Int))] ∧ n + c ≤ 2 ^ 60 ∧ ∀ d n', n' ≤ n + c → Tm (10 + 50 * m) (2 * m + 2) d → Q (.py d) n'
theorem atI_mem {xs : List PyData} {r : Int} {P : PyData → Prop} (h0 : 0 ≤ r) (h1 : r < ((xs.length : Nat) : Int)) (h : ∀ z ∈ xs, P z) : (match L2.atI xs r with
    | some z => P z
    | none => False) := by
  obtain ⟨i, rfl⟩ := Int.eq_ofNat_of_zero_le h0
  have hi : i < xs.length := by omega
  have e : L2.atI xs (i : Int) = some xs[i] := by
    unfold L2.atI
    rw [ixN_nat hi]
    exact List.getElem?_eq_getElem hi
  rw [e]
  exact h _ (List.getElem_mem hi)
def atoms1 : List PyData := [.none, .bool true, .bool false, .int 0, .int 1, .int (-1), .int 2, .int 12, .int 13, .int (10 ^ 30), .int (10 ^ 30 + 1), .int (-10 ^ 30 - 1), .str "", .str "a", .str "all", .str "none"] ++ [.int (-10 ^ 30)]
theorem tm_atoms1 : ∀ z ∈ atoms1, Tm 10 1 z := by
  have h : atoms1.all (tmB 10 1) = true := by decide +kernel
  exact fun z hz => tmB_ok (List.all_eq_true.mp h z hz)
def atoms2 : List PyData := [.str "0", .list [], .dict [], .tuple []]
theorem tm_atoms2 : ∀ z ∈ atoms2, Tm 10 1 z := by
  have h : atoms2.all (tmB 10 1) = true := by decide +kernel
  exact fun z hz => tmB_ok (List.all_eq_true.mp h z hz)
theorem tm_inner {b dp : Nat} {ds : List PyData} (h : ∀ e ∈ ds, Tm b dp e) (hl : ds.length ≤ 3) : TmA (3 * b + 3) dp ds := by
  have k := tmA_of h
  have e : (b + 1) * ds.length ≤ (b + 1) * 3 := Nat.mul_le_mul_left _ hl
  exact ⟨k.s, k.l, Nat.le_trans k.b (by omega), k.dz, k.g⟩
theorem any_any {inner : List PyData} {b dp B D : Nat} (h : ∀ e ∈ inner, Tm b dp e) (hl : inner.length ≤ 3) (hB : 3 * b + 10 ≤ B) (hD : dp + 2 ≤ D) : ∀ z ∈ atoms1 ++ [.str "0", .list [], .dict [], .tuple [], .tuple inner, .tuple inner, .list inner, .dict [(.str "a", .tuple inner)]], Tm B D z := fun z hz => by
  have k := tm_inner h hl
  rcases List.mem_append.mp hz with h1 | h1
  · exact (tm_atoms1 z h1).mono (by omega) (by omega)
  · have at2 : ∀ y ∈ atoms2, Tm B D y := fun y hy => (tm_atoms2 y hy).mono (by omega) (by omega)
    unfold atoms2 at at2
    simp only [List.mem_cons, List.not_mem_nil, or_false] at h1 at2
    rcases h1 with h1 | h1 | h1 | h1 | h1 | h1 | h1 | h1
    · exact at2 z (.inl h1)
    · exact at2 z (.inr (.inl h1))
    · exact at2 z (.inr (.inr (.inl h1)))
    · exact at2 z (.inr (.inr (.inr h1)))
    · rw [h1]
      exact (tm_tup k).mono (by omega) (by omega)
    · rw [h1]
      exact (tm_tup k).mono (by omega) (by omega)
    · rw [h1]
      exact (tm_lst k).mono (by omega) (by omega)
    · rw [h1]
      exact (tm_dict1 (b := 1) (tmB_ok (by decide +kernel) : Tm 1 0 (.str "a")) (tm_tup k)).mono (by omega) (by omega)
theorem sc__law_anything : FnScope ["pen", "deep", "inner", "some", "k"] ["pen", "deep"] (defScope s__law_anything) := ⟨rfl, rfl, rfl, by decide +kernel, rfl, by decide +kernel, by decide +kernel⟩
theorem in_any0 {F : Fx} (D : Dn F.K F.mg "_law_anything" s__law_anything ["pen", "deep"]) (bz : Bz F.mg) (c__law_draw : ClB F 1 "_law_draw" false fDraw) (c__law_anything : ClB F 1 "_law_anything" false fNever) : ClB F 2 "_law_anything" false (fAny 0 10) := by
  refine cl_b D sc__law_anything (fun ds n EX QD h => ?_) (fun fa cdv A outer s H E pn B0 hr tk po => ?_)
  · obtain ⟨rfl, _⟩ := h
    rfl
  · have nd := sc__law_anything.nd
    refine ⟨_, _, (bss_cons (bs_setLcE (i := 2) (own := [("k", 4)]) rfl nd (bi_rng1 (by rfl) bz.range (be_ifExp (bt_gt (BE.f (be_nm 1 (pv 1))) (BE.f be_int)) (be_call c__law_draw hr (by decide) (by rfl) tk (ba_cons (be_nm 0 (pv 0)) (ba_cons be_int ba_nil))) be_int)) (blkOk_by (N := ["pen", "deep", "inner", "some", "k"]) (sc := defScope s__law_anything) (by decide +kernel)) (fun _ _ _ _ _ => (bg_nm (pg_name (i := 4) nd rfl (.inl rfl)))) (fun _ _ _ _ _ => bts_nil) (fun _ _ _ _ _ => (be_call0 c__law_anything hr (by decide) (by rfl) (ba_cons (be_nm 0 (pv 0)) (ba_cons (be_sub (be_nm 1 (pv 1)) be_int) ba_nil)))) rfl rfl (sw_true rfl rfl rfl (by decide +kernel)))
    (bss_cons (bs_setV (i := 3) (BN.toV (bn_lst (ba_cons be_non (ba_cons be_bl (ba_cons be_bl (ba_cons be_int (ba_cons be_int (ba_cons (be_neg be_int) (ba_cons be_int (ba_cons be_int (ba_cons be_int (ba_cons (be_pow be_int be_int) (ba_cons (be_add (be_pow be_int be_int) be_int) (ba_cons (be_sub (be_neg (be_pow be_int be_int)) be_int) (ba_cons be_str (ba_cons be_str (ba_cons be_str (ba_cons be_str ba_nil)))))))))))))))))) nd rfl (.inl rfl))
    (bss_cons (bs_appendV 3 (pv 3) (be_neg (be_pow be_int be_int)))
    (bss_cons (bs_setV (i := 3) (BN.toV (bn_cat (bl_own 3 (pv 3)) (BN.l (bn_lst (ba_cons be_str (ba_cons (BN.e (bn_lst ba_nil)) (ba_cons (BV.ed bv_dict) (ba_cons (be_tup ba_nil) (ba_cons (be_tupleL (by rfl) bz.tuple (BE.l (be_nm 2 (pv 2)))) (ba_cons (be_tupleL (by rfl) bz.tuple (BE.l (be_nm 2 (pv 2)))) (ba_cons (BN.e (bn_list (by rfl) bz.list (BE.l (be_nm 2 (pv 2))))) (ba_cons (BV.ed (bv_disp2 (BPs.cons be_str (be_tupleL (by rfl) bz.tuple (BE.l (be_nm 2 (pv 2)))) BPs.nil) (by rfl) (by rfl) (fun z => by cases z) (by decide))) ba_nil)))))))))))) nd rfl (.inl rfl))
    (bss_one (bs_ret (be_ix (bl_own 3 (pv 3)) (be_call c__law_draw hr (by decide) (by rfl) tk (ba_cons (be_nm 0 (pv 0)) (ba_cons (be_len (by rfl) bz.len (bf_own 3 (pv 3))) ba_nil)))))))))), ?_⟩
    rintro _ n EX QD ⟨rfl, hn, q⟩
    simp only [startB, Nat.reduceAdd, Nat.reduceSub, List.replicate_succ, List.replicate_zero, wLc, wLc2, wISeq, wipeB, List.set_cons_succ, List.set_cons_zero, wgTup, wgCons, wgNil, wgNm, Bool.not_true, Bool.not_false, Bool.false_eq_true, if_true, if_false, List.map_cons, List.map_nil, List.length_cons, List.length_nil, List.cons_append, List.nil_append, wName, List.getElem?_cons_zero, List.getElem?_cons_succ, wC, wOp, wCall, wACons, wANil, wAndV, wOrV, wNotV, wIsi, wIsi2, wCmp, wChain, wChain3, wOfT, wIfE, wAnd, wOr, wNotT, bInt, bEq, bNe, bIsN, bNotN, bIn, bNotIn, wCall1, bLen, bAll, bAny, bSum, sRet, sRetN, sRetO, sIf, sSeq, sNil, sExpr, sSet, sAsg, sPar, wVE, wVN, wOfN, wOfE, wTup, wLst, pyAll, wIR1]
    refine (if_neg (by decide)).mpr ?_
    refine ⟨by decide, by decide, ?_⟩
    show lcGo _ _ _ [] [] _ _ _
    refine lc_inv (fun _ acc n' => acc = [] ∧ n' = n) [] 0 [] n (fun j d acc n' P R hj => absurd hj (by simp)) ⟨rfl, rfl⟩ (fun acc n' h => ?_)
    obtain ⟨rfl, rfl⟩ := h
    simp only [startB, Nat.reduceAdd, Nat.reduceSub, List.replicate_succ, List.replicate_zero, wLc, wLc2, wISeq, wipeB, List.set_cons_succ, List.set_cons_zero, wgTup, wgCons, wgNil, wgNm, Bool.not_true, Bool.not_false, Bool.false_eq_true, if_true, if_false, List.map_cons, List.map_nil, List.length_cons, List.length_nil, List.cons_append, List.nil_append, wName, List.getElem?_cons_zero, List.getElem?_cons_succ, wC, wOp, wCall, wACons, wANil, wAndV, wOrV, wNotV, wIsi, wIsi2, wCmp, wChain, wChain3, wOfT, wIfE, wAnd, wOr, wNotT, bInt, bEq, bNe, bIsN, bNotN, bIn, bNotIn, wCall1, bLen, bAll, bAny, bSum, sRet, sRetN, sRetO, sIf, sSeq, sNil, sExpr, sSet, sAsg, sPar, wVE, wVN, wOfN, wOfE, wTup, wLst, pyAll, wNeg, bPow, bAdd, bSub, sAppend, wCat, wOwnL, wOwn, wEd, wVD, wDisp, wPairs, keyOf, wTupOf, wListOf, wIx, Option.map_some, fDraw]
    refine ⟨cpow, cpow, cpow, by decide, cpow, by decide, by decide, by decide, trivial, trivial, trivial, by decide, by decide, trivial, trivial, by decide, _, rfl, by omega, by decide, by decide, fun r r0 r1 => ?_⟩
    refine atI_mem r0 (by exact r1) fun z hz => q z _ (by omega) ?_
    refine any_any (inner := []) (b := 0) (dp := 0) (fun e he => by cases he) (Nat.zero_le _) (by decide) (by decide) z ?_
    exact hz
theorem in_any1 {F : Fx} (D : Dn F.K F.mg "_law_anything" s__law_anything ["pen", "deep"]) (bz : Bz F.mg) (c__law_draw : ClB F 1 "_law_draw" false fDraw) (c__law_anything : ClB F 2 "_law_anything" false (fAny 0 10)) : ClB F 3 "_law_anything" false (fAny 1 41) := by
  refine cl_b D sc__law_anything (fun ds n EX QD h => ?_) (fun fa cdv A outer s H E pn B0 hr tk po => ?_)
  · obtain ⟨rfl, _⟩ := h
    rfl
  · have nd := sc__law_anything.nd
    refine ⟨_, _, (bss_cons (bs_setLcE (i := 2) (own := [("k", 4)]) rfl nd (bi_rng1 (by rfl) bz.range (be_ifExp (bt_gt (BE.f (be_nm 1 (pv 1))) (BE.f be_int)) (be_call c__law_draw hr (by decide) (by rfl) tk (ba_cons (be_nm 0 (pv 0)) (ba_cons be_int ba_nil))) be_int)) (blkOk_by (N := ["pen", "deep", "inner", "some", "k"]) (sc := defScope s__law_anything) (by decide +kernel)) (fun _ _ _ _ _ => (bg_nm (pg_name (i := 4) nd rfl (.inl rfl)))) (fun _ _ _ _ _ => bts_nil) (fun _ _ _ _ _ => (be_call0 c__law_anything hr (by decide) (by rfl) (ba_cons (be_nm 0 (pv 0)) (ba_cons (be_sub (be_nm 1 (pv 1)) be_int) ba_nil)))) rfl rfl (sw_true rfl rfl rfl (by decide +kernel)))
    (bss_cons (bs_setV (i := 3) (BN.toV (bn_lst (ba_cons be_non (ba_cons be_bl (ba_cons be_bl (ba_cons be_int (ba_cons be_int (ba_cons (be_neg be_int) (ba_cons be_int (ba_cons be_int (ba_cons be_int (ba_cons (be_pow be_int be_int) (ba_cons (be_add (be_pow be_int be_int) be_int) (ba_cons (be_sub (be_neg (be_pow be_int be_int)) be_int) (ba_cons be_str (ba_cons be_str (ba_cons be_str (ba_cons be_str ba_nil)))))))))))))))))) nd rfl (.inl rfl))
    (bss_cons (bs_appendV 3 (pv 3) (be_neg (be_pow be_int be_int)))
    (bss_cons (bs_setV (i := 3) (BN.toV (bn_cat (bl_own 3 (pv 3)) (BN.l (bn_lst (ba_cons be_str (ba_cons (BN.e (bn_lst ba_nil)) (ba_cons (BV.ed bv_dict) (ba_cons (be_tup ba_nil) (ba_cons (be_tupleL (by rfl) bz.tuple (BE.l (be_nm 2 (pv 2)))) (ba_cons (be_tupleL (by rfl) bz.tuple (BE.l (be_nm 2 (pv 2)))) (ba_cons (BN.e (bn_list (by rfl) bz.list (BE.l (be_nm 2 (pv 2))))) (ba_cons (BV.ed (bv_disp2 (BPs.cons be_str (be_tupleL (by rfl) bz.tuple (BE.l (be_nm 2 (pv 2)))) BPs.nil) (by rfl) (by rfl) (fun z => by cases z) (by decide))) ba_nil)))))))))))) nd rfl (.inl rfl))
    (bss_one (bs_ret (be_ix (bl_own 3 (pv 3)) (be_call c__law_draw hr (by decide) (by rfl) tk (ba_cons (be_nm 0 (pv 0)) (ba_cons (be_len (by rfl) bz.len (bf_own 3 (pv 3))) ba_nil)))))))))), ?_⟩
    rintro _ n EX QD ⟨rfl, hn, q⟩
    simp only [startB, Nat.reduceAdd, Nat.reduceSub, List.replicate_succ, List.replicate_zero, wLc, wLc2, wISeq, wipeB, List.set_cons_succ, List.set_cons_zero, wgTup, wgCons, wgNil, wgNm, Bool.not_true, Bool.not_false, Bool.false_eq_true, if_true, if_false, List.map_cons, List.map_nil, List.length_cons, List.length_nil, List.cons_append, List.nil_append, wName, List.getElem?_cons_zero, List.getElem?_cons_succ, wC, wOp, wCall, wACons, wANil, wAndV, wOrV, wNotV, wIsi, wIsi2, wCmp, wChain, wChain3, wOfT, wIfE, wAnd, wOr, wNotT, bInt, bEq, bNe, bIsN, bNotN, bIn, bNotIn, wCall1, bLen, bAll, bAny, bSum, sRet, sRetN, sRetO, sIf, sSeq, sNil, sExpr, sSet, sAsg, sPar, wVE, wVN, wOfN, wOfE, wTup, wLst, pyAll, wIR1]
    refine (if_pos (by decide)).mpr ?_
    simp only [fDraw]
    refine ⟨_, rfl, by omega, by decide, by decide, fun r r0 r1 => ?_⟩
    refine ⟨by omega, by omega, ?_⟩
    have hr4 : r.toNat ≤ 3 := by omega
    refine lc_inv (fun j acc n' => (acc.length ≤ j ∧ n' ≤ n + 1 + 10 * j) ∧ ∀ e ∈ acc, Tm 10 2 e) (rngD 0 r.toNat) 0 [] (n + 1) (fun j d acc n' P R hj hI hp => ?_) ⟨⟨by simp, by omega⟩, fun e he => by cases he⟩ (fun acc n' h => ?_)
    · have hj3 : j < 3 := by
        have := (List.getElem?_eq_some_iff.mp hj).1
        unfold rngD at this
        simp at this
        omega
      simp only [startB, Nat.reduceAdd, Nat.reduceSub, List.replicate_succ, List.replicate_zero, wLc, wLc2, wISeq, wipeB, List.set_cons_succ, List.set_cons_zero, wgTup, wgCons, wgNil, wgNm, Bool.not_true, Bool.not_false, Bool.false_eq_true, if_true, if_false, List.map_cons, List.map_nil, List.length_cons, List.length_nil, List.cons_append, List.nil_append, wName, List.getElem?_cons_zero, List.getElem?_cons_succ, wC, wOp, wCall, wACons, wANil, wAndV, wOrV, wNotV, wIsi, wIsi2, wCmp, wChain, wChain3, wOfT, wIfE, wAnd, wOr, wNotT, bInt, bEq, bNe, bIsN, bNotN, bIn, bNotIn, wCall1, bLen, bAll, bAny, bSum, sRet, sRetN, sRetO, sIf, sSeq, sNil, sExpr, sSet, sAsg, sPar, wVE, wVN, wOfN, wOfE, wTup, wLst, pyAll, wYes, bSub, fAny]
      obtain ⟨hI, hacc⟩ := hI
      refine ⟨rfl, by omega, fun e n2 h2 ht => hp e n2 ⟨⟨by rw [List.length_append]; simp; omega, by omega⟩, fun x hx => ?_⟩⟩
      rcases List.mem_append.mp hx with hx | hx
      · exact hacc x hx
      · rw [List.mem_singleton.mp hx]
        exact ht
    · obtain ⟨⟨hl, hn'⟩, hacc⟩ := h
      have hl4 : acc.length ≤ 3 := by
        unfold rngD at hl
        simp at hl
        omega
      have hn4 : n' ≤ n + 31 := by
        unfold rngD at hn'
        simp at hn'
        omega
      simp only [startB, Nat.reduceAdd, Nat.reduceSub, List.replicate_succ, List.replicate_zero, wLc, wLc2, wISeq, wipeB, List.set_cons_succ, List.set_cons_zero, wgTup, wgCons, wgNil, wgNm, Bool.not_true, Bool.not_false, Bool.false_eq_true, if_true, if_false, List.map_cons, List.map_nil, List.length_cons, List.length_nil, List.cons_append, List.nil_append, wName, List.getElem?_cons_zero, List.getElem?_cons_succ, wC, wOp, wCall, wACons, wANil, wAndV, wOrV, wNotV, wIsi, wIsi2, wCmp, wChain, wChain3, wOfT, wIfE, wAnd, wOr, wNotT, bInt, bEq, bNe, bIsN, bNotN, bIn, bNotIn, wCall1, bLen, bAll, bAny, bSum, sRet, sRetN, sRetO, sIf, sSeq, sNil, sExpr, sSet, sAsg, sPar, wVE, wVN, wOfN, wOfE, wTup, wLst, pyAll, wNeg, bPow, bAdd, bSub, sAppend, wCat, wOwnL, wOwn, wEd, wVD, wDisp, wPairs, keyOf, wTupOf, wListOf, wIx, Option.map_some, fDraw]
      repeat' (refine And.intro (by first | exact cpow | exact trivial | decide | omega | exact (by simp; omega)) ?_)
      refine ⟨_, rfl, by omega, by decide, by decide, fun r r0 r1 => ?_⟩
      refine atI_mem r0 (by exact r1) fun z hz => q z _ (by omega) ?_
      refine any_any (inner := acc) (b := 10) (dp := 2) hacc hl4 (by decide) (by decide) z ?_
      exact hz
theorem ok__law_anything {F : Fx} (D : Dn F.K F.mg "_law_anything" s__law_anything ["pen", "deep"]) (bz : Bz F.mg) (c__law_draw : ClB F 1 "_law_draw" false fDraw) : ClB F 3 "_law_anything" false (fAny 1 41) := by
  exact in_any1 D bz c__law_draw (in_any0 D bz c__law_draw (cl_never D))
end Fv
set_option maxRecDepth 100000
set_option maxHeartbeats 4000000
/-! A truth value as a number: + - * beside an int. -/
namespace Fv
open PySem PySem.Spec PyProof.Rows L2 Gb
def oneOf (k : Bool) : Int := if k = true then 1 else 0
def rBI (g : Int → Int → V) : R2 := fun x y H Q => ∃ (k : Bool) (j : Int), x = .bl k ∧ y = .int j ∧ Q (g (oneOf k) j) H
def rIB (g : Int → Int → V) : R2 := fun x y H Q => ∃ (i : Int) (k : Bool), x = .int i ∧ y = .bl k ∧ Q (g i (oneOf k)) H
section
variable {X : Cx} {G : Cg} {a b : Expr} {ta tb : TE} {wa wb : WE} {pos : Pos}
theorem op_addBI : OpR X (binaryOp .Add) (rBI fun i j => .int (i + j)) := by
  intro pins s σ H x y v u Q I rx ry h
  obtain ⟨k, j, rfl, rfl, q⟩ := h
  cases rx
  obtain ⟨t, rfl⟩ := ry
  exact PySem.IntBool.add_bool_int ⟨.int (oneOf k + j), H, I.tok _, ⟨_, rfl⟩, q⟩
theorem op_subBI : OpR X (binaryOp .Sub) (rBI fun i j => .int (i - j)) := by
  intro pins s σ H x y v u Q I rx ry h
  obtain ⟨k, j, rfl, rfl, q⟩ := h
  cases rx
  obtain ⟨t, rfl⟩ := ry
  exact PySem.IntBool.sub_bool_int ⟨.int (oneOf k - j), H, I.tok _, ⟨_, rfl⟩, q⟩
theorem op_subIB : OpR X (binaryOp .Sub) (rIB fun i j => .int (i - j)) := by
  intro pins s σ H x y v u Q I rx ry h
  obtain ⟨i, k, rfl, rfl, q⟩ := h
  obtain ⟨t, rfl⟩ := rx
  cases ry
  exact PySem.IntBool.sub_int_bool ⟨.int (i - oneOf k), H, I.tok _, ⟨_, rfl⟩, q⟩
theorem op_mulIB : OpR X (binaryOp .Mult) (rIB fun i j => .int (i * j)) := by
  intro pins s σ H x y v u Q I rx ry h
  obtain ⟨i, k, rfl, rfl, q⟩ := h
  obtain ⟨t, rfl⟩ := rx
  cases ry
  exact PySem.IntBool.mul_int_bool ⟨.int (i * oneOf k), H, I.tok _, ⟨_, rfl⟩, q⟩
def bBI (f : Int → Int → Int) : BOp := fun x y Q => match x, y with
  | .py (.bool k), .py (.int j) => Q (.py (.int (f (oneOf k) j)))
  | _, _ => False
def bIB (f : Int → Int → Int) : BOp := fun x y Q => match x, y with
  | .py (.int i), .py (.bool k) => Q (.py (.int (f i (oneOf k))))
  | _, _ => False
theorem bs_BI {f : Int → Int → Int} : OpS G (rBI fun i j => .int (f i j)) (bBI f) := fun B H x y dx dy P Q sb rx ry h k => by
  match dx, dy, rx, ry, h with
  | .py (.bool i), .py (.int j), rx, ry, h =>
    cases dd_bl rx
    cases dd_int ry
    exact ⟨i, j, rfl, rfl, k _ _ B H (Mv.refl sb) r_int h⟩
theorem bs_IB {f : Int → Int → Int} : OpS G (rIB fun i j => .int (f i j)) (bIB f) := fun B H x y dx dy P Q sb rx ry h k => by
  match dx, dy, rx, ry, h with
  | .py (.int i), .py (.bool j), rx, ry, h =>
    cases dd_int rx
    cases dd_bl ry
    exact ⟨i, j, rfl, rfl, k _ _ B H (Mv.refl sb) r_int h⟩
theorem be_addBI (ha : BE X G a ta wa) (hb : BE X G b tb wb) : BE X G (.BinOp a .Add b pos) (tOp (rBI fun i j => .int (i + j)) ta tb) (wOp (bBI (· + ·)) wa wb) := be_opB op_addBI bs_BI ha hb
theorem be_subBI (ha : BE X G a ta wa) (hb : BE X G b tb wb) : BE X G (.BinOp a .Sub b pos) (tOp (rBI fun i j => .int (i - j)) ta tb) (wOp (bBI (· - ·)) wa wb) := be_opB op_subBI bs_BI ha hb
theorem be_subIB (ha : BE X G a ta wa) (hb : BE X G b tb wb) : BE X G (.BinOp a .Sub b pos) (tOp (rIB fun i j => .int (i - j)) ta tb) (wOp (bIB (· - ·)) wa wb) := be_opB op_subIB bs_IB ha hb
theorem be_mulIB (ha : BE X G a ta wa) (hb : BE X G b tb wb) : BE X G (.BinOp a .Mult b pos) (tOp (rIB fun i j => .int (i * j)) ta tb) (wOp (bIB (· * ·)) wa wb) := be_opB op_mulIB bs_IB ha hb
end
end Fv
set_option maxRecDepth 100000
set_option maxHeartbeats 4000000
/-! Gains, the standing behind a beat. -/
namespace Fv
open PySem PySem.Spec PyProof.Rows L2 Gb
open PySem.W (T4)
def fLess : FB := fun ds n _ Q => ∃ xs ys : List Int, ds = [.py (.list (intsD xs)), .py (.tuple (intsD ys))] ∧ Q (.py (.tuple (intsD (lessI xs ys)))) n
theorem sc_less : FnScope ["numbers", "others", "number", "other"] ["numbers", "others"] (defScope s_less) := ⟨rfl, rfl, rfl, by decide +kernel, rfl, by decide +kernel, by decide +kernel⟩
theorem ok_less {F : Fx} (D : Dn F.K F.mg "less" s_less ["numbers", "others"]) (bz : Bz F.mg)  : ClB F 1 "less" false fLess := by
  refine cl_b D sc_less (fun ds n EX QD h => ?_) (fun fa cdv A outer s H E pn B0 hr tk po => ?_)
  · obtain ⟨xs, ys, rfl, _⟩ := h
    rfl
  · have nd := sc_less.nd
    refine ⟨_, _, (bss_one (bs_ret (be_tupleL (by rfl) bz.tuple (BN.l (bn_lc (own := [("number", 2), ("other", 3)]) rfl nd (bi_zipLT2 (by rfl) bz.zip (be_nm 0 (pv 0)) (be_nm 1 (pv 1))) (blkOk_by (N := ["numbers", "others", "number", "other"]) (sc := defScope s_less) (by decide +kernel)) (fun _ _ _ _ _ => (bg_tup (bgs_cons (bg_nm (pg_name (i := 2) nd rfl (.inl rfl))) (bgs_cons (bg_nm (pg_name (i := 3) nd rfl (.inl rfl))) bgs_nil (pgs_cons (pg_name (i := 3) nd rfl (.inl rfl)) pgs_nil)) (pgs_cons (pg_name (i := 2) nd rfl (.inl rfl)) (pgs_cons (pg_name (i := 3) nd rfl (.inl rfl)) pgs_nil))) (pg_tupK (n := 2) (by rfl) (pgs_cons (pg_name (i := 2) nd rfl (.inl rfl)) (pgs_cons (pg_name (i := 3) nd rfl (.inl rfl)) pgs_nil))))) (fun _ _ _ _ _ => bts_nil) (fun _ _ _ _ _ => (be_sub (be_nm 2 (pv 2)) (be_nm 3 (pv 3))))))))), ?_⟩
    rintro _ n EX QD ⟨xs, ys, rfl, q⟩
    simp only [startB, Nat.reduceAdd, Nat.reduceSub, List.replicate_succ, List.replicate_zero, wLc, wLc2, wISeq, wipeB, List.set_cons_succ, List.set_cons_zero, wgTup, wgCons, wgNil, wgNm, Bool.not_true, Bool.not_false, Bool.false_eq_true, if_true, if_false, List.map_cons, List.map_nil, List.length_cons, List.length_nil, List.cons_append, List.nil_append, wName, List.getElem?_cons_zero, List.getElem?_cons_succ, wC, wOp, wCall, wACons, wANil, wAndV, wOrV, wNotV, wIsi, wIsi2, wCmp, wChain, wChain3, wOfT, wIfE, wAnd, wOr, wNotT, bInt, bEq, bNe, bIsN, bNotN, bIn, bNotIn, wCall1, bLen, bAll, bAny, bSum, sRet, sRetN, sRetO, sIf, sSeq, sNil, sExpr, sSet, sAsg, sPar, wVE, wVN, wOfN, wOfE, wTup, wLst, pyAll, wTupOf, wIZip]
    refine lc_map (fun z => match z with
      | .py (.tuple [.int a, .int b]) => .int (a - b)
      | _ => .none) _ _ (fun z hz P R p => ?_) ?_
    · obtain ⟨w, hw, rfl⟩ := List.mem_map.mp hz
      obtain ⟨a, b, rfl⟩ : ∃ a b : Int, w = (.int a, .int b) := by
        rw [List.zip_map] at hw
        obtain ⟨pr, _, rfl⟩ := List.mem_map.mp hw
        exact ⟨pr.1, pr.2, rfl⟩
      simp only [startB, Nat.reduceAdd, Nat.reduceSub, List.replicate_succ, List.replicate_zero, wLc, wLc2, wISeq, wipeB, List.set_cons_succ, List.set_cons_zero, wgTup, wgCons, wgNil, wgNm, Bool.not_true, Bool.not_false, Bool.false_eq_true, if_true, if_false, List.map_cons, List.map_nil, List.length_cons, List.length_nil, List.cons_append, List.nil_append, wName, List.getElem?_cons_zero, List.getElem?_cons_succ, wC, wOp, wCall, wACons, wANil, wAndV, wOrV, wNotV, wIsi, wIsi2, wCmp, wChain, wChain3, wOfT, wIfE, wAnd, wOr, wNotT, bInt, bEq, bNe, bIsN, bNotN, bIn, bNotIn, wCall1, bLen, bAll, bAny, bSum, sRet, sRetN, sRetO, sIf, sSeq, sNil, sExpr, sSet, sAsg, sPar, wVE, wVN, wOfN, wOfE, wTup, wLst, pyAll, wYes, bSub]
      exact ⟨trivial, trivial, p⟩
    · refine ⟨trivial, ?_⟩
      rw [List.nil_append]
      unfold zipD
      rw [List.map_map, List.zip_map, List.map_map]
      have e : lessI xs ys = (xs.zip ys).map fun p => p.1 - p.2 := by
        unfold lessI
        rw [List.zip, List.map_zipWith]
      have q' : QD (.py (.tuple (intsD ((xs.zip ys).map fun p => p.1 - p.2)))) n := e ▸ q
      rw [intsD, List.map_map] at q'
      exact q'
def fGains : FB := fun ds n _ Q => ∃ (s : Nat) (M : Nat → Nat → Int) (ns : List Int), ds = [.web s M, .py (.tuple (intsD ns))] ∧ s ≤ 12 ∧ M9 M ∧ ns.length = s ∧ Q (.py (.list (intsD (gainsOf (tiesW M s) s ns)))) n
theorem sc_gains : FnScope ["web", "numbers", "gained", "one", "other", "there", "back"] ["web", "numbers"] (defScope s_gains) := ⟨rfl, rfl, rfl, by decide +kernel, rfl, by decide +kernel, by decide +kernel⟩
theorem ok_gains {F : Fx} (D : Dn F.K F.mg "gains" s_gains ["web", "numbers"]) (bz : Bz F.mg) (m_ties : ClMB F 1 "ties" true fTies) (c_len : ClM0 F 1 F.C "__len__" (spLenW F.K F.C)) : ClB F 3 "gains" true fGains := by
  refine cl_b D sc_gains (fun ds n EX QD h => ?_) (fun fa cdv A outer s H E pn B0 hr tk po => ?_)
  · obtain ⟨s, M, ns, rfl, _⟩ := h
    rfl
  · have nd := sc_gains.nd
    refine ⟨_, _, (bss_cons (bs_setV (i := 2) (BN.toV (bn_rep (BN.l (bn_lst (ba_cons be_int ba_nil))) (be_lenW c_len hr (by decide) (by rfl) bz.len (be_nm 0 (pv 0))))) nd rfl (.inl rfl))
    (bss_cons (bs_for po rfl (bi_seq (BN.e (bn_mt0 m_ties hr (by decide) tk (be_nm 0 (pv 0))))) (bg_tup (bgs_cons (bg_nm (pg_name (i := 3) nd rfl (.inl rfl))) (bgs_cons (bg_nm (pg_name (i := 4) nd rfl (.inl rfl))) (bgs_cons (bg_nm (pg_name (i := 5) nd rfl (.inl rfl))) (bgs_cons (bg_nm (pg_name (i := 6) nd rfl (.inl rfl))) bgs_nil (pgs_cons (pg_name (i := 6) nd rfl (.inl rfl)) pgs_nil)) (pgs_cons (pg_name (i := 5) nd rfl (.inl rfl)) (pgs_cons (pg_name (i := 6) nd rfl (.inl rfl)) pgs_nil))) (pgs_cons (pg_name (i := 4) nd rfl (.inl rfl)) (pgs_cons (pg_name (i := 5) nd rfl (.inl rfl)) (pgs_cons (pg_name (i := 6) nd rfl (.inl rfl)) pgs_nil)))) (pgs_cons (pg_name (i := 3) nd rfl (.inl rfl)) (pgs_cons (pg_name (i := 4) nd rfl (.inl rfl)) (pgs_cons (pg_name (i := 5) nd rfl (.inl rfl)) (pgs_cons (pg_name (i := 6) nd rfl (.inl rfl)) pgs_nil))))) (pg_tupK (n := 4) (by rfl) (pgs_cons (pg_name (i := 3) nd rfl (.inl rfl)) (pgs_cons (pg_name (i := 4) nd rfl (.inl rfl)) (pgs_cons (pg_name (i := 5) nd rfl (.inl rfl)) (pgs_cons (pg_name (i := 6) nd rfl (.inl rfl)) pgs_nil))))))
    (bss_cons (bs_augIxV 2 (pv 2) (be_nm 4 (pv 4)) (be_mul (be_nm 5 (pv 5)) (be_max2 rfl (by rfl) bz.max be_int (be_ix (BE.l (be_nm 1 (pv 1))) (be_nm 3 (pv 3))))))
    (bss_one (bs_augIxV 2 (pv 2) (be_nm 3 (pv 3)) (be_mul (be_nm 6 (pv 6)) (be_max2 rfl (by rfl) bz.max be_int (be_ix (BE.l (be_nm 1 (pv 1))) (be_nm 4 (pv 4)))))))))
    (bss_one (bs_retO 2 (pv 2))))), ?_⟩
    rintro _ n EX QD ⟨s, M, ns, rfl, hs, hM, hns, q⟩
    simp only [startB, Nat.reduceAdd, Nat.reduceSub, List.replicate_succ, List.replicate_zero, wLc, wLc2, wISeq, wipeB, List.set_cons_succ, List.set_cons_zero, wgTup, wgCons, wgNil, wgNm, Bool.not_true, Bool.not_false, Bool.false_eq_true, if_true, if_false, List.map_cons, List.map_nil, List.length_cons, List.length_nil, List.cons_append, List.nil_append, wName, List.getElem?_cons_zero, List.getElem?_cons_succ, wC, wOp, wCall, wACons, wANil, wAndV, wOrV, wNotV, wIsi, wIsi2, wCmp, wChain, wChain3, wOfT, wIfE, wAnd, wOr, wNotT, bInt, bEq, bNe, bIsN, bNotN, bIn, bNotIn, wCall1, bLen, bAll, bAny, bSum, sRet, sRetN, sRetO, sIf, sSeq, sNil, sExpr, sSet, sAsg, sPar, wVE, wVN, wOfN, wOfE, wTup, wLst, pyAll, wRep, wLenW, wOnL, wMt, fTies, sFor]
    refine ⟨show 1 ≤ 100000 by decide, trivial, by omega, by omega, by show 1 * (s : Int).toNat ≤ 100000; omega, s, M, rfl, ?_⟩
    rw [Int.toNat_natCast, flat_zero]
    refine for_inv (fun i ρ n' => n' = n ∧ ∃ u3 u4 u5 u6, ρ = [.val (.web s M), .val (.py (.tuple (intsD ns))), .own (intsD (((tiesW M s).take i).foldl (gainT ns) (List.replicate s 0))), u3, u4, u5, u6]) _ 0 _ _ _ (fun j d ρ n' DB' hd hI hrt hbk hnx hct => ?_) ⟨rfl, _, _, _, _, rfl⟩ (fun ρ' n' hI => ?_)
    · obtain ⟨rfl, u3, u4, u5, u6, rfl⟩ := hI
      rw [List.getElem?_map, List.getElem?_map] at hd
      obtain ⟨t, ht, rfl⟩ : ∃ t, (tiesW M s)[j]? = some t ∧ d = .py (tieD t) := by
        cases e : (tiesW M s)[j]? with
        | none =>
          rw [e] at hd
          cases hd
        | some t =>
          rw [e] at hd
          exact ⟨t, rfl, (Option.some.inj hd).symm⟩
      obtain ⟨i1, j1, hij, hjs, et⟩ := mem_tiesW0 (List.mem_of_getElem? ht)
      have la : (((tiesW M s).take (0 + j)).foldl (gainT ns) (List.replicate s 0)).length = s := by rw [fold_len, List.length_replicate]
      have ht' : (tiesW M s).take (0 + j + 1) = (tiesW M s).take (0 + j) ++ [t] := by
        rw [Nat.zero_add, List.take_add_one, ht]
        rfl
      rw [ht', List.foldl_append] at hnx
      generalize ((tiesW M s).take (0 + j)).foldl (gainT ns) (List.replicate s 0) = acc at la hnx ⊢
      subst et
      simp only [startB, Nat.reduceAdd, Nat.reduceSub, List.replicate_succ, List.replicate_zero, wLc, wLc2, wISeq, wipeB, List.set_cons_succ, List.set_cons_zero, wgTup, wgCons, wgNil, wgNm, Bool.not_true, Bool.not_false, Bool.false_eq_true, if_true, if_false, List.map_cons, List.map_nil, List.length_cons, List.length_nil, List.cons_append, List.nil_append, wName, List.getElem?_cons_zero, List.getElem?_cons_succ, wC, wOp, wCall, wACons, wANil, wAndV, wOrV, wNotV, wIsi, wIsi2, wCmp, wChain, wChain3, wOfT, wIfE, wAnd, wOr, wNotT, bInt, bEq, bNe, bIsN, bNotN, bIn, bNotIn, wCall1, bLen, bAll, bAny, bSum, sRet, sRetN, sRetO, sIf, sSeq, sNil, sExpr, sSet, sAsg, sPar, wVE, wVN, wOfN, wOfE, wTup, wLst, pyAll, tieD, sAugIx2, wIx, wMax2, bMul, Int.toNat_natCast, atI_ints (xs := ns) (i := i1) (by omega), atI_ints (xs := ns) (i := j1) (by omega)]
      have c64 : ∀ (i j : Nat) (z : Int), CMul (M i j) z := fun i j z => .inl ⟨by have := hM i j; omega, by have := hM i j; omega⟩
      refine ⟨trivial, trivial, by omega, ?_⟩
      rw [get_ints (xs := acc) (i := j1) (by omega)]
      refine ⟨c64 i1 j1 _, by omega, ?_⟩
      rw [set_ints, get_ints (xs := acc.set j1 _) (i := i1) (by rw [List.length_set]; omega)]
      refine ⟨c64 j1 i1 _, hnx _ _ ⟨rfl, .val (.py (.int i1)), .val (.py (.int j1)), .val (.py (.int (M i1 j1))), .val (.py (.int (M j1 i1))), ?_⟩⟩
      rw [set_ints]
      rfl
    · obtain ⟨rfl, u3, u4, u5, u6, rfl⟩ := hI
      rw [List.take_of_length_le (by rw [List.length_map, List.length_map]; omega)]
      exact q
def fFollowing : FB := fun ds n _ Q => ∃ (s : Nat) (M : Nat → Nat → Int) (o w : List Int), ds = [.web s M, .py (stD2 o w)] ∧ s ≤ 12 ∧ M9 M ∧ w.length = s ∧ Q (.py (stD2 w (lessI (gainsOf (tiesW M s) s w) o))) n
theorem sc_following : FnScope ["web", "standing", "old", "now"] ["web", "standing"] (defScope s_following) := ⟨rfl, rfl, rfl, by decide +kernel, rfl, by decide +kernel, by decide +kernel⟩
theorem ok_following {F : Fx} (D : Dn F.K F.mg "following" s_following ["web", "standing"]) (bz : Bz F.mg) (c_gains : ClB F 3 "gains" true fGains) (c_less : ClB F 1 "less" false fLess) : ClB F 4 "following" false fFollowing := by
  refine cl_b D sc_following (fun ds n EX QD h => ?_) (fun fa cdv A outer s H E pn B0 hr tk po => ?_)
  · obtain ⟨s, M, o, w, rfl, _⟩ := h
    rfl
  · have nd := sc_following.nd
    refine ⟨_, _, (bss_cons (bs_asg (be_nm 1 (pv 1)) (bg_tup (bgs_cons (bg_nm (pg_name (i := 2) nd rfl (.inl rfl))) (bgs_cons (bg_nm (pg_name (i := 3) nd rfl (.inl rfl))) bgs_nil (pgs_cons (pg_name (i := 3) nd rfl (.inl rfl)) pgs_nil)) (pgs_cons (pg_name (i := 2) nd rfl (.inl rfl)) (pgs_cons (pg_name (i := 3) nd rfl (.inl rfl)) pgs_nil))) (pg_tupK (n := 2) (by rfl) (pgs_cons (pg_name (i := 2) nd rfl (.inl rfl)) (pgs_cons (pg_name (i := 3) nd rfl (.inl rfl)) pgs_nil)))))
    (bss_one (bs_ret (be_tup (ba_cons (be_nm 3 (pv 3)) (ba_cons (be_call c_less hr (by decide) (by rfl) tk (ba_cons (BN.e (bn_call c_gains hr (by decide) (by rfl) tk (ba_cons (be_nm 0 (pv 0)) (ba_cons (be_nm 3 (pv 3)) ba_nil)))) (ba_cons (be_nm 2 (pv 2)) ba_nil))) ba_nil)))))), ?_⟩
    rintro _ n EX QD ⟨s, M, o, w, rfl, hs, hM, hw, q⟩
    simp only [startB, Nat.reduceAdd, Nat.reduceSub, List.replicate_succ, List.replicate_zero, wLc, wLc2, wISeq, wipeB, List.set_cons_succ, List.set_cons_zero, wgTup, wgCons, wgNil, wgNm, Bool.not_true, Bool.not_false, Bool.false_eq_true, if_true, if_false, List.map_cons, List.map_nil, List.length_cons, List.length_nil, List.cons_append, List.nil_append, wName, List.getElem?_cons_zero, List.getElem?_cons_succ, wC, wOp, wCall, wACons, wANil, wAndV, wOrV, wNotV, wIsi, wIsi2, wCmp, wChain, wChain3, wOfT, wIfE, wAnd, wOr, wNotT, bInt, bEq, bNe, bIsN, bNotN, bIn, bNotIn, wCall1, bLen, bAll, bAny, bSum, sRet, sRetN, sRetO, sIf, sSeq, sNil, sExpr, sSet, sAsg, sPar, wVE, wVN, wOfN, wOfE, wTup, wLst, pyAll, fGains, fLess]
    refine ⟨trivial, trivial, s, M, w, rfl, hs, hM, hw, _, _, rfl, show 2 ≤ 100000 by decide, q⟩
end Fv
set_option maxRecDepth 100000
set_option maxHeartbeats 4000000
/-! Beats and runs. -/
namespace Fv
open PySem PySem.Spec PyProof.Rows L2 Gb
open PySem.W (T4)
/-- a beat, a beat back -/
def onF (ts : List Tw) (s : Nat) (p : Sd) : Sd := (p.2, lessI (gainsOf ts s p.2) p.1)
def backF (ts : List Tw) (s : Nat) (p : Sd) : Sd := (lessI (gainsOf ts s p.1) p.2, p.1)
def nthF (f : Sd → Sd) (p : Sd) : Nat → Sd
  | 0 => p
  | n + 1 => f (nthF f p n)
def runF (f : Sd → Sd) (p : Sd) (b : Nat) : List Sd := (List.range (b + 1)).map (nthF f p)
def fBeat (g : List Tw → Nat → Sd → Sd) : FB := fun ds n EX Q => ∃ (s : Nat) (M : Nat → Nat → Int) (d : PyData), ds = [.web s M, .py d] ∧ s ≤ 12 ∧ M9 M ∧ needS s d EX n (∀ p : Sd, d = sdD p → p.1.length = s → p.2.length = s → Q (.py (sdD (g (tiesW M s) s p))) n)
theorem on_len {ts : List Tw} {s : Nat} {p : Sd} (h1 : p.1.length = s) (h2 : p.2.length = s) : (onF ts s p).1.length = s ∧ (onF ts s p).2.length = s := by
  refine ⟨h2, ?_⟩
  show (lessI _ _).length = s
  unfold lessI
  rw [List.length_zipWith, gains_len, h1, Nat.min_self]
theorem nth_len {ts : List Tw} {s : Nat} {p : Sd} (h1 : p.1.length = s) (h2 : p.2.length = s) : ∀ n, (nthF (onF ts s) p n).1.length = s ∧ (nthF (onF ts s) p n).2.length = s
  | 0 => ⟨h1, h2⟩
  | n + 1 => on_len (nth_len h1 h2 n).1 (nth_len h1 h2 n).2
theorem run_len {f : Sd → Sd} {p : Sd} {b : Nat} : (runF f p b).length = b + 1 := by
  unfold runF
  rw [List.length_map, List.length_range]
theorem run_succ {f : Sd → Sd} {p : Sd} {b : Nat} : runF f p (b + 1) = runF f p b ++ [f (nthF f p b)] := by
  unfold runF
  rw [List.range_succ, List.map_append]
  rfl
theorem atI_last {f : Sd → Sd} {p : Sd} {b : Nat} : L2.atI ((runF f p b).map sdD) (-1) = some (sdD (nthF f p b)) := by
  have hl : ((runF f p b).map sdD).length = b + 1 := by rw [List.length_map, run_len]
  unfold L2.atI
  rw [hl]
  have e : L2.ixN (b + 1) (-1) = some b := by
    unfold L2.ixN
    rw [if_neg (by omega), if_pos (by omega)]
    congr 1
    omega
  rw [e]
  show ((runF f p b).map sdD)[b]? = _
  unfold runF
  rw [List.getElem?_map, List.getElem?_map, List.getElem?_range (by omega)]
  rfl
def fRunOn : FB := fun ds n _ Q => ∃ (s : Nat) (M : Nat → Nat → Int) (p : Sd) (b : Nat), ds = [.web s M, .py (sdD p), .py (.int (b : Int))] ∧ s ≤ 12 ∧ M9 M ∧ p.1.length = s ∧ p.2.length = s ∧ b ≤ 1000 ∧ Q (.py (.list ((runF (onF (tiesW M s) s) p b).map sdD))) n
theorem sc_run_on : FnScope ["web", "standing", "beats", "run", "_"] ["web", "standing", "beats"] (defScope s_run_on) := ⟨rfl, rfl, rfl, by decide +kernel, rfl, by decide +kernel, by decide +kernel⟩
theorem ok_run_on {F : Fx} (D : Dn F.K F.mg "run_on" s_run_on ["web", "standing", "beats"]) (bz : Bz F.mg) (c_following : ClB F 4 "following" false fFollowing) : ClB F 5 "run_on" true fRunOn := by
  refine cl_b D sc_run_on (fun ds n EX QD h => ?_) (fun fa cdv A outer s H E pn B0 hr tk po => ?_)
  · obtain ⟨s, M, p, b, rfl, _⟩ := h
    rfl
  · have nd := sc_run_on.nd
    refine ⟨_, _, (bss_cons (bs_setV (i := 3) (BN.toV (bn_lst (ba_cons (be_nm 1 (pv 1)) ba_nil))) nd rfl (.inl rfl))
    (bss_cons (bs_for po rfl (bi_rng1 (by rfl) bz.range (be_nm 2 (pv 2))) (bg_nm (pg_name (i := 4) nd rfl (.inl rfl)))
    (bss_one (bs_appendV 3 (pv 3) (be_call c_following hr (by decide) (by rfl) tk (ba_cons (be_nm 0 (pv 0)) (ba_cons (be_ix (bl_own 3 (pv 3)) (be_neg be_int)) ba_nil))))))
    (bss_one (bs_retO 3 (pv 3))))), ?_⟩
    rintro _ n EX QD ⟨s, M, p, b, rfl, hs, hM, h1, h2, hb, q⟩
    simp only [startB, Nat.reduceAdd, Nat.reduceSub, List.replicate_succ, List.replicate_zero, wLc, wLc2, wISeq, wipeB, List.set_cons_succ, List.set_cons_zero, wgTup, wgCons, wgNil, wgNm, Bool.not_true, Bool.not_false, Bool.false_eq_true, if_true, if_false, List.map_cons, List.map_nil, List.length_cons, List.length_nil, List.cons_append, List.nil_append, wName, List.getElem?_cons_zero, List.getElem?_cons_succ, wC, wOp, wCall, wACons, wANil, wAndV, wOrV, wNotV, wIsi, wIsi2, wCmp, wChain, wChain3, wOfT, wIfE, wAnd, wOr, wNotT, bInt, bEq, bNe, bIsN, bNotN, bIn, bNotIn, wCall1, bLen, bAll, bAny, bSum, sRet, sRetN, sRetO, sIf, sSeq, sNil, sExpr, sSet, sAsg, sPar, wVE, wVN, wOfN, wOfE, wTup, wLst, pyAll, sFor, wIR1]
    refine ⟨show 1 ≤ 100000 by decide, by omega, by omega, ?_⟩
    rw [Int.toNat_natCast]
    refine for_inv (fun i ρ n' => n' = n ∧ ∃ u, ρ = [.val (.web s M), .val (.py (sdD p)), .val (.py (.int (b : Int))), .own ((runF (onF (tiesW M s) s) p i).map sdD), u]) _ 0 _ _ _ (fun j d ρ n' DB' hd hI hrt hbk hnx hct => ?_) ⟨rfl, _, rfl⟩ (fun ρ' n' hI => ?_)
    · obtain ⟨rfl, u, rfl⟩ := hI
      simp only [startB, Nat.reduceAdd, Nat.reduceSub, List.replicate_succ, List.replicate_zero, wLc, wLc2, wISeq, wipeB, List.set_cons_succ, List.set_cons_zero, wgTup, wgCons, wgNil, wgNm, Bool.not_true, Bool.not_false, Bool.false_eq_true, if_true, if_false, List.map_cons, List.map_nil, List.length_cons, List.length_nil, List.cons_append, List.nil_append, wName, List.getElem?_cons_zero, List.getElem?_cons_succ, wC, wOp, wCall, wACons, wANil, wAndV, wOrV, wNotV, wIsi, wIsi2, wCmp, wChain, wChain3, wOfT, wIfE, wAnd, wOr, wNotT, bInt, bEq, bNe, bIsN, bNotN, bIn, bNotIn, wCall1, bLen, bAll, bAny, bSum, sRet, sRetN, sRetO, sIf, sSeq, sNil, sExpr, sSet, sAsg, sPar, wVE, wVN, wOfN, wOfE, wTup, wLst, pyAll, sAppend, wIx, wOwnL, wNeg, fFollowing, atI_last]
      have hj : j < b := by
        have := (List.getElem?_eq_some_iff.mp hd).1
        rw [rngD_len] at this
        exact this
      have hp := nth_len (ts := tiesW M s) h1 h2 (0 + j)
      refine ⟨s, M, _, _, rfl, hs, hM, hp.2, by rw [List.length_map, run_len]; omega, hnx _ _ ⟨rfl, .val d, ?_⟩⟩
      rw [run_succ, List.map_append]
      rfl
    · obtain ⟨rfl, u, rfl⟩ := hI
      rw [Nat.zero_add, rngD_len]
      exact q
def fRunOf : FB := fun ds n EX Q => ∃ (s : Nat) (M : Nat → Nat → Int) (d : PyData) (b : Nat), ds = [.web s M, .py d, .py (.int (b : Int))] ∧ s ≤ 12 ∧ M9 M ∧ b ≤ 1000 ∧ needS s d EX n (∀ p : Sd, d = sdD p → p.1.length = s → p.2.length = s → Q (.py (.list ((runF (onF (tiesW M s) s) p b).map sdD))) n)
theorem sc_run_of : FnScope ["web", "standing", "beats"] ["web", "standing", "beats"] (defScope s_run_of) := ⟨rfl, rfl, rfl, by decide +kernel, rfl, by decide +kernel, by decide +kernel⟩
theorem ok_run_of {F : Fx} (D : Dn F.K F.mg "run_of" s_run_of ["web", "standing", "beats"]) (bz : Bz F.mg) (c_need_standing : ClB F 5 "need_standing" false fNeedStanding) (c_run_on : ClB F 5 "run_on" true fRunOn) : ClB F 6 "run_of" true fRunOf := by
  refine cl_b D sc_run_of (fun ds n EX QD h => ?_) (fun fa cdv A outer s H E pn B0 hr tk po => ?_)
  · obtain ⟨s, M, d, b, rfl, _⟩ := h
    rfl
  · have nd := sc_run_of.nd
    refine ⟨_, _, (bss_cons (bs_expr (be_call c_need_standing hr (by decide) (by rfl) tk (ba_cons (be_nm 0 (pv 0)) (ba_cons (be_nm 1 (pv 1)) ba_nil))))
    (bss_one (bs_retN (bn_call c_run_on hr (by decide) (by rfl) tk (ba_cons (be_nm 0 (pv 0)) (ba_cons (be_nm 1 (pv 1)) (ba_cons (be_nm 2 (pv 2)) ba_nil))))))), ?_⟩
    rintro _ n EX QD ⟨s, M, d, b, rfl, hs, hM, hb, q⟩
    simp only [startB, Nat.reduceAdd, Nat.reduceSub, List.replicate_succ, List.replicate_zero, wLc, wLc2, wISeq, wipeB, List.set_cons_succ, List.set_cons_zero, wgTup, wgCons, wgNil, wgNm, Bool.not_true, Bool.not_false, Bool.false_eq_true, if_true, if_false, List.map_cons, List.map_nil, List.length_cons, List.length_nil, List.cons_append, List.nil_append, wName, List.getElem?_cons_zero, List.getElem?_cons_succ, wC, wOp, wCall, wACons, wANil, wAndV, wOrV, wNotV, wIsi, wIsi2, wCmp, wChain, wChain3, wOfT, wIfE, wAnd, wOr, wNotT, bInt, bEq, bNe, bIsN, bNotN, bIn, bNotIn, wCall1, bLen, bAll, bAny, bSum, sRet, sRetN, sRetO, sIf, sSeq, sNil, sExpr, sSet, sAsg, sPar, wVE, wVN, wOfN, wOfE, wTup, wLst, pyAll, fNeedStanding, fRunOn]
    refine ⟨s, M, d, rfl, hs, needS_imp q fun h1 h2 k => ?_⟩
    obtain ⟨o, w, rfl, ho, hw, _, _⟩ := std_of h1 h2
    exact ⟨s, M, (o, w), b, rfl, hs, hM, ho, hw, hb, k (o, w) rfl ho hw⟩
end Fv
set_option maxRecDepth 100000
set_option maxHeartbeats 4000000
/-! max(t), min(t) of a tuple; what a law asks of great standings. -/
namespace Fv
open PySem PySem.Spec PyProof.Rows L2 Gb
open PySem.W (T4)
section
variable {X : Cx} {G : Cg} {a b c d e f : Expr} {ta tb tc td te : TE} {wa wb wc wd we : WE} {pos p p2 p3 : Pos} {x : Str}
def bMaxT : D → (D → Prop) → Prop := fun d Q => match d with
  | .py (.tuple ds) => (match intsOf ds with
    | some ns => 0 < ns.length ∧ ∀ m, m ∈ ns → (∀ y, y ∈ ns → y ≤ m) → Q (.py (.int m))
    | none => False)
  | _ => False
def bMinT : D → (D → Prop) → Prop := fun d Q => match d with
  | .py (.tuple ds) => (match intsOf ds with
    | some ns => 0 < ns.length ∧ ∀ m, m ∈ ns → (∀ y, y ∈ ns → m ≤ y) → Q (.py (.int m))
    | none => False)
  | _ => False
end
end Fv
namespace Fv
open PySem PySem.Spec PyProof.Rows L2 Gb
theorem at0 {α : Type} {x : α} {xs : List α} : L2.atI (x :: xs) 0 = some x := by
  unfold L2.atI L2.ixN
  rw [if_pos (Int.le_refl _), if_pos (by rw [List.length_cons]; omega)]
  rfl
theorem at1 {α : Type} {x y : α} {xs : List α} : L2.atI (x :: y :: xs) 1 = some y := by
  unfold L2.atI L2.ixN
  rw [if_pos (by decide), if_pos (by rw [List.length_cons, List.length_cons]; omega)]
  rfl
end Fv
namespace Fv
open PySem PySem.Spec PyProof.Rows L2 Gb
def swp (p : Sd) : Sd := (p.2, p.1)
end Fv
namespace Fv
end Fv
namespace Fv
open PySem PySem.Spec PyProof.Rows L2 Gb
end Fv
set_option maxRecDepth 100000
set_option maxHeartbeats 4000000
/-! Products of great numbers; standings so many times, and added. -/
namespace Fv
open PySem PySem.Spec PyProof.Rows L2 Gb
open PySem.W (T4)
section
variable {X : Cx} {G : Cg} {a b : Expr} {ta tb : TE} {wa wb : WE} {pos : Pos}
def bMulW : BOp := fun x y Q => match x, y with
  | .py (.int i), .py (.int j) => CMulW i j ∧ Q (.py (.int (i * j)))
  | _, _ => False
end
/-! ### so many times -/
def mulL (c : Int) (xs : List Int) : List Int := xs.map fun x => c * x
def mulP (c : Int) (p : Sd) : Sd := (mulL c p.1, mulL c p.2)
/-! ### added -/
def addL (xs ys : List Int) : List Int := List.zipWith (· + ·) xs ys
def addP (p q : Sd) : Sd := (addL p.1 q.1, addL p.2 q.2)
def alikeS (xs ys : List Int) : Prop := ∀ j, ¬ xs.getD j 0 * ys.getD j 0 < 0
end Fv
namespace Fv
open PySem PySem.Spec PyProof.Rows L2 Gb
section
variable {wg wg1 : WG} {wt wt1 : WT} {we : WE} {ρ : List Sl} {n : Nat}
end
end Fv
set_option maxRecDepth 100000
set_option maxHeartbeats 4000000
/-! Drawn nonsense, its numbers, size and depth bounded. -/
namespace Fv
open PySem PySem.Spec PyProof.Rows L2 Gb
mutual
def bq (c : Nat) : PyData → Bool
  | .none => true
  | .bool _ => true
  | .int i => decide (i.natAbs ≤ c)
  | .str x => tmB 60 0 (.str x)
  | .list xs => bqA c xs
  | .tuple xs => bqA c xs
  | .dict ks => tmB 1000 20 (.dict ks)
def bqA (c : Nat) : List PyData → Bool
  | [] => true
  | x :: xs => bq c x && bqA c xs
end
theorem bqA_iff {c : Nat} : ∀ {xs : List PyData}, bqA c xs = true ↔ ∀ x ∈ xs, bq c x = true
  | [] => ⟨fun _ x h => (nomatch h), fun _ => rfl⟩
  | x :: xs => by
    simp only [bqA, Bool.and_eq_true, List.forall_mem_cons, bqA_iff (xs := xs)]
mutual
theorem bq_tm {c : Nat} (hc : (c : Int) ≤ big) : ∀ {d : PyData}, bq c d = true → Tm d.bulk d.depth d
  | .none, _ => tmB_ok (by decide +kernel)
  | .bool k, _ => by
    cases k <;> exact tmB_ok (by decide +kernel)
  | .int i, h => by
    simp only [bq, decide_eq_true_eq] at h
    have k := tm_int (i := i) (by generalize big = b at *; omega)
    exact ⟨k.s, k.l, Nat.le_refl _, Nat.le_refl _, k.g⟩
  | .str x, h => by
    simp only [bq] at h
    have k := tmB_ok h
    exact ⟨k.s, k.l, Nat.le_refl _, Nat.le_refl _, k.g⟩
  | .list xs, h => by
    simp only [bq] at h
    have k := tm_lst (bqA_tm hc h)
    exact ⟨k.s, k.l, Nat.le_refl _, Nat.le_refl _, k.g⟩
  | .tuple xs, h => by
    simp only [bq] at h
    have k := tm_tup (bqA_tm hc h)
    exact ⟨k.s, k.l, Nat.le_refl _, Nat.le_refl _, k.g⟩
  | .dict ks, h => by
    simp only [bq] at h
    have k := tmB_ok h
    exact ⟨k.s, k.l, Nat.le_refl _, Nat.le_refl _, k.g⟩
theorem bqA_tm {c : Nat} (hc : (c : Int) ≤ big) : ∀ {ds : List PyData}, bqA c ds = true → TmA (PyData.bulkAll ds) (PyData.depthAll ds) ds
  | [], _ => tmA_nil
  | d :: ds, h => by
    simp only [bqA, Bool.and_eq_true] at h
    have k := tmA_cons (bq_tm hc h.1) (bqA_tm hc h.2)
    exact ⟨k.s, k.l, Nat.le_refl _, Nat.le_refl _, k.g⟩
end
structure An (c b dp : Nat) (d : PyData) : Prop where
  q : bq c d = true
  b : d.bulk ≤ b
  dz : d.depth ≤ dp
structure AnA (c b dp : Nat) (ds : List PyData) : Prop where
  q : ∀ d ∈ ds, bq c d = true
  b : PyData.bulkAll ds ≤ b
  dz : ∀ d ∈ ds, d.depth ≤ dp
theorem An.tm {c b dp : Nat} {d : PyData} (h : An c b dp d) (hc : (c : Int) ≤ big) : Tm b dp d := (bq_tm hc h.q).mono h.b h.dz
mutual
theorem bq_mono {c c' : Nat} (h : c ≤ c') : ∀ {d : PyData}, bq c d = true → bq c' d = true
  | .none, _ => rfl
  | .bool _, _ => rfl
  | .int i, k => by
    simp only [bq, decide_eq_true_eq] at k ⊢
    omega
  | .str x, k => by
    simpa only [bq] using k
  | .list xs, k => by
    simp only [bq] at k ⊢
    exact bqA_mono h k
  | .tuple xs, k => by
    simp only [bq] at k ⊢
    exact bqA_mono h k
  | .dict ks, k => by
    simpa only [bq] using k
theorem bqA_mono {c c' : Nat} (h : c ≤ c') : ∀ {ds : List PyData}, bqA c ds = true → bqA c' ds = true
  | [], _ => rfl
  | d :: ds, k => by
    simp only [bqA, Bool.and_eq_true] at k ⊢
    exact ⟨bq_mono h k.1, bqA_mono h k.2⟩
end
theorem An.mono {c c' b b' dp dp' : Nat} {d : PyData} (h : An c b dp d) (hc : c ≤ c') (hb : b ≤ b') (hd : dp ≤ dp') : An c' b' dp' d := ⟨bq_mono hc h.q, Nat.le_trans h.b hb, Nat.le_trans h.dz hd⟩
theorem AnA.mono {c c' b b' dp dp' : Nat} {ds : List PyData} (h : AnA c b dp ds) (hc : c ≤ c') (hb : b ≤ b') (hd : dp ≤ dp') : AnA c' b' dp' ds := ⟨fun d m => bq_mono hc (h.q d m), Nat.le_trans h.b hb, fun d m => Nat.le_trans (h.dz d m) hd⟩
theorem depthA_le {b : Nat} : ∀ {ds : List PyData}, (∀ d ∈ ds, d.depth ≤ b) → PyData.depthAll ds ≤ b
  | [], _ => by simp only [PyData.depthAll]; omega
  | d :: ds, h => by
    have h1 := h d List.mem_cons_self
    have h2 := depthA_le (ds := ds) fun e he => h e (List.mem_cons_of_mem _ he)
    simp only [PyData.depthAll]
    omega
theorem an_lst {c b dp : Nat} {ds : List PyData} (h : AnA c b dp ds) : An c b (dp + 1) (.list ds) ∧ An c b (dp + 1) (.tuple ds) := by
  have h3 := depthA_le h.dz
  have h4 := h.b
  refine ⟨⟨by simp only [bq]; exact bqA_iff.mpr h.q, by simp only [PyData.bulk]; omega, by simp only [PyData.depth]; omega⟩, ⟨by simp only [bq]; exact bqA_iff.mpr h.q, by simp only [PyData.bulk]; omega, by simp only [PyData.depth]; omega⟩⟩
theorem an_items {c b dp : Nat} {ds : List PyData} (h : An c b dp (.list ds) ∨ An c b dp (.tuple ds)) : ∃ k, dp = k + 1 ∧ AnA c b k ds := by
  have hh : (∀ d ∈ ds, bq c d = true) ∧ PyData.bulkAll ds ≤ b ∧ PyData.depthAll ds + 1 ≤ dp := by
    rcases h with h | h
    · have h1 := h.q
      have h2 := h.b
      have h3 := h.dz
      simp only [bq] at h1
      simp only [PyData.bulk] at h2
      simp only [PyData.depth] at h3
      exact ⟨bqA_iff.mp h1, h2, by omega⟩
    · have h1 := h.q
      have h2 := h.b
      have h3 := h.dz
      simp only [bq] at h1
      simp only [PyData.bulk] at h2
      simp only [PyData.depth] at h3
      exact ⟨bqA_iff.mp h1, h2, by omega⟩
  obtain ⟨h1, h2, h3⟩ := hh
  obtain ⟨k, rfl⟩ : ∃ k, dp = k + 1 := ⟨dp - 1, by omega⟩
  refine ⟨k, rfl, h1, h2, fun d hd => ?_⟩
  have := depth_mem hd
  omega
theorem bulkA_app : ∀ xs ys : List PyData, PyData.bulkAll (xs ++ ys) = PyData.bulkAll xs + PyData.bulkAll ys
  | [], ys => by simp [PyData.bulkAll]
  | x :: xs, ys => by
    rw [List.cons_append]
    simp only [PyData.bulkAll, bulkA_app xs ys]
    omega
theorem bulkA_rev (xs : List PyData) : PyData.bulkAll xs.reverse = PyData.bulkAll xs := by
  induction xs with
  | nil => rfl
  | cons x xs ih =>
    rw [List.reverse_cons, bulkA_app, ih]
    simp only [PyData.bulkAll]
    omega
theorem bulkA_cut (n : Nat) (xs : List PyData) : PyData.bulkAll (xs.take n) + PyData.bulkAll (xs.drop n) = PyData.bulkAll xs := by
  rw [← bulkA_app, List.take_append_drop]
theorem bulkA_len : ∀ xs : List PyData, xs.length ≤ PyData.bulkAll xs
  | [] => Nat.zero_le _
  | x :: xs => by
    have := bulkA_len xs
    rw [List.length_cons]
    simp only [PyData.bulkAll]
    omega
theorem bulkA_mem {x : PyData} : ∀ {xs : List PyData}, x ∈ xs → x.bulk + 1 ≤ PyData.bulkAll xs
  | y :: ys, h => by
    simp only [PyData.bulkAll]
    rcases List.mem_cons.mp h with rfl | h
    · omega
    · have := bulkA_mem h
      omega
section
variable {c b b' dp : Nat} {xs ys : List PyData}
theorem AnA.app (h : AnA c b dp xs) (k : AnA c b' dp ys) : AnA c (b + b') dp (xs ++ ys) := by
  refine ⟨fun d m => (List.mem_append.mp m).elim (h.q d) (k.q d), ?_, fun d m => (List.mem_append.mp m).elim (h.dz d) (k.dz d)⟩
  have h1 := h.b
  have h2 := k.b
  rw [bulkA_app]
  omega
theorem AnA.sub (h : AnA c b dp xs) (hm : ∀ d ∈ ys, d ∈ xs) (hb : PyData.bulkAll ys ≤ PyData.bulkAll xs) : AnA c b dp ys := ⟨fun d m => h.q d (hm d m), Nat.le_trans hb h.b, fun d m => h.dz d (hm d m)⟩
theorem AnA.cut (h : AnA c b dp xs) (lo hi : Option Int) : AnA c b dp (cutD xs lo hi) := by
  unfold cutD
  refine h.sub (fun d m => List.mem_of_mem_drop (List.mem_of_mem_take m)) ?_
  have h1 := bulkA_cut (HT.sIx xs.length 0 lo) xs
  have h2 := bulkA_cut (HT.sIx xs.length xs.length hi - HT.sIx xs.length 0 lo) (xs.drop (HT.sIx xs.length 0 lo))
  omega
theorem AnA.rev (h : AnA c b dp xs) : AnA c b dp xs.reverse := h.sub (fun d m => List.mem_reverse.mp m) (by rw [bulkA_rev]; exact Nat.le_refl _)
theorem AnA.rep2 (h : AnA c b dp xs) : AnA c (2 * b) dp (List.replicate (Int.toNat 2) xs).flatten := by
  have e : (List.replicate (Int.toNat 2) xs).flatten = xs ++ xs := by
    show xs ++ (xs ++ []) = _
    rw [List.append_nil]
  rw [e]
  exact (h.app h).mono (Nat.le_refl _) (by omega) (Nat.le_refl _)
theorem AnA.one {d : PyData} (h : An c b dp d) : AnA c (b + 1) dp [d] := by
  refine ⟨fun e m => by rw [List.mem_singleton.mp m]; exact h.q, ?_, fun e m => by rw [List.mem_singleton.mp m]; exact h.dz⟩
  have := h.b
  simp only [PyData.bulkAll]
  omega
theorem AnA.nil : AnA c 0 dp [] := ⟨fun d m => (nomatch m), Nat.le_refl _, fun d m => (nomatch m)⟩
end
/-- an item put in another's place -/
theorem AnA.put {c c' b dp dp' : Nat} {xs : List PyData} {i : Nat} {x y : PyData} (h : AnA c b dp xs) (hi : xs[i]? = some x) (k : An c' (2 * x.bulk + 60) dp' y) (hc : c ≤ c') (hd : dp ≤ dp') : AnA c' (2 * b + 60) dp' (xs.take i ++ [y] ++ xs.drop (i + 1)) := by
  have e1 := bulkA_cut i xs
  have hlt := (List.getElem?_eq_some_iff.mp hi).1
  have ex := (List.getElem?_eq_some_iff.mp hi).2
  have e2 : PyData.bulkAll (xs.drop i) = x.bulk + 1 + PyData.bulkAll (xs.drop (i + 1)) := by
    rw [List.drop_eq_getElem_cons hlt, ex]
    simp only [PyData.bulkAll]
  have hb := h.b
  have kb := k.b
  refine ⟨fun d m => ?_, ?_, fun d m => ?_⟩
  · rcases List.mem_append.mp m with m | m
    · rcases List.mem_append.mp m with m | m
      · exact bq_mono hc (h.q d (List.mem_of_mem_take m))
      · rw [List.mem_singleton.mp m]
        exact k.q
    · exact bq_mono hc (h.q d (List.mem_of_mem_drop m))
  · rw [bulkA_app, bulkA_app]
    have : PyData.bulkAll [y] = y.bulk + 1 := by simp only [PyData.bulkAll]
    omega
  · rcases List.mem_append.mp m with m | m
    · rcases List.mem_append.mp m with m | m
      · exact Nat.le_trans (h.dz d (List.mem_of_mem_take m)) hd
      · rw [List.mem_singleton.mp m]
        exact k.dz
    · exact Nat.le_trans (h.dz d (List.mem_of_mem_drop m)) hd
end Fv
set_option maxRecDepth 100000
set_option maxHeartbeats 4000000
/-! Anything, its numbers bounded; any nonsense bent. -/
namespace Fv
open PySem PySem.Spec PyProof.Rows L2 Gb
open PySem.W (T4)
theorem tmB_of {b dp : Nat} {d : PyData} (h : Tm b dp d) : tmB b dp d = true := by
  unfold tmB
  simp only [Bool.and_eq_true, decide_eq_true_eq]
  exact ⟨h.s, h.l, h.b, h.dz, List.all_eq_true.mpr fun c hc => decide_eq_true (h.g c hc)⟩
def nE : Nat := 10 ^ 30 + 1
theorem nE_big : (nE : Int) ≤ big := by decide +kernel
theorem an_atoms1 : ∀ z ∈ atoms1, An nE 10 1 z := by
  have h : atoms1.all (fun z => bq nE z && (decide (z.bulk ≤ 10) && decide (z.depth ≤ 1))) = true := by decide +kernel
  intro z hz
  have k := List.all_eq_true.mp h z hz
  simp only [Bool.and_eq_true, decide_eq_true_eq] at k
  exact ⟨k.1, k.2.1, k.2.2⟩
theorem an_atoms2 : ∀ z ∈ atoms2, An nE 10 1 z := by
  have h : atoms2.all (fun z => bq nE z && (decide (z.bulk ≤ 10) && decide (z.depth ≤ 1))) = true := by decide +kernel
  intro z hz
  have k := List.all_eq_true.mp h z hz
  simp only [Bool.and_eq_true, decide_eq_true_eq] at k
  exact ⟨k.1, k.2.1, k.2.2⟩
theorem anA_of {c b dp : Nat} : ∀ {ds : List PyData}, (∀ e ∈ ds, An c b dp e) → AnA c ((b + 1) * ds.length) dp ds
  | [], _ => AnA.nil
  | d :: ds, h => by
    have k1 := AnA.one (h d List.mem_cons_self)
    have k2 := anA_of (ds := ds) fun e he => h e (List.mem_cons_of_mem _ he)
    have := k1.app k2
    refine this.mono (Nat.le_refl _) ?_ (Nat.le_refl _)
    rw [List.length_cons, Nat.mul_add]
    omega
theorem an_any {inner : List PyData} {b dp B D : Nat} (h : ∀ e ∈ inner, An nE b dp e) (hl : inner.length ≤ 3) (hB : 3 * b + 10 ≤ B) (hB2 : 10 ≤ B) (hB3 : 3 * b + 10 ≤ 1000) (hD : dp + 2 ≤ D) (hD2 : dp + 2 ≤ 20) : ∀ z ∈ atoms1 ++ [.str "0", .list [], .dict [], .tuple [], .tuple inner, .tuple inner, .list inner, .dict [(.str "a", .tuple inner)]], An nE B D z := fun z hz => by
  have k := anA_of h
  have e3 : (b + 1) * inner.length ≤ (b + 1) * 3 := Nat.mul_le_mul_left _ hl
  have k3 : AnA nE (3 * b + 3) dp inner := k.mono (Nat.le_refl _) (by omega) (Nat.le_refl _)
  rcases List.mem_append.mp hz with h1 | h1
  · exact (an_atoms1 z h1).mono (Nat.le_refl _) (by omega) (by omega)
  · have at2 : ∀ y ∈ atoms2, An nE B D y := fun y hy => (an_atoms2 y hy).mono (Nat.le_refl _) (by omega) (by omega)
    unfold atoms2 at at2
    simp only [List.mem_cons, List.not_mem_nil, or_false] at h1 at2
    rcases h1 with h1 | h1 | h1 | h1 | h1 | h1 | h1 | h1
    · exact at2 z (.inl h1)
    · exact at2 z (.inr (.inl h1))
    · exact at2 z (.inr (.inr (.inl h1)))
    · exact at2 z (.inr (.inr (.inr h1)))
    · rw [h1]
      exact (an_lst k3).2.mono (Nat.le_refl _) (by omega) (by omega)
    · rw [h1]
      exact (an_lst k3).2.mono (Nat.le_refl _) (by omega) (by omega)
    · rw [h1]
      exact (an_lst k3).1.mono (Nat.le_refl _) (by omega) (by omega)
    · rw [h1]
      have t := ((an_lst k3).2).tm nE_big
      have td := tm_dict1 (b := 1) (tmB_ok (by decide +kernel) : Tm 1 0 (.str "a")) t
      refine ⟨?_, Nat.le_trans td.b (by omega), Nat.le_trans td.dz (by omega)⟩
      simp only [bq]
      exact tmB_of (td.mono (by omega) (by omega))
/-- anything, by so many draws at most, its numbers bounded -/
def fAnyN (m : Nat) (c : Nat) : FB := fun ds n _ Q => ds = [.pen, .py (.int (m : Int))] ∧ n + c ≤ 2 ^ 60 ∧ ∀ d n', n' ≤ n + c → An nE (10 + 50 * m) (2 * m + 2) d → Q (.py d) n'
theorem in_anyN0 {F : Fx} (D : Dn F.K F.mg "_law_anything" s__law_anything ["pen", "deep"]) (bz : Bz F.mg) (c__law_draw : ClB F 1 "_law_draw" false fDraw) (c__law_anything : ClB F 1 "_law_anything" false fNever) : ClB F 2 "_law_anything" false (fAnyN 0 10) := by
  refine cl_b D sc__law_anything (fun ds n EX QD h => ?_) (fun fa cdv A outer s H E pn B0 hr tk po => ?_)
  · obtain ⟨rfl, _⟩ := h
    rfl
  · have nd := sc__law_anything.nd
    refine ⟨_, _, (bss_cons (bs_setLcE (i := 2) (own := [("k", 4)]) rfl nd (bi_rng1 (by rfl) bz.range (be_ifExp (bt_gt (BE.f (be_nm 1 (pv 1))) (BE.f be_int)) (be_call c__law_draw hr (by decide) (by rfl) tk (ba_cons (be_nm 0 (pv 0)) (ba_cons be_int ba_nil))) be_int)) (blkOk_by (N := ["pen", "deep", "inner", "some", "k"]) (sc := defScope s__law_anything) (by decide +kernel)) (fun _ _ _ _ _ => (bg_nm (pg_name (i := 4) nd rfl (.inl rfl)))) (fun _ _ _ _ _ => bts_nil) (fun _ _ _ _ _ => (be_call0 c__law_anything hr (by decide) (by rfl) (ba_cons (be_nm 0 (pv 0)) (ba_cons (be_sub (be_nm 1 (pv 1)) be_int) ba_nil)))) rfl rfl (sw_true rfl rfl rfl (by decide +kernel)))
    (bss_cons (bs_setV (i := 3) (BN.toV (bn_lst (ba_cons be_non (ba_cons be_bl (ba_cons be_bl (ba_cons be_int (ba_cons be_int (ba_cons (be_neg be_int) (ba_cons be_int (ba_cons be_int (ba_cons be_int (ba_cons (be_pow be_int be_int) (ba_cons (be_add (be_pow be_int be_int) be_int) (ba_cons (be_sub (be_neg (be_pow be_int be_int)) be_int) (ba_cons be_str (ba_cons be_str (ba_cons be_str (ba_cons be_str ba_nil)))))))))))))))))) nd rfl (.inl rfl))
    (bss_cons (bs_appendV 3 (pv 3) (be_neg (be_pow be_int be_int)))
    (bss_cons (bs_setV (i := 3) (BN.toV (bn_cat (bl_own 3 (pv 3)) (BN.l (bn_lst (ba_cons be_str (ba_cons (BN.e (bn_lst ba_nil)) (ba_cons (BV.ed bv_dict) (ba_cons (be_tup ba_nil) (ba_cons (be_tupleL (by rfl) bz.tuple (BE.l (be_nm 2 (pv 2)))) (ba_cons (be_tupleL (by rfl) bz.tuple (BE.l (be_nm 2 (pv 2)))) (ba_cons (BN.e (bn_list (by rfl) bz.list (BE.l (be_nm 2 (pv 2))))) (ba_cons (BV.ed (bv_disp2 (BPs.cons be_str (be_tupleL (by rfl) bz.tuple (BE.l (be_nm 2 (pv 2)))) BPs.nil) (by rfl) (by rfl) (fun z => by cases z) (by decide))) ba_nil)))))))))))) nd rfl (.inl rfl))
    (bss_one (bs_ret (be_ix (bl_own 3 (pv 3)) (be_call c__law_draw hr (by decide) (by rfl) tk (ba_cons (be_nm 0 (pv 0)) (ba_cons (be_len (by rfl) bz.len (bf_own 3 (pv 3))) ba_nil)))))))))), ?_⟩
    rintro _ n EX QD ⟨rfl, hn, q⟩
    simp only [startB, Nat.reduceAdd, Nat.reduceSub, List.replicate_succ, List.replicate_zero, wLc, wLc2, wISeq, wipeB, List.set_cons_succ, List.set_cons_zero, wgTup, wgCons, wgNil, wgNm, Bool.not_true, Bool.not_false, Bool.false_eq_true, if_true, if_false, List.map_cons, List.map_nil, List.length_cons, List.length_nil, List.cons_append, List.nil_append, wName, List.getElem?_cons_zero, List.getElem?_cons_succ, wC, wOp, wCall, wACons, wANil, wAndV, wOrV, wNotV, wIsi, wIsi2, wCmp, wChain, wChain3, wOfT, wIfE, wAnd, wOr, wNotT, bInt, bEq, bNe, bIsN, bNotN, bIn, bNotIn, wCall1, bLen, bAll, bAny, bSum, sRet, sRetN, sRetO, sIf, sSeq, sNil, sExpr, sSet, sAsg, sPar, wVE, wVN, wOfN, wOfE, wTup, wLst, pyAll, wIR1]
    refine (if_neg (by decide)).mpr ?_
    refine ⟨by decide, by decide, ?_⟩
    show lcGo _ _ _ [] [] _ _ _
    refine lc_inv (fun _ acc n' => acc = [] ∧ n' = n) [] 0 [] n (fun j d acc n' P R hj => absurd hj (by simp)) ⟨rfl, rfl⟩ (fun acc n' h => ?_)
    obtain ⟨rfl, rfl⟩ := h
    simp only [startB, Nat.reduceAdd, Nat.reduceSub, List.replicate_succ, List.replicate_zero, wLc, wLc2, wISeq, wipeB, List.set_cons_succ, List.set_cons_zero, wgTup, wgCons, wgNil, wgNm, Bool.not_true, Bool.not_false, Bool.false_eq_true, if_true, if_false, List.map_cons, List.map_nil, List.length_cons, List.length_nil, List.cons_append, List.nil_append, wName, List.getElem?_cons_zero, List.getElem?_cons_succ, wC, wOp, wCall, wACons, wANil, wAndV, wOrV, wNotV, wIsi, wIsi2, wCmp, wChain, wChain3, wOfT, wIfE, wAnd, wOr, wNotT, bInt, bEq, bNe, bIsN, bNotN, bIn, bNotIn, wCall1, bLen, bAll, bAny, bSum, sRet, sRetN, sRetO, sIf, sSeq, sNil, sExpr, sSet, sAsg, sPar, wVE, wVN, wOfN, wOfE, wTup, wLst, pyAll, wNeg, bPow, bAdd, bSub, sAppend, wCat, wOwnL, wOwn, wEd, wVD, wDisp, wPairs, keyOf, wTupOf, wListOf, wIx, Option.map_some, fDraw]
    refine ⟨cpow, cpow, cpow, by decide, cpow, by decide, by decide, by decide, trivial, trivial, trivial, by decide, by decide, trivial, trivial, by decide, _, rfl, by omega, by decide, by decide, fun r r0 r1 => ?_⟩
    refine atI_mem r0 (by exact r1) fun z hz => q z _ (by omega) ?_
    refine an_any (inner := []) (b := 0) (dp := 0) (fun e he => by cases he) (Nat.zero_le _) (by decide) (by decide) (by decide) (by decide) (by decide) z ?_
    exact hz
theorem in_anyN1 {F : Fx} (D : Dn F.K F.mg "_law_anything" s__law_anything ["pen", "deep"]) (bz : Bz F.mg) (c__law_draw : ClB F 1 "_law_draw" false fDraw) (c__law_anything : ClB F 2 "_law_anything" false (fAnyN 0 10)) : ClB F 3 "_law_anything" false (fAnyN 1 41) := by
  refine cl_b D sc__law_anything (fun ds n EX QD h => ?_) (fun fa cdv A outer s H E pn B0 hr tk po => ?_)
  · obtain ⟨rfl, _⟩ := h
    rfl
  · have nd := sc__law_anything.nd
    refine ⟨_, _, (bss_cons (bs_setLcE (i := 2) (own := [("k", 4)]) rfl nd (bi_rng1 (by rfl) bz.range (be_ifExp (bt_gt (BE.f (be_nm 1 (pv 1))) (BE.f be_int)) (be_call c__law_draw hr (by decide) (by rfl) tk (ba_cons (be_nm 0 (pv 0)) (ba_cons be_int ba_nil))) be_int)) (blkOk_by (N := ["pen", "deep", "inner", "some", "k"]) (sc := defScope s__law_anything) (by decide +kernel)) (fun _ _ _ _ _ => (bg_nm (pg_name (i := 4) nd rfl (.inl rfl)))) (fun _ _ _ _ _ => bts_nil) (fun _ _ _ _ _ => (be_call0 c__law_anything hr (by decide) (by rfl) (ba_cons (be_nm 0 (pv 0)) (ba_cons (be_sub (be_nm 1 (pv 1)) be_int) ba_nil)))) rfl rfl (sw_true rfl rfl rfl (by decide +kernel)))
    (bss_cons (bs_setV (i := 3) (BN.toV (bn_lst (ba_cons be_non (ba_cons be_bl (ba_cons be_bl (ba_cons be_int (ba_cons be_int (ba_cons (be_neg be_int) (ba_cons be_int (ba_cons be_int (ba_cons be_int (ba_cons (be_pow be_int be_int) (ba_cons (be_add (be_pow be_int be_int) be_int) (ba_cons (be_sub (be_neg (be_pow be_int be_int)) be_int) (ba_cons be_str (ba_cons be_str (ba_cons be_str (ba_cons be_str ba_nil)))))))))))))))))) nd rfl (.inl rfl))
    (bss_cons (bs_appendV 3 (pv 3) (be_neg (be_pow be_int be_int)))
    (bss_cons (bs_setV (i := 3) (BN.toV (bn_cat (bl_own 3 (pv 3)) (BN.l (bn_lst (ba_cons be_str (ba_cons (BN.e (bn_lst ba_nil)) (ba_cons (BV.ed bv_dict) (ba_cons (be_tup ba_nil) (ba_cons (be_tupleL (by rfl) bz.tuple (BE.l (be_nm 2 (pv 2)))) (ba_cons (be_tupleL (by rfl) bz.tuple (BE.l (be_nm 2 (pv 2)))) (ba_cons (BN.e (bn_list (by rfl) bz.list (BE.l (be_nm 2 (pv 2))))) (ba_cons (BV.ed (bv_disp2 (BPs.cons be_str (be_tupleL (by rfl) bz.tuple (BE.l (be_nm 2 (pv 2)))) BPs.nil) (by rfl) (by rfl) (fun z => by cases z) (by decide))) ba_nil)))))))))))) nd rfl (.inl rfl))
    (bss_one (bs_ret (be_ix (bl_own 3 (pv 3)) (be_call c__law_draw hr (by decide) (by rfl) tk (ba_cons (be_nm 0 (pv 0)) (ba_cons (be_len (by rfl) bz.len (bf_own 3 (pv 3))) ba_nil)))))))))), ?_⟩
    rintro _ n EX QD ⟨rfl, hn, q⟩
    simp only [startB, Nat.reduceAdd, Nat.reduceSub, List.replicate_succ, List.replicate_zero, wLc, wLc2, wISeq, wipeB, List.set_cons_succ, List.set_cons_zero, wgTup, wgCons, wgNil, wgNm, Bool.not_true, Bool.not_false, Bool.false_eq_true, if_true, if_false, List.map_cons, List.map_nil, List.length_cons, List.length_nil, List.cons_append, List.nil_append, wName, List.getElem?_cons_zero, List.getElem?_cons_succ, wC, wOp, wCall, wACons, wANil, wAndV, wOrV, wNotV, wIsi, wIsi2, wCmp, wChain, wChain3, wOfT, wIfE, wAnd, wOr, wNotT, bInt, bEq, bNe, bIsN, bNotN, bIn, bNotIn, wCall1, bLen, bAll, bAny, bSum, sRet, sRetN, sRetO, sIf, sSeq, sNil, sExpr, sSet, sAsg, sPar, wVE, wVN, wOfN, wOfE, wTup, wLst, pyAll, wIR1]
    refine (if_pos (by decide)).mpr ?_
    simp only [fDraw]
    refine ⟨_, rfl, by omega, by decide, by decide, fun r r0 r1 => ?_⟩
    refine ⟨by omega, by omega, ?_⟩
    have hr4 : r.toNat ≤ 3 := by omega
    refine lc_inv (fun j acc n' => (acc.length ≤ j ∧ n' ≤ n + 1 + 10 * j) ∧ ∀ e ∈ acc, An nE 10 2 e) (rngD 0 r.toNat) 0 [] (n + 1) (fun j d acc n' P R hj hI hp => ?_) ⟨⟨by simp, by omega⟩, fun e he => by cases he⟩ (fun acc n' h => ?_)
    · have hj3 : j < 3 := by
        have := (List.getElem?_eq_some_iff.mp hj).1
        unfold rngD at this
        simp at this
        omega
      simp only [startB, Nat.reduceAdd, Nat.reduceSub, List.replicate_succ, List.replicate_zero, wLc, wLc2, wISeq, wipeB, List.set_cons_succ, List.set_cons_zero, wgTup, wgCons, wgNil, wgNm, Bool.not_true, Bool.not_false, Bool.false_eq_true, if_true, if_false, List.map_cons, List.map_nil, List.length_cons, List.length_nil, List.cons_append, List.nil_append, wName, List.getElem?_cons_zero, List.getElem?_cons_succ, wC, wOp, wCall, wACons, wANil, wAndV, wOrV, wNotV, wIsi, wIsi2, wCmp, wChain, wChain3, wOfT, wIfE, wAnd, wOr, wNotT, bInt, bEq, bNe, bIsN, bNotN, bIn, bNotIn, wCall1, bLen, bAll, bAny, bSum, sRet, sRetN, sRetO, sIf, sSeq, sNil, sExpr, sSet, sAsg, sPar, wVE, wVN, wOfN, wOfE, wTup, wLst, pyAll, wYes, bSub, fAnyN]
      obtain ⟨hI, hacc⟩ := hI
      refine ⟨rfl, by omega, fun e n2 h2 ht => hp e n2 ⟨⟨by rw [List.length_append]; simp; omega, by omega⟩, fun x hx => ?_⟩⟩
      rcases List.mem_append.mp hx with hx | hx
      · exact hacc x hx
      · rw [List.mem_singleton.mp hx]
        exact ht
    · obtain ⟨⟨hl, hn'⟩, hacc⟩ := h
      have hl4 : acc.length ≤ 3 := by
        unfold rngD at hl
        simp at hl
        omega
      have hn4 : n' ≤ n + 31 := by
        unfold rngD at hn'
        simp at hn'
        omega
      simp only [startB, Nat.reduceAdd, Nat.reduceSub, List.replicate_succ, List.replicate_zero, wLc, wLc2, wISeq, wipeB, List.set_cons_succ, List.set_cons_zero, wgTup, wgCons, wgNil, wgNm, Bool.not_true, Bool.not_false, Bool.false_eq_true, if_true, if_false, List.map_cons, List.map_nil, List.length_cons, List.length_nil, List.cons_append, List.nil_append, wName, List.getElem?_cons_zero, List.getElem?_cons_succ, wC, wOp, wCall, wACons, wANil, wAndV, wOrV, wNotV, wIsi, wIsi2, wCmp, wChain, wChain3, wOfT, wIfE, wAnd, wOr, wNotT, bInt, bEq, bNe, bIsN, bNotN, bIn, bNotIn, wCall1, bLen, bAll, bAny, bSum, sRet, sRetN, sRetO, sIf, sSeq, sNil, sExpr, sSet, sAsg, sPar, wVE, wVN, wOfN, wOfE, wTup, wLst, pyAll, wNeg, bPow, bAdd, bSub, sAppend, wCat, wOwnL, wOwn, wEd, wVD, wDisp, wPairs, keyOf, wTupOf, wListOf, wIx, Option.map_some, fDraw]
      repeat' (refine And.intro (by first | exact cpow | exact trivial | decide | omega | exact (by simp; omega)) ?_)
      refine ⟨_, rfl, by omega, by decide, by decide, fun r r0 r1 => ?_⟩
      refine atI_mem r0 (by exact r1) fun z hz => q z _ (by omega) ?_
      refine an_any (inner := acc) (b := 10) (dp := 2) hacc hl4 (by decide) (by decide) (by decide) (by decide) (by decide) z ?_
      exact hz
theorem an_wide {inner : List PyData} {b dp B D : Nat} (h : ∀ e ∈ inner, An nE b dp e) (hl : inner.length ≤ 3) (hB : 3 * b + 10 ≤ B) (hB3 : 3 * b + 10 ≤ 1000) (hD : dp + 2 ≤ D) (hD2 : dp + 2 ≤ 20) : ∀ z ∈ atoms1 ++ [.str "0", .list [], .dict [], .tuple [], .tuple inner, .tuple inner, .list inner, .dict [(.str "a", .tuple inner)]], An nE B D z := an_any h hl hB (by omega) hB3 hD hD2
/-- anything, two deep -/
def fAnyN2 : FB := fun ds n _ Q => ds = [.pen, .py (.int 2)] ∧ n + 140 ≤ 2 ^ 60 ∧ ∀ d n', n' ≤ n + 140 → An nE 200 6 d → Q (.py d) n'
theorem in_anyN2 {F : Fx} (D : Dn F.K F.mg "_law_anything" s__law_anything ["pen", "deep"]) (bz : Bz F.mg) (c__law_draw : ClB F 1 "_law_draw" false fDraw) (c__law_anything : ClB F 3 "_law_anything" false (fAnyN 1 41)) : ClB F 4 "_law_anything" false fAnyN2 := by
  refine cl_b D sc__law_anything (fun ds n EX QD h => ?_) (fun fa cdv A outer s H E pn B0 hr tk po => ?_)
  · obtain ⟨rfl, _⟩ := h
    rfl
  · have nd := sc__law_anything.nd
    refine ⟨_, _, (bss_cons (bs_setLcE (i := 2) (own := [("k", 4)]) rfl nd (bi_rng1 (by rfl) bz.range (be_ifExp (bt_gt (BE.f (be_nm 1 (pv 1))) (BE.f be_int)) (be_call c__law_draw hr (by decide) (by rfl) tk (ba_cons (be_nm 0 (pv 0)) (ba_cons be_int ba_nil))) be_int)) (blkOk_by (N := ["pen", "deep", "inner", "some", "k"]) (sc := defScope s__law_anything) (by decide +kernel)) (fun _ _ _ _ _ => (bg_nm (pg_name (i := 4) nd rfl (.inl rfl)))) (fun _ _ _ _ _ => bts_nil) (fun _ _ _ _ _ => (be_call0 c__law_anything hr (by decide) (by rfl) (ba_cons (be_nm 0 (pv 0)) (ba_cons (be_sub (be_nm 1 (pv 1)) be_int) ba_nil)))) rfl rfl (sw_true rfl rfl rfl (by decide +kernel)))
    (bss_cons (bs_setV (i := 3) (BN.toV (bn_lst (ba_cons be_non (ba_cons be_bl (ba_cons be_bl (ba_cons be_int (ba_cons be_int (ba_cons (be_neg be_int) (ba_cons be_int (ba_cons be_int (ba_cons be_int (ba_cons (be_pow be_int be_int) (ba_cons (be_add (be_pow be_int be_int) be_int) (ba_cons (be_sub (be_neg (be_pow be_int be_int)) be_int) (ba_cons be_str (ba_cons be_str (ba_cons be_str (ba_cons be_str ba_nil)))))))))))))))))) nd rfl (.inl rfl))
    (bss_cons (bs_appendV 3 (pv 3) (be_neg (be_pow be_int be_int)))
    (bss_cons (bs_setV (i := 3) (BN.toV (bn_cat (bl_own 3 (pv 3)) (BN.l (bn_lst (ba_cons be_str (ba_cons (BN.e (bn_lst ba_nil)) (ba_cons (BV.ed bv_dict) (ba_cons (be_tup ba_nil) (ba_cons (be_tupleL (by rfl) bz.tuple (BE.l (be_nm 2 (pv 2)))) (ba_cons (be_tupleL (by rfl) bz.tuple (BE.l (be_nm 2 (pv 2)))) (ba_cons (BN.e (bn_list (by rfl) bz.list (BE.l (be_nm 2 (pv 2))))) (ba_cons (BV.ed (bv_disp2 (BPs.cons be_str (be_tupleL (by rfl) bz.tuple (BE.l (be_nm 2 (pv 2)))) BPs.nil) (by rfl) (by rfl) (fun z => by cases z) (by decide))) ba_nil)))))))))))) nd rfl (.inl rfl))
    (bss_one (bs_ret (be_ix (bl_own 3 (pv 3)) (be_call c__law_draw hr (by decide) (by rfl) tk (ba_cons (be_nm 0 (pv 0)) (ba_cons (be_len (by rfl) bz.len (bf_own 3 (pv 3))) ba_nil)))))))))), ?_⟩
    rintro _ n EX QD ⟨rfl, hn, q⟩
    simp only [startB, Nat.reduceAdd, Nat.reduceSub, List.replicate_succ, List.replicate_zero, wLc, wLc2, wISeq, wipeB, List.set_cons_succ, List.set_cons_zero, wgTup, wgCons, wgNil, wgNm, Bool.not_true, Bool.not_false, Bool.false_eq_true, if_true, if_false, List.map_cons, List.map_nil, List.length_cons, List.length_nil, List.cons_append, List.nil_append, wName, List.getElem?_cons_zero, List.getElem?_cons_succ, wC, wOp, wCall, wACons, wANil, wAndV, wOrV, wNotV, wIsi, wIsi2, wCmp, wChain, wChain3, wOfT, wIfE, wAnd, wOr, wNotT, bInt, bEq, bNe, bIsN, bNotN, bIn, bNotIn, wCall1, bLen, bAll, bAny, bSum, sRet, sRetN, sRetO, sIf, sSeq, sNil, sExpr, sSet, sAsg, sPar, wVE, wVN, wOfN, wOfE, wTup, wLst, pyAll, wIR1]
    refine (if_pos (by decide)).mpr ?_
    simp only [fDraw]
    refine ⟨_, rfl, by omega, by decide, by decide, fun r r0 r1 => ?_⟩
    refine ⟨by omega, by omega, ?_⟩
    have hr4 : r.toNat ≤ 3 := by omega
    refine lc_inv (fun j acc n' => (acc.length ≤ j ∧ n' ≤ n + 1 + 41 * j) ∧ ∀ e ∈ acc, An nE 60 4 e) (rngD 0 r.toNat) 0 [] (n + 1) (fun j d acc n' P R hj hI hp => ?_) ⟨⟨by simp, by omega⟩, fun e he => by cases he⟩ (fun acc n' h => ?_)
    · have hj3 : j < 3 := by
        have := (List.getElem?_eq_some_iff.mp hj).1
        unfold rngD at this
        simp at this
        omega
      simp only [startB, Nat.reduceAdd, Nat.reduceSub, List.replicate_succ, List.replicate_zero, wLc, wLc2, wISeq, wipeB, List.set_cons_succ, List.set_cons_zero, wgTup, wgCons, wgNil, wgNm, Bool.not_true, Bool.not_false, Bool.false_eq_true, if_true, if_false, List.map_cons, List.map_nil, List.length_cons, List.length_nil, List.cons_append, List.nil_append, wName, List.getElem?_cons_zero, List.getElem?_cons_succ, wC, wOp, wCall, wACons, wANil, wAndV, wOrV, wNotV, wIsi, wIsi2, wCmp, wChain, wChain3, wOfT, wIfE, wAnd, wOr, wNotT, bInt, bEq, bNe, bIsN, bNotN, bIn, bNotIn, wCall1, bLen, bAll, bAny, bSum, sRet, sRetN, sRetO, sIf, sSeq, sNil, sExpr, sSet, sAsg, sPar, wVE, wVN, wOfN, wOfE, wTup, wLst, pyAll, wYes, bSub, fAnyN]
      obtain ⟨hI, hacc⟩ := hI
      refine ⟨rfl, by omega, fun e n2 h2 ht => hp e n2 ⟨⟨by rw [List.length_append]; simp; omega, by omega⟩, fun x hx => ?_⟩⟩
      rcases List.mem_append.mp hx with hx | hx
      · exact hacc x hx
      · rw [List.mem_singleton.mp hx]
        exact ht
    · obtain ⟨⟨hl, hn'⟩, hacc⟩ := h
      have hl4 : acc.length ≤ 3 := by
        unfold rngD at hl
        simp at hl
        omega
      have hn4 : n' ≤ n + 124 := by
        unfold rngD at hn'
        simp at hn'
        omega
      simp only [startB, Nat.reduceAdd, Nat.reduceSub, List.replicate_succ, List.replicate_zero, wLc, wLc2, wISeq, wipeB, List.set_cons_succ, List.set_cons_zero, wgTup, wgCons, wgNil, wgNm, Bool.not_true, Bool.not_false, Bool.false_eq_true, if_true, if_false, List.map_cons, List.map_nil, List.length_cons, List.length_nil, List.cons_append, List.nil_append, wName, List.getElem?_cons_zero, List.getElem?_cons_succ, wC, wOp, wCall, wACons, wANil, wAndV, wOrV, wNotV, wIsi, wIsi2, wCmp, wChain, wChain3, wOfT, wIfE, wAnd, wOr, wNotT, bInt, bEq, bNe, bIsN, bNotN, bIn, bNotIn, wCall1, bLen, bAll, bAny, bSum, sRet, sRetN, sRetO, sIf, sSeq, sNil, sExpr, sSet, sAsg, sPar, wVE, wVN, wOfN, wOfE, wTup, wLst, pyAll, wNeg, bPow, bAdd, bSub, sAppend, wCat, wOwnL, wOwn, wEd, wVD, wDisp, wPairs, keyOf, wTupOf, wListOf, wIx, Option.map_some, fDraw]
      repeat' (refine And.intro (by first | exact cpow | exact trivial | decide | omega | exact (by simp; omega)) ?_)
      refine ⟨_, rfl, by omega, by decide, by decide, fun r r0 r1 => ?_⟩
      refine atI_mem r0 (by exact r1) fun z hz => q z _ (by omega) ?_
      refine an_wide (inner := acc) (b := 60) (dp := 4) hacc hl4 (by decide) (by decide) (by decide) (by decide) z ?_
      exact hz
theorem ok__law_anythingN {F : Fx} (D : Dn F.K F.mg "_law_anything" s__law_anything ["pen", "deep"]) (bz : Bz F.mg) (c__law_draw : ClB F 1 "_law_draw" false fDraw) : ClB F 3 "_law_anything" false (fAnyN 1 41) := by
  exact in_anyN1 D bz c__law_draw (in_anyN0 D bz c__law_draw (cl_never D))
theorem ok__law_anythingN2 {F : Fx} (D : Dn F.K F.mg "_law_anything" s__law_anything ["pen", "deep"]) (bz : Bz F.mg) (c__law_draw : ClB F 1 "_law_draw" false fDraw) (c__law_anythingN : ClB F 3 "_law_anything" false (fAnyN 1 41)) : ClB F 4 "_law_anything" false fAnyN2 := by
  exact in_anyN2 D bz c__law_draw c__law_anythingN
end Fv
set_option maxRecDepth 100000
set_option maxHeartbeats 4000000
/-! Any nonsense, bent. -/
namespace Fv
open PySem PySem.Spec PyProof.Rows L2 Gb
open PySem.W (T4)
namespace BG
theorem sc__law_bent : FnScope ["pen", "thing", "at", "part", "turn"] ["pen", "thing"] (defScope s__law_bent) := ⟨rfl, rfl, rfl, by decide +kernel, rfl, by decide +kernel, by decide +kernel⟩
end BG
theorem BG.eqv_ii (a b : Int) : (PyData.int a).eqv (.int b) = decide (a = b) := by
  unfold PyData.eqv
  rfl
def nB (c : Nat) : Nat := 2 * c + 10 ^ 31
def AnO (c b dp : Nat) (d : PyData) : Prop := An (nB c) (2 * b + 60) (dp + 4) d
theorem nB_le (c : Nat) : c ≤ nB c := by
  unfold nB
  omega
theorem nE_nB (c : Nat) : nE ≤ nB c := Nat.le_trans (by decide : nE ≤ 10 ^ 31) (Nat.le_add_left _ _)
theorem AnO.any {c b dp : Nat} {d : PyData} (h : An nE (10 + 50 * 1) (2 * 1 + 2) d) : AnO c b dp d := h.mono (nE_nB c) (by omega) (by omega)
def thirds : List PyData := [.none, .str "all", .str "waves", .str "none", .str "step", .int 1, .tuple []]
theorem AnO.third {c b dp : Nat} : ∀ z ∈ thirds, AnO c b dp z := by
  have h : thirds.all (fun z => bq nE z && (decide (z.bulk ≤ 10) && decide (z.depth ≤ 1))) = true := by decide +kernel
  intro z hz
  have k := List.all_eq_true.mp h z hz
  simp only [Bool.and_eq_true, decide_eq_true_eq] at k
  exact An.mono ⟨k.1, k.2.1, k.2.2⟩ (nE_nB c) (by omega) (by omega)
theorem AnO.int {c b dp : Nat} {i : Int} (h : i.natAbs ≤ nB c) : AnO c b dp (.int i) := by
  refine ⟨?_, ?_, ?_⟩
  · simp only [bq]
    exact decide_eq_true h
  · have : (PyData.int i).bulk ≤ 1 := by simp only [PyData.bulk]; omega
    omega
  · have : (PyData.int i).depth = 0 := by simp only [PyData.depth]
    omega
theorem AnO.one {c b dp : Nat} {i v : Int} (hv : v.natAbs ≤ c) (hc : c ≤ 10 ^ 40) : ∀ z ∈ [PyData.int (v + 1), .int (v - 1), .int (0 - v), .int 0, .int 1, .int (10 ^ 30 + 1), .int (2 * v)], AnO c b dp z := by
  intro z hz
  simp only [List.mem_cons, List.not_mem_nil, or_false] at hz
  have e31 : (10 ^ 30 + 1 : Int).natAbs ≤ 10 ^ 31 := by decide +kernel
  rcases hz with rfl | rfl | rfl | rfl | rfl | rfl | rfl
  all_goals
    refine AnO.int ?_
    unfold nB
    omega
theorem cut_take {xs : List PyData} {i : Nat} (h : i < xs.length) : cutD xs none (some (i : Int)) = xs.take i := by
  unfold cutD
  rw [HT.sIx_nat, Nat.min_eq_left (Nat.le_of_lt h)]
  show (xs.drop 0).take (i - 0) = _
  rw [List.drop_zero, Nat.sub_zero]
theorem cut_drop {xs : List PyData} {i : Nat} (h : i < xs.length) : cutD xs (some ((i : Int) + 1)) none = xs.drop (i + 1) := by
  unfold cutD
  rw [show ((i : Int) + 1) = ((i + 1 : Nat) : Int) from by omega, HT.sIx_nat, Nat.min_eq_left (by omega)]
  show (xs.drop (i + 1)).take (xs.length - (i + 1)) = _
  rw [← List.length_drop, List.take_length]
theorem bulk_lst (xs : List PyData) : (PyData.list xs).bulk = PyData.bulkAll xs ∧ (PyData.tuple xs).bulk = PyData.bulkAll xs := by
  constructor <;> simp only [PyData.bulk] <;> omega
theorem depth_lst (xs : List PyData) : (PyData.list xs).depth = PyData.depthAll xs + 1 ∧ (PyData.tuple xs).depth = PyData.depthAll xs + 1 := by
  constructor <;> simp only [PyData.depth] <;> omega
theorem an_base {c b dp : Nat} {xs : List PyData} (h : AnA c b dp xs) : AnA c (PyData.bulkAll xs) (PyData.depthAll xs) xs := ⟨h.q, Nat.le_refl _, fun d m => depth_mem m⟩
theorem AnO.lst {c : Nat} {xs ys : List PyData} (h : AnA (nB c) (2 * PyData.bulkAll xs + 60) (PyData.depthAll xs + 4) ys) : AnO c (PyData.bulkAll xs) (PyData.depthAll xs + 1) (.list ys) ∧ AnO c (PyData.bulkAll xs) (PyData.depthAll xs + 1) (.tuple ys) :=
  ⟨(an_lst h).1.mono (Nat.le_refl _) (Nat.le_refl _) (by omega), (an_lst h).2.mono (Nat.le_refl _) (Nat.le_refl _) (by omega)⟩
theorem AnO.same {c b dp : Nat} {xs ys : List PyData} (h : AnA c b dp xs) (k : AnA c (2 * PyData.bulkAll xs) (PyData.depthAll xs) ys) : AnO c (PyData.bulkAll xs) (PyData.depthAll xs + 1) (.list ys) ∧ AnO c (PyData.bulkAll xs) (PyData.depthAll xs + 1) (.tuple ys) :=
  AnO.lst (k.mono (nB_le c) (by omega) (by omega))
theorem AnO.seconds {c b dp : Nat} {xs : List PyData} (h : AnA c b dp xs) (L : List PyData → PyData) (hL : L = .list ∨ L = .tuple) : ∀ z ∈ [L (cutD xs (some 1) none), L (cutD xs none (some (-1))), L (xs ++ cutD xs (some (-1)) none), L xs.reverse, .list xs, .tuple xs, L (List.replicate (Int.toNat 2) xs).flatten], AnO c (PyData.bulkAll xs) (PyData.depthAll xs + 1) z := by
  intro z hz
  have kb := an_base h
  have g : ∀ ys, AnA c (2 * PyData.bulkAll xs) (PyData.depthAll xs) ys → AnO c (PyData.bulkAll xs) (PyData.depthAll xs + 1) (L ys) := fun ys k => by
    rcases hL with rfl | rfl
    · exact (AnO.same h k).1
    · exact (AnO.same h k).2
  have m1 : ∀ ys, AnA c (PyData.bulkAll xs) (PyData.depthAll xs) ys → AnA c (2 * PyData.bulkAll xs) (PyData.depthAll xs) ys := fun ys k => k.mono (Nat.le_refl _) (by omega) (Nat.le_refl _)
  simp only [List.mem_cons, List.not_mem_nil, or_false] at hz
  rcases hz with rfl | rfl | rfl | rfl | rfl | rfl | rfl
  · exact g _ (m1 _ (kb.cut _ _))
  · exact g _ (m1 _ (kb.cut _ _))
  · exact g _ ((kb.app (kb.cut _ _)).mono (Nat.le_refl _) (by omega) (Nat.le_refl _))
  · exact g _ (m1 _ kb.rev)
  · exact (AnO.same h (m1 _ kb)).1
  · exact (AnO.same h (m1 _ kb)).2
  · exact g _ kb.rep2
theorem AnO.put {c b dp : Nat} {xs : List PyData} {i : Nat} {x y : PyData} (h : AnA c b dp xs) (hi : xs[i]? = some x) (k : AnO c x.bulk x.depth y) : AnA (nB c) (2 * PyData.bulkAll xs + 60) (PyData.depthAll xs + 4) (cutD xs none (some (i : Int)) ++ [y] ++ cutD xs (some ((i : Int) + 1)) none) := by
  have hlt := (List.getElem?_eq_some_iff.mp hi).1
  rw [cut_take hlt, cut_drop hlt]
  have hm : x ∈ xs := List.mem_of_getElem? hi
  have hd := depth_mem hm
  exact AnA.put (an_base h) hi (An.mono k (Nat.le_refl _) (Nat.le_refl _) (by omega)) (nB_le c) (by omega)
/-- bent: things of depth k at most -/
def fBentG (k : Nat) : FB := fun ds n _ Q => ∃ (d : PyData) (c b dp : Nat), ds = [.pen, .py d] ∧ An c b dp d ∧ dp ≤ k ∧ b ≤ 900 ∧ c ≤ 10 ^ 40 ∧ n + 50 + 2 * (k + 1) ≤ 2 ^ 60 ∧ ∀ d' n', n' ≤ n + 50 + 2 * (k + 1) → AnO c d.bulk d.depth d' → Q (.py d') n'
theorem AnO.oneB {c b dp : Nat} {v : Int} (hv : v.natAbs ≤ c + 1) (hc : c ≤ 10 ^ 40) : ∀ z ∈ [PyData.int (v + 1), .int (v - 1), .int (0 - v), .int 0, .int 1, .int (10 ^ 30 + 1), .int (2 * v)], AnO c b dp z := by
  intro z hz
  simp only [List.mem_cons, List.not_mem_nil, or_false] at hz
  have e31 : (10 ^ 30 + 1 : Int).natAbs ≤ 10 ^ 31 := by decide +kernel
  rcases hz with rfl | rfl | rfl | rfl | rfl | rfl | rfl
  all_goals
    refine AnO.int ?_
    unfold nB
    omega
theorem in_bentG0 {F : Fx} (D : Dn F.K F.mg "_law_bent" s__law_bent ["pen", "thing"]) (bz : Bz F.mg) (c__law_draw : ClB F 1 "_law_draw" false fDraw) (c__law_anything : ClB F 3 "_law_anything" false (fAnyN 1 41)) (c__law_bent : ClB F 1 "_law_bent" false fNever) : ClB F 4 "_law_bent" false (fBentG 0) := by
  refine cl_b D BG.sc__law_bent (fun ds n EX QD h => ?_) (fun fa cdv A outer s H E pn B0 hr tk po => ?_)
  · obtain ⟨_, _, _, _, rfl, _⟩ := h
    rfl
  · have nd := BG.sc__law_bent.nd
    refine ⟨_, _, (bss_cons (bs_if (BW.bt (bw_and (bt_val (be_isi2 (T := "list") (T' := "tuple") (by decide) (by decide) (by rfl) bz.isinstance (BE.f (be_nm 1 (pv 1))) (pe_bltn (v := .ty "list") (u := .type "list") (by rfl) bz.list (by decide +kernel) rfl) (pe_bltn (v := .ty "tuple") (u := .type "tuple") (by rfl) bz.tuple (by decide +kernel) rfl))) (bw_and (bt_gt (BE.f (be_len (by rfl) bz.len (BE.f (be_nm 1 (pv 1))))) (BE.f be_int)) (bw_and1 (bt_gt (BE.f (be_call c__law_draw hr (by first | decide | (show _ ≤ 4 + k; omega)) (by rfl) tk (ba_cons (be_nm 0 (pv 0)) (ba_cons be_int ba_nil)))) (BE.f be_int))))))
    (bss_cons (bs_setV (i := 2) (BE.toV (be_call c__law_draw hr (by first | decide | (show _ ≤ 4 + k; omega)) (by rfl) tk (ba_cons (be_nm 0 (pv 0)) (ba_cons (be_len (by rfl) bz.len (BE.f (be_nm 1 (pv 1)))) ba_nil)))) nd rfl (.inl rfl))
    (bss_cons (bs_setV (i := 3) (BE.toV (be_ifExp (bt_val (be_isi (T := "list") (by decide) (by rfl) bz.isinstance (BE.f (be_nm 1 (pv 1))) (pe_bltn (v := .ty "list") (u := .type "list") (by rfl) bz.list (by decide +kernel) rfl))) (BN.e (bn_lst (ba_cons (be_call c__law_bent hr (by first | decide | (show _ ≤ 4 + k; omega)) (by rfl) tk (ba_cons (be_nm 0 (pv 0)) (ba_cons (be_ix (BE.l (be_nm 1 (pv 1))) (be_nm 2 (pv 2))) ba_nil))) ba_nil))) (be_tup (ba_cons (be_call c__law_bent hr (by first | decide | (show _ ≤ 4 + k; omega)) (by rfl) tk (ba_cons (be_nm 0 (pv 0)) (ba_cons (be_ix (BE.l (be_nm 1 (pv 1))) (be_nm 2 (pv 2))) ba_nil))) ba_nil)))) nd rfl (.inl rfl))
    (bss_one (bs_ret (be_alt (BN.e (bn_cat (BE.l (be_alt (BN.e (bn_cat (BE.l (be_alt (BN.e (bn_sl (BE.l (be_nm 1 (pv 1))) bo_none (bo_some (be_nm 2 (pv 2))))) (be_slT (BE.l (be_nm 1 (pv 1))) bo_none (bo_some (be_nm 2 (pv 2)))))) (BE.l (be_nm 3 (pv 3))))) (be_catA (be_alt (BN.e (bn_sl (BE.l (be_nm 1 (pv 1))) bo_none (bo_some (be_nm 2 (pv 2))))) (be_slT (BE.l (be_nm 1 (pv 1))) bo_none (bo_some (be_nm 2 (pv 2))))) (be_nm 3 (pv 3))))) (BE.l (be_alt (BN.e (bn_sl (BE.l (be_nm 1 (pv 1))) (bo_some (be_add (be_nm 2 (pv 2)) be_int)) bo_none)) (be_slT (BE.l (be_nm 1 (pv 1))) (bo_some (be_add (be_nm 2 (pv 2)) be_int)) bo_none))))) (be_catA (be_alt (BN.e (bn_cat (BE.l (be_alt (BN.e (bn_sl (BE.l (be_nm 1 (pv 1))) bo_none (bo_some (be_nm 2 (pv 2))))) (be_slT (BE.l (be_nm 1 (pv 1))) bo_none (bo_some (be_nm 2 (pv 2)))))) (BE.l (be_nm 3 (pv 3))))) (be_catA (be_alt (BN.e (bn_sl (BE.l (be_nm 1 (pv 1))) bo_none (bo_some (be_nm 2 (pv 2))))) (be_slT (BE.l (be_nm 1 (pv 1))) bo_none (bo_some (be_nm 2 (pv 2))))) (be_nm 3 (pv 3)))) (be_alt (BN.e (bn_sl (BE.l (be_nm 1 (pv 1))) (bo_some (be_add (be_nm 2 (pv 2)) be_int)) bo_none)) (be_slT (BE.l (be_nm 1 (pv 1))) (bo_some (be_add (be_nm 2 (pv 2)) be_int)) bo_none))))))))
    bss_nil)
    (bss_cons (bs_setV (i := 4) (BE.toV (be_call c__law_draw hr (by first | decide | (show _ ≤ 4 + k; omega)) (by rfl) tk (ba_cons (be_nm 0 (pv 0)) (ba_cons be_int ba_nil)))) nd rfl (.inl rfl))
    (bss_cons (bs_if (bt_eq hr.units (BE.f (be_nm 4 (pv 4))) (BE.f be_int))
    (bss_one (bs_ret (be_call c__law_anything hr (by first | decide | (show _ ≤ 4 + k; omega)) (by rfl) tk (ba_cons (be_nm 0 (pv 0)) (ba_cons be_int ba_nil)))))
    bss_nil)
    (bss_cons (bs_if (bt_val (be_isi (T := "int") (by decide) (by rfl) bz.isinstance (BE.f (be_nm 1 (pv 1))) (pe_bltn (v := .ty "int") (u := .type "int") (by rfl) bz.int (by decide +kernel) rfl)))
    (bss_one (bs_ret (be_ix (BN.l (bn_lst (ba_cons (be_alt (be_add (be_nm 1 (pv 1)) be_int) (be_addBI (be_nm 1 (pv 1)) be_int)) (ba_cons (be_alt (be_sub (be_nm 1 (pv 1)) be_int) (be_subBI (be_nm 1 (pv 1)) be_int)) (ba_cons (be_alt (be_sub be_int (be_nm 1 (pv 1))) (be_subIB be_int (be_nm 1 (pv 1)))) (ba_cons be_int (ba_cons be_int (ba_cons (be_add (be_pow be_int be_int) be_int) (ba_cons (be_alt (be_mul be_int (be_nm 1 (pv 1))) (be_mulIB be_int (be_nm 1 (pv 1)))) ba_nil))))))))) (be_sub (be_nm 4 (pv 4)) be_int))))
    bss_nil)
    (bss_cons (bs_if (bt_val (be_isi2 (T := "list") (T' := "tuple") (by decide) (by decide) (by rfl) bz.isinstance (BE.f (be_nm 1 (pv 1))) (pe_bltn (v := .ty "list") (u := .type "list") (by rfl) bz.list (by decide +kernel) rfl) (pe_bltn (v := .ty "tuple") (u := .type "tuple") (by rfl) bz.tuple (by decide +kernel) rfl)))
    (bss_one (bs_ret (be_ix (BN.l (bn_lst (ba_cons (be_alt (BN.e (bn_sl (BE.l (be_nm 1 (pv 1))) (bo_some be_int) bo_none)) (be_slT (BE.l (be_nm 1 (pv 1))) (bo_some be_int) bo_none)) (ba_cons (be_alt (BN.e (bn_sl (BE.l (be_nm 1 (pv 1))) bo_none (bo_some (be_neg be_int)))) (be_slT (BE.l (be_nm 1 (pv 1))) bo_none (bo_some (be_neg be_int)))) (ba_cons (be_alt (BN.e (bn_cat (BE.l (be_nm 1 (pv 1))) (BE.l (be_alt (BN.e (bn_sl (BE.l (be_nm 1 (pv 1))) (bo_some (be_neg be_int)) bo_none)) (be_slT (BE.l (be_nm 1 (pv 1))) (bo_some (be_neg be_int)) bo_none))))) (be_catA (be_nm 1 (pv 1)) (be_alt (BN.e (bn_sl (BE.l (be_nm 1 (pv 1))) (bo_some (be_neg be_int)) bo_none)) (be_slT (BE.l (be_nm 1 (pv 1))) (bo_some (be_neg be_int)) bo_none)))) (ba_cons (be_alt (BN.e (bn_revL (BE.l (be_nm 1 (pv 1))))) (be_revT (BE.l (be_nm 1 (pv 1))))) (ba_cons (BN.e (bn_list (by rfl) bz.list (BE.l (be_nm 1 (pv 1))))) (ba_cons (be_alt (be_tupleE (by rfl) bz.tuple (be_nm 1 (pv 1))) (be_tupleL (by rfl) bz.tuple (BE.l (be_nm 1 (pv 1))))) (ba_cons (be_alt (BN.e (bn_rep (BE.l (be_nm 1 (pv 1))) be_int)) (be_repU (be_nm 1 (pv 1)) be_int)) ba_nil))))))))) (be_sub (be_nm 4 (pv 4)) be_int))))
    bss_nil)
    (bss_one (bs_ret (be_ix (BN.l (bn_lst (ba_cons be_non (ba_cons be_str (ba_cons be_str (ba_cons be_str (ba_cons be_str (ba_cons be_int (ba_cons (be_tup ba_nil) ba_nil))))))))) (be_sub (be_nm 4 (pv 4)) be_int))))))))), ?_⟩
    rintro _ n EX QD ⟨d, c, b, dp, rfl, ha, hk, hb, hc, hn, q⟩
    have hdz := ha.dz
    cases d with
    | none =>
      simp only [startB, Nat.reduceAdd, Nat.reduceSub, List.replicate_succ, List.replicate_zero, wLc, wLc2, wISeq, wipeB, List.set_cons_succ, List.set_cons_zero, wgTup, wgCons, wgNil, wgNm, Bool.not_true, Bool.not_false, Bool.false_eq_true, if_true, if_false, List.map_cons, List.map_nil, List.length_cons, List.length_nil, List.cons_append, List.nil_append, wName, List.getElem?_cons_zero, List.getElem?_cons_succ, wC, wOp, wCall, wACons, wANil, wAndV, wOrV, wNotV, wIsi, wIsi2, wCmp, wChain, wChain3, wOfT, wIfE, wAnd, wOr, wNotT, bInt, bEq, bNe, bIsN, bNotN, bIn, bNotIn, wCall1, bLen, bAll, bAny, bSum, sRet, sRetN, sRetO, sIf, sSeq, sNil, sExpr, sSet, sAsg, sPar, wVE, wVN, wOfN, wOfE, wTup, wLst, pyAll, isB_list, isB_tuple, isB_int, isB_bool, Bool.or_false, Bool.or_true, Bool.false_or, Bool.true_or, fDraw]
      refine ⟨_, rfl, by omega, by decide, by decide, fun r r0 r1 => ?_⟩
      simp only [BG.eqv_ii, decide_eq_true_eq]
      refine ⟨rfl, rfl, ?_⟩
      by_cases hz : r = 0
      · rw [if_pos hz]
        exact ⟨rfl, by omega, fun d' n' hn' t => q d' n' (by omega) (AnO.any t)⟩
      · rw [if_neg hz]
        simp only [startB, Nat.reduceAdd, Nat.reduceSub, List.replicate_succ, List.replicate_zero, wLc, wLc2, wISeq, wipeB, List.set_cons_succ, List.set_cons_zero, wgTup, wgCons, wgNil, wgNm, Bool.not_true, Bool.not_false, Bool.false_eq_true, if_true, if_false, List.map_cons, List.map_nil, List.length_cons, List.length_nil, List.cons_append, List.nil_append, wName, List.getElem?_cons_zero, List.getElem?_cons_succ, wC, wOp, wCall, wACons, wANil, wAndV, wOrV, wNotV, wIsi, wIsi2, wCmp, wChain, wChain3, wOfT, wIfE, wAnd, wOr, wNotT, bInt, bEq, bNe, bIsN, bNotN, bIn, bNotIn, wCall1, bLen, bAll, bAny, bSum, sRet, sRetN, sRetO, sIf, sSeq, sNil, sExpr, sSet, sAsg, sPar, wVE, wVN, wOfN, wOfE, wTup, wLst, pyAll, wIx, bSub, Option.map_some]
        refine ⟨by decide, by decide, atI_mem (by omega) ?_ fun z hz => q z _ (by omega) (AnO.third z hz)⟩
        show r - 1 < 7
        omega
    | bool kb =>
      have hv : (oneOf kb).natAbs ≤ c + 1 := by
        cases kb <;> simp [oneOf]
      simp only [startB, Nat.reduceAdd, Nat.reduceSub, List.replicate_succ, List.replicate_zero, wLc, wLc2, wISeq, wipeB, List.set_cons_succ, List.set_cons_zero, wgTup, wgCons, wgNil, wgNm, Bool.not_true, Bool.not_false, Bool.false_eq_true, if_true, if_false, List.map_cons, List.map_nil, List.length_cons, List.length_nil, List.cons_append, List.nil_append, wName, List.getElem?_cons_zero, List.getElem?_cons_succ, wC, wOp, wCall, wACons, wANil, wAndV, wOrV, wNotV, wIsi, wIsi2, wCmp, wChain, wChain3, wOfT, wIfE, wAnd, wOr, wNotT, bInt, bEq, bNe, bIsN, bNotN, bIn, bNotIn, wCall1, bLen, bAll, bAny, bSum, sRet, sRetN, sRetO, sIf, sSeq, sNil, sExpr, sSet, sAsg, sPar, wVE, wVN, wOfN, wOfE, wTup, wLst, pyAll, isB_list, isB_tuple, isB_int, isB_bool, Bool.or_false, Bool.or_true, Bool.false_or, Bool.true_or, fDraw]
      refine ⟨_, rfl, by omega, by decide, by decide, fun r r0 r1 => ?_⟩
      simp only [BG.eqv_ii, decide_eq_true_eq]
      refine ⟨rfl, rfl, ?_⟩
      by_cases hz : r = 0
      · rw [if_pos hz]
        exact ⟨rfl, by omega, fun d' n' hn' t => q d' n' (by omega) (AnO.any t)⟩
      · rw [if_neg hz]
        simp only [startB, Nat.reduceAdd, Nat.reduceSub, List.replicate_succ, List.replicate_zero, wLc, wLc2, wISeq, wipeB, List.set_cons_succ, List.set_cons_zero, wgTup, wgCons, wgNil, wgNm, Bool.not_true, Bool.not_false, Bool.false_eq_true, if_true, if_false, List.map_cons, List.map_nil, List.length_cons, List.length_nil, List.cons_append, List.nil_append, wName, List.getElem?_cons_zero, List.getElem?_cons_succ, wC, wOp, wCall, wACons, wANil, wAndV, wOrV, wNotV, wIsi, wIsi2, wCmp, wChain, wChain3, wOfT, wIfE, wAnd, wOr, wNotT, bInt, bEq, bNe, bIsN, bNotN, bIn, bNotIn, wCall1, bLen, bAll, bAny, bSum, sRet, sRetN, sRetO, sIf, sSeq, sNil, sExpr, sSet, sAsg, sPar, wVE, wVN, wOfN, wOfE, wTup, wLst, pyAll, wIx, wAlt, bAdd, bSub, bMul, bBI, bIB, bPow, Option.map_some, or_false, false_or]
        refine ⟨cpow, by decide, atI_mem (by omega) ?_ fun z hz => q z _ (by omega) (AnO.oneB (v := oneOf kb) hv hc z hz)⟩
        show r - 1 < 7
        omega
    | int i =>
      have hv : i.natAbs ≤ c := by
        have := ha.q
        simpa only [bq, decide_eq_true_eq] using this
      simp only [startB, Nat.reduceAdd, Nat.reduceSub, List.replicate_succ, List.replicate_zero, wLc, wLc2, wISeq, wipeB, List.set_cons_succ, List.set_cons_zero, wgTup, wgCons, wgNil, wgNm, Bool.not_true, Bool.not_false, Bool.false_eq_true, if_true, if_false, List.map_cons, List.map_nil, List.length_cons, List.length_nil, List.cons_append, List.nil_append, wName, List.getElem?_cons_zero, List.getElem?_cons_succ, wC, wOp, wCall, wACons, wANil, wAndV, wOrV, wNotV, wIsi, wIsi2, wCmp, wChain, wChain3, wOfT, wIfE, wAnd, wOr, wNotT, bInt, bEq, bNe, bIsN, bNotN, bIn, bNotIn, wCall1, bLen, bAll, bAny, bSum, sRet, sRetN, sRetO, sIf, sSeq, sNil, sExpr, sSet, sAsg, sPar, wVE, wVN, wOfN, wOfE, wTup, wLst, pyAll, isB_list, isB_tuple, isB_int, isB_bool, Bool.or_false, Bool.or_true, Bool.false_or, Bool.true_or, fDraw]
      refine ⟨_, rfl, by omega, by decide, by decide, fun r r0 r1 => ?_⟩
      simp only [BG.eqv_ii, decide_eq_true_eq]
      refine ⟨rfl, rfl, ?_⟩
      by_cases hz : r = 0
      · rw [if_pos hz]
        exact ⟨rfl, by omega, fun d' n' hn' t => q d' n' (by omega) (AnO.any t)⟩
      · rw [if_neg hz]
        simp only [startB, Nat.reduceAdd, Nat.reduceSub, List.replicate_succ, List.replicate_zero, wLc, wLc2, wISeq, wipeB, List.set_cons_succ, List.set_cons_zero, wgTup, wgCons, wgNil, wgNm, Bool.not_true, Bool.not_false, Bool.false_eq_true, if_true, if_false, List.map_cons, List.map_nil, List.length_cons, List.length_nil, List.cons_append, List.nil_append, wName, List.getElem?_cons_zero, List.getElem?_cons_succ, wC, wOp, wCall, wACons, wANil, wAndV, wOrV, wNotV, wIsi, wIsi2, wCmp, wChain, wChain3, wOfT, wIfE, wAnd, wOr, wNotT, bInt, bEq, bNe, bIsN, bNotN, bIn, bNotIn, wCall1, bLen, bAll, bAny, bSum, sRet, sRetN, sRetO, sIf, sSeq, sNil, sExpr, sSet, sAsg, sPar, wVE, wVN, wOfN, wOfE, wTup, wLst, pyAll, wIx, wAlt, bAdd, bSub, bMul, bBI, bIB, bPow, Option.map_some, or_false, false_or]
        refine ⟨cpow, .inl ⟨by decide, by decide⟩, by decide, atI_mem (by omega) ?_ fun z hz => q z _ (by omega) (AnO.one (i := 0) (v := i) hv hc z hz)⟩
        show r - 1 < 7
        omega
    | str x =>
      simp only [startB, Nat.reduceAdd, Nat.reduceSub, List.replicate_succ, List.replicate_zero, wLc, wLc2, wISeq, wipeB, List.set_cons_succ, List.set_cons_zero, wgTup, wgCons, wgNil, wgNm, Bool.not_true, Bool.not_false, Bool.false_eq_true, if_true, if_false, List.map_cons, List.map_nil, List.length_cons, List.length_nil, List.cons_append, List.nil_append, wName, List.getElem?_cons_zero, List.getElem?_cons_succ, wC, wOp, wCall, wACons, wANil, wAndV, wOrV, wNotV, wIsi, wIsi2, wCmp, wChain, wChain3, wOfT, wIfE, wAnd, wOr, wNotT, bInt, bEq, bNe, bIsN, bNotN, bIn, bNotIn, wCall1, bLen, bAll, bAny, bSum, sRet, sRetN, sRetO, sIf, sSeq, sNil, sExpr, sSet, sAsg, sPar, wVE, wVN, wOfN, wOfE, wTup, wLst, pyAll, isB_list, isB_tuple, isB_int, isB_bool, Bool.or_false, Bool.or_true, Bool.false_or, Bool.true_or, fDraw]
      refine ⟨_, rfl, by omega, by decide, by decide, fun r r0 r1 => ?_⟩
      simp only [BG.eqv_ii, decide_eq_true_eq]
      refine ⟨rfl, rfl, ?_⟩
      by_cases hz : r = 0
      · rw [if_pos hz]
        exact ⟨rfl, by omega, fun d' n' hn' t => q d' n' (by omega) (AnO.any t)⟩
      · rw [if_neg hz]
        simp only [startB, Nat.reduceAdd, Nat.reduceSub, List.replicate_succ, List.replicate_zero, wLc, wLc2, wISeq, wipeB, List.set_cons_succ, List.set_cons_zero, wgTup, wgCons, wgNil, wgNm, Bool.not_true, Bool.not_false, Bool.false_eq_true, if_true, if_false, List.map_cons, List.map_nil, List.length_cons, List.length_nil, List.cons_append, List.nil_append, wName, List.getElem?_cons_zero, List.getElem?_cons_succ, wC, wOp, wCall, wACons, wANil, wAndV, wOrV, wNotV, wIsi, wIsi2, wCmp, wChain, wChain3, wOfT, wIfE, wAnd, wOr, wNotT, bInt, bEq, bNe, bIsN, bNotN, bIn, bNotIn, wCall1, bLen, bAll, bAny, bSum, sRet, sRetN, sRetO, sIf, sSeq, sNil, sExpr, sSet, sAsg, sPar, wVE, wVN, wOfN, wOfE, wTup, wLst, pyAll, wIx, bSub, Option.map_some]
        refine ⟨by decide, by decide, atI_mem (by omega) ?_ fun z hz => q z _ (by omega) (AnO.third z hz)⟩
        show r - 1 < 7
        omega
    | dict ks =>
      simp only [startB, Nat.reduceAdd, Nat.reduceSub, List.replicate_succ, List.replicate_zero, wLc, wLc2, wISeq, wipeB, List.set_cons_succ, List.set_cons_zero, wgTup, wgCons, wgNil, wgNm, Bool.not_true, Bool.not_false, Bool.false_eq_true, if_true, if_false, List.map_cons, List.map_nil, List.length_cons, List.length_nil, List.cons_append, List.nil_append, wName, List.getElem?_cons_zero, List.getElem?_cons_succ, wC, wOp, wCall, wACons, wANil, wAndV, wOrV, wNotV, wIsi, wIsi2, wCmp, wChain, wChain3, wOfT, wIfE, wAnd, wOr, wNotT, bInt, bEq, bNe, bIsN, bNotN, bIn, bNotIn, wCall1, bLen, bAll, bAny, bSum, sRet, sRetN, sRetO, sIf, sSeq, sNil, sExpr, sSet, sAsg, sPar, wVE, wVN, wOfN, wOfE, wTup, wLst, pyAll, isB_list, isB_tuple, isB_int, isB_bool, Bool.or_false, Bool.or_true, Bool.false_or, Bool.true_or, fDraw]
      refine ⟨_, rfl, by omega, by decide, by decide, fun r r0 r1 => ?_⟩
      simp only [BG.eqv_ii, decide_eq_true_eq]
      refine ⟨rfl, rfl, ?_⟩
      by_cases hz : r = 0
      · rw [if_pos hz]
        exact ⟨rfl, by omega, fun d' n' hn' t => q d' n' (by omega) (AnO.any t)⟩
      · rw [if_neg hz]
        simp only [startB, Nat.reduceAdd, Nat.reduceSub, List.replicate_succ, List.replicate_zero, wLc, wLc2, wISeq, wipeB, List.set_cons_succ, List.set_cons_zero, wgTup, wgCons, wgNil, wgNm, Bool.not_true, Bool.not_false, Bool.false_eq_true, if_true, if_false, List.map_cons, List.map_nil, List.length_cons, List.length_nil, List.cons_append, List.nil_append, wName, List.getElem?_cons_zero, List.getElem?_cons_succ, wC, wOp, wCall, wACons, wANil, wAndV, wOrV, wNotV, wIsi, wIsi2, wCmp, wChain, wChain3, wOfT, wIfE, wAnd, wOr, wNotT, bInt, bEq, bNe, bIsN, bNotN, bIn, bNotIn, wCall1, bLen, bAll, bAny, bSum, sRet, sRetN, sRetO, sIf, sSeq, sNil, sExpr, sSet, sAsg, sPar, wVE, wVN, wOfN, wOfE, wTup, wLst, pyAll, wIx, bSub, Option.map_some]
        refine ⟨by decide, by decide, atI_mem (by omega) ?_ fun z hz => q z _ (by omega) (AnO.third z hz)⟩
        show r - 1 < 7
        omega
    | list xs =>
      simp only [PyData.depth] at hdz
      omega
    | tuple xs =>
      simp only [PyData.depth] at hdz
      omega
theorem atI_mem2 {xs : List PyData} {i : Nat} {P : PyData → Prop} (h0 : 0 ≤ (i : Int)) (h1 : (i : Int) < ((xs.length : Nat) : Int)) (h : ∀ z, xs[i]? = some z → P z) : (match L2.atI xs (i : Int) with
    | some z => P z
    | none => False) := by
  have hi : i < xs.length := by omega
  have e : L2.atI xs (i : Int) = some xs[i] := by
    unfold L2.atI
    rw [ixN_nat hi]
    exact List.getElem?_eq_getElem hi
  rw [e]
  exact h _ (List.getElem?_eq_getElem hi)
theorem in_bentGS {F : Fx} (k : Nat) (D : Dn F.K F.mg "_law_bent" s__law_bent ["pen", "thing"]) (bz : Bz F.mg) (c__law_draw : ClB F 1 "_law_draw" false fDraw) (c__law_anything : ClB F 3 "_law_anything" false (fAnyN 1 41)) (c__law_bent : ClB F (4 + k) "_law_bent" false (fBentG k)) : ClB F (4 + (k + 1)) "_law_bent" false (fBentG (k + 1)) := by
  refine cl_b D BG.sc__law_bent (fun ds n EX QD h => ?_) (fun fa cdv A outer s H E pn B0 hr tk po => ?_)
  · obtain ⟨_, _, _, _, rfl, _⟩ := h
    rfl
  · have nd := BG.sc__law_bent.nd
    refine ⟨_, _, (bss_cons (bs_if (BW.bt (bw_and (bt_val (be_isi2 (T := "list") (T' := "tuple") (by decide) (by decide) (by rfl) bz.isinstance (BE.f (be_nm 1 (pv 1))) (pe_bltn (v := .ty "list") (u := .type "list") (by rfl) bz.list (by decide +kernel) rfl) (pe_bltn (v := .ty "tuple") (u := .type "tuple") (by rfl) bz.tuple (by decide +kernel) rfl))) (bw_and (bt_gt (BE.f (be_len (by rfl) bz.len (BE.f (be_nm 1 (pv 1))))) (BE.f be_int)) (bw_and1 (bt_gt (BE.f (be_call c__law_draw hr (by first | decide | (show _ ≤ 4 + k; omega)) (by rfl) tk (ba_cons (be_nm 0 (pv 0)) (ba_cons be_int ba_nil)))) (BE.f be_int))))))
    (bss_cons (bs_setV (i := 2) (BE.toV (be_call c__law_draw hr (by first | decide | (show _ ≤ 4 + k; omega)) (by rfl) tk (ba_cons (be_nm 0 (pv 0)) (ba_cons (be_len (by rfl) bz.len (BE.f (be_nm 1 (pv 1)))) ba_nil)))) nd rfl (.inl rfl))
    (bss_cons (bs_setV (i := 3) (BE.toV (be_ifExp (bt_val (be_isi (T := "list") (by decide) (by rfl) bz.isinstance (BE.f (be_nm 1 (pv 1))) (pe_bltn (v := .ty "list") (u := .type "list") (by rfl) bz.list (by decide +kernel) rfl))) (BN.e (bn_lst (ba_cons (be_call c__law_bent hr (by first | decide | (show _ ≤ 4 + k; omega)) (by rfl) tk (ba_cons (be_nm 0 (pv 0)) (ba_cons (be_ix (BE.l (be_nm 1 (pv 1))) (be_nm 2 (pv 2))) ba_nil))) ba_nil))) (be_tup (ba_cons (be_call c__law_bent hr (by first | decide | (show _ ≤ 4 + k; omega)) (by rfl) tk (ba_cons (be_nm 0 (pv 0)) (ba_cons (be_ix (BE.l (be_nm 1 (pv 1))) (be_nm 2 (pv 2))) ba_nil))) ba_nil)))) nd rfl (.inl rfl))
    (bss_one (bs_ret (be_alt (BN.e (bn_cat (BE.l (be_alt (BN.e (bn_cat (BE.l (be_alt (BN.e (bn_sl (BE.l (be_nm 1 (pv 1))) bo_none (bo_some (be_nm 2 (pv 2))))) (be_slT (BE.l (be_nm 1 (pv 1))) bo_none (bo_some (be_nm 2 (pv 2)))))) (BE.l (be_nm 3 (pv 3))))) (be_catA (be_alt (BN.e (bn_sl (BE.l (be_nm 1 (pv 1))) bo_none (bo_some (be_nm 2 (pv 2))))) (be_slT (BE.l (be_nm 1 (pv 1))) bo_none (bo_some (be_nm 2 (pv 2))))) (be_nm 3 (pv 3))))) (BE.l (be_alt (BN.e (bn_sl (BE.l (be_nm 1 (pv 1))) (bo_some (be_add (be_nm 2 (pv 2)) be_int)) bo_none)) (be_slT (BE.l (be_nm 1 (pv 1))) (bo_some (be_add (be_nm 2 (pv 2)) be_int)) bo_none))))) (be_catA (be_alt (BN.e (bn_cat (BE.l (be_alt (BN.e (bn_sl (BE.l (be_nm 1 (pv 1))) bo_none (bo_some (be_nm 2 (pv 2))))) (be_slT (BE.l (be_nm 1 (pv 1))) bo_none (bo_some (be_nm 2 (pv 2)))))) (BE.l (be_nm 3 (pv 3))))) (be_catA (be_alt (BN.e (bn_sl (BE.l (be_nm 1 (pv 1))) bo_none (bo_some (be_nm 2 (pv 2))))) (be_slT (BE.l (be_nm 1 (pv 1))) bo_none (bo_some (be_nm 2 (pv 2))))) (be_nm 3 (pv 3)))) (be_alt (BN.e (bn_sl (BE.l (be_nm 1 (pv 1))) (bo_some (be_add (be_nm 2 (pv 2)) be_int)) bo_none)) (be_slT (BE.l (be_nm 1 (pv 1))) (bo_some (be_add (be_nm 2 (pv 2)) be_int)) bo_none))))))))
    bss_nil)
    (bss_cons (bs_setV (i := 4) (BE.toV (be_call c__law_draw hr (by first | decide | (show _ ≤ 4 + k; omega)) (by rfl) tk (ba_cons (be_nm 0 (pv 0)) (ba_cons be_int ba_nil)))) nd rfl (.inl rfl))
    (bss_cons (bs_if (bt_eq hr.units (BE.f (be_nm 4 (pv 4))) (BE.f be_int))
    (bss_one (bs_ret (be_call c__law_anything hr (by first | decide | (show _ ≤ 4 + k; omega)) (by rfl) tk (ba_cons (be_nm 0 (pv 0)) (ba_cons be_int ba_nil)))))
    bss_nil)
    (bss_cons (bs_if (bt_val (be_isi (T := "int") (by decide) (by rfl) bz.isinstance (BE.f (be_nm 1 (pv 1))) (pe_bltn (v := .ty "int") (u := .type "int") (by rfl) bz.int (by decide +kernel) rfl)))
    (bss_one (bs_ret (be_ix (BN.l (bn_lst (ba_cons (be_alt (be_add (be_nm 1 (pv 1)) be_int) (be_addBI (be_nm 1 (pv 1)) be_int)) (ba_cons (be_alt (be_sub (be_nm 1 (pv 1)) be_int) (be_subBI (be_nm 1 (pv 1)) be_int)) (ba_cons (be_alt (be_sub be_int (be_nm 1 (pv 1))) (be_subIB be_int (be_nm 1 (pv 1)))) (ba_cons be_int (ba_cons be_int (ba_cons (be_add (be_pow be_int be_int) be_int) (ba_cons (be_alt (be_mul be_int (be_nm 1 (pv 1))) (be_mulIB be_int (be_nm 1 (pv 1)))) ba_nil))))))))) (be_sub (be_nm 4 (pv 4)) be_int))))
    bss_nil)
    (bss_cons (bs_if (bt_val (be_isi2 (T := "list") (T' := "tuple") (by decide) (by decide) (by rfl) bz.isinstance (BE.f (be_nm 1 (pv 1))) (pe_bltn (v := .ty "list") (u := .type "list") (by rfl) bz.list (by decide +kernel) rfl) (pe_bltn (v := .ty "tuple") (u := .type "tuple") (by rfl) bz.tuple (by decide +kernel) rfl)))
    (bss_one (bs_ret (be_ix (BN.l (bn_lst (ba_cons (be_alt (BN.e (bn_sl (BE.l (be_nm 1 (pv 1))) (bo_some be_int) bo_none)) (be_slT (BE.l (be_nm 1 (pv 1))) (bo_some be_int) bo_none)) (ba_cons (be_alt (BN.e (bn_sl (BE.l (be_nm 1 (pv 1))) bo_none (bo_some (be_neg be_int)))) (be_slT (BE.l (be_nm 1 (pv 1))) bo_none (bo_some (be_neg be_int)))) (ba_cons (be_alt (BN.e (bn_cat (BE.l (be_nm 1 (pv 1))) (BE.l (be_alt (BN.e (bn_sl (BE.l (be_nm 1 (pv 1))) (bo_some (be_neg be_int)) bo_none)) (be_slT (BE.l (be_nm 1 (pv 1))) (bo_some (be_neg be_int)) bo_none))))) (be_catA (be_nm 1 (pv 1)) (be_alt (BN.e (bn_sl (BE.l (be_nm 1 (pv 1))) (bo_some (be_neg be_int)) bo_none)) (be_slT (BE.l (be_nm 1 (pv 1))) (bo_some (be_neg be_int)) bo_none)))) (ba_cons (be_alt (BN.e (bn_revL (BE.l (be_nm 1 (pv 1))))) (be_revT (BE.l (be_nm 1 (pv 1))))) (ba_cons (BN.e (bn_list (by rfl) bz.list (BE.l (be_nm 1 (pv 1))))) (ba_cons (be_alt (be_tupleE (by rfl) bz.tuple (be_nm 1 (pv 1))) (be_tupleL (by rfl) bz.tuple (BE.l (be_nm 1 (pv 1))))) (ba_cons (be_alt (BN.e (bn_rep (BE.l (be_nm 1 (pv 1))) be_int)) (be_repU (be_nm 1 (pv 1)) be_int)) ba_nil))))))))) (be_sub (be_nm 4 (pv 4)) be_int))))
    bss_nil)
    (bss_one (bs_ret (be_ix (BN.l (bn_lst (ba_cons be_non (ba_cons be_str (ba_cons be_str (ba_cons be_str (ba_cons be_str (ba_cons be_int (ba_cons (be_tup ba_nil) ba_nil))))))))) (be_sub (be_nm 4 (pv 4)) be_int))))))))), ?_⟩
    rintro _ n EX QD ⟨d, c, b, dp, rfl, ha, hk, hb, hc, hn, q⟩
    have hdz := ha.dz
    cases d with
    | none =>
      simp only [startB, Nat.reduceAdd, Nat.reduceSub, List.replicate_succ, List.replicate_zero, wLc, wLc2, wISeq, wipeB, List.set_cons_succ, List.set_cons_zero, wgTup, wgCons, wgNil, wgNm, Bool.not_true, Bool.not_false, Bool.false_eq_true, if_true, if_false, List.map_cons, List.map_nil, List.length_cons, List.length_nil, List.cons_append, List.nil_append, wName, List.getElem?_cons_zero, List.getElem?_cons_succ, wC, wOp, wCall, wACons, wANil, wAndV, wOrV, wNotV, wIsi, wIsi2, wCmp, wChain, wChain3, wOfT, wIfE, wAnd, wOr, wNotT, bInt, bEq, bNe, bIsN, bNotN, bIn, bNotIn, wCall1, bLen, bAll, bAny, bSum, sRet, sRetN, sRetO, sIf, sSeq, sNil, sExpr, sSet, sAsg, sPar, wVE, wVN, wOfN, wOfE, wTup, wLst, pyAll, isB_list, isB_tuple, isB_int, isB_bool, Bool.or_false, Bool.or_true, Bool.false_or, Bool.true_or, fDraw]
      refine ⟨_, rfl, by omega, by decide, by decide, fun r r0 r1 => ?_⟩
      simp only [BG.eqv_ii, decide_eq_true_eq]
      refine ⟨rfl, rfl, ?_⟩
      by_cases hz : r = 0
      · rw [if_pos hz]
        exact ⟨rfl, by omega, fun d' n' hn' t => q d' n' (by omega) (AnO.any t)⟩
      · rw [if_neg hz]
        simp only [startB, Nat.reduceAdd, Nat.reduceSub, List.replicate_succ, List.replicate_zero, wLc, wLc2, wISeq, wipeB, List.set_cons_succ, List.set_cons_zero, wgTup, wgCons, wgNil, wgNm, Bool.not_true, Bool.not_false, Bool.false_eq_true, if_true, if_false, List.map_cons, List.map_nil, List.length_cons, List.length_nil, List.cons_append, List.nil_append, wName, List.getElem?_cons_zero, List.getElem?_cons_succ, wC, wOp, wCall, wACons, wANil, wAndV, wOrV, wNotV, wIsi, wIsi2, wCmp, wChain, wChain3, wOfT, wIfE, wAnd, wOr, wNotT, bInt, bEq, bNe, bIsN, bNotN, bIn, bNotIn, wCall1, bLen, bAll, bAny, bSum, sRet, sRetN, sRetO, sIf, sSeq, sNil, sExpr, sSet, sAsg, sPar, wVE, wVN, wOfN, wOfE, wTup, wLst, pyAll, wIx, bSub, Option.map_some]
        refine ⟨by decide, by decide, atI_mem (by omega) ?_ fun z hz => q z _ (by omega) (AnO.third z hz)⟩
        show r - 1 < 7
        omega
    | bool kb =>
      have hv : (oneOf kb).natAbs ≤ c + 1 := by
        cases kb <;> simp [oneOf]
      simp only [startB, Nat.reduceAdd, Nat.reduceSub, List.replicate_succ, List.replicate_zero, wLc, wLc2, wISeq, wipeB, List.set_cons_succ, List.set_cons_zero, wgTup, wgCons, wgNil, wgNm, Bool.not_true, Bool.not_false, Bool.false_eq_true, if_true, if_false, List.map_cons, List.map_nil, List.length_cons, List.length_nil, List.cons_append, List.nil_append, wName, List.getElem?_cons_zero, List.getElem?_cons_succ, wC, wOp, wCall, wACons, wANil, wAndV, wOrV, wNotV, wIsi, wIsi2, wCmp, wChain, wChain3, wOfT, wIfE, wAnd, wOr, wNotT, bInt, bEq, bNe, bIsN, bNotN, bIn, bNotIn, wCall1, bLen, bAll, bAny, bSum, sRet, sRetN, sRetO, sIf, sSeq, sNil, sExpr, sSet, sAsg, sPar, wVE, wVN, wOfN, wOfE, wTup, wLst, pyAll, isB_list, isB_tuple, isB_int, isB_bool, Bool.or_false, Bool.or_true, Bool.false_or, Bool.true_or, fDraw]
      refine ⟨_, rfl, by omega, by decide, by decide, fun r r0 r1 => ?_⟩
      simp only [BG.eqv_ii, decide_eq_true_eq]
      refine ⟨rfl, rfl, ?_⟩
      by_cases hz : r = 0
      · rw [if_pos hz]
        exact ⟨rfl, by omega, fun d' n' hn' t => q d' n' (by omega) (AnO.any t)⟩
      · rw [if_neg hz]
        simp only [startB, Nat.reduceAdd, Nat.reduceSub, List.replicate_succ, List.replicate_zero, wLc, wLc2, wISeq, wipeB, List.set_cons_succ, List.set_cons_zero, wgTup, wgCons, wgNil, wgNm, Bool.not_true, Bool.not_false, Bool.false_eq_true, if_true, if_false, List.map_cons, List.map_nil, List.length_cons, List.length_nil, List.cons_append, List.nil_append, wName, List.getElem?_cons_zero, List.getElem?_cons_succ, wC, wOp, wCall, wACons, wANil, wAndV, wOrV, wNotV, wIsi, wIsi2, wCmp, wChain, wChain3, wOfT, wIfE, wAnd, wOr, wNotT, bInt, bEq, bNe, bIsN, bNotN, bIn, bNotIn, wCall1, bLen, bAll, bAny, bSum, sRet, sRetN, sRetO, sIf, sSeq, sNil, sExpr, sSet, sAsg, sPar, wVE, wVN, wOfN, wOfE, wTup, wLst, pyAll, wIx, wAlt, bAdd, bSub, bMul, bBI, bIB, bPow, Option.map_some, or_false, false_or]
        refine ⟨cpow, by decide, atI_mem (by omega) ?_ fun z hz => q z _ (by omega) (AnO.oneB (v := oneOf kb) hv hc z hz)⟩
        show r - 1 < 7
        omega
    | int i =>
      have hv : i.natAbs ≤ c := by
        have := ha.q
        simpa only [bq, decide_eq_true_eq] using this
      simp only [startB, Nat.reduceAdd, Nat.reduceSub, List.replicate_succ, List.replicate_zero, wLc, wLc2, wISeq, wipeB, List.set_cons_succ, List.set_cons_zero, wgTup, wgCons, wgNil, wgNm, Bool.not_true, Bool.not_false, Bool.false_eq_true, if_true, if_false, List.map_cons, List.map_nil, List.length_cons, List.length_nil, List.cons_append, List.nil_append, wName, List.getElem?_cons_zero, List.getElem?_cons_succ, wC, wOp, wCall, wACons, wANil, wAndV, wOrV, wNotV, wIsi, wIsi2, wCmp, wChain, wChain3, wOfT, wIfE, wAnd, wOr, wNotT, bInt, bEq, bNe, bIsN, bNotN, bIn, bNotIn, wCall1, bLen, bAll, bAny, bSum, sRet, sRetN, sRetO, sIf, sSeq, sNil, sExpr, sSet, sAsg, sPar, wVE, wVN, wOfN, wOfE, wTup, wLst, pyAll, isB_list, isB_tuple, isB_int, isB_bool, Bool.or_false, Bool.or_true, Bool.false_or, Bool.true_or, fDraw]
      refine ⟨_, rfl, by omega, by decide, by decide, fun r r0 r1 => ?_⟩
      simp only [BG.eqv_ii, decide_eq_true_eq]
      refine ⟨rfl, rfl, ?_⟩
      by_cases hz : r = 0
      · rw [if_pos hz]
        exact ⟨rfl, by omega, fun d' n' hn' t => q d' n' (by omega) (AnO.any t)⟩
      · rw [if_neg hz]
        simp only [startB, Nat.reduceAdd, Nat.reduceSub, List.replicate_succ, List.replicate_zero, wLc, wLc2, wISeq, wipeB, List.set_cons_succ, List.set_cons_zero, wgTup, wgCons, wgNil, wgNm, Bool.not_true, Bool.not_false, Bool.false_eq_true, if_true, if_false, List.map_cons, List.map_nil, List.length_cons, List.length_nil, List.cons_append, List.nil_append, wName, List.getElem?_cons_zero, List.getElem?_cons_succ, wC, wOp, wCall, wACons, wANil, wAndV, wOrV, wNotV, wIsi, wIsi2, wCmp, wChain, wChain3, wOfT, wIfE, wAnd, wOr, wNotT, bInt, bEq, bNe, bIsN, bNotN, bIn, bNotIn, wCall1, bLen, bAll, bAny, bSum, sRet, sRetN, sRetO, sIf, sSeq, sNil, sExpr, sSet, sAsg, sPar, wVE, wVN, wOfN, wOfE, wTup, wLst, pyAll, wIx, wAlt, bAdd, bSub, bMul, bBI, bIB, bPow, Option.map_some, or_false, false_or]
        refine ⟨cpow, .inl ⟨by decide, by decide⟩, by decide, atI_mem (by omega) ?_ fun z hz => q z _ (by omega) (AnO.one (i := 0) (v := i) hv hc z hz)⟩
        show r - 1 < 7
        omega
    | str x =>
      simp only [startB, Nat.reduceAdd, Nat.reduceSub, List.replicate_succ, List.replicate_zero, wLc, wLc2, wISeq, wipeB, List.set_cons_succ, List.set_cons_zero, wgTup, wgCons, wgNil, wgNm, Bool.not_true, Bool.not_false, Bool.false_eq_true, if_true, if_false, List.map_cons, List.map_nil, List.length_cons, List.length_nil, List.cons_append, List.nil_append, wName, List.getElem?_cons_zero, List.getElem?_cons_succ, wC, wOp, wCall, wACons, wANil, wAndV, wOrV, wNotV, wIsi, wIsi2, wCmp, wChain, wChain3, wOfT, wIfE, wAnd, wOr, wNotT, bInt, bEq, bNe, bIsN, bNotN, bIn, bNotIn, wCall1, bLen, bAll, bAny, bSum, sRet, sRetN, sRetO, sIf, sSeq, sNil, sExpr, sSet, sAsg, sPar, wVE, wVN, wOfN, wOfE, wTup, wLst, pyAll, isB_list, isB_tuple, isB_int, isB_bool, Bool.or_false, Bool.or_true, Bool.false_or, Bool.true_or, fDraw]
      refine ⟨_, rfl, by omega, by decide, by decide, fun r r0 r1 => ?_⟩
      simp only [BG.eqv_ii, decide_eq_true_eq]
      refine ⟨rfl, rfl, ?_⟩
      by_cases hz : r = 0
      · rw [if_pos hz]
        exact ⟨rfl, by omega, fun d' n' hn' t => q d' n' (by omega) (AnO.any t)⟩
      · rw [if_neg hz]
        simp only [startB, Nat.reduceAdd, Nat.reduceSub, List.replicate_succ, List.replicate_zero, wLc, wLc2, wISeq, wipeB, List.set_cons_succ, List.set_cons_zero, wgTup, wgCons, wgNil, wgNm, Bool.not_true, Bool.not_false, Bool.false_eq_true, if_true, if_false, List.map_cons, List.map_nil, List.length_cons, List.length_nil, List.cons_append, List.nil_append, wName, List.getElem?_cons_zero, List.getElem?_cons_succ, wC, wOp, wCall, wACons, wANil, wAndV, wOrV, wNotV, wIsi, wIsi2, wCmp, wChain, wChain3, wOfT, wIfE, wAnd, wOr, wNotT, bInt, bEq, bNe, bIsN, bNotN, bIn, bNotIn, wCall1, bLen, bAll, bAny, bSum, sRet, sRetN, sRetO, sIf, sSeq, sNil, sExpr, sSet, sAsg, sPar, wVE, wVN, wOfN, wOfE, wTup, wLst, pyAll, wIx, bSub, Option.map_some]
        refine ⟨by decide, by decide, atI_mem (by omega) ?_ fun z hz => q z _ (by omega) (AnO.third z hz)⟩
        show r - 1 < 7
        omega
    | dict ks =>
      simp only [startB, Nat.reduceAdd, Nat.reduceSub, List.replicate_succ, List.replicate_zero, wLc, wLc2, wISeq, wipeB, List.set_cons_succ, List.set_cons_zero, wgTup, wgCons, wgNil, wgNm, Bool.not_true, Bool.not_false, Bool.false_eq_true, if_true, if_false, List.map_cons, List.map_nil, List.length_cons, List.length_nil, List.cons_append, List.nil_append, wName, List.getElem?_cons_zero, List.getElem?_cons_succ, wC, wOp, wCall, wACons, wANil, wAndV, wOrV, wNotV, wIsi, wIsi2, wCmp, wChain, wChain3, wOfT, wIfE, wAnd, wOr, wNotT, bInt, bEq, bNe, bIsN, bNotN, bIn, bNotIn, wCall1, bLen, bAll, bAny, bSum, sRet, sRetN, sRetO, sIf, sSeq, sNil, sExpr, sSet, sAsg, sPar, wVE, wVN, wOfN, wOfE, wTup, wLst, pyAll, isB_list, isB_tuple, isB_int, isB_bool, Bool.or_false, Bool.or_true, Bool.false_or, Bool.true_or, fDraw]
      refine ⟨_, rfl, by omega, by decide, by decide, fun r r0 r1 => ?_⟩
      simp only [BG.eqv_ii, decide_eq_true_eq]
      refine ⟨rfl, rfl, ?_⟩
      by_cases hz : r = 0
      · rw [if_pos hz]
        exact ⟨rfl, by omega, fun d' n' hn' t => q d' n' (by omega) (AnO.any t)⟩
      · rw [if_neg hz]
        simp only [startB, Nat.reduceAdd, Nat.reduceSub, List.replicate_succ, List.replicate_zero, wLc, wLc2, wISeq, wipeB, List.set_cons_succ, List.set_cons_zero, wgTup, wgCons, wgNil, wgNm, Bool.not_true, Bool.not_false, Bool.false_eq_true, if_true, if_false, List.map_cons, List.map_nil, List.length_cons, List.length_nil, List.cons_append, List.nil_append, wName, List.getElem?_cons_zero, List.getElem?_cons_succ, wC, wOp, wCall, wACons, wANil, wAndV, wOrV, wNotV, wIsi, wIsi2, wCmp, wChain, wChain3, wOfT, wIfE, wAnd, wOr, wNotT, bInt, bEq, bNe, bIsN, bNotN, bIn, bNotIn, wCall1, bLen, bAll, bAny, bSum, sRet, sRetN, sRetO, sIf, sSeq, sNil, sExpr, sSet, sAsg, sPar, wVE, wVN, wOfN, wOfE, wTup, wLst, pyAll, wIx, bSub, Option.map_some]
        refine ⟨by decide, by decide, atI_mem (by omega) ?_ fun z hz => q z _ (by omega) (AnO.third z hz)⟩
        show r - 1 < 7
        omega
    | list xs =>
      obtain ⟨k0, rfl, hA⟩ := an_items (.inl ha)
      have hbl := bulkA_len xs
      have hbb : PyData.bulkAll xs ≤ b := hA.b
      rw [(bulk_lst xs).1, (depth_lst xs).1] at q
      simp only [startB, Nat.reduceAdd, Nat.reduceSub, List.replicate_succ, List.replicate_zero, wLc, wLc2, wISeq, wipeB, List.set_cons_succ, List.set_cons_zero, wgTup, wgCons, wgNil, wgNm, Bool.not_true, Bool.not_false, Bool.false_eq_true, if_true, if_false, List.map_cons, List.map_nil, List.length_cons, List.length_nil, List.cons_append, List.nil_append, wName, List.getElem?_cons_zero, List.getElem?_cons_succ, wC, wOp, wCall, wACons, wANil, wAndV, wOrV, wNotV, wIsi, wIsi2, wCmp, wChain, wChain3, wOfT, wIfE, wAnd, wOr, wNotT, bInt, bEq, bNe, bIsN, bNotN, bIn, bNotIn, wCall1, bLen, bAll, bAny, bSum, sRet, sRetN, sRetO, sIf, sSeq, sNil, sExpr, sSet, sAsg, sPar, wVE, wVN, wOfN, wOfE, wTup, wLst, pyAll, isB_list, isB_tuple, isB_int, isB_bool, Bool.or_false, Bool.or_true, Bool.false_or, Bool.true_or, fDraw]
      by_cases h0 : 0 < xs.length
      · refine (if_pos (decide_eq_true (by omega))).mpr ?_
        refine ⟨_, rfl, by omega, by decide, by decide, fun r r0 r1 => ?_⟩
        by_cases hr0 : 0 < r
        · refine (if_pos (decide_eq_true hr0)).mpr ?_
          refine ⟨_, rfl, by omega, by omega, by omega, fun i i0 i1 => ?_⟩
          obtain ⟨i, rfl⟩ := Int.eq_ofNat_of_zero_le i0
          simp only [startB, Nat.reduceAdd, Nat.reduceSub, List.replicate_succ, List.replicate_zero, wLc, wLc2, wISeq, wipeB, List.set_cons_succ, List.set_cons_zero, wgTup, wgCons, wgNil, wgNm, Bool.not_true, Bool.not_false, Bool.false_eq_true, if_true, if_false, List.map_cons, List.map_nil, List.length_cons, List.length_nil, List.cons_append, List.nil_append, wName, List.getElem?_cons_zero, List.getElem?_cons_succ, wC, wOp, wCall, wACons, wANil, wAndV, wOrV, wNotV, wIsi, wIsi2, wCmp, wChain, wChain3, wOfT, wIfE, wAnd, wOr, wNotT, bInt, bEq, bNe, bIsN, bNotN, bIn, bNotIn, wCall1, bLen, bAll, bAny, bSum, sRet, sRetN, sRetO, sIf, sSeq, sNil, sExpr, sSet, sAsg, sPar, wVE, wVN, wOfN, wOfE, wTup, wLst, pyAll, wIx]
          refine atI_mem2 i0 (by exact i1) fun z hz => ?_
          have hzm := List.mem_of_getElem? hz
          have hzb := bulkA_mem hzm
          refine ⟨z, c, z.bulk, k0, rfl, ⟨hA.q z hzm, Nat.le_refl _, hA.dz z hzm⟩, by omega, by omega, hc, by omega, fun d' n' hn' t => ?_⟩
          have T := AnO.put hA hz t
          have u1 := cutD_len xs none (some (i : Int))
          have u2 := cutD_len xs (some ((i : Int) + 1)) none
          simp only [startB, Nat.reduceAdd, Nat.reduceSub, List.replicate_succ, List.replicate_zero, wLc, wLc2, wISeq, wipeB, List.set_cons_succ, List.set_cons_zero, wgTup, wgCons, wgNil, wgNm, Bool.not_true, Bool.not_false, Bool.false_eq_true, if_true, if_false, List.map_cons, List.map_nil, List.length_cons, List.length_nil, List.cons_append, List.nil_append, wName, List.getElem?_cons_zero, List.getElem?_cons_succ, wC, wOp, wCall, wACons, wANil, wAndV, wOrV, wNotV, wIsi, wIsi2, wCmp, wChain, wChain3, wOfT, wIfE, wAnd, wOr, wNotT, bInt, bEq, bNe, bIsN, bNotN, bIn, bNotIn, wCall1, bLen, bAll, bAny, bSum, sRet, sRetN, sRetO, sIf, sSeq, sNil, sExpr, sSet, sAsg, sPar, wVE, wVN, wOfN, wOfE, wTup, wLst, pyAll, wIx, wAlt, bAdd, bSub, wCat, bCatA, wRep, bRepU, wRevL, wRevT, wSlL, wSlT, wPart, wListOf, wTupOf, wTupE, wNeg, Option.map_some, or_false, false_or, false_and, and_false, true_and, and_true, Bool.true_eq_false]
          refine ⟨by decide, by omega, by rw [List.length_append, List.length_singleton]; omega, q _ _ (by omega) (AnO.lst T).1⟩
        · refine (if_neg (by rw [decide_eq_true_eq]; exact hr0)).mpr ?_
          refine ⟨_, rfl, by omega, by decide, by decide, fun r r0 r1 => ?_⟩
          simp only [BG.eqv_ii, decide_eq_true_eq]
          refine ⟨rfl, rfl, ?_⟩
          by_cases hz : r = 0
          · rw [if_pos hz]
            exact ⟨rfl, by omega, fun d' n' hn' t => q d' n' (by omega) (AnO.any t)⟩
          · rw [if_neg hz]
            simp only [startB, Nat.reduceAdd, Nat.reduceSub, List.replicate_succ, List.replicate_zero, wLc, wLc2, wISeq, wipeB, List.set_cons_succ, List.set_cons_zero, wgTup, wgCons, wgNil, wgNm, Bool.not_true, Bool.not_false, Bool.false_eq_true, if_true, if_false, List.map_cons, List.map_nil, List.length_cons, List.length_nil, List.cons_append, List.nil_append, wName, List.getElem?_cons_zero, List.getElem?_cons_succ, wC, wOp, wCall, wACons, wANil, wAndV, wOrV, wNotV, wIsi, wIsi2, wCmp, wChain, wChain3, wOfT, wIfE, wAnd, wOr, wNotT, bInt, bEq, bNe, bIsN, bNotN, bIn, bNotIn, wCall1, bLen, bAll, bAny, bSum, sRet, sRetN, sRetO, sIf, sSeq, sNil, sExpr, sSet, sAsg, sPar, wVE, wVN, wOfN, wOfE, wTup, wLst, pyAll, wIx, wAlt, bAdd, bSub, wCat, bCatA, wRep, bRepU, wRevL, wRevT, wSlL, wSlT, wPart, wListOf, wTupOf, wTupE, wNeg, Option.map_some, or_false, false_or, false_and, and_false, true_and, and_true, Bool.true_eq_false]
            have u3 := cutD_len xs (some (-1)) none
            have z2 : Int.toNat 2 = 2 := rfl
            repeat' (refine And.intro (by first | exact trivial | decide | omega | (rw [z2]; omega)) ?_)
            refine .inl ?_
            repeat' (refine And.intro (by first | exact trivial | decide | omega | (rw [z2]; omega)) ?_)
            refine atI_mem (by omega) ?_ fun z hz => q z _ (by omega) (AnO.seconds hA .list (.inl rfl) z hz)
            show r - 1 < 7
            omega
      · refine (if_neg (by rw [decide_eq_true_eq]; omega)).mpr ?_
        refine ⟨_, rfl, by omega, by decide, by decide, fun r r0 r1 => ?_⟩
        simp only [BG.eqv_ii, decide_eq_true_eq]
        refine ⟨rfl, rfl, ?_⟩
        by_cases hz : r = 0
        · rw [if_pos hz]
          exact ⟨rfl, by omega, fun d' n' hn' t => q d' n' (by omega) (AnO.any t)⟩
        · rw [if_neg hz]
          simp only [startB, Nat.reduceAdd, Nat.reduceSub, List.replicate_succ, List.replicate_zero, wLc, wLc2, wISeq, wipeB, List.set_cons_succ, List.set_cons_zero, wgTup, wgCons, wgNil, wgNm, Bool.not_true, Bool.not_false, Bool.false_eq_true, if_true, if_false, List.map_cons, List.map_nil, List.length_cons, List.length_nil, List.cons_append, List.nil_append, wName, List.getElem?_cons_zero, List.getElem?_cons_succ, wC, wOp, wCall, wACons, wANil, wAndV, wOrV, wNotV, wIsi, wIsi2, wCmp, wChain, wChain3, wOfT, wIfE, wAnd, wOr, wNotT, bInt, bEq, bNe, bIsN, bNotN, bIn, bNotIn, wCall1, bLen, bAll, bAny, bSum, sRet, sRetN, sRetO, sIf, sSeq, sNil, sExpr, sSet, sAsg, sPar, wVE, wVN, wOfN, wOfE, wTup, wLst, pyAll, wIx, wAlt, bAdd, bSub, wCat, bCatA, wRep, bRepU, wRevL, wRevT, wSlL, wSlT, wPart, wListOf, wTupOf, wTupE, wNeg, Option.map_some, or_false, false_or, false_and, and_false, true_and, and_true, Bool.true_eq_false]
          have u3 := cutD_len xs (some (-1)) none
          have z2 : Int.toNat 2 = 2 := rfl
          repeat' (refine And.intro (by first | exact trivial | decide | omega | (rw [z2]; omega)) ?_)
          refine .inl ?_
          repeat' (refine And.intro (by first | exact trivial | decide | omega | (rw [z2]; omega)) ?_)
          refine atI_mem (by omega) ?_ fun z hz => q z _ (by omega) (AnO.seconds hA .list (.inl rfl) z hz)
          show r - 1 < 7
          omega
    | tuple xs =>
      obtain ⟨k0, rfl, hA⟩ := an_items (.inr ha)
      have hbl := bulkA_len xs
      have hbb : PyData.bulkAll xs ≤ b := hA.b
      rw [(bulk_lst xs).2, (depth_lst xs).2] at q
      simp only [startB, Nat.reduceAdd, Nat.reduceSub, List.replicate_succ, List.replicate_zero, wLc, wLc2, wISeq, wipeB, List.set_cons_succ, List.set_cons_zero, wgTup, wgCons, wgNil, wgNm, Bool.not_true, Bool.not_false, Bool.false_eq_true, if_true, if_false, List.map_cons, List.map_nil, List.length_cons, List.length_nil, List.cons_append, List.nil_append, wName, List.getElem?_cons_zero, List.getElem?_cons_succ, wC, wOp, wCall, wACons, wANil, wAndV, wOrV, wNotV, wIsi, wIsi2, wCmp, wChain, wChain3, wOfT, wIfE, wAnd, wOr, wNotT, bInt, bEq, bNe, bIsN, bNotN, bIn, bNotIn, wCall1, bLen, bAll, bAny, bSum, sRet, sRetN, sRetO, sIf, sSeq, sNil, sExpr, sSet, sAsg, sPar, wVE, wVN, wOfN, wOfE, wTup, wLst, pyAll, isB_list, isB_tuple, isB_int, isB_bool, Bool.or_false, Bool.or_true, Bool.false_or, Bool.true_or, fDraw]
      by_cases h0 : 0 < xs.length
      · refine (if_pos (decide_eq_true (by omega))).mpr ?_
        refine ⟨_, rfl, by omega, by decide, by decide, fun r r0 r1 => ?_⟩
        by_cases hr0 : 0 < r
        · refine (if_pos (decide_eq_true hr0)).mpr ?_
          refine ⟨_, rfl, by omega, by omega, by omega, fun i i0 i1 => ?_⟩
          obtain ⟨i, rfl⟩ := Int.eq_ofNat_of_zero_le i0
          simp only [startB, Nat.reduceAdd, Nat.reduceSub, List.replicate_succ, List.replicate_zero, wLc, wLc2, wISeq, wipeB, List.set_cons_succ, List.set_cons_zero, wgTup, wgCons, wgNil, wgNm, Bool.not_true, Bool.not_false, Bool.false_eq_true, if_true, if_false, List.map_cons, List.map_nil, List.length_cons, List.length_nil, List.cons_append, List.nil_append, wName, List.getElem?_cons_zero, List.getElem?_cons_succ, wC, wOp, wCall, wACons, wANil, wAndV, wOrV, wNotV, wIsi, wIsi2, wCmp, wChain, wChain3, wOfT, wIfE, wAnd, wOr, wNotT, bInt, bEq, bNe, bIsN, bNotN, bIn, bNotIn, wCall1, bLen, bAll, bAny, bSum, sRet, sRetN, sRetO, sIf, sSeq, sNil, sExpr, sSet, sAsg, sPar, wVE, wVN, wOfN, wOfE, wTup, wLst, pyAll, wIx]
          refine atI_mem2 i0 (by exact i1) fun z hz => ?_
          have hzm := List.mem_of_getElem? hz
          have hzb := bulkA_mem hzm
          refine ⟨z, c, z.bulk, k0, rfl, ⟨hA.q z hzm, Nat.le_refl _, hA.dz z hzm⟩, by omega, by omega, hc, by omega, fun d' n' hn' t => ?_⟩
          have T := AnO.put hA hz t
          have u1 := cutD_len xs none (some (i : Int))
          have u2 := cutD_len xs (some ((i : Int) + 1)) none
          simp only [startB, Nat.reduceAdd, Nat.reduceSub, List.replicate_succ, List.replicate_zero, wLc, wLc2, wISeq, wipeB, List.set_cons_succ, List.set_cons_zero, wgTup, wgCons, wgNil, wgNm, Bool.not_true, Bool.not_false, Bool.false_eq_true, if_true, if_false, List.map_cons, List.map_nil, List.length_cons, List.length_nil, List.cons_append, List.nil_append, wName, List.getElem?_cons_zero, List.getElem?_cons_succ, wC, wOp, wCall, wACons, wANil, wAndV, wOrV, wNotV, wIsi, wIsi2, wCmp, wChain, wChain3, wOfT, wIfE, wAnd, wOr, wNotT, bInt, bEq, bNe, bIsN, bNotN, bIn, bNotIn, wCall1, bLen, bAll, bAny, bSum, sRet, sRetN, sRetO, sIf, sSeq, sNil, sExpr, sSet, sAsg, sPar, wVE, wVN, wOfN, wOfE, wTup, wLst, pyAll, wIx, wAlt, bAdd, bSub, wCat, bCatA, wRep, bRepU, wRevL, wRevT, wSlL, wSlT, wPart, wListOf, wTupOf, wTupE, wNeg, Option.map_some, or_false, false_or, false_and, and_false, true_and, and_true, Bool.true_eq_false]
          refine ⟨by decide, by omega, by rw [List.length_append, List.length_singleton]; omega, q _ _ (by omega) (AnO.lst T).2⟩
        · refine (if_neg (by rw [decide_eq_true_eq]; exact hr0)).mpr ?_
          refine ⟨_, rfl, by omega, by decide, by decide, fun r r0 r1 => ?_⟩
          simp only [BG.eqv_ii, decide_eq_true_eq]
          refine ⟨rfl, rfl, ?_⟩
          by_cases hz : r = 0
          · rw [if_pos hz]
            exact ⟨rfl, by omega, fun d' n' hn' t => q d' n' (by omega) (AnO.any t)⟩
          · rw [if_neg hz]
            simp only [startB, Nat.reduceAdd, Nat.reduceSub, List.replicate_succ, List.replicate_zero, wLc, wLc2, wISeq, wipeB, List.set_cons_succ, List.set_cons_zero, wgTup, wgCons, wgNil, wgNm, Bool.not_true, Bool.not_false, Bool.false_eq_true, if_true, if_false, List.map_cons, List.map_nil, List.length_cons, List.length_nil, List.cons_append, List.nil_append, wName, List.getElem?_cons_zero, List.getElem?_cons_succ, wC, wOp, wCall, wACons, wANil, wAndV, wOrV, wNotV, wIsi, wIsi2, wCmp, wChain, wChain3, wOfT, wIfE, wAnd, wOr, wNotT, bInt, bEq, bNe, bIsN, bNotN, bIn, bNotIn, wCall1, bLen, bAll, bAny, bSum, sRet, sRetN, sRetO, sIf, sSeq, sNil, sExpr, sSet, sAsg, sPar, wVE, wVN, wOfN, wOfE, wTup, wLst, pyAll, wIx, wAlt, bAdd, bSub, wCat, bCatA, wRep, bRepU, wRevL, wRevT, wSlL, wSlT, wPart, wListOf, wTupOf, wTupE, wNeg, Option.map_some, or_false, false_or, false_and, and_false, true_and, and_true, Bool.true_eq_false]
            have u3 := cutD_len xs (some (-1)) none
            have z2 : Int.toNat 2 = 2 := rfl
            repeat' (refine And.intro (by first | exact trivial | decide | omega | (rw [z2]; omega)) ?_)
            refine atI_mem (by omega) ?_ fun z hz => q z _ (by omega) (AnO.seconds hA .tuple (.inr rfl) z hz)
            show r - 1 < 7
            omega
      · refine (if_neg (by rw [decide_eq_true_eq]; omega)).mpr ?_
        refine ⟨_, rfl, by omega, by decide, by decide, fun r r0 r1 => ?_⟩
        simp only [BG.eqv_ii, decide_eq_true_eq]
        refine ⟨rfl, rfl, ?_⟩
        by_cases hz : r = 0
        · rw [if_pos hz]
          exact ⟨rfl, by omega, fun d' n' hn' t => q d' n' (by omega) (AnO.any t)⟩
        · rw [if_neg hz]
          simp only [startB, Nat.reduceAdd, Nat.reduceSub, List.replicate_succ, List.replicate_zero, wLc, wLc2, wISeq, wipeB, List.set_cons_succ, List.set_cons_zero, wgTup, wgCons, wgNil, wgNm, Bool.not_true, Bool.not_false, Bool.false_eq_true, if_true, if_false, List.map_cons, List.map_nil, List.length_cons, List.length_nil, List.cons_append, List.nil_append, wName, List.getElem?_cons_zero, List.getElem?_cons_succ, wC, wOp, wCall, wACons, wANil, wAndV, wOrV, wNotV, wIsi, wIsi2, wCmp, wChain, wChain3, wOfT, wIfE, wAnd, wOr, wNotT, bInt, bEq, bNe, bIsN, bNotN, bIn, bNotIn, wCall1, bLen, bAll, bAny, bSum, sRet, sRetN, sRetO, sIf, sSeq, sNil, sExpr, sSet, sAsg, sPar, wVE, wVN, wOfN, wOfE, wTup, wLst, pyAll, wIx, wAlt, bAdd, bSub, wCat, bCatA, wRep, bRepU, wRevL, wRevT, wSlL, wSlT, wPart, wListOf, wTupOf, wTupE, wNeg, Option.map_some, or_false, false_or, false_and, and_false, true_and, and_true, Bool.true_eq_false]
          have u3 := cutD_len xs (some (-1)) none
          have z2 : Int.toNat 2 = 2 := rfl
          repeat' (refine And.intro (by first | exact trivial | decide | omega | (rw [z2]; omega)) ?_)
          refine atI_mem (by omega) ?_ fun z hz => q z _ (by omega) (AnO.seconds hA .tuple (.inr rfl) z hz)
          show r - 1 < 7
          omega
theorem all_bentG {F : Fx} (D : Dn F.K F.mg "_law_bent" s__law_bent ["pen", "thing"]) (bz : Bz F.mg) (c__law_draw : ClB F 1 "_law_draw" false fDraw) (c__law_anything : ClB F 3 "_law_anything" false (fAnyN 1 41)) : ∀ k, ClB F (4 + k) "_law_bent" false (fBentG k)
  | 0 => in_bentG0 D bz c__law_draw c__law_anything (cl_never D)
  | k + 1 => in_bentGS k D bz c__law_draw c__law_anything (all_bentG D bz c__law_draw c__law_anything k)
theorem ok__law_bentG {F : Fx} (D : Dn F.K F.mg "_law_bent" s__law_bent ["pen", "thing"]) (bz : Bz F.mg) (c__law_draw : ClB F 1 "_law_draw" false fDraw) (c__law_anythingN : ClB F 3 "_law_anything" false (fAnyN 1 41)) : ∀ k, ClB F (4 + k) "_law_bent" false (fBentG k) := by
  exact all_bentG D bz c__law_draw c__law_anythingN
end Fv
set_option maxRecDepth 100000
set_option maxHeartbeats 4000000
/-! A law's frame where sys.modules' dict is known not to be the law's: with or without functions that it makes. -/
namespace Fv
open PySem PySem.Spec PyProof.Rows L2 Gb
open PySem.W (T4)
theorem fn_gS {P : Program} {w : World} {K : PySem.W.Frag} {mg : Str → Option Value} {base : Heap} {k : Nat} {x qual : Str} {st : Stmt} {f : Addr} {fd : FuncData} {N ps : List Str} {sp : Sp} (q : He.Defn) (hf : f = He.fAd K q) (Fn : Fun K x qual st f fd) (S : FnScope N ps (defScope st))
    (hbody : ∀ (A : Around) (outer : List Env) (s : Shared) (H : Hp) (vs : List V) (Q : VK) (E : XK), Room k (A.deeper (envOfC qual (defScope st) s.heap.objs.size f (.ref (He.cT K q).1))) → A.guards = some [] → sp vs H Q E →
      ∃ t, PSs (cxOf (L2.CX P w) P w K mg base N qual (defScope st) f (.ref (He.cT K q).1) A outer s H E) (defBody st) t ∧ t { nx := fun _ H' => Q .non H', rt := Q } (L2.start N vs) H) : FnG P w K mg base (k + 1) f fd ps sp := by
  obtain ⟨oc, od, kV, doc, pm, an, cdv, ct, osl, rfl, lk, hcd⟩ := Fn.ex
  obtain ⟨c, rfl⟩ := He.codeIn_ref hcd
  have e : (He.cT K q).1 = c := He.codeOf_eq (by rw [← hf]; exact lk) rfl
  rw [e] at hbody
  exact ⟨fun A outer s H args us vs Q E hr hg e0 hb r hl hsp => LamX.run_ofS lk hcd S hr e0 hb r hl fun hr2 => hbody A outer s H vs Q E hr2 hg hsp⟩
def spLawS (K : PySem.W.Frag) (cs : List (Addr × Addr)) : Sp := fun vs H Q _ => ∃ (a : Addr) (ob o1 : Obj) (ns : List Int), vs = [.ref a] ∧ StartS K H a cs ob ns o1 ∧ ns.length ≤ 63 ∧ ∀ H', Q (.bl true) H'
def tRestS (F : Fx) (W : WX) (T : List (Addr × Str)) (w : WS) : TS := fun D σ H => ∃ pp cc B0 H0 ρ n B Ex DB, (∃ o u, H0 sysModules = some (.frz o u)) ∧ sysModules ≠ pp ∧ St (F.g (some (pp, cc, T)) W B0 H0) n B H ρ σ ∧ w ρ n Ex DB ∧ XS (F.g (some (pp, cc, T)) W B0 H0) B Ex ∧ EO (F.g (some (pp, cc, T)) W B0 H0) false B D DB
theorem pss_restS {X : Cx} {F : Fx} {W : WX} {T : List (Addr × Str)} {sts : List Stmt} {w : WS} (h : ∀ pp cc B0 H0, (∃ o u, H0 sysModules = some (.frz o u)) → (∀ q c T', some (pp, cc, T) = some (q, c, T') → sysModules ≠ q) → ∃ t, BSs false X (F.g (some (pp, cc, T)) W B0 H0) sts t w) : PSs X sts (tRestS F W T w) := by
  refine ⟨fun pins s σ H D I ht => ?_⟩
  obtain ⟨pp, cc, B0, H0, ρ, n, B, Ex, DB, h1, h2, S, hw, xs, eo⟩ := ht
  obtain ⟨t, hb⟩ := h pp cc B0 H0 h1 fun q c T' e => by
    cases e
    exact h2
  exact hb.ps.run pins s σ H D I (hb.snd ρ σ n B H Ex D DB S hw xs eo)
theorem rest_startSL {F : Fx} {W : WX} {w : WS} {D : Ends} {Hs H1 : Hp} {a p c : Addr} {ct : Addr × Addr} {ob o1 : Obj} {ns : List Int} {x0 : Option V} {T : List (Addr × Str)} (m : Nat) (hS : StartS F.K Hs a [ct] ob ns o1) (hp0 : Pen H1 p c 0) (s0 : Same Hs H1) (nt0 : NT Hs H1) (npc : p ≠ c) (hrt : ∀ H', D.rt (.bl true) H')
    (hmT : ∃ q, (ct.2, q) ∈ T) (eT : ∀ x ∈ T, x.1 = ct.2)
    (hw : w (.no :: .val .pen :: List.replicate m .no) 0 (fun _ _ _ => False) { nx := fun _ _ => False, rt := fun d _ => d = .py (.bool true) }) : tRestS F W T w D (x0 :: some (.ref p) :: List.replicate m none) H1 := by
  obtain ⟨t0, l0, xs0, hp1, hp2, hp3⟩ := hp0
  have hP1 : H1 ct.2 = some (.tbl #[]) := s0 _ _ (hS.tab _ (List.mem_singleton.mpr rfl))
  have hsm : ∃ o u, H1 sysModules = some (.frz o u) := by
    obtain ⟨o, u, e⟩ := hS.sm
    exact ⟨o, u, s0 _ _ e⟩
  have hat := hS.at_
  generalize hPL : ct.2 = PL at *
  have dl : Same (Gb.del (Gb.del H1 p) PL) H1 := fun b o e => Gb.del_le _ _ (Gb.del_le _ _ e)
  have pP : p ≠ PL := fun e => by rw [e, hP1] at hp1; cases hp1
  have cP : c ≠ PL := fun e => by rw [e, hP1] at hp2; cases hp2
  have pM : sysModules ≠ p := fun e => by
    obtain ⟨o, u, z⟩ := hsm
    rw [e, hp1] at z
    cases z
  have hdc : (Gb.del (Gb.del H1 p) PL) c = some (HO.lst (xs0.map V.int)) := by rw [Gb.del_ne cP, Gb.del_ne (Ne.symm npc)]; exact hp2
  have only : ∀ b ps, H1 b = some (.tbl ps) → b = PL := fun b ps e => by
    obtain ⟨ps', h⟩ := nt0 b ps e
    rcases hat b _ h with ⟨_, z, _⟩ | ⟨z, _⟩ | ⟨_, z⟩
    · cases z
    · rw [List.map_cons, List.map_nil, hPL] at z
      exact List.mem_singleton.mp z
    · cases z
  obtain ⟨qq, hmT⟩ := hmT
  refine ⟨p, c, Gb.del (Gb.del H1 p) PL, H1, .no :: .val .pen :: List.replicate m .no, 0, Gb.del (Gb.del H1 p) PL, fun _ _ _ => False, { nx := fun _ _ => False, rt := fun d _ => d = .py (.bool true) }, hsm, pM, ⟨Mv.refl dl, ⟨⟨t0, l0, xs0, hp1, hp2, hp3⟩, by rw [Gb.del_ne pP]; exact Gb.del_same, (fun x hx => ?_), fun b ps e => ?_, fun b ps e => ⟨_, hmT, (only b ps e).symm⟩, _, hdc⟩, ?_, fun i d h => ?_, fun i ds h => ?_, fun i ks h => ?_, fun i j l ne ⟨z, hz, oz⟩ => ?_, .no_ fun i t l rows e => ?_⟩, hw, fun _ _ _ _ _ _ _ => XW.none, ⟨fun _ _ _ _ _ _ _ q => q.elim, fun _ _ _ _ _ _ _ q => q.elim, fun _ _ _ _ _ _ _ q => q.elim, fun hm v d n' B' H' mv pk' rv qd => ?_, fun hm => by cases hm⟩⟩
  · refine ⟨#[], by rw [eT x hx]; exact hP1, trivial, fun pos cv e => ?_⟩
    cases e
  · have e2 := only b ps (dl _ _ e)
    rw [e2, Gb.del_same] at e
    cases e
  · simp only [List.length_cons, List.length_replicate]
  · match i, h with
    | 0, h => cases h
    | 1, h =>
      cases h
      exact ⟨.ref p, rfl, p, c, T, rfl, rfl⟩
    | j + 2, h => cases rep_no (j := j) (m := m) h
  · match i, h with
    | 0, h => cases h
    | 1, h => cases h
    | j + 2, h => cases rep_no (j := j) (m := m) h
  · match i, h with
    | 0, h => cases h
    | 1, h => cases h
    | j + 2, h => cases rep_no (j := j) (m := m) h
  · exfalso
    match i, hz with
    | 0, hz =>
      cases hz
      cases oz
    | 1, hz =>
      cases hz
      cases oz
    | j + 2, hz =>
      have := rep_no (j := j) (m := m) hz
      subst this
      cases oz
  · match i, e with
    | 0, e => cases e
    | 1, e => cases e
    | j + 2, e => cases rep_no (j := j) (m := m) e
  · have qd : d = .py (.bool true) := qd
    subst qd
    have := dd_bl rv
    subst this
    exact hrt _
section
variable {X : Cx} {G : Cg} {a : Expr} {ta : TE} {wa : WE} {p pos : Pos}
end
end Fv
set_option maxRecDepth 100000
set_option maxHeartbeats 4000000
/-! k04. -/
namespace Fv
open PySem PySem.Spec PyProof.Rows L2 Gb
open PySem.W (T4)
def cI : Nat → Nat
  | 0 => 10 ^ 30
  | k + 1 => nB (cI k)
def bI : Nat → Nat
  | 0 => 30
  | k + 1 => 2 * bI k + 60
theorem an_st {s : Nat} {o nw : List Int} (hs : s ≤ 6) (ho : o.length = s) (hn : nw.length = s) (hb : ∀ k ∈ o ++ nw, -(10 ^ 30) < k ∧ k < 10 ^ 30) : An (cI 0) (bI 0) 2 (stD o nw) := by
  have one : ∀ xs : List Int, (∀ k ∈ xs, k ∈ o ++ nw) → xs.length = s → An (10 ^ 30) 13 1 (.tuple (intsD xs)) := fun xs hx hl => by
    have k := anA_of (c := 10 ^ 30) (b := 1) (dp := 0) (ds := intsD xs) fun e he => by
      obtain ⟨i, hi, rfl⟩ := List.mem_map.mp he
      have h := hb i (hx i hi)
      refine ⟨?_, by simp only [PyData.bulk]; omega, by simp only [PyData.depth]; omega⟩
      simp only [bq]
      exact decide_eq_true (by omega)
    have hl2 : (intsD xs).length = s := by
      unfold intsD
      rw [List.length_map, hl]
    exact (an_lst k).2.mono (Nat.le_refl _) (by rw [hl2]; omega) (Nat.le_refl _)
  have k := anA_of (c := 10 ^ 30) (b := 13) (dp := 1) (ds := [.tuple (intsD o), .tuple (intsD nw)]) fun e he => by
    simp only [List.mem_cons, List.not_mem_nil, or_false] at he
    rcases he with rfl | rfl
    · exact one o (fun k h => List.mem_append_left _ h) ho
    · exact one nw (fun k h => List.mem_append_right _ h) hn
  exact (an_lst k).2.mono (Nat.le_refl _) (by simp [bI]) (Nat.le_refl _)
theorem cI_le {i : Nat} (h : i ≤ 1) : cI i ≤ 10 ^ 40 := by
  have : i = 0 ∨ i = 1 := by omega
  rcases this with rfl | rfl <;> decide +kernel
theorem an_fin {i : Nat} {d : PyData} (h : i ≤ 2) (k : An (cI i) (bI i) (2 + 4 * i) d) : An (cI 2) 300 10 d := by
  have : i = 0 ∨ i = 1 ∨ i = 2 := by omega
  rcases this with rfl | rfl | rfl
  · exact k.mono (by decide +kernel) (by decide +kernel) (by decide)
  · exact k.mono (by decide +kernel) (by decide +kernel) (by decide)
  · exact k.mono (by decide +kernel) (by decide +kernel) (by decide)
theorem eqv_strG (x : Str) : (PyData.str x).eqv (.str x) = true := by
  unfold PyData.eqv
  exact decide_eq_true rfl
theorem need_cases (s : Nat) (d : PyData) : (faultS s d = .none ∧ ∀ (EX : XQ) (n : Nat) (k : Prop), k → needS s d EX n k) ∨ ∃ p : Str, (p = "numbers" ∨ p = "standing") ∧ faultS s d = .str p ∧ ∀ (EX : XQ) (n : Nat) (k : Prop), EX (xPart "NoStanding" p) n → needS s d EX n k := by
  cases h1 : shapeS s d with
  | false =>
    refine .inr ⟨"standing", .inr rfl, ?_, fun EX n k h => ?_⟩
    · unfold faultS
      rw [h1]
      rfl
    · unfold needS
      rw [h1, if_neg Bool.false_ne_true]
      exact h
  | true =>
    cases h2 : numsS d with
    | false =>
      refine .inr ⟨"numbers", .inl rfl, ?_, fun EX n k h => ?_⟩
      · unfold faultS
        rw [h1, h2]
        rfl
      · unfold needS
        rw [h1, h2, if_pos rfl, if_neg Bool.false_ne_true]
        exact h
    | true =>
      refine .inl ⟨?_, fun EX n k h => ?_⟩
      · unfold faultS
        rw [h1, h2]
        rfl
      · unfold needS
        rw [h1, h2, if_pos rfl, if_pos rfl]
        exact h
theorem toldX_st {EX : XQ} {Q : QE} {p : Str} {n : Nat} (q : Q (.py (.str p)) n) : toldX EX Q (xPart "NoStanding" p) n := by
  unfold toldX
  rw [if_pos (show decide (("NoStanding" : Str) = (xPart "NoStanding" p).cls) = true from rfl)]
  exact ⟨by simp [xPart], q⟩
section
variable {s : Nat} {M : Nat → Nat → Int} {d : PyData} {e e2 : D} {EX : XQ} {Q R : QE} {n : Nat} {p : Str}
theorem ref2_st (hs : s ≤ 12) (hk : ∀ (EX : XQ) (n : Nat) (k : Prop), EX (xPart "NoStanding" p) n → needS s d EX n k) (q : Q (.py (.str p)) n) : fRef2 [.web s M, .py d] n (toldX EX Q) R := ⟨s, M, d, rfl, hs, hk _ _ _ (toldX_st q)⟩
theorem ref3_st (hs : s ≤ 12) (hk : ∀ (EX : XQ) (n : Nat) (k : Prop), EX (xPart "NoStanding" p) n → needS s d EX n k) (q : Q (.py (.str p)) n) : fRef3 [.web s M, .py d, e] n (toldX EX Q) R := ⟨s, M, d, e, rfl, hs, hk _ _ _ (toldX_st q)⟩
theorem ref4_st (hs : s ≤ 12) (hk : ∀ (EX : XQ) (n : Nat) (k : Prop), EX (xPart "NoStanding" p) n → needS s d EX n k) (q : Q (.py (.str p)) n) : fRef4 [.web s M, e, e2, .py d] n (toldX EX Q) R := ⟨s, M, d, e, e2, rfl, hs, hk _ _ _ (toldX_st q)⟩
end
theorem sc_law : FnScope ["script", "pen", "turn", "size", "ties", "web", "thing", "again", "due", "kept", "told"] ["script"] (defScope s_law) := ⟨rfl, rfl, rfl, by decide +kernel, rfl, by decide +kernel, by decide +kernel⟩
theorem ok_law {F : Fx} {fa : Addr} {fd : FuncData} (Fn : Fun F.K "law" "law" s_law fa fd) (hfa : fa = He.fAd F.K ("law", none)) (TB : LamX.TabB F.base F.mg (He.cT F.K ("law", none)).1 (He.cT F.K ("law", none)).2) (bz : Bz F.mg) (c__law_pen : Cl F.P F.w F.K F.mg F.base 1 "_law_pen" (spPen2 F.K)) (c__law_draw : ClB F 1 "_law_draw" false fDraw) (c__law_any_web : ClB F 3 "_law_any_web" false (fWeb 1 1000 200 9)) (c__law_standing : ClB F 4 "_law_standing" false fStand)
    (c__law_bentG : ∀ k, ClB F (4 + k) "_law_bent" false (fBentG k)) (c__law_anythingN2 : ClB F 4 "_law_anything" false fAnyN2) (c__law_due : ClB F 3 "_law_due" false fDueS) (c_Web : ClW F 6 "Web" fMk) (c__law_told : ClL F 6 "_law_told" "asked" fTold) (c_need_standing : ClB F 5 "need_standing" false fNeedStanding)
    (c_beat_onR : ClB F 6 "beat_on" false fRef2) (c_beat_backR : ClB F 6 "beat_back" false fRef2) (c_comes_backR : ClB F 6 "comes_back" false fRef2) (c_never_paperR : ClB F 6 "never_paper" false fRef2) (c_run_ofR : ClB F 6 "run_of" false fRef3) (c_standing_behindR : ClB F 6 "standing_behind" false fRef3) (c_shows_neverR : ClB F 6 "shows_never" false fRef3) (c_steps_ofR : ClB F 6 "steps_of" false fRef4) : FnG F.P F.w F.K F.mg F.base 13 fa fd ["script"] (spLawS F.K [He.cT F.K ("law", none)]) := by
  have c__law_bent := c__law_bentG 6
  have c_beat_on := c_beat_onR
  have c_beat_back := c_beat_backR
  have c_comes_back := c_comes_backR
  have c_never_paper := c_never_paperR
  have c_run_of := c_run_ofR
  have c_standing_behind := c_standing_behindR
  have c_shows_never := c_shows_neverR
  have c_steps_of := c_steps_ofR
  have c__law_anything := c__law_anythingN2
  refine fn_gS ("law", none) hfa Fn sc_law (fun A outer s H vs Q E hr hgu0 h => ?_)
  obtain ⟨a, ob, o1, ns, rfl, hS, hn, q⟩ := h
  have nd := sc_law.nd
  have tk : Takes (cxB F ["script", "pen", "turn", "size", "ties", "web", "thing", "again", "due", "kept", "told"] "law" (defScope s_law) fa (.ref (He.cT F.K ("law", none)).1) A outer s H E) (XKx E) := takes_of rfl rfl rfl rfl
  have hgu : (cxB F ["script", "pen", "turn", "size", "ties", "web", "thing", "again", "due", "kept", "told"] "law" (defScope s_law) fa (.ref (He.cT F.K ("law", none)).1) A outer s H E).A.guards = some [] := hgu0
  have hcode : (cxB F ["script", "pen", "turn", "size", "ties", "web", "thing", "again", "due", "kept", "told"] "law" (defScope s_law) fa (.ref (He.cT F.K ("law", none)).1) A outer s H E).env.code = .ref (He.cT F.K ("law", none)).1 := rfl
  obtain ⟨T, hT⟩ : ∃ T : List (Addr × Str), T = [((He.cT F.K ("law", none)).2, (cxB F ["script", "pen", "turn", "size", "ties", "web", "thing", "again", "due", "kept", "told"] "law" (defScope s_law) fa (.ref (He.cT F.K ("law", none)).1) A outer s H E).env.qual ++ "<lambda>")] := ⟨_, rfl⟩
  have hmT : ((He.cT F.K ("law", none)).2, (cxB F ["script", "pen", "turn", "size", "ties", "web", "thing", "again", "due", "kept", "told"] "law" (defScope s_law) fa (.ref (He.cT F.K ("law", none)).1) A outer s H E).env.qual ++ "<lambda>") ∈ T := by
    rw [hT]
    exact List.mem_singleton.mpr rfl
  have hu : ∀ p ∈ T, p.1 = (He.cT F.K ("law", none)).2 → p.2 = (cxB F ["script", "pen", "turn", "size", "ties", "web", "thing", "again", "due", "kept", "told"] "law" (defScope s_law) fa (.ref (He.cT F.K ("law", none)).1) A outer s H E).env.qual ++ "<lambda>" := fun p hp _ => by
    rw [hT] at hp
    rw [List.mem_singleton.mp hp]
  have eT : ∀ x ∈ T, x.1 = (He.cT F.K ("law", none)).2 := fun x hx => by
    rw [hT] at hx
    rw [List.mem_singleton.mp hx]
  refine ⟨_, pss_cons (ps_set (i := 1) nd rfl (.inl rfl) (pe_c c__law_pen hr (by decide) (by rfl) (pa_cons (pv 0) pa_nil))) (pss_restS (F := F) (W := XKx E) (T := T) (fun pp cc B0 H0 hsm hpn => ⟨_, (bss_cons (bs_for (passes_of rfl) rfl (bi_rng1 (by rfl) bz.range be_int) (bg_nm (pg_name (i := 2) nd rfl (.inl rfl)))
    (bss_cons (bs_asg (be_call c__law_any_web hr (by decide) (by rfl) tk (ba_cons (be_nm 1 (pv 1)) (ba_cons be_int ba_nil))) (bg_tup (bgs_cons (bg_nm (pg_name (i := 3) nd rfl (.inl rfl))) (bgs_cons (bg_nm (pg_name (i := 4) nd rfl (.inl rfl))) bgs_nil (pgs_cons (pg_name (i := 4) nd rfl (.inl rfl)) pgs_nil)) (pgs_cons (pg_name (i := 3) nd rfl (.inl rfl)) (pgs_cons (pg_name (i := 4) nd rfl (.inl rfl)) pgs_nil))) (pg_tupK (n := 2) (by rfl) (pgs_cons (pg_name (i := 3) nd rfl (.inl rfl)) (pgs_cons (pg_name (i := 4) nd rfl (.inl rfl)) pgs_nil)))))
    (bss_cons (bs_parT (i := 5) (j := 6) (be_mk c_Web hr (by decide) (by rfl) tk (ba_cons (be_nm 3 (pv 3)) (ba_cons (be_nm 4 (pv 4)) ba_nil))) (be_call c__law_standing hr (by decide) (by rfl) tk (ba_cons (be_nm 1 (pv 1)) (ba_cons (be_nm 3 (pv 3)) (ba_cons be_int ba_nil)))) (pg_tupK (n := 2) (by rfl) (pgs_cons (pg_name (i := 5) nd rfl (.inr rfl)) (pgs_cons (pg_name (i := 6) nd rfl (.inr rfl)) pgs_nil))))
    (bss_cons (bs_for (passes_of rfl) rfl (bi_rng1 (by rfl) bz.range (be_call c__law_draw hr (by decide) (by rfl) tk (ba_cons (be_nm 1 (pv 1)) (ba_cons be_int ba_nil)))) (bg_nm (pg_name (i := 7) nd rfl (.inl rfl)))
    (bss_one (bs_setV (i := 6) (BE.toV (be_call c__law_bent hr (by decide) (by rfl) tk (ba_cons (be_nm 1 (pv 1)) (ba_cons (be_nm 6 (pv 6)) ba_nil)))) nd rfl (.inr rfl))))
    (bss_cut (bs_if (bt_eq hr.units (BE.f (be_call c__law_draw hr (by decide) (by rfl) tk (ba_cons (be_nm 1 (pv 1)) (ba_cons be_int ba_nil)))) (BE.f be_int))
    (bss_one (bs_setV (i := 6) (BE.toV (be_call c__law_anything hr (by decide) (by rfl) tk (ba_cons (be_nm 1 (pv 1)) (ba_cons be_int ba_nil)))) nd rfl (.inr rfl)))
    bss_nil)
    (bss_cons (bs_parV (i := 8) (j := 9) nd (BE.toV (be_call c__law_due hr (by decide) (by rfl) tk (ba_cons (be_nm 3 (pv 3)) (ba_cons (be_nm 6 (pv 6)) ba_nil)))) (BE.toV (be_reprD hsm hpn hgu hr.units (by rfl) bz.repr (BE.f (be_nm 6 (pv 6))))) rfl rfl rfl (by decide) rfl rfl (by rfl))
    (bss_cons (bs_if (bt_ne hr.units (BE.f (be_lam c__law_told hr (by decide) (by rfl) tk rfl TB hcode hmT hu (LamX.lamS_by (by rfl)) rfl (fun _ _ _ _ _ => rfl) 10 (by decide) (by decide) (fun A outer s H E f c2 hrL => (be_call c_need_standing hrL (by decide) (by rfl) (takes_of rfl rfl rfl rfl) (ba_cons (be_nm 5 (pv 5)) (ba_cons (be_nm 6 (pv 6)) ba_nil)))))) (BE.f (be_ifExp (bt_isN (BE.f (be_nm 8 (pv 8))) (BE.f be_non)) (BN.e (bn_lst (ba_cons be_non ba_nil))) (be_nm 8 (pv 8)))))
    (bss_one (bs_ret be_bl))
    bss_nil)
    (bss_cons (bs_if (bt_notN (BE.f (be_nm 8 (pv 8))) (BE.f be_non))
    (bss_cons (bs_setV (i := 10) (BN.toV (bn_lst (ba_cons (be_lam c__law_told hr (by decide) (by rfl) tk rfl TB hcode hmT hu (LamX.lamS_by (by rfl)) rfl (fun _ _ _ _ _ => rfl) 10 (by decide) (by decide) (fun A outer s H E f c2 hrL => (be_call c_beat_on hrL (by decide) (by rfl) (takes_of rfl rfl rfl rfl) (ba_cons (be_nm 5 (pv 5)) (ba_cons (be_nm 6 (pv 6)) ba_nil))))) ba_nil))) nd rfl (.inl rfl))
    (bss_cons (bs_appendV 10 (pv 10) (be_lam c__law_told hr (by decide) (by rfl) tk rfl TB hcode hmT hu (LamX.lamS_by (by rfl)) rfl (fun _ _ _ _ _ => rfl) 10 (by decide) (by decide) (fun A outer s H E f c2 hrL => (be_call c_beat_back hrL (by decide) (by rfl) (takes_of rfl rfl rfl rfl) (ba_cons (be_nm 5 (pv 5)) (ba_cons (be_nm 6 (pv 6)) ba_nil))))))
    (bss_cons (bs_appendV 10 (pv 10) (be_lam c__law_told hr (by decide) (by rfl) tk rfl TB hcode hmT hu (LamX.lamS_by (by rfl)) rfl (fun _ _ _ _ _ => rfl) 10 (by decide) (by decide) (fun A outer s H E f c2 hrL => (be_call c_run_of hrL (by decide) (by rfl) (takes_of rfl rfl rfl rfl) (ba_cons (be_nm 5 (pv 5)) (ba_cons (be_nm 6 (pv 6)) (ba_cons be_non ba_nil)))))))
    (bss_cons (bs_appendV 10 (pv 10) (be_lam c__law_told hr (by decide) (by rfl) tk rfl TB hcode hmT hu (LamX.lamS_by (by rfl)) rfl (fun _ _ _ _ _ => rfl) 10 (by decide) (by decide) (fun A outer s H E f c2 hrL => (be_call c_steps_of hrL (by decide) (by rfl) (takes_of rfl rfl rfl rfl) (ba_cons (be_nm 5 (pv 5)) (ba_cons be_non (ba_cons be_non (ba_cons (be_nm 6 (pv 6)) ba_nil))))))))
    (bss_cons (bs_appendV 10 (pv 10) (be_lam c__law_told hr (by decide) (by rfl) tk rfl TB hcode hmT hu (LamX.lamS_by (by rfl)) rfl (fun _ _ _ _ _ => rfl) 10 (by decide) (by decide) (fun A outer s H E f c2 hrL => (be_call c_standing_behind hrL (by decide) (by rfl) (takes_of rfl rfl rfl rfl) (ba_cons (be_nm 5 (pv 5)) (ba_cons (be_nm 6 (pv 6)) (ba_cons be_non ba_nil)))))))
    (bss_cons (bs_appendV 10 (pv 10) (be_lam c__law_told hr (by decide) (by rfl) tk rfl TB hcode hmT hu (LamX.lamS_by (by rfl)) rfl (fun _ _ _ _ _ => rfl) 10 (by decide) (by decide) (fun A outer s H E f c2 hrL => (be_call c_comes_back hrL (by decide) (by rfl) (takes_of rfl rfl rfl rfl) (ba_cons (be_nm 5 (pv 5)) (ba_cons (be_nm 6 (pv 6)) ba_nil))))))
    (bss_cons (bs_appendV 10 (pv 10) (be_lam c__law_told hr (by decide) (by rfl) tk rfl TB hcode hmT hu (LamX.lamS_by (by rfl)) rfl (fun _ _ _ _ _ => rfl) 10 (by decide) (by decide) (fun A outer s H E f c2 hrL => (be_call c_never_paper hrL (by decide) (by rfl) (takes_of rfl rfl rfl rfl) (ba_cons (be_nm 5 (pv 5)) (ba_cons (be_nm 6 (pv 6)) ba_nil))))))
    (bss_cons (bs_appendV 10 (pv 10) (be_lam c__law_told hr (by decide) (by rfl) tk rfl TB hcode hmT hu (LamX.lamS_by (by rfl)) rfl (fun _ _ _ _ _ => rfl) 10 (by decide) (by decide) (fun A outer s H E f c2 hrL => (be_call c_shows_never hrL (by decide) (by rfl) (takes_of rfl rfl rfl rfl) (ba_cons (be_nm 5 (pv 5)) (ba_cons (be_nm 6 (pv 6)) (ba_cons be_non ba_nil)))))))
    (bss_one (bs_if (bt_ne hr.units (bf_own 10 (pv 10)) (BE.f (BN.e (bn_rep (BN.l (bn_lst (ba_cons (be_nm 8 (pv 8)) ba_nil))) be_int))))
    (bss_one (bs_ret be_bl))
    bss_nil))))))))))
    bss_nil)
    (bss_one (bs_if (bt_ne hr.units (BE.f (be_reprD hsm hpn hgu hr.units (by rfl) bz.repr (BE.f (be_nm 6 (pv 6))))) (BE.f (be_nm 9 (pv 9))))
    (bss_one (bs_ret be_bl))
    bss_nil))))))))))
    (bss_one (bs_ret be_bl)))⟩)), ?_⟩
  refine ⟨.ref a, rfl, a, ns, rfl, hS.sq, fun p c H1 hp0 s0 nt0 npc => ?_⟩
  refine rest_startSL 9 hS hp0 s0 nt0 npc q ⟨_, hmT⟩ eT ?_
  simp only [startB, Nat.reduceAdd, Nat.reduceSub, List.replicate_succ, List.replicate_zero, wLc, wLc2, wISeq, wipeB, List.set_cons_succ, List.set_cons_zero, wgTup, wgCons, wgNil, wgNm, Bool.not_true, Bool.not_false, Bool.false_eq_true, if_true, if_false, List.map_cons, List.map_nil, List.length_cons, List.length_nil, List.cons_append, List.nil_append, wName, List.getElem?_cons_zero, List.getElem?_cons_succ, wC, wOp, wCall, wACons, wANil, wAndV, wOrV, wNotV, wIsi, wIsi2, wCmp, wChain, wChain3, wOfT, wIfE, wAnd, wOr, wNotT, bInt, bEq, bNe, bIsN, bNotN, bIn, bNotIn, wCall1, bLen, bAll, bAny, bSum, sRet, sRetN, sRetO, sIf, sSeq, sNil, sExpr, sSet, sAsg, sPar, wVE, wVN, wOfN, wOfE, wTup, wLst, pyAll, sFor, wIR1, sCut]
  refine ⟨by decide, by decide, ?_⟩
  refine for_invB (fun i ρ n' => n' ≤ 5000 * i ∧ ∃ u2 u3 u4 u5 u6 u7 u8 u9 u10, ρ = [.no, .val .pen, u2, u3, u4, u5, u6, u7, u8, u9, u10]) (fun _ _ => False) _ _ _ _ (fun j d ρ n' DB' hd hI hrt hbk hnx hct => ?_) ⟨by decide, _, _, _, _, _, _, _, _, _, rfl⟩ (fun ρ' n' hI => trivial) (fun _ _ h => h.elim)
  obtain ⟨hnj, u2, u3, u4, u5, u6, u7, u8, u9, u10, rfl⟩ := hI
  obtain ⟨hj, rfl⟩ := rng0 hd
  have hj : j < 10 := hj
  simp only [startB, Nat.reduceAdd, Nat.reduceSub, List.replicate_succ, List.replicate_zero, wLc, wLc2, wISeq, wipeB, List.set_cons_succ, List.set_cons_zero, wgTup, wgCons, wgNil, wgNm, Bool.not_true, Bool.not_false, Bool.false_eq_true, if_true, if_false, List.map_cons, List.map_nil, List.length_cons, List.length_nil, List.cons_append, List.nil_append, wName, List.getElem?_cons_zero, List.getElem?_cons_succ, wC, wOp, wCall, wACons, wANil, wAndV, wOrV, wNotV, wIsi, wIsi2, wCmp, wChain, wChain3, wOfT, wIfE, wAnd, wOr, wNotT, bInt, bEq, bNe, bIsN, bNotN, bIn, bNotIn, wCall1, bLen, bAll, bAny, bSum, sRet, sRetN, sRetO, sIf, sSeq, sNil, sExpr, sSet, sAsg, sPar, wVE, wVN, wOfN, wOfE, wTup, wLst, pyAll, fWeb]
  refine ⟨6, rfl, by omega, by decide, by decide, fun s' ts hs1 hs8 ok hts => ?_⟩
  obtain ⟨s, rfl⟩ := Int.eq_ofNat_of_zero_le (Int.le_trans (by decide : (0 : Int) ≤ 1) hs1)
  simp only [startB, Nat.reduceAdd, Nat.reduceSub, List.replicate_succ, List.replicate_zero, wLc, wLc2, wISeq, wipeB, List.set_cons_succ, List.set_cons_zero, wgTup, wgCons, wgNil, wgNm, Bool.not_true, Bool.not_false, Bool.false_eq_true, if_true, if_false, List.map_cons, List.map_nil, List.length_cons, List.length_nil, List.cons_append, List.nil_append, wName, List.getElem?_cons_zero, List.getElem?_cons_succ, wC, wOp, wCall, wACons, wANil, wAndV, wOrV, wNotV, wIsi, wIsi2, wCmp, wChain, wChain3, wOfT, wIfE, wAnd, wOr, wNotT, bInt, bEq, bNe, bIsN, bNotN, bIn, bNotIn, wCall1, bLen, bAll, bAny, bSum, sRet, sRetN, sRetO, sIf, sSeq, sNil, sExpr, sSet, sAsg, sPar, wVE, wVN, wOfN, wOfE, wTup, wLst, pyAll, webD, wMk, fMk, fStand]
  simp only [Option.map_some]
  refine ⟨trivial, trivial, _, _, rfl, .inr ⟨s, rfl, by omega, by omega, .inr ⟨ts, rfl, ok, fun _ => ⟨30, s, rfl, by omega, by omega, by omega, by decide, by decide, fun o nw ho hnw hb => ?_⟩⟩⟩⟩
  have hA := an_st (s := s) (by omega) (by omega) (by omega) hb
  generalize stD o nw = d0 at hA ⊢
  clear hb
  simp only [startB, Nat.reduceAdd, Nat.reduceSub, List.replicate_succ, List.replicate_zero, wLc, wLc2, wISeq, wipeB, List.set_cons_succ, List.set_cons_zero, wgTup, wgCons, wgNil, wgNm, Bool.not_true, Bool.not_false, Bool.false_eq_true, if_true, if_false, List.map_cons, List.map_nil, List.length_cons, List.length_nil, List.cons_append, List.nil_append, wName, List.getElem?_cons_zero, List.getElem?_cons_succ, wC, wOp, wCall, wACons, wANil, wAndV, wOrV, wNotV, wIsi, wIsi2, wCmp, wChain, wChain3, wOfT, wIfE, wAnd, wOr, wNotT, bInt, bEq, bNe, bIsN, bNotN, bIn, bNotIn, wCall1, bLen, bAll, bAny, bSum, sRet, sRetN, sRetO, sIf, sSeq, sNil, sExpr, sSet, sAsg, sPar, wVE, wVN, wOfN, wOfE, wTup, wLst, pyAll, sFor, wIR1, fDraw]
  refine ⟨3, rfl, by omega, by decide, by decide, fun r r0 r1 => ⟨by omega, by omega, ?_⟩⟩
  refine for_invB (fun i ρ n2 => n2 ≤ n' + 4001 + 64 * i ∧ ∃ d v7, ρ = [.no, .val .pen, .val (.py (.int (j : Int))), .val (.py (.int (s : Int))), .val (.py (.list (ts.map tieD))), .val (.web s (matOf ts)), .val (.py d), v7, u8, u9, u10] ∧ An (cI i) (bI i) (2 + 4 * i) d) (fun _ _ => False) _ _ _ _ (fun i z ρ n2 DB2 hd2 hI2 hrt2 hbk2 hnx2 hct2 => ?_) ⟨by omega, _, _, rfl, hA⟩ (fun ρ' n2 hI => ?_) (fun _ _ h => h.elim)
  · obtain ⟨hn2, d, v7, rfl, hA⟩ := hI2
    obtain ⟨hi, rfl⟩ := rng0 hd2
    have hi : i < 2 := by omega
    simp only [startB, Nat.reduceAdd, Nat.reduceSub, List.replicate_succ, List.replicate_zero, wLc, wLc2, wISeq, wipeB, List.set_cons_succ, List.set_cons_zero, wgTup, wgCons, wgNil, wgNm, Bool.not_true, Bool.not_false, Bool.false_eq_true, if_true, if_false, List.map_cons, List.map_nil, List.length_cons, List.length_nil, List.cons_append, List.nil_append, wName, List.getElem?_cons_zero, List.getElem?_cons_succ, wC, wOp, wCall, wACons, wANil, wAndV, wOrV, wNotV, wIsi, wIsi2, wCmp, wChain, wChain3, wOfT, wIfE, wAnd, wOr, wNotT, bInt, bEq, bNe, bIsN, bNotN, bIn, bNotIn, wCall1, bLen, bAll, bAny, bSum, sRet, sRetN, sRetO, sIf, sSeq, sNil, sExpr, sSet, sAsg, sPar, wVE, wVN, wOfN, wOfE, wTup, wLst, pyAll, wVE, fBentG]
    refine ⟨d, _, _, _, rfl, hA, by omega, ?_, cI_le (by omega), by omega, fun d' n3 hn3 t => hnx2 _ _ ⟨by omega, _, _, rfl, ?_⟩⟩
    · have : i = 0 ∨ i = 1 := by omega
      rcases this with rfl | rfl <;> decide
    · refine An.mono t (Nat.le_refl _) ?_ ?_
      · have := hA.b
        show _ ≤ 2 * bI i + 60
        omega
      · have := hA.dz
        omega
  · obtain ⟨hn2, d, v7, rfl, hA⟩ := hI
    have hi : (rngD 0 r.toNat).length ≤ 2 := by
      unfold rngD
      simp
      omega
    have hA := an_fin hi hA
    have hn3 : n2 ≤ n' + 4130 := by omega
    clear hn2 hi
    simp only [startB, Nat.reduceAdd, Nat.reduceSub, List.replicate_succ, List.replicate_zero, wLc, wLc2, wISeq, wipeB, List.set_cons_succ, List.set_cons_zero, wgTup, wgCons, wgNil, wgNm, Bool.not_true, Bool.not_false, Bool.false_eq_true, if_true, if_false, List.map_cons, List.map_nil, List.length_cons, List.length_nil, List.cons_append, List.nil_append, wName, List.getElem?_cons_zero, List.getElem?_cons_succ, wC, wOp, wCall, wACons, wANil, wAndV, wOrV, wNotV, wIsi, wIsi2, wCmp, wChain, wChain3, wOfT, wIfE, wAnd, wOr, wNotT, bInt, bEq, bNe, bIsN, bNotN, bIn, bNotIn, wCall1, bLen, bAll, bAny, bSum, sRet, sRetN, sRetO, sIf, sSeq, sNil, sExpr, sSet, sAsg, sPar, wVE, wVN, wOfN, wOfE, wTup, wLst, pyAll, fDraw]
    unfold sCut
    refine ⟨fun ρ n3 => n3 ≤ n' + 4280 ∧ ∃ d v7, ρ = [.no, .val .pen, .val (.py (.int (j : Int))), .val (.py (.int (s : Int))), .val (.py (.list (ts.map tieD))), .val (.web s (matOf ts)), .val (.py d), v7, u8, u9, u10] ∧ An (cI 2) 300 10 d, ?_, fun ρ' n3 hP => ?_⟩
    · simp only [startB, Nat.reduceAdd, Nat.reduceSub, List.replicate_succ, List.replicate_zero, wLc, wLc2, wISeq, wipeB, List.set_cons_succ, List.set_cons_zero, wgTup, wgCons, wgNil, wgNm, Bool.not_true, Bool.not_false, Bool.false_eq_true, if_true, if_false, List.map_cons, List.map_nil, List.length_cons, List.length_nil, List.cons_append, List.nil_append, wName, List.getElem?_cons_zero, List.getElem?_cons_succ, wC, wOp, wCall, wACons, wANil, wAndV, wOrV, wNotV, wIsi, wIsi2, wCmp, wChain, wChain3, wOfT, wIfE, wAnd, wOr, wNotT, bInt, bEq, bNe, bIsN, bNotN, bIn, bNotIn, wCall1, bLen, bAll, bAny, bSum, sRet, sRetN, sRetO, sIf, sSeq, sNil, sExpr, sSet, sAsg, sPar, wVE, wVN, wOfN, wOfE, wTup, wLst, pyAll, fDraw]
      refine ⟨6, rfl, by omega, by decide, by decide, fun r r0 r1 => ⟨shaped_int _, shaped_int _, ?_⟩⟩
      rw [eqv_int]
      by_cases hr : r = 0
      · refine (if_pos (decide_eq_true hr)).mpr ?_
        refine ⟨rfl, by omega, fun d' n4 hn4 t => ⟨by omega, _, _, rfl, t.mono (by decide +kernel) (by decide) (by decide)⟩⟩
      · refine (if_neg (by rw [decide_eq_true_eq]; exact hr)).mpr ?_
        exact ⟨by omega, _, _, rfl, hA⟩
    · clear hA hn3
      obtain ⟨hn3, d, v7, rfl, hA⟩ := hP
      have hT := hA.tm (by decide +kernel)
      have hS := hT.shows (by decide) (by decide)
      simp only [startB, Nat.reduceAdd, Nat.reduceSub, List.replicate_succ, List.replicate_zero, wLc, wLc2, wISeq, wipeB, List.set_cons_succ, List.set_cons_zero, wgTup, wgCons, wgNil, wgNm, Bool.not_true, Bool.not_false, Bool.false_eq_true, if_true, if_false, List.map_cons, List.map_nil, List.length_cons, List.length_nil, List.cons_append, List.nil_append, wName, List.getElem?_cons_zero, List.getElem?_cons_succ, wC, wOp, wCall, wACons, wANil, wAndV, wOrV, wNotV, wIsi, wIsi2, wCmp, wChain, wChain3, wOfT, wIfE, wAnd, wOr, wNotT, bInt, bEq, bNe, bIsN, bNotN, bIn, bNotIn, wCall1, bLen, bAll, bAny, bSum, sRet, sRetN, sRetO, sIf, sSeq, sNil, sExpr, sSet, sAsg, sPar, wVE, wVN, wOfN, wOfE, wTup, wLst, pyAll, fDueS, wReprD]
      refine ⟨s, d, rfl, by omega, hS, ?_⟩
      rcases need_cases s d with ⟨hf, hk⟩ | ⟨p, hp, hf, hk⟩
      · rw [hf]
        simp only [startB, Nat.reduceAdd, Nat.reduceSub, List.replicate_succ, List.replicate_zero, wLc, wLc2, wISeq, wipeB, List.set_cons_succ, List.set_cons_zero, wgTup, wgCons, wgNil, wgNm, Bool.not_true, Bool.not_false, Bool.false_eq_true, if_true, if_false, List.map_cons, List.map_nil, List.length_cons, List.length_nil, List.cons_append, List.nil_append, wName, List.getElem?_cons_zero, List.getElem?_cons_succ, wC, wOp, wCall, wACons, wANil, wAndV, wOrV, wNotV, wIsi, wIsi2, wCmp, wChain, wChain3, wOfT, wIfE, wAnd, wOr, wNotT, bInt, bEq, bNe, bIsN, bNotN, bIn, bNotIn, wCall1, bLen, bAll, bAny, bSum, sRet, sRetN, sRetO, sIf, sSeq, sNil, sExpr, sSet, sAsg, sPar, wVE, wVN, wOfN, wOfE, wTup, wLst, pyAll, fTold, fNeedStanding]
        refine ⟨s, _, d, rfl, by omega, hk _ _ _ ?_⟩
        unfold toldR
        refine (if_pos (show isNon (D.py PyData.none) = true from rfl)).mpr ?_
        simp only [startB, Nat.reduceAdd, Nat.reduceSub, List.replicate_succ, List.replicate_zero, wLc, wLc2, wISeq, wipeB, List.set_cons_succ, List.set_cons_zero, wgTup, wgCons, wgNil, wgNm, Bool.not_true, Bool.not_false, Bool.false_eq_true, if_true, if_false, List.map_cons, List.map_nil, List.length_cons, List.length_nil, List.cons_append, List.nil_append, wName, List.getElem?_cons_zero, List.getElem?_cons_succ, wC, wOp, wCall, wACons, wANil, wAndV, wOrV, wNotV, wIsi, wIsi2, wCmp, wChain, wChain3, wOfT, wIfE, wAnd, wOr, wNotT, bInt, bEq, bNe, bIsN, bNotN, bIn, bNotIn, wCall1, bLen, bAll, bAny, bSum, sRet, sRetN, sRetO, sIf, sSeq, sNil, sExpr, sSet, sAsg, sPar, wVE, wVN, wOfN, wOfE, wTup, wLst, pyAll, Option.map_some]
        refine ⟨by decide, by decide +kernel, by decide +kernel, ?_⟩
        refine (if_neg (show ¬ (!(PyData.list [.none]).eqv (.list [.none])) = true by decide +kernel)).mpr ?_
        refine (if_neg (show ¬ (!isNon (D.py PyData.none)) = true by decide +kernel)).mpr ?_
        have e2 : (!(PyData.str d.shown).eqv (.str d.shown)) = false := by
          rw [eqv_strG]
          rfl
        have sh := shaped_str hT.g
        refine ⟨hS, sh, sh, ?_⟩
        rw [e2]
        refine (if_neg Bool.false_ne_true).mpr ?_
        exact hnx _ _ ⟨by omega, _, _, _, _, _, _, _, _, _, rfl⟩
      · rw [hf]
        have e1 : (!(PyData.str p).eqv (.str p)) = false := by
          rcases hp with rfl | rfl <;> decide +kernel
        have s1 : SeqAt.shaped (.str p) = true := by
          rcases hp with rfl | rfl <;> decide +kernel
        simp only [startB, Nat.reduceAdd, Nat.reduceSub, List.replicate_succ, List.replicate_zero, wLc, wLc2, wISeq, wipeB, List.set_cons_succ, List.set_cons_zero, wgTup, wgCons, wgNil, wgNm, Bool.not_true, Bool.not_false, Bool.false_eq_true, if_true, if_false, List.map_cons, List.map_nil, List.length_cons, List.length_nil, List.cons_append, List.nil_append, wName, List.getElem?_cons_zero, List.getElem?_cons_succ, wC, wOp, wCall, wACons, wANil, wAndV, wOrV, wNotV, wIsi, wIsi2, wCmp, wChain, wChain3, wOfT, wIfE, wAnd, wOr, wNotT, bInt, bEq, bNe, bIsN, bNotN, bIn, bNotIn, wCall1, bLen, bAll, bAny, bSum, sRet, sRetN, sRetO, sIf, sSeq, sNil, sExpr, sSet, sAsg, sPar, wVE, wVN, wOfN, wOfE, wTup, wLst, pyAll, fTold, fNeedStanding]
        refine ⟨s, _, d, rfl, by omega, hk _ _ _ (toldX_st ?_)⟩
        refine (if_neg (show ¬ isNon (D.py (PyData.str p)) = true from Bool.false_ne_true)).mpr ?_
        simp only [startB, Nat.reduceAdd, Nat.reduceSub, List.replicate_succ, List.replicate_zero, wLc, wLc2, wISeq, wipeB, List.set_cons_succ, List.set_cons_zero, wgTup, wgCons, wgNil, wgNm, Bool.not_true, Bool.not_false, Bool.false_eq_true, if_true, if_false, List.map_cons, List.map_nil, List.length_cons, List.length_nil, List.cons_append, List.nil_append, wName, List.getElem?_cons_zero, List.getElem?_cons_succ, wC, wOp, wCall, wACons, wANil, wAndV, wOrV, wNotV, wIsi, wIsi2, wCmp, wChain, wChain3, wOfT, wIfE, wAnd, wOr, wNotT, bInt, bEq, bNe, bIsN, bNotN, bIn, bNotIn, wCall1, bLen, bAll, bAny, bSum, sRet, sRetN, sRetO, sIf, sSeq, sNil, sExpr, sSet, sAsg, sPar, wVE, wVN, wOfN, wOfE, wTup, wLst, pyAll]
        refine ⟨s1, s1, ?_⟩
        rw [e1]
        refine (if_neg Bool.false_ne_true).mpr ?_
        refine (if_pos (show (!isNon (D.py (PyData.str p))) = true from rfl)).mpr ?_
        have hs12 : s ≤ 12 := by omega
        refine ref2_st hs12 hk ?_
        simp only [startB, Nat.reduceAdd, Nat.reduceSub, List.replicate_succ, List.replicate_zero, wLc, wLc2, wISeq, wipeB, List.set_cons_succ, List.set_cons_zero, wgTup, wgCons, wgNil, wgNm, Bool.not_true, Bool.not_false, Bool.false_eq_true, if_true, if_false, List.map_cons, List.map_nil, List.length_cons, List.length_nil, List.cons_append, List.nil_append, wName, List.getElem?_cons_zero, List.getElem?_cons_succ, wC, wOp, wCall, wACons, wANil, wAndV, wOrV, wNotV, wIsi, wIsi2, wCmp, wChain, wChain3, wOfT, wIfE, wAnd, wOr, wNotT, bInt, bEq, bNe, bIsN, bNotN, bIn, bNotIn, wCall1, bLen, bAll, bAny, bSum, sRet, sRetN, sRetO, sIf, sSeq, sNil, sExpr, sSet, sAsg, sPar, wVE, wVN, wOfN, wOfE, wTup, wLst, pyAll, sAppend, Option.map_some]
        refine ⟨by decide, ref2_st hs12 hk ?_⟩
        simp only []
        refine ⟨by decide, ref3_st hs12 hk ⟨by decide, ref4_st hs12 hk ⟨by decide, ref3_st hs12 hk ⟨by decide, ref2_st hs12 hk ⟨by decide, ref2_st hs12 hk ⟨by decide, ref3_st hs12 hk ⟨by decide, ?_⟩⟩⟩⟩⟩⟩⟩
        simp only [startB, Nat.reduceAdd, Nat.reduceSub, List.replicate_succ, List.replicate_zero, wLc, wLc2, wISeq, wipeB, List.set_cons_succ, List.set_cons_zero, wgTup, wgCons, wgNil, wgNm, Bool.not_true, Bool.not_false, Bool.false_eq_true, if_true, if_false, List.map_cons, List.map_nil, List.length_cons, List.length_nil, List.cons_append, List.nil_append, wName, List.getElem?_cons_zero, List.getElem?_cons_succ, wC, wOp, wCall, wACons, wANil, wAndV, wOrV, wNotV, wIsi, wIsi2, wCmp, wChain, wChain3, wOfT, wIfE, wAnd, wOr, wNotT, bInt, bEq, bNe, bIsN, bNotN, bIn, bNotIn, wCall1, bLen, bAll, bAny, bSum, sRet, sRetN, sRetO, sIf, sSeq, sNil, sExpr, sSet, sAsg, sPar, wVE, wVN, wOfN, wOfE, wTup, wLst, pyAll, wOwn, wRep, Option.map_some]
        have e2 : (!(PyData.str d.shown).eqv (.str d.shown)) = false := by
          rw [eqv_strG]
          rfl
        have sh := shaped_str hT.g
        have s8 : SeqAt.shaped (.list [.str p, .str p, .str p, .str p, .str p, .str p, .str p, .str p]) = true := by
          rcases hp with rfl | rfl <;> decide +kernel
        have r8 : (List.replicate (Int.toNat 8) [PyData.str p]).flatten = [.str p, .str p, .str p, .str p, .str p, .str p, .str p, .str p] := rfl
        have e8 : (!(PyData.list [.str p, .str p, .str p, .str p, .str p, .str p, .str p, .str p]).eqv (.list [.str p, .str p, .str p, .str p, .str p, .str p, .str p, .str p])) = false := by
          rcases hp with rfl | rfl <;> decide +kernel
        rw [r8, e8, e2]
        refine ⟨by decide, trivial, by decide, by decide, by decide, s8, s8, (if_neg Bool.false_ne_true).mpr ⟨hS, sh, sh, (if_neg Bool.false_ne_true).mpr ?_⟩⟩
        exact hnx _ _ ⟨by omega, _, _, _, _, _, _, _, _, _, rfl⟩
end Fv
set_option maxRecDepth 100000
set_option maxHeartbeats 4000000
/-! A web's posts called otherwise; ties moved on. -/
namespace Fv
open PySem PySem.Spec PyProof.Rows L2 Gb
open PySem.W (T4)
theorem cut_tup {K : PySem.W.Frag} {p a : Addr} {B H : Hp} {xs : List V} (bp : B p = none) (h : SqT K B a xs) : SqT K (cutH p B H) a xs := by
  have one : ∀ {o : HO}, B a = some o → isSq o = true → cutH p B H a = some o := fun {o} e s => by
    have ne : a ≠ p := fun z => by rw [z, bp] at e; cases e
    unfold cutH
    rw [if_neg ne, e]
    show (if isSq o = true then some o else none) = some o
    rw [if_pos s]
  rcases h with h | h
  · rcases h with h | ⟨o, h⟩
    · exact .inl (.inl (one h rfl))
    · exact .inl (.inr ⟨o, one h rfl⟩)
  · exact .inr h
mutual
theorem dd_cut {K : PySem.W.Frag} {p : Addr} {B H : Hp} (bp : B p = none) : ∀ {v : V} {d : PyData}, Dd K B v d → d.canLay0 = true → Dp K (cutH p B H) v d
  | _, _, .non, _ => .non
  | _, _, .bl b, _ => .bl b
  | _, _, .int i, _ => .int i
  | _, _, .str x, _ => .str x
  | _, _, .lst h a _, c => .lst (SqL.of (cut_lst bp h)) (dda_cut bp a (by simpa only [PyData.canLay0] using c))
  | _, _, .tup h a _, c => .tup (cut_tup bp h) (dda_cut bp a (by simpa only [PyData.canLay0] using c))
  | _, _, .dic _ _, c => by simp only [PyData.canLay0] at c; cases c
theorem dda_cut {K : PySem.W.Frag} {p : Addr} {B H : Hp} (bp : B p = none) : ∀ {vs : List V} {ds : List PyData}, DdA K B vs ds → PyData.canLayAll0 ds = true → DpAll K (cutH p B H) vs ds
  | _, _, .nil, _ => .nil
  | _, _, .cons a b, c => by
    simp only [PyData.canLayAll0, Bool.and_eq_true] at c
    exact .cons (dd_cut bp a c.1) (dda_cut bp b c.2)
end
variable {F : Fx}
/-- renamed: by any names, in any order -/
def fRen : FB := fun ds n _ Q => ∃ (s m : Int) (ts : List Tw), ds = [.pen, .py (.int s), .py (.list (ts.map tieD))] ∧ n + 300 ≤ 2 ^ 60 ∧ 1 ≤ s ∧ s ≤ 12 ∧ TiesOk m s ts ∧ ts.length ≤ 200 ∧ ∀ ts' : List Tw, Ren s ts ts' → Q (.py (.list (ts'.map tieD))) (n + 300)
end Fv
set_option maxRecDepth 100000
set_option maxHeartbeats 0
namespace Hd
open PySem PySem.Spec PyProof.Rows L2 Gb
theorem facts {P : Program} {w : World} {K : PySem.W.Frag} {h : Heap} {mg : Str → Option Value} {f : Addr} (X : K.In h) (G : h.Ns mainGlobals mg) (hfa : mg ("law" : Str) = some (.ref f)) (c : He.SaysX fa fn [] tf ex w h K) :
    ∃ fd : FuncData, (∀ (s : Shared) (v : Value), BindsTo s fd ⟨[v], []⟩ [("script", v)]) ∧ ∀ base : Heap, K.In base → base.Ns mainGlobals mg → LamX.TabB base mg (He.cT K ("law", none)).1 (He.cT K ("law", none)).2 → Fv.FnG P w K mg base 13 f fd ["script"] (Fv.spLawS K [He.cT K ("law", none)]) := by
  have cd0 := c.t.d
  obtain ⟨fd, Fl⟩ := cd0.def_ 35 (d := d_law) rfl
  have e := hfa.symm.trans (He.glo_ok X G (cd0.fact 35 (f := .glo "law") rfl))
  cases e
  have b := FunD.bindsA (ps := ["script"]) Fl fun _ _ _ _ _ _ us hl => match us, hl with | [_], _ => rfl
  refine ⟨fd, fun s v => b s [v] rfl, fun base _ _ hTB => ?_⟩
  have cd := c.t.d
  have fxe_NoWeb : (⟨P, w, K, mg, base, He.ga K "Web", fun x => if x = "NoWeb" then some (.ref (He.ga K "NoWeb")) else if x = "NoStanding" then some (.ref (He.ga K "NoStanding")) else if x = "NoPart" then some (.ref (He.ga K "NoPart")) else if x = "NoBeats" then some (.ref (He.ga K "NoBeats")) else if x = "NoPost" then some (.ref (He.ga K "NoPost")) else none⟩ : Fv.Fx).ex "NoWeb" = some (.ref (He.ga K "NoWeb")) := by
    first | rfl | decide | simp
  have fxe_NoStanding : (⟨P, w, K, mg, base, He.ga K "Web", fun x => if x = "NoWeb" then some (.ref (He.ga K "NoWeb")) else if x = "NoStanding" then some (.ref (He.ga K "NoStanding")) else if x = "NoPart" then some (.ref (He.ga K "NoPart")) else if x = "NoBeats" then some (.ref (He.ga K "NoBeats")) else if x = "NoPost" then some (.ref (He.ga K "NoPost")) else none⟩ : Fv.Fx).ex "NoStanding" = some (.ref (He.ga K "NoStanding")) := by
    first | rfl | decide | simp
  have fxe_NoPart : (⟨P, w, K, mg, base, He.ga K "Web", fun x => if x = "NoWeb" then some (.ref (He.ga K "NoWeb")) else if x = "NoStanding" then some (.ref (He.ga K "NoStanding")) else if x = "NoPart" then some (.ref (He.ga K "NoPart")) else if x = "NoBeats" then some (.ref (He.ga K "NoBeats")) else if x = "NoPost" then some (.ref (He.ga K "NoPost")) else none⟩ : Fv.Fx).ex "NoPart" = some (.ref (He.ga K "NoPart")) := by
    first | rfl | decide | simp
  have fxe_NoBeats : (⟨P, w, K, mg, base, He.ga K "Web", fun x => if x = "NoWeb" then some (.ref (He.ga K "NoWeb")) else if x = "NoStanding" then some (.ref (He.ga K "NoStanding")) else if x = "NoPart" then some (.ref (He.ga K "NoPart")) else if x = "NoBeats" then some (.ref (He.ga K "NoBeats")) else if x = "NoPost" then some (.ref (He.ga K "NoPost")) else none⟩ : Fv.Fx).ex "NoBeats" = some (.ref (He.ga K "NoBeats")) := by
    first | rfl | decide | simp
  have fxe_NoPost : (⟨P, w, K, mg, base, He.ga K "Web", fun x => if x = "NoWeb" then some (.ref (He.ga K "NoWeb")) else if x = "NoStanding" then some (.ref (He.ga K "NoStanding")) else if x = "NoPart" then some (.ref (He.ga K "NoPart")) else if x = "NoBeats" then some (.ref (He.ga K "NoBeats")) else if x = "NoPost" then some (.ref (He.ga K "NoPost")) else none⟩ : Fv.Fx).ex "NoPost" = some (.ref (He.ga K "NoPost")) := by
    first | rfl | decide | simp
  have xr : Fv.RefL (⟨P, w, K, mg, base, He.ga K "Web", fun x => if x = "NoWeb" then some (.ref (He.ga K "NoWeb")) else if x = "NoStanding" then some (.ref (He.ga K "NoStanding")) else if x = "NoPart" then some (.ref (He.ga K "NoPart")) else if x = "NoBeats" then some (.ref (He.ga K "NoBeats")) else if x = "NoPost" then some (.ref (He.ga K "NoPost")) else none⟩ : Fv.Fx) := by
    refine ⟨fun nm cv h => ?_, (Bool.and_eq_true_iff.mp (Bool.and_eq_true_iff.mp (Bool.and_eq_true_iff.mp (Bool.and_eq_true_iff.mp (Bool.and_eq_true_iff.mp (Bool.and_eq_true_iff.mp c.more).1).1).1).1).1).2, fun x hx => ?_, He.free_ok X G (cd.fact 65 (f := .free "ValueError") rfl), He.free_ok X G (cd.fact 66 (f := .free "KeyError") rfl)⟩
    · dsimp only at h
      by_cases e0 : nm = "NoWeb"
      · rw [if_pos e0] at h
        subst e0
        exact ⟨by decide, (Option.some.inj h).symm⟩
      · rw [if_neg e0] at h
        by_cases e1 : nm = "NoStanding"
        · rw [if_pos e1] at h
          subst e1
          exact ⟨by decide, (Option.some.inj h).symm⟩
        · rw [if_neg e1] at h
          by_cases e2 : nm = "NoPart"
          · rw [if_pos e2] at h
            subst e2
            exact ⟨by decide, (Option.some.inj h).symm⟩
          · rw [if_neg e2] at h
            by_cases e3 : nm = "NoBeats"
            · rw [if_pos e3] at h
              subst e3
              exact ⟨by decide, (Option.some.inj h).symm⟩
            · rw [if_neg e3] at h
              by_cases e4 : nm = "NoPost"
              · rw [if_pos e4] at h
                subst e4
                exact ⟨by decide, (Option.some.inj h).symm⟩
              · rw [if_neg e4] at h
                cases h
    · simp only [List.mem_cons, List.not_mem_nil, or_false] at hx
      rcases hx with rfl | rfl | rfl | rfl | rfl | rfl | rfl | rfl
      · exact He.glo_ok X G (cd.fact 36 (f := .glo "NoWeb") rfl)
      · exact He.glo_ok X G (cd.fact 37 (f := .glo "NoStanding") rfl)
      · exact He.glo_ok X G (cd.fact 38 (f := .glo "NoPart") rfl)
      · exact He.glo_ok X G (cd.fact 39 (f := .glo "NoBeats") rfl)
      · exact He.glo_ok X G (cd.fact 40 (f := .glo "NoPost") rfl)
      · exact He.glo_ok X G (cd.fact 41 (f := .glo "NotAll") rfl)
      · exact He.glo_ok X G (cd.fact 42 (f := .glo "NotWaves") rfl)
      · exact He.glo_ok X G (cd.fact 43 (f := .glo "TooGreat") rfl)
  have cd := c.t.d
  have bz : Fv.Bz mg := ⟨⟨He.free_ok X G (cd.fact 45 (f := .free "len") rfl), He.free_ok X G (cd.fact 46 (f := .free "abs") rfl), He.free_ok X G (cd.fact 47 (f := .free "max") rfl), He.free_ok X G (cd.fact 48 (f := .free "min") rfl), He.free_ok X G (cd.fact 49 (f := .free "list") rfl), He.free_ok X G (cd.fact 50 (f := .free "tuple") rfl), He.free_ok X G (cd.fact 51 (f := .free "range") rfl), He.free_ok X G (cd.fact 52 (f := .free "isinstance") rfl), He.free_ok X G (cd.fact 53 (f := .free "all") rfl), He.free_ok X G (cd.fact 55 (f := .free "set") rfl), He.free_ok X G (cd.fact 56 (f := .free "sum") rfl), He.free_ok X G (cd.fact 57 (f := .free "zip") rfl), He.free_ok X G (cd.fact 58 (f := .free "int") rfl)⟩, He.free_ok X G (cd.fact 61 (f := .free "bool") rfl), He.free_ok X G (cd.fact 54 (f := .free "any") rfl), He.free_ok X G (cd.fact 59 (f := .free "sorted") rfl), He.free_ok X G (cd.fact 60 (f := .free "repr") rfl), He.free_ok X G (cd.fact 62 (f := .free "dict") rfl), He.free_ok X G (cd.fact 63 (f := .free "str") rfl), He.free_ok X G (cd.fact 64 (f := .free "enumerate") rfl)⟩
  have W : Fv.Wc K (He.ga K "Web") := ⟨He.cls_ok (cd.fact 74 (f := .cls "Web") rfl), He.noat_ok (cd.fact 78 (f := .noat "Web" "_rows") rfl), He.noat_ok (cd.fact 79 (f := .noat "Web" "_ties") rfl)⟩
  have we : Fv.WebEq K (He.ga K "Web") := Fv.webEq_of (Bool.and_eq_true_iff.mp (Bool.and_eq_true_iff.mp (Bool.and_eq_true_iff.mp (Bool.and_eq_true_iff.mp (Bool.and_eq_true_iff.mp c.more).1).1).1).1).2
  have dn__law_draw : Dn K mg "_law_draw" s__law_draw ["pen", "many"] := by
    obtain ⟨fd, F⟩ := cd.def_ 23 (d := d__law_draw) rfl
    have F2 : Fun K "_law_draw" "_law_draw" s__law_draw _ fd := He5.fun_of F
    exact ⟨_, fd, F2, He.glo_ok X G (cd.fact 23 (f := .glo "_law_draw") rfl), F2.binds fun _ _ _ _ _ _ us hl => match us, hl with | [_, _], _ => rfl⟩
  have dn__law_pick : Dn K mg "_law_pick" s__law_pick ["pen", "some"] := by
    obtain ⟨fd, F⟩ := cd.def_ 24 (d := d__law_pick) rfl
    have F2 : Fun K "_law_pick" "_law_pick" s__law_pick _ fd := He5.fun_of F
    exact ⟨_, fd, F2, He.glo_ok X G (cd.fact 24 (f := .glo "_law_pick") rfl), F2.binds fun _ _ _ _ _ _ us hl => match us, hl with | [_, _], _ => rfl⟩
  have dn__law_great : Dn K mg "_law_great" s__law_great ["pen", "figures"] := by
    obtain ⟨fd, F⟩ := cd.def_ 25 (d := d__law_great) rfl
    have F2 : Fun K "_law_great" "_law_great" s__law_great _ fd := He5.fun_of F
    exact ⟨_, fd, F2, He.glo_ok X G (cd.fact 25 (f := .glo "_law_great") rfl), F2.binds fun _ _ _ _ _ _ us hl => match us, hl with | [_, _], _ => rfl⟩
  have dn__law_shuffled : Dn K mg "_law_shuffled" s__law_shuffled ["pen", "some"] := by
    obtain ⟨fd, F⟩ := cd.def_ 26 (d := d__law_shuffled) rfl
    have F2 : Fun K "_law_shuffled" "_law_shuffled" s__law_shuffled _ fd := He5.fun_of F
    exact ⟨_, fd, F2, He.glo_ok X G (cd.fact 26 (f := .glo "_law_shuffled") rfl), F2.binds fun _ _ _ _ _ _ us hl => match us, hl with | [_, _], _ => rfl⟩
  have dn__law_any_web : Dn K mg "_law_any_web" s__law_any_web ["pen", "most"] := by
    obtain ⟨fd, F⟩ := cd.def_ 27 (d := d__law_any_web) rfl
    have F2 : Fun K "_law_any_web" "_law_any_web" s__law_any_web _ fd := He5.fun_of F
    exact ⟨_, fd, F2, He.glo_ok X G (cd.fact 27 (f := .glo "_law_any_web") rfl), F2.binds fun _ _ _ _ _ _ us hl => match us, hl with | [_, _], _ => rfl⟩
  have dn__law_number : Dn K mg "_law_number" s__law_number ["pen", "far"] := by
    obtain ⟨fd, F⟩ := cd.def_ 28 (d := d__law_number) rfl
    have F2 : Fun K "_law_number" "_law_number" s__law_number _ fd := He5.fun_of F
    exact ⟨_, fd, F2, He.glo_ok X G (cd.fact 28 (f := .glo "_law_number") rfl), F2.binds fun _ _ _ _ _ _ us hl => match us, hl with | [_, _], _ => rfl⟩
  have dn__law_standing : Dn K mg "_law_standing" s__law_standing ["pen", "size", "far"] := by
    obtain ⟨fd, F⟩ := cd.def_ 29 (d := d__law_standing) rfl
    have F2 : Fun K "_law_standing" "_law_standing" s__law_standing _ fd := He5.fun_of F
    exact ⟨_, fd, F2, He.glo_ok X G (cd.fact 29 (f := .glo "_law_standing") rfl), F2.binds fun _ _ _ _ _ _ us hl => match us, hl with | [_, _, _], _ => rfl⟩
  have de_NoWeb : Fv.DnV (⟨P, w, K, mg, base, He.ga K "Web", fun x => if x = "NoWeb" then some (.ref (He.ga K "NoWeb")) else if x = "NoStanding" then some (.ref (He.ga K "NoStanding")) else if x = "NoPart" then some (.ref (He.ga K "NoPart")) else if x = "NoBeats" then some (.ref (He.ga K "NoBeats")) else if x = "NoPost" then some (.ref (He.ga K "NoPost")) else none⟩ : Fv.Fx) "NoWeb" (He.ga K "NoWeb") "NoWeb.__init__" s_NoWeb___init__ ["self", "part"] ["part"] := by
    obtain ⟨fd, F_⟩ := cd.def_ 36 (d := d_NoWeb___init__) rfl
    have F2 : Fun K "__init__" "NoWeb.__init__" s_NoWeb___init__ _ fd := He5.fun_of F_
    have M := He.meth_ok (cd.fact 70 (f := .meth "NoWeb" "__init__") rfl)
    refine ⟨Fv.oxB_ok PySem.Xb.bas_V (Bool.and_eq_true_iff.mp (Bool.and_eq_true_iff.mp (Bool.and_eq_true_iff.mp (Bool.and_eq_true_iff.mp (Bool.and_eq_true_iff.mp (Bool.and_eq_true_iff.mp (Bool.and_eq_true_iff.mp (Bool.and_eq_true_iff.mp (Bool.and_eq_true_iff.mp (Bool.and_eq_true_iff.mp (Bool.and_eq_true_iff.mp (Bool.and_eq_true_iff.mp c.more).1).1).1).1).1).1).1).1).1).1).1).1, He.glo_ok X G (cd.fact 36 (f := .glo "NoWeb") rfl), fxe_NoWeb, fun f hf => by
      simp only [List.mem_cons, List.not_mem_nil, or_false] at hf
      subst hf
      exact He.noat_ok (cd.fact 71 (f := .noat "NoWeb" "part") rfl), He.free_ok X G (cd.fact 65 (f := .free "ValueError") rfl), Fv.iniB_ok (Bool.and_eq_true_iff.mp (Bool.and_eq_true_iff.mp (Bool.and_eq_true_iff.mp (Bool.and_eq_true_iff.mp (Bool.and_eq_true_iff.mp (Bool.and_eq_true_iff.mp (Bool.and_eq_true_iff.mp (Bool.and_eq_true_iff.mp (Bool.and_eq_true_iff.mp (Bool.and_eq_true_iff.mp (Bool.and_eq_true_iff.mp (Bool.and_eq_true_iff.mp c.more).1).1).1).1).1).1).1).1).1).1).1).2, _, fd, M.1, beq_iff_eq.mp M.2, F2, F2.binds fun _ _ _ _ _ _ us hl => match us, hl with | [_, _], _ => rfl⟩
  have de_NoStanding : Fv.DnV (⟨P, w, K, mg, base, He.ga K "Web", fun x => if x = "NoWeb" then some (.ref (He.ga K "NoWeb")) else if x = "NoStanding" then some (.ref (He.ga K "NoStanding")) else if x = "NoPart" then some (.ref (He.ga K "NoPart")) else if x = "NoBeats" then some (.ref (He.ga K "NoBeats")) else if x = "NoPost" then some (.ref (He.ga K "NoPost")) else none⟩ : Fv.Fx) "NoStanding" (He.ga K "NoStanding") "NoStanding.__init__" s_NoStanding___init__ ["self", "part"] ["part"] := by
    obtain ⟨fd, F_⟩ := cd.def_ 37 (d := d_NoStanding___init__) rfl
    have F2 : Fun K "__init__" "NoStanding.__init__" s_NoStanding___init__ _ fd := He5.fun_of F_
    have M := He.meth_ok (cd.fact 72 (f := .meth "NoStanding" "__init__") rfl)
    refine ⟨Fv.oxB_ok PySem.Xb.bas_V (Bool.and_eq_true_iff.mp (Bool.and_eq_true_iff.mp (Bool.and_eq_true_iff.mp (Bool.and_eq_true_iff.mp (Bool.and_eq_true_iff.mp (Bool.and_eq_true_iff.mp (Bool.and_eq_true_iff.mp (Bool.and_eq_true_iff.mp (Bool.and_eq_true_iff.mp (Bool.and_eq_true_iff.mp (Bool.and_eq_true_iff.mp c.more).1).1).1).1).1).1).1).1).1).1).2, He.glo_ok X G (cd.fact 37 (f := .glo "NoStanding") rfl), fxe_NoStanding, fun f hf => by
      simp only [List.mem_cons, List.not_mem_nil, or_false] at hf
      subst hf
      exact He.noat_ok (cd.fact 73 (f := .noat "NoStanding" "part") rfl), He.free_ok X G (cd.fact 65 (f := .free "ValueError") rfl), Fv.iniB_ok (Bool.and_eq_true_iff.mp (Bool.and_eq_true_iff.mp (Bool.and_eq_true_iff.mp (Bool.and_eq_true_iff.mp (Bool.and_eq_true_iff.mp (Bool.and_eq_true_iff.mp (Bool.and_eq_true_iff.mp (Bool.and_eq_true_iff.mp (Bool.and_eq_true_iff.mp (Bool.and_eq_true_iff.mp (Bool.and_eq_true_iff.mp (Bool.and_eq_true_iff.mp c.more).1).1).1).1).1).1).1).1).1).1).1).2, _, fd, M.1, beq_iff_eq.mp M.2, F2, F2.binds fun _ _ _ _ _ _ us hl => match us, hl with | [_, _], _ => rfl⟩
  have dn_is_whole : Dn K mg "is_whole" s_is_whole ["thing"] := by
    obtain ⟨fd, F⟩ := cd.def_ 0 (d := d_is_whole) rfl
    have F2 : Fun K "is_whole" "is_whole" s_is_whole _ fd := He5.fun_of F
    exact ⟨_, fd, F2, He.glo_ok X G (cd.fact 0 (f := .glo "is_whole") rfl), F2.binds fun _ _ _ _ _ _ us hl => match us, hl with | [_], _ => rfl⟩
  have dn_is_between : Dn K mg "is_between" s_is_between ["thing", "low", "high"] := by
    obtain ⟨fd, F⟩ := cd.def_ 1 (d := d_is_between) rfl
    have F2 : Fun K "is_between" "is_between" s_is_between _ fd := He5.fun_of F
    exact ⟨_, fd, F2, He.glo_ok X G (cd.fact 1 (f := .glo "is_between") rfl), F2.binds fun _ _ _ _ _ _ us hl => match us, hl with | [_, _, _], _ => rfl⟩
  have dn_need_size : Dn K mg "need_size" s_need_size ["size"] := by
    obtain ⟨fd, F⟩ := cd.def_ 3 (d := d_need_size) rfl
    have F2 : Fun K "need_size" "need_size" s_need_size _ fd := He5.fun_of F
    exact ⟨_, fd, F2, He.glo_ok X G (cd.fact 3 (f := .glo "need_size") rfl), F2.binds fun _ _ _ _ _ _ us hl => match us, hl with | [_], _ => rfl⟩
  have v_MOST_POSTS : ∃ u, mg "MOST_POSTS" = some u ∧ RelV (.int 12) u := by
    obtain ⟨t, h⟩ := He.int_ok X G (cd.fact 67 (f := .int "MOST_POSTS" (12)) rfl)
    exact ⟨_, h, ⟨t, rfl⟩⟩
  have dn_is_whole_row : Dn K mg "is_whole_row" s_is_whole_row ["thing", "many"] := by
    obtain ⟨fd, F⟩ := cd.def_ 2 (d := d_is_whole_row) rfl
    have F2 : Fun K "is_whole_row" "is_whole_row" s_is_whole_row _ fd := He5.fun_of F
    exact ⟨_, fd, F2, He.glo_ok X G (cd.fact 2 (f := .glo "is_whole_row") rfl), F2.binds fun _ _ _ _ _ _ us hl => match us, hl with | [_, _], _ => rfl⟩
  have dn_is_tie : Dn K mg "is_tie" s_is_tie ["size", "thing"] := by
    obtain ⟨fd, F⟩ := cd.def_ 6 (d := d_is_tie) rfl
    have F2 : Fun K "is_tie" "is_tie" s_is_tie _ fd := He5.fun_of F
    exact ⟨_, fd, F2, He.glo_ok X G (cd.fact 6 (f := .glo "is_tie") rfl), F2.binds fun _ _ _ _ _ _ us hl => match us, hl with | [_, _], _ => rfl⟩
  have v_MOST_CORDS : ∃ u, mg "MOST_CORDS" = some u ∧ RelV (.int 9) u := by
    obtain ⟨t, h⟩ := He.int_ok X G (cd.fact 68 (f := .int "MOST_CORDS" (9)) rfl)
    exact ⟨_, h, ⟨t, rfl⟩⟩
  have dn_are_ties : Dn K mg "are_ties" s_are_ties ["size", "thing"] := by
    obtain ⟨fd, F⟩ := cd.def_ 5 (d := d_are_ties) rfl
    have F2 : Fun K "are_ties" "are_ties" s_are_ties _ fd := He5.fun_of F
    exact ⟨_, fd, F2, He.glo_ok X G (cd.fact 5 (f := .glo "are_ties") rfl), F2.binds fun _ _ _ _ _ _ us hl => match us, hl with | [_, _], _ => rfl⟩
  have dn_need_ties : Dn K mg "need_ties" s_need_ties ["size", "ties"] := by
    obtain ⟨fd, F⟩ := cd.def_ 4 (d := d_need_ties) rfl
    have F2 : Fun K "need_ties" "need_ties" s_need_ties _ fd := He5.fun_of F
    exact ⟨_, fd, F2, He.glo_ok X G (cd.fact 4 (f := .glo "need_ties") rfl), F2.binds fun _ _ _ _ _ _ us hl => match us, hl with | [_, _], _ => rfl⟩
  have dm___init__ : Fv.DnI K (He.ga K "Web") "Web.__init__" s_Web___init__ ["self", "size", "ties"] := by
    obtain ⟨fd, F⟩ := cd.def_ 38 (d := d_Web___init__) rfl
    have F2 : Fun K "__init__" "Web.__init__" s_Web___init__ _ fd := He5.fun_of F
    exact ⟨_, fd, F2, He.mkr_ok (cd.fact 75 (f := .mkr "Web") rfl), F2.binds fun _ _ _ _ _ _ us hl => match us, hl with | [_, _, _], _ => rfl⟩
  have dm___len__ : Fv.DnM K (He.ga K "Web") "__len__" "Web.__len__" s_Web___len__ ["self"] := by
    obtain ⟨fd, F⟩ := cd.def_ 39 (d := d_Web___len__) rfl
    have F2 : Fun K "__len__" "Web.__len__" s_Web___len__ _ fd := He5.fun_of F
    exact ⟨_, fd, F2, He.meth_ok (cd.fact 76 (f := .meth "Web" "__len__") rfl), F2.binds fun _ _ _ _ _ _ us hl => match us, hl with | [_], _ => rfl⟩
  have dm_ties : Fv.DnM K (He.ga K "Web") "ties" "Web.ties" s_Web_ties ["self"] := by
    obtain ⟨fd, F⟩ := cd.def_ 40 (d := d_Web_ties) rfl
    have F2 : Fun K "ties" "Web.ties" s_Web_ties _ fd := He5.fun_of F
    exact ⟨_, fd, F2, He.meth_ok (cd.fact 77 (f := .meth "Web" "ties") rfl), F2.binds fun _ _ _ _ _ _ us hl => match us, hl with | [_], _ => rfl⟩
  have dn_are_bearable : Dn K mg "are_bearable" s_are_bearable ["rows"] := by
    obtain ⟨fd, F⟩ := cd.def_ 9 (d := d_are_bearable) rfl
    have F2 : Fun K "are_bearable" "are_bearable" s_are_bearable _ fd := He5.fun_of F
    exact ⟨_, fd, F2, He.glo_ok X G (cd.fact 9 (f := .glo "are_bearable") rfl), F2.binds fun _ _ _ _ _ _ us hl => match us, hl with | [_], _ => rfl⟩
  have v_GREATEST : ∃ u, mg "GREATEST" = some u ∧ RelV (.int (10 ^ 30)) u := by
    rw [show ((10 : Int) ^ 30) = 1000000000000000000000000000000 from by decide +kernel]
    obtain ⟨t, h⟩ := He.int_ok X G (cd.fact 69 (f := .int "GREATEST" (1000000000000000000000000000000)) rfl)
    exact ⟨_, h, ⟨t, rfl⟩⟩
  have dn_standing_fault : Dn K mg "standing_fault" s_standing_fault ["web", "thing"] := by
    obtain ⟨fd, F⟩ := cd.def_ 8 (d := d_standing_fault) rfl
    have F2 : Fun K "standing_fault" "standing_fault" s_standing_fault _ fd := He5.fun_of F
    exact ⟨_, fd, F2, He.glo_ok X G (cd.fact 8 (f := .glo "standing_fault") rfl), F2.binds fun _ _ _ _ _ _ us hl => match us, hl with | [_, _], _ => rfl⟩
  have dn_need_standing : Dn K mg "need_standing" s_need_standing ["web", "standing"] := by
    obtain ⟨fd, F⟩ := cd.def_ 7 (d := d_need_standing) rfl
    have F2 : Fun K "need_standing" "need_standing" s_need_standing _ fd := He5.fun_of F
    exact ⟨_, fd, F2, He.glo_ok X G (cd.fact 7 (f := .glo "need_standing") rfl), F2.binds fun _ _ _ _ _ _ us hl => match us, hl with | [_, _], _ => rfl⟩
  have dn_beat_on : Dn K mg "beat_on" s_beat_on ["web", "standing"] := by
    obtain ⟨fd, F⟩ := cd.def_ 10 (d := d_beat_on) rfl
    have F2 : Fun K "beat_on" "beat_on" s_beat_on _ fd := He5.fun_of F
    exact ⟨_, fd, F2, He.glo_ok X G (cd.fact 10 (f := .glo "beat_on") rfl), F2.binds fun _ _ _ _ _ _ us hl => match us, hl with | [_, _], _ => rfl⟩
  have dn_beat_back : Dn K mg "beat_back" s_beat_back ["web", "standing"] := by
    obtain ⟨fd, F⟩ := cd.def_ 11 (d := d_beat_back) rfl
    have F2 : Fun K "beat_back" "beat_back" s_beat_back _ fd := He5.fun_of F
    exact ⟨_, fd, F2, He.glo_ok X G (cd.fact 11 (f := .glo "beat_back") rfl), F2.binds fun _ _ _ _ _ _ us hl => match us, hl with | [_, _], _ => rfl⟩
  have dn_comes_back : Dn K mg "comes_back" s_comes_back ["web", "standing"] := by
    obtain ⟨fd, F⟩ := cd.def_ 18 (d := d_comes_back) rfl
    have F2 : Fun K "comes_back" "comes_back" s_comes_back _ fd := He5.fun_of F
    exact ⟨_, fd, F2, He.glo_ok X G (cd.fact 18 (f := .glo "comes_back") rfl), F2.binds fun _ _ _ _ _ _ us hl => match us, hl with | [_, _], _ => rfl⟩
  have dn_never_paper : Dn K mg "never_paper" s_never_paper ["web", "standing"] := by
    obtain ⟨fd, F⟩ := cd.def_ 19 (d := d_never_paper) rfl
    have F2 : Fun K "never_paper" "never_paper" s_never_paper _ fd := He5.fun_of F
    exact ⟨_, fd, F2, He.glo_ok X G (cd.fact 19 (f := .glo "never_paper") rfl), F2.binds fun _ _ _ _ _ _ us hl => match us, hl with | [_, _], _ => rfl⟩
  have dn_run_of : Dn K mg "run_of" s_run_of ["web", "standing", "beats"] := by
    obtain ⟨fd, F⟩ := cd.def_ 12 (d := d_run_of) rfl
    have F2 : Fun K "run_of" "run_of" s_run_of _ fd := He5.fun_of F
    exact ⟨_, fd, F2, He.glo_ok X G (cd.fact 12 (f := .glo "run_of") rfl), F2.binds fun _ _ _ _ _ _ us hl => match us, hl with | [_, _, _], _ => rfl⟩
  have dn_standing_behind : Dn K mg "standing_behind" s_standing_behind ["web", "standing", "beats"] := by
    obtain ⟨fd, F⟩ := cd.def_ 21 (d := d_standing_behind) rfl
    have F2 : Fun K "standing_behind" "standing_behind" s_standing_behind _ fd := He5.fun_of F
    exact ⟨_, fd, F2, He.glo_ok X G (cd.fact 21 (f := .glo "standing_behind") rfl), F2.binds fun _ _ _ _ _ _ us hl => match us, hl with | [_, _, _], _ => rfl⟩
  have dn_shows_never : Dn K mg "shows_never" s_shows_never ["web", "standing", "thing"] := by
    obtain ⟨fd, F⟩ := cd.def_ 20 (d := d_shows_never) rfl
    have F2 : Fun K "shows_never" "shows_never" s_shows_never _ fd := He5.fun_of F
    exact ⟨_, fd, F2, He.glo_ok X G (cd.fact 20 (f := .glo "shows_never") rfl), F2.binds fun _ _ _ _ _ _ us hl => match us, hl with | [_, _, _], _ => rfl⟩
  have dn_steps_of : Dn K mg "steps_of" s_steps_of ["web", "posts", "weights", "standing"] := by
    obtain ⟨fd, F⟩ := cd.def_ 17 (d := d_steps_of) rfl
    have F2 : Fun K "steps_of" "steps_of" s_steps_of _ fd := He5.fun_of F
    exact ⟨_, fd, F2, He.glo_ok X G (cd.fact 17 (f := .glo "steps_of") rfl), F2.binds fun _ _ _ _ _ _ us hl => match us, hl with | [_, _, _, _], _ => rfl⟩
  have dn__law_pen : Dn K mg "_law_pen" s__law_pen ["script"] := by
    obtain ⟨fd, F⟩ := cd.def_ 22 (d := d__law_pen) rfl
    have F2 : Fun K "_law_pen" "_law_pen" s__law_pen _ fd := He5.fun_of F
    exact ⟨_, fd, F2, He.glo_ok X G (cd.fact 22 (f := .glo "_law_pen") rfl), F2.binds fun _ _ _ _ _ _ us hl => match us, hl with | [_], _ => rfl⟩
  have dn__law_whole : Dn K mg "_law_whole" s__law_whole ["thing", "low", "high"] := by
    obtain ⟨fd, F⟩ := cd.def_ 32 (d := d__law_whole) rfl
    have F2 : Fun K "_law_whole" "_law_whole" s__law_whole _ fd := He5.fun_of F
    exact ⟨_, fd, F2, He.glo_ok X G (cd.fact 32 (f := .glo "_law_whole") rfl), F2.binds fun _ _ _ _ _ _ us hl => match us, hl with | [_, _, _], _ => rfl⟩
  have dn__law_told : Dn K mg "_law_told" s__law_told ["asked"] := by
    obtain ⟨fd, F⟩ := cd.def_ 34 (d := d__law_told) rfl
    have F2 : Fun K "_law_told" "_law_told" s__law_told _ fd := He5.fun_of F
    exact ⟨_, fd, F2, He.glo_ok X G (cd.fact 34 (f := .glo "_law_told") rfl), F2.binds fun _ _ _ _ _ _ us hl => match us, hl with | [_], _ => rfl⟩
  have dn__law_due : Dn K mg "_law_due" s__law_due ["size", "thing"] := by
    obtain ⟨fd, F⟩ := cd.def_ 33 (d := d__law_due) rfl
    have F2 : Fun K "_law_due" "_law_due" s__law_due _ fd := He5.fun_of F
    exact ⟨_, fd, F2, He.glo_ok X G (cd.fact 33 (f := .glo "_law_due") rfl), F2.binds fun _ _ _ _ _ _ us hl => match us, hl with | [_, _], _ => rfl⟩
  have dn__law_anything : Dn K mg "_law_anything" s__law_anything ["pen", "deep"] := by
    obtain ⟨fd, F⟩ := cd.def_ 30 (d := d__law_anything) rfl
    have F2 : Fun K "_law_anything" "_law_anything" s__law_anything _ fd := He5.fun_of F
    exact ⟨_, fd, F2, He.glo_ok X G (cd.fact 30 (f := .glo "_law_anything") rfl), F2.binds fun _ _ _ _ _ _ us hl => match us, hl with | [_, _], _ => rfl⟩
  have dn_less : Dn K mg "less" s_less ["numbers", "others"] := by
    obtain ⟨fd, F⟩ := cd.def_ 16 (d := d_less) rfl
    have F2 : Fun K "less" "less" s_less _ fd := He5.fun_of F
    exact ⟨_, fd, F2, He.glo_ok X G (cd.fact 16 (f := .glo "less") rfl), F2.binds fun _ _ _ _ _ _ us hl => match us, hl with | [_, _], _ => rfl⟩
  have dn_gains : Dn K mg "gains" s_gains ["web", "numbers"] := by
    obtain ⟨fd, F⟩ := cd.def_ 15 (d := d_gains) rfl
    have F2 : Fun K "gains" "gains" s_gains _ fd := He5.fun_of F
    exact ⟨_, fd, F2, He.glo_ok X G (cd.fact 15 (f := .glo "gains") rfl), F2.binds fun _ _ _ _ _ _ us hl => match us, hl with | [_, _], _ => rfl⟩
  have dn_following : Dn K mg "following" s_following ["web", "standing"] := by
    obtain ⟨fd, F⟩ := cd.def_ 14 (d := d_following) rfl
    have F2 : Fun K "following" "following" s_following _ fd := He5.fun_of F
    exact ⟨_, fd, F2, He.glo_ok X G (cd.fact 14 (f := .glo "following") rfl), F2.binds fun _ _ _ _ _ _ us hl => match us, hl with | [_, _], _ => rfl⟩
  have dn_run_on : Dn K mg "run_on" s_run_on ["web", "standing", "beats"] := by
    obtain ⟨fd, F⟩ := cd.def_ 13 (d := d_run_on) rfl
    have F2 : Fun K "run_on" "run_on" s_run_on _ fd := He5.fun_of F
    exact ⟨_, fd, F2, He.glo_ok X G (cd.fact 13 (f := .glo "run_on") rfl), F2.binds fun _ _ _ _ _ _ us hl => match us, hl with | [_, _, _], _ => rfl⟩
  have dn__law_bent : Dn K mg "_law_bent" s__law_bent ["pen", "thing"] := by
    obtain ⟨fd, F⟩ := cd.def_ 31 (d := d__law_bent) rfl
    have F2 : Fun K "_law_bent" "_law_bent" s__law_bent _ fd := He5.fun_of F
    exact ⟨_, fd, F2, He.glo_ok X G (cd.fact 31 (f := .glo "_law_bent") rfl), F2.binds fun _ _ _ _ _ _ us hl => match us, hl with | [_, _], _ => rfl⟩
  have o__law_draw := ok__law_draw (P := P) (w := w) (K := K) (mg := mg) (base := base) (D := dn__law_draw) (B := bz.toBt)
  have c__law_draw := Fv.b_draw (F := (⟨P, w, K, mg, base, He.ga K "Web", fun x => if x = "NoWeb" then some (.ref (He.ga K "NoWeb")) else if x = "NoStanding" then some (.ref (He.ga K "NoStanding")) else if x = "NoPart" then some (.ref (He.ga K "NoPart")) else if x = "NoBeats" then some (.ref (He.ga K "NoBeats")) else if x = "NoPost" then some (.ref (He.ga K "NoPost")) else none⟩ : Fv.Fx)) o__law_draw
  have o__law_pick := ok__law_pick (P := P) (w := w) (K := K) (mg := mg) (base := base) (D := dn__law_pick) (B := bz.toBt) (c__law_draw := o__law_draw)
  have c__law_pick := Fv.b_pick (F := (⟨P, w, K, mg, base, He.ga K "Web", fun x => if x = "NoWeb" then some (.ref (He.ga K "NoWeb")) else if x = "NoStanding" then some (.ref (He.ga K "NoStanding")) else if x = "NoPart" then some (.ref (He.ga K "NoPart")) else if x = "NoBeats" then some (.ref (He.ga K "NoBeats")) else if x = "NoPost" then some (.ref (He.ga K "NoPost")) else none⟩ : Fv.Fx)) o__law_pick
  have o__law_great := ok__law_great (P := P) (w := w) (K := K) (mg := mg) (base := base) (D := dn__law_great) (B := bz.toBt) (c__law_draw := o__law_draw)
  have c__law_great := Fv.b_great (F := (⟨P, w, K, mg, base, He.ga K "Web", fun x => if x = "NoWeb" then some (.ref (He.ga K "NoWeb")) else if x = "NoStanding" then some (.ref (He.ga K "NoStanding")) else if x = "NoPart" then some (.ref (He.ga K "NoPart")) else if x = "NoBeats" then some (.ref (He.ga K "NoBeats")) else if x = "NoPost" then some (.ref (He.ga K "NoPost")) else none⟩ : Fv.Fx)) o__law_great
  have o__law_shuffled := ok__law_shuffled (P := P) (w := w) (K := K) (mg := mg) (base := base) (D := dn__law_shuffled) (B := bz.toBt) (c__law_draw := o__law_draw)
  have c__law_shuffled := Fv.b_shuf (F := (⟨P, w, K, mg, base, He.ga K "Web", fun x => if x = "NoWeb" then some (.ref (He.ga K "NoWeb")) else if x = "NoStanding" then some (.ref (He.ga K "NoStanding")) else if x = "NoPart" then some (.ref (He.ga K "NoPart")) else if x = "NoBeats" then some (.ref (He.ga K "NoBeats")) else if x = "NoPost" then some (.ref (He.ga K "NoPost")) else none⟩ : Fv.Fx)) o__law_shuffled
  have o__law_any_web := ok__law_any_web (P := P) (w := w) (K := K) (mg := mg) (base := base) (D := dn__law_any_web) (B := bz.toBt) (c__law_draw := o__law_draw) (c__law_pick := o__law_pick) (c__law_shuffled := o__law_shuffled)
  have c__law_any_web := Fv.b_web (F := (⟨P, w, K, mg, base, He.ga K "Web", fun x => if x = "NoWeb" then some (.ref (He.ga K "NoWeb")) else if x = "NoStanding" then some (.ref (He.ga K "NoStanding")) else if x = "NoPart" then some (.ref (He.ga K "NoPart")) else if x = "NoBeats" then some (.ref (He.ga K "NoBeats")) else if x = "NoPost" then some (.ref (He.ga K "NoPost")) else none⟩ : Fv.Fx)) o__law_any_web
  have o__law_number := ok__law_number (P := P) (w := w) (K := K) (mg := mg) (base := base) (D := dn__law_number) (B := bz.toBt) (c__law_draw := o__law_draw) (c__law_pick := o__law_pick) (c__law_great := o__law_great)
  have c__law_number := Fv.b_num (F := (⟨P, w, K, mg, base, He.ga K "Web", fun x => if x = "NoWeb" then some (.ref (He.ga K "NoWeb")) else if x = "NoStanding" then some (.ref (He.ga K "NoStanding")) else if x = "NoPart" then some (.ref (He.ga K "NoPart")) else if x = "NoBeats" then some (.ref (He.ga K "NoBeats")) else if x = "NoPost" then some (.ref (He.ga K "NoPost")) else none⟩ : Fv.Fx)) o__law_number
  have o__law_standing := ok__law_standing (P := P) (w := w) (K := K) (mg := mg) (base := base) (D := dn__law_standing) (B := bz.toBt) (c__law_number := o__law_number)
  have c__law_standing := Fv.b_stand (F := (⟨P, w, K, mg, base, He.ga K "Web", fun x => if x = "NoWeb" then some (.ref (He.ga K "NoWeb")) else if x = "NoStanding" then some (.ref (He.ga K "NoStanding")) else if x = "NoPart" then some (.ref (He.ga K "NoPart")) else if x = "NoBeats" then some (.ref (He.ga K "NoBeats")) else if x = "NoPost" then some (.ref (He.ga K "NoPost")) else none⟩ : Fv.Fx)) o__law_standing
  have e_NoWeb := Fv.ok_NoWeb (F := (⟨P, w, K, mg, base, He.ga K "Web", fun x => if x = "NoWeb" then some (.ref (He.ga K "NoWeb")) else if x = "NoStanding" then some (.ref (He.ga K "NoStanding")) else if x = "NoPart" then some (.ref (He.ga K "NoPart")) else if x = "NoBeats" then some (.ref (He.ga K "NoBeats")) else if x = "NoPost" then some (.ref (He.ga K "NoPost")) else none⟩ : Fv.Fx)) (D := de_NoWeb)
  have e_NoStanding := Fv.ok_NoStanding (F := (⟨P, w, K, mg, base, He.ga K "Web", fun x => if x = "NoWeb" then some (.ref (He.ga K "NoWeb")) else if x = "NoStanding" then some (.ref (He.ga K "NoStanding")) else if x = "NoPart" then some (.ref (He.ga K "NoPart")) else if x = "NoBeats" then some (.ref (He.ga K "NoBeats")) else if x = "NoPost" then some (.ref (He.ga K "NoPost")) else none⟩ : Fv.Fx)) (D := de_NoStanding)
  have c_is_whole := Fv.ok_is_whole (F := (⟨P, w, K, mg, base, He.ga K "Web", fun x => if x = "NoWeb" then some (.ref (He.ga K "NoWeb")) else if x = "NoStanding" then some (.ref (He.ga K "NoStanding")) else if x = "NoPart" then some (.ref (He.ga K "NoPart")) else if x = "NoBeats" then some (.ref (He.ga K "NoBeats")) else if x = "NoPost" then some (.ref (He.ga K "NoPost")) else none⟩ : Fv.Fx)) (D := dn_is_whole) (bz := bz)
  have c_is_between := Fv.ok_is_between (F := (⟨P, w, K, mg, base, He.ga K "Web", fun x => if x = "NoWeb" then some (.ref (He.ga K "NoWeb")) else if x = "NoStanding" then some (.ref (He.ga K "NoStanding")) else if x = "NoPart" then some (.ref (He.ga K "NoPart")) else if x = "NoBeats" then some (.ref (He.ga K "NoBeats")) else if x = "NoPost" then some (.ref (He.ga K "NoPost")) else none⟩ : Fv.Fx)) (D := dn_is_between) (bz := bz) (c_is_whole := c_is_whole)
  have c_need_size := Fv.ok_need_size (F := (⟨P, w, K, mg, base, He.ga K "Web", fun x => if x = "NoWeb" then some (.ref (He.ga K "NoWeb")) else if x = "NoStanding" then some (.ref (He.ga K "NoStanding")) else if x = "NoPart" then some (.ref (He.ga K "NoPart")) else if x = "NoBeats" then some (.ref (He.ga K "NoBeats")) else if x = "NoPost" then some (.ref (He.ga K "NoPost")) else none⟩ : Fv.Fx)) (D := dn_need_size) (bz := bz) (c_is_between := c_is_between) (e_NoWeb := e_NoWeb) (v_MOST_POSTS := v_MOST_POSTS)
  have c_is_whole_row := Fv.ok_is_whole_row (F := (⟨P, w, K, mg, base, He.ga K "Web", fun x => if x = "NoWeb" then some (.ref (He.ga K "NoWeb")) else if x = "NoStanding" then some (.ref (He.ga K "NoStanding")) else if x = "NoPart" then some (.ref (He.ga K "NoPart")) else if x = "NoBeats" then some (.ref (He.ga K "NoBeats")) else if x = "NoPost" then some (.ref (He.ga K "NoPost")) else none⟩ : Fv.Fx)) (D := dn_is_whole_row) (bz := bz) (c_is_whole := c_is_whole)
  have c_is_tie := Fv.ok_is_tie (F := (⟨P, w, K, mg, base, He.ga K "Web", fun x => if x = "NoWeb" then some (.ref (He.ga K "NoWeb")) else if x = "NoStanding" then some (.ref (He.ga K "NoStanding")) else if x = "NoPart" then some (.ref (He.ga K "NoPart")) else if x = "NoBeats" then some (.ref (He.ga K "NoBeats")) else if x = "NoPost" then some (.ref (He.ga K "NoPost")) else none⟩ : Fv.Fx)) (D := dn_is_tie) (bz := bz) (c_is_whole_row := c_is_whole_row) (v_MOST_CORDS := v_MOST_CORDS)
  have c_are_ties := Fv.ok_are_ties (F := (⟨P, w, K, mg, base, He.ga K "Web", fun x => if x = "NoWeb" then some (.ref (He.ga K "NoWeb")) else if x = "NoStanding" then some (.ref (He.ga K "NoStanding")) else if x = "NoPart" then some (.ref (He.ga K "NoPart")) else if x = "NoBeats" then some (.ref (He.ga K "NoBeats")) else if x = "NoPost" then some (.ref (He.ga K "NoPost")) else none⟩ : Fv.Fx)) (D := dn_are_ties) (bz := bz) (c_is_tie := c_is_tie)
  have c_need_ties := Fv.ok_need_ties (F := (⟨P, w, K, mg, base, He.ga K "Web", fun x => if x = "NoWeb" then some (.ref (He.ga K "NoWeb")) else if x = "NoStanding" then some (.ref (He.ga K "NoStanding")) else if x = "NoPart" then some (.ref (He.ga K "NoPart")) else if x = "NoBeats" then some (.ref (He.ga K "NoBeats")) else if x = "NoPost" then some (.ref (He.ga K "NoPost")) else none⟩ : Fv.Fx)) (D := dn_need_ties) (bz := bz) (c_are_ties := c_are_ties) (e_NoWeb := e_NoWeb)
  have c_Web := Fv.ok_Web (F := (⟨P, w, K, mg, base, He.ga K "Web", fun x => if x = "NoWeb" then some (.ref (He.ga K "NoWeb")) else if x = "NoStanding" then some (.ref (He.ga K "NoStanding")) else if x = "NoPart" then some (.ref (He.ga K "NoPart")) else if x = "NoBeats" then some (.ref (He.ga K "NoBeats")) else if x = "NoPost" then some (.ref (He.ga K "NoPost")) else none⟩ : Fv.Fx)) (D := dm___init__) (W := W) (hC := He.glo_ok X G (cd.fact 44 (f := .glo "Web") rfl)) (bz := bz) (c_need_size := c_need_size) (c_need_ties := c_need_ties)
  have c_len := Fv.ok_Web_len (F := (⟨P, w, K, mg, base, He.ga K "Web", fun x => if x = "NoWeb" then some (.ref (He.ga K "NoWeb")) else if x = "NoStanding" then some (.ref (He.ga K "NoStanding")) else if x = "NoPart" then some (.ref (He.ga K "NoPart")) else if x = "NoBeats" then some (.ref (He.ga K "NoBeats")) else if x = "NoPost" then some (.ref (He.ga K "NoPost")) else none⟩ : Fv.Fx)) (D := dm___len__) (W := W) (bz := bz)
  have m_ties := Fv.ok_Web_ties (F := (⟨P, w, K, mg, base, He.ga K "Web", fun x => if x = "NoWeb" then some (.ref (He.ga K "NoWeb")) else if x = "NoStanding" then some (.ref (He.ga K "NoStanding")) else if x = "NoPart" then some (.ref (He.ga K "NoPart")) else if x = "NoBeats" then some (.ref (He.ga K "NoBeats")) else if x = "NoPost" then some (.ref (He.ga K "NoPost")) else none⟩ : Fv.Fx)) (D := dm_ties) (W := W) (bz := bz)
  have c_are_bearable := Fv.ok_are_bearable (F := (⟨P, w, K, mg, base, He.ga K "Web", fun x => if x = "NoWeb" then some (.ref (He.ga K "NoWeb")) else if x = "NoStanding" then some (.ref (He.ga K "NoStanding")) else if x = "NoPart" then some (.ref (He.ga K "NoPart")) else if x = "NoBeats" then some (.ref (He.ga K "NoBeats")) else if x = "NoPost" then some (.ref (He.ga K "NoPost")) else none⟩ : Fv.Fx)) (D := dn_are_bearable) (bz := bz) (c_is_between := c_is_between) (v_GREATEST := v_GREATEST)
  have c_standing_fault := Fv.ok_standing_fault (F := (⟨P, w, K, mg, base, He.ga K "Web", fun x => if x = "NoWeb" then some (.ref (He.ga K "NoWeb")) else if x = "NoStanding" then some (.ref (He.ga K "NoStanding")) else if x = "NoPart" then some (.ref (He.ga K "NoPart")) else if x = "NoBeats" then some (.ref (He.ga K "NoBeats")) else if x = "NoPost" then some (.ref (He.ga K "NoPost")) else none⟩ : Fv.Fx)) (D := dn_standing_fault) (bz := bz) (c_len := c_len) (c_are_bearable := c_are_bearable)
  have c_need_standing := Fv.ok_need_standing (F := (⟨P, w, K, mg, base, He.ga K "Web", fun x => if x = "NoWeb" then some (.ref (He.ga K "NoWeb")) else if x = "NoStanding" then some (.ref (He.ga K "NoStanding")) else if x = "NoPart" then some (.ref (He.ga K "NoPart")) else if x = "NoBeats" then some (.ref (He.ga K "NoBeats")) else if x = "NoPost" then some (.ref (He.ga K "NoPost")) else none⟩ : Fv.Fx)) (D := dn_need_standing) (bz := bz) (c_standing_fault := c_standing_fault) (e_NoStanding := e_NoStanding)
  have c_beat_onR := Fv.ok_beat_onR (F := (⟨P, w, K, mg, base, He.ga K "Web", fun x => if x = "NoWeb" then some (.ref (He.ga K "NoWeb")) else if x = "NoStanding" then some (.ref (He.ga K "NoStanding")) else if x = "NoPart" then some (.ref (He.ga K "NoPart")) else if x = "NoBeats" then some (.ref (He.ga K "NoBeats")) else if x = "NoPost" then some (.ref (He.ga K "NoPost")) else none⟩ : Fv.Fx)) (D := dn_beat_on) (bz := bz) (c_need_standing := c_need_standing)
  have c_beat_backR := Fv.ok_beat_backR (F := (⟨P, w, K, mg, base, He.ga K "Web", fun x => if x = "NoWeb" then some (.ref (He.ga K "NoWeb")) else if x = "NoStanding" then some (.ref (He.ga K "NoStanding")) else if x = "NoPart" then some (.ref (He.ga K "NoPart")) else if x = "NoBeats" then some (.ref (He.ga K "NoBeats")) else if x = "NoPost" then some (.ref (He.ga K "NoPost")) else none⟩ : Fv.Fx)) (D := dn_beat_back) (bz := bz) (c_need_standing := c_need_standing)
  have c_comes_backR := Fv.ok_comes_backR (F := (⟨P, w, K, mg, base, He.ga K "Web", fun x => if x = "NoWeb" then some (.ref (He.ga K "NoWeb")) else if x = "NoStanding" then some (.ref (He.ga K "NoStanding")) else if x = "NoPart" then some (.ref (He.ga K "NoPart")) else if x = "NoBeats" then some (.ref (He.ga K "NoBeats")) else if x = "NoPost" then some (.ref (He.ga K "NoPost")) else none⟩ : Fv.Fx)) (D := dn_comes_back) (bz := bz) (c_need_standing := c_need_standing)
  have c_never_paperR := Fv.ok_never_paperR (F := (⟨P, w, K, mg, base, He.ga K "Web", fun x => if x = "NoWeb" then some (.ref (He.ga K "NoWeb")) else if x = "NoStanding" then some (.ref (He.ga K "NoStanding")) else if x = "NoPart" then some (.ref (He.ga K "NoPart")) else if x = "NoBeats" then some (.ref (He.ga K "NoBeats")) else if x = "NoPost" then some (.ref (He.ga K "NoPost")) else none⟩ : Fv.Fx)) (D := dn_never_paper) (bz := bz) (c_need_standing := c_need_standing)
  have c_run_ofR := Fv.ok_run_ofR (F := (⟨P, w, K, mg, base, He.ga K "Web", fun x => if x = "NoWeb" then some (.ref (He.ga K "NoWeb")) else if x = "NoStanding" then some (.ref (He.ga K "NoStanding")) else if x = "NoPart" then some (.ref (He.ga K "NoPart")) else if x = "NoBeats" then some (.ref (He.ga K "NoBeats")) else if x = "NoPost" then some (.ref (He.ga K "NoPost")) else none⟩ : Fv.Fx)) (D := dn_run_of) (bz := bz) (c_need_standing := c_need_standing)
  have c_standing_behindR := Fv.ok_standing_behindR (F := (⟨P, w, K, mg, base, He.ga K "Web", fun x => if x = "NoWeb" then some (.ref (He.ga K "NoWeb")) else if x = "NoStanding" then some (.ref (He.ga K "NoStanding")) else if x = "NoPart" then some (.ref (He.ga K "NoPart")) else if x = "NoBeats" then some (.ref (He.ga K "NoBeats")) else if x = "NoPost" then some (.ref (He.ga K "NoPost")) else none⟩ : Fv.Fx)) (D := dn_standing_behind) (bz := bz) (c_need_standing := c_need_standing)
  have c_shows_neverR := Fv.ok_shows_neverR (F := (⟨P, w, K, mg, base, He.ga K "Web", fun x => if x = "NoWeb" then some (.ref (He.ga K "NoWeb")) else if x = "NoStanding" then some (.ref (He.ga K "NoStanding")) else if x = "NoPart" then some (.ref (He.ga K "NoPart")) else if x = "NoBeats" then some (.ref (He.ga K "NoBeats")) else if x = "NoPost" then some (.ref (He.ga K "NoPost")) else none⟩ : Fv.Fx)) (D := dn_shows_never) (bz := bz) (c_need_standing := c_need_standing)
  have c_steps_ofR := Fv.ok_steps_ofR (F := (⟨P, w, K, mg, base, He.ga K "Web", fun x => if x = "NoWeb" then some (.ref (He.ga K "NoWeb")) else if x = "NoStanding" then some (.ref (He.ga K "NoStanding")) else if x = "NoPart" then some (.ref (He.ga K "NoPart")) else if x = "NoBeats" then some (.ref (He.ga K "NoBeats")) else if x = "NoPost" then some (.ref (He.ga K "NoPost")) else none⟩ : Fv.Fx)) (D := dn_steps_of) (bz := bz) (c_need_standing := c_need_standing)
  have c__law_pen := Fv.ok__law_pen (P := P) (w := w) (K := K) (mg := mg) (base := base) (D := dn__law_pen) (B := bz.toBt)
  have c__law_whole := Fv.ok__law_whole (F := (⟨P, w, K, mg, base, He.ga K "Web", fun x => if x = "NoWeb" then some (.ref (He.ga K "NoWeb")) else if x = "NoStanding" then some (.ref (He.ga K "NoStanding")) else if x = "NoPart" then some (.ref (He.ga K "NoPart")) else if x = "NoBeats" then some (.ref (He.ga K "NoBeats")) else if x = "NoPost" then some (.ref (He.ga K "NoPost")) else none⟩ : Fv.Fx)) (D := dn__law_whole) (bz := bz)
  have c__law_told := Fv.ok__law_told (F := (⟨P, w, K, mg, base, He.ga K "Web", fun x => if x = "NoWeb" then some (.ref (He.ga K "NoWeb")) else if x = "NoStanding" then some (.ref (He.ga K "NoStanding")) else if x = "NoPart" then some (.ref (He.ga K "NoPart")) else if x = "NoBeats" then some (.ref (He.ga K "NoBeats")) else if x = "NoPost" then some (.ref (He.ga K "NoPost")) else none⟩ : Fv.Fx)) (D := dn__law_told) (bz := bz) (xr := xr)
  have c__law_due := Fv.ok__law_due (F := (⟨P, w, K, mg, base, He.ga K "Web", fun x => if x = "NoWeb" then some (.ref (He.ga K "NoWeb")) else if x = "NoStanding" then some (.ref (He.ga K "NoStanding")) else if x = "NoPart" then some (.ref (He.ga K "NoPart")) else if x = "NoBeats" then some (.ref (He.ga K "NoBeats")) else if x = "NoPost" then some (.ref (He.ga K "NoPost")) else none⟩ : Fv.Fx)) (D := dn__law_due) (bz := bz) (c__law_whole := c__law_whole)
  have c__law_anything := Fv.ok__law_anything (F := (⟨P, w, K, mg, base, He.ga K "Web", fun x => if x = "NoWeb" then some (.ref (He.ga K "NoWeb")) else if x = "NoStanding" then some (.ref (He.ga K "NoStanding")) else if x = "NoPart" then some (.ref (He.ga K "NoPart")) else if x = "NoBeats" then some (.ref (He.ga K "NoBeats")) else if x = "NoPost" then some (.ref (He.ga K "NoPost")) else none⟩ : Fv.Fx)) (D := dn__law_anything) (bz := bz) (c__law_draw := c__law_draw)
  have c_less := Fv.ok_less (F := (⟨P, w, K, mg, base, He.ga K "Web", fun x => if x = "NoWeb" then some (.ref (He.ga K "NoWeb")) else if x = "NoStanding" then some (.ref (He.ga K "NoStanding")) else if x = "NoPart" then some (.ref (He.ga K "NoPart")) else if x = "NoBeats" then some (.ref (He.ga K "NoBeats")) else if x = "NoPost" then some (.ref (He.ga K "NoPost")) else none⟩ : Fv.Fx)) (D := dn_less) (bz := bz)
  have c_gains := Fv.ok_gains (F := (⟨P, w, K, mg, base, He.ga K "Web", fun x => if x = "NoWeb" then some (.ref (He.ga K "NoWeb")) else if x = "NoStanding" then some (.ref (He.ga K "NoStanding")) else if x = "NoPart" then some (.ref (He.ga K "NoPart")) else if x = "NoBeats" then some (.ref (He.ga K "NoBeats")) else if x = "NoPost" then some (.ref (He.ga K "NoPost")) else none⟩ : Fv.Fx)) (D := dn_gains) (bz := bz) (m_ties := m_ties) (c_len := c_len)
  have c_following := Fv.ok_following (F := (⟨P, w, K, mg, base, He.ga K "Web", fun x => if x = "NoWeb" then some (.ref (He.ga K "NoWeb")) else if x = "NoStanding" then some (.ref (He.ga K "NoStanding")) else if x = "NoPart" then some (.ref (He.ga K "NoPart")) else if x = "NoBeats" then some (.ref (He.ga K "NoBeats")) else if x = "NoPost" then some (.ref (He.ga K "NoPost")) else none⟩ : Fv.Fx)) (D := dn_following) (bz := bz) (c_gains := c_gains) (c_less := c_less)
  have c_run_on := Fv.ok_run_on (F := (⟨P, w, K, mg, base, He.ga K "Web", fun x => if x = "NoWeb" then some (.ref (He.ga K "NoWeb")) else if x = "NoStanding" then some (.ref (He.ga K "NoStanding")) else if x = "NoPart" then some (.ref (He.ga K "NoPart")) else if x = "NoBeats" then some (.ref (He.ga K "NoBeats")) else if x = "NoPost" then some (.ref (He.ga K "NoPost")) else none⟩ : Fv.Fx)) (D := dn_run_on) (bz := bz) (c_following := c_following)
  have c_run_of := Fv.ok_run_of (F := (⟨P, w, K, mg, base, He.ga K "Web", fun x => if x = "NoWeb" then some (.ref (He.ga K "NoWeb")) else if x = "NoStanding" then some (.ref (He.ga K "NoStanding")) else if x = "NoPart" then some (.ref (He.ga K "NoPart")) else if x = "NoBeats" then some (.ref (He.ga K "NoBeats")) else if x = "NoPost" then some (.ref (He.ga K "NoPost")) else none⟩ : Fv.Fx)) (D := dn_run_of) (bz := bz) (c_need_standing := c_need_standing) (c_run_on := c_run_on)
  have c__law_anythingN := Fv.ok__law_anythingN (F := (⟨P, w, K, mg, base, He.ga K "Web", fun x => if x = "NoWeb" then some (.ref (He.ga K "NoWeb")) else if x = "NoStanding" then some (.ref (He.ga K "NoStanding")) else if x = "NoPart" then some (.ref (He.ga K "NoPart")) else if x = "NoBeats" then some (.ref (He.ga K "NoBeats")) else if x = "NoPost" then some (.ref (He.ga K "NoPost")) else none⟩ : Fv.Fx)) (D := dn__law_anything) (bz := bz) (c__law_draw := c__law_draw)
  have c__law_anythingN2 := Fv.ok__law_anythingN2 (F := (⟨P, w, K, mg, base, He.ga K "Web", fun x => if x = "NoWeb" then some (.ref (He.ga K "NoWeb")) else if x = "NoStanding" then some (.ref (He.ga K "NoStanding")) else if x = "NoPart" then some (.ref (He.ga K "NoPart")) else if x = "NoBeats" then some (.ref (He.ga K "NoBeats")) else if x = "NoPost" then some (.ref (He.ga K "NoPost")) else none⟩ : Fv.Fx)) (D := dn__law_anything) (bz := bz) (c__law_draw := c__law_draw) (c__law_anythingN := c__law_anythingN)
  have c__law_bentG := Fv.ok__law_bentG (F := (⟨P, w, K, mg, base, He.ga K "Web", fun x => if x = "NoWeb" then some (.ref (He.ga K "NoWeb")) else if x = "NoStanding" then some (.ref (He.ga K "NoStanding")) else if x = "NoPart" then some (.ref (He.ga K "NoPart")) else if x = "NoBeats" then some (.ref (He.ga K "NoBeats")) else if x = "NoPost" then some (.ref (He.ga K "NoPost")) else none⟩ : Fv.Fx)) (D := dn__law_bent) (bz := bz) (c__law_draw := c__law_draw) (c__law_anythingN := c__law_anythingN)
  exact Fv.ok_law (F := (⟨P, w, K, mg, base, He.ga K "Web", fun x => if x = "NoWeb" then some (.ref (He.ga K "NoWeb")) else if x = "NoStanding" then some (.ref (He.ga K "NoStanding")) else if x = "NoPart" then some (.ref (He.ga K "NoPart")) else if x = "NoBeats" then some (.ref (He.ga K "NoBeats")) else if x = "NoPost" then some (.ref (He.ga K "NoPost")) else none⟩ : Fv.Fx)) (He5.fun_of Fl) (bz := bz) (c__law_pen := c__law_pen) (c__law_draw := c__law_draw) (c__law_any_web := c__law_any_web) (c__law_standing := c__law_standing) (c__law_bentG := c__law_bentG) (c__law_anythingN2 := c__law_anythingN2) (c__law_due := c__law_due) (c_Web := c_Web) (c__law_told := c__law_told) (c_need_standing := c_need_standing) (c_beat_onR := c_beat_onR) (c_beat_backR := c_beat_backR) (c_comes_backR := c_comes_backR) (c_never_paperR := c_never_paperR) (c_run_ofR := c_run_ofR) (c_standing_behindR := c_standing_behindR) (c_shows_neverR := c_shows_neverR) (c_steps_ofR := c_steps_ofR) (hfa := rfl) (TB := hTB)
end Hd
open PySem PySem.W PySem.Calls PyProof.Rows
theorem PySem.Challenge.cw_giveback_k04_standings_or_not_holds : PySem.Challenge.rw_giveback_k04_standings_or_not.Holds := by
  w_on; o_law
  refine HandSHeadRun.head_imp (r := OpenLaw.row PySem.Challenge.rw_giveback_k04_standings_or_not) (q := view (OpenLaw.row PySem.Challenge.rw_giveback_k04_standings_or_not).prog [0, 122]) (H := Hd.hk) (ob := Hd.ob) (M := 6000) (loose := Hd.loose) (d := HandSHeadRun.topDef (OpenLaw.row PySem.Challenge.rw_giveback_k04_standings_or_not).prog 122) (kwd := []) Hd.ob_eq
    Hd.run (by kernel_rfl) (by kernel_rfl) (by kernel_rfl) (by rfl) (by first | assumption | decide +kernel) (by decide +kernel) ⟨rfl, rfl, rfl, rfl, rfl, by decide +kernel⟩ ?hw ?hc
  case hw => w_witness2
  case hc =>
    refine Fv.end_walkS (l := PySem.Challenge.rw_giveback_k04_standings_or_not) (n := 63) (k := 13) (x := "script") rfl (by decide) (by kernel_rfl) ⟨rfl, by decide, by decide⟩ ?F
    intro w mg fa h Y G hmg0
    obtain ⟨⟨K, KX, c⟩, hsm⟩ := Y
    have hmg : mg ("law" : PySem.Str) = some (.ref fa) := by
      have e : (HandSHeadRun.topDef (OpenLaw.row PySem.Challenge.rw_giveback_k04_standings_or_not).prog 122).name = ("law" : PySem.Str) := by kernel_rfl
      rw [← e]
      exact hmg0
    obtain ⟨fd, hb, hF⟩ := Hd.facts (P := (PySem.Challenge.rw_giveback_k04_standings_or_not).prog) (w := w) KX G hmg c
    have hm : (("law", none) : He.Defn) ∈ Hd.tf := List.mem_singleton.mpr rfl
    have k1 : K.lookup sysModules = none := Option.isNone_iff_eq_none.mp (Bool.and_eq_true_iff.mp (Bool.and_eq_true_iff.mp (Bool.and_eq_true_iff.mp (Bool.and_eq_true_iff.mp c.more).1).1).1).2
    have c1 : (He.cT K ("law", none)).1 ≠ sysModules := of_decide_eq_true (Bool.and_eq_true_iff.mp (Bool.and_eq_true_iff.mp (Bool.and_eq_true_iff.mp c.more).1).1).2
    have c2 : (He.cT K ("law", none)).2 ≠ sysModules := of_decide_eq_true (Bool.and_eq_true_iff.mp (Bool.and_eq_true_iff.mp c.more).1).2
    have cb : He.ga K "__builtins__" ≠ sysModules := of_decide_eq_true (Bool.and_eq_true_iff.mp c.more).2
    have hbm : mg "__builtins__" = some (.ref (He.ga K "__builtins__")) := He.glo_ok KX G (c.t.d.fact 80 (f := .glo "__builtins__") rfl)
    exact ⟨K, fd, [He.cT K ("law", none)], Fv.spLawS K [He.cT K ("law", none)], KX, (fun p hp => by rw [List.mem_singleton.mp hp]; exact c.empty _ hm), (fun p hp => by rw [List.mem_singleton.mp hp]; exact c.out _ hm), hsm, k1, (fun p hp => by rw [List.mem_singleton.mp hp]; exact ⟨c1, c2⟩), (fun _ bm e => by rw [hbm] at e; cases e; exact cb), (fun p hp => by rw [List.mem_singleton.mp hp]; exact PySem.W.codeHd_of_K KX (c.hd _ hm)), hb, fun H a ns ob o1 hl hS => ⟨a, ob, o1, ns, rfl, hS, hl, fun _ => rfl⟩, fun base h1 h2 h3 => hF base h1 h2 (h3 _ (List.mem_singleton.mpr rfl))⟩
