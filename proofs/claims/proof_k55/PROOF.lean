import PyProof.Rows.All
import Wide.All
import OpenK.AllK
import Wide.FinOn
import PySem.Challenge.RW_giveback_k55_cords_behind_a_beat
import HandS.ForMost
import HandS.Star
import HandS.Conv
import HandS.Flow
import HandS.Style
import HandS.Zip
import HandS.TupAny
import HandS.IsInst
import HandS.Evl
import KE.DatumMore
import HandS.Lambda
import HandS.TupSets
import KE.GoesMore
import KE.GoesZip
import KE.DatumOrd
import HandS.Deep
import KE.KRevSl
import KE.SortData
import PyProof.Rows.ReprR
import HandS.Dict
import HandS.DictComp
import HandS.WordsExc
import HandS.ExcInit
import PyProof.Rows.FactsExc_KeyError
import PyProof.ExcBaseAll.LookupError
import PyProof.ExcBaseAll.ArithmeticError
import PyProof.ExcBaseAll.RuntimeError
import HandS.ExcIs
import HandS.ExcField
import HandS.TryMany
import HandS.EndTab
import HandS.HeadHook4
import PyProof.ReprRoads
import HandS.TupMul
import PyProof.ReprLen
import HandS.HeadHook1
import Lean
import KE.KStateDown
import HandS.More
import HandS.Defaults
import HandS.Head0
import HandS.Head1
import HandS.Head2
import HandS.Head3
import HandS.HeadEnd
import HandS.HeadHook2
import HandS.HeadNt
import PyProof.ReprBulk
import PyProof.FitsInt
import PyProof.Rows.ReprOcc
import HandS.Iter
import HandS.Wide
import KE.GoesEnum
import HandS.NoneIn
import PyProof.EqKinds
import PyProof.FactsAll.dict
import PyProof.P3Eq
import KE.DataEq
import HandS.DictSubView
import KE.KDictList
import KE.KDictCopyH
import PyProof.DictIter
import KE.SortCalls
set_option Elab.async false
set_option linter.all false
set_option maxRecDepth 100000
set_option maxHeartbeats 4000000
/-! The heap's extensions, the pen, a list that is being made. -/
namespace Gb
open PySem PySem.Spec PyProof.Rows L2
/-- the built-in names that the text uses are the built-in ones -/
structure Bt (mg : Str → Option Value) : Prop where
  len : mg "len" = none
  abs : mg "abs" = none
  max : mg "max" = none
  min : mg "min" = none
  list : mg "list" = none
  tuple : mg "tuple" = none
  range : mg "range" = none
  isinstance : mg "isinstance" = none
  all : mg "all" = none
  set : mg "set" = none
  sum : mg "sum" = none
  zip : mg "zip" = none
  int : mg "int" = none
/-! ### extensions -/
def notDk : HO → Prop
  | .dK _ => False
  | _ => True
/-- all but dicts is as it was -/
def Ex (H H' : Hp) : Prop := ∀ b o, H b = some o → notDk o → H' b = some o
theorem Ex.refl {H : Hp} : Ex H H := fun _ _ h _ => h
theorem Ex.trans {H H1 H2 : Hp} (a : Ex H H1) (b : Ex H1 H2) : Ex H H2 := fun x o h n => b x o (a x o h n) n
theorem Ex.new {H : Hp} {p : Addr} {o : HO} (h : H p = none) : Ex H (upd H p o) := fun a u e _ => by
  rw [upd_ne (ne_of_none e h)]
  exact e
theorem Ex.of {H H' : Hp} (e : Same H H') : Ex H H' := fun b o h _ => e b o h
theorem Ex.rd {H H' : Hp} {a : Addr} {u : HO} (e : Ex H H') (h : Rd H a u) (n : notDk u) : Rd H' a u := by
  rcases h with h | ⟨o, h⟩
  · exact .inl (e _ _ h n)
  · exact .inr ⟨o, e _ _ h trivial⟩
theorem Ex.l {K : PySem.W.Frag} {H H' : Hp} {a : Addr} {xs : List V} (e : Ex H H') (h : SqL K H a xs) : SqL K H' a xs := by
  rcases h with h | h
  · exact .inl (e.rd h trivial)
  · exact .inr h
theorem Ex.t {K : PySem.W.Frag} {H H' : Hp} {a : Addr} {xs : List V} (e : Ex H H') (h : SqT K H a xs) : SqT K H' a xs := by
  rcases h with h | h
  · exact .inl (e.rd h trivial)
  · exact .inr h
theorem Ex.back {H H' : Hp} {a : Addr} (e : Ex H H') (h : H' a = none) : ∀ o, H a = some o → ¬ notDk o := fun o q n => by
  rw [e _ _ q n] at h
  cases h
mutual
theorem Dp.ex {K : PySem.W.Frag} {H H' : Hp} (e : Ex H H') : ∀ {v : V} {d : PyData}, Dp K H v d → Dp K H' v d
  | _, _, .non => .non
  | _, _, .bl b => .bl b
  | _, _, .int i => .int i
  | _, _, .str x => .str x
  | _, _, .lst h a => .lst (e.l h) (DpAll.ex e a)
  | _, _, .tup h a => .tup (e.t h) (DpAll.ex e a)
theorem DpAll.ex {K : PySem.W.Frag} {H H' : Hp} (e : Ex H H') : ∀ {vs : List V} {ds : List PyData}, DpAll K H vs ds → DpAll K H' vs ds
  | _, _, .nil => .nil
  | _, _, .cons a b => .cons (Dp.ex e a) (DpAll.ex e b)
end
theorem dpa_len {K : PySem.W.Frag} {H : Hp} : ∀ {vs : List V} {ds : List PyData}, DpAll K H vs ds → vs.length = ds.length
  | _, _, .nil => rfl
  | _, _, .cons _ t => by rw [List.length_cons, List.length_cons, dpa_len t]
theorem dpa_of_ints {K : PySem.W.Frag} {H : Hp} : ∀ ns : List Int, DpAll K H (ns.map V.int) (ns.map PyData.int)
  | [] => .nil
  | n :: ns => .cons (.int n) (dpa_of_ints ns)
/-! ### the pen -/
def penD (c : Addr) (t l : Int) : List (Key × V) := [(.inr "cells", .ref c), (.inr "turn", .int t), (.inr "left", .int l)]
/-- a pen at p: its cells at c; so many draws at most so far -/
def Pen (H : Hp) (p c : Addr) (n : Nat) : Prop := ∃ (t l : Int) (xs : List Int), H p = some (.dK (penD c t l)) ∧ H c = some (.lst (xs.map V.int)) ∧ 0 ≤ t ∧ t ≤ n ∧ 0 ≤ l
theorem Pen.mono {H : Hp} {p c : Addr} {n m : Nat} (h : Pen H p c n) (hm : n ≤ m) : Pen H p c m := by
  obtain ⟨t, l, xs, h1, h2, h3, h4, h5⟩ := h
  exact ⟨t, l, xs, h1, h2, h3, by omega, h5⟩
/-- so many draws at most lie between -/
def Go (p c : Addr) (k : Nat) (H H' : Hp) : Prop := Ex H H' ∧ ∀ n, Pen H p c n → Pen H' p c (n + k)
section
variable {p c l q : Addr} {j k n : Nat} {H H0 H1 H2 H' : Hp} {o : HO}
theorem Go.refl : Go p c 0 H H := ⟨Ex.refl, fun _ h => h⟩
theorem Go.trans (a : Go p c j H H1) (b : Go p c k H1 H2) : Go p c (j + k) H H2 := ⟨a.1.trans b.1, fun n h => by
  rw [← Nat.add_assoc]
  exact b.2 _ (a.2 _ h)⟩
theorem Go.mono (a : Go p c j H H1) (h : j ≤ k) : Go p c k H H1 := ⟨a.1, fun n x => (a.2 n x).mono (Nat.add_le_add_left h n)⟩
theorem Go.of (e : Same H H') : Go p c 0 H H' := ⟨Ex.of e, fun n ⟨t, l, xs, h1, h2, h3⟩ => ⟨t, l, xs, e _ _ h1, e _ _ h2, h3⟩⟩
theorem same_new (h : H q = none) : Same H (upd H q o) := fun b x e => by
  rw [upd_ne (ne_of_none e h)]
  exact e
theorem Go.new (h : H q = none) : Go p c 0 H (upd H q o) := Go.of (same_new h)
theorem Pen.ne (h : Pen H p c n) (hl : H l = none) : l ≠ p ∧ l ≠ c := by
  obtain ⟨_, _, _, h1, h2, _⟩ := h
  exact ⟨fun e => (by rw [e, h1] at hl; cases hl), fun e => (by rw [e, h2] at hl; cases hl)⟩
/-! ### a list that is being made at l -/
def del (H : Hp) (l : Addr) : Hp := fun b => if b = l then none else H b
theorem del_same : del H l l = none := by
  unfold del
  rw [if_pos rfl]
theorem del_ne {b : Addr} (h : b ≠ l) : del H l b = H b := by
  unfold del
  rw [if_neg h]
theorem del_upd : del (upd H l o) l = del H l := by
  funext b
  unfold del upd
  split <;> rfl
theorem del_none (h : H l = none) : del H l = H := by
  funext b
  unfold del
  split
  · rename_i e
    rw [e, h]
  · rfl
theorem del_le : Same (del H l) H := fun b o e => by
  by_cases hb : b = l
  · rw [hb, del_same] at e
    cases e
  · rw [del_ne hb] at e
    exact e
theorem del_ex : Ex (del H l) H := Ex.of del_le
theorem Pen.undel (h : Pen (del H l) p c n) : Pen H p c n := by
  obtain ⟨t, x, xs, h1, h2, h3⟩ := h
  exact ⟨t, x, xs, del_le _ _ h1, del_le _ _ h2, h3⟩
theorem Pen.del (h : Pen H p c n) (h1 : l ≠ p) (h2 : l ≠ c) : Pen (del H l) p c n := by
  obtain ⟨t, x, xs, a, b, h3⟩ := h
  exact ⟨t, x, xs, by rw [del_ne h1.symm]; exact a, by rw [del_ne h2.symm]; exact b, h3⟩
theorem Ex.del (e : Ex H H') : Ex (del H l) (del H' l) := fun b o h n => by
  by_cases hb : b = l
  · rw [hb, del_same] at h
    cases h
  · rw [del_ne hb] at h ⊢
    exact e _ _ h n
theorem Go.del (g : Go p c k H H') (h1 : l ≠ p) (h2 : l ≠ c) : Go p c k (del H l) (del H' l) := ⟨g.1.del, fun n h => (g.2 n h.undel).del h1 h2⟩
theorem same_del (e : Same H H') : Same (del H l) (del H' l) := fun b o h => by
  by_cases hb : b = l
  · rw [hb, del_same] at h
    cases h
  · rw [del_ne hb] at h ⊢
    exact e _ _ h
/-- from H0 on so many draws; at l, new since H0, xs -/
structure Loc (p c : Addr) (k : Nat) (H0 H : Hp) (l : Addr) (xs : List V) : Prop where
  fr : H0 l = none
  np : l ≠ p
  nc : l ≠ c
  at_ : H l = some (.lst xs)
  go : Go p c k H0 (del H l)
section
variable {xs ys : List V}
theorem Loc.start (g : Go p c k H0 H) (f : H l = none) (f0 : H0 l = none) (np : l ≠ p) (nc : l ≠ c) : Loc p c k H0 (upd H l (.lst xs)) l xs := ⟨f0, np, nc, upd_same, by
  rw [del_upd, del_none f]
  exact g⟩
theorem Loc.call (L : Loc p c j H0 H l xs) (g : Go p c k H H') : Loc p c (j + k) H0 H' l xs := ⟨L.fr, L.np, L.nc, g.1 _ _ L.at_ trivial, L.go.trans (g.del L.np L.nc)⟩
theorem Loc.pure (L : Loc p c j H0 H l xs) (g : Same H H') : Loc p c j H0 H' l xs := L.call (k := 0) (Go.of g)
theorem Loc.set (L : Loc p c j H0 H l xs) : Loc p c j H0 (upd H l (.lst ys)) l ys := ⟨L.fr, L.np, L.nc, upd_same, by
  rw [del_upd]
  exact L.go⟩
theorem Loc.mono (L : Loc p c j H0 H l xs) (h : j ≤ k) : Loc p c k H0 H l xs := ⟨L.fr, L.np, L.nc, L.at_, L.go.mono h⟩
theorem Loc.done (L : Loc p c j H0 H l xs) : Go p c j H0 H := ⟨L.go.1.trans del_ex, fun n h => (L.go.2 n h).undel⟩
theorem Loc.pen (L : Loc p c j H0 H l xs) (h : Pen H0 p c n) : Pen H p c (n + j) := L.done.2 n h
theorem Loc.sq {K : PySem.W.Frag} (L : Loc p c j H0 H l xs) : SqL K H l xs := SqL.of L.at_
end
/-- the same without a pen -/
structure LocS (H0 H : Hp) (l : Addr) (xs : List V) : Prop where
  fr : H0 l = none
  at_ : H l = some (.lst xs)
  go : Same H0 (del H l)
section
variable {xs ys : List V}
theorem LocS.start (g : Same H0 H) (f : H l = none) : LocS H0 (upd H l (.lst xs)) l xs := ⟨g.free f, upd_same, by
  rw [del_upd, del_none f]
  exact g⟩
theorem LocS.call (L : LocS H0 H l xs) (g : Same H H') : LocS H0 H' l xs := ⟨L.fr, g _ _ L.at_, L.go.trans (same_del g)⟩
theorem LocS.set (L : LocS H0 H l xs) : LocS H0 (upd H l (.lst ys)) l ys := ⟨L.fr, upd_same, by
  rw [del_upd]
  exact L.go⟩
theorem LocS.done (L : LocS H0 H l xs) : Same H0 H := L.go.trans del_le
end
end
end Gb
namespace Gb
open PySem PySem.Spec PyProof.Rows L2
/-- a def of the module under its name; how its arguments bind -/
structure Dn (K : PySem.W.Frag) (mg : Str → Option Value) (x : Str) (st : Stmt) (ps : List Str) : Prop where
  ex : ∃ (f : Addr) (fd : FuncData), Fun K x x st f fd ∧ mg x = some (.ref f) ∧ Binds K fd ps []
/-- a def that may be called by its name -/
structure Cl (P : Program) (w : World) (K : PySem.W.Frag) (mg : Str → Option Value) (base : Heap) (k : Nat) (x : Str) (sp : Sp) : Prop where
  ex : ∃ (f : Addr) (fd : FuncData) (ps : List Str), FnOk P w K mg base CX0 k f fd ps sp ∧ mg x = some (.ref f) ∧ PySem.W.keepIn K (.ref f) = true ∧ Binds K fd ps []
section
variable {P : Program} {w : World} {K : PySem.W.Frag} {mg : Str → Option Value} {base : Heap}
theorem cl_of {x : Str} {st : Stmt} {N ps : List Str} {k : Nat} {sp : Sp} (D : Dn K mg x st ps) (S : FnScope N ps (defScope st)) (len : ∀ vs H Q E, sp vs H Q E → vs.length = ps.length)
    (hbody : ∀ (cdv : Value) (f : Addr) (A : Around) (outer : List Env) (s : Shared) (H : Hp) (vs : List V) (Q : VK) (E : XK), Room k (A.deeper (envOfC x (defScope st) s.heap.objs.size f cdv)) → sp vs H Q E →
      ∃ t, PSs (cxOf CX0 P w K mg base N x (defScope st) f cdv A outer s H E).nox (defBody st) t ∧ t { nx := fun _ H' => Q .non H', rt := Q } (start N vs) H) : Cl P w K mg base (k + 1) x sp := by
  obtain ⟨f, fd, F, hm, b⟩ := D.ex
  exact ⟨f, fd, ps, F.ok S len (fun cdv => hbody cdv f), hm, F.kp, b⟩
end
section
variable {X : Cx} {k j : Nat} {x : Str} {sp : Sp} {p pos : Pos} {e fe : Expr} {es : List Expr} {t : TA} {tf : TE}
theorem pe_c (c : Cl X.prog X.w X.K X.mg X.base k x sp) (hr : Room j X.A) (hk : k ≤ j) (hg : Gl X x) (ha : PA X (e :: es) t)
    (hdb : (x == ("__debug__" : Str)) = false := by decide) (he : starEach (e :: es) X.env = (false, eval e X.env) :: starEach es X.env := by rfl) (hpl : (backTo pos (starEach es X.env)).any (·.1) = false := by rfl) :
    PE X (.Call (.Name x p) (e :: es) [] pos) (tCall sp [] E0 t) := by
  obtain ⟨f, fd, ps, F, hm, kp, b⟩ := c.ex
  exact pe_call F (hr.mono hk) hg hm kp b .nil pass0 ha hdb he hpl
/-- a name of the module as a value -/
theorem pe_gv {v : V} (hg : Gl X x) (h : ∃ u, X.mg x = some u ∧ RelV v u) (hd : (x == ("__debug__" : Str)) = false := by decide) : PE X (.Name x pos) (tC v) := by
  obtain ⟨u, hm, r⟩ := h
  exact pe_glob hg hm r hd
/-- a def, called by its value, whatever expression tells it -/
def tCallE (S : Addr → Sp → Prop) (tf : TE) (t : TA) : TE := fun σ H Q => tf σ H fun v H1 => ∃ f sp, v = .ref f ∧ S f sp ∧ t σ H1 fun vs H2 => sp vs H2 Q E0
end
/-! ### data with a type -/
section
open PySem.W (Datum Tup T4)
/-- numbers, and lists and tuples of such -/
class Nd (α : Type) [DecidableEq α] [Datum α] : Prop where
  lay : ∀ a : α, (Datum.toD a).canLay0 = true
theorem lay_map {α : Type} [DecidableEq α] [Datum α] [Nd α] : ∀ xs : List α, PyData.canLayAll0 (xs.map Datum.toD) = true
  | [] => by simp only [List.map_nil, PyData.canLayAll0]
  | x :: xs => by
    simp only [List.map_cons, PyData.canLayAll0, Nd.lay x, lay_map xs, Bool.and_self]
instance : Nd Int := ⟨fun _ => by simp only [Datum.toD, PyData.canLay0]⟩
instance : Nd Bool := ⟨fun _ => by simp only [Datum.toD, PyData.canLay0]⟩
instance {α : Type} [DecidableEq α] [Datum α] [Nd α] : Nd (List α) := ⟨fun xs => by
  show PyData.canLay0 (.list (xs.map Datum.toD)) = true
  simp only [PyData.canLay0, lay_map xs]⟩
instance {α : Type} [DecidableEq α] [Datum α] [Nd α] : Nd (Tup α) := ⟨fun t => by
  show PyData.canLay0 (.tuple (t.items.map Datum.toD)) = true
  simp only [PyData.canLay0, lay_map t.items]⟩
instance {α β : Type} [DecidableEq α] [Datum α] [Nd α] [DecidableEq β] [Datum β] [Nd β] : Nd (α × β) := ⟨fun p => by
  show PyData.canLay0 (.tuple [Datum.toD p.1, Datum.toD p.2]) = true
  simp only [PyData.canLay0, PyData.canLayAll0, Nd.lay, Bool.and_self]⟩
instance {α β γ δ : Type} [DecidableEq α] [Datum α] [Nd α] [DecidableEq β] [Datum β] [Nd β] [DecidableEq γ] [Datum γ] [Nd γ] [DecidableEq δ] [Datum δ] [Nd δ] : Nd (T4 α β γ δ) := ⟨fun p => by
  show PyData.canLay0 (.tuple [Datum.toD p.a, Datum.toD p.b, Datum.toD p.c, Datum.toD p.d]) = true
  simp only [PyData.canLay0, PyData.canLayAll0, Nd.lay, Bool.and_self]⟩
variable {α : Type} [DecidableEq α] [Datum α] {K : PySem.W.Frag} {x y v : V} {H H' : Hp} {Q : VK} {a b : α}
/-- v is a -/
abbrev Is (K : PySem.W.Frag) (H : Hp) (v : V) (a : α) : Prop := Dp K H v (Datum.toD a)
abbrev All (K : PySem.W.Frag) (H : Hp) (vs : List V) (xs : List α) : Prop := DpAll K H vs (xs.map Datum.toD)
theorem dat_shaped [Nd α] (hd : Datum.depth α ≤ 64) (a : α) : SeqAt.shaped (Datum.toD a) = true := by
  unfold SeqAt.shaped
  rw [Nd.lay a, decide_eq_true (Nat.le_trans (Datum.depth_le a) hd)]
  rfl
theorem ne_dat [Nd α] (ha : Is K H x a) (hb : Is K H y b) (q : Q (.bl (!decide (a = b))) H) (hd : Datum.depth α ≤ 64 := by decide) : rNeD K x y H Q :=
  ⟨_, _, ha, hb, dat_shaped hd a, dat_shaped hd b, by rw [Datum.eqv]; exact q⟩
end
end Gb
namespace Gb
open PySem PySem.Spec PyProof.Rows L2
/-! ### the same rules with the written part as a letter: for what stands in a comprehension's block -/
section
variable {X : Cx} {Kx : PySem.W.Frag} {pos apos cpos : Pos} {e o tgx : Expr} {es : List Expr} {ta to tl : TE} {t : TA}
def rLenK (K : PySem.W.Frag) : List V → Hp → VK → Prop := fun xs H Q => ∃ q ys, xs = [V.ref q] ∧ (SqL K H q ys ∨ SqT K H q ys) ∧ Q (.int ys.length) H
theorem call_lenK (hK : X.K = Kx := by rfl) : CallR X (.builtin "len") (rLenK Kx) := by
  subst hK
  exact call_len_seq
def rListK (K : PySem.W.Frag) : List V → Hp → VK → Prop := fun xs H Q => ∃ q ys, xs = [V.ref q] ∧ (SqL K H q ys ∨ SqT K H q ys) ∧ ∀ l, H l = none → Q (.ref l) (upd H l (.lst ys))
theorem call_listK (hK : X.K = Kx := by rfl) : CallR X (.type "list") (rListK Kx) := by
  subst hK
  exact call_list_of
def rTupK (K : PySem.W.Frag) : List V → Hp → VK → Prop := fun xs H Q => ∃ q ys, xs = [V.ref q] ∧ ((SqL K H q ys ∧ ∀ l, H l = none → Q (.ref l) (upd H l (.tup ys))) ∨ (SqT K H q ys ∧ Q (.ref q) H))
theorem call_tupK (hK : X.K = Kx := by rfl) : CallR X (.type "tuple") (rTupK Kx) := by
  subst hK
  exact call_tuple_of
theorem ix_listK (hK : X.K = Kx := by rfl) : IxR X (rIxL Kx) := by
  subst hK
  exact ix_list
theorem sl_listK (hK : X.K = Kx := by rfl) : SlR X (rSlL Kx) := by
  subst hK
  exact sl_list
theorem cr_allK (hc : X.calm = true) (hK : X.K = Kx := by rfl) : CallR X (.builtin "all") (rAll Kx) := by
  subst hK
  exact cr_all hc
theorem pg_tupK {ts : List Expr} {kk : Nat} {tg : TGs} {n : Nat} (hc : X.calm = true) (h : PGs X ts tg) (hK : X.K = Kx := by rfl) (h1 : (assignEach ts X.env).length = n := by rfl) (h2 : (assignEach ts X.env).findIdx? (·.1) = none := by rfl) :
    PG X (.Tuple ts kk pos) (gTup Kx n tg) := by
  subst hK
  exact pg_tup hc h h1 h2
theorem pe_bmK {T : String} {name : Str} {id : String} {r} (pa : PlainAttrs T) (slot : Slot T name id) (hty : typeOf (.builtin id) = pure (.type "method_descriptor")) (hm : MtR X id r) (ho : PE X o to) (ha : PA X (e :: es) t)
    (hK : X.K = Kx := by rfl) (h1 : attributeBase o name X.env (eval o X.env) = eval o X.env := by rfl)
    (h2 : ((backTo cpos (starEach (e :: es) X.env)).all (fun x => !x.1) && (backToKw cpos (keywordEach [] X.env)).all (fun x => x.1.isSome) && decide ((e :: es).length + ([] : List Keyword).length + (if ([] : List Keyword).isEmpty then 0 else 1) < 30)) = true := by rfl)
    (h3 : (apos.endLine == cpos.line) = true := by rfl) (h4 : starEach (e :: es) X.env = (false, eval e X.env) :: starEach es X.env := by rfl) (h5 : (backTo cpos (starEach es X.env)).any (·.1) = false := by rfl) :
    PE X (.Call (.Attribute o name apos) (e :: es) [] cpos) (tBM Kx T r to t) := by
  subst hK
  exact pe_bm pa slot hty hm ho ha h1 h2 h3 h4 h5
end
end Gb
set_option maxRecDepth 100000
set_option maxHeartbeats 4000000
namespace Gb
open PySem PySem.Spec PyProof.Rows L2
def top (i : Nat) : Stmt := PySem.Challenge.pw_giveback_k55_cords_behind_a_beat.main.body.getD i (.Pass ⟨0, 0, 0, 0⟩)
abbrev s_is_whole : Stmt := top 1
abbrev s_is_between : Stmt := top 2
abbrev s_is_whole_row : Stmt := top 3
abbrev s_NoWeb___init__ : Stmt := inClass (top 5) 0
abbrev s_NoCords___init__ : Stmt := inClass (top 6) 0
abbrev s_need_size : Stmt := top 9
abbrev s_turned_cords : Stmt := top 11
abbrev s_joining : Stmt := top 12
abbrev s_need_cords : Stmt := top 13
abbrev s_cords_fault : Stmt := top 14
abbrev s_row_fault : Stmt := top 15
abbrev s_is_cord : Stmt := top 16
abbrev s_are_crossed : Stmt := top 17
abbrev s__law_pen : Stmt := top 19
abbrev s__law_draw : Stmt := top 20
abbrev s__law_pick : Stmt := top 21
abbrev s__law_great : Stmt := top 22
abbrev s__law_shuffled : Stmt := top 23
abbrev s__law_beat : Stmt := top 24
abbrev s__law_run : Stmt := top 25
abbrev s__law_corners : Stmt := top 26
abbrev s__law_row : Stmt := top 27
abbrev s__law_all_cords : Stmt := top 28
abbrev s__law_cross : Stmt := top 29
abbrev s__law_drawn_half : Stmt := top 30
abbrev s__law_drawn_cords : Stmt := top 31
abbrev s__law_by_cords : Stmt := top 32
abbrev s__law_cords_by_run : Stmt := top 33
abbrev s__law_handed : Stmt := top 34
abbrev s__law_turned_on : Stmt := top 35
abbrev s_law : Stmt := top 36
end Gb
set_option maxRecDepth 100000
set_option maxHeartbeats 4000000
/-! Loops and comprehensions that make a list. -/
namespace Gb
open PySem PySem.Spec PyProof.Rows L2
open PySem.W (Datum Tup T4)
/-- what was new since H -/
def nw (H H' : Hp) : Hp := fun b => if (H b).isSome = true then none else H' b
theorem nw_none {H H' : Hp} {b : Addr} (h : H b = none) : nw H H' b = H' b := by
  unfold nw
  rw [h]
  exact if_neg (by decide)
theorem nw_some {H H' : Hp} {b : Addr} {o : HO} (h : H b = some o) : nw H H' b = none := by
  unfold nw
  rw [h]
  exact if_pos rfl
theorem nw_le {H H' : Hp} : Same (nw H H') H' := fun b o e => by
  cases q : H b with
  | some u =>
    rw [nw_some q] at e
    cases e
  | none =>
    rw [nw_none q] at e
    exact e
/-- steps that keep what stands, so many draws each -/
structure Rel (R : Nat → Hp → Hp → Prop) (bad : Addr → Prop) : Prop where
  refl : ∀ {H}, R 0 H H
  trans : ∀ {j k H H1 H2}, R j H H1 → R k H1 H2 → R (j + k) H H2
  new : ∀ {H q o}, H q = none → R 0 H (upd H q o)
  del : ∀ {k H H' l}, R k H H' → ¬ bad l → R k (del H l) (del H' l)
  undel : ∀ {k H H' l}, R k H (Gb.del H' l) → R k H H'
  ex : ∀ {k H H'}, R k H H' → Ex H H'
section
variable {R : Nat → Hp → Hp → Prop} {bad : Addr → Prop} {K : PySem.W.Frag} {te : TE} {σ : L2.St} {vs : List Nat} {j n k : Nat} {H : Hp} {D : Addr}
/-- the new list at D holds items of which Z says what they are -/
structure Made (R : Nat → Hp → Hp → Prop) (Z : Nat → V → Hp → Prop) (H : Hp) (D : Addr) (m k : Nat) (ys : List V) (H' : Hp) : Prop where
  at_ : H' D = some (.lst ys)
  len : ys.length = m
  it : ∀ i y, ys[i]? = some y → Z i y (del H' D)
  go : R k H (del H' D)
end
section
variable {α : Type} [DecidableEq α] [Datum α] {K : PySem.W.Frag}
/-- v is a list that stands by itself, of such items -/
def Ls (K : PySem.W.Frag) (H : Hp) (v : V) (xs : List α) : Prop := ∃ l vs, v = .ref l ∧ H l = some (.lst vs) ∧ All K H vs xs
theorem Ls.is {H : Hp} {v : V} {xs : List α} (h : Ls K H v xs) : Is K H v xs := by
  obtain ⟨l, vs, rfl, h1, h2⟩ := h
  exact .lst (SqL.of h1) h2
theorem Ls.ex {H H' : Hp} {v : V} {xs : List α} (e : Ex H H') (h : Ls K H v xs) : Ls K H' v xs := by
  obtain ⟨l, vs, rfl, h1, h2⟩ := h
  exact ⟨l, vs, rfl, e _ _ h1 trivial, DpAll.ex e h2⟩
end
end Gb
set_option maxRecDepth 100000
set_option maxHeartbeats 4000000
/-! Data by value: what stands in the heap, told as data; steps that keep it. -/
namespace Fv
open PySem PySem.Spec PyProof.Rows L2 Gb
def keyP : Key → PyData
  | .inl i => .int i
  | .inr x => .str x
mutual
/-- v stands for the datum d -/
inductive Dd (K : PySem.W.Frag) (H : Hp) : V → PyData → Prop
  | non : Dd K H .non .none
  | bl (b : Bool) : Dd K H (.bl b) (.bool b)
  | int (i : Int) : Dd K H (.int i) (.int i)
  | str (x : Str) : Dd K H (.str x) (.str x)
  | lst {a : Addr} {xs : List V} {ds : List PyData} : H a = some (.lst xs) → DdA K H xs ds → xs.length ≤ sizeLine → Dd K H (.ref a) (.list ds)
  | tup {a : Addr} {xs : List V} {ds : List PyData} : SqT K H a xs → DdA K H xs ds → xs.length ≤ sizeLine → Dd K H (.ref a) (.tuple ds)
  | dic {a : Addr} {kvs : List (Key × V)} {ks : List (PyData × PyData)} : H a = some (.dK kvs) → DdK K H kvs ks → Dd K H (.ref a) (.dict ks)
inductive DdA (K : PySem.W.Frag) (H : Hp) : List V → List PyData → Prop
  | nil : DdA K H [] []
  | cons {v : V} {vs : List V} {d : PyData} {ds : List PyData} : Dd K H v d → DdA K H vs ds → DdA K H (v :: vs) (d :: ds)
inductive DdK (K : PySem.W.Frag) (H : Hp) : List (Key × V) → List (PyData × PyData) → Prop
  | nil : DdK K H [] []
  | cons {k : Key} {v : V} {kvs : List (Key × V)} {d : PyData} {ks : List (PyData × PyData)} : Dd K H v d → DdK K H kvs ks → DdK K H ((k, v) :: kvs) ((keyP k, d) :: ks)
end
theorem Same.l {K : PySem.W.Frag} {H H' : Hp} {a : Addr} {xs : List V} (e : Same H H') (h : SqL K H a xs) : SqL K H' a xs := Ex.l (Ex.of e) h
theorem Same.lq {K : PySem.W.Frag} {H H' : Hp} {a : Addr} {xs : List V} (e : Same H H') (h : H a = some (.lst xs)) : SqL K H' a xs := SqL.of (e _ _ h)
theorem Same.t {K : PySem.W.Frag} {H H' : Hp} {a : Addr} {xs : List V} (e : Same H H') (h : SqT K H a xs) : SqT K H' a xs := Ex.t (Ex.of e) h
mutual
theorem Dd.mono {K : PySem.W.Frag} {H H' : Hp} (e : Same H H') : ∀ {v : V} {d : PyData}, Dd K H v d → Dd K H' v d
  | _, _, .non => .non
  | _, _, .bl b => .bl b
  | _, _, .int i => .int i
  | _, _, .str x => .str x
  | _, _, .lst h a l => .lst (e _ _ h) (DdA.mono e a) l
  | _, _, .tup h a l => .tup (Same.t e h) (DdA.mono e a) l
  | _, _, .dic h a => .dic (e _ _ h) (DdK.mono e a)
theorem DdA.mono {K : PySem.W.Frag} {H H' : Hp} (e : Same H H') : ∀ {vs : List V} {ds : List PyData}, DdA K H vs ds → DdA K H' vs ds
  | _, _, .nil => .nil
  | _, _, .cons a b => .cons (Dd.mono e a) (DdA.mono e b)
theorem DdK.mono {K : PySem.W.Frag} {H H' : Hp} (e : Same H H') : ∀ {vs : List (Key × V)} {ds : List (PyData × PyData)}, DdK K H vs ds → DdK K H' vs ds
  | _, _, .nil => .nil
  | _, _, .cons a b => .cons (Dd.mono e a) (DdK.mono e b)
end
section
variable {K : PySem.W.Frag} {H H' : Hp} {v : V} {vs ws : List V} {d : PyData} {ds es : List PyData}
theorem DdA.len : ∀ {vs : List V} {ds : List PyData}, DdA K H vs ds → vs.length = ds.length
  | _, _, .nil => rfl
  | _, _, .cons _ t => by rw [List.length_cons, List.length_cons, DdA.len t]
theorem DdA.get : ∀ {vs : List V} {ds : List PyData} {i : Nat} {v : V}, DdA K H vs ds → vs[i]? = some v → ∃ d, ds[i]? = some d ∧ Dd K H v d
  | _, _, _, _, .nil, e => by simp at e
  | _, _, 0, _, .cons r _, e => by
    simp at e
    subst e
    exact ⟨_, rfl, r⟩
  | _, _, i + 1, v, .cons _ t, e => by
    obtain ⟨d, h1, h2⟩ := DdA.get (i := i) (v := v) t (by simpa using e)
    exact ⟨d, by simpa using h1, h2⟩
theorem DdA.get' : ∀ {vs : List V} {ds : List PyData} {i : Nat} {d : PyData}, DdA K H vs ds → ds[i]? = some d → ∃ v, vs[i]? = some v ∧ Dd K H v d
  | _, _, _, _, .nil, e => by simp at e
  | _, _, 0, _, .cons r _, e => by
    simp at e
    subst e
    exact ⟨_, rfl, r⟩
  | _, _, i + 1, v, .cons _ t, e => by
    obtain ⟨d, h1, h2⟩ := DdA.get' (i := i) (d := v) t (by simpa using e)
    exact ⟨d, by simpa using h1, h2⟩
theorem DdA.app : ∀ {vs ws : List V} {ds es : List PyData}, DdA K H vs ds → DdA K H ws es → DdA K H (vs ++ ws) (ds ++ es)
  | _, _, _, _, .nil, h => h
  | _, _, _, _, .cons a b, h => .cons a (DdA.app b h)
theorem DdA.snoc (h : DdA K H vs ds) (h' : Dd K H v d) : DdA K H (vs ++ [v]) (ds ++ [d]) := h.app (.cons h' .nil)
theorem DdA.take : ∀ {vs : List V} {ds : List PyData} (n : Nat), DdA K H vs ds → DdA K H (vs.take n) (ds.take n)
  | _, _, 0, _ => .nil
  | _, _, _ + 1, .nil => .nil
  | _, _, n + 1, .cons a b => .cons a (DdA.take n b)
theorem DdA.drop : ∀ {vs : List V} {ds : List PyData} (n : Nat), DdA K H vs ds → DdA K H (vs.drop n) (ds.drop n)
  | _, _, 0, h => h
  | _, _, _ + 1, .nil => .nil
  | _, _, n + 1, .cons _ b => DdA.drop n b
theorem DdA.erase : ∀ {vs : List V} {ds : List PyData} (n : Nat), DdA K H vs ds → DdA K H (vs.eraseIdx n) (ds.eraseIdx n)
  | _, _, _, .nil => .nil
  | _, _, 0, .cons _ b => b
  | _, _, n + 1, .cons a b => .cons a (DdA.erase n b)
theorem DdA.set (h : Dd K H v d) : ∀ {vs : List V} {ds : List PyData} (n : Nat), DdA K H vs ds → DdA K H (vs.set n v) (ds.set n d)
  | _, _, _, .nil => .nil
  | _, _, 0, .cons _ b => .cons h b
  | _, _, n + 1, .cons a b => .cons a (DdA.set h n b)
theorem DdA.rep (n : Nat) (h : DdA K H vs ds) : DdA K H (List.replicate n vs).flatten (List.replicate n ds).flatten := by
  induction n with
  | zero => exact .nil
  | succ n ih =>
    rw [List.replicate_succ, List.replicate_succ, List.flatten_cons, List.flatten_cons]
    exact h.app ih
theorem dd_list (h : Dd K H v (.list ds)) : ∃ a xs, v = .ref a ∧ H a = some (.lst xs) ∧ DdA K H xs ds ∧ xs.length ≤ sizeLine := by
  cases h with
  | lst h a l => exact ⟨_, _, rfl, h, a, l⟩
theorem dd_tup (h : Dd K H v (.tuple ds)) : ∃ a xs, v = .ref a ∧ SqT K H a xs ∧ DdA K H xs ds ∧ xs.length ≤ sizeLine := by
  cases h with
  | tup h a l => exact ⟨_, _, rfl, h, a, l⟩
theorem dd_int {i : Int} (h : Dd K H v (.int i)) : v = .int i := by
  cases h
  rfl
theorem dd_bl {i : Bool} (h : Dd K H v (.bool i)) : v = .bl i := by
  cases h
  rfl
theorem dd_str {i : Str} (h : Dd K H v (.str i)) : v = .str i := by
  cases h
  rfl
theorem dd_non (h : Dd K H v .none) : v = .non := by
  cases h
  rfl
end
/-- without dicts: as the layer's own -/
def noDict (d : PyData) : Bool := !d.hasDict
mutual
theorem Dd.dp {K : PySem.W.Frag} {H : Hp} : ∀ {v : V} {d : PyData}, Dd K H v d → d.canLay0 = true → Dp K H v d
  | _, _, .non, _ => .non
  | _, _, .bl b, _ => .bl b
  | _, _, .int i, _ => .int i
  | _, _, .str x, _ => .str x
  | _, _, .lst h a _, c => .lst (SqL.of h) (DdA.dp a (by simpa only [PyData.canLay0] using c))
  | _, _, .tup h a _, c => .tup h (DdA.dp a (by simpa only [PyData.canLay0] using c))
  | _, _, .dic _ _, c => by simp only [PyData.canLay0] at c; cases c
theorem DdA.dp {K : PySem.W.Frag} {H : Hp} : ∀ {vs : List V} {ds : List PyData}, DdA K H vs ds → PyData.canLayAll0 ds = true → DpAll K H vs ds
  | _, _, .nil, _ => .nil
  | _, _, .cons a b, c => by
    simp only [PyData.canLayAll0, Bool.and_eq_true] at c
    exact .cons (Dd.dp a c.1) (DdA.dp b c.2)
end
/-- what is built, long or not -/
def fitsD : PyData → Prop
  | .list ds => ds.length ≤ sizeLine
  | .tuple ds => ds.length ≤ sizeLine
  | _ => True
end Fv
set_option maxRecDepth 100000
set_option maxHeartbeats 4000000
/-! States by value, and what an expression yields. -/
namespace Fv
open PySem PySem.Spec PyProof.Rows L2 Gb
open PySem.W (T4)
/-! ### webs -/
abbrev Tw := T4 Int Int Int Int
def tieD (t : Tw) : PyData := .tuple [.int t.a, .int t.b, .int t.c, .int t.d]
def pairsW (s : Nat) : List (Nat × Nat) := (List.range s).flatMap fun i => (List.range (s - (i + 1))).map fun d => (i, i + 1 + d)
def tieW (M : Nat → Nat → Int) (p : Nat × Nat) : Option Tw := if M p.1 p.2 > 0 then some ⟨p.1, p.2, M p.1 p.2, M p.2 p.1⟩ else none
/-- the ties of the web of these cords, rising -/
def tiesW (M : Nat → Nat → Int) (s : Nat) : List Tw := (pairsW s).filterMap (tieW M)
def rowD (M : Nat → Nat → Int) (s i : Nat) : PyData := .tuple ((List.range s).map fun j => .int (M i j))
def rowsD (M : Nat → Nat → Int) (s : Nat) : List PyData := (List.range s).map (rowD M s)
/-- a web at wa -/
structure WebAt (K : PySem.W.Frag) (C : Addr) (H : Hp) (wa : Addr) (s : Nat) (M : Nat → Nat → Int) : Prop where
  s1 : 1 ≤ s
  s12 : s ≤ 12
  ex : ∃ dx r t, H wa = some (.ins C dx [("_rows", .ref r), ("_ties", .ref t)]) ∧ H dx = some (.own wa) ∧ Dd K H (.ref r) (.tuple (rowsD M s)) ∧ Dd K H (.ref t) (.tuple ((tiesW M s).map tieD))
theorem WebAt.mono {K : PySem.W.Frag} {C : Addr} {H H' : Hp} {wa : Addr} {s : Nat} {M : Nat → Nat → Int} (e : Same H H') (h : WebAt K C H wa s M) : WebAt K C H' wa s M := by
  obtain ⟨h1, h2, dx, r, t, a, b, c, d⟩ := h
  exact ⟨h1, h2, dx, r, t, e _ _ a, e _ _ b, c.mono e, d.mono e⟩
/-- an exception: its class's name and its fields -/
structure Exn where
  cls : Str
  fs : List (Str × PyData)
/-! ### what a name stands for -/
inductive D where
  | py (d : PyData)
  | web (s : Nat) (M : Nat → Nat → Int)
  | raw (v : V)
  | pen
  | exc (x : Exn)
inductive Sl where
  | no
  | val (d : D)
  | own (ds : List PyData)
  | dow (ks : List (PyData × PyData))
  | mat (t : Bool) (l : Addr) (rows : List (Addr × List PyData))
def Sl.isOwn : Sl → Bool
  | .own _ => true
  | .dow _ => true
  | _ => false
/-- the pen, its cells, the tables of code objects -/
abbrev Pn := Option (Addr × Addr × List (Addr × Str))
/-- what surrounds a def's body: K, the class Web, the pen, the wish of exceptions, the heaps at the entry -/
structure Cg where
  K : PySem.W.Frag
  C : Addr
  pn : Pn
  xe : WX
  ex : Str → Option Value
  B0 : Hp
  H0 : Hp
/-- the exception at a: its class, its dict -/
def exK (a C dd : Addr) : HO := .ext fun h => ∃ (vs : Array Value) (sl : Array (Option Value)), h.get? a = some ({ cls := .ref C, dict := some dd, data := .fields vs, slots := sl } : Obj)
/-- the fields at dd -/
def FsAt (K : PySem.W.Frag) (B : Hp) (dd : Addr) (fs : List (Str × PyData)) : Prop :=
  ∃ gs : List (Str × V), B dd = some (.xd gs) ∧ ∀ f, match gs.lookup f, fs.lookup f with
    | some v, some d => Dd K B v d
    | none, none => True
    | _, _ => False
theorem FsAt.mono {K : PySem.W.Frag} {B B' : Hp} {dd : Addr} {fs : List (Str × PyData)} (e : Same B B') (h : FsAt K B dd fs) : FsAt K B' dd fs := by
  obtain ⟨gs, h1, h2⟩ := h
  refine ⟨gs, e _ _ h1, fun f => ?_⟩
  have q := h2 f
  split at q
  · exact Dd.mono e q
  · trivial
  · exact q.elim
def R (G : Cg) (B : Hp) (v : V) : D → Prop
  | .py d => Dd G.K B v d
  | .web s M => ∃ a, v = .ref a ∧ WebAt G.K G.C B a s M
  | .raw w => v = w
  | .pen => ∃ p c T, G.pn = some (p, c, T) ∧ v = .ref p
  | .exc x => ∃ a C dd, v = .ref a ∧ G.ex x.cls = some (.ref C) ∧ B a = some (exK a C dd) ∧ FsAt G.K B dd x.fs
theorem R.mono {G : Cg} {B B' : Hp} {v : V} {d : D} (e : Same B B') (h : R G B v d) : R G B' v d := by
  cases d with
  | py d => exact Dd.mono e h
  | web s M =>
    obtain ⟨a, h1, h2⟩ := h
    exact ⟨a, h1, h2.mono e⟩
  | raw w => exact h
  | pen => exact h
  | exc x =>
    obtain ⟨a, C, dd, h1, h2, h3, h4⟩ := h
    exact ⟨a, C, dd, h1, h2, e _ _ h3, h4.mono e⟩
section
variable {G : Cg} {B : Hp}
theorem r_int {i : Int} : R G B (.int i) (.py (.int i)) := Dd.int i
theorem r_bl {i : Bool} : R G B (.bl i) (.py (.bool i)) := Dd.bl i
theorem r_str {i : Str} : R G B (.str i) (.py (.str i)) := Dd.str i
theorem r_non : R G B .non (.py .none) := Dd.non
theorem r_lst {a : Addr} {xs : List V} {ds : List PyData} (h : B a = some (.lst xs)) (h2 : DdA G.K B xs ds) (h3 : xs.length ≤ sizeLine) : R G B (.ref a) (.py (.list ds)) := Dd.lst h h2 h3
theorem r_tup {a : Addr} {xs : List V} {ds : List PyData} (h : SqT G.K B a xs) (h2 : DdA G.K B xs ds) (h3 : xs.length ≤ sizeLine) : R G B (.ref a) (.py (.tuple ds)) := Dd.tup h h2 h3
theorem r_dic {a : Addr} {kvs : List (Key × V)} {ks : List (PyData × PyData)} (h : B a = some (.dK kvs)) (h2 : DdK G.K B kvs ks) : R G B (.ref a) (.py (.dict ks)) := Dd.dic h h2
end
def RA (G : Cg) (B : Hp) : List V → List D → Prop
  | [], [] => True
  | v :: vs, d :: ds => R G B v d ∧ RA G B vs ds
  | _, _ => False
theorem RA.mono {G : Cg} {B B' : Hp} (e : Same B B') : ∀ {vs : List V} {ds : List D}, RA G B vs ds → RA G B' vs ds
  | [], [], _ => trivial
  | _ :: _, _ :: _, h => ⟨h.1.mono e, RA.mono e h.2⟩
  | [], _ :: _, h => h.elim
  | _ :: _, [], h => h.elim
/-! ### steps -/
def notTb : HO → Prop
  | .tbl _ => False
  | _ => True
def Kp : Pn → Hp → Hp → Prop
  | none, H, H' => Same H H'
  | some (p, _, _), H, H' => (∀ b o, b ≠ p → notTb o → H b = some o → H' b = some o) ∧ (∀ o, notTb o → H p = some o → ∃ o', H' p = some o' ∧ notTb o') ∧ ∀ b ps, H b = some (.tbl ps) → ∃ ps', H' b = some (.tbl ps')
def Pk (pn : Pn) (n : Nat) (B H : Hp) : Prop := match pn with
  | none => True
  | some (p, c, T) => Pen H p c n ∧ B p = none ∧ LamX.Tabs T H ∧ (∀ b ps, B b ≠ some (.tbl ps)) ∧ (∀ b ps, H b = some (.tbl ps) → ∃ q ∈ T, q.1 = b) ∧ ∃ xs, B c = some (.lst xs)
theorem Kp.of {pn : Pn} {H H' : Hp} (e : Same H H') : Kp pn H H' := by
  cases pn with
  | none => exact e
  | some pc => exact ⟨fun b o _ _ h => e _ _ h, fun o nt h => ⟨o, e _ _ h, nt⟩, fun b ps h => ⟨ps, e _ _ h⟩⟩
theorem Kp.refl {pn : Pn} {H : Hp} : Kp pn H H := Kp.of (Same.refl H)
theorem Kp.trans {pn : Pn} {H H1 H2 : Hp} (a : Kp pn H H1) (b : Kp pn H1 H2) : Kp pn H H2 := by
  cases pn with
  | none => exact Same.trans a b
  | some pc =>
    refine ⟨fun x o nb nt h => b.1 _ _ nb nt (a.1 _ _ nb nt h), fun o nt h => ?_, fun x ps h => ?_⟩
    · obtain ⟨o1, h1, n1⟩ := a.2.1 o nt h
      exact b.2.1 o1 n1 h1
    · obtain ⟨p1, h1⟩ := a.2.2 x ps h
      exact b.2.2 x p1 h1
theorem Kp.there {pn : Pn} {H H' : Hp} {b : Addr} {u : HO} (a : Kp pn H H') (h : H b = some u) (nt : notTb u) : ∃ u', H' b = some u' ∧ notTb u' := by
  cases pn with
  | none => exact ⟨u, a _ _ h, nt⟩
  | some pc =>
    by_cases e : b = pc.1
    · rw [e] at h ⊢
      exact a.2.1 u nt h
    · exact ⟨u, a.1 _ _ e nt h, nt⟩
theorem Kp.up {pn : Pn} {H H' : Hp} (a : Kp pn H H') {p : Addr} (hp : H' p = none) : H p = none := by
  cases q : H p with
  | none => rfl
  | some o =>
    by_cases nt : notTb o
    · obtain ⟨u, h, _⟩ := a.there q nt
      rw [hp] at h
      cases h
    · cases o with
      | tbl ps =>
        cases pn with
        | none =>
          have := a _ _ q
          rw [hp] at this
          cases this
        | some pc =>
          obtain ⟨ps', h⟩ := a.2.2 p ps q
          rw [hp] at h
          cases h
      | _ => exact absurd True.intro nt
structure Mv (pn : Pn) (B H B' H' : Hp) : Prop where
  kp : Kp pn H H'
  b : Same B B'
  s : Same B' H'
  f : ∀ x o u, B' x = some o → H x = some u → notTb u → B x = some o
  t : ∀ x ps, B' x = some (.tbl ps) → B x = some (.tbl ps)
  u : ∀ x ps, H' x = some (.tbl ps) → ∃ ps', H x = some (.tbl ps')
theorem Mv.refl {pn : Pn} {B H : Hp} (e : Same B H) : Mv pn B H B H := ⟨Kp.refl, Same.refl B, e, fun _ _ _ h _ _ => h, fun _ _ h => h, fun _ ps h => ⟨ps, h⟩⟩
theorem Mv.trans {pn : Pn} {B H B1 H1 B2 H2 : Hp} (a : Mv pn B H B1 H1) (b : Mv pn B1 H1 B2 H2) : Mv pn B H B2 H2 :=
  ⟨a.kp.trans b.kp, a.b.trans b.b, b.s, fun x o u h n nt => by
    obtain ⟨u', h1, n1⟩ := a.kp.there n nt
    exact a.f x o u (b.f x o u' h h1 n1) n nt, fun x ps h => a.t _ _ (b.t _ _ h), fun x ps h => by
    obtain ⟨p1, h1⟩ := b.u x ps h
    exact a.u x p1 h1⟩
/-- a step that only adds -/
theorem Mv.of {pn : Pn} {B H B' H' : Hp} (m : Mv none B H B' H') : Mv pn B H B' H' := ⟨Kp.of m.kp, m.b, m.s, m.f, m.t, m.u⟩
theorem Mv.stay {pn : Pn} {B H B' H' : Hp} {b : Addr} {u : HO} (m : Mv pn B H B' H') (hH : H b = some u) (nt : notTb u) (hB : B b = none) : B' b = none := by
  cases q : B' b with
  | none => rfl
  | some o =>
    have := m.f _ _ _ q hH nt
    rw [hB] at this
    cases this
theorem Pk.mv {pn : Pn} {n : Nat} {B H B' H' : Hp} (h : Pk pn n B H) (m : Mv none B H B' H') : Pk pn n B' H' := by
  cases pn with
  | none => trivial
  | some pc =>
    obtain ⟨⟨t, l, xs, h1, h2, h3⟩, hb, hT, hTb, hTu, ys, hc⟩ := h
    exact ⟨⟨t, l, xs, m.kp _ _ h1, m.kp _ _ h2, h3⟩, m.stay h1 True.intro hb, hT.ext m.kp, fun b ps q => hTb b ps (m.t _ _ q), fun b ps q => by
      obtain ⟨p1, h4⟩ := m.u b ps q
      exact hTu b p1 h4, ys, m.b _ _ hc⟩
/-- a new object, told -/
theorem Mv.new {pn : Pn} {B H : Hp} {p : Addr} {o : HO} (e : Same B H) (hp : H p = none) (nt : notTb o := by trivial) : Mv pn B H (upd B p o) (upd H p o) := by
  refine ⟨Kp.of (same_new hp), same_new (e.free hp), fun b u h => ?_, fun x v u h n _ => ?_, fun x ps h => ?_, fun x ps h => ?_⟩
  · by_cases hb : b = p
    · subst hb
      rw [upd_same] at h ⊢
      exact h
    · rw [upd_ne hb] at h ⊢
      exact e _ _ h
  · rw [upd_ne (fun z => by rw [z, hp] at n; cases n)] at h
    exact h
  · by_cases hb : x = p
    · subst hb
      rw [upd_same] at h
      cases h
      exact absurd nt (fun z => z)
    · rw [upd_ne hb] at h
      exact h
  · by_cases hb : x = p
    · subst hb
      rw [upd_same] at h
      cases h
      exact absurd nt (fun z => z)
    · rw [upd_ne hb] at h
      exact ⟨ps, h⟩
/-- a new object, not told -/
theorem Mv.newOwn {pn : Pn} {B H : Hp} {p : Addr} {o : HO} (e : Same B H) (hp : H p = none) (nt : notTb o := by trivial) : Mv pn B H B (upd H p o) :=
  ⟨Kp.of (same_new hp), Same.refl B, e.trans (same_new hp), fun _ _ _ h _ _ => h, fun _ _ h => h, fun x ps h => by
    by_cases hb : x = p
    · subst hb
      rw [upd_same] at h
      cases h
      exact absurd nt (fun z => z)
    · rw [upd_ne hb] at h
      exact ⟨ps, h⟩⟩
/-! ### states -/
def Free (G : Cg) (B : Hp) (l : Addr) : Prop := B l = none ∧ G.H0 l = none ∧ ∀ p c T, G.pn = some (p, c, T) → l ≠ p ∧ l ≠ c
def ownAt (ρ : List Sl) (i : Nat) : Prop := ∃ x, ρ[i]? = some x ∧ x.isOwn = true
abbrev Rws := List (Addr × List PyData)
/-- the addresses of lists of lists of one's own -/
def ghost (ρ : List Sl) (a : Addr) : Prop := ∃ (i : Nat) (t : Bool) (l : Addr) (rows : Rws), ρ[i]? = some (.mat t l rows) ∧ a ∈ l :: rows.map (·.1)
def matO (t : Bool) (rows : Rws) : HO := match t with
  | true => .tup (rows.map fun r => .ref r.1)
  | false => .lst (rows.map fun r => .ref r.1)
theorem matO_nt (t : Bool) (rows : Rws) : notTb (matO t rows) := by
  cases t <;> trivial
/-- lists of one's own in a list (false) or a tuple (true) at l -/
structure MatAt (G : Cg) (B H : Hp) (t : Bool) (l : Addr) (rows : Rws) : Prop where
  at_ : H l = some (matO t rows)
  fr : Free G B l
  nd : (l :: rows.map (·.1)).Nodup
  len : rows.length ≤ sizeLine
  row : ∀ r ∈ rows, ∃ vs, H r.1 = some (.lst vs) ∧ vs.length ≤ sizeLine ∧ DdA G.K B vs r.2 ∧ Free G B r.1
structure MatS (G : Cg) (B H : Hp) (ρ : List Sl) (σ : L2.St) : Prop where
  at_ : ∀ (i : Nat) (t : Bool) (l : Addr) (rows : Rws), ρ[i]? = some (.mat t l rows) → σ[i]? = some (some (.ref l)) ∧ MatAt G B H t l rows
  sep : ∀ (i j : Nat) (t : Bool) (l : Addr) (rows : Rws) (t' : Bool) (l' : Addr) (rows' : Rws), i ≠ j → ρ[i]? = some (.mat t l rows) → ρ[j]? = some (.mat t' l' rows') → ∀ a, a ∈ l :: rows.map (·.1) → a ∉ l' :: rows'.map (·.1)
  own : ∀ (j : Nat) (a : Addr), ownAt ρ j → σ[j]? = some (some (.ref a)) → ¬ ghost ρ a
structure St (G : Cg) (n : Nat) (B H : Hp) (ρ : List Sl) (σ : L2.St) : Prop where
  mv : Mv G.pn G.B0 G.H0 B H
  pk : Pk G.pn n B H
  len : ρ.length = σ.length
  val : ∀ (i : Nat) (d : D), ρ[i]? = some (Sl.val d) → ∃ v, σ[i]? = some (some v) ∧ R G B v d
  own : ∀ (i : Nat) (ds : List PyData), ρ[i]? = some (Sl.own ds) → ∃ l vs, σ[i]? = some (some (.ref l)) ∧ H l = some (.lst vs) ∧ vs.length ≤ sizeLine ∧ DdA G.K B vs ds ∧ Free G B l
  dow : ∀ (i : Nat) (ks : List (PyData × PyData)), ρ[i]? = some (Sl.dow ks) → ∃ l kvs, σ[i]? = some (some (.ref l)) ∧ H l = some (.dK kvs) ∧ DdK G.K B kvs ks ∧ Free G B l
  dis : ∀ (i j : Nat) (l : Addr), i ≠ j → ownAt ρ i → ownAt ρ j → σ[i]? = some (some (.ref l)) → σ[j]? ≠ some (some (.ref l))
  mat : MatS G B H ρ σ
theorem Free.mv {G : Cg} {B H B' H' : Hp} {l : Addr} {u : HO} (h : Free G B l) (m : Mv G.pn B H B' H') (hl : H l = some u) (nt : notTb u := by trivial) : Free G B' l := ⟨m.stay hl nt h.1, h.2⟩
theorem Kp.at_ {G : Cg} {B H H' : Hp} {l : Addr} {o : HO} (k : Kp G.pn H H') (h : Free G B l) (hl : H l = some o) (nt : notTb o := by trivial) : H' l = some o := by
  cases e : G.pn with
  | none =>
    rw [e] at k
    exact k _ _ hl
  | some pc =>
    rw [e] at k
    exact k.1 _ _ (h.2.2 pc.1 pc.2.1 pc.2.2 e).1 nt hl
theorem MatAt.step {G : Cg} {B H B' H' : Hp} {t : Bool} {l : Addr} {rows : Rws} (h : MatAt G B H t l rows) (m : Mv G.pn B H B' H') : MatAt G B' H' t l rows :=
  ⟨m.kp.at_ h.fr h.at_ (matO_nt t rows), h.fr.mv m h.at_ (matO_nt t rows), h.nd, h.len, fun r hr => by
    obtain ⟨vs, h1, h2, h3, h4⟩ := h.row r hr
    exact ⟨vs, m.kp.at_ h4 h1, h2, h3.mono m.b, h4.mv m h1⟩⟩
theorem MatAt.other {G : Cg} {B H : Hp} {t : Bool} {l D : Addr} {o : HO} {rows : Rws} (h : MatAt G B H t l rows) (hD : D ∉ l :: rows.map (·.1)) : MatAt G B (upd H D o) t l rows :=
  ⟨by rw [upd_ne (fun e => hD (by rw [← e]; exact List.mem_cons_self))]; exact h.at_, h.fr, h.nd, h.len, fun r hr => by
    obtain ⟨vs, h1, h2⟩ := h.row r hr
    exact ⟨vs, by rw [upd_ne (fun e => hD (by rw [← e]; exact List.mem_cons_of_mem _ (List.mem_map.mpr ⟨r, hr, rfl⟩)))]; exact h1, h2⟩⟩
theorem MatAt.tellB {G : Cg} {B H : Hp} {t : Bool} {l D : Addr} {o : HO} {rows : Rws} (h : MatAt G B H t l rows) (hD : D ∉ l :: rows.map (·.1)) (hB : B D = none) : MatAt G (upd B D o) H t l rows :=
  ⟨h.at_, ⟨by rw [upd_ne (fun e => hD (by rw [← e]; exact List.mem_cons_self))]; exact h.fr.1, h.fr.2⟩, h.nd, h.len, fun r hr => by
    obtain ⟨vs, h1, h2, h3, h4⟩ := h.row r hr
    exact ⟨vs, h1, h2, h3.mono (same_new hB), by rw [upd_ne (fun e => hD (by rw [← e]; exact List.mem_cons_of_mem _ (List.mem_map.mpr ⟨r, hr, rfl⟩)))]; exact h4.1, h4.2⟩⟩
section
variable {G : Cg} {B H : Hp} {ρ ρ' : List Sl} {σ σ' : L2.St}
theorem MatS.step {B' H' : Hp} (M : MatS G B H ρ σ) (m : Mv G.pn B H B' H') : MatS G B' H' ρ σ := ⟨fun i t l rows h => ⟨(M.at_ i t l rows h).1, (M.at_ i t l rows h).2.step m⟩, M.sep, M.own⟩
theorem MatS.ghost_sub (hm : ∀ (i : Nat) (t : Bool) (l : Addr) (rows : Rws), ρ'[i]? = some (Sl.mat t l rows) → ρ[i]? = some (Sl.mat t l rows) ∧ σ'[i]? = σ[i]?) {a : Addr} (h : ghost ρ' a) : ghost ρ a := by
  obtain ⟨i, t, l, rows, h1, h2⟩ := h
  exact ⟨i, t, l, rows, (hm i t l rows h1).1, h2⟩
theorem MatS.sub (M : MatS G B H ρ σ) (hm : ∀ (i : Nat) (t : Bool) (l : Addr) (rows : Rws), ρ'[i]? = some (Sl.mat t l rows) → ρ[i]? = some (Sl.mat t l rows) ∧ σ'[i]? = σ[i]?) (ho : ∀ j, ownAt ρ' j → ownAt ρ j ∧ σ'[j]? = σ[j]?) : MatS G B H ρ' σ' :=
  ⟨fun i t l rows h => by
    obtain ⟨h1, h2⟩ := hm i t l rows h
    rw [h2]
    exact M.at_ i t l rows h1, fun i j t l rows t' l' rows' ne h h' => M.sep i j t l rows t' l' rows' ne (hm i t l rows h).1 (hm j t' l' rows' h').1, fun j a h e g => by
    obtain ⟨h1, h2⟩ := ho j h
    rw [h2] at e
    exact M.own j a h1 e (MatS.ghost_sub hm g)⟩
theorem MatS.no_ (h : ∀ (i : Nat) (t : Bool) (l : Addr) (rows : Rws), ρ[i]? ≠ some (Sl.mat t l rows)) : MatS G B H ρ σ := ⟨fun i t l rows e => absurd e (h i t l rows), fun i j t l rows t' l' rows' ne e => absurd e (h i t l rows), fun j a _ _ ⟨i, t, l, rows, e, _⟩ => absurd e (h i t l rows)⟩
theorem MatS.other {D : Addr} {o : HO} (M : MatS G B H ρ σ) (hD : ¬ ghost ρ D) : MatS G B (upd H D o) ρ σ := ⟨fun i t l rows h => ⟨(M.at_ i t l rows h).1, (M.at_ i t l rows h).2.other fun z => hD ⟨i, t, l, rows, h, z⟩⟩, M.sep, M.own⟩
theorem MatS.tellB {D : Addr} {o : HO} (M : MatS G B H ρ σ) (hD : ¬ ghost ρ D) (hB : B D = none) : MatS G (upd B D o) H ρ σ := ⟨fun i t l rows h => ⟨(M.at_ i t l rows h).1, (M.at_ i t l rows h).2.tellB (fun z => hD ⟨i, t, l, rows, h, z⟩) hB⟩, M.sep, M.own⟩
/-- what is ghost stands in the heap -/
theorem MatS.there (M : MatS G B H ρ σ) {a : Addr} (h : ghost ρ a) : ∃ o, H a = some o := by
  obtain ⟨i, t, l, rows, h1, h2⟩ := h
  have A := (M.at_ i t l rows h1).2
  rcases List.mem_cons.mp h2 with rfl | h2
  · exact ⟨_, A.at_⟩
  · obtain ⟨r, hr, rfl⟩ := List.mem_map.mp h2
    obtain ⟨vs, h3, _⟩ := A.row r hr
    exact ⟨_, h3⟩
end
theorem St.step {G : Cg} {n n' : Nat} {B H B' H' : Hp} {ρ : List Sl} {σ : L2.St} (S : St G n B H ρ σ) (m : Mv G.pn B H B' H') (pk : Pk G.pn n' B' H') : St G n' B' H' ρ σ := by
  refine ⟨S.mv.trans m, pk, S.len, fun i d h => ?_, fun i ds h => ?_, fun i ks h => ?_, S.dis, S.mat.step m⟩
  · obtain ⟨v, h1, h2⟩ := S.val i d h
    exact ⟨v, h1, h2.mono m.b⟩
  · obtain ⟨l, vs, h1, h2, h3, h4, h5⟩ := S.own i ds h
    exact ⟨l, vs, h1, m.kp.at_ h5 h2, h3, h4.mono m.b, h5.mv m h2⟩
  · obtain ⟨l, vs, h1, h2, h4, h5⟩ := S.dow i ks h
    exact ⟨l, vs, h1, m.kp.at_ h5 h2, h4.mono m.b, h5.mv m h2⟩
theorem St.sub {G : Cg} {n : Nat} {B H : Hp} {ρ : List Sl} {σ : L2.St} (S : St G n B H ρ σ) : Same B H := S.mv.s
/-- what is new is told later -/
theorem Mv.tell {pn : Pn} {B H B' H' : Hp} {l : Addr} {o : HO} (m : Mv pn B H B' H') (hB : B' l = none) (hl : H' l = some o) (hH : H l = none) (nt : notTb o := by trivial) : Mv pn B H (upd B' l o) H' := by
  refine ⟨m.kp, m.b.trans (same_new hB), fun b u h => ?_, fun x v u h n ntu => ?_, fun x ps h => ?_, m.u⟩
  · by_cases z : b = l
    · subst z
      rw [upd_same] at h
      rw [hl, ← h]
    · rw [upd_ne z] at h
      exact m.s _ _ h
  · rw [upd_ne (fun z => by rw [z, hH] at n; cases n)] at h
    exact m.f _ _ _ h n ntu
  · by_cases z : x = l
    · subst z
      rw [upd_same] at h
      cases h
      exact absurd nt (fun z => z)
    · rw [upd_ne z] at h
      exact m.t _ _ h
theorem Pk.tell {pn : Pn} {n : Nat} {B H : Hp} {l : Addr} {o : HO} (h : Pk pn n B H) (hH : H l = some o) (hl : ∀ p c T, pn = some (p, c, T) → l ≠ p) (nt : notTb o := by trivial) : Pk pn n (upd B l o) H := by
  cases pn with
  | none => trivial
  | some pc =>
    obtain ⟨h1, h2, h3, h4, h5, ys, h6⟩ := h
    refine ⟨h1, ?_, h3, fun b ps q => ?_, h5, ?_⟩
    · rw [upd_ne (Ne.symm (hl pc.1 pc.2.1 pc.2.2 rfl))]
      exact h2
    · by_cases z : b = l
      · subst z
        rw [upd_same] at q
        cases q
        exact absurd nt (fun z => z)
      · rw [upd_ne z] at q
        exact h4 _ _ q
    · by_cases z : pc.2.1 = l
      · obtain ⟨t, x, xs, _, g2, _⟩ := h1
        exact ⟨xs.map V.int, by rw [z, upd_same, ← hH, ← z, g2]⟩
      · exact ⟨ys, by rw [upd_ne z]; exact h6⟩
/-! ### exceptions -/
/-- an exception of the class at cv, its own dict at dd -/
def ExR (G : Cg) (B : Hp) (cv : Value) (dd : Option Addr) (x : Exn) : Prop :=
  G.ex x.cls = some cv ∧ match dd with
    | some a => FsAt G.K B a x.fs
    | none => x.fs = []
abbrev QE := D → Nat → Prop
abbrev XQ := Exn → Nat → Prop
abbrev WE := List Sl → Nat → XQ → QE → Prop
abbrev WN := List Sl → Nat → XQ → (List PyData → Nat → Prop) → Prop
abbrev WL := List Sl → Nat → XQ → (Bool → List PyData → Nat → Prop) → Prop
abbrev WA := List Sl → Nat → XQ → (List D → Nat → Prop) → Prop
abbrev WT := List Sl → Nat → XQ → (Bool → Nat → Prop) → Prop
def XW (G : Cg) (σ : L2.St) (B H : Hp) (E : XQ) : Prop :=
  ∀ x n' cv dd B' H', Mv G.pn B H B' H' → Pk G.pn n' B' H' → ExR G B' cv dd x → E x n' → G.xe cv dd σ H'
theorem XW.step {G : Cg} {σ : L2.St} {B H B1 H1 : Hp} {E : XQ} (h : XW G σ B H E) (m : Mv G.pn B H B1 H1) : XW G σ B1 H1 E :=
  fun x n' cv dd B' H' m' pk e q => h x n' cv dd B' H' (m.trans m') pk e q
theorem XW.none {G : Cg} {σ : L2.St} {B H : Hp} : XW G σ B H (fun _ _ => False) := fun _ _ _ _ _ _ _ _ _ q => q.elim
/-- a part of the heap, the pen and the tables not in it: to be looked at -/
def Lk (G : Cg) (Bf H : Hp) : Prop := Same Bf H ∧ ∀ p c T, G.pn = some (p, c, T) → Bf p = none ∧ ∀ b ps, Bf b ≠ some (.tbl ps)
theorem Lk.step {G : Cg} {Bf H H' : Hp} (h : Lk G Bf H) (k : Kp G.pn H H') : Lk G Bf H' := by
  refine ⟨fun b o hb => ?_, h.2⟩
  cases e : G.pn with
  | none =>
    rw [e] at k
    exact k _ _ (h.1 _ _ hb)
  | some pc =>
    rw [e] at k
    obtain ⟨h1, h2⟩ := h.2 pc.1 pc.2.1 pc.2.2 e
    refine k.1 _ _ (fun z => ?_) ?_ (h.1 _ _ hb)
    · rw [← z, hb] at h1
      cases h1
    · cases o with
      | tbl ps => exact absurd hb (h2 b ps)
      | _ => trivial
theorem Lk.of {G : Cg} {n : Nat} {B H : Hp} (s : Same B H) (pk : Pk G.pn n B H) : Lk G B H := ⟨s, fun p c T e => by
  rw [e] at pk
  exact ⟨pk.2.1, pk.2.2.2.1⟩⟩
/-- a tuple that is told, a list that stands -/
def SqB (K : PySem.W.Frag) (k : Bool) (l : Addr) (vs : List V) (B H : Hp) : Prop := if k = true then SqT K B l vs else H l = some (.lst vs)
/-! ### judgements -/
/-- the value's datum holds in what is told -/
def Snd (G : Cg) (t : TE) (w : WE) : Prop := ∀ ρ σ n B H E (Qd : QE) (Q : VK), St G n B H ρ σ → w ρ n E Qd → XW G σ B H E →
  (∀ v d n' B' H', Mv G.pn B H B' H' → Pk G.pn n' B' H' → R G B' v d → Qd d n' → Q v H') → t σ H Q
/-- .. holds in the heap: to be looked at -/
def SndF (G : Cg) (t : TE) (w : WE) : Prop := ∀ ρ σ n B H E (Qd : QE) (Q : VK), St G n B H ρ σ → w ρ n E Qd → XW G σ B H E →
  (∀ v d n' B' H' Bf, Mv G.pn B H B' H' → Pk G.pn n' B' H' → Lk G Bf H' → R G Bf v d → Qd d n' → Q v H') → t σ H Q
/-- a list of its own -/
def SndN (G : Cg) (t : TE) (w : WN) : Prop := ∀ ρ σ n B H E (Qd : List PyData → Nat → Prop) (Q : VK), St G n B H ρ σ → w ρ n E Qd → XW G σ B H E →
  (∀ l vs ds n' B' H', Mv G.pn B H B' H' → Pk G.pn n' B' H' → H l = none → Free G B' l → H' l = some (.lst vs) → vs.length ≤ sizeLine → DdA G.K B' vs ds → Qd ds n' → Q (.ref l) H') → t σ H Q
/-- the items of a list (false) or a tuple (true) -/
def SndL (G : Cg) (t : TE) (w : WL) : Prop := ∀ ρ σ n B H E (Qd : Bool → List PyData → Nat → Prop) (Q : VK), St G n B H ρ σ → w ρ n E Qd → XW G σ B H E →
  (∀ l vs k ds n' B' H', Mv G.pn B H B' H' → Pk G.pn n' B' H' → SqB G.K k l vs B' H' → vs.length ≤ sizeLine → DdA G.K B' vs ds → Qd k ds n' → Q (.ref l) H') → t σ H Q
def SndA (G : Cg) (t : TA) (w : WA) : Prop := ∀ ρ σ n B H E (Qd : List D → Nat → Prop) (Q : List V → Hp → Prop), St G n B H ρ σ → w ρ n E Qd → XW G σ B H E →
  (∀ vs ds n' B' H', Mv G.pn B H B' H' → Pk G.pn n' B' H' → RA G B' vs ds → Qd ds n' → Q vs H') → t σ H Q
def SndT (G : Cg) (t : TT) (w : WT) : Prop := ∀ ρ σ n B H E (Qd : Bool → Nat → Prop) (Q : Bool → Hp → Prop), St G n B H ρ σ → w ρ n E Qd → XW G σ B H E →
  (∀ b n' B' H', Mv G.pn B H B' H' → Pk G.pn n' B' H' → Qd b n' → Q b H') → t σ H Q
structure BE (X : Cx) (G : Cg) (e : Expr) (t : TE) (w : WE) : Prop where
  pe : PE X e t
  snd : Snd G t w
structure BF (X : Cx) (G : Cg) (e : Expr) (t : TE) (w : WE) : Prop where
  pe : PE X e t
  snd : SndF G t w
structure BN (X : Cx) (G : Cg) (e : Expr) (t : TE) (w : WN) : Prop where
  pe : PE X e t
  snd : SndN G t w
structure BL (X : Cx) (G : Cg) (e : Expr) (t : TE) (w : WL) : Prop where
  pe : PE X e t
  snd : SndL G t w
structure BA (X : Cx) (G : Cg) (es : List Expr) (t : TA) (w : WA) : Prop where
  pe : PA X es t
  snd : SndA G t w
structure BT (X : Cx) (G : Cg) (e : Expr) (t : TT) (w : WT) : Prop where
  pe : PT X e t
  snd : SndT G t w
section
variable {X : Cx} {G : Cg} {ex : Expr} {t : TE}
theorem BE.f {w : WE} (h : BE X G ex t w) : BF X G ex t w := ⟨h.pe, fun ρ σ n B H E Qd Q S hw x k => h.snd ρ σ n B H E Qd Q S hw x fun v d n' B' H' m pk r q => k v d n' B' H' B' m pk (.of m.s pk) r q⟩
def wOfN (w : WN) : WE := fun ρ n E Q => w ρ n E fun ds n' => Q (.py (.list ds)) n'
theorem BN.e {w : WN} (h : BN X G ex t w) : BE X G ex t (wOfN w) := ⟨h.pe, fun ρ σ n B H E Qd Q S hw x k => h.snd ρ σ n B H E _ Q S hw x fun l vs ds n' B' H' m pk hl fr hl' hz r q =>
  k (.ref l) _ n' (upd B' l (.lst vs)) H' (m.tell fr.1 hl' hl) (pk.tell hl' fun p c T e => (fr.2.2 p c T e).1) (r_lst upd_same (r.mono (same_new fr.1)) hz) q⟩
def wOfE (w : WE) : WL := fun ρ n E Q => w ρ n E fun d n' => match d with
  | .py (.list ds) => Q false ds n'
  | .py (.tuple ds) => Q true ds n'
  | _ => False
theorem BE.l {w : WE} (h : BE X G ex t w) : BL X G ex t (wOfE w) := ⟨h.pe, fun ρ σ n B H E Qd Q S hw x k => h.snd ρ σ n B H E _ Q S hw x fun v d n' B' H' m pk r q => by
  match d, r, q with
  | .py (.list ds), r, q =>
    obtain ⟨a, xs, rfl, h1, h2, h3⟩ := dd_list r
    exact k a xs false ds n' B' H' m pk (m.s _ _ h1) h3 h2 q
  | .py (.tuple ds), r, q =>
    obtain ⟨a, xs, rfl, h1, h2, h3⟩ := dd_tup r
    exact k a xs true ds n' B' H' m pk h1 h3 h2 q⟩
/-- the items, as a list that stands by itself -/
theorem BN.l {w : WN} (h : BN X G ex t w) : BL X G ex t (fun ρ n E Q => w ρ n E fun ds n' => Q false ds n') := ⟨h.pe, fun ρ σ n B H E Qd Q S hw x k => h.snd ρ σ n B H E _ Q S hw x fun l vs ds n' B' H' m pk hl fr hl' hz r q =>
  k l vs false ds n' B' H' m pk hl' hz r q⟩
end
end Fv
set_option maxRecDepth 100000
set_option maxHeartbeats 4000000
/-! Rules that the layer has not. -/
namespace Gb
open PySem PySem.Spec PyProof.Rows L2
section
variable {X : Cx} {Kx : PySem.W.Frag} {a b c d e : Expr} {ta tb tc td te : TE} {p p2 q pos : Pos}
/-- len(set(xs)), xs a list of unlike tuples of ints, fewer than 64 -/
def tLenSetT (K : PySem.W.Frag) (ta : TE) : TE := fun σ H Q => ta σ H fun x H1 => ∃ (l : Addr) (ks : List (Addr × List Int)), x = .ref l ∧ SqL K H1 l (ks.map fun z => V.ref z.1) ∧ (∀ z ∈ ks, SqT K H1 z.1 (z.2.map V.int)) ∧ ks.length < 64 ∧ (ks.map (·.2)).Nodup ∧ Q (.int ks.length) H1
/-- a < b < c < d -/
def tChain3 (r1 r2 r3 : R2) (ta tb tc td : TE) : TE := fun σ H Q => ta σ H fun x H1 => tb σ H1 fun y H2 => r1 x y H2 fun z H3 => ∃ k, z = .bl k ∧
  (if k = true then tc σ H3 fun u H4 => r2 y u H4 fun z2 H5 => ∃ k2, z2 = .bl k2 ∧ (if k2 = true then td σ H5 fun v H6 => r3 u v H6 Q else Q (.bl false) H5) else Q (.bl false) H3)
theorem pe_chain3 {o1 o2 o3 : CmpOp} {r1 r2 r3 : R2} (h1 : OpR X (compareOp o1) r1) (h2 : OpR X (compareOp o2) r2) (h3 : OpR X (compareOp o3) r3) (ha : PE X a ta) (hb : PE X b tb) (hc : PE X c tc) (hd : PE X d td)
    (hm : lastMarks [o1, o2, o3] [b, c, d] = false := by with_unfolding_all rfl) : PE X (.Compare a [o1, o2, o3] [b, c, d] pos) (tChain3 r1 r2 r3 ta tb tc td) := by
  refine ⟨fun pins s σ H Q I h => ?_⟩
  refine Compare_chain (thn (ha.run pins s σ H _ I h) fun v s1 ⟨x, H1, I1, rx, q1⟩ => chain_link (thn (hb.run pins s1 σ H1 _ I1 q1) fun u s2 ⟨y, H2, I2, ry, q2⟩ =>
    thn (h1 pins s2 σ H2 x y v u _ I2 rx ry q2) fun d1 s3 ⟨z, H3, I3, r3', k, ez, q3⟩ => ?_)) hm
  subst ez
  cases r3'
  refine wpAny_truthy_bool ?_
  cases k with
  | false => exact ite_ff ⟨.bl false, H3, I3, rfl, q3⟩
  | true =>
    refine ite_tt (chain_link (thn (hc.run pins s3 σ H3 _ I3 q3) fun w' s4 ⟨z', H4, I4, r4, q4⟩ => thn (h2 pins s4 σ H4 y z' u w' _ I4 ry r4 q4) fun d2 s5 ⟨z2, H5, I5, r5, k2, e2, q5⟩ => ?_))
    subst e2
    cases r5
    refine wpAny_truthy_bool ?_
    cases k2 with
    | false => exact ite_ff ⟨.bl false, H5, I5, rfl, q5⟩
    | true => exact ite_tt (chain_last (thn (hd.run pins s5 σ H5 _ I5 q5) fun w2 s6 ⟨z3, H6, I6, r6, q6⟩ => h3 pins s6 σ H6 z' z3 w' w2 Q I6 r4 r6 q6))
/-- len(o), o of a class with its own __len__ -/
def rLenO (C : Addr) (sp : Sp) : List V → Hp → VK → Prop := fun xs H Q => ∃ x dx fs, xs = [V.ref x] ∧ H x = some (.ins C dx fs) ∧ sp [V.ref x] H (fun v H' => ∃ n : Nat, v = .int n ∧ n < 2 ^ 60 ∧ Q (.int n) H') E0
/-- xs[i] += v -/
def rGetN (K : PySem.W.Frag) : V → V → Hp → VK → Prop := fun x y H Q => ∃ (l : Addr) (xs : List V) (j : Nat) (z : V), x = .ref l ∧ y = .int (j : Int) ∧ SqL K H l xs ∧ xs[j]? = some z ∧ Q z H
end
end Gb
set_option maxRecDepth 100000
set_option maxHeartbeats 4000000
/-! zip of a list and a tuple; a tuple backwards; the greatest and the least of a tuple. -/
namespace Gb
open PySem PySem.Spec PyProof.Rows L2
/-- the list at a and the tuple at b as they stand at each turn, the items in new pairs -/
def ItLT (K : PySem.W.Frag) (a b : Addr) : It :=
  ⟨fun i H => ∃ (xs ys : List V) (x y : V), SqL K H a xs ∧ SqT K H b ys ∧ xs[i]? = some x ∧ ys[i]? = some y,
    fun i H v H' => ∃ T x y, v = .ref T ∧ H T = none ∧ H' = upd H T (.tup [x, y]) ∧ (∀ xs, SqL K H a xs → xs[i]? = some x) ∧ ∀ ys, SqT K H b ys → ys[i]? = some y,
    fun i H => ∃ xs ys : List V, SqL K H a xs ∧ SqT K H b ys ∧ i ≤ xs.length ∧ i ≤ ys.length ∧ (i = xs.length ∨ i = ys.length)⟩
def iZipLT (K : PySem.W.Frag) (ta : TA) : TI := fun σ H R => ta σ H fun vs H1 => ∃ a b xs ys, vs = [.ref a, .ref b] ∧ SqL K H1 a xs ∧ SqT K H1 b ys ∧ R (ItLT K a b) H1
end Gb
set_option maxRecDepth 100000
set_option maxHeartbeats 4000000
/-! max(t), min(t), t a tuple of ints. -/
namespace Gb
open PySem PySem.Spec PyProof.Rows L2
section
variable {X : Cx} {Kx : PySem.W.Frag}
def rMaxT (K : PySem.W.Frag) : List V → Hp → VK → Prop := fun vs H Q => ∃ (a : Addr) (ns : List Int), vs = [V.ref a] ∧ SqT K H a (ns.map V.int) ∧ 0 < ns.length ∧ ∀ m, m ∈ ns → (∀ y, y ∈ ns → y ≤ m) → Q (.int m) H
def rMinT (K : PySem.W.Frag) : List V → Hp → VK → Prop := fun vs H Q => ∃ (a : Addr) (ns : List Int), vs = [V.ref a] ∧ SqT K H a (ns.map V.int) ∧ 0 < ns.length ∧ ∀ m, m ∈ ns → (∀ y, y ∈ ns → m ≤ y) → Q (.int m) H
end
end Gb
set_option maxRecDepth 100000
set_option maxHeartbeats 4000000
/-! Rules of expressions. -/
namespace Fv
open PySem PySem.Spec PyProof.Rows L2 Gb
section
variable {X : Cx} {G : Cg} {a b c d e f : Expr} {ta tb tc td te : TE} {wa wb wc wd we : WE} {pos : Pos} {x : Str}
/-! ### names, constants -/
def wName (i : Nat) : WE := fun ρ n _ Q => match ρ[i]? with
  | some (.val d) => Q d n
  | _ => False
theorem be_nm (i : Nat) (h : PE X a (tVar i)) : BE X G a (tVar i) (wName i) := ⟨h, fun ρ σ n B H E Qd Q S hw _ k => by
  unfold wName at hw
  match hr : ρ[i]?, hw with
  | some (.val d), hw =>
    obtain ⟨v, h1, h2⟩ := S.val i d hr
    exact ⟨v, h1, k v d n B H (Mv.refl S.sub) S.pk h2 hw⟩⟩
theorem _root_.Fv.Free.lk {G : Cg} {n : Nat} {B H : Hp} {l : Addr} {o : HO} (h : Free G B l) (s : Same B H) (pk : Pk G.pn n B H) (hl : H l = some o) (nt : notTb o := by trivial) : Lk G (upd B l o) H := by
  refine ⟨fun b u hb => ?_, fun p c T e => ?_⟩
  · by_cases z : b = l
    · subst z
      rw [upd_same] at hb
      rw [hl, ← hb]
    · rw [upd_ne z] at hb
      exact s _ _ hb
  · rw [e] at pk
    refine ⟨by rw [upd_ne (Ne.symm (h.2.2 p c T e).1)]; exact pk.2.1, fun b ps q => ?_⟩
    by_cases z : b = l
    · subst z
      rw [upd_same] at q
      cases q
      exact absurd nt (fun z => z)
    · rw [upd_ne z] at q
      exact pk.2.2.2.1 _ _ q
/-- a list of one's own, looked at -/
def wOwn (i : Nat) : WE := fun ρ n _ Q => match ρ[i]? with
  | some (.own ds) => Q (.py (.list ds)) n
  | some (.dow ks) => Q (.py (.dict ks)) n
  | _ => False
theorem bf_own (i : Nat) (h : PE X a (tVar i)) : BF X G a (tVar i) (wOwn i) := ⟨h, fun ρ σ n B H E Qd Q S hw _ k => by
  unfold wOwn at hw
  match hr : ρ[i]?, hw with
  | some (.own ds), hw =>
    obtain ⟨l, vs, h1, h2, h3, h4, h5⟩ := S.own i ds hr
    exact ⟨.ref l, h1, k _ _ n B H (upd B l (.lst vs)) (Mv.refl S.sub) S.pk (h5.lk S.sub S.pk h2) (r_lst upd_same (h4.mono (same_new h5.1)) h3) hw⟩
  | some (.dow ks), hw =>
    obtain ⟨l, vs, h1, h2, h4, h5⟩ := S.dow i ks hr
    exact ⟨.ref l, h1, k _ _ n B H (upd B l (.dK vs)) (Mv.refl S.sub) S.pk (h5.lk S.sub S.pk h2) (r_dic upd_same (h4.mono (same_new h5.1))) hw⟩⟩
def wOwnL (i : Nat) : WL := fun ρ n _ Q => match ρ[i]? with
  | some (.own ds) => Q false ds n
  | _ => False
theorem bl_own (i : Nat) (h : PE X a (tVar i)) : BL X G a (tVar i) (wOwnL i) := ⟨h, fun ρ σ n B H E Qd Q S hw _ k => by
  unfold wOwnL at hw
  match hr : ρ[i]?, hw with
  | some (.own ds), hw =>
    obtain ⟨l, vs, h1, h2, h3, h4, h5⟩ := S.own i ds hr
    exact ⟨.ref l, h1, k l vs false ds n B H (Mv.refl S.sub) S.pk h2 h3 h4 hw⟩⟩
def wC (z : D) : WE := fun _ n _ Q => Q z n
theorem be_c {v : V} {z : D} (h : PE X a (tC v)) (r : ∀ B, R G B v z) : BE X G a (tC v) (wC z) := ⟨h, fun ρ σ n B H E Qd Q S hw _ k => k v z n B H (Mv.refl S.sub) S.pk (r B) hw⟩
theorem be_int {i : Int} {j} : BE X G (.Constant (.int i) j pos) (tC (.int i)) (wC (.py (.int i))) := be_c pe_int fun _ => r_int
theorem be_bl {i : Bool} {j} : BE X G (.Constant (.bool i) j pos) (tC (.bl i)) (wC (.py (.bool i))) := be_c pe_bl fun _ => r_bl
theorem be_non {j} : BE X G (.Constant .none j pos) (tC .non) (wC (.py .none)) := be_c pe_non fun _ => r_non
theorem be_str {i : Str} {j} : BE X G (.Constant (.str i) j pos) (tC (.str i)) (wC (.py (.str i))) := be_c pe_str fun _ => r_str
/-- a number of the module -/
theorem be_gi {i : Int} (h : PE X a (tC (.int i))) : BE X G a (tC (.int i)) (wC (.py (.int i))) := be_c h fun _ => r_int
/-! ### operators -/
abbrev BOp := D → D → (D → Prop) → Prop
def wOp (r : BOp) (wa wb : WE) : WE := fun ρ n E Q => wa ρ n E fun x n1 => wb ρ n1 E fun y n2 => r x y fun z => Q z n2
/-- by value, from values that are told -/
def OpS (G : Cg) (r : R2) (w : BOp) : Prop := ∀ B H x y dx dy (P : D → Prop) (Q : VK), Same B H → R G B x dx → R G B y dy → w dx dy P →
  (∀ v d B' H', Mv none B H B' H' → R G B' v d → P d → Q v H') → r x y H Q
theorem be_opB {r : R2} {w : BOp} {op : Operator} (ho : OpR X (binaryOp op) r) (hs : OpS G r w) (ha : BE X G a ta wa) (hb : BE X G b tb wb) : BE X G (.BinOp a op b pos) (tOp r ta tb) (wOp w wa wb) :=
  ⟨pe_op ho ha.pe hb.pe, fun ρ σ n B H E Qd Q S hw xw k => ha.snd ρ σ n B H E _ _ S hw xw fun v1 d1 n1 B1 H1 m1 pk1 r1 q1 =>
    hb.snd ρ σ n1 B1 H1 E _ _ (S.step m1 pk1) q1 (xw.step m1) fun v2 d2 n2 B2 H2 m2 pk2 r2 q2 =>
      hs B2 H2 v1 v2 d1 d2 _ _ m2.s (r1.mono m2.b) r2 q2 fun v d B' H' m r q => k v d n2 B' H' ((m1.trans m2).trans m.of) (pk2.mv m) r q⟩
def bAdd : BOp := fun x y Q => match x, y with
  | .py (.int i), .py (.int j) => Q (.py (.int (i + j)))
  | _, _ => False
theorem bs_add : OpS G (rI0 fun i j => .int (i + j)) bAdd := fun B H x y dx dy P Q sb rx ry h k => by
  match dx, dy, rx, ry, h with
  | .py (.int i), .py (.int j), rx, ry, h =>
    cases dd_int rx
    cases dd_int ry
    exact ⟨i, j, rfl, rfl, k _ _ B H (Mv.refl sb) r_int h⟩
def bSub : BOp := fun x y Q => match x, y with
  | .py (.int i), .py (.int j) => Q (.py (.int (i - j)))
  | _, _ => False
theorem bs_sub : OpS G (rI0 fun i j => .int (i - j)) bSub := fun B H x y dx dy P Q sb rx ry h k => by
  match dx, dy, rx, ry, h with
  | .py (.int i), .py (.int j), rx, ry, h =>
    cases dd_int rx
    cases dd_int ry
    exact ⟨i, j, rfl, rfl, k _ _ B H (Mv.refl sb) r_int h⟩
/-- one factor small -/
def bMul : BOp := fun x y Q => match x, y with
  | .py (.int i), .py (.int j) => CMul i j ∧ Q (.py (.int (i * j)))
  | _, _ => False
theorem bs_mul : OpS G (rI CMul fun i j => .int (i * j)) bMul := fun B H x y dx dy P Q sb rx ry h k => by
  match dx, dy, rx, ry, h with
  | .py (.int i), .py (.int j), rx, ry, h =>
    cases dd_int rx
    cases dd_int ry
    exact ⟨i, j, rfl, rfl, h.1, k _ _ B H (Mv.refl sb) r_int h.2⟩
def bMod : BOp := fun x y Q => match x, y with
  | .py (.int i), .py (.int j) => 0 < j ∧ Q (.py (.int (i % j)))
  | _, _ => False
theorem bs_mod : OpS G (rI (fun _ j => 0 < j) fun i j => .int (i % j)) bMod := fun B H x y dx dy P Q sb rx ry h k => by
  match dx, dy, rx, ry, h with
  | .py (.int i), .py (.int j), rx, ry, h =>
    cases dd_int rx
    cases dd_int ry
    exact ⟨i, j, rfl, rfl, h.1, k _ _ B H (Mv.refl sb) r_int h.2⟩
def bDiv : BOp := fun x y Q => match x, y with
  | .py (.int i), .py (.int j) => CDiv i j ∧ Q (.py (.int (i / j)))
  | _, _ => False
theorem bs_div : OpS G (rI CDiv fun i j => .int (i / j)) bDiv := fun B H x y dx dy P Q sb rx ry h k => by
  match dx, dy, rx, ry, h with
  | .py (.int i), .py (.int j), rx, ry, h =>
    cases dd_int rx
    cases dd_int ry
    exact ⟨i, j, rfl, rfl, h.1, k _ _ B H (Mv.refl sb) r_int h.2⟩
def bPow : BOp := fun x y Q => match x, y with
  | .py (.int i), .py (.int j) => CPow i j ∧ Q (.py (.int (i ^ j.toNat)))
  | _, _ => False
theorem be_add (ha : BE X G a ta wa) (hb : BE X G b tb wb) : BE X G (.BinOp a .Add b pos) (tOp (rI0 fun i j => .int (i + j)) ta tb) (wOp bAdd wa wb) := be_opB op_add bs_add ha hb
theorem be_sub (ha : BE X G a ta wa) (hb : BE X G b tb wb) : BE X G (.BinOp a .Sub b pos) (tOp (rI0 fun i j => .int (i - j)) ta tb) (wOp bSub wa wb) := be_opB op_sub bs_sub ha hb
theorem be_mul (ha : BE X G a ta wa) (hb : BE X G b tb wb) : BE X G (.BinOp a .Mult b pos) (tOp (rI CMul fun i j => .int (i * j)) ta tb) (wOp bMul wa wb) := be_opB op_mul bs_mul ha hb
theorem be_mod (ha : BE X G a ta wa) (hb : BE X G b tb wb) : BE X G (.BinOp a .Mod b pos) (tOp (rI (fun _ j => 0 < j) fun i j => .int (i % j)) ta tb) (wOp bMod wa wb) := be_opB op_mod bs_mod ha hb
theorem be_div (ha : BE X G a ta wa) (hb : BE X G b tb wb) : BE X G (.BinOp a .FloorDiv b pos) (tOp (rI CDiv fun i j => .int (i / j)) ta tb) (wOp bDiv wa wb) := be_opB op_fdiv bs_div ha hb
def wNeg (wa : WE) : WE := fun ρ n E Q => wa ρ n E fun x n1 => match x with
  | .py (.int i) => Q (.py (.int (-i))) n1
  | _ => False
theorem be_neg (ha : BE X G a ta wa) : BE X G (.UnaryOp .USub a pos) (tUn (rU fun i => .int (-i)) ta) (wNeg wa) :=
  ⟨pe_un un_neg ha.pe, fun ρ σ n B H E Qd Q S hw xw k => ha.snd ρ σ n B H E _ _ S hw xw fun v1 d1 n1 B1 H1 m1 pk1 r1 q1 => by
    match d1, r1, q1 with
    | .py (.int i), r1, q1 =>
      cases dd_int r1
      exact ⟨i, rfl, k _ _ n1 B1 H1 m1 pk1 r_int q1⟩⟩
/-- two tuples one behind the other, the first with an item at least -/
def bCatT : BOp := fun x y Q => match x, y with
  | .py (.tuple xs), .py (.tuple ys) => xs ≠ [] ∧ xs.length + ys.length ≤ 100000 ∧ Q (.py (.tuple (xs ++ ys)))
  | _, _ => False
theorem line5 {n : Nat} (h : n ≤ 100000) : n ≤ sizeLine := Nat.le_trans h (by decide)
end
end Fv
set_option maxRecDepth 100000
set_option maxHeartbeats 4000000
/-! Comparisons, tests, displays, places, built-ins. -/
namespace Fv
open PySem PySem.Spec PyProof.Rows L2 Gb
/-- lists and tuples stay -/
def Exq (H H' : Hp) : Prop := ∀ b o, H b = some o → notDk o → notTb o → H' b = some o
theorem Exq.rd {H H' : Hp} {a : Addr} {u : HO} (e : Exq H H') (h : Rd H a u) (n : notDk u) (n2 : notTb u) : Rd H' a u := by
  rcases h with h | ⟨o, h⟩
  · exact .inl (e _ _ h n n2)
  · exact .inr ⟨o, e _ _ h trivial trivial⟩
theorem Exq.l {K : PySem.W.Frag} {H H' : Hp} {a : Addr} {xs : List V} (e : Exq H H') (h : SqL K H a xs) : SqL K H' a xs := by
  rcases h with h | h
  · exact .inl (e.rd h trivial trivial)
  · exact .inr h
theorem Exq.t {K : PySem.W.Frag} {H H' : Hp} {a : Addr} {xs : List V} (e : Exq H H') (h : SqT K H a xs) : SqT K H' a xs := by
  rcases h with h | h
  · exact .inl (e.rd h trivial trivial)
  · exact .inr h
theorem Kp.ex {pn : Pn} {n : Nat} {B H H' : Hp} (k : Kp pn H H') (pk : Pk pn n B H) : Exq H H' := by
  cases pn with
  | none => exact fun b o h _ _ => k _ _ h
  | some pc =>
    intro b o h nd nt
    refine k.1 _ _ (fun z => ?_) nt h
    obtain ⟨⟨t, l, xs, h1, _⟩, _⟩ := pk
    rw [z, h1] at h
    cases h
    exact nd
section
variable {X : Cx} {G : Cg} {a b c d e f : Expr} {es : List Expr} {ta tb tc td te : TE} {wa wb wc wd we : WE} {pos p : Pos} {x : Str} {n : Nat}
theorem Lk.r {B H : Hp} {v : V} {d : D} {Bf H' : Hp} (h : Lk G Bf H) : Same Bf H := h.1
/-! ### comparisons -/
abbrev BC := D → D → (Bool → Prop) → Prop
def OpF (G : Cg) (r : R2) (w : BC) : Prop := ∀ H x y dx dy (P : Bool → Prop) (Q : VK), R G H x dx → R G H y dy → w dx dy P → (∀ z, P z → Q (.bl z) H) → r x y H Q
def wCmp (w : BC) (wa wb : WE) : WE := fun ρ n E Q => wa ρ n E fun x n1 => wb ρ n1 E fun y n2 => w x y fun z => Q (.py (.bool z)) n2
theorem be_cmp {op : CmpOp} {r : R2} {w : BC} (ho : OpR X (compareOp op) r) (hs : OpF G r w) (ha : BF X G a ta wa) (hb : BF X G b tb wb) (hm : behindInMarks op b = false) : BE X G (.Compare a [op] [b] pos) (tOp r ta tb) (wCmp w wa wb) :=
  ⟨pe_cmpR ho ha.pe hb.pe hm, fun ρ σ n B H E Qd Q S hw xw k => ha.snd ρ σ n B H E _ _ S hw xw fun v1 d1 n1 B1 H1 F1 m1 pk1 lk1 r1 q1 =>
    hb.snd ρ σ n1 B1 H1 E _ _ (S.step m1 pk1) q1 (xw.step m1) fun v2 d2 n2 B2 H2 F2 m2 pk2 lk2 r2 q2 =>
      hs H2 v1 v2 d1 d2 _ _ (r1.mono (lk1.step m2.kp).1) (r2.mono lk2.1) q2 fun z pz => k _ _ n2 B2 H2 (m1.trans m2) pk2 r_bl pz⟩
def bInt (f : Int → Int → Bool) : BC := fun x y Q => match x, y with
  | .py (.int i), .py (.int j) => Q (f i j)
  | _, _ => False
theorem of_int {f : Int → Int → Bool} : OpF G (rI0 fun i j => .bl (f i j)) (bInt f) := fun H x y dx dy P Q rx ry h k => by
  match dx, dy, rx, ry, h with
  | .py (.int i), .py (.int j), rx, ry, h =>
    cases dd_int rx
    cases dd_int ry
    exact ⟨i, j, rfl, rfl, k _ h⟩
abbrev bLt : BC := bInt fun i j => decide (i < j)
abbrev bLe : BC := bInt fun i j => decide (i ≤ j)
abbrev bGt : BC := bInt fun i j => decide (j < i)
abbrev bGe : BC := bInt fun i j => decide (j ≤ i)
def bEq : BC := fun x y Q => match x, y with
  | .py d, .py e => SeqAt.shaped d = true ∧ SeqAt.shaped e = true ∧ Q (PyData.eqv d e)
  | _, _ => False
theorem shaped_lay {d : PyData} (h : SeqAt.shaped d = true) : d.canLay0 = true := by
  unfold SeqAt.shaped at h
  exact (Bool.and_eq_true_iff.mp h).1
theorem of_eq : OpF G (rEqD G.K) bEq := fun H x y dx dy P Q rx ry h k => by
  match dx, dy, rx, ry, h with
  | .py d, .py e, rx, ry, h => exact ⟨d, e, Dd.dp rx (shaped_lay h.1), Dd.dp ry (shaped_lay h.2.1), h.1, h.2.1, k _ h.2.2⟩
def bNe : BC := fun x y Q => match x, y with
  | .py d, .py e => SeqAt.shaped d = true ∧ SeqAt.shaped e = true ∧ Q (!PyData.eqv d e)
  | _, _ => False
theorem of_ne : OpF G (rNeD G.K) bNe := fun H x y dx dy P Q rx ry h k => by
  match dx, dy, rx, ry, h with
  | .py d, .py e, rx, ry, h => exact ⟨d, e, Dd.dp rx (shaped_lay h.1), Dd.dp ry (shaped_lay h.2.1), h.1, h.2.1, k _ h.2.2⟩
def isNon : D → Bool
  | .py .none => true
  | .raw .non => true
  | _ => false
theorem r_isNon {H : Hp} {v : V} {d : D} (r : R G H v d) : decide (v = .non) = isNon d := by
  cases d with
  | py d =>
    have r' : Dd G.K H v d := r
    cases r' with
    | non => rfl
    | bl b => exact decide_eq_false (fun z => nomatch z)
    | int b => exact decide_eq_false (fun z => nomatch z)
    | str b => exact decide_eq_false (fun z => nomatch z)
    | lst _ _ _ => exact decide_eq_false (fun z => nomatch z)
    | tup _ _ _ => exact decide_eq_false (fun z => nomatch z)
    | dic _ _ => exact decide_eq_false (fun z => nomatch z)
  | web s M =>
    obtain ⟨a, rfl, _⟩ := r
    exact decide_eq_false (fun z => nomatch z)
  | raw w =>
    have e : v = w := r
    subst e
    cases v <;> first | rfl | exact decide_eq_false (fun z => nomatch z)
  | pen =>
    obtain ⟨p, c, T, _, rfl⟩ := r
    exact decide_eq_false (fun z => nomatch z)
  | exc x =>
    obtain ⟨a, C, dd, rfl, _⟩ := r
    exact decide_eq_false (fun z => nomatch z)
def bIsN : BC := fun x y Q => match y with
  | .py .none => Q (isNon x)
  | _ => False
def bNotN : BC := fun x y Q => match y with
  | .py .none => Q (!isNon x)
  | _ => False
theorem of_notN : OpF G (fun x y H Q => y = .non ∧ Q (.bl (!decide (x = .non))) H) bNotN := fun H x y dx dy P Q rx ry h k => by
  match dy, ry, h with
  | .py .none, ry, h =>
    cases dd_non ry
    refine ⟨rfl, ?_⟩
    rw [r_isNon rx]
    exact k _ h
/-- x in a list -/
def bIn : BC := fun x y Q => match x, y with
  | .py d, .py (.list ds) => SeqAt.shaped d = true ∧ SeqAt.shaped (.list ds) = true ∧ Q (ds.any fun z => PyData.eqv z d)
  | _, _ => False
def bNotIn : BC := fun x y Q => match x, y with
  | .py d, .py (.list ds) => SeqAt.shaped d = true ∧ SeqAt.shaped (.list ds) = true ∧ Q (!ds.any fun z => PyData.eqv z d)
  | _, _ => False
theorem be_le (ha : BF X G a ta wa) (hb : BF X G b tb wb) : BE X G (.Compare a [.LtE] [b] pos) (tOp (rI0 fun i j => .bl (decide (i ≤ j))) ta tb) (wCmp bLe wa wb) := be_cmp op_le of_int ha hb (nomark _)
theorem be_ge (ha : BF X G a ta wa) (hb : BF X G b tb wb) : BE X G (.Compare a [.GtE] [b] pos) (tOp (rI0 fun i j => .bl (decide (j ≤ i))) ta tb) (wCmp bGe wa wb) := be_cmp op_ge of_int ha hb (nomark _)
theorem be_eq (hu : X.A.units + 64 < cLine) (ha : BF X G a ta wa) (hb : BF X G b tb wb) (hK : X.K = G.K := by rfl) : BE X G (.Compare a [.Eq] [b] pos) (tOp (rEqD G.K) ta tb) (wCmp bEq wa wb) := be_cmp (hK ▸ op_eqD hu) of_eq ha hb (nomark _)
/-- a op b op' c -/
def wChain (w w' : BC) (wa wb wc : WE) : WE := fun ρ n E Q => wa ρ n E fun x n1 => wb ρ n1 E fun y n2 => w x y fun z => if z = true then wc ρ n2 E fun u n3 => w' y u fun z' => Q (.py (.bool z')) n3 else Q (.py (.bool false)) n2
theorem be_chain {op op' : CmpOp} {r r' : R2} {w w' : BC} (ho : OpR X (compareOp op) r) (ho' : OpR X (compareOp op') r') (hs : OpF G r w) (hs' : OpF G r' w') (ha : BF X G a ta wa) (hb : BF X G b tb wb) (hc : BF X G c tc wc) (hm : lastMarks [op, op'] [b, c] = false := by with_unfolding_all rfl) :
    BE X G (.Compare a [op, op'] [b, c] pos) (tChain r r' ta tb tc) (wChain w w' wa wb wc) :=
  ⟨pe_chain ho ho' ha.pe hb.pe hc.pe hm, fun ρ σ n B H E Qd Q S hw xw k => ha.snd ρ σ n B H E _ _ S hw xw fun v1 d1 n1 B1 H1 F1 m1 pk1 lk1 r1 q1 =>
    hb.snd ρ σ n1 B1 H1 E _ _ (S.step m1 pk1) q1 (xw.step m1) fun v2 d2 n2 B2 H2 F2 m2 pk2 lk2 r2 q2 =>
      hs H2 v1 v2 d1 d2 _ _ (r1.mono (lk1.step m2.kp).1) (r2.mono lk2.1) q2 fun z pz => by
        refine ⟨z, rfl, ?_⟩
        cases z with
        | false =>
          rw [if_neg (by decide)] at pz ⊢
          exact k _ _ n2 B2 H2 (m1.trans m2) pk2 r_bl pz
        | true =>
          rw [if_pos rfl] at pz ⊢
          exact hc.snd ρ σ n2 B2 H2 E _ _ (S.step (m1.trans m2) pk2) pz (xw.step (m1.trans m2)) fun v3 d3 n3 B3 H3 F3 m3 pk3 lk3 r3 q3 =>
            hs' H3 v2 v3 d2 d3 _ _ (r2.mono (lk2.step m3.kp).1) (r3.mono lk3.1) q3 fun z pz => k _ _ n3 B3 H3 ((m1.trans m2).trans m3) pk3 r_bl pz⟩
/-- a op b op' c op'' d -/
def wChain3 (w w' w2 : BC) (wa wb wc wd : WE) : WE := fun ρ n E Q => wa ρ n E fun x n1 => wb ρ n1 E fun y n2 => w x y fun z => if z = true then wc ρ n2 E fun u n3 => w' y u fun z' => (if z' = true then wd ρ n3 E fun v n4 => w2 u v fun z2 => Q (.py (.bool z2)) n4 else Q (.py (.bool false)) n3) else Q (.py (.bool false)) n2
theorem be_chain3 {op op' op2 : CmpOp} {r r' r2 : R2} {w w' w2 : BC} (ho : OpR X (compareOp op) r) (ho' : OpR X (compareOp op') r') (ho2 : OpR X (compareOp op2) r2) (hs : OpF G r w) (hs' : OpF G r' w') (hs2 : OpF G r2 w2) (ha : BF X G a ta wa) (hb : BF X G b tb wb) (hc : BF X G c tc wc) (hd : BF X G d td wd)
    (hm : lastMarks [op, op', op2] [b, c, d] = false := by with_unfolding_all rfl) : BE X G (.Compare a [op, op', op2] [b, c, d] pos) (tChain3 r r' r2 ta tb tc td) (wChain3 w w' w2 wa wb wc wd) :=
  ⟨pe_chain3 ho ho' ho2 ha.pe hb.pe hc.pe hd.pe hm, fun ρ σ n B H E Qd Q S hw xw k => ha.snd ρ σ n B H E _ _ S hw xw fun v1 d1 n1 B1 H1 F1 m1 pk1 lk1 r1 q1 =>
    hb.snd ρ σ n1 B1 H1 E _ _ (S.step m1 pk1) q1 (xw.step m1) fun v2 d2 n2 B2 H2 F2 m2 pk2 lk2 r2_ q2 =>
      hs H2 v1 v2 d1 d2 _ _ (r1.mono (lk1.step m2.kp).1) (r2_.mono lk2.1) q2 fun z pz => by
        refine ⟨z, rfl, ?_⟩
        cases z with
        | false =>
          rw [if_neg (by decide)] at pz ⊢
          exact k _ _ n2 B2 H2 (m1.trans m2) pk2 r_bl pz
        | true =>
          rw [if_pos rfl] at pz ⊢
          refine hc.snd ρ σ n2 B2 H2 E _ _ (S.step (m1.trans m2) pk2) pz (xw.step (m1.trans m2)) fun v3 d3 n3 B3 H3 F3 m3 pk3 lk3 r3 q3 =>
            hs' H3 v2 v3 d2 d3 _ _ (r2_.mono (lk2.step m3.kp).1) (r3.mono lk3.1) q3 fun z' pz' => ?_
          refine ⟨z', rfl, ?_⟩
          have m03 := (m1.trans m2).trans m3
          cases z' with
          | false =>
            rw [if_neg (by decide)] at pz' ⊢
            exact k _ _ n3 B3 H3 m03 pk3 r_bl pz'
          | true =>
            rw [if_pos rfl] at pz' ⊢
            exact hd.snd ρ σ n3 B3 H3 E _ _ (S.step m03 pk3) pz' (xw.step m03) fun v4 d4 n4 B4 H4 F4 m4 pk4 lk4 r4 q4 =>
              hs2 H4 v3 v4 d3 d4 _ _ (r3.mono (lk3.step m4.kp).1) (r4.mono lk4.1) q4 fun z2 pz2 => k _ _ n4 B4 H4 (m03.trans m4) pk4 r_bl pz2⟩
end
end Fv
set_option maxRecDepth 100000
set_option maxHeartbeats 4000000
/-! Tests, and / or / not, displays, places, parts of lists and tuples. -/
namespace Fv
open PySem PySem.Spec PyProof.Rows L2 Gb
section
variable {X : Cx} {G : Cg} {a b c d e f : Expr} {es rest : List Expr} {ta tb tc td te : TE} {wa wb wc wd we : WE} {pos p : Pos} {x : Str} {n : Nat} {t u : TT} {w v : WT}
/-! ### tests -/
def wOfT (w : WE) : WT := fun ρ n E Q => w ρ n E fun d n' => match d with
  | .py (.bool k) => Q k n'
  | _ => False
theorem bt_val (ha : BE X G a ta wa) (he : ∀ whole, isTrue a X.env whole = (do let v ← whole; standAt a.pos; holding [v] (truthy v)) := by intro _; rfl) : BT X G a (tB ta) (wOfT wa) :=
  ⟨pt_val ha.pe he, fun ρ σ n B H E Qd Q S hw xw k => ha.snd ρ σ n B H E _ _ S hw xw fun v d n' B' H' m pk r q => by
    match d, r, q with
    | .py (.bool z), r, q =>
      cases dd_bl r
      exact ⟨z, rfl, k z n' B' H' m pk q⟩⟩
/-- a comparison as a test -/
theorem bt_cmp {op : CmpOp} {tt : TE} {w : WE} (ha : BE X G (.Compare a [op] [b] pos) tt w) (h : PT X (.Compare a [op] [b] pos) (tTest tt)) : BT X G (.Compare a [op] [b] pos) (tTest tt) (wOfT w) :=
  ⟨h, fun ρ σ n B H E Qd Q S hw xw k => ha.snd ρ σ n B H E _ _ S hw xw fun v d n' B' H' m pk r q => by
    match d, r, q with
    | .py (.bool z), r, q =>
      cases dd_bl r
      exact ⟨z, rfl, k z n' B' H' m pk q⟩⟩
theorem bt_cmpR {op : CmpOp} {r : R2} {w : BC} (ho : OpR X (compareOp op) r) (hs : OpF G r w) (ha : BF X G a ta wa) (hb : BF X G b tb wb) (hm : behindInMarks op b = false) : BT X G (.Compare a [op] [b] pos) (tTest (tOp r ta tb)) (wOfT (wCmp w wa wb)) :=
  bt_cmp (be_cmp ho hs ha hb hm) (pt_cmpR ho ha.pe hb.pe hm)
theorem bt_lt (ha : BF X G a ta wa) (hb : BF X G b tb wb) : BT X G (.Compare a [.Lt] [b] pos) (tTest (tOp (rI0 fun i j => .bl (decide (i < j))) ta tb)) (wOfT (wCmp bLt wa wb)) := bt_cmpR op_lt of_int ha hb (nomark _)
theorem bt_gt (ha : BF X G a ta wa) (hb : BF X G b tb wb) : BT X G (.Compare a [.Gt] [b] pos) (tTest (tOp (rI0 fun i j => .bl (decide (j < i))) ta tb)) (wOfT (wCmp bGt wa wb)) := bt_cmpR op_gt of_int ha hb (nomark _)
theorem bt_eq (hu : X.A.units + 64 < cLine) (ha : BF X G a ta wa) (hb : BF X G b tb wb) (hK : X.K = G.K := by rfl) : BT X G (.Compare a [.Eq] [b] pos) (tTest (tOp (rEqD G.K) ta tb)) (wOfT (wCmp bEq wa wb)) := bt_cmpR (hK ▸ op_eqD hu) of_eq ha hb (nomark _)
theorem bt_ne (hu : X.A.units + 64 < cLine) (ha : BF X G a ta wa) (hb : BF X G b tb wb) (hK : X.K = G.K := by rfl) : BT X G (.Compare a [.NotEq] [b] pos) (tTest (tOp (rNeD G.K) ta tb)) (wOfT (wCmp bNe wa wb)) := bt_cmpR (hK ▸ op_neD hu) of_ne ha hb (nomark _)
theorem bt_notN (ha : BF X G a ta wa) (hb : BF X G b tb wb) : BT X G (.Compare a [.IsNot] [b] pos) (tTest (tOp (fun x y H Q => y = .non ∧ Q (.bl (!decide (x = .non))) H) ta tb)) (wOfT (wCmp bNotN wa wb)) := bt_cmpR op_notN of_notN ha hb (nomark _)
structure BW (X : Cx) (G : Cg) (e : Expr) (t : TT) (w : WT) : Prop where
  pw : PW X e t
  snd : SndT G t w
def wAnd (w v : WT) : WT := fun ρ n E Q => w ρ n E fun k n1 => if k = true then v ρ n1 E Q else Q false n1
def wOr (w v : WT) : WT := fun ρ n E Q => w ρ n E fun k n1 => if k = true then Q true n1 else v ρ n1 E Q
def wNotT (w : WT) : WT := fun ρ n E Q => w ρ n E fun k n1 => Q (!k) n1
theorem bw_and1 (h : BT X G a t w) : BW X G (.BoolOp .And [a] pos) t w := ⟨pw_and1 h.pe, h.snd⟩
theorem bw_or1 (h : BT X G a t w) : BW X G (.BoolOp .Or [a] pos) t w := ⟨pw_or1 h.pe, h.snd⟩
theorem bw_and (h : BT X G a t w) (h2 : BW X G (.BoolOp .And (b :: rest) pos) u v) : BW X G (.BoolOp .And (a :: b :: rest) pos) (tAnd t u) (wAnd w v) :=
  ⟨pw_and h.pe h2.pw, fun ρ σ n B H E Qd Q S hw xw k => h.snd ρ σ n B H E _ _ S hw xw fun z n1 B1 H1 m1 pk1 q1 => by
    cases z with
    | false =>
      rw [if_neg (by decide)] at q1 ⊢
      exact k false n1 B1 H1 m1 pk1 q1
    | true =>
      rw [if_pos rfl] at q1 ⊢
      exact h2.snd ρ σ n1 B1 H1 E _ _ (S.step m1 pk1) q1 (xw.step m1) fun z2 n2 B2 H2 m2 pk2 q2 => k z2 n2 B2 H2 (m1.trans m2) pk2 q2⟩
theorem bw_or (h : BT X G a t w) (h2 : BW X G (.BoolOp .Or (b :: rest) pos) u v) : BW X G (.BoolOp .Or (a :: b :: rest) pos) (tOr t u) (wOr w v) :=
  ⟨pw_or h.pe h2.pw, fun ρ σ n B H E Qd Q S hw xw k => h.snd ρ σ n B H E _ _ S hw xw fun z n1 B1 H1 m1 pk1 q1 => by
    cases z with
    | true =>
      rw [if_pos rfl] at q1 ⊢
      exact k true n1 B1 H1 m1 pk1 q1
    | false =>
      rw [if_neg (by decide)] at q1 ⊢
      exact h2.snd ρ σ n1 B1 H1 E _ _ (S.step m1 pk1) q1 (xw.step m1) fun z2 n2 B2 H2 m2 pk2 q2 => k z2 n2 B2 H2 (m1.trans m2) pk2 q2⟩
theorem BW.bt (h : BW X G a t w) : BT X G a t w := ⟨h.pw.pt, h.snd⟩
theorem bt_not (h : BT X G a t w) : BT X G (.UnaryOp .Not a pos) (tNot t) (wNotT w) := ⟨pt_not h.pe, fun ρ σ n B H E Qd Q S hw xw k => h.snd ρ σ n B H E _ _ S hw xw fun z n1 B1 H1 m1 pk1 q1 => k _ n1 B1 H1 m1 pk1 q1⟩
/-- as values -/
def wAndV (wa wb : WE) : WE := fun ρ n E Q => wa ρ n E fun d n1 => match d with
  | .py (.bool k) => if k = true then wb ρ n1 E Q else Q (.py (.bool false)) n1
  | _ => False
def wOrV (wa wb : WE) : WE := fun ρ n E Q => wa ρ n E fun d n1 => match d with
  | .py (.bool k) => if k = true then Q (.py (.bool true)) n1 else wb ρ n1 E Q
  | _ => False
def wNotV (wa : WE) : WE := fun ρ n E Q => wa ρ n E fun d n1 => match d with
  | .py (.bool k) => Q (.py (.bool (!k))) n1
  | _ => False
theorem be_one {op} (h : BE X G a ta wa) : BE X G (.BoolOp op [a] pos) ta wa := ⟨pe_one h.pe, h.snd⟩
theorem be_and (h : BE X G a ta wa) (h2 : BE X G (.BoolOp .And (b :: rest) pos) tb wb) : BE X G (.BoolOp .And (a :: b :: rest) pos) (tAndV ta tb) (wAndV wa wb) :=
  ⟨pe_and h.pe h2.pe, fun ρ σ n B H E Qd Q S hw xw k => h.snd ρ σ n B H E _ _ S hw xw fun v d n1 B1 H1 m1 pk1 r1 q1 => by
    match d, r1, q1 with
    | .py (.bool z), r1, q1 =>
      cases dd_bl r1
      refine ⟨z, rfl, ?_⟩
      cases z with
      | false =>
        rw [if_neg (by decide)]
        exact k _ _ n1 B1 H1 m1 pk1 r_bl q1
      | true =>
        rw [if_pos rfl]
        exact h2.snd ρ σ n1 B1 H1 E _ _ (S.step m1 pk1) q1 (xw.step m1) fun v2 d2 n2 B2 H2 m2 pk2 r2 q2 => k v2 d2 n2 B2 H2 (m1.trans m2) pk2 r2 q2⟩
theorem be_or (h : BE X G a ta wa) (h2 : BE X G (.BoolOp .Or (b :: rest) pos) tb wb) : BE X G (.BoolOp .Or (a :: b :: rest) pos) (tOrV ta tb) (wOrV wa wb) :=
  ⟨pe_or h.pe h2.pe, fun ρ σ n B H E Qd Q S hw xw k => h.snd ρ σ n B H E _ _ S hw xw fun v d n1 B1 H1 m1 pk1 r1 q1 => by
    match d, r1, q1 with
    | .py (.bool z), r1, q1 =>
      cases dd_bl r1
      refine ⟨z, rfl, ?_⟩
      cases z with
      | true =>
        rw [if_pos rfl]
        exact k _ _ n1 B1 H1 m1 pk1 r_bl q1
      | false =>
        rw [if_neg (by decide)]
        exact h2.snd ρ σ n1 B1 H1 E _ _ (S.step m1 pk1) q1 (xw.step m1) fun v2 d2 n2 B2 H2 m2 pk2 r2 q2 => k v2 d2 n2 B2 H2 (m1.trans m2) pk2 r2 q2⟩
theorem be_not (h : BE X G a ta wa) : BE X G (.UnaryOp .Not a pos) (tNotV ta) (wNotV wa) :=
  ⟨pe_not h.pe, fun ρ σ n B H E Qd Q S hw xw k => h.snd ρ σ n B H E _ _ S hw xw fun v d n1 B1 H1 m1 pk1 r1 q1 => by
    match d, r1, q1 with
    | .py (.bool z), r1, q1 =>
      cases dd_bl r1
      exact ⟨z, rfl, k _ _ n1 B1 H1 m1 pk1 r_bl q1⟩⟩
def wIfE (w : WT) (wa wb : WE) : WE := fun ρ n E Q => w ρ n E fun k n1 => if k = true then wa ρ n1 E Q else wb ρ n1 E Q
theorem be_ifExp (h : BT X G c t w) (ha : BE X G a ta wa) (hb : BE X G b tb wb) : BE X G (.IfExp c a b pos) (tIf t ta tb) (wIfE w wa wb) :=
  ⟨pe_ifExp h.pe ha.pe hb.pe, fun ρ σ n B H E Qd Q S hw xw k => h.snd ρ σ n B H E _ _ S hw xw fun z n1 B1 H1 m1 pk1 q1 => by
    cases z with
    | true =>
      rw [if_pos rfl] at q1 ⊢
      exact ha.snd ρ σ n1 B1 H1 E _ _ (S.step m1 pk1) q1 (xw.step m1) fun v2 d2 n2 B2 H2 m2 pk2 r2 q2 => k v2 d2 n2 B2 H2 (m1.trans m2) pk2 r2 q2
    | false =>
      rw [if_neg (by decide)] at q1 ⊢
      exact hb.snd ρ σ n1 B1 H1 E _ _ (S.step m1 pk1) q1 (xw.step m1) fun v2 d2 n2 B2 H2 m2 pk2 r2 q2 => k v2 d2 n2 B2 H2 (m1.trans m2) pk2 r2 q2⟩
/-- truth of a list, a tuple, a number, None -/
def truD : PyData → Bool
  | .none => false
  | .bool b => b
  | .int i => i != 0
  | .str y => (y.length : Int) != 0
  | .list ds => !ds.isEmpty
  | .tuple ds => !ds.isEmpty
  | .dict ks => !ks.isEmpty
def wTru (w : WE) : WT := fun ρ n E Q => w ρ n E fun d n1 => match d with
  | .py (.str _) => False
  | .py d => Q (truD d) n1
  | _ => False
theorem DdA.empty {K : PySem.W.Frag} {H : Hp} {vs : List V} {ds : List PyData} (h : DdA K H vs ds) : vs.isEmpty = ds.isEmpty := by cases h <;> rfl
theorem DdK.empty {K : PySem.W.Frag} {H : Hp} {vs : List (Key × V)} {ds : List (PyData × PyData)} (h : DdK K H vs ds) : vs.isEmpty = ds.isEmpty := by cases h <;> rfl
/-! ### arguments, displays -/
def wANil : WA := fun _ n _ Q => Q [] n
def wACons (wa : WE) (wr : WA) : WA := fun ρ n E Q => wa ρ n E fun d n1 => wr ρ n1 E fun ds n2 => Q (d :: ds) n2
theorem ba_nil : BA X G [] tNil wANil := ⟨pa_nil, fun ρ σ n B H E Qd Q S hw _ k => k [] [] n B H (Mv.refl S.sub) S.pk trivial hw⟩
theorem ba_cons {tr : TA} {wr : WA} (ha : BE X G a ta wa) (hr : BA X G es tr wr) (hs : starEach (a :: es) X.env = (false, eval a X.env) :: starEach es X.env := by rfl) : BA X G (a :: es) (tCons ta tr) (wACons wa wr) :=
  ⟨pa_cons ha.pe hr.pe hs, fun ρ σ n B H E Qd Q S hw xw k => ha.snd ρ σ n B H E _ _ S hw xw fun v1 d1 n1 B1 H1 m1 pk1 r1 q1 =>
    hr.snd ρ σ n1 B1 H1 E _ _ (S.step m1 pk1) q1 (xw.step m1) fun vs ds n2 B2 H2 m2 pk2 r2 q2 => k (v1 :: vs) (d1 :: ds) n2 B2 H2 (m1.trans m2) pk2 ⟨r1.mono m2.b, r2⟩ q2⟩
/-- all of them data -/
def pyAll : List D → Option (List PyData)
  | [] => some []
  | .py d :: ds => (pyAll ds).map (d :: ·)
  | _ :: _ => none
theorem ra_py {B : Hp} : ∀ {vs : List V} {ds : List D} {ps : List PyData}, RA G B vs ds → pyAll ds = some ps → DdA G.K B vs ps
  | [], [], _, _, e => by
    cases e
    exact .nil
  | v :: vs, .py d :: ds, ps, h, e => by
    obtain ⟨h1, h2⟩ := h
    unfold pyAll at e
    cases q : pyAll ds with
    | none =>
      rw [q] at e
      cases e
    | some qs =>
      rw [q] at e
      cases e
      exact .cons h1 (ra_py h2 q)
  | _ :: _, .web _ _ :: _, _, _, e => by cases e
  | _ :: _, .raw _ :: _, _, _, e => by cases e
  | _ :: _, .pen :: _, _, _, e => by cases e
  | [], _ :: _, _, h, _ => h.elim
  | _ :: _, [], _, h, _ => h.elim
def wTup (w : WA) : WE := fun ρ n E Q => w ρ n E fun ds n1 => match pyAll ds with
  | some ps => ps.length ≤ 100000 ∧ Q (.py (.tuple ps)) n1
  | none => False
theorem be_tup {kt : Nat} {ta : TA} {w : WA} (h : BA X G es ta w) : BE X G (.Tuple es kt pos) (tTup ta) (wTup w) :=
  ⟨pe_tup h.pe, fun ρ σ n B H E Qd Q S hw xw k => h.snd ρ σ n B H E _ _ S hw xw fun vs ds n1 B1 H1 m1 pk1 r1 q1 => by
    match e : pyAll ds, q1 with
    | some ps, q1 =>
      have hA := ra_py r1 e
      have hz : vs.length ≤ sizeLine := by
        rw [hA.len]
        exact line5 q1.1
      refine ⟨hz, fun p hp => ?_⟩
      have m := Mv.new (pn := none) (o := .tup vs) m1.s hp
      exact k (.ref p) _ n1 _ _ (m1.trans m.of) (pk1.mv m) (r_tup (SqT.of upd_same) (hA.mono m.b) hz) q1.2⟩
def wLst (w : WA) : WN := fun ρ n E Q => w ρ n E fun ds n1 => match pyAll ds with
  | some ps => ps.length ≤ 100000 ∧ Q ps n1
  | none => False
theorem free_new {n : Nat} {B H : Hp} {ρ : List Sl} {σ : L2.St} {p : Addr} (S : St G n B H ρ σ) (hp : H p = none) : Free G B p := by
  have h0 : G.H0 p = none := S.mv.kp.up hp
  refine ⟨S.sub.free hp, h0, fun q c T e => ?_⟩
  have pk := S.pk
  rw [e] at pk
  obtain ⟨⟨t, l, xs, h1, h2, _⟩, _⟩ := pk
  exact ⟨fun z => (by rw [z, h1] at hp; cases hp), fun z => (by rw [z, h2] at hp; cases hp)⟩
theorem bn_lst {ta : TA} {w : WA} (h : BA X G es ta w) : BN X G (.List es pos) (tLst ta) (wLst w) :=
  ⟨pe_lst h.pe, fun ρ σ n B H E Qd Q S hw xw k => h.snd ρ σ n B H E _ _ S hw xw fun vs ds n1 B1 H1 m1 pk1 r1 q1 => by
    match e : pyAll ds, q1 with
    | some ps, q1 =>
      have hA := ra_py r1 e
      have hz : vs.length ≤ sizeLine := by
        rw [hA.len]
        exact line5 q1.1
      refine ⟨hz, fun p hp => ?_⟩
      have m := Mv.newOwn (pn := none) (o := .lst vs) m1.s hp
      have hpH : H p = none := m1.kp.up hp
      exact k p vs ps n1 _ _ (m1.trans m.of) (pk1.mv m) hpH (free_new (S.step m1 pk1) hp) upd_same hz hA q1.2⟩
end
end Fv
set_option maxRecDepth 100000
set_option maxHeartbeats 4000000
/-! t[::-1], t a tuple. -/
namespace Gb
open PySem PySem.Spec PyProof.Rows L2 HT
section
variable {prog : Program} {w : World} {A : Around} {E : Value → Shared → Prop} {s : Shared}
end
section
variable {X : Cx} {Kx : PySem.W.Frag}
def tRevT (K : PySem.W.Frag) (te : TE) : TE := fun σ H Q => te σ H fun x H1 => ∃ a xs, x = .ref a ∧ SqT K H1 a xs ∧ ∀ q, H1 q = none → Q (.ref q) (upd H1 q (.tup xs.reverse))
end
end Gb
set_option maxRecDepth 100000
set_option maxHeartbeats 4000000
/-! Places and parts of lists and tuples; built-ins. -/
namespace Fv
open PySem PySem.Spec PyProof.Rows L2 Gb
section
variable {X : Cx} {G : Cg} {a b c d e f : Expr} {es rest : List Expr} {ta tb tc td te : TE} {wa wb wc wd we : WE} {pos p p2 p3 : Pos} {x : Str} {n : Nat} {t u : TT} {w v : WT} {wl : WL}
theorem DdA.atI {K : PySem.W.Frag} {H : Hp} {vs : List V} {ds : List PyData} {i : Int} {z : PyData} (h : DdA K H vs ds) (e : L2.atI ds i = some z) : ∃ v, L2.atI vs i = some v ∧ Dd K H v z := by
  unfold L2.atI at e ⊢
  rw [h.len]
  cases q : ixN ds.length i with
  | none =>
    rw [q] at e
    cases e
  | some j =>
    rw [q] at e
    exact DdA.get' h e
/-- a list or tuple, looked at behind a step -/
theorem SqB.step {K : PySem.W.Frag} {pn : Pn} {n : Nat} {k : Bool} {l : Addr} {vs : List V} {B H B' H' : Hp} (h : SqB K k l vs B H) (m : Mv pn B H B' H') (pk : Pk pn n B H) : SqB K k l vs B' H' := by
  cases k with
  | true => exact Same.t m.b h
  | false => exact (m.kp.ex pk) _ _ h trivial trivial
def wIx (wl : WL) (wi : WE) : WE := fun ρ n E Q => wl ρ n E fun _ ds n1 => wi ρ n1 E fun i n2 => match i with
  | .py (.int i) => (match L2.atI ds i with
    | some z => Q (.py z) n2
    | none => False)
  | _ => False
theorem be_ix (ha : BL X G a ta wl) (hb : BE X G b tb wb) (hs : PlainIx b := by exact fun _ _ => rfl) (hK : X.K = G.K := by rfl) : BE X G (.Subscript a b pos) (tOp (rIx G.K) ta tb) (wIx wl wb) :=
  ⟨pe_ix (hK ▸ ix_seq) ha.pe hb.pe hs, fun ρ σ n B H E Qd Q S hw xw k => ha.snd ρ σ n B H E _ _ S hw xw fun l vs kk ds n1 B1 H1 m1 pk1 hs1 hz hA q1 =>
    hb.snd ρ σ n1 B1 H1 E _ _ (S.step m1 pk1) q1 (xw.step m1) fun v2 d2 n2 B2 H2 m2 pk2 r2 q2 => by
      match d2, r2, q2 with
      | .py (.int i), r2, q2 =>
        cases dd_int r2
        cases ei : L2.atI ds i with
        | none => simp only [ei] at q2
        | some z =>
          simp only [ei] at q2
          obtain ⟨v, h1, h2⟩ := hA.atI ei
          have hs2 := hs1.step m2 pk1
          have q3 := k v (.py z) n2 B2 H2 (m1.trans m2) pk2 (h2.mono m2.b) q2
          cases kk with
          | true => exact .inr (.inl ⟨l, vs, i, v, rfl, rfl, Same.t m2.s hs2, h1, q3⟩)
          | false => exact .inl ⟨l, vs, i, v, rfl, rfl, SqL.of hs2, h1, q3⟩⟩
/-! ### slices -/
abbrev WO := List Sl → Nat → XQ → (Option Int → Nat → Prop) → Prop
def SndO (G : Cg) (t : TO) (w : WO) : Prop := ∀ ρ σ n B H E (Qd : Option Int → Nat → Prop) (Q : Option Int → Hp → Prop), St G n B H ρ σ → w ρ n E Qd → XW G σ B H E →
  (∀ b n' B' H', Mv G.pn B H B' H' → Pk G.pn n' B' H' → Qd b n' → Q b H') → t σ H Q
structure BO (X : Cx) (G : Cg) (e : Option Expr) (t : TO) (w : WO) : Prop where
  pe : PO X e t
  snd : SndO G t w
theorem bo_none : BO X G none tNoPart (fun _ n _ Q => Q none n) := ⟨po_none, fun ρ σ n B H E Qd Q S hw _ k => k none n B H (Mv.refl S.sub) S.pk hw⟩
def wPart (w : WE) : WO := fun ρ n E Q => w ρ n E fun d n' => match d with
  | .py (.int i) => Q (some i) n'
  | _ => False
theorem bo_some (h : BE X G a ta wa) : BO X G (some a) (tPart ta) (wPart wa) := ⟨po_some h.pe, fun ρ σ n B H E Qd Q S hw xw k => h.snd ρ σ n B H E _ _ S hw xw fun v d n' B' H' m pk r q => by
  match d, r, q with
  | .py (.int i), r, q =>
    cases dd_int r
    exact ⟨i, rfl, k _ n' B' H' m pk q⟩⟩
def cutD (xs : List PyData) (lo hi : Option Int) : List PyData := (xs.drop (HT.sIx xs.length 0 lo)).take (HT.sIx xs.length xs.length hi - HT.sIx xs.length 0 lo)
theorem DdA.cut {K : PySem.W.Frag} {H : Hp} {vs : List V} {ds : List PyData} (h : DdA K H vs ds) (lo hi : Option Int) : DdA K H (cutV vs lo hi) (cutD ds lo hi) := by
  unfold cutV cutD
  rw [h.len]
  exact (h.drop _).take _
variable {lo hi : Option Expr} {tl th : TO} {wlo whi : WO}
def wSlL (wl : WL) (wlo whi : WO) : WN := fun ρ n E Q => wl ρ n E fun k ds n1 => wlo ρ n1 E fun l n2 => whi ρ n2 E fun h n3 => k = false ∧ Q (cutD ds l h) n3
theorem up_none {pn : Pn} {B H B' H' : Hp} (m : Mv pn B H B' H') {p : Addr} (hp : H' p = none) : H p = none := m.kp.up hp
def wSlT (wl : WL) (wlo whi : WO) : WE := fun ρ n E Q => wl ρ n E fun k ds n1 => wlo ρ n1 E fun l n2 => whi ρ n2 E fun h n3 => k = true ∧ Q (.py (.tuple (cutD ds l h))) n3
theorem cutD_all {xs : List PyData} {lo hi : Option Int} (h : HT.sIx xs.length 0 lo = 0 ∧ HT.sIx xs.length xs.length hi = xs.length) : cutD xs lo hi = xs := by
  unfold cutD
  rw [h.1, h.2]
  simp
theorem be_slT (ha : BL X G a ta wl) (hl : BO X G lo tl wlo) (hh : BO X G hi th whi) (hK : X.K = G.K := by rfl) : BE X G (.Subscript a (.Slice lo hi none p2) pos) (tSl (rSlA G.K) ta tl th) (wSlT wl wlo whi) :=
  ⟨pe_slice (hK ▸ sl_tupA) ha.pe hl.pe hh.pe, fun ρ σ n B H E Qd Q S hw xw k => ha.snd ρ σ n B H E _ _ S hw xw fun l vs kk ds n1 B1 H1 m1 pk1 hs1 hz hA q1 =>
    hl.snd ρ σ n1 B1 H1 E _ _ (S.step m1 pk1) q1 (xw.step m1) fun lo n2 B2 H2 m2 pk2 q2 =>
      hh.snd ρ σ n2 B2 H2 E _ _ (S.step (m1.trans m2) pk2) q2 (xw.step (m1.trans m2)) fun hi n3 B3 H3 m3 pk3 q3 => by
        obtain ⟨rfl, q3⟩ := q3
        have m23 := m2.trans m3
        have hs3 : SqT G.K B3 l vs := hs1.step m23 pk1
        have m13 := m1.trans m23
        refine ⟨l, vs, rfl, Same.t m23.s hs3, fun hw => ?_, fun hw p hp => ?_⟩
        · rw [hA.len] at hw
          rw [cutD_all hw] at q3
          exact k (.ref l) _ n3 B3 H3 m13 pk3 (r_tup hs3 (hA.mono m23.b) hz) q3
        · have m := Mv.new (pn := none) (o := .tup (cutV vs lo hi)) m13.s hp
          exact k (.ref p) _ n3 _ _ (m13.trans m.of) (pk3.mv m) (r_tup (SqT.of upd_same) (((hA.mono m23.b).cut lo hi).mono m.b) (Nat.le_trans (cutV_length vs lo hi) hz)) q3⟩
/-- t[::-1] -/
def wRevT (wl : WL) : WE := fun ρ n E Q => wl ρ n E fun k ds n1 => k = true ∧ Q (.py (.tuple ds.reverse)) n1
/-! ### built-ins of one argument -/
/-- by value, from a value that is told -/
def CallS (G : Cg) (r : List V → Hp → VK → Prop) (w : D → (D → Prop) → Prop) : Prop := ∀ H v d (P : D → Prop) (Q : VK) , R G H v d → w d P → (∀ v d, (∀ H', R G H' v d) → P d → Q v H) → r [v] H Q
def wCall1 (w : D → (D → Prop) → Prop) (wa : WE) : WE := fun ρ n E Q => wa ρ n E fun d n1 => w d fun z => Q z n1
theorem be_b1 {id : String} {r : List V → Hp → VK → Prop} {w : D → (D → Prop) → Prop} (hc : CallR X (.builtin id) r) (hS : CallS G r w) (hg : Gl X x) (hm : X.mg x = none) (hv : bootBuiltins x = some (.builtin id)) (ha : BF X G a ta wa) (hn : x ≠ "__name__" := by decide) (hdb : (x == ("__debug__" : Str)) = false := by decide)
    (he : starEach (a :: []) X.env = (false, eval a X.env) :: starEach [] X.env := by rfl) (hpl : (backTo pos (starEach [] X.env)).any (·.1) = false := by rfl) : BE X G (.Call (.Name x p) [a] [] pos) (tCB r (tCons ta tNil)) (wCall1 w wa) :=
  ⟨pe_callB hc hg hm hv (pa_cons ha.pe pa_nil he) hn hdb he hpl, fun ρ σ n B H E Qd Q S hw xw k => ha.snd ρ σ n B H E _ _ S hw xw fun v d n1 B1 H1 Bf m1 pk1 lk r1 q1 =>
    hS H1 v d _ _ (r1.mono lk.1) q1 fun v d hr q => k v d n1 B1 H1 m1 pk1 (hr _) q⟩
theorem be_t1 {T : String} {r : List V → Hp → VK → Prop} {w : D → (D → Prop) → Prop} (hc : CallR X (.type T) r) (hS : CallS G r w) (hg : Gl X x) (hm : X.mg x = none) (hv : bootBuiltins x = some (.type T)) (ha : BF X G a ta wa) (hn : x ≠ "__name__" := by decide) (hdb : (x == ("__debug__" : Str)) = false := by decide)
    (he : starEach (a :: []) X.env = (false, eval a X.env) :: starEach [] X.env := by rfl) (hpl : (backTo pos (starEach [] X.env)).any (·.1) = false := by rfl) : BE X G (.Call (.Name x p) [a] [] pos) (tCB r (tCons ta tNil)) (wCall1 w wa) :=
  ⟨pe_callTy hc hg hm hv (pa_cons ha.pe pa_nil he) hn hdb he hpl, fun ρ σ n B H E Qd Q S hw xw k => ha.snd ρ σ n B H E _ _ S hw xw fun v d n1 B1 H1 Bf m1 pk1 lk r1 q1 =>
    hS H1 v d _ _ (r1.mono lk.1) q1 fun v d hr q => k v d n1 B1 H1 m1 pk1 (hr _) q⟩
def bLen : D → (D → Prop) → Prop := fun d Q => match d with
  | .py (.list ds) => Q (.py (.int ds.length))
  | .py (.tuple ds) => Q (.py (.int ds.length))
  | _ => False
theorem cs_len : CallS G (rLenK G.K) bLen := fun H v d P Q r h k => by
  match d, r, h with
  | .py (.list ds), r, h =>
    obtain ⟨l, xs, rfl, h1, h2, _⟩ := dd_list r
    exact ⟨l, xs, rfl, .inl (SqL.of h1), by rw [h2.len]; exact k _ _ (fun _ => r_int) h⟩
  | .py (.tuple ds), r, h =>
    obtain ⟨l, xs, rfl, h1, h2, _⟩ := dd_tup r
    exact ⟨l, xs, rfl, .inr h1, by rw [h2.len]; exact k _ _ (fun _ => r_int) h⟩
theorem be_len (hg : Gl X "len") (hm : X.mg "len" = none) (ha : BF X G a ta wa) (he : starEach (a :: []) X.env = (false, eval a X.env) :: starEach [] X.env := by rfl) (hpl : (backTo pos (starEach [] X.env)).any (·.1) = false := by rfl) (hK : X.K = G.K := by rfl) :
    BE X G (.Call (.Name "len" p) [a] [] pos) (tCB (rLenK G.K) (tCons ta tNil)) (wCall1 bLen wa) := be_b1 (call_lenK hK) cs_len hg hm PySem.boot_len ha (by decide) (by decide) he hpl
theorem bls_of {K : PySem.W.Frag} {H : Hp} : ∀ {vs : List V} {ns : List Bool}, DdA K H vs (ns.map PyData.bool) → vs = ns.map V.bl
  | _, [], .nil => rfl
  | _, n :: ns, .cons a b => by
    rw [dd_bl a, bls_of b]
    rfl
/-- a list's numbers -/
def intsOf : List PyData → Option (List Int)
  | [] => some []
  | .int i :: ds => (intsOf ds).map (i :: ·)
  | _ :: _ => none
def blsOf : List PyData → Option (List Bool)
  | [] => some []
  | .bool i :: ds => (blsOf ds).map (i :: ·)
  | _ :: _ => none
theorem blsOf_map : ∀ ns : List Bool, blsOf (ns.map PyData.bool) = some ns
  | [] => rfl
  | n :: ns => by
    show (blsOf (ns.map PyData.bool)).map _ = _
    rw [blsOf_map ns]
    rfl
theorem blsOf_eq : ∀ {ds : List PyData} {ns : List Bool}, blsOf ds = some ns → ds = ns.map PyData.bool
  | [], _, e => by
    cases e
    rfl
  | .bool i :: ds, ns, e => by
    unfold blsOf at e
    cases q : blsOf ds with
    | none =>
      rw [q] at e
      cases e
    | some ms =>
      rw [q] at e
      cases e
      rw [blsOf_eq q]
      rfl
  | .none :: _, _, e => by cases e
  | .int _ :: _, _, e => by cases e
  | .str _ :: _, _, e => by cases e
  | .list _ :: _, _, e => by cases e
  | .tuple _ :: _, _, e => by cases e
  | .dict _ :: _, _, e => by cases e
def bSum : D → (D → Prop) → Prop := fun d Q => match d with
  | .py (.list ds) => (match intsOf ds with
    | some ns => Q (.py (.int ns.sum))
    | none => False)
  | _ => False
def bAll : D → (D → Prop) → Prop := fun d Q => match d with
  | .py (.list ds) => (match blsOf ds with
    | some ns => Q (.py (.bool (ns.all id)))
    | none => False)
  | _ => False
theorem cs_all : CallS G (rAll G.K) bAll := fun H v d P Q r h k => by
  match d, r, h with
  | .py (.list ds), r, h =>
    obtain ⟨l, xs, rfl, h1, h2, _⟩ := dd_list r
    cases e : blsOf ds with
    | none => simp only [bAll, e] at h
    | some ns =>
      simp only [bAll, e] at h
      rw [blsOf_eq e] at h2
      rw [bls_of h2] at h1
      exact ⟨l, ns, rfl, SqL.of h1, k _ _ (fun _ => r_bl) h⟩
theorem be_all (hc : X.calm = true) (hg : Gl X "all") (hm : X.mg "all" = none) (ha : BF X G a ta wa) (he : starEach (a :: []) X.env = (false, eval a X.env) :: starEach [] X.env := by rfl) (hpl : (backTo pos (starEach [] X.env)).any (·.1) = false := by rfl) (hK : X.K = G.K := by rfl) :
    BE X G (.Call (.Name "all" p) [a] [] pos) (tCB (rAll G.K) (tCons ta tNil)) (wCall1 bAll wa) := be_b1 (cr_allK hc hK) cs_all hg hm (by decide +kernel) ha (by decide) (by decide) he hpl
def bAny : D → (D → Prop) → Prop := fun d Q => match d with
  | .py (.list ds) => (match blsOf ds with
    | some ns => Q (.py (.bool (ns.any id)))
    | none => False)
  | _ => False
/-- the greatest of a list of numbers -/
def bMax : D → (D → Prop) → Prop := fun d Q => match d with
  | .py (.list ds) => (match intsOf ds with
    | some ns => 0 < ns.length ∧ ∀ m, m ∈ ns → (∀ y, y ∈ ns → y ≤ m) → Q (.py (.int m))
    | none => False)
  | _ => False
def bMin : D → (D → Prop) → Prop := fun d Q => match d with
  | .py (.list ds) => (match intsOf ds with
    | some ns => 0 < ns.length ∧ ∀ m, m ∈ ns → (∀ y, y ∈ ns → m ≤ y) → Q (.py (.int m))
    | none => False)
  | _ => False
def bAbs : D → (D → Prop) → Prop := fun d Q => match d with
  | .py (.int i) => Q (.py (.int (if i < 0 then -i else i)))
  | _ => False
def bIntOf : D → (D → Prop) → Prop := fun d Q => match d with
  | .py (.int i) => Q (.py (.int i))
  | .py (.bool k) => Q (.py (.int (if k then 1 else 0)))
  | _ => False
theorem cs_int : CallS G (fun xs H Q => (∃ i, xs = [.int i] ∧ Q (.int i) H) ∨ ∃ k, xs = [.bl k] ∧ Q (.int (if k then 1 else 0)) H) bIntOf := fun H v d P Q r h k => by
  match d, r, h with
  | .py (.int i), r, h =>
    cases dd_int r
    exact .inl ⟨i, rfl, k _ _ (fun _ => r_int) h⟩
  | .py (.bool i), r, h =>
    cases dd_bl r
    exact .inr ⟨i, rfl, k _ _ (fun _ => r_int) h⟩
theorem be_intOf (hg : Gl X "int") (hm : X.mg "int" = none) (ha : BF X G a ta wa) (he : starEach (a :: []) X.env = (false, eval a X.env) :: starEach [] X.env := by rfl) (hpl : (backTo pos (starEach [] X.env)).any (·.1) = false := by rfl) :
    BE X G (.Call (.Name "int" p) [a] [] pos) (tCB (fun xs H Q => (∃ i, xs = [.int i] ∧ Q (.int i) H) ∨ ∃ k, xs = [.bl k] ∧ Q (.int (if k then 1 else 0)) H) (tCons ta tNil)) (wCall1 bIntOf wa) := be_t1 call_int1 cs_int hg hm (by decide +kernel) ha (by decide) (by decide) he hpl
end
end Fv
set_option maxRecDepth 100000
set_option maxHeartbeats 4000000
/-! list, tuple, sorted, max, min, isinstance. -/
namespace Fv
open PySem PySem.Spec PyProof.Rows L2 Gb
section
variable {X : Cx} {G : Cg} {a b c d e f : Expr} {es rest : List Expr} {ta tb tc td te : TE} {wa wb wc wd we : WE} {pos p p2 p3 : Pos} {x : Str} {n : Nat} {t u : TT} {w v : WT} {wl : WL}
def wListOf (wl : WL) : WN := fun ρ n E Q => wl ρ n E fun _ ds n1 => Q ds n1
/-- tuple(xs), xs a list -/
def wTupOf (wl : WL) : WE := fun ρ n E Q => wl ρ n E fun k ds n1 => k = false ∧ Q (.py (.tuple ds)) n1
theorem be_tupleL (hg : Gl X "tuple") (hm : X.mg "tuple" = none) (ha : BL X G a ta wl) (he : starEach (a :: []) X.env = (false, eval a X.env) :: starEach [] X.env := by rfl) (hpl : (backTo pos (starEach [] X.env)).any (·.1) = false := by rfl) (hK : X.K = G.K := by rfl) :
    BE X G (.Call (.Name "tuple" p) [a] [] pos) (tCB (rTupK G.K) (tCons ta tNil)) (wTupOf wl) :=
  ⟨pe_callTy (call_tupK hK) hg hm (by decide +kernel) (pa_cons ha.pe pa_nil he) (by decide) (by decide) he hpl, fun ρ σ n B H E Qd Q S hw xw k => ha.snd ρ σ n B H E _ _ S hw xw fun l vs kk ds n1 B1 H1 m1 pk1 hs1 hz hA q1 => by
    obtain ⟨rfl, q1⟩ := q1
    refine ⟨l, vs, rfl, .inl ⟨SqL.of hs1, fun q hq => ?_⟩⟩
    have m := Mv.new (pn := none) (o := .tup vs) m1.s hq
    exact k (.ref q) _ n1 _ _ (m1.trans m.of) (pk1.mv m) (r_tup (SqT.of upd_same) (hA.mono m.b) hz) q1⟩
/-- tuple(x), x a list or a tuple -/
def wTupE (wa : WE) : WE := fun ρ n E Q => wa ρ n E fun d n1 => match d with
  | .py (.list ds) => Q (.py (.tuple ds)) n1
  | .py (.tuple ds) => Q (.py (.tuple ds)) n1
  | _ => False
/-! ### max, min of two -/
def wMax2 (wa wb : WE) : WE := fun ρ n E Q => wa ρ n E fun x n1 => wb ρ n1 E fun y n2 => match x, y with
  | .py (.int i), .py (.int j) => Q (.py (.int (if j > i then j else i))) n2
  | _, _ => False
def wMin2 (wa wb : WE) : WE := fun ρ n E Q => wa ρ n E fun x n1 => wb ρ n1 E fun y n2 => match x, y with
  | .py (.int i), .py (.int j) => Q (.py (.int (if j < i then j else i))) n2
  | _, _ => False
theorem be_max2 (hc : X.calm = true) (hg : Gl X "max") (hm : X.mg "max" = none) (ha : BE X G a ta wa) (hb : BE X G b tb wb) (hs : starEach [b] X.env = (false, eval b X.env) :: starEach [] X.env := by rfl)
    (he : starEach (a :: [b]) X.env = (false, eval a X.env) :: starEach [b] X.env := by rfl) (hpl : (backTo pos (starEach [b] X.env)).any (·.1) = false := by rfl) :
    BE X G (.Call (.Name "max" p) [a, b] [] pos) (tCB (fun xs H Q => ∃ i j, xs = [.int i, .int j] ∧ Q (.int (if j > i then j else i)) H) (tCons ta (tCons tb tNil))) (wMax2 wa wb) :=
  ⟨pe_callB (call_max2 hc) hg hm (by decide +kernel) (pa_cons ha.pe (pa_cons hb.pe pa_nil hs) he) (by decide) (by decide) he hpl, fun ρ σ n B H E Qd Q S hw xw k => ha.snd ρ σ n B H E _ _ S hw xw fun v1 d1 n1 B1 H1 m1 pk1 r1 q1 =>
    hb.snd ρ σ n1 B1 H1 E _ _ (S.step m1 pk1) q1 (xw.step m1) fun v2 d2 n2 B2 H2 m2 pk2 r2 q2 => by
      match d1, d2, r1, r2, q2 with
      | .py (.int i), .py (.int j), r1, r2, q2 =>
        cases dd_int r1
        cases dd_int r2
        exact ⟨i, j, rfl, k _ _ n2 B2 H2 (m1.trans m2) pk2 r_int q2⟩⟩
/-! ### sorted -/
theorem each_zip {G : Cg} {s : Shared} {H : Hp} {pins : List (Addr × Obj)} {σ : L2.St} (I : Inv X pins σ H s) : ∀ {vs : List V} {us : List Value} {ds : List PyData}, Vals vs us → DpAll X.K H vs ds →
    PySem.W.EachIs (fun u (z : V × PyData) => RelV z.1 u ∧ z ∈ vs.zip ds) us (vs.zip ds) ∧ PySem.W.EachIs (fun u (z : V × PyData) => ∃ as, Reads s.heap u z.2 as) us (vs.zip ds)
  | [], _, _, .nil, .nil => ⟨.nil, .nil⟩
  | v :: vs, _, _, .cons r rs, .cons a as => by
    obtain ⟨h1, h2⟩ := each_zip (G := G) I rs as
    refine ⟨.cons ⟨r, List.mem_cons_self⟩ (h1.mono fun u z h => ⟨h.1, List.mem_cons_of_mem _ h.2⟩), .cons (Dp.reads I _ _ _ a r) h2⟩
def sortD (ds : List PyData) : List PyData := ds.mergeSort (PySem.W.dataLe false id)
def rSortD (K : PySem.W.Frag) : List V → Hp → VK → Prop := fun vs H Q => ∃ (l : Addr) (xs : List V) (ds : List PyData), vs = [V.ref l] ∧ SqL K H l xs ∧ DpAll K H xs ds ∧ PySem.W.AllAlike ds ∧ PySem.W.Sortable ds ∧ xs.length ≤ sizeLine ∧ PyData.depthAll ds ≤ 40 ∧
  ∀ (zs : List (V × PyData)) (p : Addr), (∀ z ∈ zs, z ∈ xs.zip ds) → zs.length = xs.length → zs.map Prod.snd = sortD ds → H p = none → Q (.ref p) (upd H p (.lst (zs.map Prod.fst)))
theorem depth_mem : ∀ {ds : List PyData} {d : PyData}, d ∈ ds → d.depth ≤ PyData.depthAll ds
  | x :: xs, d, h => by
    simp only [PyData.depthAll]
    rcases List.mem_cons.mp h with rfl | h
    · exact Nat.le_max_left _ _
    · exact Nat.le_trans (depth_mem h) (Nat.le_max_right _ _)
theorem vals_each {R : Value → V × PyData → Prop} (hR : ∀ u z, R u z → RelV z.1 u) : ∀ {us : List Value} {zs : List (V × PyData)}, PySem.W.EachIs R us zs → Vals (zs.map Prod.fst) us
  | _, _, .nil => .nil
  | _, _, .cons h t => .cons (hR _ _ h) (vals_each hR t)
theorem zip_snd : ∀ {vs : List V} {ds : List PyData}, vs.length = ds.length → (vs.zip ds).map Prod.snd = ds
  | [], [], _ => rfl
  | v :: vs, d :: ds, h => by
    rw [List.zip_cons_cons, List.map_cons, zip_snd (by simpa using h)]
  | [], _ :: _, h => by simp at h
  | _ :: _, [], h => by simp at h
theorem cr_sortD (hu : X.A.units + 64 < cLine) : CallR X (.builtin "sorted") (rSortD X.K) := by
  intro pins s σ H vs us Q I r h
  obtain ⟨l, xs, ds, rfl, hs, hd, hal, hk, hz, hdp, q⟩ := h
  obtain ⟨its, rv, hl, _⟩ := I.list hs
  rw [Vals.ref1 r]
  obtain ⟨e1, e2⟩ := each_zip (G := ⟨X.K, 0, none, fun _ _ _ _ => False, fun _ => none, H, H⟩) I rv hd
  have hlen := dpa_len hd
  have ez : (xs.zip ds).map Prod.snd = ds := zip_snd hlen
  have lz : (xs.zip ds).length = xs.length := by
    rw [List.length_zip, hlen]
    exact Nat.min_self _
  refine PySem.W.sorted_data (enc := fun z : V × PyData => z.2) hl.isList e1 e2 (by rw [show (xs.zip ds).map (fun z : V × PyData => z.2) = (xs.zip ds).map Prod.snd from rfl, ez]; exact hal) (by rw [show (xs.zip ds).map (fun z : V × PyData => z.2) = (xs.zip ds).map Prod.snd from rfl, ez]; exact hk) (by rw [lz]; exact hz) (fun b hb => ?_) fun out ho eo => ?_
  · have hb2 : b.2 ∈ ds := by
      rw [← ez]
      exact List.mem_map.mpr ⟨b, hb, rfl⟩
    have := depth_mem hb2
    show X.A.units + 2 + b.2.depth < cLine
    omega
  · obtain ⟨ep, he'⟩ := sortedAll_at s.heap its (List.toArray out)
    have hv := vals_each (fun u z h => h.1) eo
    have hl2 : ((xs.zip ds).mergeSort (PySem.W.dataLe false fun z : V × PyData => z.2)).length = xs.length := by
      rw [List.length_mergeSort, lz]
    have hq := q ((xs.zip ds).mergeSort (PySem.W.dataLe false fun z : V × PyData => z.2)) _ (fun z hz => (List.mergeSort_perm _ _).mem_iff.mp hz) hl2 (by
      show List.map Prod.snd _ = ds.mergeSort _
      refine (PySem.W.sort_maps (r := PySem.W.dataLe false fun z : V × PyData => z.2) (s := PySem.W.dataLe false id) Prod.snd (l := xs.zip ds) fun a _ b _ => rfl).trans ?_
      rw [ez]) (I.hok.fresh (Nat.le_succ _))
    have hlz : (((xs.zip ds).mergeSort (PySem.W.dataLe false fun z : V × PyData => z.2)).map Prod.fst).length ≤ sizeLine := by
      rw [List.length_map, hl2]
      exact hz
    exact ⟨.ref _, _, I.laid (t' := s.toks) (o := .lst (((xs.zip ds).mergeSort (PySem.W.dataLe false fun z : V × PyData => z.2)).map Prod.fst)) (fun _ _ => sortedAll_old) (Nat.le_succ _) ⟨hlz, out, ep, hv, he'⟩, rfl, hq⟩
/-- what can be sorted -/
structure SortsD (ds : List PyData) : Prop where
  alike : PySem.W.AllAlike ds
  able : PySem.W.Sortable ds
  depth : PyData.depthAll ds ≤ 40
  lay : PyData.canLayAll0 ds = true
def wSorted (wl : WL) : WN := fun ρ n E Q => wl ρ n E fun k ds n1 => k = false ∧ SortsD ds ∧ Q (sortD ds) n1
theorem dda_of {K : PySem.W.Frag} {H : Hp} {xs : List V} {ds : List PyData} (hA : DdA K H xs ds) : ∀ {zs : List (V × PyData)}, (∀ z ∈ zs, z ∈ xs.zip ds) → DdA K H (zs.map Prod.fst) (zs.map Prod.snd)
  | [], _ => .nil
  | z :: zs, h => by
    refine .cons ?_ (dda_of hA fun y hy => h y (List.mem_cons_of_mem _ hy))
    obtain ⟨i, hi⟩ := List.getElem?_of_mem (h z List.mem_cons_self)
    rw [List.getElem?_zip_eq_some] at hi
    obtain ⟨d, h1, h2⟩ := hA.get hi.1
    have := h1.symm.trans hi.2
    cases this
    exact h2
theorem bn_sorted (hu : X.A.units + 64 < cLine) (hg : Gl X "sorted") (hm : X.mg "sorted" = none) (ha : BL X G a ta wl) (he : starEach (a :: []) X.env = (false, eval a X.env) :: starEach [] X.env := by rfl) (hpl : (backTo pos (starEach [] X.env)).any (·.1) = false := by rfl) (hK : X.K = G.K := by rfl) :
    BN X G (.Call (.Name "sorted" p) [a] [] pos) (tCB (rSortD G.K) (tCons ta tNil)) (wSorted wl) :=
  ⟨pe_callB (hK ▸ cr_sortD hu) hg hm (by decide +kernel) (pa_cons ha.pe pa_nil he) (by decide) (by decide) he hpl, fun ρ σ n B H E Qd Q S hw xw k => ha.snd ρ σ n B H E _ _ S hw xw fun l vs kk ds n1 B1 H1 m1 pk1 hs1 hz hA q1 => by
    obtain ⟨rfl, hS, q1⟩ := q1
    refine ⟨l, vs, ds, rfl, SqL.of hs1, (hA.mono m1.s).dp hS.lay, hS.alike, hS.able, hz, hS.depth, fun zs q hmem hlz hsn hq => ?_⟩
    have m := Mv.newOwn (pn := none) (o := .lst (zs.map Prod.fst)) m1.s hq
    have hA2 := dda_of hA hmem
    rw [hsn] at hA2
    exact k q _ _ n1 _ _ (m1.trans m.of) (pk1.mv m) (up_none m1 hq) (free_new (S.step m1 pk1) hq) upd_same (by rw [List.length_map, hlz]; exact hz) hA2 q1⟩
/-! ### isinstance -/
def tyName : PyData → String
  | .none => "NoneType"
  | .bool _ => "bool"
  | .int _ => "int"
  | .str _ => "str"
  | .list _ => "list"
  | .tuple _ => "tuple"
  | .dict _ => "dict"
def okTy (T : String) : Bool := ["NoneType", "bool", "int", "str", "list", "tuple", "dict"].all fun n => (kitB n T).isSome
def isB (d : PyData) (T : String) : Bool := (kitB (tyName d) T).getD false
theorem isB_kit {T : String} (h : okTy T = true) (d : PyData) : kitB (tyName d) T = some (isB d T) := by
  have h2 : (kitB (tyName d) T).isSome = true := by
    unfold okTy at h
    rw [List.all_eq_true] at h
    refine h _ ?_
    cases d <;> simp [tyName]
  unfold isB
  cases e : kitB (tyName d) T with
  | none =>
    rw [e] at h2
    cases h2
  | some b => rfl
theorem tyx_l2 {K : PySem.W.Frag} {H : Hp} {a : Addr} {xs : List V} (h : SqL K H a xs) : TyX K H (.ref a) (.type "list") := by
  rcases h with (h | ⟨o, h⟩) | ⟨o, its, n, h, c, _⟩
  · exact .base (.lst h)
  · exact .base (.frz h)
  · exact .kList h c
theorem tyx_t2 {K : PySem.W.Frag} {H : Hp} {a : Addr} {xs : List V} (h : SqT K H a xs) : TyX K H (.ref a) (.type "tuple") := by
  rcases h with (h | ⟨o, h⟩) | ⟨o, its, n, h, c, _⟩
  · exact .base (.tup h)
  · exact .fTuple h
  · exact .kTuple h c
theorem tyx_d {K : PySem.W.Frag} {H : Hp} {v : V} {d : PyData} (h : Dd K H v d) : TyX K H v (.type (tyName d)) := by
  cases h with
  | non => exact .base .non
  | bl b => exact .base (.bl b)
  | int b => exact .base (.int b)
  | str b => exact .base (.str b)
  | lst h _ _ => exact tyx_l2 (SqL.of h)
  | tup h _ _ => exact tyx_t2 h
  | dic h _ => exact .base (.dK h)
/-- isinstance(x, T) -/
def wIsi (T : String) (wa : WE) : WE := fun ρ n E Q => wa ρ n E fun d n1 => match d with
  | .py d => Q (.py (.bool (isB d T))) n1
  | _ => False
theorem be_isi {T : String} (hT : okTy T = true) (hg : Gl X "isinstance") (hm : X.mg "isinstance" = none) (ha : BF X G a ta wa) (hb : PE X b (tC (.ty T))) (hs : starEach [b] X.env = (false, eval b X.env) :: starEach [] X.env := by rfl)
    (he : starEach (a :: [b]) X.env = (false, eval a X.env) :: starEach [b] X.env := by rfl) (hpl : (backTo pos (starEach [b] X.env)).any (·.1) = false := by rfl) (hK : X.K = G.K := by rfl) :
    BE X G (.Call (.Name "isinstance" p) [a, b] [] pos) (tCB (rIsi G.K) (tCons ta (tCons (tC (.ty T)) tNil))) (wIsi T wa) :=
  ⟨pe_callB (hK ▸ call_isi) hg hm (by decide +kernel) (pa_cons ha.pe (pa_cons hb pa_nil hs) he) (by decide) (by decide) he hpl, fun ρ σ n B H E Qd Q S hw xw k => ha.snd ρ σ n B H E _ _ S hw xw fun v1 d1 n1 B1 H1 Bf m1 pk1 lk r1 q1 => by
    match d1, r1, q1 with
    | .py d, r1, q1 => exact ⟨v1, .ty T, .type (tyName d), .type T, isB d T, rfl, .ty T, tyx_d (r1.mono lk.1), kit_ty (isB_kit hT d), k _ _ n1 B1 H1 m1 pk1 r_bl q1⟩⟩
/-- isinstance(x, (T1, T2)) -/
def wIsi2 (T T' : String) (wa : WE) : WE := fun ρ n E Q => wa ρ n E fun d n1 => match d with
  | .py d => Q (.py (.bool (isB d T || isB d T'))) n1
  | _ => False
theorem be_isi2 {T T' : String} {c1 c2 : Expr} {kt : Nat} (hT : okTy T = true) (hT' : okTy T' = true) (hg : Gl X "isinstance") (hm : X.mg "isinstance" = none) (ha : BF X G a ta wa) (h1 : PE X c1 (tC (.ty T))) (h2 : PE X c2 (tC (.ty T')))
    (hs : starEach [.Tuple [c1, c2] kt p2] X.env = (false, eval (.Tuple [c1, c2] kt p2) X.env) :: starEach [] X.env := by rfl) (s1 : starEach [c1, c2] X.env = (false, eval c1 X.env) :: starEach [c2] X.env := by rfl) (s2 : starEach [c2] X.env = (false, eval c2 X.env) :: starEach [] X.env := by rfl)
    (he : starEach (a :: [.Tuple [c1, c2] kt p2]) X.env = (false, eval a X.env) :: starEach [.Tuple [c1, c2] kt p2] X.env := by rfl) (hpl : (backTo pos (starEach [.Tuple [c1, c2] kt p2] X.env)).any (·.1) = false := by rfl) (hK : X.K = G.K := by rfl) :
    BE X G (.Call (.Name "isinstance" p) [a, .Tuple [c1, c2] kt p2] [] pos) (tCB (rIsiT G.K) (tCons ta (tCons (tTup (tCons (tC (.ty T)) (tCons (tC (.ty T')) tNil))) tNil))) (wIsi2 T T' wa) :=
  ⟨pe_callB (hK ▸ call_isiT) hg hm (by decide +kernel) (pa_cons ha.pe (pa_cons (pe_tup (pa_cons h1 (pa_cons h2 pa_nil s2) s1)) pa_nil hs) he) (by decide) (by decide) he hpl, fun ρ σ n B H E Qd Q S hw xw k => ha.snd ρ σ n B H E _ _ S hw xw fun v1 d1 n1 B1 H1 Bf m1 pk1 lk r1 q1 => by
    match d1, r1, q1 with
    | .py d, r1, q1 =>
      refine ⟨by show 2 ≤ sizeLine; decide, fun q hq => ?_⟩
      have m := Mv.newOwn (pn := none) (o := .tup [.ty T, .ty T']) m1.s hq
      refine ⟨v1, q, _, .type (tyName d), [.type T, .type T'], (isB d T || isB d T'), rfl, upd_same, .cons (.ty _) (.cons (.ty _) .nil), tyx_d (Dd.mono m.kp (r1.mono lk.1)), ?_, k _ _ n1 B1 _ (m1.trans m.of) (pk1.mv m) r_bl q1⟩
      refine kitAny_cons (kit_ty (isB_kit hT d)) (fun e1 => ?_) fun e1 => by rw [e1]; rfl
      rw [e1]
      exact kitAny_cons (kit_ty (isB_kit hT' d)) (fun e2 => by rw [e2]; rfl) fun e2 => by rw [e2]; rfl⟩
end
end Fv
set_option maxRecDepth 100000
set_option maxHeartbeats 4000000
/-! Targets, what a for walks, list comprehensions. -/
namespace Fv
open PySem PySem.Spec PyProof.Rows L2 Gb
/-! ### targets -/
def Only (is : List Nat) (σ σ' : L2.St) : Prop := σ'.length = σ.length ∧ ∀ i, i ∉ is → σ'[i]? = σ[i]?
theorem Only.refl {is : List Nat} {σ : L2.St} : Only is σ σ := ⟨rfl, fun _ _ => rfl⟩
theorem Only.trans {is js : List Nat} {σ σ1 σ2 : L2.St} (a : Only is σ σ1) (b : Only js σ1 σ2) : Only (is ++ js) σ σ2 :=
  ⟨b.1.trans a.1, fun i h => (b.2 i fun z => h (List.mem_append_right _ z)).trans (a.2 i fun z => h (List.mem_append_left _ z))⟩
/-- .. and no further list of one's own -/
structure OnlyB (is : List Nat) (ρ : List Sl) (σ : L2.St) (ρ' : List Sl) (σ' : L2.St) : Prop where
  o : Only is σ σ'
  w : ∀ j, ownAt ρ' j → ownAt ρ j ∧ σ'[j]? = σ[j]?
  g : ∀ a, ghost ρ' a → ghost ρ a
theorem OnlyB.refl {is : List Nat} {ρ : List Sl} {σ : L2.St} : OnlyB is ρ σ ρ σ := ⟨Only.refl, fun _ h => ⟨h, rfl⟩, fun _ h => h⟩
theorem OnlyB.trans {is js : List Nat} {ρ ρ1 ρ2 : List Sl} {σ σ1 σ2 : L2.St} (a_ : OnlyB is ρ σ ρ1 σ1) (b : OnlyB js ρ1 σ1 ρ2 σ2) : OnlyB (is ++ js) ρ σ ρ2 σ2 := ⟨a_.o.trans b.o, fun j h => by
  obtain ⟨h1, h2⟩ := b.w j h
  obtain ⟨h3, h4⟩ := a_.w j h1
  exact ⟨h3, h2.trans h4⟩, fun a h => a_.g a (b.g a h)⟩
theorem own_set {ρ : List Sl} {σ : L2.St} {i j : Nat} {v : V} {d : D} (h : ownAt (ρ.set i (.val d)) j) : ownAt ρ j ∧ (σ.set i (some v))[j]? = σ[j]? := by
  obtain ⟨x, hx, ox⟩ := h
  by_cases e : i = j
  · subst e
    rw [List.getElem?_set_self'] at hx
    cases q : ρ[i]? with
    | none =>
      rw [q] at hx
      cases hx
    | some y =>
      rw [q] at hx
      have : Sl.val d = x := Option.some.inj hx
      rw [← this] at ox
      cases ox
  · rw [List.getElem?_set_ne e] at hx
    exact ⟨⟨x, hx, ox⟩, List.getElem?_set_ne e⟩
abbrev WG := D → List Sl → (List Sl → Prop) → Prop
def SndG (G : Cg) (g : TG) (w : WG) (is : List Nat) : Prop := ∀ ρ σ n B H v d (Qd : List Sl → Prop) (Q : L2.St → Hp → Prop), St G n B H ρ σ → R G B v d → w d ρ Qd →
  (∀ ρ' σ', St G n B H ρ' σ' → OnlyB is ρ σ ρ' σ' → Qd ρ' → Q σ' H) → g v σ H Q
structure BG (X : Cx) (G : Cg) (e : Expr) (g : TG) (w : WG) (is : List Nat) : Prop where
  pg : PG X e g
  snd : SndG G g w is
theorem mat_at {ρ : List Sl} {i j : Nat} {s : Sl} {t : Bool} {l : Addr} {rows : Rws} (ns : ∀ t l rows, s ≠ .mat t l rows) (h : (ρ.set i s)[j]? = some (.mat t l rows)) : j ≠ i ∧ ρ[j]? = some (.mat t l rows) := by
  by_cases e : i = j
  · subst e
    rw [List.getElem?_set_self'] at h
    cases q : ρ[i]? with
    | none =>
      rw [q] at h
      cases h
    | some y =>
      rw [q] at h
      exact absurd (Option.some.inj h) (ns t l rows)
  · rw [List.getElem?_set_ne e] at h
    exact ⟨Ne.symm e, h⟩
theorem mat_setS {ρ : List Sl} {i : Nat} {s : Sl} (ns : ∀ t l rows, s ≠ .mat t l rows) {a : Addr} (h : ghost (ρ.set i s) a) : ghost ρ a := by
  obtain ⟨j, t, l, rows, h1, h2⟩ := h
  exact ⟨j, t, l, rows, (mat_at ns h1).2, h2⟩
theorem mat_set {ρ : List Sl} {i : Nat} {d : D} {a : Addr} (h : ghost (ρ.set i (.val d)) a) : ghost ρ a := mat_setS (fun _ _ _ => by intro z; cases z) h
/-- a slot gets a value -/
theorem St.set {G : Cg} {n : Nat} {B H : Hp} {ρ : List Sl} {σ : L2.St} (S : St G n B H ρ σ) {i : Nat} {v : V} {d : D} (r : R G B v d) : St G n B H (ρ.set i (.val d)) (σ.set i (some v)) := by
  have old : ∀ {j : Nat} {x : Sl}, x ≠ .val d → (ρ.set i (.val d))[j]? = some x → ρ[j]? = some x ∧ (σ.set i (some v))[j]? = σ[j]? := fun {j x} nx h => by
    by_cases e : i = j
    · subst e
      rw [List.getElem?_set_self'] at h
      cases q : ρ[i]? with
      | none =>
        rw [q] at h
        cases h
      | some y =>
        rw [q] at h
        exact absurd (Option.some.inj h).symm nx
    · rw [List.getElem?_set_ne e] at h
      exact ⟨h, List.getElem?_set_ne e⟩
  refine ⟨S.mv, S.pk, by rw [List.length_set, List.length_set]; exact S.len, fun j z h => ?_, fun j ds h => ?_, fun j ks h => ?_, fun j k l ne hj hk e => ?_, S.mat.sub (fun j t l rows h => old (x := .mat t l rows) (fun z => by cases z) h) (fun j hj => own_set hj)⟩
  · by_cases e : i = j
    · subst e
      have hi : i < ρ.length := by
        have := (List.getElem?_eq_some_iff.mp h).1
        rwa [List.length_set] at this
      rw [List.getElem?_set_self hi] at h
      cases h
      exact ⟨v, List.getElem?_set_self (by rw [← S.len]; exact hi), r⟩
    · rw [List.getElem?_set_ne e] at h
      obtain ⟨w, h1, h2⟩ := S.val j z h
      exact ⟨w, by rw [List.getElem?_set_ne e]; exact h1, h2⟩
  · obtain ⟨h1, h2⟩ := old (x := .own ds) (fun z => by cases z) h
    rw [h2]
    exact S.own j ds h1
  · obtain ⟨h1, h2⟩ := old (x := .dow ks) (fun z => by cases z) h
    rw [h2]
    exact S.dow j ks h1
  · have ow : ∀ {j : Nat}, ownAt (ρ.set i (.val d)) j → ownAt ρ j ∧ (σ.set i (some v))[j]? = σ[j]? := fun {j} ⟨x, hx, ox⟩ => by
      obtain ⟨h1, h2⟩ := old (x := x) (fun z => by rw [z] at ox; cases ox) hx
      exact ⟨⟨x, h1, ox⟩, h2⟩
    obtain ⟨a1, a2⟩ := ow hj
    obtain ⟨b1, b2⟩ := ow hk
    rw [a2] at e
    rw [b2]
    exact S.dis j k l ne a1 b1 e
section
variable {X : Cx} {G : Cg} {a b c d e f : Expr} {es rest : List Expr} {ta tb tc td te : TE} {wa wb wc wd we : WE} {pos p p2 p3 : Pos} {x : Str} {n : Nat} {t u : TT} {w v : WT} {wl : WL}
def wgNm (i : Nat) : WG := fun d ρ Q => Q (ρ.set i (.val d))
theorem bg_nm {i : Nat} (h : PG X a (gName i)) : BG X G a (gName i) (wgNm i) [i] := ⟨h, fun ρ σ n B H v d Qd Q S r hw k => k _ _ (S.set r) ⟨⟨List.length_set, fun j hj => by
  have : i ≠ j := fun z => hj (by rw [z]; exact List.mem_singleton.mpr rfl)
  exact List.getElem?_set_ne this⟩, fun j h => own_set h, fun a h => mat_set h⟩ hw⟩
abbrev WGs := List PyData → List Sl → (List Sl → Prop) → Prop
def SndGs (G : Cg) (g : TGs) (w : WGs) (is : List Nat) : Prop := ∀ ρ σ n B H vs ds (Qd : List Sl → Prop) (Q : L2.St → Hp → Prop), St G n B H ρ σ → DdA G.K B vs ds → w ds ρ Qd →
  (∀ ρ' σ', St G n B H ρ' σ' → OnlyB is ρ σ ρ' σ' → Qd ρ' → Q σ' H) → g vs σ H Q
structure BGs (X : Cx) (G : Cg) (es : List Expr) (g : TGs) (w : WGs) (is : List Nat) : Prop where
  pg : PGs X es g
  snd : SndGs G g w is
def wgNil : WGs := fun ds ρ Q => ds = [] ∧ Q ρ
def wgCons (w : WG) (ws : WGs) : WGs := fun ds ρ Q => match ds with
  | d :: ds => w (.py d) ρ fun ρ' => ws ds ρ' Q
  | [] => False
theorem bgs_nil : BGs X G [] gNil wgNil [] := ⟨pgs_nil, fun ρ σ n B H vs ds Qd Q S hA hw k => by
  obtain ⟨rfl, hw⟩ := hw
  cases hA
  exact ⟨rfl, k _ _ S OnlyB.refl hw⟩⟩
theorem bgs_cons {g : TG} {gs : TGs} {w : WG} {ws : WGs} {is js : List Nat} (h : BG X G a g w is) (h2 : BGs X G es gs ws js) (hp : PGs X (a :: es) (gCons g gs)) : BGs X G (a :: es) (gCons g gs) (wgCons w ws) (is ++ js) :=
  ⟨hp, fun ρ σ n B H vs ds Qd Q S hA hw k => by
    match ds, hA, hw with
    | d :: ds, .cons (v := v) (vs := vs) r rs, hw =>
      exact ⟨v, vs, rfl, h.snd ρ σ n B H v (.py d) _ _ S r hw fun ρ1 σ1 S1 o1 q1 => h2.snd ρ1 σ1 n B H vs ds _ _ S1 rs q1 fun ρ2 σ2 S2 o2 q2 => k ρ2 σ2 S2 (o1.trans o2) q2⟩⟩
def wgTup (n : Nat) (ws : WGs) : WG := fun d ρ Q => match d with
  | .py (.tuple ds) => ds.length = n ∧ ws ds ρ Q
  | _ => False
theorem bg_tup {m kk : Nat} {gs : TGs} {ws : WGs} {is : List Nat} (h : BGs X G es gs ws is) (hp : PG X (.Tuple es kk pos) (gTup G.K m gs)) : BG X G (.Tuple es kk pos) (gTup G.K m gs) (wgTup m ws) is :=
  ⟨hp, fun ρ σ n B H v d Qd Q S r hw k => by
    match d, r, hw with
    | .py (.tuple ds), r, hw =>
      obtain ⟨l, vs, rfl, h1, h2, _⟩ := dd_tup r
      exact ⟨l, vs, rfl, Same.t S.sub h1, by rw [h2.len]; exact hw.1, h.snd ρ σ n B H vs ds _ _ S h2 hw.2 k⟩⟩
/-! ### what is walked -/
/-- J yields these, as long as what was told stays -/
def Yl (G : Cg) (J : It) (B1 : Hp) (ds : List D) : Prop := ∀ Bc Hc, Same B1 Bc → Same Bc Hc →
  (∀ i, i < ds.length → J.go i Hc) ∧ J.stop ds.length Hc ∧ ∀ i x H', i < ds.length → J.yld i Hc x H' → ∃ B' d, ds[i]? = some d ∧ Mv none Bc Hc B' H' ∧ R G B' x d
abbrev WI := List Sl → Nat → XQ → (List D → Nat → Prop) → Prop
def SndI (G : Cg) (t : TI) (w : WI) : Prop := ∀ ρ σ n B H E (Qd : List D → Nat → Prop) (Q : It → Hp → Prop), St G n B H ρ σ → w ρ n E Qd → XW G σ B H E →
  (∀ J ds n' B' H', Mv G.pn B H B' H' → Pk G.pn n' B' H' → Yl G J B' ds → ds.length ≤ sizeLine → Qd ds n' → Q J H') → t σ H Q
structure BI (X : Cx) (G : Cg) (tg e : Expr) (t : TI) (w : WI) : Prop where
  pi : PI X tg e t
  snd : SndI G t w
def iSeq (K : PySem.W.Frag) (tl : TE) : TI := fun σ H Q => tl σ H fun v H1 => ∃ l : Addr, v = .ref l ∧ (((∃ xs, SqL K H1 l xs) ∧ Q (Itl K l) H1) ∨ ((∃ xs, SqT K H1 l xs) ∧ Q (Itt K l) H1))
theorem pi_seq {tg : Expr} (h : PE X a ta) : PI X tg a (iSeq X.K ta) := by
  constructor
  intro pins s σ H Q I hq
  refine thn (h.run pins s σ H _ I hq) fun u s1 hx => ?_
  obtain ⟨v, H1, I1, rv, l, ev, hq⟩ := hx
  subst ev
  cases rv
  have at_ : ∀ b ∈ [s1.heap.objs.size], FpOk X pins H1 b := fun b hb => by
    rw [List.mem_singleton.mp hb]
    exact I1.fpOk (Nat.le_refl _) (I1.hok.fresh (Nat.le_refl _))
  rcases hq with ⟨⟨xs, hs⟩, hq⟩ | ⟨⟨xs, hs⟩, hq⟩
  · obtain ⟨its, _, pl, _⟩ := I1.list hs
    exact wpAny_pyIter_list pl.isList ⟨_, _, _, _, H1, rfl, I1.kept (t' := s1.toks) fun _ _ z => Heap.get?_push_of_some _ z, turn_list l s1.heap.objs.size, ⟨_, Heap.get?_push_size _ rfl, rfl, rfl⟩, at_, hq⟩
  · obtain ⟨its, _, pt, _⟩ := I1.tuple hs
    exact wpAny_pyIter_tuple (show s1.heap.IsTuple l its.toArray from pt) ⟨_, _, _, _, H1, rfl, I1.kept (t' := s1.toks) fun _ _ z => Heap.get?_push_of_some _ z, turn_tuple l s1.heap.objs.size, ⟨_, Heap.get?_push_size _ rfl, rfl, rfl⟩, at_, hq⟩
def wISeq (wa : WE) : WI := fun ρ n E Q => wa ρ n E fun d n1 => match d with
  | .py (.list ds) => Q (ds.map D.py) n1
  | .py (.tuple ds) => Q (ds.map D.py) n1
  | _ => False
theorem yl_list {J : It} {B1 : Hp} {vs : List V} {ds : List PyData} (hA : DdA G.K B1 vs ds) (hg : ∀ Hc i x, Same B1 Hc → vs[i]? = some x → J.go i Hc) (hst : ∀ Hc, Same B1 Hc → J.stop vs.length Hc) (hy : ∀ Hc i x H', Same B1 Hc → J.yld i Hc x H' → H' = Hc ∧ vs[i]? = some x) : Yl G J B1 (ds.map D.py) := by
  intro Bc Hc e1 e2
  have e := e1.trans e2
  refine ⟨fun i hi => ?_, ?_, fun i x H' hi y => ?_⟩
  · rw [List.length_map, ← hA.len] at hi
    exact hg Hc i _ e (List.getElem?_eq_getElem hi)
  · rw [List.length_map, ← hA.len]
    exact hst Hc e
  · obtain ⟨rfl, hx⟩ := hy Hc i x H' e y
    obtain ⟨d, h1, h2⟩ := hA.get hx
    exact ⟨Bc, .py d, by rw [List.getElem?_map, h1]; rfl, Mv.refl e2, h2.mono e1⟩
theorem bi_seq {tg : Expr} (ha : BE X G a ta wa) (hK : X.K = G.K := by rfl) : BI X G tg a (iSeq G.K ta) (wISeq wa) :=
  ⟨hK ▸ pi_seq ha.pe, fun ρ σ n B H E Qd Q S hw xw k => ha.snd ρ σ n B H E _ _ S hw xw fun v d n1 B1 H1 m1 pk1 r1 q1 => by
    match d, r1, q1 with
    | .py (.list ds), r1, q1 =>
      obtain ⟨l, vs, rfl, h1, h2, hz⟩ := dd_list r1
      exact ⟨l, rfl, .inl ⟨⟨vs, Same.lq m1.s h1⟩, k _ _ n1 B1 H1 m1 pk1 (yl_list h2 (fun Hc i x e hx => ⟨vs, x, Same.lq e h1, hx⟩) (fun Hc e => ⟨vs, Same.lq e h1, Nat.le_refl _⟩) fun Hc i x H' e y => ⟨y.1, y.2 vs (Same.lq e h1)⟩) (by rw [List.length_map, ← h2.len]; exact hz) q1⟩⟩
    | .py (.tuple ds), r1, q1 =>
      obtain ⟨l, vs, rfl, h1, h2, hz⟩ := dd_tup r1
      exact ⟨l, rfl, .inr ⟨⟨vs, Same.t m1.s h1⟩, k _ _ n1 B1 H1 m1 pk1 (yl_list h2 (fun Hc i x e hx => ⟨vs, x, Same.t e h1, hx⟩) (fun Hc e => ⟨vs, Same.t e h1, Nat.le_refl _⟩) fun Hc i x H' e y => ⟨y.1, y.2 vs (Same.t e h1)⟩) (by rw [List.length_map, ← h2.len]; exact hz) q1⟩⟩⟩
def rngD (lo : Int) (n : Nat) : List D := (List.range n).map fun (k : Nat) => .py (.int (lo + (k : Int)))
theorem yl_rng {B1 : Hp} {lo : Int} {m : Nat} : Yl G (Itr lo m) B1 (rngD lo m) := by
  have hl : (rngD lo m).length = m := by
    unfold rngD
    rw [List.length_map, List.length_range]
  intro Bc Hc e1 e2
  refine ⟨fun i hi => by rw [hl] at hi; exact hi, by rw [hl]; exact Nat.le_refl _, fun i x H' hi y => ?_⟩
  obtain ⟨rfl, rfl⟩ := y
  rw [hl] at hi
  exact ⟨Bc, .py (.int (lo + (i : Int))), by unfold rngD; rw [List.getElem?_map, List.getElem?_range hi]; rfl, Mv.refl e2, r_int⟩
def wIR1 (wa : WE) : WI := fun ρ n E Q => wa ρ n E fun d n1 => match d with
  | .py (.int j) => j ≤ 100000 ∧ -(2 ^ 62) ≤ j ∧ Q (rngD 0 j.toNat) n1
  | _ => False
theorem rngD_len {lo : Int} {m : Nat} : (rngD lo m).length = m := by
  unfold rngD
  rw [List.length_map, List.length_range]
theorem bi_rng1 {tg : Expr} (hg : Gl X "range") (hm : X.mg "range" = none) (ha : BE X G a ta wa) (hs : starEach [a] X.env = [(false, eval a X.env)] := by rfl) : BI X G tg (.Call (.Name "range" p) [a] [] pos) (iRng1 (tCons ta tNil)) (wIR1 wa) :=
  ⟨pi_range1 hg hm (pa_cons ha.pe pa_nil hs) hs, fun ρ σ n B H E Qd Q S hw xw k => ha.snd ρ σ n B H E _ _ S hw xw fun v d n1 B1 H1 m1 pk1 r1 q1 => by
    match d, r1, q1 with
    | .py (.int j), r1, q1 =>
      cases dd_int r1
      exact ⟨j, rfl, q1.2.1, by omega, k _ _ n1 B1 H1 m1 pk1 yl_rng (by rw [rngD_len]; exact line5 (by omega)) q1.2.2⟩⟩
def wIR2 (wa wb : WE) : WI := fun ρ n E Q => wa ρ n E fun d n1 => wb ρ n1 E fun d2 n2 => match d, d2 with
  | .py (.int i), .py (.int j) => (-(2 ^ 62) ≤ i ∧ i < 2 ^ 62 ∧ -(2 ^ 62) ≤ j ∧ j < 2 ^ 62) ∧ j - i ≤ 100000 ∧ Q (rngD i (j - i).toNat) n2
  | _, _ => False
theorem bi_rng2 {tg : Expr} (hg : Gl X "range") (hm : X.mg "range" = none) (ha : BE X G a ta wa) (hb : BE X G b tb wb) (hs : starEach [a, b] X.env = [(false, eval a X.env), (false, eval b X.env)] := by rfl) (hs2 : starEach [b] X.env = [(false, eval b X.env)] := by rfl) (hs3 : starEach [a, b] X.env = (false, eval a X.env) :: starEach [b] X.env := by rfl) (hs4 : starEach [b] X.env = (false, eval b X.env) :: starEach [] X.env := by rfl) :
    BI X G tg (.Call (.Name "range" p) [a, b] [] pos) (iRng2 (tCons ta (tCons tb tNil))) (wIR2 wa wb) :=
  ⟨pi_range2 hg hm (pa_cons ha.pe (pa_cons hb.pe pa_nil hs4) hs3) hs hs2, fun ρ σ n B H E Qd Q S hw xw k => ha.snd ρ σ n B H E _ _ S hw xw fun v d n1 B1 H1 m1 pk1 r1 q1 =>
    hb.snd ρ σ n1 B1 H1 E _ _ (S.step m1 pk1) q1 (xw.step m1) fun v2 d2 n2 B2 H2 m2 pk2 r2 q2 => by
      match d, d2, r1, r2, q2 with
      | .py (.int i), .py (.int j), r1, r2, q2 =>
        cases dd_int r1
        cases dd_int r2
        exact ⟨i, j, rfl, q2.1, k _ _ n2 B2 H2 (m1.trans m2) pk2 yl_rng (by rw [rngD_len]; exact line5 (by omega)) q2.2.2⟩⟩
/-- two lists, two tuples, a list and a tuple, their items in pairs -/
def zipD (ds es : List PyData) : List D := (ds.zip es).map fun z => .py (.tuple [z.1, z.2])
def wIZip (ka kb : Bool) (wa wb : WE) : WI := fun ρ n E Q => wa ρ n E fun d n1 => wb ρ n1 E fun d2 n2 => match ka, kb, d, d2 with
  | false, false, .py (.list xs), .py (.list ys) => Q (zipD xs ys) n2
  | true, true, .py (.tuple xs), .py (.tuple ys) => Q (zipD xs ys) n2
  | false, true, .py (.list xs), .py (.tuple ys) => Q (zipD xs ys) n2
  | _, _, _, _ => False
/-- a list's items with their places -/
def enumD (ds : List PyData) : List D := (ds.zipIdx).map fun z => .py (.tuple [.int (z.2 : Int), z.1])
def wIEnum (wa : WE) : WI := fun ρ n E Q => wa ρ n E fun d n1 => match d with
  | .py (.list xs) => Q (enumD xs) n1
  | _ => False
theorem bi_enum {elts : List Expr} {kk : Nat} {tpos : Pos} (ha : BE X G a ta wa) (hp : PI X (.Tuple elts kk tpos) (.Call (.Name "enumerate" p) [a] [] pos) (iEnum G.K (tCons ta tNil))) :
    BI X G (.Tuple elts kk tpos) (.Call (.Name "enumerate" p) [a] [] pos) (iEnum G.K (tCons ta tNil)) (wIEnum wa) :=
  ⟨hp, fun ρ σ n B H E Qd Q S hw xw k => ha.snd ρ σ n B H E _ _ S hw xw fun v d n1 B1 H1 m1 pk1 r1 q1 => by
    match d, r1, q1 with
    | .py (.list xs), r1, q1 =>
      obtain ⟨l, vs, rfl, h1, h2, hz⟩ := dd_list r1
      have hl : (enumD xs).length = vs.length := by
        unfold enumD
        rw [List.length_map, List.length_zipIdx, h2.len]
      refine ⟨l, vs, rfl, Same.lq m1.s h1, k _ _ n1 B1 H1 m1 pk1 (fun Bc Hc e1 e2 => ?_) (by rw [hl]; exact hz) q1⟩
      have e := e1.trans e2
      refine ⟨fun i hi => ?_, ⟨vs, Same.lq e h1, by rw [hl]; exact Nat.le_refl _⟩, fun i x H' hi y => ?_⟩
      · rw [hl] at hi
        exact ⟨vs, _, Same.lq e h1, List.getElem?_eq_getElem hi⟩
      · obtain ⟨T, z, rfl, hT, rfl, hx⟩ := y
        obtain ⟨d1, g1, r1⟩ := h2.get (hx vs (Same.lq e h1))
        have m := Mv.new (pn := none) (o := .tup [.int (i : Nat), z]) e2 hT
        refine ⟨_, .py (.tuple [.int (i : Int), d1]), ?_, m, r_tup (SqT.of upd_same) (.cons (.int _) (.cons ((r1.mono e1).mono m.b) .nil)) (by show 2 ≤ sizeLine; decide)⟩
        unfold enumD
        rw [List.getElem?_map, List.getElem?_zipIdx, g1]
        simp⟩
end
end Fv
set_option maxRecDepth 100000
set_option maxHeartbeats 4000000
/-! List comprehensions. -/
namespace Fv
open PySem PySem.Spec PyProof.Rows L2 Gb
def wipeB (ρ : List Sl) : List Nat → List Sl
  | [] => ρ
  | v :: vs => (wipeB ρ vs).set v .no
theorem St.drop {G : Cg} {n : Nat} {B H : Hp} {ρ : List Sl} {σ : L2.St} (S : St G n B H ρ σ) (i : Nat) : St G n B H (ρ.set i .no) (σ.set i none) := by
  have old : ∀ {j : Nat} {x : Sl}, x ≠ .no → (ρ.set i .no)[j]? = some x → ρ[j]? = some x ∧ (σ.set i none)[j]? = σ[j]? := fun {j x} nx h => by
    by_cases e : i = j
    · subst e
      rw [List.getElem?_set_self'] at h
      cases q : ρ[i]? with
      | none =>
        rw [q] at h
        cases h
      | some y =>
        rw [q] at h
        exact absurd (Option.some.inj h).symm nx
    · rw [List.getElem?_set_ne e] at h
      exact ⟨h, List.getElem?_set_ne e⟩
  refine ⟨S.mv, S.pk, by rw [List.length_set, List.length_set]; exact S.len, fun j z h => ?_, fun j ds h => ?_, fun j ks h => ?_, fun j k l ne hj hk e => ?_, S.mat.sub (fun j t l rows h => old (x := .mat t l rows) (fun z => by cases z) h) (fun j ⟨x, hx, ox⟩ => by
    obtain ⟨h1, h2⟩ := old (x := x) (fun z => by rw [z] at ox; cases ox) hx
    exact ⟨⟨x, h1, ox⟩, h2⟩)⟩
  · obtain ⟨h1, h2⟩ := old (x := .val z) (fun z => by cases z) h
    rw [h2]
    exact S.val j z h1
  · obtain ⟨h1, h2⟩ := old (x := .own ds) (fun z => by cases z) h
    rw [h2]
    exact S.own j ds h1
  · obtain ⟨h1, h2⟩ := old (x := .dow ks) (fun z => by cases z) h
    rw [h2]
    exact S.dow j ks h1
  · have ow : ∀ {j : Nat}, ownAt (ρ.set i .no) j → ownAt ρ j ∧ (σ.set i none)[j]? = σ[j]? := fun {j} ⟨x, hx, ox⟩ => by
      obtain ⟨h1, h2⟩ := old (x := x) (fun z => by rw [z] at ox; cases ox) hx
      exact ⟨⟨x, h1, ox⟩, h2⟩
    obtain ⟨a1, a2⟩ := ow hj
    obtain ⟨b1, b2⟩ := ow hk
    rw [a2] at e
    rw [b2]
    exact S.dis j k l ne a1 b1 e
theorem St.wipe {G : Cg} {n : Nat} {B H : Hp} {ρ : List Sl} {σ : L2.St} (S : St G n B H ρ σ) : ∀ vs : List Nat, St G n B H (wipeB ρ vs) (L2.wipe σ vs)
  | [] => S
  | v :: vs => (S.wipe vs).drop v
theorem wipe_get (σ : L2.St) : ∀ (vs : List Nat) (i : Nat), (L2.wipe σ vs)[i]? = if i ∈ vs then (if i < σ.length then some none else none) else σ[i]?
  | [], i => by
    rw [if_neg (by simp)]
    rfl
  | v :: vs, i => by
    unfold L2.wipe
    by_cases e : v = i
    · subst e
      rw [if_pos List.mem_cons_self]
      by_cases hl : v < σ.length
      · rw [List.getElem?_set_self (by rw [wipe_length]; exact hl), if_pos hl]
      · rw [List.getElem?_eq_none (by rw [List.length_set, wipe_length]; omega), if_neg hl]
    · rw [List.getElem?_set_ne e, wipe_get σ vs i]
      by_cases h : i ∈ vs
      · rw [if_pos h, if_pos (List.mem_cons_of_mem _ h)]
      · rw [if_neg h, if_neg (fun z => (List.mem_cons.mp z).elim (fun q => e q.symm) h)]
theorem wipe_only {σ σ2 : L2.St} {is vs : List Nat} (h : Only is (L2.wipe σ vs) σ2) (hs : ∀ i ∈ is, i ∈ vs) : L2.wipe σ2 vs = L2.wipe σ vs := by
  apply List.ext_getElem?
  intro i
  rw [wipe_get, wipe_get]
  have hl : σ2.length = σ.length := by rw [h.1, wipe_length]
  by_cases hi : i ∈ vs
  · rw [if_pos hi, if_pos hi, hl]
  · rw [if_neg hi, if_neg hi, h.2 i (fun z => hi (hs i z)), wipe_get, if_neg hi]
theorem Mv.own {pn : Pn} {B H B' H' : Hp} {l : Addr} {o : HO} (m : Mv pn B H B' H') (hl : H l = none) (hb : B' l = none) (hp : ∀ p c T, pn = some (p, c, T) → l ≠ p) (nt : notTb o := by trivial) : Mv pn B H B' (upd H' l o) := by
  have ne : ∀ {b : Addr} {u : HO}, H b = some u → b ≠ l := fun {b u} h z => by
    rw [z, hl] at h
    cases h
  refine ⟨?_, m.b, fun b u h => ?_, m.f, m.t, fun x ps h => ?_⟩
  · cases pn with
    | none =>
      intro b u h
      rw [upd_ne (ne h)]
      exact m.kp _ _ h
    | some pc =>
      refine ⟨fun b u nb nt h => ?_, fun o nt h => ?_, fun b ps h => ?_⟩
      · rw [upd_ne (ne h)]
        exact m.kp.1 _ _ nb nt h
      · rw [upd_ne (ne h)]
        exact m.kp.2.1 o nt h
      · rw [upd_ne (ne h)]
        exact m.kp.2.2 b ps h
  · rw [upd_ne (fun z => by rw [z, hb] at h; cases h)]
    exact m.s _ _ h
  · by_cases z : x = l
    · subst z
      rw [upd_same] at h
      cases h
      exact absurd nt (fun z => z)
    · rw [upd_ne z] at h
      exact m.u _ _ h
/-- a list, a dict that is written -/
def MutO (H : Hp) (l : Addr) : Prop := ∀ u, H l = some u → (∃ xs, u = .lst xs) ∨ ∃ kvs, u = .dK kvs
theorem MutO.none {H : Hp} {l : Addr} (h : H l = none) : MutO H l := fun u q => by
  rw [h] at q
  cases q
theorem MutO.lst {H : Hp} {l : Addr} {xs : List V} (h : H l = some (.lst xs)) : MutO H l := fun u q => by
  rw [h] at q
  exact .inl ⟨xs, (Option.some.inj q).symm⟩
theorem MutO.dK {H : Hp} {l : Addr} {xs : List (Key × V)} (h : H l = some (.dK xs)) : MutO H l := fun u q => by
  rw [h] at q
  exact .inr ⟨xs, (Option.some.inj q).symm⟩
theorem Pk.own {G : Cg} {n : Nat} {B H : Hp} {l : Addr} {o : HO} (pk : Pk G.pn n B H) (f : Free G B l) (hl : MutO H l) (nt : notTb o := by trivial) : Pk G.pn n B (upd H l o) := by
  cases e : G.pn with
  | none => trivial
  | some pc =>
    rw [e] at pk
    obtain ⟨⟨t, x, xs, h1, h2, h3⟩, hb, hT, hTb, hTu, hc⟩ := pk
    obtain ⟨n1, n2⟩ := f.2.2 pc.1 pc.2.1 pc.2.2 e
    refine ⟨⟨t, x, xs, by rw [upd_ne (Ne.symm n1)]; exact h1, by rw [upd_ne (Ne.symm n2)]; exact h2, h3⟩, hb, fun q hq => ?_, hTb, fun b ps h => ?_, hc⟩
    · obtain ⟨ps, a1, a2, a3⟩ := hT q hq
      have n3 : q.1 ≠ l := fun z => by
        rw [z] at a1
        rcases hl _ a1 with ⟨_, y⟩ | ⟨_, y⟩ <;> cases y
      refine ⟨ps, by rw [upd_ne n3]; exact a1, a2, fun pos cv hc => ?_⟩
      obtain ⟨cc, e1, e2⟩ := a3 pos cv hc
      have n4 : cc ≠ l := fun z => by
        rw [z] at e2
        unfold LamX.CodeO at e2
        rcases hl _ e2 with ⟨_, y⟩ | ⟨_, y⟩ <;> cases y
      exact ⟨cc, e1, by rw [upd_ne n4]; exact e2⟩
    · by_cases z : b = l
      · subst z
        rw [upd_same] at h
        cases h
        exact absurd nt (fun z => z)
      · rw [upd_ne z] at h
        exact hTu _ _ h
section
variable {X : Cx} {G : Cg} {a b c d e f : Expr} {es rest : List Expr} {ta tb tc td te : TE} {wa wb wc wd we : WE} {pos p p2 p3 : Pos} {x : Str} {n : Nat} {t u tt : TT} {w v wt : WT} {wl : WL}
structure BTs (X : Cx) (G : Cg) (es : List Expr) (t : TT) (w : WT) : Prop where
  pt : PTs X es t
  snd : SndT G t w
def wYes : WT := fun _ n _ Q => Q true n
theorem bts_nil : BTs X G [] tYes wYes := ⟨pts_nil, fun ρ σ n B H E Qd Q S hw _ k => k true n B H (Mv.refl S.sub) S.pk hw⟩
theorem bts_one (h : BT X G a t w) : BTs X G [a] t w := ⟨pts_one h.pe, h.snd⟩
/-- the items of a comprehension, one by one -/
def lcGo (wg : WG) (wt : WT) (we : WE) : List D → List PyData → Nat → List Sl → (List PyData → Nat → Prop) → Prop
  | [], acc, n, _, Q => Q acc n
  | d :: ds, acc, n, ρ, Q => wg d ρ fun ρ2 => wt ρ2 n (fun _ _ => False) fun b n1 => if b = true then we ρ2 n1 (fun _ _ => False) fun z n2 => (match z with
      | .py e => lcGo wg wt we ds (acc ++ [e]) n2 ρ Q
      | _ => False)
    else lcGo wg wt we ds acc n1 ρ Q
def wLc (wi : WI) (wg : WG) (wt : WT) (we : WE) (vs : List Nat) : WN := fun ρ n E Q => wi ρ n E fun ds n1 => lcGo wg wt we ds [] n1 (wipeB ρ vs) Q
theorem snd_lc {wi : TI} {g : TG} {ii : WI} {wg : WG} {is vs : List Nat} (hi : SndI G wi ii) (hg : SndG G g wg is) (ht : SndT G tt wt) (he : Snd G te we) (his : ∀ i ∈ is, i ∈ vs) : SndN G (tLc wi g tt te vs) (wLc ii wg wt we vs) := by
  intro ρ σ n B H E Qd Q S hw xw k
  refine hi ρ σ n B H E _ _ S hw xw fun J ds n1 B1 H1 m1 pk1 yl hz q1 => ?_
  intro D hD
  have S1 := S.step m1 pk1
  have F1 := free_new S1 hD
  have hH : H D = none := up_none m1 hD
  refine ⟨fun i m Hc => m = ds.length - i ∧ i ≤ ds.length ∧ ∃ n' Bc accV acc, Mv G.pn B1 H1 Bc Hc ∧ Pk G.pn n' Bc Hc ∧ Free G Bc D ∧ Hc D = some (.lst accV) ∧ accV.length ≤ i ∧ DdA G.K Bc accV acc ∧ lcGo wg wt we (ds.drop i) acc n' (wipeB ρ vs) Qd,
    ⟨ds.length, rfl, Nat.zero_le _, n1, B1, [], [], Mv.newOwn m1.s hD, pk1.own F1 (.none hD), F1, upd_same, Nat.le_refl _, .nil, q1⟩, ?_⟩
  rintro i m Hc ⟨rfl, hi', n', Bc, accV, acc, mc, pkc, Fc, hDc, hl, hA, q⟩
  obtain ⟨yg, ys, yy⟩ := yl Bc Hc mc.b mc.s
  by_cases hlt : i < ds.length
  · refine .inr ⟨yg i hlt, fun H' => i + 1 ≤ ds.length ∧ ∃ n' Bc accV acc, Mv G.pn B1 H1 Bc H' ∧ Pk G.pn n' Bc H' ∧ Free G Bc D ∧ H' D = some (.lst accV) ∧ accV.length ≤ i + 1 ∧ DdA G.K Bc accV acc ∧ lcGo wg wt we (ds.drop (i + 1)) acc n' (wipeB ρ vs) Qd,
      fun H' p => ⟨ds.length - (i + 1), by omega, rfl, p⟩, fun x H' y => ?_⟩
    obtain ⟨B', d, hd, my, ry⟩ := yy i x H' hlt y
    have ed : ds.drop i = d :: ds.drop (i + 1) := by
      rw [List.drop_eq_getElem_cons hlt]
      have := (List.getElem?_eq_some_iff.mp hd).2
      rw [this]
    rw [ed] at q
    simp only [lcGo] at q
    have m2 := mc.trans (my.of (pn := G.pn))
    have pk2 := pkc.mv my
    have S2 := (S1.step m2 pk2).wipe vs
    refine hg _ _ n' B' H' x d _ _ S2 ry q fun ρ3 σ3 S3 o3 q3 => ⟨wipe_only o3.o his, ?_⟩
    refine ht ρ3 σ3 n' B' H' _ _ _ S3 q3 XW.none fun b n3 B3 H3 m3 pk3 q4 => ?_
    have m03 := (my.of (pn := G.pn)).trans m3
    cases b with
    | true =>
      rw [if_pos rfl] at q4 ⊢
      refine he ρ3 σ3 n3 B3 H3 _ _ _ (S3.step m3 pk3) q4 XW.none fun z dz n4 B4 H4 m4 pk4 r4 q5 => ?_
      match dz, r4, q5 with
      | .py ez, r4, q5 =>
        have m04 := m03.trans m4
        have hD4 := m04.kp.at_ Fc hDc
        have F4 := Fc.mv m04 hDc
        exact ⟨accV, hD4, Nat.lt_of_le_of_lt hl (Nat.lt_of_lt_of_le hlt hz), hlt, n4, B4, accV ++ [z], acc ++ [ez], (mc.trans m04).own hD F4.1 (fun p c T e => (F4.2.2 p c T e).1), pk4.own F4 (.lst hD4), F4, upd_same, by rw [List.length_append]; exact Nat.succ_le_succ hl, (hA.mono m04.b).snoc r4, q5⟩
    | false =>
      rw [if_neg (by decide)] at q4 ⊢
      exact ⟨hlt, n3, B3, accV, acc, mc.trans m03, pk3, Fc.mv m03 hDc, m03.kp.at_ Fc hDc, Nat.le_succ_of_le hl, hA.mono m03.b, q4⟩
  · have e : i = ds.length := by omega
    subst e
    rw [List.drop_length] at q
    exact .inl ⟨ys, k D accV acc n' Bc Hc (m1.trans mc) pkc hH Fc hDc (Nat.le_trans hl hz) hA q⟩
theorem bn_lc {elt tg iter : Expr} {ifs : List Expr} {scope : Scope} {own : List (Str × Nat)} {wi : TI} {g : TG} {ii : WI} {wg : WG} {is : List Nat} (hc : X.calm = true) (hN : X.N.Nodup) (hi : BI X G tg iter wi ii) (ok : BlkOk X.N X.env.scope scope own)
    (hg : ∀ (s : Shared) (H : Hp) (C : Addr) (cl : List (Str × Addr)) (fp : List Addr), BG (X.blk s H scope (compEnvC scope cl C X.env) fp) G tg g wg is) (ht : ∀ (s : Shared) (H : Hp) (C : Addr) (cl : List (Str × Addr)) (fp : List Addr), BTs (X.blk s H scope (compEnvC scope cl C X.env) fp) G ifs tt wt)
    (he : ∀ (s : Shared) (H : Hp) (C : Addr) (cl : List (Str × Addr)) (fp : List Addr), BE (X.blk s H scope (compEnvC scope cl C X.env) fp) G elt te we) (his : ∀ i ∈ is, i ∈ own.map (·.2) := by decide) (hs : ∀ x, foldedSetIterable iter X.env x = pure x := by intro _; rfl) :
    BN X G (.ListComp elt [⟨tg, iter, ifs, 0⟩] scope pos) (tLc wi g tt te (own.map (·.2))) (wLc ii wg wt we (own.map (·.2))) :=
  ⟨pe_lc hc hN hi.pi ok (fun s H C cl fp => (hg s H C cl fp).pg) (fun s H C cl fp => (ht s H C cl fp).pt) (fun s H C cl fp => (he s H C cl fp).pe) hs,
    snd_lc hi.snd (hg X.s_0 G.H0 0 [] []).snd (ht X.s_0 G.H0 0 [] []).snd (he X.s_0 G.H0 0 [] []).snd his⟩
end
end Fv
set_option maxRecDepth 100000
set_option maxHeartbeats 4000000
/-! Statements. -/
namespace Fv
open PySem PySem.Spec PyProof.Rows L2 Gb
/-! ### what a name is set to -/
def RS (G : Cg) (Ho B H : Hp) (v : V) : Sl → Prop
  | .no => False
  | .val d => R G B v d
  | .own ds => ∃ l vs, v = .ref l ∧ Ho l = none ∧ Free G B l ∧ H l = some (.lst vs) ∧ vs.length ≤ sizeLine ∧ DdA G.K B vs ds
  | .dow ks => ∃ l kvs, v = .ref l ∧ Ho l = none ∧ Free G B l ∧ H l = some (.dK kvs) ∧ DdK G.K B kvs ks
  | .mat t l rows => v = .ref l ∧ MatAt G B H t l rows ∧ ∀ a, a ∈ l :: rows.map (·.1) → Ho a = none
theorem RS.step {G : Cg} {Ho B H B' H' : Hp} {v : V} {s : Sl} (h : RS G Ho B H v s) (m : Mv G.pn B H B' H') : RS G Ho B' H' v s := by
  cases s with
  | no => exact h
  | val d => exact R.mono m.b h
  | own ds =>
    obtain ⟨l, vs, h1, h2, h3, h4, h5, h6⟩ := h
    exact ⟨l, vs, h1, h2, h3.mv m h4, m.kp.at_ h3 h4, h5, h6.mono m.b⟩
  | dow ds =>
    obtain ⟨l, vs, h1, h2, h3, h4, h6⟩ := h
    exact ⟨l, vs, h1, h2, h3.mv m h4, m.kp.at_ h3 h4, h6.mono m.b⟩
  | mat t l rows => exact ⟨h.1, h.2.1.step m, h.2.2⟩
/-- what a new thing stands on -/
def foot (s : Sl) (v : V) (a : Addr) : Prop := (s.isOwn = true ∧ v = .ref a) ∨ ∃ t l rows, s = .mat t l rows ∧ a ∈ l :: rows.map (·.1)
theorem St.setS {G : Cg} {n : Nat} {Ho B H : Hp} {ρ : List Sl} {σ : L2.St} (S : St G n B H ρ σ) {i : Nat} {v : V} {s : Sl} (hf : ∀ a, foot s v a → (∀ j, j ≠ i → ownAt ρ j → σ[j]? ≠ some (some (.ref a))) ∧ ¬ ghost ρ a) (r : RS G Ho B H v s) : St G n B H (ρ.set i s) (σ.set i (some v)) := by
  have at_ : ∀ {j : Nat} {x : Sl}, (ρ.set i s)[j]? = some x → (j = i ∧ x = s ∧ (σ.set i (some v))[j]? = some (some v)) ∨ (j ≠ i ∧ ρ[j]? = some x ∧ (σ.set i (some v))[j]? = σ[j]?) := fun {j x} h => by
    by_cases e : i = j
    · subst e
      have hi : i < ρ.length := by
        have := (List.getElem?_eq_some_iff.mp h).1
        rwa [List.length_set] at this
      rw [List.getElem?_set_self hi] at h
      exact .inl ⟨rfl, (Option.some.inj h).symm, List.getElem?_set_self (by rw [← S.len]; exact hi)⟩
    · rw [List.getElem?_set_ne e] at h
      exact .inr ⟨Ne.symm e, h, List.getElem?_set_ne e⟩
  refine ⟨S.mv, S.pk, by rw [List.length_set, List.length_set]; exact S.len, fun j z h => ?_, fun j ds h => ?_, fun j ks h => ?_, fun j k l ne hj hk e => ?_, ⟨fun j t l rows h => ?_, fun j k t l rows t' l' rows' ne h h' a ha ha' => ?_, fun j a hj e hg => ?_⟩⟩
  · rcases at_ h with ⟨_, h2, h3⟩ | ⟨_, h2, h3⟩
    · rw [← h2] at r
      exact ⟨v, h3, r⟩
    · rw [h3]
      exact S.val j z h2
  · rcases at_ h with ⟨_, h2, h3⟩ | ⟨_, h2, h3⟩
    · rw [← h2] at r
      obtain ⟨l, vs, rfl, _, h4, h5, h6, h7⟩ := r
      exact ⟨l, vs, h3, h5, h6, h7, h4⟩
    · rw [h3]
      exact S.own j ds h2
  · rcases at_ h with ⟨_, h2, h3⟩ | ⟨_, h2, h3⟩
    · rw [← h2] at r
      obtain ⟨l, vs, rfl, _, h4, h5, h6⟩ := r
      exact ⟨l, vs, h3, h5, h6, h4⟩
    · rw [h3]
      exact S.dow j ks h2
  · obtain ⟨x, hx, ox⟩ := hj
    obtain ⟨y, hy, oy⟩ := hk
    rcases at_ hx with ⟨a1, a2, a3⟩ | ⟨a1, a2, a3⟩
    · rcases at_ hy with ⟨b1, b2, b3⟩ | ⟨b1, b2, b3⟩
      · exact absurd (a1.trans b1.symm) ne
      · rw [b3]
        rw [a3] at e
        have ev : v = .ref l := Option.some.inj (Option.some.inj e)
        exact (hf l (.inl ⟨by rw [← a2]; exact ox, ev⟩)).1 k b1 ⟨y, b2, oy⟩
    · rcases at_ hy with ⟨b1, b2, b3⟩ | ⟨b1, b2, b3⟩
      · rw [b3]
        rw [a3] at e
        intro q
        have ev : v = .ref l := Option.some.inj (Option.some.inj q)
        exact (hf l (.inl ⟨by rw [← b2]; exact oy, ev⟩)).1 j a1 ⟨x, a2, ox⟩ e
      · rw [b3]
        rw [a3] at e
        exact S.dis j k l ne ⟨x, a2, ox⟩ ⟨y, b2, oy⟩ e
  · rcases at_ h with ⟨h1, h2, h3⟩ | ⟨h1, h2, h3⟩
    · rw [← h2] at r
      obtain ⟨e, A, _⟩ := r
      rw [h3, e]
      exact ⟨rfl, A⟩
    · rw [h3]
      exact S.mat.at_ j t l rows h2
  · rcases at_ h with ⟨h1, h2, _⟩ | ⟨h1, h2, _⟩
    · rcases at_ h' with ⟨g1, g2, _⟩ | ⟨g1, g2, _⟩
      · exact ne (h1.trans g1.symm)
      · exact (hf a (.inr ⟨t, l, rows, h2.symm, ha⟩)).2 ⟨k, t', l', rows', g2, ha'⟩
    · rcases at_ h' with ⟨g1, g2, _⟩ | ⟨g1, g2, _⟩
      · exact (hf a (.inr ⟨t', l', rows', g2.symm, ha'⟩)).2 ⟨j, t, l, rows, h2, ha⟩
      · exact S.mat.sep j k t l rows t' l' rows' ne h2 g2 a ha ha'
  · obtain ⟨x, hx, ox⟩ := hj
    obtain ⟨k, t, l, rows, h', ha⟩ := hg
    rcases at_ hx with ⟨h1, h2, h3⟩ | ⟨h1, h2, h3⟩
    · rw [h3] at e
      have ev : v = .ref a := Option.some.inj (Option.some.inj e)
      rcases at_ h' with ⟨g1, g2, _⟩ | ⟨g1, g2, _⟩
      · rw [h2, ← g2] at ox
        cases ox
      · exact (hf a (.inl ⟨by rw [← h2]; exact ox, ev⟩)).2 ⟨k, t, l, rows, g2, ha⟩
    · rw [h3] at e
      rcases at_ h' with ⟨g1, g2, _⟩ | ⟨g1, g2, _⟩
      · exact (hf a (.inr ⟨t, l, rows, g2.symm, ha⟩)).1 j h1 ⟨x, h2, ox⟩ e
      · exact S.mat.own j a ⟨x, h2, ox⟩ e ⟨k, t, l, rows, g2, ha⟩
/-- what is new stands on what was free -/
theorem St.footNe {G : Cg} {n' : Nat} {Ho Bo B H : Hp} {ρ : List Sl} {σ : L2.St} {v : V} {s : Sl} (So : St G n' Bo Ho ρ σ) (r : RS G Ho B H v s) (a : Addr) (ha : foot s v a) : (∀ j, ownAt ρ j → σ[j]? ≠ some (some (.ref a))) ∧ ¬ ghost ρ a := by
  have h0 : Ho a = none := by
    rcases ha with ⟨h1, rfl⟩ | ⟨t, l, rows, rfl, h2⟩
    · cases s with
      | no => cases h1
      | val d => cases h1
      | mat t l rows => cases h1
      | own ds =>
        obtain ⟨l, vs, e, h, _⟩ := r
        cases e
        exact h
      | dow ds =>
        obtain ⟨l, vs, e, h, _⟩ := r
        cases e
        exact h
    · exact r.2.2 a h2
  refine ⟨fun j ⟨x, hx, ox⟩ e => ?_, fun hg => ?_⟩
  · have : ∃ l o, σ[j]? = some (some (.ref l)) ∧ Ho l = some o := by
      cases x with
      | no => cases ox
      | val d => cases ox
      | mat t l rows => cases ox
      | own ds =>
        obtain ⟨l, vs, h1, h2, _⟩ := So.own j ds hx
        exact ⟨l, _, h1, h2⟩
      | dow ds =>
        obtain ⟨l, vs, h1, h2, _⟩ := So.dow j ds hx
        exact ⟨l, _, h1, h2⟩
    obtain ⟨l, o, h1, h2⟩ := this
    rw [e] at h1
    cases h1
    rw [h0] at h2
    cases h2
  · obtain ⟨o, h⟩ := So.mat.there hg
    rw [h0] at h
    cases h
abbrev WV := List Sl → Nat → XQ → (Sl → Nat → Prop) → Prop
def SndV (G : Cg) (t : TE) (w : WV) : Prop := ∀ ρ σ n B H E (Qd : Sl → Nat → Prop) (Q : VK), St G n B H ρ σ → w ρ n E Qd → XW G σ B H E →
  (∀ v s n' B' H', Mv G.pn B H B' H' → Pk G.pn n' B' H' → RS G H B' H' v s → Qd s n' → Q v H') → t σ H Q
structure BV (X : Cx) (G : Cg) (e : Expr) (t : TE) (w : WV) : Prop where
  pe : PE X e t
  snd : SndV G t w
section
variable {X : Cx} {G : Cg} {a b c d e f : Expr} {es rest : List Expr} {ta tb tc td te : TE} {wa wb wc wd we : WE} {pos p p2 p3 : Pos} {x : Str} {n : Nat} {t u tt : TT} {w v wt : WT} {wl : WL} {wn : WN}
def wVE (w : WE) : WV := fun ρ n E Q => w ρ n E fun d n' => Q (.val d) n'
theorem BE.toV (h : BE X G a ta wa) : BV X G a ta (wVE wa) := ⟨h.pe, fun ρ σ n B H E Qd Q S hw xw k => h.snd ρ σ n B H E _ _ S hw xw fun v d n' B' H' m pk r q => k v (.val d) n' B' H' m pk r q⟩
def wVN (w : WN) : WV := fun ρ n E Q => w ρ n E fun ds n' => Q (.own ds) n'
theorem BN.toV (h : BN X G a ta wn) : BV X G a ta (wVN wn) := ⟨h.pe, fun ρ σ n B H E Qd Q S hw xw k => h.snd ρ σ n B H E _ _ S hw xw fun l vs ds n' B' H' m pk hl fr hl' hz r q => k (.ref l) (.own ds) n' B' H' m pk ⟨l, vs, rfl, hl, fr, hl', hz, r⟩ q⟩
def wVD : WV := fun _ n _ Q => Q (.dow []) n
end
/-! ### statements -/
structure EB where
  nx : List Sl → Nat → Prop
  rt : D → Nat → Prop
  bk : List Sl → Nat → Prop := fun _ _ => False
  ct : List Sl → Nat → Prop := fun _ _ => False
abbrev XB := List Sl → XQ
abbrev WS := List Sl → Nat → XB → EB → Prop
def XS (G : Cg) (B : Hp) (E : XB) : Prop := ∀ ρ σ n B' H', Same B B' → St G n B' H' ρ σ → XW G σ B' H' (E ρ)
theorem XS.mono {G : Cg} {B B' : Hp} {E : XB} (h : XS G B E) (s : Same B B') : XS G B' E := fun ρ σ n B2 H2 s2 S => h ρ σ n B2 H2 (s.trans s2) S
theorem MatAt.cg {G G' : Cg} {B H : Hp} {t : Bool} {l : Addr} {rows : Rws} (h1 : G.K = G'.K) (h2 : G.pn = G'.pn) (h3 : G.H0 = G'.H0) (h : MatAt G B H t l rows) : MatAt G' B H t l rows := by
  obtain ⟨K, C, pn, xe, ex, B0, H0⟩ := G
  obtain ⟨K', C', pn', xe', ex', B0', H0'⟩ := G'
  cases h1
  cases h2
  cases h3
  exact ⟨h.at_, h.fr, h.nd, h.len, h.row⟩
/-- what a def tells of its own: a list; lists of its own in a tuple, or in a list (told with None ahead); nothing -/
def RtN (G : Cg) (rt : D → Nat → Prop) (Dr : VK) : Prop :=
  (∀ l vs ds n' B' H', Mv G.pn G.B0 G.H0 B' H' → Pk G.pn n' B' H' → Free G B' l → H' l = some (.lst vs) → vs.length ≤ sizeLine → DdA G.K B' vs ds → rt (.py (.list ds)) n' → Dr (.ref l) H') ∧
  (∀ tp l rows n' B' H', Mv G.pn G.B0 G.H0 B' H' → Pk G.pn n' B' H' → MatAt G B' H' tp l rows → rt (.py (.tuple (if tp = true then rows.map (fun r => .list r.2) else .none :: rows.map fun r => .list r.2))) n' → Dr (.ref l) H') ∧
  (∀ n' B' H', Mv G.pn G.B0 G.H0 B' H' → Pk G.pn n' B' H' → rt (.py .none) n' → Dr .non H')
theorem RtN.wx {G G' : Cg} {rt : D → Nat → Prop} {Dr : VK} (h1 : G.K = G'.K) (h2 : G.pn = G'.pn) (h3 : G.H0 = G'.H0) (h4 : G.B0 = G'.B0) (h : RtN G rt Dr) : RtN G' rt Dr := by
  obtain ⟨K, C, pn, xe, ex, B0, H0⟩ := G
  obtain ⟨K', C', pn', xe', ex', B0', H0'⟩ := G'
  cases h1
  cases h2
  cases h3
  cases h4
  exact ⟨h.1, fun tp l rows n' B' H' mv pk A q => h.2.1 tp l rows n' B' H' mv pk (MatAt.cg (G := ⟨K, C', pn, xe', ex', B0, H0⟩) (G' := ⟨K, C, pn, xe, ex, B0, H0⟩) rfl rfl rfl A) q, h.2.2⟩
/-- m: what is of its own is returned -/
structure EO (G : Cg) (m : Bool) (B : Hp) (D : Ends) (DB : EB) : Prop where
  nx : ∀ ρ σ n B' H', Same B B' → St G n B' H' ρ σ → DB.nx ρ n → D.nx σ H'
  bk : ∀ ρ σ n B' H', Same B B' → St G n B' H' ρ σ → DB.bk ρ n → D.bk σ H'
  ct : ∀ ρ σ n B' H', Same B B' → St G n B' H' ρ σ → DB.ct ρ n → D.ct σ H'
  rt : m = false → ∀ v d n' B' H', Mv G.pn G.B0 G.H0 B' H' → Pk G.pn n' B' H' → R G B' v d → DB.rt d n' → D.rt v H'
  rn : m = true → RtN G DB.rt D.rt
theorem EO.mono {G : Cg} {m : Bool} {B B' : Hp} {D : Ends} {DB : EB} (h : EO G m B D DB) (s : Same B B') : EO G m B' D DB :=
  ⟨fun ρ σ n B2 H2 s2 => h.nx ρ σ n B2 H2 (s.trans s2), fun ρ σ n B2 H2 s2 => h.bk ρ σ n B2 H2 (s.trans s2), fun ρ σ n B2 H2 s2 => h.ct ρ σ n B2 H2 (s.trans s2), h.rt, h.rn⟩
def SndS (m : Bool) (G : Cg) (t : TS) (w : WS) : Prop := ∀ ρ σ n B H E D DB, St G n B H ρ σ → w ρ n E DB → XS G B E → EO G m B D DB → t D σ H
structure BS (m : Bool) (X : Cx) (G : Cg) (s : Stmt) (t : TS) (w : WS) : Prop where
  ps : PS X s t
  snd : SndS m G t w
structure BSs (m : Bool) (X : Cx) (G : Cg) (s : List Stmt) (t : TS) (w : WS) : Prop where
  ps : PSs X s t
  snd : SndS m G t w
section
variable {m : Bool} {X : Cx} {G : Cg} {a b c d e f : Expr} {es rest : List Expr} {ta tb tc td te : TE} {wa wb wc wd we : WE} {pos p p2 p3 : Pos} {x : Str} {n : Nat} {t u tt : TT} {w v wt : WT} {wl : WL} {wn : WN} {wv wv2 : WV} {st : Stmt} {sts sts2 : List Stmt} {ts us : TS} {ws vs : WS}
theorem XS.at {G : Cg} {n : Nat} {B H : Hp} {ρ : List Sl} {σ : L2.St} {E : XB} (h : XS G B E) (S : St G n B H ρ σ) : XW G σ B H (E ρ) := h ρ σ n B H (Same.refl B) S
def sNil : WS := fun ρ n _ DB => DB.nx ρ n
def sSeq (w v : WS) : WS := fun ρ n E DB => w ρ n E { DB with nx := fun ρ' n' => v ρ' n' E DB }
theorem bss_nil : BSs m X G [] tNext sNil := ⟨pss_nil, fun ρ σ n B H E D DB S hw _ eo => eo.nx ρ σ n B H (Same.refl B) S hw⟩
theorem bss_cons (h : BS m X G st ts ws) (h2 : BSs m X G sts us vs) : BSs m X G (st :: sts) (tSeq ts us) (sSeq ws vs) :=
  ⟨pss_cons h.ps h2.ps, fun ρ σ n B H E D DB S hw xs eo => h.snd ρ σ n B H E _ _ S hw xs ⟨fun ρ' σ' n' B' H' sb S' q => h2.snd ρ' σ' n' B' H' E D DB S' q (xs.mono sb) (eo.mono sb), eo.bk, eo.ct, eo.rt, eo.rn⟩⟩
theorem bss_one (h : BS m X G st ts ws) : BSs m X G [st] ts ws := ⟨pss_one h.ps, h.snd⟩
/-- name = e -/
def sSet (i : Nat) (w : WV) : WS := fun ρ n E DB => w ρ n (E ρ) fun s n' => DB.nx (ρ.set i s) n'
theorem bs_set {i : Nat} (h : BV X G a ta wv) (hp : PS X st (tAsg ta (gName i))) : BS m X G st (tAsg ta (gName i)) (sSet i wv) :=
  ⟨hp, fun ρ σ n B H E D DB S hw xs eo => h.snd ρ σ n B H _ _ _ S hw (xs.at S) fun v s n' B' H' mv pk r q => eo.nx _ _ n' B' H' mv.b ((S.step mv pk).setS (fun a ha => ⟨fun j _ => (S.footNe r a ha).1 j, (S.footNe r a ha).2⟩) r) q⟩
/-- targets = e -/
def sAsg (w : WE) (wg : WG) : WS := fun ρ n E DB => w ρ n (E ρ) fun d n' => wg d ρ fun ρ' => DB.nx ρ' n'
theorem bs_asg {g : TG} {wg : WG} {is : List Nat} (h : BE X G a ta wa) (hg : BG X G b g wg is) (hs : swapsWithSole [b] a pos.line X.env = pure false := by rfl) (hw : swappedStores [b] a X.env = pure none := by rfl)
    (h1 : (assignEach [b] X.env).map (·.2) = [assign b X.env] := by rfl) : BS m X G (.Assign [b] a pos) (tAsg ta g) (sAsg wa wg) :=
  ⟨ps_asg h.pe hg.pg hs hw h1, fun ρ σ n B H E D DB S hw xs eo => h.snd ρ σ n B H _ _ _ S hw (xs.at S) fun v d n' B' H' mv pk r q => hg.snd ρ σ n' B' H' v d _ _ (S.step mv pk) r q fun ρ' σ' S' _ q' => eo.nx _ _ n' B' H' mv.b S' q'⟩
/-- a, b = e, f -/
def sPar (i j : Nat) (w v : WV) : WS := fun ρ n E DB => w ρ n (E ρ) fun s n1 => v ρ n1 (E ρ) fun s2 n2 => DB.nx ((ρ.set i s).set j s2) n2
theorem bs_par {i j : Nat} (ha : BV X G a ta wv) (hb : BV X G b tb wv2) (hij : i ≠ j) (hp : PS X st (tPar i j (tCons ta (tCons tb tNil)))) : BS m X G st (tPar i j (tCons ta (tCons tb tNil))) (sPar i j wv wv2) :=
  ⟨hp, fun ρ σ n B H E D DB S hw xs eo => ha.snd ρ σ n B H _ _ _ S hw (xs.at S) fun v1 s1 n1 B1 H1 m1 pk1 r1 q1 => by
    have S1 := S.step m1 pk1
    refine hb.snd ρ σ n1 B1 H1 _ _ _ S1 q1 ((xs.at S).step m1) fun v2 s2 n2 B2 H2 m2 pk2 r2 q2 => ⟨v1, v2, rfl, ?_⟩
    have S2 := (S1.step m2 pk2).setS (i := i) (fun a ha => ⟨fun j _ => (S.footNe r1 a ha).1 j, (S.footNe r1 a ha).2⟩) (r1.step m2)
    refine eo.nx _ _ n2 B2 H2 (m1.b.trans m2.b) (S2.setS (i := j) (fun a ha => ?_) r2) q2
    have S3 := S1.setS (i := i) (fun a ha => ⟨fun j _ => (S.footNe r1 a ha).1 j, (S.footNe r1 a ha).2⟩) r1
    exact ⟨fun k _ => (S3.footNe r2 a ha).1 k, (S3.footNe r2 a ha).2⟩⟩
def sPar3 (i j l : Nat) (w v u : WV) : WS := fun ρ n E DB => w ρ n (E ρ) fun s n1 => v ρ n1 (E ρ) fun s2 n2 => u ρ n2 (E ρ) fun s3 n3 => DB.nx (((ρ.set i s).set j s2).set l s3) n3
/-- return e -/
def sRet (w : WE) : WS := fun ρ n E DB => w ρ n (E ρ) fun d n' => DB.rt d n'
theorem bs_ret (h : BE X G a ta wa) : BS false X G (.Return (some a) pos) (tRet ta) (sRet wa) :=
  ⟨ps_ret h.pe, fun ρ σ n B H E D DB S hw xs eo => h.snd ρ σ n B H _ _ _ S hw (xs.at S) fun v d n' B' H' mv pk r q => eo.rt rfl v d n' B' H' (S.mv.trans mv) pk r q⟩
def sRetN (w : WN) : WS := fun ρ n E DB => w ρ n (E ρ) fun ds n' => DB.rt (.py (.list ds)) n'
theorem bs_retN (h : BN X G a ta wn) : BS true X G (.Return (some a) pos) (tRet ta) (sRetN wn) :=
  ⟨ps_ret h.pe, fun ρ σ n B H E D DB S hw xs eo => h.snd ρ σ n B H _ _ _ S hw (xs.at S) fun l vs ds n' B' H' mv pk _ fr hl hz r q => (eo.rn rfl).1 l vs ds n' B' H' (S.mv.trans mv) pk fr hl hz r q⟩
def sRetO (i : Nat) : WS := fun ρ n _ DB => match ρ[i]? with
  | some (.own ds) => DB.rt (.py (.list ds)) n
  | _ => False
/-- return of one's own list -/
theorem bs_retO (i : Nat) (h : PE X a (tVar i)) : BS true X G (.Return (some a) pos) (tRet (tVar i)) (sRetO i) :=
  ⟨ps_ret h, fun ρ σ n B H E D DB S hw xs eo => by
    unfold sRetO at hw
    match hr : ρ[i]?, hw with
    | some (.own ds), hw =>
      obtain ⟨l, vs, h1, h2, h3, h4, h5⟩ := S.own i ds hr
      exact ⟨_, h1, (eo.rn rfl).1 l vs ds n B H S.mv S.pk h5 h2 h3 h4 hw⟩⟩
/-- return of lists of one's own in a tuple -/
def sRetM (w : WV) : WS := fun ρ n E DB => w ρ n (E ρ) fun s n' => match s with
  | .mat true _ rows => DB.rt (.py (.tuple (rows.map fun r => .list r.2))) n'
  | _ => False
theorem bs_retM (h : BV X G a ta wv) : BS true X G (.Return (some a) pos) (tRet ta) (sRetM wv) :=
  ⟨ps_ret h.pe, fun ρ σ n B H E D DB S hw xs eo => h.snd ρ σ n B H _ _ _ S hw (xs.at S) fun v s n' B' H' mv pk r q => by
    match s, r, q with
    | .mat true l rows, r, q =>
      obtain ⟨rfl, A, _⟩ := r
      exact (eo.rn rfl).2.1 true l rows n' B' H' (S.mv.trans mv) pk A q⟩
/-- return of one's own list of lists -/
def sRetMO (i : Nat) : WS := fun ρ n _ DB => match ρ[i]? with
  | some (.mat false _ rows) => DB.rt (.py (.tuple (.none :: rows.map fun r => .list r.2))) n
  | _ => False
/-- return None where something of one's own may be told -/
def sRetZ (w : WE) : WS := fun ρ n E DB => w ρ n (E ρ) fun d n' => d = .py .none ∧ DB.rt (.py .none) n'
/-- if -/
def sIf (w : WT) (ws vs : WS) : WS := fun ρ n E DB => w ρ n (E ρ) fun k n1 => if k = true then ws ρ n1 E DB else vs ρ n1 E DB
theorem bs_if (h : BT X G c t w) (ha : BSs m X G sts ts ws) (hb : BSs m X G sts2 us vs) : BS m X G (.If c sts sts2 pos) (tIfS t ts us) (sIf w ws vs) :=
  ⟨ps_if h.pe ha.ps hb.ps, fun ρ σ n B H E D DB S hw xs eo => h.snd ρ σ n B H _ _ _ S hw (xs.at S) fun k n1 B1 H1 m1 pk1 q1 => by
    have S1 := S.step m1 pk1
    cases k with
    | true =>
      rw [if_pos rfl] at q1 ⊢
      exact ha.snd ρ σ n1 B1 H1 E D DB S1 q1 (xs.mono m1.b) (eo.mono m1.b)
    | false =>
      rw [if_neg (by decide)] at q1 ⊢
      exact hb.snd ρ σ n1 B1 H1 E D DB S1 q1 (xs.mono m1.b) (eo.mono m1.b)⟩
/-- a call for what it refuses -/
def sExpr (w : WE) : WS := fun ρ n E DB => w ρ n (E ρ) fun _ n' => DB.nx ρ n'
theorem bs_expr (h : BE X G a ta wa) (hs : swapsWith a none pos.line X.env = pure false := by rfl) : BS m X G (.Expr a pos) (tDrop ta) (sExpr wa) :=
  ⟨ps_expr h.pe hs, fun ρ σ n B H E D DB S hw xs eo => h.snd ρ σ n B H _ _ _ S hw (xs.at S) fun v d n' B' H' mv pk r q => eo.nx ρ σ n' B' H' mv.b (S.step mv pk) q⟩
/-- for -/
def forGo (wg : WG) (b : WS) : List D → WS
  | [] => fun ρ n _ DB => DB.nx ρ n
  | d :: ds => fun ρ n E DB => wg d ρ fun ρ2 => b ρ2 n E { DB with nx := fun ρ' n' => forGo wg b ds ρ' n' E DB, ct := fun ρ' n' => forGo wg b ds ρ' n' E DB, bk := DB.nx }
def sFor (wi : WI) (wg : WG) (b : WS) : WS := fun ρ n E DB => wi ρ n (E ρ) fun ds n1 => forGo wg b ds ρ n1 E DB
theorem bs_for {wi : TI} {g : TG} {ii : WI} {wg : WG} {is : List Nat} {iter : Expr} (hp : PassesOwn (model X.prog X.w) X.A X.env X.xe) (hc : X.calm = true) (hi : BI X G b iter wi ii) (hg : BG X G b g wg is) (hb : BSs m X G sts ts ws) (hs : ∀ x, foldedSetIterable iter X.env x = pure x := by intro _; rfl) :
    BS m X G (.For b iter sts [] pos) (tFor wi g ts) (sFor ii wg ws) :=
  ⟨ps_for hp hc hi.pi hg.pg hb.ps hs, fun ρ σ n B H E D DB S hw xs eo => hi.snd ρ σ n B H _ _ _ S hw (xs.at S) fun J ds n1 B1 H1 m1 pk1 yl hz q1 => by
    refine ⟨fun i k σ' Hc => k = ds.length - i ∧ i ≤ ds.length ∧ ∃ ρ' n' Bc, Same B1 Bc ∧ St G n' Bc Hc ρ' σ' ∧ forGo wg ws (ds.drop i) ρ' n' E DB, ⟨ds.length, rfl, Nat.zero_le _, ρ, n1, B1, Same.refl B1, S.step m1 pk1, q1⟩, ?_⟩
    rintro i k σ' Hc ⟨rfl, hi', ρ', n', Bc, sb, Sc, q⟩
    obtain ⟨yg, ys, yy⟩ := yl Bc Hc sb Sc.sub
    have sB := m1.b.trans sb
    by_cases hlt : i < ds.length
    · refine .inr ⟨yg i hlt, fun σ2 H2 => i + 1 ≤ ds.length ∧ ∃ ρ' n' Bc, Same B1 Bc ∧ St G n' Bc H2 ρ' σ2 ∧ forGo wg ws (ds.drop (i + 1)) ρ' n' E DB, fun σ2 H2 p => ⟨ds.length - (i + 1), by omega, rfl, p⟩, fun x H' y => ?_⟩
      obtain ⟨B', d, hd, my, ry⟩ := yy i x H' hlt y
      have ed : ds.drop i = d :: ds.drop (i + 1) := by
        rw [List.drop_eq_getElem_cons hlt]
        have := (List.getElem?_eq_some_iff.mp hd).2
        rw [this]
      rw [ed] at q
      simp only [forGo] at q
      have S2 := Sc.step (my.of (pn := G.pn)) (Sc.pk.mv my)
      refine hg.snd ρ' σ' n' B' H' x d _ _ S2 ry q fun ρ3 σ3 S3 _ q3 => ?_
      have sB3 := sB.trans my.b
      exact hb.snd ρ3 σ3 n' B' H' E _ _ S3 q3 (xs.mono sB3) ⟨fun ρ4 σ4 n4 B4 H4 s4 S4 q4 => ⟨hlt, ρ4, n4, B4, (sb.trans my.b).trans s4, S4, q4⟩, fun ρ4 σ4 n4 B4 H4 s4 S4 q4 => eo.nx ρ4 σ4 n4 B4 H4 (sB3.trans s4) S4 q4,
        fun ρ4 σ4 n4 B4 H4 s4 S4 q4 => ⟨hlt, ρ4, n4, B4, (sb.trans my.b).trans s4, S4, q4⟩, eo.rt, eo.rn⟩
    · have e : i = ds.length := by omega
      subst e
      rw [List.drop_length] at q
      exact .inl ⟨ys, eo.nx ρ' σ' n' Bc Hc sB Sc q⟩⟩
/-- while, at most so many turns -/
def whN (c : WT) (b : WS) : Nat → WS
  | 0 => fun _ _ _ _ => False
  | k + 1 => fun ρ n E DB => c ρ n (E ρ) fun z n1 => if z = true then b ρ n1 E { DB with nx := fun ρ' n' => whN c b k ρ' n' E DB, ct := fun ρ' n' => whN c b k ρ' n' E DB, bk := DB.nx } else DB.nx ρ n1
def sWhile (c : WT) (b : WS) : WS := fun ρ n E DB => ∃ k, whN c b k ρ n E DB
end
end Fv
set_option maxRecDepth 100000
set_option maxHeartbeats 4000000
/-! Lists and dicts of one's own: what changes them; dicts looked at. -/
namespace Fv
open PySem PySem.Spec PyProof.Rows L2 Gb
/-! ### a slot's object is written -/
def WrOk (G : Cg) (B : Hp) (o : HO) : Sl → Prop
  | .own ds => ∃ vs, o = .lst vs ∧ vs.length ≤ sizeLine ∧ DdA G.K B vs ds
  | .dow ks => ∃ kvs, o = .dK kvs ∧ DdK G.K B kvs ks
  | _ => False
theorem WrOk.nt {G : Cg} {B : Hp} {o : HO} {s : Sl} (h : WrOk G B o s) : notTb o := by
  cases s with
  | own ds =>
    obtain ⟨vs, rfl, _⟩ := h
    trivial
  | dow ks =>
    obtain ⟨vs, rfl, _⟩ := h
    trivial
  | no => exact h.elim
  | val d => exact h.elim
  | mat t l rows => exact h.elim
theorem WrOk.isOwn {G : Cg} {B : Hp} {o : HO} {s : Sl} (h : WrOk G B o s) : s.isOwn = true := by
  cases s with
  | own ds => rfl
  | dow ks => rfl
  | no => exact h.elim
  | val d => exact h.elim
  | mat t l rows => exact h.elim
theorem St.put {G : Cg} {n : Nat} {B H : Hp} {ρ : List Sl} {σ : L2.St} (S : St G n B H ρ σ) {i : Nat} {s0 s : Sl} {l : Addr} {o : HO} (hr : ρ[i]? = some s0) (h0 : s0.isOwn = true) (h1 : σ[i]? = some (some (.ref l))) (hm : MutO H l) (F : Free G B l) (w : WrOk G B o s) :
    St G n B (upd H l o) (ρ.set i s) σ := by
  have nt := w.nt
  have hi : i < ρ.length := (List.getElem?_eq_some_iff.mp hr).1
  have at_ : ∀ {j : Nat} {x : Sl}, (ρ.set i s)[j]? = some x → (j = i ∧ x = s) ∨ (j ≠ i ∧ ρ[j]? = some x) := fun {j x} h => by
    by_cases e : i = j
    · subst e
      rw [List.getElem?_set_self hi] at h
      exact .inl ⟨rfl, (Option.some.inj h).symm⟩
    · rw [List.getElem?_set_ne e] at h
      exact .inr ⟨Ne.symm e, h⟩
  have apart : ∀ {j : Nat} {x : Sl} {l' : Addr}, j ≠ i → ρ[j]? = some x → x.isOwn = true → σ[j]? = some (some (.ref l')) → l' ≠ l := fun {j x l'} ne hx ox hj z => by
    rw [z] at hj
    exact S.dis j i l ne ⟨x, hx, ox⟩ ⟨s0, hr, h0⟩ hj h1
  refine ⟨S.mv.own F.2.1 F.1 (fun p c T e => (F.2.2 p c T e).1) nt, S.pk.own F hm nt, by rw [List.length_set]; exact S.len, fun j d h => ?_, fun j ds h => ?_, fun j ks h => ?_, fun j k l' ne hj hk e => ?_, (S.mat.other (S.mat.own i l ⟨s0, hr, h0⟩ h1)).sub (fun j t l rows h => ?_) (fun j hj => ?_)⟩
  · rcases at_ h with ⟨_, h2⟩ | ⟨_, h2⟩
    · rw [← h2] at w
      exact w.elim
    · exact S.val j d h2
  · rcases at_ h with ⟨e, h2⟩ | ⟨e, h2⟩
    · rw [← h2] at w
      obtain ⟨vs, rfl, hz, hA⟩ := w
      exact ⟨l, vs, by rw [e]; exact h1, upd_same, hz, hA, F⟩
    · obtain ⟨l', vs, a1, a2, a3, a4, a5⟩ := S.own j ds h2
      exact ⟨l', vs, a1, by rw [upd_ne (apart e h2 rfl a1)]; exact a2, a3, a4, a5⟩
  · rcases at_ h with ⟨e, h2⟩ | ⟨e, h2⟩
    · rw [← h2] at w
      obtain ⟨vs, rfl, hA⟩ := w
      exact ⟨l, vs, by rw [e]; exact h1, upd_same, hA, F⟩
    · obtain ⟨l', vs, a1, a2, a4, a5⟩ := S.dow j ks h2
      exact ⟨l', vs, a1, by rw [upd_ne (apart e h2 rfl a1)]; exact a2, a4, a5⟩
  · have back : ∀ {j : Nat}, ownAt (ρ.set i s) j → ownAt ρ j := fun {j} ⟨x, hx, ox⟩ => by
      rcases at_ hx with ⟨e, h2⟩ | ⟨_, h2⟩
      · rw [e]
        exact ⟨s0, hr, h0⟩
      · exact ⟨x, h2, ox⟩
    exact S.dis j k l' ne (back hj) (back hk) e
  · rcases at_ h with ⟨_, h2⟩ | ⟨_, h2⟩
    · rw [← h2] at w
      exact w.elim
    · exact ⟨h2, rfl⟩
  · obtain ⟨x, hx, ox⟩ := hj
    rcases at_ hx with ⟨e, h2⟩ | ⟨_, h2⟩
    · rw [e]
      exact ⟨⟨s0, hr, h0⟩, rfl⟩
    · exact ⟨⟨x, h2, ox⟩, rfl⟩
section
variable {m : Bool} {X : Cx} {G : Cg} {a b c d e f o : Expr} {es rest : List Expr} {ta tb tc td te : TE} {wa wb wc wd we : WE} {pos p p2 p3 apos cpos : Pos} {x : Str} {n : Nat} {t u tt : TT} {w v wt : WT} {wl wl2 : WL} {wn : WN} {wv wv2 : WV} {st : Stmt} {sts sts2 : List Stmt} {ts us : TS} {ws vs : WS}
/-! ### a list's own methods -/
def sAppend (i : Nat) (w : WE) : WS := fun ρ n E DB => match ρ[i]? with
  | some (.own ds) => w ρ n (E ρ) fun d n1 => (match d with
    | .py d => ds.length < 100000 ∧ DB.nx (ρ.set i (.own (ds ++ [d]))) n1
    | _ => False)
  | _ => False
theorem tyV_l {K : PySem.W.Frag} {H : Hp} {l : Addr} {vs : List V} (h : H l = some (.lst vs)) : tyV K "list" (.ref l) H := .inl ⟨rfl, vs, SqL.of h⟩
/-- behind a step a list of one's own stands where it stood -/
theorem St.own2 {G : Cg} {n : Nat} {B H : Hp} {ρ : List Sl} {σ : L2.St} (S : St G n B H ρ σ) {i : Nat} {ds : List PyData} {l : Addr} (hr : ρ[i]? = some (.own ds)) (h1 : σ[i]? = some (some (.ref l))) : ∃ vs, H l = some (.lst vs) ∧ vs.length ≤ sizeLine ∧ DdA G.K B vs ds ∧ Free G B l := by
  obtain ⟨l2, vs1, h3, h4, h5, h6, h7⟩ := S.own i ds hr
  rw [h1] at h3
  cases h3
  exact ⟨vs1, h4, h5, h6, h7⟩
theorem bs_append (i : Nat) (ha : BE X G a ta wa) (hp : PS X st (tDrop (tBM G.K "list" rAppend (tVar i) (tCons ta tNil)))) : BS m X G st (tDrop (tBM G.K "list" rAppend (tVar i) (tCons ta tNil))) (sAppend i wa) :=
  ⟨hp, fun ρ σ n B H E D DB S hw xs eo => by
    unfold sAppend at hw
    match hr : ρ[i]?, hw with
    | some (.own ds), hw =>
      obtain ⟨l, vs, h1, h2, _⟩ := S.own i ds hr
      refine ⟨.ref l, h1, tyV_l h2, ?_⟩
      refine ha.snd ρ σ n B H _ _ _ S hw (xs.at S) fun v d n1 B1 H1 m1 pk1 r1 q1 => ?_
      match d, r1, q1 with
      | .py d, r1, q1 =>
        have S1 := S.step m1 pk1
        obtain ⟨vs1, h4, h5, h6, h7⟩ := S1.own2 hr h1
        have hlt : vs1.length < sizeLine := by
          rw [h6.len]
          exact Nat.lt_of_lt_of_le q1.1 (by decide)
        exact ⟨l, vs1, v, rfl, rfl, h4, hlt, eo.nx _ _ n1 B1 _ m1.b (S1.put hr rfl h1 (.lst h4) h7 (s := .own (ds ++ [d])) ⟨vs1 ++ [v], rfl, by rw [List.length_append]; exact hlt, h6.snoc r1⟩) q1.2⟩⟩
def sExtend (i : Nat) (w : WL) : WS := fun ρ n E DB => match ρ[i]? with
  | some (.own ds) => w ρ n (E ρ) fun k es n1 => k = false ∧ ds.length + es.length ≤ 100000 ∧ DB.nx (ρ.set i (.own (ds ++ es))) n1
  | _ => False
theorem bs_extend (i : Nat) (ha : BL X G a ta wl) (hp : PS X st (tDrop (tBM G.K "list" rExtend (tVar i) (tCons ta tNil)))) : BS m X G st (tDrop (tBM G.K "list" rExtend (tVar i) (tCons ta tNil))) (sExtend i wl) :=
  ⟨hp, fun ρ σ n B H E D DB S hw xs eo => by
    unfold sExtend at hw
    match hr : ρ[i]?, hw with
    | some (.own ds), hw =>
      obtain ⟨l, vs, h1, h2, _⟩ := S.own i ds hr
      refine ⟨.ref l, h1, tyV_l h2, ?_⟩
      refine ha.snd ρ σ n B H _ _ _ S hw (xs.at S) fun l2 vs2 k es n1 B1 H1 m1 pk1 hs1 hz hA q1 => ?_
      obtain ⟨rfl, hl, q1⟩ := q1
      have S1 := S.step m1 pk1
      obtain ⟨vs1, h4, h5, h6, h7⟩ := S1.own2 hr h1
      have hlt : vs1.length + vs2.length ≤ sizeLine := by
        rw [h6.len, hA.len]
        exact line5 hl
      exact ⟨l, l2, vs1, vs2, rfl, rfl, h4, hs1, hlt, eo.nx _ _ n1 B1 _ m1.b (S1.put hr rfl h1 (.lst h4) h7 (s := .own (ds ++ es)) ⟨vs1 ++ vs2, rfl, by rw [List.length_append]; exact hlt, h6.app hA⟩) q1⟩⟩
/-- target = xs.pop() -/
def sPop (i : Nat) (wg : WG) : WS := fun ρ n _ DB => match ρ[i]? with
  | some (.own ds) => (match ds.getLast? with
    | some d => wg (.py d) (ρ.set i (.own ds.dropLast)) fun ρ' => DB.nx ρ' n
    | none => False)
  | _ => False
def sClear (i : Nat) : WS := fun ρ n _ DB => match ρ[i]? with
  | some (.own _) => DB.nx (ρ.set i (.own [])) n
  | _ => False
/-- xs[k] = e -/
def sPutIx (i : Nat) (w wk : WE) : WS := fun ρ n E DB => match ρ[i]? with
  | some (.own ds) => w ρ n (E ρ) fun d n1 => wk ρ n1 (E ρ) fun y n2 => (match d, y with
    | .py d, .py (.int k) => (match ixN ds.length k with
      | some j => DB.nx (ρ.set i (.own (ds.set j d))) n2
      | none => False)
    | _, _ => False)
  | _ => False
theorem bs_putIx (i : Nat) (ha : BE X G a ta wa) (hb : BE X G b tb wb) (hp : PS X st (tAsg ta (gSub (tVar i) tb rSetL))) : BS m X G st (tAsg ta (gSub (tVar i) tb rSetL)) (sPutIx i wa wb) :=
  ⟨hp, fun ρ σ n B H E D DB S hw xs eo => by
    unfold sPutIx at hw
    match hr : ρ[i]?, hw with
    | some (.own ds), hw =>
      obtain ⟨l, vs, h1, h2, _⟩ := S.own i ds hr
      refine ha.snd ρ σ n B H _ _ _ S hw (xs.at S) fun v d n1 B1 H1 m1 pk1 r1 q1 => ?_
      refine ⟨.ref l, h1, hb.snd ρ σ n1 B1 H1 _ _ _ (S.step m1 pk1) q1 ((xs.at S).step m1) fun y dy n2 B2 H2 m2 pk2 r2 q2 => ?_⟩
      match d, dy, r1, r2, q2 with
      | .py d, .py (.int k), r1, r2, q2 =>
        cases dd_int r2
        simp only at q2
        have S2 := (S.step m1 pk1).step m2 pk2
        obtain ⟨vs1, h4, h5, h6, h7⟩ := S2.own2 hr h1
        match hj : ixN ds.length k, q2 with
        | some j, q2 =>
          exact ⟨l, vs1, k, j, rfl, rfl, h4, by rw [h6.len]; exact hj, eo.nx _ _ n2 B2 _ (m1.b.trans m2.b) (S2.put hr rfl h1 (.lst h4) h7 (s := .own (ds.set j d)) ⟨vs1.set j v, rfl, by rw [List.length_set]; exact h5, DdA.set (Dd.mono m2.b r1) j h6⟩) q2⟩⟩
/-- xs[k] += e, numbers; k not less than nought -/
def sAugIx (i : Nat) (wk w : WE) : WS := fun ρ n E DB => match ρ[i]? with
  | some (.own ds) => wk ρ n (E ρ) fun y n1 => w ρ n1 (E ρ) fun d n2 => (match y, d with
    | .py (.int k), .py (.int z) => 0 ≤ k ∧ (match ds[k.toNat]? with
      | some (.int u) => DB.nx (ρ.set i (.own (ds.set k.toNat (.int (u + z))))) n2
      | _ => False)
    | _, _ => False)
  | _ => False
theorem ixN_nat {n j : Nat} (h : j < n) : ixN n (j : Int) = some j := by
  unfold ixN
  rw [if_pos (by omega), if_pos (by omega)]
  rfl
/-- here the number at k is looked up first -/
def sAugIx2 (i : Nat) (wk w : WE) : WS := fun ρ n E DB => match ρ[i]? with
  | some (.own ds) => wk ρ n (E ρ) fun y n1 => (match y with
    | .py (.int k) => 0 ≤ k ∧ (match ds[k.toNat]? with
      | some (.int u) => w ρ n1 (E ρ) fun d n2 => (match d with
        | .py (.int z) => DB.nx (ρ.set i (.own (ds.set k.toNat (.int (u + z))))) n2
        | _ => False)
      | _ => False)
    | _ => False)
  | _ => False
end
end Fv
set_option maxRecDepth 100000
set_option maxHeartbeats 4000000
/-! Dicts with keys that are ints and texts. -/
namespace Fv
open PySem PySem.Spec PyProof.Rows L2 Gb
def isKey (k : Key) : PyData → Bool
  | .int j => decide (Sum.inl j = k)
  | .str y => decide (Sum.inr y = k)
  | _ => false
theorem isKey_p (k k' : Key) : isKey k (keyP k') = decide (k' = k) := by
  cases k' <;> rfl
def keyOf : PyData → Option Key
  | .int j => some (.inl j)
  | .str y => some (.inr y)
  | _ => none
theorem keyOf_v {K : PySem.W.Frag} {B : Hp} {v : V} {d : PyData} {k : Key} (r : Dd K B v d) (e : keyOf d = some k) : v = kV k ∧ d = keyP k := by
  cases d with
  | int i =>
    cases e
    exact ⟨dd_int r, rfl⟩
  | str i =>
    cases e
    exact ⟨dd_str r, rfl⟩
  | none => cases e
  | bool _ => cases e
  | list _ => cases e
  | tuple _ => cases e
  | dict _ => cases e
abbrev Kd := List (PyData × PyData)
def getD (ks : Kd) (k : Key) : Option PyData := (ks.find? fun p => isKey k p.1).map (·.2)
def hasD (ks : Kd) (k : Key) : Bool := (getD ks k).isSome
def putD (ks : Kd) (k : Key) (d : PyData) : Kd := if (ks.any fun p => isKey k p.1) = true then ks.map (fun p => if isKey k p.1 = true then (p.1, d) else p) else ks ++ [(keyP k, d)]
def mergeD (ks : Kd) (more : List (Key × PyData)) : Kd := more.foldl (fun acc p => putD acc p.1 p.2) ks
theorem DdK.len {K : PySem.W.Frag} {H : Hp} : ∀ {kvs : List (Key × V)} {ks : Kd}, DdK K H kvs ks → kvs.length = ks.length
  | _, _, .nil => rfl
  | _, _, .cons _ t => by rw [List.length_cons, List.length_cons, DdK.len t]
theorem DdK.get {K : PySem.W.Frag} {H : Hp} {k : Key} : ∀ {kvs : List (Key × V)} {ks : Kd} {d : PyData}, DdK K H kvs ks → getD ks k = some d → ∃ v, valV kvs k = some v ∧ Dd K H v d
  | _, _, _, .nil, e => by cases e
  | _, _, d, .cons (k := k') (v := v) (kvs := kvs) (d := d') (ks := ks) r t, e => by
    unfold getD at e
    rw [List.find?_cons, isKey_p] at e
    by_cases h : k' = k
    · rw [decide_eq_true h] at e
      cases e
      exact ⟨v, valV_pos h, r⟩
    · rw [decide_eq_false h] at e
      rw [valV_neg (p := (k', v)) h]
      exact DdK.get (k := k) t e
theorem DdK.getN {K : PySem.W.Frag} {H : Hp} {k : Key} : ∀ {kvs : List (Key × V)} {ks : Kd}, DdK K H kvs ks → getD ks k = none → valV kvs k = none
  | _, _, .nil, _ => rfl
  | _, _, .cons (k := k') (v := v) (kvs := kvs) (d := d') (ks := ks) r t, e => by
    unfold getD at e
    rw [List.find?_cons, isKey_p] at e
    by_cases h : k' = k
    · rw [decide_eq_true h] at e
      cases e
    · rw [decide_eq_false h] at e
      rw [valV_neg (p := (k', v)) h]
      exact DdK.getN (k := k) t e
theorem DdK.has {K : PySem.W.Frag} {H : Hp} {k : Key} {kvs : List (Key × V)} {ks : Kd} (h : DdK K H kvs ks) : (valV kvs k).isSome = hasD ks k := by
  unfold hasD
  cases e : getD ks k with
  | none =>
    rw [h.getN e]
    rfl
  | some d =>
    obtain ⟨v, h1, _⟩ := h.get e
    rw [h1]
    rfl
theorem DdK.any {K : PySem.W.Frag} {H : Hp} {k : Key} : ∀ {kvs : List (Key × V)} {ks : Kd}, DdK K H kvs ks → (kvs.any fun kv => decide (kv.1 = k)) = ks.any fun p => isKey k p.1
  | _, _, .nil => rfl
  | _, _, .cons r t => by
    rw [List.any_cons, List.any_cons, isKey_p, DdK.any (k := k) t]
theorem DdK.app {K : PySem.W.Frag} {H : Hp} : ∀ {kvs more : List (Key × V)} {ks es : Kd}, DdK K H kvs ks → DdK K H more es → DdK K H (kvs ++ more) (ks ++ es)
  | _, _, _, _, .nil, h => h
  | _, _, _, _, .cons a b, h => .cons a (DdK.app b h)
theorem DdK.map {K : PySem.W.Frag} {H : Hp} {k : Key} {v : V} {d : PyData} (r : Dd K H v d) : ∀ {kvs : List (Key × V)} {ks : Kd}, DdK K H kvs ks → DdK K H (kvs.map fun kv => if kv.1 = k then (kv.1, v) else kv) (ks.map fun p => if isKey k p.1 = true then (p.1, d) else p)
  | _, _, .nil => .nil
  | _, _, .cons (k := k') (v := v') (kvs := kvs) (d := d') (ks := ks) a t => by
    rw [List.map_cons, List.map_cons]
    have ih := DdK.map (k := k) r t
    simp only [isKey_p]
    by_cases h : k' = k
    · rw [if_pos h, if_pos (decide_eq_true h)]
      exact .cons r ih
    · rw [if_neg h, if_neg (by simp [h])]
      exact .cons a ih
theorem DdK.put {K : PySem.W.Frag} {H : Hp} {k : Key} {v : V} {d : PyData} {kvs : List (Key × V)} {ks : Kd} (h : DdK K H kvs ks) (r : Dd K H v d) : DdK K H (putK kvs k v) (putD ks k d) := by
  unfold putK putD
  rw [h.any (k := k)]
  by_cases e : (ks.any fun p => isKey k p.1) = true
  · rw [if_pos e, if_pos e]
    exact h.map r
  · rw [if_neg e, if_neg e]
    exact h.app (.cons r .nil)
inductive DdP (K : PySem.W.Frag) (H : Hp) : List (Key × V) → List (Key × PyData) → Prop
  | nil : DdP K H [] []
  | cons {k : Key} {v : V} {kvs : List (Key × V)} {d : PyData} {ks : List (Key × PyData)} : Dd K H v d → DdP K H kvs ks → DdP K H ((k, v) :: kvs) ((k, d) :: ks)
/-! ### a dict that is looked at -/
abbrev WK := List Sl → Nat → XQ → (Kd → Nat → Prop) → Prop
def SndK (G : Cg) (t : TE) (w : WK) : Prop := ∀ ρ σ n B H E (Qd : Kd → Nat → Prop) (Q : VK), St G n B H ρ σ → w ρ n E Qd → XW G σ B H E →
  (∀ l kvs ks n' B' H', Mv G.pn B H B' H' → Pk G.pn n' B' H' → H' l = some (.dK kvs) → (∀ p c T, G.pn = some (p, c, T) → l ≠ p) → DdK G.K B' kvs ks → Qd ks n' → Q (.ref l) H') → t σ H Q
structure BK (X : Cx) (G : Cg) (e : Expr) (t : TE) (w : WK) : Prop where
  pe : PE X e t
  snd : SndK G t w
section
variable {m : Bool} {X : Cx} {G : Cg} {a b c d e f o : Expr} {es rest : List Expr} {ta tb tc td te : TE} {wa wb wc wd we : WE} {pos p p2 p3 apos cpos : Pos} {x : Str} {n : Nat} {t u tt : TT} {w v wt : WT} {wl wl2 : WL} {wn : WN} {wv wv2 : WV} {wk : WK} {st : Stmt}
def wKd (i : Nat) : WK := fun ρ n _ Q => match ρ[i]? with
  | some (.dow ks) => Q ks n
  | some (.val (.py (.dict ks))) => Q ks n
  | _ => False
def wOfK (w : WE) : WK := fun ρ n E Q => w ρ n E fun d n' => match d with
  | .py (.dict ks) => Q ks n'
  | _ => False
theorem BE.k (h : BE X G a ta wa) : BK X G a ta (wOfK wa) := ⟨h.pe, fun ρ σ n B H E Qd Q S hw xw k => h.snd ρ σ n B H E _ Q S hw xw fun v d n' B' H' m pk r q => by
  match d, r, q with
  | .py (.dict ks), r, q =>
    have r' : Dd G.K B' v (.dict ks) := r
    cases r' with
    | @dic l kvs _ h3 h4 =>
      refine k l kvs ks n' B' H' m pk (m.s _ _ h3) (fun p c T e z => ?_) h4 q
      rw [e] at pk
      rw [z, pk.2.1] at h3
      cases h3⟩
/-- d[k] -/
def wDget (wk : WK) (wb : WE) : WE := fun ρ n E Q => wk ρ n E fun ks n1 => wb ρ n1 E fun y n2 => match y with
  | .py y => (match keyOf y with
    | some k => (match getD ks k with
      | some z => Q (.py z) n2
      | none => False)
    | none => False)
  | _ => False
/-- k in d, k not in d -/
def wDin (f : Bool → Bool) (wb : WE) (wk : WK) : WE := fun ρ n E Q => wb ρ n E fun y n1 => wk ρ n1 E fun ks n2 => match y with
  | .py y => (match keyOf y with
    | some k => Q (.py (.bool (f (hasD ks k)))) n2
    | none => False)
  | _ => False
/-- d[k] = e -/
def sDput (i : Nat) (w wk : WE) : WS := fun ρ n E DB => match ρ[i]? with
  | some (.dow ks) => w ρ n (E ρ) fun d n1 => wk ρ n1 (E ρ) fun y n2 => (match d, y with
    | .py d, .py y => (match keyOf y with
      | some k => ks.length < 100000 ∧ DB.nx (ρ.set i (.dow (putD ks k d))) n2
      | none => False)
    | _, _ => False)
  | _ => False
end
end Fv
set_option maxRecDepth 100000
set_option maxHeartbeats 4000000
/-! Dict displays and comprehensions; list comprehensions with two fors. -/
namespace Fv
open PySem PySem.Spec PyProof.Rows L2 Gb
section
variable {m : Bool} {X : Cx} {G : Cg} {a b c d e f o : Expr} {es rest : List Expr} {ta tb tc td te tk : TE} {wa wb wc wd we wy : WE} {pos p p2 p3 apos cpos : Pos} {x : Str} {n : Nat} {t u tt tt1 : TT} {w v wt wt1 : WT} {wl wl2 : WL} {wn : WN} {wv wv2 : WV} {wk : WK} {st : Stmt}
/-! ### displays -/
def wPairs : List (WE × WE) → List Sl → Nat → XQ → (List (Key × PyData) → Nat → Prop) → Prop
  | [], _, n, _, Q => Q [] n
  | (wk, wv) :: r, ρ, n, E, Q => wk ρ n E fun dk n1 => wv ρ n1 E fun dv n2 => match dk, dv with
    | .py y, .py z => (match keyOf y with
      | some k => wPairs r ρ n2 E fun ps n3 => Q ((k, z) :: ps) n3
      | none => False)
    | _, _ => False
inductive BPs (X : Cx) (G : Cg) : Pos → List (Option Expr) → List Expr → List (TE × TE) → List (WE × WE) → Prop
  | nil {pos : Pos} : BPs X G pos [] [] [] []
  | cons {pos : Pos} {k v : Expr} {ks : List (Option Expr)} {vs : List Expr} {tk tv : TE} {wk wv : WE} {trs : List (TE × TE)} {ws : List (WE × WE)} : BE X G k tk wk → BE X G v tv wv → BPs X G pos ks vs trs ws → BPs X G pos (some k :: ks) (v :: vs) ((tk, tv) :: trs) ((wk, wv) :: ws)
theorem DdP.mono {K : PySem.W.Frag} {H H' : Hp} (e : Same H H') : ∀ {vs : List (Key × V)} {ds : List (Key × PyData)}, DdP K H vs ds → DdP K H' vs ds
  | _, _, .nil => .nil
  | _, _, .cons a b => .cons (Dd.mono e a) (DdP.mono e b)
theorem DdP.len {K : PySem.W.Frag} {H : Hp} : ∀ {vs : List (Key × V)} {ds : List (Key × PyData)}, DdP K H vs ds → vs.length = ds.length
  | _, _, .nil => rfl
  | _, _, .cons _ t => by rw [List.length_cons, List.length_cons, DdP.len t]
theorem BPs.snd {pos : Pos} {ks : List (Option Expr)} {vs : List Expr} {trs : List (TE × TE)} {ws : List (WE × WE)} (h : BPs X G pos ks vs trs ws) : ∀ ρ σ n B H E (Qd : List (Key × PyData) → Nat → Prop) (Q : List (V × V) → Hp → Prop), St G n B H ρ σ → wPairs ws ρ n E Qd → XW G σ B H E →
    (∀ kvs es n' B' H', Mv G.pn B H B' H' → Pk G.pn n' B' H' → DdP G.K B' kvs es → Qd es n' → Q (kvs.map fun kv => (kV kv.1, kv.2)) H') → tPairs trs σ H Q := by
  induction h with
  | nil => exact fun ρ σ n B H E Qd Q S hw xw k => k [] [] n B H (Mv.refl S.sub) S.pk .nil hw
  | cons a b _ ih =>
    intro ρ σ n B H E Qd Q S hw xw k
    refine a.snd ρ σ n B H E _ _ S hw xw fun v1 d1 n1 B1 H1 m1 pk1 r1 q1 => b.snd ρ σ n1 B1 H1 E _ _ (S.step m1 pk1) q1 (xw.step m1) fun v2 d2 n2 B2 H2 m2 pk2 r2 q2 => ?_
    match d1, d2, r1, r2, q2 with
    | .py y, .py z, r1, r2, q2 =>
      simp only at q2
      match hk : keyOf y, q2 with
      | some k', q2 =>
        obtain ⟨ev, _⟩ := keyOf_v r1 hk
        have m12 := m1.trans m2
        refine ih ρ σ n2 B2 H2 E _ _ (S.step m12 pk2) q2 (xw.step m12) fun kvs es n3 B3 H3 m3 pk3 r3 q3 => ?_
        rw [ev]
        exact k ((k', v2) :: kvs) ((k', z) :: es) n3 B3 H3 (m12.trans m3) pk3 (.cons (Dd.mono m3.b r2) r3) q3
def wDisp (ws : List (WE × WE)) : WV := fun ρ n E Q => wPairs ws ρ n E fun es n' => es.length ≤ 15 ∧ Q (.dow (mergeD [] es)) n'
/-! ### dict comprehensions -/
def dcGo (wg : WG) (wt : WT) (wk wv : WE) : List D → Kd → Nat → List Sl → (Kd → Nat → Prop) → Prop
  | [], acc, n, _, Q => Q acc n
  | d :: ds, acc, n, ρ, Q => wg d ρ fun ρ2 => wt ρ2 n (fun _ _ => False) fun b n1 => if b = true then wk ρ2 n1 (fun _ _ => False) fun y n2 => wv ρ2 n2 (fun _ _ => False) fun z n3 => (match y, z with
      | .py y, .py z => (match keyOf y with
        | some k => dcGo wg wt wk wv ds (putD acc k z) n3 ρ Q
        | none => False)
      | _, _ => False)
    else dcGo wg wt wk wv ds acc n1 ρ Q
def wDc (wi : WI) (wg : WG) (wt : WT) (wk wv : WE) (vs : List Nat) : WV := fun ρ n E Q => wi ρ n E fun ds n1 => dcGo wg wt wk wv ds [] n1 (wipeB ρ vs) fun ks n' => Q (.dow ks) n'
/-! ### two fors -/
def NoD (ρ : List Sl) (σ : L2.St) (D : Addr) : Prop := (∀ j, ownAt ρ j → σ[j]? ≠ some (some (.ref D))) ∧ ¬ ghost ρ D
theorem St.noD {G : Cg} {n : Nat} {B H : Hp} {ρ : List Sl} {σ : L2.St} (S : St G n B H ρ σ) {D : Addr} (h : H D = none) : NoD ρ σ D := by
  refine ⟨fun j ⟨x, hx, ox⟩ e => ?_, fun g => ?_⟩
  · cases x with
    | mat t l rows => cases ox
    | own ds =>
      obtain ⟨l, vs, h1, h2, _⟩ := S.own j ds hx
      rw [h1] at e
      cases e
      rw [h] at h2
      cases h2
    | dow ds =>
      obtain ⟨l, vs, h1, h2, _⟩ := S.dow j ds hx
      rw [h1] at e
      cases e
      rw [h] at h2
      cases h2
    | no => cases ox
    | val d => cases ox
  · obtain ⟨o, e⟩ := S.mat.there g
    rw [h] at e
    cases e
theorem ghost_wipe {ρ : List Sl} {D : Addr} : ∀ vs : List Nat, ghost (wipeB ρ vs) D → ghost ρ D
  | [], h => h
  | v :: vs, h => ghost_wipe vs (mat_setS (fun _ _ _ => by intro z; cases z) h)
theorem NoD.wipe {ρ : List Sl} {σ : L2.St} {D : Addr} (h : NoD ρ σ D) : ∀ vs : List Nat, NoD (wipeB ρ vs) (L2.wipe σ vs) D
  | [] => h
  | v :: vs => ⟨fun j ⟨x, hx, ox⟩ => by
    have ih := (NoD.wipe h vs).1
    have hx' : ((wipeB ρ vs).set v .no)[j]? = some x := hx
    by_cases e : v = j
    · subst e
      rw [List.getElem?_set_self'] at hx'
      cases q : (wipeB ρ vs)[v]? with
      | none =>
        rw [q] at hx'
        cases hx'
      | some y =>
        rw [q] at hx'
        have z : Sl.no = x := Option.some.inj hx'
        rw [← z] at ox
        cases ox
    · rw [List.getElem?_set_ne e] at hx'
      show ((L2.wipe σ vs).set v none)[j]? ≠ _
      rw [List.getElem?_set_ne e]
      exact ih j ⟨x, hx', ox⟩, fun g => h.2 (ghost_wipe (v :: vs) g)⟩
def lc2Go (wg : WG) (wt : WT) (wi1 : WI) (wg1 : WG) (wt1 : WT) (we : WE) (vs1 : List Nat) : List D → List PyData → Nat → List Sl → (List PyData → Nat → Prop) → Prop
  | [], acc, n, _, Q => Q acc n
  | d :: ds, acc, n, ρ, Q => wg d ρ fun ρ2 => wt ρ2 n (fun _ _ => False) fun b n1 => if b = true then wi1 ρ2 n1 (fun _ _ => False) fun ds1 n2 => acc.length + ds1.length ≤ 100000 ∧ lcGo wg1 wt1 we ds1 acc n2 (wipeB ρ2 vs1) fun acc' n3 => lc2Go wg wt wi1 wg1 wt1 we vs1 ds acc' n3 ρ Q
    else lc2Go wg wt wi1 wg1 wt1 we vs1 ds acc n1 ρ Q
def wLc2 (wi : WI) (wg : WG) (wt : WT) (wi1 : WI) (wg1 : WG) (wt1 : WT) (we : WE) (vs vs1 : List Nat) : WN := fun ρ n E Q => wi ρ n E fun ds n1 => lc2Go wg wt wi1 wg1 wt1 we vs1 ds [] n1 (wipeB ρ vs) Q
end
end Fv
set_option maxRecDepth 100000
set_option maxHeartbeats 4000000
/-! Contracts by value: what a def wishes of its arguments, what it tells. -/
namespace Fv
open PySem PySem.Spec PyProof.Rows L2 Gb
/-- what stays through a proof -/
structure Fx where
  P : Program
  w : World
  K : PySem.W.Frag
  mg : Str → Option Value
  base : Heap
  C : Addr
  ex : Str → Option Value
def Fx.g (F : Fx) (pn : Pn) (xe : WX) (B H : Hp) : Cg := ⟨F.K, F.C, pn, xe, F.ex, B, H⟩
/-- .. of no pen, for R alone -/
def XKx (E : XK) : WX := fun cls d _ H => E cls d H
abbrev FB := List D → Nat → XQ → QE → Prop
/-- how an end is wished: one's own list (true), or any value -/
def QEnd (F : Fx) (pn : Pn) (B H : Hp) (QD : QE) (Q : VK) : Bool → Prop
  | false => ∀ v d n' B' H', Mv pn B H B' H' → Pk pn n' B' H' → R (F.g pn (fun _ _ _ _ => True) B H) B' v d → QD d n' → Q v H'
  | true => RtN (F.g pn (fun _ _ _ _ => True) B H) QD Q
def SpB (F : Fx) (m : Bool) (f : FB) : Sp := fun vs H Q E => ∃ (pn : Pn) (B : Hp) (n : Nat) (ds : List D) (EX : XQ) (QD : QE), Same B H ∧ Pk pn n B H ∧ RA (F.g pn (fun _ _ _ _ => True) B H) B vs ds ∧ f ds n EX QD ∧ QEnd F pn B H QD Q m ∧
  ∀ x n' cv dd B' H', Mv pn B H B' H' → Pk pn n' B' H' → ExR (F.g pn (fun _ _ _ _ => True) B H) B' cv dd x → EX x n' → E cv dd H'
theorem R.g {F : Fx} {pn : Pn} {xe xe' : WX} {B H B0 H0 B' : Hp} {v : V} {d : D} (h : R (F.g pn xe B H) B' v d) : R (F.g pn xe' B0 H0) B' v d := by
  cases d <;> exact h
theorem RA.g {F : Fx} {pn : Pn} {xe xe' : WX} {B H B0 H0 B' : Hp} : ∀ {vs : List V} {ds : List D}, RA (F.g pn xe B H) B' vs ds → RA (F.g pn xe' B0 H0) B' vs ds
  | [], [], _ => trivial
  | _ :: _, _ :: _, h => ⟨h.1.g, RA.g h.2⟩
  | [], _ :: _, h => h.elim
  | _ :: _, [], h => h.elim
theorem RA.len {G : Cg} {B : Hp} : ∀ {vs : List V} {ds : List D}, RA G B vs ds → vs.length = ds.length
  | [], [], _ => rfl
  | _ :: _, _ :: _, h => by rw [List.length_cons, List.length_cons, RA.len h.2]
  | [], _ :: _, h => h.elim
  | _ :: _, [], h => h.elim
/-! ### a def by its body -/
def startB (N : List Str) (ds : List D) : List Sl := ds.map Sl.val ++ List.replicate (N.length - ds.length) .no
theorem RA.get {G : Cg} {B : Hp} : ∀ {vs : List V} {ds : List D} {i : Nat} {d : D}, RA G B vs ds → ds[i]? = some d → ∃ v, vs[i]? = some v ∧ R G B v d
  | [], [], _, _, _, e => by simp at e
  | v :: _, d :: _, 0, _, h, e => by
    simp at e
    subst e
    exact ⟨v, rfl, h.1⟩
  | _ :: vs, _ :: ds, i + 1, d, h, e => by
    obtain ⟨v, h1, h2⟩ := RA.get (i := i) h.2 (by simpa using e)
    exact ⟨v, by simpa using h1, h2⟩
  | [], _ :: _, _, _, h, _ => h.elim
  | _ :: _, [], _, _, h, _ => h.elim
theorem st_start {G : Cg} {n : Nat} {B H : Hp} {N : List Str} {vs : List V} {ds : List D} (hb : G.B0 = B) (hh : G.H0 = H) (sb : Same B H) (pk : Pk G.pn n B H) (r : RA G B vs ds) : St G n B H (startB N ds) (L2.start N vs) := by
  have hl := r.len
  have at_ : ∀ {i : Nat} {s : Sl}, (startB N ds)[i]? = some s → s ≠ .no → ∃ d, ds[i]? = some d ∧ s = .val d := fun {i s} h hn => by
    unfold startB at h
    by_cases hi : i < ds.length
    · rw [List.getElem?_append_left (by simpa using hi), List.getElem?_map] at h
      cases e : ds[i]? with
      | none =>
        rw [e] at h
        cases h
      | some d =>
        rw [e] at h
        exact ⟨d, rfl, (Option.some.inj h).symm⟩
    · rw [List.getElem?_append_right (by simpa using hi), List.getElem?_replicate] at h
      split at h
      · exact absurd (Option.some.inj h).symm hn
      · cases h
  refine ⟨by rw [hb, hh]; exact Mv.refl sb, pk, ?_, fun i d h => ?_, fun i xs h => ?_, fun i xs h => ?_, fun i j l _ hi _ _ => ?_, .no_ fun i t l rows => ?_⟩
  · unfold startB L2.start
    rw [List.length_append, List.length_append, List.length_map, List.length_map, List.length_replicate, List.length_replicate, hl]
  · obtain ⟨d', h1, h2⟩ := at_ h (fun z => nomatch z)
    cases h2
    obtain ⟨v, h3, h4⟩ := r.get h1
    refine ⟨v, ?_, h4⟩
    unfold L2.start
    rw [List.getElem?_append_left (by simpa using (List.getElem?_eq_some_iff.mp h3).1), List.getElem?_map, h3]
    rfl
  · obtain ⟨d', _, h2⟩ := at_ h (fun z => nomatch z)
    cases h2
  · obtain ⟨d', _, h2⟩ := at_ h (fun z => nomatch z)
    cases h2
  · obtain ⟨x, h1, h2⟩ := hi
    obtain ⟨d', _, h4⟩ := at_ h1 (fun z => by rw [z] at h2; cases h2)
    rw [h4] at h2
    cases h2
  · intro h
    obtain ⟨d', _, h2⟩ := at_ h (fun z => nomatch z)
    cases h2
/-- a def that may be called by its name -/
structure ClB (F : Fx) (k : Nat) (x : Str) (m : Bool) (f : FB) : Prop where
  ex : ∃ (fa : Addr) (fd : FuncData) (ps : List Str), FnOk F.P F.w F.K F.mg F.base (L2.CX F.P F.w) k fa fd ps (SpB F m f) ∧ F.mg x = some (.ref fa) ∧ PySem.W.keepIn F.K (.ref fa) = true ∧ Binds F.K fd ps []
abbrev cxB (F : Fx) (N : List Str) (x : Str) (sc : Scope) (f : Addr) (cd : Value) (A : Around) (outer : List Env) (s : Shared) (H : Hp) (E : XK) : Cx := cxOf (L2.CX F.P F.w) F.P F.w F.K F.mg F.base N x sc f cd A outer s H E
theorem fn_b {F : Fx} {x qual : Str} {st : Stmt} {fa : Addr} {fd : FuncData} {N ps : List Str} {k : Nat} {m : Bool} {f : FB} (Fn : Fun F.K x qual st fa fd) (S : FnScope N ps (defScope st)) (len : ∀ ds n EX QD, f ds n EX QD → ds.length = ps.length)
    (hbody : ∀ (cdv : Value) (A : Around) (outer : List Env) (s : Shared) (H : Hp) (E : XK) (pn : Pn) (B : Hp), Room k (cxB F N qual (defScope st) fa cdv A outer s H E).A → Takes (cxB F N qual (defScope st) fa cdv A outer s H E) (XKx E) →
      PassesOwn (model F.P F.w) (cxB F N qual (defScope st) fa cdv A outer s H E).A (cxB F N qual (defScope st) fa cdv A outer s H E).env (cxB F N qual (defScope st) fa cdv A outer s H E).xe →
      ∃ t w, BSs m (cxB F N qual (defScope st) fa cdv A outer s H E) (F.g pn (XKx E) B H) (defBody st) t w ∧ ∀ ds n EX QD, f ds n EX QD → w (startB N ds) n (fun _ => EX) { nx := fun _ n' => m = false ∧ QD (.py .none) n', rt := QD }) :
    FnOk F.P F.w F.K F.mg F.base (L2.CX F.P F.w) (k + 1) fa fd ps (SpB F m f) := by
  refine Fn.okX S (fun vs H Q E h => ?_) (fun cdv A outer s H vs Q E hr h => ?_)
  · obtain ⟨pn, B, n, ds, EX, QD, _, _, r, hf, _⟩ := h
    rw [r.len]
    exact len _ _ _ _ hf
  · obtain ⟨pn, B, n, ds, EX, QD, sb, pk, r, hf, hq, he⟩ := h
    obtain ⟨t, w, hb, hw⟩ := hbody cdv A outer s H E pn B hr (takes_of rfl rfl rfl rfl) (passes_of rfl)
    refine ⟨t, hb.ps, hb.snd (startB N ds) (L2.start N vs) n B H (fun _ => EX) { nx := fun _ H' => Q .non H', rt := Q } { nx := fun _ n' => m = false ∧ QD (.py .none) n', rt := QD } (st_start rfl rfl sb pk r.g) (hw ds n EX QD hf) (fun ρ' σ' n1 B1 H1 s1 S1 x n' cv dd B' H' mv pk' er ex => he x n' cv dd B' H' (S1.mv.trans mv) pk' er ex) ?_⟩
    refine ⟨fun ρ' σ' n' B' H' _ S' q => ?_, fun _ _ _ _ _ _ _ q => q.elim, fun _ _ _ _ _ _ _ q => q.elim, fun hm v d n' B' H' mv pk' rv q => ?_, fun hm => ?_⟩
    · obtain ⟨hm, q⟩ := q
      subst hm
      exact hq .non (.py .none) n' B' H' S'.mv S'.pk r_non q
    · subst hm
      exact hq v d n' B' H' mv pk' rv.g q
    · subst hm
      exact RtN.wx (G := F.g pn (fun _ _ _ _ => True) B H) (G' := F.g pn (XKx E) B H) rfl rfl rfl rfl (show RtN (F.g pn (fun _ _ _ _ => True) B H) QD Q from hq)
theorem cl_b {F : Fx} {x : Str} {st : Stmt} {N ps : List Str} {k : Nat} {m : Bool} {f : FB} (D : Dn F.K F.mg x st ps) (S : FnScope N ps (defScope st)) (len : ∀ ds n EX QD, f ds n EX QD → ds.length = ps.length)
    (hbody : ∀ (fa : Addr) (cdv : Value) (A : Around) (outer : List Env) (s : Shared) (H : Hp) (E : XK) (pn : Pn) (B : Hp), Room k (cxB F N x (defScope st) fa cdv A outer s H E).A → Takes (cxB F N x (defScope st) fa cdv A outer s H E) (XKx E) →
      PassesOwn (model F.P F.w) (cxB F N x (defScope st) fa cdv A outer s H E).A (cxB F N x (defScope st) fa cdv A outer s H E).env (cxB F N x (defScope st) fa cdv A outer s H E).xe →
      ∃ t w, BSs m (cxB F N x (defScope st) fa cdv A outer s H E) (F.g pn (XKx E) B H) (defBody st) t w ∧ ∀ ds n EX QD, f ds n EX QD → w (startB N ds) n (fun _ => EX) { nx := fun _ n' => m = false ∧ QD (.py .none) n', rt := QD }) :
    ClB F (k + 1) x m f := by
  obtain ⟨fa, fd, Fn, hm, b⟩ := D.ex
  exact ⟨fa, fd, ps, fn_b Fn S len (hbody fa), hm, Fn.kp, b⟩
/-! ### calls -/
/-- f(..), W: what is wished of an exception -/
def tCallX (sp : Sp) (W : WX) (t : TA) : TE := fun σ H Q => t σ H fun vs H1 => sp vs H1 Q (fun cls d H' => W cls d σ H')
section
variable {X : Cx} {G : Cg} {k j : Nat} {x : Str} {f : FB} {p pos : Pos} {e : Expr} {es : List Expr} {t : TA} {wa : WA} {W : WX}
theorem pe_callW {fa : Addr} {fd : FuncData} {ps : List Str} {sp : Sp} (F : FnOk X.prog X.w X.K X.mg X.base (L2.CX X.prog X.w) k fa fd ps sp) (hr : Room k X.A) (hg : Gl X x) (hm : X.mg x = some (.ref fa)) (hk : PySem.W.keepIn X.K (.ref fa) = true) (hb : Binds X.K fd ps []) (tk : Takes X W) (ha : PA X (e :: es) t)
    (hdb : (x == ("__debug__" : Str)) = false := by decide) (he : starEach (e :: es) X.env = (false, eval e X.env) :: starEach es X.env := by rfl) (hpl : (backTo pos (starEach es X.env)).any (·.1) = false := by rfl) : PE X (.Call (.Name x p) (e :: es) [] pos) (tCallX sp W t) := by
  refine ⟨fun pins s σ H Q I h => ?_⟩
  refine wpAny_Call_Name_kw (ld_glob I hg hm ?_ hdb)
  refine PySem.W.callWith_K (h₀ := X.base) I.ok.mod.kin hk (thn (ha.run pos pins s σ H _ I h) fun us s1 ⟨vs, H1, I1, r, q⟩ => ⟨I1.kIn, ?_⟩) he hpl
  have hl : (us ++ []).length = ps.length := by
    rw [List.append_nil, ← r.length]
    exact F.len _ _ _ _ q
  have hb2 := hb s1 us I1.kIn hl
  rw [List.append_nil] at hb2
  refine wpAny_call (codeAny_mono (F.run X.A X.stack s1 H1 ⟨us, []⟩ us vs Q _ hr I1.env0 hb2 r q) fun r' s' hq => ?_)
  cases r' with
  | error e' => exact tk e' s' (XE.of_call I1 (fun cls d H' h => h) hq)
  | ok fl =>
    cases fl with
    | ret u => exact I1.after hq
    | next => exact hq.elim
    | brk => exact hq.elim
    | cont => exact hq.elim
def Fof (X : Cx) (G : Cg) : Fx := ⟨X.prog, X.w, X.K, X.mg, X.base, G.C, G.ex⟩
theorem R.of {F : Fx} {G : Cg} {B0 H0 B : Hp} {xe : WX} {v : V} {d : D} (h1 : F.K = G.K) (h2 : F.C = G.C) (h3 : F.ex = G.ex) : R (F.g G.pn xe B0 H0) B v d ↔ R G B v d := by
  obtain ⟨K, C, pn, xe', ex, B', H'⟩ := G
  obtain ⟨P, w, K2, mg, base, C2, ex2⟩ := F
  cases h1
  cases h2
  cases h3
  cases d <;> exact Iff.rfl
theorem RA.of {F : Fx} {G : Cg} {B0 H0 B : Hp} {xe : WX} (h1 : F.K = G.K) (h2 : F.C = G.C) (h3 : F.ex = G.ex) : ∀ {vs : List V} {ds : List D}, RA G B vs ds → RA (F.g G.pn xe B0 H0) B vs ds
  | [], [], _ => trivial
  | _ :: _, _ :: _, h => ⟨(R.of h1 h2 h3).mpr h.1, RA.of h1 h2 h3 h.2⟩
  | [], _ :: _, h => h.elim
  | _ :: _, [], h => h.elim
def wCall (f : FB) (wa : WA) : WE := fun ρ n E Q => wa ρ n E fun ds n1 => f ds n1 E Q
theorem exr_of {F : Fx} {G : Cg} {B0 H0 B : Hp} {xe : WX} {cv : Value} {dd : Option Addr} {x : Exn} (h1 : F.K = G.K) (h3 : F.ex = G.ex) (h : ExR (F.g G.pn xe B0 H0) B cv dd x) : ExR G B cv dd x := by
  obtain ⟨K, C, pn, xe', ex, B', H'⟩ := G
  obtain ⟨P, w, K2, mg, base, C2, ex2⟩ := F
  cases h1
  cases h3
  exact h
/-- a call that tells a value; what it lets out is let out -/
theorem be_call {F : Fx} (c : ClB F k x false f) (hr : Room j X.A) (hk : k ≤ j) (hg : Gl X x) (tk : Takes X G.xe) (ha : BA X G (e :: es) t wa) (hF : Fof X G = F := by rfl)
    (hdb : (x == ("__debug__" : Str)) = false := by decide) (he : starEach (e :: es) X.env = (false, eval e X.env) :: starEach es X.env := by rfl) (hpl : (backTo pos (starEach es X.env)).any (·.1) = false := by rfl) (hK : X.K = G.K := by rfl) : BE X G (.Call (.Name x p) (e :: es) [] pos) (tCallX (SpB F false f) G.xe t) (wCall f wa) := by
  subst hF
  obtain ⟨fa, fd, ps, Fn, hm, kp, b⟩ := c.ex
  refine ⟨pe_callW Fn (hr.mono hk) hg hm kp b tk ha.pe hdb he hpl, fun ρ σ n B H E Qd Q S hw xw kk => ha.snd ρ σ n B H E _ _ S hw xw fun vs ds n1 B1 H1 m1 pk1 r1 q1 => ?_⟩
  refine ⟨G.pn, B1, n1, ds, E, Qd, m1.s, pk1, RA.of hK rfl rfl r1, q1, fun v d n' B' H' mv pk' rv q => kk v d n' B' H' (m1.trans mv) pk' ((R.of (F := Fof X G) hK rfl rfl).mp rv) q, fun y n' cv dd B' H' mv pk' er ex => xw y n' cv dd B' H' (m1.trans mv) pk' (exr_of (F := Fof X G) hK rfl er) ex⟩
/-- .. that tells a list of the asker's own -/
theorem bn_call {F : Fx} (c : ClB F k x true f) (hr : Room j X.A) (hk : k ≤ j) (hg : Gl X x) (tk : Takes X G.xe) (ha : BA X G (e :: es) t wa) (hF : Fof X G = F := by rfl)
    (hdb : (x == ("__debug__" : Str)) = false := by decide) (he : starEach (e :: es) X.env = (false, eval e X.env) :: starEach es X.env := by rfl) (hpl : (backTo pos (starEach es X.env)).any (·.1) = false := by rfl) (hK : X.K = G.K := by rfl) : BN X G (.Call (.Name x p) (e :: es) [] pos) (tCallX (SpB F true f) G.xe t) (fun ρ n E Q => wCall f wa ρ n E fun d n' => match d with
      | .py (.list ds) => Q ds n'
      | _ => False) := by
  subst hF
  obtain ⟨fa, fd, ps, Fn, hm, kp, b⟩ := c.ex
  refine ⟨pe_callW Fn (hr.mono hk) hg hm kp b tk ha.pe hdb he hpl, fun ρ σ n B H E Qd Q S hw xw kk => ha.snd ρ σ n B H E _ _ S hw xw fun vs ds n1 B1 H1 m1 pk1 r1 q1 => ?_⟩
  refine ⟨G.pn, B1, n1, ds, E, _, m1.s, pk1, RA.of hK rfl rfl r1, q1, ⟨fun l ws es' n' B' H' mv pk' fr hl hz hA q => ?_, fun _ _ _ _ _ _ _ _ _ q => q.elim, fun _ _ _ _ _ q => q.elim⟩, fun y n' cv dd B' H' mv pk' er ex => xw y n' cv dd B' H' (m1.trans mv) pk' (exr_of (F := Fof X G) hK rfl er) ex⟩
  have S1 := S.step m1 pk1
  have hl1 : H1 l = none := fr.2.1
  exact kk l ws es' n' B' H' (m1.trans mv) pk' (m1.kp.up hl1) ⟨fr.1, S1.mv.kp.up hl1, fr.2.2⟩ hl hz (by rw [← hK]; exact hA) q
/-- .. where nothing may be let out: in any context -/
theorem be_call0 {F : Fx} (c : ClB F k x false f) (hr : Room j X.A) (hk : k ≤ j) (hg : Gl X x) (ha : BA X G (e :: es) t wa) (hF : Fof X G = F := by rfl)
    (hdb : (x == ("__debug__" : Str)) = false := by decide) (he : starEach (e :: es) X.env = (false, eval e X.env) :: starEach es X.env := by rfl) (hpl : (backTo pos (starEach es X.env)).any (·.1) = false := by rfl) (hK : X.K = G.K := by rfl) : BE X G (.Call (.Name x p) (e :: es) [] pos) (tCallX (SpB F false f) (fun _ _ _ _ => False) t) (fun ρ n E Q => wa ρ n E fun ds n1 => f ds n1 (fun _ _ => False) Q) := by
  subst hF
  obtain ⟨fa, fd, ps, Fn, hm, kp, b⟩ := c.ex
  refine ⟨pe_callW Fn (hr.mono hk) hg hm kp b takes0 ha.pe hdb he hpl, fun ρ σ n B H E Qd Q S hw xw kk => ha.snd ρ σ n B H E _ _ S hw xw fun vs ds n1 B1 H1 m1 pk1 r1 q1 => ?_⟩
  refine ⟨G.pn, B1, n1, ds, (fun _ _ => False), Qd, m1.s, pk1, RA.of hK rfl rfl r1, q1, fun v d n' B' H' mv pk' rv q => kk v d n' B' H' (m1.trans mv) pk' ((R.of (F := Fof X G) hK rfl rfl).mp rv) q, fun y n' cv dd B' H' mv pk' er ex => ex⟩
/-- .. that tells lists of the asker's own in a tuple, or None -/
def wMatR (Q : Sl → Nat → Prop) : QE := fun d n' => match d with
  | .py .none => Q (.val (.py .none)) n'
  | .py (.tuple (.none :: es)) => ∀ (l : Addr) (rows : Rws), (rows.map fun r => PyData.list r.2) = es → Q (.mat false l rows) n'
  | .py (.tuple es) => ∀ (l : Addr) (rows : Rws), (rows.map fun r => PyData.list r.2) = es → Q (.mat true l rows) n'
  | _ => False
theorem wMatR_go {Q : Sl → Nat → Prop} {tp : Bool} {l : Addr} {rows : Rws} {n' : Nat} (q : wMatR Q (.py (.tuple (if tp = true then rows.map (fun r => .list r.2) else .none :: rows.map fun r => .list r.2))) n') : Q (.mat tp l rows) n' := by
  cases tp with
  | false => exact q l rows rfl
  | true =>
    cases rows with
    | nil => exact q l [] rfl
    | cons r rs => exact q l (r :: rs) rfl
def wCallM (f : FB) (wa : WA) : WV := fun ρ n E Q => wa ρ n E fun ds n1 => f ds n1 E (wMatR Q)
theorem MatAt.up {G G' : Cg} {n : Nat} {B H B' H' : Hp} {ρ : List Sl} {σ : L2.St} {t : Bool} {l : Addr} {rows : Rws} (S : St G n B H ρ σ) (h1 : G'.K = G.K) (h2 : G'.pn = G.pn) (h3 : G'.H0 = H) (h : MatAt G' B' H' t l rows) : MatAt G B' H' t l rows ∧ ∀ a, a ∈ l :: rows.map (·.1) → H a = none := by
  have up : ∀ a, Free G' B' a → Free G B' a ∧ H a = none := fun a fr => by
    have e : H a = none := by
      rw [← h3]
      exact fr.2.1
    exact ⟨⟨fr.1, S.mv.kp.up e, by rw [← h2]; exact fr.2.2⟩, e⟩
  refine ⟨⟨h.at_, (up l h.fr).1, h.nd, h.len, fun r hr => ?_⟩, fun a ha => ?_⟩
  · obtain ⟨vs, g1, g2, g3, g4⟩ := h.row r hr
    exact ⟨vs, g1, g2, by rw [← h1]; exact g3, (up _ g4).1⟩
  · rcases List.mem_cons.mp ha with rfl | ha
    · exact (up _ h.fr).2
    · obtain ⟨r, hr, rfl⟩ := List.mem_map.mp ha
      obtain ⟨vs, g1, g2, g3, g4⟩ := h.row r hr
      exact (up _ g4).2
theorem bv_callM {F : Fx} (c : ClB F k x true f) (hr : Room j X.A) (hk : k ≤ j) (hg : Gl X x) (tk : Takes X G.xe) (ha : BA X G (e :: es) t wa) (hF : Fof X G = F := by rfl)
    (hdb : (x == ("__debug__" : Str)) = false := by decide) (he : starEach (e :: es) X.env = (false, eval e X.env) :: starEach es X.env := by rfl) (hpl : (backTo pos (starEach es X.env)).any (·.1) = false := by rfl) (hK : X.K = G.K := by rfl) : BV X G (.Call (.Name x p) (e :: es) [] pos) (tCallX (SpB F true f) G.xe t) (wCallM f wa) := by
  subst hF
  obtain ⟨fa, fd, ps, Fn, hm, kp, b⟩ := c.ex
  refine ⟨pe_callW Fn (hr.mono hk) hg hm kp b tk ha.pe hdb he hpl, fun ρ σ n B H E Qd Q S hw xw kk => ha.snd ρ σ n B H E _ _ S hw xw fun vs ds n1 B1 H1 m1 pk1 r1 q1 => ?_⟩
  have S1 := S.step m1 pk1
  refine ⟨G.pn, B1, n1, ds, E, _, m1.s, pk1, RA.of hK rfl rfl r1, q1, ⟨fun _ _ _ _ _ _ _ _ _ _ _ _ q => q.elim, fun tp l rows n' B' H' mv pk' A q => ?_, fun n' B' H' mv pk' q => ?_⟩, fun y n' cv dd B' H' mv pk' er ex => xw y n' cv dd B' H' (m1.trans mv) pk' (exr_of (F := Fof X G) hK rfl er) ex⟩
  · obtain ⟨A', fr⟩ := MatAt.up (G := G) (G' := (Fof X G).g G.pn (fun _ _ _ _ => True) B1 H1) S1 hK rfl rfl A
    exact kk (.ref l) (.mat tp l rows) n' B' H' (m1.trans mv) pk' ⟨rfl, A', fun a ha => m1.kp.up (fr a ha)⟩ (wMatR_go q)
  · exact kk .non (.val (.py .none)) n' B' H' (m1.trans mv) pk' r_non q
end
end Fv
set_option maxRecDepth 100000
set_option maxHeartbeats 4000000
/-! Exception classes of one's own over any built-in one: made, their fields set. -/
namespace PySem
namespace Xb
open PySem.W PySem.Calls PyProof.Rows PySem.HandSPX Builtin Builtin.ObjectAttr
/-- own classes, then the tail tl -/
def refsT (tl : List Value) : List Value → Bool
  | .ref c :: r => refsT tl r
  | .none :: r => .none :: r == tl
  | l => l == tl
/-- a built-in exception class that is called Bi, whose mro is tl -/
structure Bas (newId iniId : String) (tl : List Value) : Prop where
  nw : ∃ (Bn inN : String) (bmN : List Value), ExcBaseFacts Bn newId inN bmN ∧ tl.contains (.type Bn) = true
  na : tl.contains (.type "AttributeError") = false
  nn : tl.contains (.type "NameError") = false
  ob : tl.contains (.type "object") = true
  hd : ∀ c r, tl ≠ .ref c :: r
  ps : ∀ me : Value, refuseLoop me "__setattr__" tl = pure ()
  ini : ∃ B : String, Slot B "__init__" iniId ∧ entryFor table iniId = some Builtin.«BaseException.__init__» ∧ builtinKind iniId = some .slot ∧ splitId iniId = some (B, "__init__") ∧
    Manifest.signature? iniId = some ⟨.positional, "*", B, .self, [⟨"args", .varPos, false⟩]⟩ ∧ (B != "*") = true ∧ tl.contains (.type B) = true
theorem refsT_cases {tl : List Value} : ∀ l : List Value, refsT tl l = true → (∃ c r, l = .ref c :: r ∧ refsT tl r = true) ∨ l = tl
  | [], e => .inr (beq_iff_eq.mp e)
  | .ref c :: r, e => .inl ⟨c, r, rfl, e⟩
  | .none :: _, e => .inr (beq_iff_eq.mp e)
  | .ellipsis :: _, e => .inr (beq_iff_eq.mp e)
  | .notImplemented :: _, e => .inr (beq_iff_eq.mp e)
  | .bool _ :: _, e => .inr (beq_iff_eq.mp e)
  | .int _ _ :: _, e => .inr (beq_iff_eq.mp e)
  | .float _ _ :: _, e => .inr (beq_iff_eq.mp e)
  | .str _ _ :: _, e => .inr (beq_iff_eq.mp e)
  | .bytes _ _ :: _, e => .inr (beq_iff_eq.mp e)
  | .type _ :: _, e => .inr (beq_iff_eq.mp e)
  | .builtin _ :: _, e => .inr (beq_iff_eq.mp e)
section
variable {newId iniId : String} {tl : List Value}
theorem Bas.pass (T : Bas newId iniId tl) (me : Value) : ∀ l : List Value, refsT tl l = true → refuseLoop me "__setattr__" l = pure () := by
  intro l
  induction l with
  | nil =>
    intro e
    rcases refsT_cases [] e with ⟨c, r, q, _⟩ | q
    · cases q
    · rw [q]
      exact T.ps me
  | cons a r ih =>
    intro e
    rcases refsT_cases (a :: r) e with ⟨c, r', q, h⟩ | q
    · cases q
      rw [refuseLoop_ref]
      exact ih h
    · rw [q]
      exact T.ps me
theorem refsT_has (Y : String) : ∀ l : List Value, refsT tl l = true → l.contains (.type Y) = tl.contains (.type Y) := by
  intro l
  induction l with
  | nil =>
    intro e
    rcases refsT_cases [] e with ⟨c, r, q, _⟩ | q
    · cases q
    · rw [q]
  | cons a r ih =>
    intro e
    rcases refsT_cases (a :: r) e with ⟨c, r', q, h⟩ | q
    · cases q
      rw [List.contains_cons, ih h]
      rfl
    · rw [q]
theorem Bas.ne (T : Bas newId iniId tl) {l : List Value} (h : refsT tl l = true) : l.isEmpty = false := by
  have := refsT_has "object" l h
  rw [T.ob] at this
  cases l with
  | nil => simp at this
  | cons _ _ => rfl
end
section
variable {pg : Program} {wd : World} {M : Model} {A : Around} {E : Value → Shared → Prop} {R : Result → Shared → Prop} {h : Heap} {g : Array GenState} {d : Drawn} {t : Nat} {os : OsState}
variable {nm q : Str} {C N : Addr} {bs bm tl : List Value} {hdct : Bool} {sn : List Str} {sub : List Value} {ab : Bool} {col : Option Bool} {dd : Option Addr} {k0 k1 k2 k3 k5 : Option Value} {newId iniId : String}
theorem new_check (T : Bas newId iniId tl) (hT : refsT tl bm = true) {us : List Value} {Q : Unit → Shared → Prop}
    (hC : h.get? C = some (excClassObj nm q C N bs bm hdct sn sub ab col dd k0 k1 k2 k3 k5 newId)) (hq : Q () ⟨h, g, d, t, os⟩) :
    wpAny M A (checkBuiltinCall newId ⟨.ref C :: us, []⟩) Q E ⟨h, g, d, t, os⟩ := by
  obtain ⟨Bn, inN, bmN, F, hB⟩ := T.nw
  have has : (Value.ref C :: bm).contains (.type Bn) = true := by
    rw [List.contains_cons, refsT_has _ _ hT, hB, Bool.or_true]
  have hns := F.noStar
  simp only [checkBuiltinCall, F.newKind, F.newRow, F.newSplit]
  repeat (first | refine wpAny_loadPart_at hC ?_ | (refine wpAny_isSubtype_exc hC ?_
                                                    rw [has]) | refine wpAny_staticBase_exc hC ?_ | refine wpAny_madeBy_exc hC ?_ | simp only [Bool.false_eq_true, bne_self_eq_false, if_false] | wp_step)
  exact hq
theorem new_any (T : Bas newId iniId tl) (hT : refsT tl bm = true) {us : List Value} (hl : us.length ≤ sizeLine)
    (hC : h.get? C = some (excClassObj nm q C N bs bm hdct sn sub ab col dd k0 k1 k2 k3 k5 newId))
    (hq : R (.ok (.ret (.ref (h.objs.size + 1)))) ⟨(h.push (W.kdv_tup us)).push (excO C h.objs.size), g, d, t, os⟩) :
    codeAny (model pg wd) A (.builtin newId ⟨.ref C :: us, []⟩) R ⟨h, g, d, t, os⟩ := by
  obtain ⟨Bn, inN, bmN, F, hB⟩ := T.nw
  have fe := F.ends
  have has : (Value.ref C :: bm).contains (.type Bn) = true := by
    rw [List.contains_cons, refsT_has _ _ hT, hB, Bool.or_true]
  have hasA : (Value.ref C :: bm).contains (.type "AttributeError") = false := by
    rw [List.contains_cons, refsT_has _ _ hT, T.na]
    rfl
  have hasN : (Value.ref C :: bm).contains (.type "NameError") = false := by
    rw [List.contains_cons, refsT_has _ _ hT, T.nn]
    rfl
  refine codeAny_builtinAt F.entry ?_
  unfold Builtin.«BaseException.__new__»
  refine wpAt_bind ?_
  show wpAt _ _ _ (stack >>= _) _ _ _
  refine wpAt_bind (wpAt_stack fun at0 under => wpAt_of_wpAny ?_)
  wp_walk
  refine wpAt_of_wpAny ?_
  rw [F.owner]
  repeat (first | with_reducible refine wpAny_madeHere_exc F.canon hC ?_ | with_reducible refine wpAny_loadPart_at hC ?_ | (with_reducible refine wpAny_isSubtype_exc hC ?_
                                                                                                                            first | rw [has] | rw [hasA] | rw [hasN]) | wp_step)
  show R _ _
  rw [Heap.size_push]
  exact hq
theorem made_any (T : Bas newId iniId tl) (hT : refsT tl bm = true) {us : List Value} {fI : Addr} {Q : Fin → Shared → Prop} (hl : us.length ≤ sizeLine)
    (hC : h.get? C = some (excClassObj nm q C N bs bm hdct sn sub ab col dd k0 k1 k2 k3 k5 newId))
    (hi : W.Looks (model pg wd) h (typeLookup (.ref C) "__init__") (some (.ref fI))) (hb : ∀ me, W.Looks (model pg wd) h (bindSpecial (.ref fI) me) (.ref fI, [me]))
    (hq : codeAny (model pg wd) A (.call (.ref fI) ⟨.ref (h.objs.size + 1) :: us, []⟩)
      (fun r s2 => match r with | .ok (.ret v) => v = .none ∧ Q (.done (.ret (.ref (h.objs.size + 1)))) s2 | .ok _ => False | .error e => E e s2)
      ⟨(h.push (W.kdv_tup us)).push (excO C h.objs.size), g, d, t, os⟩) :
    wpAny (model pg wd) A (Builtin.«type.__call__» ⟨.ref C :: us, []⟩) Q E ⟨h, g, d, t, os⟩ := by
  obtain ⟨Bn, inN, bmN, F, hB⟩ := T.nw
  repeat (first | with_reducible refine wpAny_loadPart_at hC ?_ | with_reducible refine wpAny_madeBy_exc hC ?_ | wp_step)
  refine codeAny_call_builtin_code (Code.quiet_builtin _ F.quiet) (new_check T hT hC (new_any T hT hl hC ?_))
  show wpAny _ _ _ _ _ _
  have up : ∀ b o, h.get? b = some o → ((h.push (W.kdv_tup us)).push (excO C h.objs.size)).get? b = some o := fun b o e => Heap.get?_push_of_some _ (Heap.get?_push_of_some _ e)
  have hC2 := up _ _ hC
  have at1 : ((h.push (W.kdv_tup us)).push (excO C h.objs.size)).get? (h.objs.size + 1) = some (excO C h.objs.size) := by heap_get
  have selfIn : (Value.ref C :: bm).contains (.ref C) = true := by simp
  have hi2 := hi.keeps up
  have hb2 := (hb (.ref (h.objs.size + 1))).keeps up
  unfold isInstance
  repeat (first | with_reducible refine wpAny_loadPart_at at1 ?_ | (with_reducible refine wpAny_isSubtype_exc hC2 ?_
                                                                    rw [selfIn]) | wp_step)
  show wpAny _ _ (typeLookup (.ref C) _) _ _ _
  refine hi2.at (wpAny_holding (wpAny_bind (hb2.at (wpAny_bind (wpAny_call (codeAny_mono hq fun r s2 z => ?_))))))
  rcases r with e | (v | _ | _ | _) <;> first | exact z | exact z.elim | skip
  obtain ⟨rfl, z⟩ := z
  first
    | exact wpAny_pure (wpAny_pure z)
    | (wp_walk
       exact z)
theorem call_any (T : Bas newId iniId tl) (hT : refsT tl bm = true) {us : List Value} {fI : Addr} (hl : us.length ≤ sizeLine)
    (hC : h.get? C = some (excClassObj nm q C N bs bm hdct sn sub ab col dd k0 k1 k2 k3 k5 newId))
    (hi : W.Looks (model pg wd) h (typeLookup (.ref C) "__init__") (some (.ref fI))) (hb : ∀ me, W.Looks (model pg wd) h (bindSpecial (.ref fI) me) (.ref fI, [me]))
    (hq : codeAny (model pg wd) (A.under (.builtin "type.__call__" ⟨.ref C :: us, []⟩)) (.call (.ref fI) ⟨.ref (h.objs.size + 1) :: us, []⟩) (W.InitBack (h.objs.size + 1) R)
      ⟨(h.push (W.kdv_tup us)).push (excO C h.objs.size), g, d, t, os⟩) :
    codeAny (model pg wd) A (.call (.ref C) ⟨us, []⟩) R ⟨h, g, d, t, os⟩ := by
  have tcl := tc_lookup
  have tcb := tc_bind (.ref C)
  have ty : (⟨h, g, d, t, os⟩ : Shared).TypeIs (.ref C) "type" := ⟨_, hC, rfl⟩
  refine codeAny_of_tree ?_
  show wpAny _ _ (callAny (.ref C) _) _ _ _
  repeat (any_goals (first | assumption | with_reducible refine wpAny_loadPart_at hC ?_ | wp_step))
  refine ⟨rfl, codeAny_call_builtin_at (Code.quiet_builtin _ (by decide +kernel)) entry_typeCall (wpAny_check_type_call_sub hC (made_any T hT hl hC hi hb (codeAny_mono hq fun r s2 z => ?_)))⟩
  rcases r with e | (v | _ | _ | _) <;> exact z
theorem ini_check {B : String} (hs : (B != "*") = true) (hk : builtinKind iniId = some .slot) (hsp : splitId iniId = some (B, "__init__")) (hsg : Manifest.signature? iniId = some ⟨.positional, "*", B, .self, [⟨"args", .varPos, false⟩]⟩) (hB : bm.contains (.type B) = true)
    {e : Addr} {oe : Obj} {us : List Value} {Q : Unit → Shared → Prop} (hC : h.get? C = some (excClassObj nm q C N bs bm hdct sn sub ab col dd k0 k1 k2 k3 k5 newId)) (he : h.get? e = some oe) (hcl : oe.cls = .ref C) (hq : Q () ⟨h, g, d, t, os⟩) :
    wpAny M A (checkBuiltinCall iniId ⟨.ref e :: us, []⟩) Q E ⟨h, g, d, t, os⟩ := by
  have has : (Value.ref C :: bm).contains (.type B) = true := by rw [List.contains_cons, hB, Bool.or_true]
  simp only [checkBuiltinCall, hk, hsp, hsg]
  repeat (first | (with_reducible refine wpAny_loadPart_at he ?_
                   rw [hcl]) | with_reducible refine wpAny_loadPart_at hC ?_ | (with_reducible refine wpAny_isSubtype_exc hC ?_
                                                                                rw [has]) | wp_step)
  refine wpAny_onRaise ?_
  rw [show ∀ (a b : String) (n : Nat), Bind.check ⟨.positional, "*", B, .self, [⟨"args", .varPos, false⟩]⟩ a b n (List.map (fun x => x.fst) ({ pos := Value.ref e :: us } : Args).kw) = pure () from fun a b n => check_star_args _ _ _ _ _ _]
  exact wpAny_pure hq
theorem ini_any (T : Bas newId iniId tl) (hT : refsT tl bm = true) {e t0 : Addr} {us : List Value} (hl : us.length ≤ sizeLine)
    (hC : h.get? C = some (excClassObj nm q C N bs bm hdct sn sub ab col dd k0 k1 k2 k3 k5 newId)) (he : h.get? e = some (excO C t0))
    (hq : ∀ h2 t1, (∀ b o, b ≠ e → h.get? b = some o → h2.get? b = some o) → h2.get? e = some (excO C t1) → R (.ok (.ret .none)) ⟨h2, g, d, t, os⟩) :
    codeAny (model pg wd) A (.call (.builtin iniId) ⟨.ref e :: us, []⟩) R ⟨h, g, d, t, os⟩ := by
  obtain ⟨B, sl, en, hk, hsp, hsg, hs, hB⟩ := T.ini
  refine codeAny_call_builtin sl.plain en (ini_check hs hk hsp hsg ((refsT_has B bm hT).trans hB) hC he rfl ?_)
  wp_walk
  refine hq _ h.objs.size (fun b o hb ho => ?_) ?_
  · rw [Heap.get?_update_other _ _ (Ne.symm hb)]
    exact Heap.get?_push_of_some _ ho
  · rw [Heap.get?_update_self _ (Heap.get?_push_of_some _ he) rfl]
    rfl
/-- a field is set, the exception has no dict yet -/
theorem sets_new {K : W.Frag} {name : Str} {tk : Tok} {v : Value} {x : Addr} {fv : Array Value} {cd : ClassData} (T : Bas newId iniId tl)
    (kin : K.In h) (hx : h.get? x = some { cls := .ref C, data := .fields fv }) (hcd : W.clsIn K C = some cd) (hm : refsT tl cd.mro = true) (hh : cd.hasDict = true) (ha : W.findIn K (.ref C) name = some none)
    (hq : ∀ h2 tk2 dx, (∀ b o, b ≠ x → h.get? b = some o → h2.get? b = some o) → h.objs.size ≤ dx → dx ≠ x → h2.get? x = some { cls := .ref C, dict := some dx, data := .fields fv } →
      h2.Ns1 dx (fun y => if y = name then some v else none) → R (.ok (.ret .none)) ⟨h2, g, d, tk2, os⟩) :
    codeAny (model pg wd) A (.call (.builtin "object.__setattr__") ⟨[.ref x, .str name tk, v], []⟩) R ⟨h, g, d, t, os⟩ := by
  have J : W.InstAt h x { cls := .ref C, data := .fields fv } C none := ⟨hx, rfl, rfl, trivial⟩
  have so := F.store_object
  have hob : cd.mro.contains (.type "object") = true := (refsT_has "object" _ hm).trans T.ob
  have far : x ≠ h.objs.size := Nat.ne_of_lt (Heap.lt_size hx)
  have isO : W.Looks (model pg wd) h (isInstance (.ref x) (.type "object")) true := J.type.andThen (W.looks_mroIn kin (by unfold W.mroIn; rw [hcd, Option.bind_some, if_neg (by rw [T.ne hm]; decide), hob]))
  refine codeAny_call_builtin so.slot.plain so.entry (@W.check_slot (model pg wd) _ _ ⟨h, g, d, t, os⟩ "object.__setattr__" "object" "__setattr__" (.ref x) [.str name tk, v] [] _ so.kind so.split isO (so.args (.ref x) (.str name tk) v) ?_)
  have lm : W.Looks (model pg wd) h (mroOf (.ref C)) cd.mro := (W.looks_clsIn kin hcd).andThen .now
  have ln : W.Looks (model pg wd) h (storeTaker? none) none := .now
  have lc : W.Looks (model pg wd) h (classData C) cd := W.looks_clsIn kin hcd
  rw [W.osa_eq, refuse_eq]
  refine wpAny_bind (wpAny_bind (J.type.at (wpAny_bind (lm.at ?_))))
  rw [T.pass _ _ hm]
  refine wpAny_pure (wpAny_bind (J.type.at (wpAny_bind ((W.looks_findIn kin ha).at (wpAny_bind (ln.at ?_))))))
  show wpAny _ _ (storeInOwnDict (.ref x) (.ref C) (.str name tk) name v false) _ _ _
  obtain ⟨nm, bs, mro, ns, qn, hasD, sn, sb, ab, col, del⟩ := cd
  dsimp only at hh
  subst hh
  unfold storeInOwnDict ownDictForStores
  repeat (first | with_reducible refine store_in_new ?_ ?_ | with_reducible refine wpAny_loadPart_at hx ?_ | with_reducible refine lc.at ?_ | wp_step)
  · exact ⟨_, #[], _, (Heap.get?_update_ne _ _ _ _ far.symm).trans (Heap.get?_push_at rfl rfl), rfl, fun e he => absurd he (by simp), fun _ => rfl⟩
  · intro h2 tk2 hn2 hs
    have hx1 : (h.push { cls := .type "dict", data := .dict #[] }).get? x = some { cls := .ref C, data := .fields fv } := Heap.get?_push_of_some _ hx
    refine hq h2 tk2 h.objs.size (fun b o hb ho => ?_) (Nat.le_refl _) far.symm ?_ hn2
    · exact (hs.2 b (Nat.ne_of_lt (Heap.lt_size ho))).trans ((Heap.get?_update_ne _ _ _ _ hb).trans (Heap.get?_push_of_some _ ho))
    · exact (hs.2 x far).trans (Heap.get?_update_self _ hx1 rfl)
/-- .. has one -/
theorem sets_old {K : W.Frag} {name : Str} {tk : Tok} {v : Value} {x dx : Addr} {fv : Array Value} {cd : ClassData} {m0 : Str → Option Value} {nl : List Str} (T : Bas newId iniId tl)
    (kin : K.In h) (hx : h.get? x = some { cls := .ref C, dict := some dx, data := .fields fv }) (hns : h.Ns1 dx m0) (hw : Within m0 nl) (hz : nl.length ≤ 1000) (hcd : W.clsIn K C = some cd) (hm : refsT tl cd.mro = true) (hh : cd.hasDict = true)
    (ha : W.findIn K (.ref C) name = some none)
    (hq : ∀ h2 tk2, (∀ b o, b ≠ dx → h.get? b = some o → h2.get? b = some o) → h2.Ns1 dx (fun y => if y = name then some v else m0 y) → R (.ok (.ret .none)) ⟨h2, g, d, tk2, os⟩) :
    codeAny (model pg wd) A (.call (.builtin "object.__setattr__") ⟨[.ref x, .str name tk, v], []⟩) R ⟨h, g, d, t, os⟩ := by
  obtain ⟨oD, esD, epD, hoD, hdD, _⟩ := hns.count hw
  have J : W.InstAt h x { cls := .ref C, dict := some dx, data := .fields fv } C (some oD) := ⟨hx, rfl, rfl, hoD⟩
  have so := F.store_object
  have hob : cd.mro.contains (.type "object") = true := (refsT_has "object" _ hm).trans T.ob
  have isO : W.Looks (model pg wd) h (isInstance (.ref x) (.type "object")) true := J.type.andThen (W.looks_mroIn kin (by unfold W.mroIn; rw [hcd, Option.bind_some, if_neg (by rw [T.ne hm]; decide), hob]))
  refine codeAny_call_builtin so.slot.plain so.entry (@W.check_slot (model pg wd) _ _ ⟨h, g, d, t, os⟩ "object.__setattr__" "object" "__setattr__" (.ref x) [.str name tk, v] [] _ so.kind so.split isO (so.args (.ref x) (.str name tk) v) ?_)
  have lm : W.Looks (model pg wd) h (mroOf (.ref C)) cd.mro := (W.looks_clsIn kin hcd).andThen .now
  have ln : W.Looks (model pg wd) h (storeTaker? none) none := .now
  have lc : W.Looks (model pg wd) h (classData C) cd := W.looks_clsIn kin hcd
  rw [W.osa_eq, refuse_eq]
  refine wpAny_bind (wpAny_bind (J.type.at (wpAny_bind (lm.at ?_))))
  rw [T.pass _ _ hm]
  refine wpAny_pure (wpAny_bind (J.type.at (wpAny_bind ((W.looks_findIn kin ha).at (wpAny_bind (ln.at ?_))))))
  show wpAny _ _ (storeInOwnDict (.ref x) (.ref C) (.str name tk) name v false) _ _ _
  obtain ⟨nm, bs, mro, ns, qn, hasD, sn, sb, ab, col, del⟩ := cd
  dsimp only at hh
  subst hh
  unfold storeInOwnDict ownDictForStores
  repeat (first | with_reducible refine PySem.OEX.store_in_old hns hw hz ?_ | with_reducible refine wpAny_loadPart_at hx ?_ | with_reducible refine lc.at ?_ | wp_step)
  intro h2 tk2 hn2 hs
  exact hq h2 tk2 (fun b o hb ho => (hs.2 b hb).trans ho) hn2
end
/-! ### the bases -/
theorem bas_V : Bas "ValueError.__new__" "ValueError.__init__" [.type "ValueError", .type "Exception", .type "BaseException", .type "object"] where
  nw := ⟨_, _, _, F.excBase_ValueError, by decide +kernel⟩
  na := by decide +kernel
  nn := by decide +kernel
  ob := by decide +kernel
  hd := fun _ _ e => by cases e
  ps := fun me => by kernel_rfl
  ini := ⟨_, F.excBase_ValueError.init, F.excBase_ValueError.initEntry, F.excBase_ValueError.initKind, F.excBase_ValueError.initSplit, F.excBase_ValueError.initRow, F.excBase_ValueError.noStar, by decide +kernel⟩
end Xb
end PySem
set_option maxRecDepth 100000
set_option maxHeartbeats 4000000
/-! Exceptions that are made: their __init__, raise. -/
namespace Fv
open PySem PySem.Spec PyProof.Rows L2
open PySem.Xb (Bas refsT)
/-- what the written part says of an exception's class -/
structure OxT (K : PySem.W.Frag) (C : Addr) (newId iniId : String) (tl : List Value) : Prop where
  bas : Bas newId iniId tl
  cls : ∃ nm q N bs bm sn sub ab col dd k0 k1 k2 k3 k5, K.lookup C = some (excClassObj nm q C N bs bm true sn sub ab col dd k0 k1 k2 k3 k5 newId) ∧ refsT tl bm = true
  sa : PySem.W.findIn K (.ref C) "__setattr__" = some (some (.builtin "object.__setattr__"))
  exC : PySem.W.subIn K (.ref C) (.type "BaseException") = some true
  tyC : PySem.W.typeIn K (.ref C) = some (.type "type")
  kC : PySem.W.keepIn K (.ref C) = true
section
variable {X : Cx} {pins : List (Addr × Obj)} {σ : L2.St} {H : Hp} {s : Shared} {a C dx : Addr} {f : Str} {y : V} {u : Value} {fs : List (Str × V)} {Q : Unit → Shared → Prop} {E : Value → Shared → Prop} {A : Around} {newId iniId : String} {tl : List Value}
theorem oxt_cls (T : OxT X.K C newId iniId tl) : ∃ cd : ClassData, PySem.W.clsIn X.K C = some cd ∧ refsT tl cd.mro = true ∧ cd.hasDict = true := by
  obtain ⟨nm, q, N, bs, bm, sn, sub, ab, col, dd, k0, k1, k2, k3, k5, hC, hbm⟩ := T.cls
  refine ⟨_, by unfold PySem.W.clsIn; rw [hC] <;> rfl, ?_, rfl⟩
  show refsT tl (.ref C :: bm) = true
  exact hbm
theorem fld_new (T : OxT X.K C newId iniId tl) (I : Inv X pins σ H s) (e : H a = some (exo a C none)) (hno : PySem.W.findIn X.K (.ref C) f = some none) (ry : RelV y u)
    (k : ∀ dx s2, H dx = none → dx ≠ a → Inv X pins σ (upd (upd H dx (exd dx [(f, y)])) a (exo a C (some dx))) s2 → Q () s2) : wpAny (model X.prog X.w) A (setAttr (.ref a) f u) Q E s := by
  obtain ⟨cd, hcl, hmr, hdi⟩ := oxt_cls T
  obtain ⟨t1, ho⟩ := exo_at I.hok e
  obtain ⟨hp, g, d, t, os⟩ := s
  refine PySem.W.set_plain I.kIn (ox := { cls := .ref C, dict := none, data := .fields #[.ref t1, .none, .none, .none, .bool false, .none] }) (od := none) ⟨ho, rfl, rfl, trivial⟩ T.sa ?_
  refine PySem.Xb.sets_new T.bas I.kIn ho hcl hmr hdi hno (fun h2 tk2 dx kp dn dne hx hn => ?_)
  have nodx : H dx = none := I.hok.fresh dn
  have lt2 : ∀ {b : Addr} {o : Obj}, hp.get? b = some o → b ≠ dx := fun {b o} z => Nat.ne_of_lt (Nat.lt_of_lt_of_le (Heap.lt_size z) dn)
  have nea : ∀ {b : Addr}, H b = none → b ≠ a := fun {b} n z => by
    rw [z, e] at n
    cases n
  have U : Un X.fs [] H (upd (upd H dx (exd dx [(f, y)])) a (exo a C (some dx))) hp h2 := {
    keep := fun b o z n _ _ => kp b o (nea n) z
    slot := fun b o z n _ _ => ⟨o.slots, kp b o (nea n) z⟩
    free := fun b o z n _ => by
      rw [upd_ne (nea n), upd_ne (lt2 z)]
      exact n
    there := fun b o z _ => by
      by_cases hb : b = a
      · exact ⟨_, by rw [hb]; exact hx⟩
      · exact ⟨o, kp b o hb z⟩
    tups := fun b xs z => by
      rw [upd_ne (at_ne e z exo_tup), upd_ne (ne_of_none z nodx)]
      exact z
    frzs := fun b o v z => by
      rw [upd_ne (at_ne e z exo_frz), upd_ne (ne_of_none z nodx)]
      exact z
    tbls := fun b ps z => ⟨#[], by rw [upd_ne (at_ne e z exo_tbl), upd_ne (ne_of_none z nodx), z]; simp⟩ }
  refine k dx _ nodx dne (I.un (t' := tk2) U fun b o z => ?_)
  by_cases hb : b = a
  · subst hb
    rw [upd_same] at z
    cases z
    exact exo_ok hx
  · rw [upd_ne hb] at z
    by_cases hd : b = dx
    · subst hd
      rw [upd_same] at z
      cases z
      exact exd_ok hn (relO_put (fs := []) ry fun g => True.intro)
    · rw [upd_ne hd] at z
      refine (I.hok b o z).stay (fun c v hc y => kp c v ?_ y) (fun c hc => ?_) (fun c xs hc => ?_)
      · rcases hc with hc | hc
        · rw [hc]
          exact hb
        · exact at_ne e hc exo_own
      · rw [upd_ne (at_ne e hc exo_own), upd_ne (ne_of_none hc nodx)]
        exact hc
      · rw [upd_ne (at_ne e hc exo_tup), upd_ne (ne_of_none hc nodx)]
        exact hc
theorem fld_old (T : OxT X.K C newId iniId tl) (I : Inv X pins σ H s) (e : H a = some (exo a C (some dx))) (ed : H dx = some (exd dx fs)) (hl : fs.length ≤ 900) (hno : PySem.W.findIn X.K (.ref C) f = some none) (ry : RelV y u)
    (k : ∀ s2, Inv X pins σ (upd H dx (exd dx ((f, y) :: fs))) s2 → Q () s2) : wpAny (model X.prog X.w) A (setAttr (.ref a) f u) Q E s := by
  obtain ⟨cd, hcl, hmr, hdi⟩ := oxt_cls T
  obtain ⟨t1, ho⟩ := exo_at I.hok e
  obtain ⟨mA, hns, rel⟩ := exd_at I.hok ed
  have hw := within_of rel
  obtain ⟨hp, g, d, t, os⟩ := s
  obtain ⟨oD, _, _, hoD, _, _⟩ := hns.count hw
  refine PySem.W.set_plain I.kIn (ox := { cls := .ref C, dict := some dx, data := .fields #[.ref t1, .none, .none, .none, .bool false, .none] }) (od := some oD) ⟨ho, rfl, rfl, hoD⟩ T.sa ?_
  refine PySem.Xb.sets_old T.bas I.kIn ho hns hw (by rw [List.length_map]; omega) hcl hmr hdi hno (fun h2 tk2 kp hn => ?_)
  have there : ∃ o, h2.get? dx = some o := by
    obtain ⟨o, _, _, z, _⟩ := hn
    exact ⟨o, z⟩
  exact k _ (I.write (t' := tk2) (x := dx) (e := dx) (o := exd dx ((f, y) :: fs)) (by rw [ed]; exact True.intro) (.inl rfl) kp there (exd_ok hn (relO_put ry rel)))
theorem ini_ok {us : List Value} {Q : Value → Shared → Prop} (T : OxT X.K C newId iniId tl) (I : Inv X pins σ H s) (e : H a = some (exo a C none)) (hl : us.length ≤ sizeLine) (k : ∀ s2, Inv X pins σ H s2 → Q .none s2) :
    wpAny (model X.prog X.w) A (call (.builtin iniId) (.ref a :: us)) Q E s := by
  obtain ⟨nm, q, N, bs, bm, sn, sub, ab, col, dd, k0, k1, k2, k3, k5, hC, hbm⟩ := T.cls
  obtain ⟨t1, ho⟩ := exo_at I.hok e
  obtain ⟨hp, g, d, t, os⟩ := s
  refine wpAny_call (PySem.Xb.ini_any T.bas hbm hl (I.kIn _ _ hC) ho fun h2 t2 kp hx => ?_)
  have J := I.write (t' := t) (x := a) (e := a) (o := exo a C none) (by rw [e]; exact True.intro) (.inl rfl) kp ⟨_, hx⟩ (exo_ok hx)
  have same : upd H a (exo a C none) = H := by
    funext b
    by_cases hb : b = a
    · rw [hb, upd_same, e]
    · rw [upd_ne hb]
  rw [same] at J
  exact k _ J
end
/-! ### readings -/
/-- B.__init__(self, ..) -/
def tIni (K : PySem.W.Frag) (newId iniId : String) (tl : List Value) (ta : TA) : TE := fun σ H Q => ta σ H fun vs H1 => ∃ (a C : Addr) (ws : List V), vs = .ref a :: ws ∧ ws.length ≤ 1000 ∧ OxT K C newId iniId tl ∧ H1 a = some (exo a C none) ∧ Q .non H1
/-- self.f = e -/
def tFs (K : PySem.W.Frag) (newId iniId : String) (tl : List Value) (f : Str) (to te : TE) : TS := fun D σ H => te σ H fun y H1 => to σ H1 fun x H2 => ∃ a C : Addr, x = .ref a ∧ OxT K C newId iniId tl ∧ PySem.W.findIn K (.ref C) f = some none ∧
  ((H2 a = some (exo a C none) ∧ ∀ dx, H2 dx = none → dx ≠ a → D.nx σ (upd (upd H2 dx (exd dx [(f, y)])) a (exo a C (some dx)))) ∨
    ∃ (dx : Addr) (fs : List (Str × V)), H2 a = some (exo a C (some dx)) ∧ H2 dx = some (exd dx fs) ∧ fs.length ≤ 900 ∧ D.nx σ (upd H2 dx (exd dx ((f, y) :: fs))))
section
variable {X : Cx} {o e : Expr} {es : List Expr} {to te : TE} {ta : TA} {f B : Str} {Bs : String} {p p' p1 p2 pos : Pos} {newId iniId : String} {tl : List Value}
theorem pe_ini {pl : Sem Bool} (hg : Gl X B) (hm : X.mg B = none) (hv : bootBuiltins B = some (.type Bs)) (hty : typeOf (.type Bs) = pure (.type "type")) (hst : Manifest.isStub Bs = false) (hdb : (B == ("__debug__" : Str)) = false) (hnn : B ≠ "__name__")
    (vV : PySem.W.findCls X.K (.type Bs) (.type "type") "__init__" = some (.val (.builtin iniId))) (ha : PA X (e :: es) ta)
    (hc : eval (.Call (.Attribute (.Name B p1) "__init__" p2) (e :: es) [] pos) X.env = (do
      let w1 ← eval (.Name B p1) X.env
      standAt p2.atName
      let (f, first) ← holding [w1] (getMethod w1 "__init__" pl)
      callWith pos f first (backTo pos (starEach (e :: es) X.env)) (backToKw pos (keywordEach [] X.env))) := by rfl)
    (he : starEach (e :: es) X.env = (false, eval e X.env) :: starEach es X.env := by rfl) (hpl : (backTo pos (starEach es X.env)).any (·.1) = false := by rfl) (hh : PySem.W.handedIn (.builtin iniId) = true := by rfl) :
    PE X (.Call (.Attribute (.Name B p1) "__init__" p2) (e :: es) [] pos) (tIni X.K newId iniId tl ta) := by
  refine ⟨fun pins s σ H Q I h => ?_⟩
  refine PySem.W.methodCall_KW (ld_blt I hg hm hv ?_ hnn hdb) hc
  obtain ⟨m, fr⟩ := I.fr
  refine PySem.W.method_type fr I.ok.mod.kin hty hst vV hh ?_
  show wpAny _ _ (callWith pos (Value.builtin iniId) [] (backTo pos (starEach (e :: es) X.env)) []) _ _ _
  refine PyProof.Rows.callWith_method1 (thn (ha.run pos pins _ σ H _ (I.tok _) h) fun us s1 ⟨vs, H1, I1, r1, a, C, ws, ev, hl, T, ea, q⟩ => ?_) he hpl
  subst ev
  cases r1 with
  | @cons _ u0 _ ur ra rr =>
    cases ra
    have hlen : ur.length ≤ sizeLine := by
      rw [← Paired.length rr, sizeLine_eq]
      omega
    exact ini_ok T I1 ea hlen fun s2 J => ⟨.non, H1, J, rfl, q⟩
theorem ps_fs (ho : PE X o to) (he : PE X e te) (hs : swapsWith e (some (.Attribute o f p')) pos.line X.env = pure false := by rfl) : PS X (.Assign [.Attribute o f p'] e pos) (tFs X.K newId iniId tl f to te) := by
  refine ⟨fun pins s σ H D I h => ?_⟩
  refine plainObj_wpAny_Assign_Attribute (thn (he.run pins s σ H _ I h) fun v s1 ⟨y, H1, I1, r1, q1⟩ => thn (ho.run pins s1 σ H1 _ I1 q1) fun u s2 ⟨x, H2, I2, r2, a, C, ex, T, hno, q⟩ => ?_) hs
  subst ex
  cases r2
  rcases q with ⟨ea, q⟩ | ⟨dx, fs, ea, ed, hl, q⟩
  · exact fld_new T I2 ea hno r1 fun dx s2 n ne J => ⟨σ, _, J, q dx n ne⟩
  · exact fld_old T I2 ea ed hl hno r1 fun s2 J => ⟨σ, _, J, q⟩
/-- C(e, ..), C's own __init__ keeping sp -/
def tMkB (C : Addr) (sp : Sp) (ta : TA) : L2.St → Hp → XK → Prop := fun σ H Q => ta σ H fun vs H1 => vs.length ≤ 1000 ∧ ∀ a, H1 a = none → sp (.ref a :: vs) (upd H1 a (exo a C none))
  (fun v H2 => v = .non ∧ ∃ (d : Addr) (fs : List (Str × V)), H2 a = some (exo a C (some d)) ∧ H2 d = some (exd d fs) ∧ H1 d = none ∧ Q (.ref C) (some d) (upd (L2.del H2 a) d (.xd fs))) (fun _ _ _ => False)
theorem pmk_b {CT : CXT} {x : Str} {C fI : Addr} {k : Nat} {fd : FuncData} {ps : List Str} {sp : Sp} (T : OxT X.K C newId iniId tl) (iC : PySem.W.findIn X.K (.ref C) "__init__" = some (some (.ref fI))) (tI : PySem.W.typeIn X.K (.ref fI) = some (.type "function"))
    (F1 : FnOk X.prog X.w X.K X.mg X.base CT k fI fd ps sp) (hr : Room (k + 1) X.A) (hb : Binds X.K fd ps []) (hx : Passes CT X (fun _ _ _ => False)) (hg : Gl X x) (hm : X.mg x = some (.ref C)) (ha : PA X (e :: es) ta)
    (hdb : (x == ("__debug__" : Str)) = false := by decide) (he : starEach (e :: es) X.env = (false, eval e X.env) :: starEach es X.env := by rfl) (hpl : (backTo pos (starEach es X.env)).any (·.1) = false := by rfl) :
    PMk X (.Call (.Name x p) (e :: es) [] pos) (tMkB C sp ta) := by
  intro pins s σ H Q I h
  obtain ⟨nm, q, N, bs, bm, sn, sub, ab, col, dd, k0, k1, k2, k3, k5, hC, hbm⟩ := T.cls
  refine wpAny_Call_Name_kw (ld_glob I hg hm ?_ hdb)
  refine PySem.W.callWith_K (h₀ := X.base) I.ok.mod.kin T.kC (thn (ha.run pos pins s σ H _ I h) fun us s1 ⟨vs, H1, I1, r1, hz, q1⟩ => ⟨I1.kIn, ?_⟩) he hpl
  show wpAny _ _ (call (.ref C) us) _ _ _
  obtain ⟨hp, g, dr, tk, os⟩ := s1
  have sz1 : hp.objs.size ≤ hp.objs.size + 1 := Nat.le_succ _
  have free1 : H1 (hp.objs.size + 1) = none := I1.hok.fresh sz1
  have hq := q1 (hp.objs.size + 1) free1
  have kp : ∀ b o, hp.get? b = some o → ((hp.push (PySem.W.kdv_tup us)).push (PySem.HandSPX.excO C hp.objs.size)).get? b = some o := fun b o z => Heap.get?_push_of_some _ (Heap.get?_push_of_some _ z)
  have at1 : ((hp.push (PySem.W.kdv_tup us)).push (PySem.HandSPX.excO C hp.objs.size)).get? (hp.objs.size + 1) = some (PySem.HandSPX.excO C hp.objs.size) := by heap_get
  have I2 : Inv X pins σ (upd H1 (hp.objs.size + 1) (exo (hp.objs.size + 1) C none)) ⟨(hp.push (PySem.W.kdv_tup us)).push (PySem.HandSPX.excO C hp.objs.size), g, dr, tk, os⟩ :=
    I1.laid (t' := tk) (a := hp.objs.size + 1) (o := exo (hp.objs.size + 1) C none) (h' := (hp.push (PySem.W.kdv_tup us)).push (PySem.HandSPX.excO C hp.objs.size)) kp sz1 (exo_ok at1)
  have r2 : Vals (V.ref (hp.objs.size + 1) :: vs) (Value.ref (hp.objs.size + 1) :: us) := .cons rfl r1
  have hl : ((Value.ref (hp.objs.size + 1) :: us) ++ []).length = ps.length := by
    have z := r2.length
    rw [F1.len _ _ _ _ hq] at z
    rw [List.append_nil]
    exact z.symm
  have hb2 := hb _ (Value.ref (hp.objs.size + 1) :: us) I2.kIn hl
  rw [List.append_nil] at hb2
  have hus : us.length ≤ sizeLine := by
    rw [← Paired.length r1, sizeLine_eq]
    omega
  refine wpAny_call (PySem.Xb.call_any T.bas hbm hus (I1.kIn _ _ hC) (PySem.W.looks_findIn I1.kIn iC) (fun me => PySem.W.bind_fn I1.kIn me tI)
    (codeAny_mono (F1.run _ X.stack _ _ ⟨Value.ref (hp.objs.size + 1) :: us, []⟩ (Value.ref (hp.objs.size + 1) :: us) _ _ (fun _ _ _ => False) (hr.make C us []) (I2.env0.make C us []) hb2 r2 hq) fun r s2 hq2 => ?_))
  cases r with
  | error er => exact hx pins σ _ _ er s2 I2 hq2
  | ok fl =>
    cases fl with
    | ret u =>
      obtain ⟨v, H2, os2, bare2, un2, hok2, rv, ev, d, fs, ea, ed, hd1, q2⟩ := hq2
      subst ev
      obtain ⟨h2, g2, d2, t2, os3⟩ := s2
      exact ⟨rv, mk_end (raises_own T.exC T.tyC) I1 sz1 kp un2 hok2 os2 bare2 ea ed hd1 q2⟩
    | next => exact hq2.elim
    | brk => exact hq2.elim
    | cont => exact hq2.elim
end
end Fv
set_option maxRecDepth 100000
set_option maxHeartbeats 4000000
/-! Exceptions as values: their fields, isinstance; try with several clauses. -/
namespace PySem.W
open PySem PySem.Spec PySem.Calls PyProof.Rows
section
variable {pg : Program} {wd : World} {A : Around} {E : Value → Shared → Prop} {s : Shared} {K : Frag} {x D : Addr} {ox : Obj} {od : Option Obj}
end
end PySem.W
namespace Fv
open PySem PySem.Spec PyProof.Rows L2
/-! ### an exception that is kept -/
theorem exK_ok {P : Program} {w : World} {H : Hp} {h : Heap} {a C dd : Addr} {vs : Array Value} {sl : Array (Option Value)} (e : h.get? a = some ({ cls := .ref C, dict := some dd, data := .fields vs, slots := sl } : Obj)) : ObjOk P w H h a (exK a C dd) :=
  ⟨⟨vs, sl, e⟩, ⟨_, e⟩, fun h1 h2 z k => by
    obtain ⟨v, s, q⟩ := z
    exact ⟨v, s, k _ q⟩⟩
/-- what a class of exceptions must say for its instances to be looked at -/
structure XlC (K : PySem.W.Frag) (C : Addr) : Prop where
  f : XfC K C
  i : ExcC K C
/-- e.f -/
def tXe (K : PySem.W.Frag) (f : Str) (te : TE) : TE := fun σ H Q => te σ H fun x H1 => ∃ (a C dd : Addr) (gs : List (Str × V)) (v : V), x = .ref a ∧ H1 a = some (exK a C dd) ∧ H1 dd = some (.xd gs) ∧ gs.lookup f = some v ∧ XlC K C ∧ PySem.W.findIn K (.ref C) f = some none ∧ Q v H1
/-- isinstance(e, c), isinstance(e, (c1, ..)) -/
def rXis (K : PySem.W.Frag) : List V → Hp → VK → Prop := fun xs H Q => ∃ (a C dd : Addr) (gs : List (Str × V)) (c : V) (b : Bool), xs = [.ref a, c] ∧ H a = some (exK a C dd) ∧ H dd = some (.xd gs) ∧ XlC K C ∧
  ((∃ cv : Value, (∀ u, RelV c u → u = cv) ∧ PySem.W.kitOne K (.ref C) cv = some b) ∨ ∃ (t : Addr) (cs : List V) (us : List Value), c = .ref t ∧ H t = some (.tup cs) ∧ Paired (fun c u => ∀ u', RelV c u' → u' = u) cs us ∧ PySem.W.kitAny K (.ref C) us = some b) ∧ Q (.bl b) H
end Fv
set_option maxRecDepth 100000
set_option maxHeartbeats 4000000
/-! try with several clauses, named or not; what they catch is kept. -/
namespace Fv
open PySem PySem.Spec PyProof.Rows L2 Gb
/-- the ends behind a suite whose exception had the name at slot i -/
def endAs (oi : Option Nat) (D : Ends) : Ends := match oi with
  | none => D
  | some i => { nx := fun σ H => D.nx (σ.set i none) H, rt := D.rt, bk := fun σ H => D.bk (σ.set i none) H, ct := fun σ H => D.ct (σ.set i none) H }
def setAs (oi : Option Nat) (v : V) (σ : L2.St) : L2.St := match oi with
  | none => σ
  | some i => σ.set i (some v)
def wTry (K : PySem.W.Frag) (Wo : WX) (D : Ends) : List (Value × Option Nat × TS) → WX
  | [] => Wo
  | (c, oi, ts) :: r => fun cls d σ H => ∃ b, PySem.W.exmOne K cls c = some b ∧ (b = true → ∃ C dd, cls = .ref C ∧ d = some dd ∧ ∀ a, H a = none → ts (endAs oi D) (setAs oi (.ref a) σ) (upd H a (exK a C dd))) ∧ (b = false → wTry K Wo D r cls d σ H)
inductive HdN (X : Cx) : List ExceptHandler → List (Value × Option Nat × TS) → Prop
  | nil : HdN X [] []
  | bare {x : Str} {c : Value} {ts : TS} {b₀ : Stmt} {suite : List Stmt} {np pos' : Pos} {hds : List ExceptHandler} {l : List (Value × Option Nat × TS)} (hc : Names X x c)
      (hsu : ∀ (a : Addr) (pn : List (Addr × Obj)), PSs (X.suite a pn) (b₀ :: suite) ts) (r : HdN X hds l) : HdN X (.ExceptHandler (some (.Name x np)) none (b₀ :: suite) pos' :: hds) ((c, none, ts) :: l)
  | named {x n : Str} {c : Value} {i : Nat} {ts : TS} {b₀ : Stmt} {suite : List Stmt} {np pos' : Pos} {hds : List ExceptHandler} {l : List (Value × Option Nat × TS)} (hc : Names X x c) (hi : X.N[i]? = some n) (hln : X.env.kindOf n = some .local)
      (hsu : ∀ (a : Addr) (pn : List (Addr × Obj)), PSs (X.suite a pn) (b₀ :: suite) ts) (r : HdN X hds l) : HdN X (.ExceptHandler (some (.Name x np)) (some n) (b₀ :: suite) pos' :: hds) ((c, some i, ts) :: l)
section
variable {X : Cx} {pins : List (Addr × Obj)} {σ : L2.St} {H : Hp} {s : Shared}
/-- into a suite, without a pin -/
theorem inv_suite (I : Inv X pins σ H s) (a : Addr) : Inv (X.suite a (X.pn ++ pins)) [] σ H s :=
  ⟨I.ok.suite _ _, I.os, I.bare, I.base, I.loc, I.cell, I.free, I.freeC, fun p hp => I.pin p (by rw [List.append_nil] at hp; exact hp), I.hok, I.len⟩
/-- what stands at a, untracked so far, is told from now on -/
theorem inv_track {a : Addr} {o : HO} {ob : Obj} {vs : Array Value} (I : Inv X pins σ H s) (na : H a = none) (n0 : X.s_0.heap.get? a = none) (hp : ∀ p ∈ X.pn ++ pins, p.1 ≠ a) (nL : a ≠ X.env.locals) (ha : s.heap.get? a = some ob) (hd : ob.data = .fields vs)
    (ok : ObjOk X.prog X.w (upd H a o) s.heap a o) : Inv X pins σ (upd H a o) s := by
  have ne : ∀ {b : Addr} {u : HO}, H b = some u → b ≠ a := fun {b u} h z => by
    rw [z, na] at h
    cases h
  refine ⟨I.ok, I.os, I.bare, ⟨I.base.keep, I.base.slot, fun b ob' e n hx => ?_, I.base.there, fun b xs h => ?_, fun b ob' u h => ?_, fun b ps h => ?_⟩, I.loc, I.cell, ?_, fun x c e => ?_, fun p hpm => ?_, fun b u h => ?_, I.len⟩
  · rw [upd_ne (fun z => by rw [z, n0] at e; cases e)]
    exact I.base.free b ob' e n hx
  · have := I.base.tups b xs h
    rw [upd_ne (ne this)]
    exact this
  · have := I.base.frzs b ob' u h
    rw [upd_ne (ne this)]
    exact this
  · obtain ⟨m, this⟩ := I.base.tbls b ps h
    exact ⟨m, by rw [upd_ne (ne this)]; exact this⟩
  · rw [upd_ne (Ne.symm nL)]
    exact I.free
  · rw [upd_ne (fun z => ?_)]
    · exact I.freeC x c e
    · obtain ⟨v, o2, ho2, hd2⟩ := I.cell x c e
      rw [z, ha] at ho2
      cases ho2
      rw [hd] at hd2
      cases hd2
  · obtain ⟨h1, h2, h3⟩ := I.pin p hpm
    exact ⟨h1, by rw [upd_ne (hp p hpm)]; exact h2, h3⟩
  · by_cases z : b = a
    · subst z
      rw [upd_same] at h
      cases h
      exact ok
    · rw [upd_ne z] at h
      exact (I.hok b u h).stay (fun c v _ q => q) (fun c q => by rw [upd_ne (ne q)]; exact q) fun c xs q => by rw [upd_ne (ne q)]; exact q
end
section
variable {X : Cx} {pins : List (Addr × Obj)} {D : Ends} {f : Flow} {s : Shared} {a : Addr} {pn' : List (Addr × Obj)}
/-- the air around a suite: what is caught, where it stands, the state without it -/
structure Air (X : Cx) (pins : List (Addr × Obj)) (a : Addr) (cls : Value) (d : Option Addr) (σ : L2.St) (H : Hp) (s' : Shared) (h3 : Heap) where
  B : Heap
  sI : Shared
  J : Inv X pins σ H sI
  nb : ∀ b o, sI.heap.get? b = some o → b ∉ frs X.stack → B.get? b = some o
  up : sI.heap.UpToSlots h3
  os : s'.os = sI.os
  ag : AllBare s'.gens
  fl : HandSPX.FlyingZ B (X.env :: X.outer) a (Zc cls d) h3
  na : H a = none
  nL : a ≠ X.env.locals
  n0 : X.s_0.heap.get? a = none
  np : ∀ p ∈ X.pn ++ pins, p.1 ≠ a
theorem Air.on {cls : Value} {d : Option Addr} {σ : L2.St} {H : Hp} {h3 h4 : Heap} (x : Air X pins a cls d σ H s h3) (fl : HandSPX.FlyingZ x.B (X.env :: X.outer) a (Zc cls d) h4) (up : h3.UpToSlots h4) : Inv X pins σ H { s with heap := h4 } :=
  x.J.landed x.nb fl.1 (x.up.trans up) x.os x.ag
/-- the exception is told at a suite's entry -/
theorem Air.told {C dd : Addr} {σ : L2.St} {H : Hp} {h3 h4 : Heap} (x : Air X pins a (.ref C) (some dd) σ H s h3) (fl : HandSPX.FlyingZ x.B (X.env :: X.outer) a (Zc (.ref C) (some dd)) h4) (up : h3.UpToSlots h4) :
    Inv (X.suite a (X.pn ++ pins)) [] σ (upd H a (exK a C dd)) { s with heap := h4 } := by
  obtain ⟨⟨cl4, di4, da4, sl4⟩, vs4, he4, ⟨z1, z2⟩, hd4⟩ := fl.there
  simp only at z1 z2 hd4
  subst z1 z2 hd4
  exact inv_suite (inv_track (x.on fl up) x.na x.n0 x.np x.nL he4 rfl (exK_ok he4)) a
end
section
variable {X : Cx} {body : List Stmt} {h₀ : ExceptHandler} {hds : List ExceptHandler} {l : List (Value × Option Nat × TS)} {pos : Pos} {tb : WX → TS} {Wo : WX}
end
end Fv
set_option maxRecDepth 100000
set_option maxHeartbeats 4000000
/-! Exceptions by value: raise, try, fields, isinstance. -/
namespace Fv
open PySem PySem.Spec PyProof.Rows L2 Gb
def Cg.wx (G : Cg) (W : WX) : Cg := ⟨G.K, G.C, G.pn, W, G.ex, G.B0, G.H0⟩
theorem R.wx {G : Cg} {W : WX} {B : Hp} {v : V} {d : D} (h : R G B v d) : R (G.wx W) B v d := by
  cases d <;> exact h
theorem St.wx {G : Cg} {W : WX} {n : Nat} {B H : Hp} {ρ : List Sl} {σ : L2.St} (S : St G n B H ρ σ) : St (G.wx W) n B H ρ σ :=
  ⟨S.mv, S.pk, S.len, fun i d h => let ⟨v, h1, h2⟩ := S.val i d h; ⟨v, h1, h2.wx⟩, S.own, S.dow, S.dis, ⟨fun i t l rows h => ⟨(S.mat.at_ i t l rows h).1, let A := (S.mat.at_ i t l rows h).2; ⟨A.at_, A.fr, A.nd, A.len, A.row⟩⟩, S.mat.sep, S.mat.own⟩⟩
section
variable {m : Bool} {X : Cx} {G : Cg} {a b c d e f o : Expr} {es rest : List Expr} {ta tb tc td te tk : TE} {wa wb wc wd we wy : WE} {pos p p2 p3 apos cpos : Pos} {x : Str} {n : Nat} {t u tt tt1 : TT} {w v wt wt1 : WT} {st : Stmt} {sts : List Stmt} {ts : TS} {ws : WS}
/-- every class that G knows -/
def XlAll (G : Cg) (K : PySem.W.Frag) : Prop := ∀ nm cv, G.ex nm = some cv → ∃ C, cv = .ref C ∧ XlC K C
/-- e.f of an exception -/
def wXe (f : Str) (wa : WE) : WE := fun ρ n E Q => wa ρ n E fun d n' => match d with
  | .exc x => (match x.fs.lookup f with
    | some z => Q (.py z) n'
    | none => False)
  | _ => False
/-- isinstance(e, c), isinstance(e, (c1, ..)) of an exception; is: the answer, by its class -/
def wXi (is : Str → Bool) (wa : WE) : WE := fun ρ n E Q => wa ρ n E fun d n' => match d with
  | .exc x => Q (.py (.bool (is x.cls))) n'
  | _ => False
/-- the classes of a written tuple -/
structure PCs (X : Cx) (cs : List Expr) (t : TA) (vs : List V) (us : List Value) : Prop where
  pe : PA X cs t
  t : ∀ σ H Q, Q vs H → t σ H Q
  r : Paired (fun c u => ∀ u', RelV c u' → u' = u) vs us
/-! ### raise -/
abbrev FsRel (K : PySem.W.Frag) (B : Hp) (gs : List (Str × V)) (fs : List (Str × PyData)) : Prop := ∀ f, match gs.lookup f, fs.lookup f with
  | some v, some d => Dd K B v d
  | none, none => True
  | _, _ => False
abbrev FI := List PyData → (List (Str × PyData) → Prop) → Prop
/-- what an exception class's __init__ keeps; no pen is used -/
def SpI (F : Fx) (C : Addr) (fi : FI) : Sp := fun vs H Q _ => ∃ (a : Addr) (us : List V) (B : Hp) (ds : List PyData) (QD : List (Str × PyData) → Prop), vs = .ref a :: us ∧ H a = some (exo a C none) ∧ Same B (Gb.del H a) ∧ DdA F.K B us ds ∧ fi ds QD ∧
  ∀ B' H' d gs fs, Mv none B (Gb.del H a) B' (Gb.del (Gb.del H' a) d) → H' a = some (exo a C (some d)) → H' d = some (exd d gs) → H d = none → d ≠ a → FsRel F.K B' gs fs → QD fs → Q .non H'
/-- an exception class that may be called by its name -/
structure ClE (F : Fx) (k : Nat) (x : Str) (C : Addr) (fi : FI) : Prop where
  ex : ∃ (fI : Addr) (fd : FuncData) (ps : List Str) (newId iniId : String) (tl : List Value), OxT F.K C newId iniId tl ∧ F.mg x = some (.ref C) ∧ F.ex x = some (.ref C) ∧ PySem.W.findIn F.K (.ref C) "__init__" = some (some (.ref fI)) ∧ PySem.W.typeIn F.K (.ref fI) = some (.type "function") ∧
    FnOk F.P F.w F.K F.mg F.base (L2.CX F.P F.w) k fI fd ps (SpI F C fi) ∧ Binds F.K fd ps []
def sRaise (nm : Str) (fi : FI) (wa : WA) : WS := fun ρ n E _ => wa ρ n (E ρ) fun ds n1 => match pyAll ds with
  | some ps => ps.length ≤ 1000 ∧ fi ps fun fs => E ρ ⟨nm, fs⟩ n1
  | none => False
theorem gdel_upd {H : Hp} {a : Addr} {o : HO} (h : H a = none) : Gb.del (upd H a o) a = H := by
  rw [Gb.del_upd, Gb.del_none h]
def tRz (F : Fx) (W : WX) (C : Addr) (fi : FI) (t : TA) : TS := fun _ σ H => tMkB C (SpI F C fi) t σ H fun cls d H' => W cls d σ H'
theorem bs_raise {F : Fx} {k j : Nat} {C : Addr} {fi : FI} {t : TA} {wa : WA} (c : ClE F k x C fi) (hr : Room j X.A) (hk : k + 1 ≤ j) (hcalm : X.calm = true) (hg : Gl X x) (tk : Takes X G.xe) (ha : BA X G (e :: es) t wa) (hF : Fof X G = F := by rfl)
    (hdb : (x == ("__debug__" : Str)) = false := by decide) (he : starEach (e :: es) X.env = (false, eval e X.env) :: starEach es X.env := by rfl) (hpl : (backTo p2 (starEach es X.env)).any (·.1) = false := by rfl) (hK : X.K = G.K := by rfl) :
    BS m X G (.Raise (some (.Call (.Name x p) (e :: es) [] p2)) none pos) (tRz F G.xe C fi t) (sRaise x fi wa) := by
  subst hF
  obtain ⟨fI, fd, ps, newId, iniId, tl, T, hm, hx, iC, tI, Fn, b⟩ := c.ex
  refine ⟨ps_raise hcalm tk (pmk_b T iC tI Fn (hr.mono hk) b passL hg hm ha.pe hdb he hpl), fun ρ σ n B H E D DB S hw xs eo => ?_⟩
  refine ha.snd ρ σ n B H _ _ _ S hw (xs.at S) fun vs ds n1 B1 H1 m1 pk1 r1 q1 => ?_
  match hp : pyAll ds, q1 with
  | some ys, q1 =>
    simp only at q1
    have hA := ra_py r1 hp
    refine ⟨by rw [hA.len]; exact q1.1, fun a' hna => ?_⟩
    have hA' : DdA (Fof X G).K B1 vs ys := by
      show DdA X.K B1 vs ys
      rw [hK]
      exact hA
    refine ⟨a', vs, B1, ys, _, rfl, upd_same, by rw [gdel_upd hna]; exact m1.s, hA', q1.2, fun B' H' d gs fs mv ea ed hd ne hf q => ⟨rfl, d, gs, ea, ed, ?_, ?_⟩⟩
    · rw [upd_ne ne] at hd
      exact hd
    · rw [gdel_upd hna] at mv
      rw [upd_ne ne] at hd
      have hdn : Gb.del (Gb.del H' a') d d = none := Gb.del_same
      have mn : Mv none B' (Gb.del (Gb.del H' a') d) (upd B' d (.xd gs)) (upd (Gb.del (Gb.del H' a') d) d (.xd gs)) := Mv.new mv.s hdn
      have eH : upd (Gb.del (Gb.del H' a') d) d (.xd gs) = upd (L2.del H' a') d (.xd gs) := by
        funext y
        by_cases hy : y = d
        · rw [hy, upd_same, upd_same]
        · rw [upd_ne hy, upd_ne hy, Gb.del_ne hy]
          rfl
      rw [eH] at mn
      have mall := mv.trans mn
      refine (xs.at S).step m1 ⟨x, fs⟩ n1 (.ref C) (some d) _ _ (mall.of) (pk1.mv mall) ⟨hx, gs, upd_same, fun f => ?_⟩ q
      have hff := hf f
      split at hff
      · rename_i e1 e2
        rw [e1, e2]
        rw [← hK]
        exact Dd.mono mn.b hff
      · rename_i e1 e2
        rw [e1, e2]
        trivial
      · exact hff.elim
end
end Fv
set_option maxRecDepth 100000
set_option maxHeartbeats 4000000
/-! An exception's __init__; try by value. -/
namespace Fv
open PySem PySem.Spec PyProof.Rows L2 Gb
section
variable {m : Bool} {X : Cx} {G : Cg} {a b c d e f o : Expr} {es rest : List Expr} {ta tb tc td te tk : TE} {wa wb wc wd we wy : WE} {pos p p2 p3 apos cpos : Pos} {x : Str} {n : Nat} {t u tt tt1 : TT} {w v wt wt1 : WT} {st : Stmt} {sts : List Stmt}
/-! ### __init__ -/
/-- where the exception that is being made stands: no field as yet, or these -/
def Stage (G : Cg) (B H : Hp) (a C : Addr) : Option (List (Str × PyData)) → Prop
  | none => H a = some (exo a C none)
  | some fs => ∃ d gs, H a = some (exo a C (some d)) ∧ H d = some (exd d gs) ∧ d ≠ a ∧ Free G B d ∧ gs.length = fs.length ∧ FsRel G.K B gs fs
theorem FsRel.mono {K : PySem.W.Frag} {B B' : Hp} {gs : List (Str × V)} {fs : List (Str × PyData)} (h : FsRel K B gs fs) (s : Same B B') : FsRel K B' gs fs := fun f => by
  have q := h f
  split at q
  · exact Dd.mono s q
  · trivial
  · exact q.elim
theorem FsRel.put {K : PySem.W.Frag} {B : Hp} {gs : List (Str × V)} {fs : List (Str × PyData)} {f : Str} {v : V} {d : PyData} (h : FsRel K B gs fs) (r : Dd K B v d) : FsRel K B ((f, v) :: gs) ((f, d) :: fs) := fun g => by
  have e1 : ((f, v) :: gs).lookup g = if g = f then some v else gs.lookup g := lookup_put f g v gs
  have e2 : ((f, d) :: fs).lookup g = if g = f then some d else fs.lookup g := by
    by_cases z : g = f
    · subst z
      simp [List.lookup]
    · have zb : (g == f) = false := beq_eq_false_iff_ne.mpr z
      rw [if_neg z]
      simp [List.lookup, zb]
  rw [e1, e2]
  by_cases z : g = f
  · rw [if_pos z, if_pos z]
    exact r
  · rw [if_neg z, if_neg z]
    exact h g
def wIni : List (Str × WE) → List Sl → Option (List (Str × PyData)) → (List (Str × PyData) → Prop) → Prop
  | [], _, fs, Q => (match fs with
    | some fs => Q fs
    | none => False)
  | (f, w) :: r, ρ, fs, Q => w ρ 0 (fun _ _ => False) fun d n' => n' = 0 ∧ (match d with
    | .py d => (fs.getD []).length ≤ 900 ∧ wIni r ρ (some ((f, d) :: fs.getD [])) Q
    | _ => False)
inductive BIni (X : Cx) (G : Cg) (newId iniId : String) (tl : List Value) : List Stmt → TS → List (Str × WE) → Prop
  | nil : BIni X G newId iniId tl [] tNext []
  | cons {f : Str} {e : Expr} {te : TE} {we : WE} {st : Stmt} {sts : List Stmt} {ts : TS} {ws : List (Str × WE)} : BE X G e te we → PS X st (tFs X.K newId iniId tl f (tVar 0) te) → BIni X G newId iniId tl sts ts ws → BIni X G newId iniId tl (st :: sts) (tSeq (tFs X.K newId iniId tl f (tVar 0) te) ts) ((f, we) :: ws)
theorem BIni.pss {newId iniId : String} {tl : List Value} {sts : List Stmt} {ts : TS} {ws : List (Str × WE)} (h : BIni X G newId iniId tl sts ts ws) : PSs X sts ts := by
  induction h with
  | nil => exact pss_nil
  | cons _ hp _ ih => exact pss_cons hp ih
theorem St.hide0 {n : Nat} {B H : Hp} {ρ : List Sl} {σ : L2.St} {D : Addr} {o : HO} (S : St G n B H ρ σ) (hpn : G.pn = none) (F : Free G B D) (hn : NoD ρ σ D) (nt : notTb o := by trivial) : St G n B (upd H D o) ρ σ := by
  refine ⟨S.mv.own F.2.1 F.1 (fun p c T e => (F.2.2 p c T e).1) nt, by rw [hpn]; trivial, S.len, S.val, fun j ds h => ?_, fun j ks h => ?_, S.dis, S.mat.other hn.2⟩
  · obtain ⟨l', vs, a1, a2, a3, a4, a5⟩ := S.own j ds h
    exact ⟨l', vs, a1, by rw [upd_ne (fun z => hn.1 j ⟨_, h, rfl⟩ (by rw [a1, z]))]; exact a2, a3, a4, a5⟩
  · obtain ⟨l', vs, a1, a2, a4, a5⟩ := S.dow j ks h
    exact ⟨l', vs, a1, by rw [upd_ne (fun z => hn.1 j ⟨_, h, rfl⟩ (by rw [a1, z]))]; exact a2, a4, a5⟩
theorem exo_nt {a C : Addr} {d : Option Addr} : notTb (exo a C d) := True.intro
theorem exd_nt {d : Addr} {fs : List (Str × V)} : notTb (exd d fs) := True.intro
theorem Stage.step {B H B' H' : Hp} {a' C : Addr} {fs : Option (List (Str × PyData))} (hpn : G.pn = none) (h : Stage G B H a' C fs) (m : Mv G.pn B H B' H') : Stage G B' H' a' C fs := by
  rw [hpn] at m
  cases fs with
  | none => exact m.kp _ _ h
  | some fs =>
    obtain ⟨d, gs, h1, h2, h3, h4, h5, h6⟩ := h
    exact ⟨d, gs, m.kp _ _ h1, m.kp _ _ h2, h3, h4.mv (m.of) h2 exd_nt, h5, h6.mono m.b⟩
theorem BIni.snd {newId iniId : String} {tl : List Value} {sts : List Stmt} {ts : TS} {ws : List (Str × WE)} (h : BIni X G newId iniId tl sts ts ws) (hK : X.K = G.K) (hpn : G.pn = none) {C : Addr} (T : OxT X.K C newId iniId tl) (hno : ∀ p ∈ ws, PySem.W.findIn X.K (.ref C) p.1 = some none) :
    ∀ ρ σ B H a' fs (QD : List (Str × PyData) → Prop) (D : Ends), St G 0 B H ρ σ → ρ[0]? = some (.val (.raw (.ref a'))) → ((∀ j, ¬ ownAt ρ j) ∧ ∀ a, ¬ ghost ρ a) → Free G B a' → Stage G B H a' C fs → wIni ws ρ fs QD →
      (∀ B' H' fs', St G 0 B' H' ρ σ → Stage G B' H' a' C (some fs') → Free G B' a' → QD fs' → D.nx σ H') → ts D σ H := by
  induction h with
  | nil =>
    intro ρ σ B H a' fs QD D S h0 hnn F hs hw k
    cases fs with
    | none => exact hw.elim
    | some fs => exact k B H fs S hs F hw
  | @cons f e te we st sts ts ws he hp _ ih =>
    intro ρ σ B H a' fs QD D S h0 hnn F hs hw k
    refine he.snd ρ σ 0 B H _ _ _ S hw XW.none fun v d n1 B1 H1 m1 pk1 r1 q1 => ?_
    obtain ⟨rfl, q1⟩ := q1
    match d, r1, q1 with
    | .py d, r1, q1 =>
      obtain ⟨hlen, q1⟩ := q1
      have S1 := S.step m1 pk1
      have hs1 := hs.step hpn m1
      obtain ⟨v0, e1, e2⟩ := S1.val 0 _ h0
      have e2' : v0 = V.ref a' := e2
      subst e2'
      have m1' : Mv none B H B1 H1 := by
        rw [hpn] at m1
        exact m1
      have noD : ∀ D', NoD ρ σ D' := fun D' => ⟨fun j hj => absurd hj (hnn.1 j), hnn.2 D'⟩
      have ih2 := ih (fun p hp => hno p (List.mem_cons_of_mem _ hp))
      refine ⟨_, e1, a', C, rfl, T, hno (f, we) List.mem_cons_self, ?_⟩
      cases fs with
      | none =>
        have ha1 : H1 a' = some (exo a' C none) := hs1
        have F1 : Free G B1 a' := F.mv m1 (show H a' = some (exo a' C none) from hs) exo_nt
        refine .inl ⟨ha1, fun dx hdx ne => ?_⟩
        have Fd := free_new S1 hdx
        have Sa := S1.hide0 hpn Fd (noD dx) (o := exd dx [(f, v)]) exd_nt
        have Fa2 := F1
        have Sb := Sa.hide0 hpn Fa2 (noD a') (o := exo a' C (some dx)) exo_nt
        refine ih2 ρ σ B1 _ a' (some ((f, d) :: [])) QD D Sb h0 hnn F1 ⟨dx, [(f, v)], upd_same, by rw [upd_ne ne, upd_same], ne, Fd, rfl, ?_⟩ q1 k
        exact FsRel.put (gs := []) (fs := []) (fun g => trivial) r1
      | some fs =>
        obtain ⟨dx, gs, g1, g2, g3, g4, g5, g6⟩ := hs1
        obtain ⟨_, _, hsa, _⟩ := hs
        have F1 : Free G B1 a' := F.mv m1 hsa exo_nt
        refine .inr ⟨dx, gs, g1, g2, by rw [g5]; exact hlen, ?_⟩
        have Sb := S1.hide0 hpn g4 (noD dx) (o := exd dx ((f, v) :: gs)) exd_nt
        exact ih2 ρ σ B1 _ a' (some ((f, d) :: fs)) QD D Sb h0 hnn F1 ⟨dx, (f, v) :: gs, by rw [upd_ne (Ne.symm g3)]; exact g1, upd_same, g3, g4, by rw [List.length_cons, List.length_cons, g5], g6.put r1⟩ q1 k
end
theorem ra_pys {G : Cg} {B : Hp} : ∀ {vs : List V} {ds : List PyData}, DdA G.K B vs ds → RA G B vs (ds.map D.py)
  | _, _, .nil => trivial
  | _, _, .cons a b => ⟨a, ra_pys b⟩
theorem noOwn_start {N : List Str} {ds : List D} (j : Nat) : ¬ ownAt (startB N ds) j := fun ⟨x, hx, ox⟩ => by
  unfold startB at hx
  by_cases hi : j < ds.length
  · rw [List.getElem?_append_left (by simpa using hi), List.getElem?_map] at hx
    cases e : ds[j]? with
    | none =>
      rw [e] at hx
      cases hx
    | some d =>
      rw [e] at hx
      have z : Sl.val d = x := Option.some.inj hx
      rw [← z] at ox
      cases ox
  · rw [List.getElem?_append_right (by simpa using hi), List.getElem?_replicate] at hx
    split at hx
    · have z : Sl.no = x := Option.some.inj hx
      rw [← z] at ox
      cases ox
    · cases hx
theorem noGhost_start {N : List Str} {ds : List D} {a : Addr} : ¬ ghost (startB N ds) a := fun ⟨i, t, l, rows, hx, _⟩ => by
  unfold startB at hx
  by_cases hi : i < ds.length
  · rw [List.getElem?_append_left (by simpa using hi), List.getElem?_map] at hx
    cases e : ds[i]? with
    | none =>
      rw [e] at hx
      cases hx
    | some d =>
      rw [e] at hx
      cases hx
  · rw [List.getElem?_append_right (by simpa using hi), List.getElem?_replicate] at hx
    split at hx <;> cases hx
/-- B.__init__(self, ..) as a statement -/
def tIniS (K : PySem.W.Frag) (newId iniId : String) (tl : List Value) (c : V) : TS := tDrop (tIni K newId iniId tl (tCons (tVar 0) (tCons (tC c) tNil)))
/-- an exception class by its __init__ -/
theorem cl_e {F : Fx} {x qual : Str} {st : Stmt} {C fI : Addr} {fd : FuncData} {N ps : List Str} {k : Nat} {fi : FI} {newId iniId : String} {tl : List Value} (T : OxT F.K C newId iniId tl) (hm : F.mg x = some (.ref C)) (hx : F.ex x = some (.ref C)) (iC : PySem.W.findIn F.K (.ref C) "__init__" = some (some (.ref fI))) (tI : PySem.W.typeIn F.K (.ref fI) = some (.type "function"))
    (Fn : Fun F.K "__init__" qual st fI fd) (b : Binds F.K fd ps []) (S : FnScope N ps (defScope st)) (len : ∀ ds QD, fi ds QD → ds.length + 1 = ps.length) (hN : 0 < N.length) (fns : List Str) (hno : ∀ f ∈ fns, PySem.W.findIn F.K (.ref C) f = some none)
    (hbody : ∀ (cdv : Value) (A : Around) (outer : List Env) (s : Shared) (H : Hp) (E : XK) (B : Hp) (H0 : Hp), Room k (cxB F N qual (defScope st) fI cdv A outer s H E).A →
      ∃ st1 sts c ts ws, defBody st = st1 :: sts ∧ PS (cxB F N qual (defScope st) fI cdv A outer s H E) st1 (tIniS F.K newId iniId tl c) ∧ BIni (cxB F N qual (defScope st) fI cdv A outer s H E) (F.g none (fun _ _ _ _ => False) B H0) newId iniId tl sts ts ws ∧ ws.map (·.1) = fns ∧
        ∀ a ds QD, fi ds QD → wIni ws (startB N (.raw (.ref a) :: ds.map D.py)) none QD) : ClE F (k + 1) x C fi := by
  refine ⟨fI, fd, ps, newId, iniId, tl, T, hm, hx, iC, tI, Fn.okX S (fun vs H Q E h => ?_) (fun cdv A outer s H vs Q E hr h => ?_), b⟩
  · obtain ⟨a, us, B, ds, QD, rfl, _, _, hA, hf, _⟩ := h
    rw [List.length_cons, hA.len]
    exact len _ _ hf
  · obtain ⟨a, us, B, ds, QD, rfl, ha, sb, hA, hf, hq⟩ := h
    obtain ⟨st1, sts, c, ts, ws, hb, hp1, hbi, hfn, hw⟩ := hbody cdv A outer s H E B (Gb.del H a) hr
    rw [hb]
    refine ⟨_, pss_cons hp1 hbi.pss, ?_⟩
    -- the state at the entry
    have S0 : St (F.g none (fun _ _ _ _ => False) B (Gb.del H a)) 0 B (Gb.del H a) (startB N (.raw (.ref a) :: ds.map D.py)) (L2.start N (.ref a :: us)) :=
      st_start rfl rfl sb trivial ⟨rfl, ra_pys (G := F.g none (fun _ _ _ _ => False) B (Gb.del H a)) hA⟩
    have Fa : Free (F.g none (fun _ _ _ _ => False) B (Gb.del H a)) B a := ⟨sb.free Gb.del_same, Gb.del_same, fun _ _ _ e => by cases e⟩
    have S1 := S0.hide0 rfl Fa ⟨fun j hj => absurd hj (noOwn_start j), noGhost_start⟩ (o := exo a C none) exo_nt
    have eH : upd (Gb.del H a) a (exo a C none) = H := by
      funext y
      by_cases hy : y = a
      · rw [hy, upd_same, ha]
      · rw [upd_ne hy, Gb.del_ne hy]
    rw [eH] at S1
    have h0 : (startB N (.raw (.ref a) :: ds.map D.py))[0]? = some (.val (.raw (.ref a))) := by
      unfold startB
      rfl
    obtain ⟨v0, e1, e2⟩ := S1.val 0 _ h0
    have e2' : v0 = V.ref a := e2
    subst e2'
    refine ⟨_, e1, a, C, [c], rfl, by show 1 ≤ 1000; decide, T, ha, ?_⟩
    refine hbi.snd rfl rfl T (fun p hp => hno p.1 (by rw [← hfn]; exact List.mem_map.mpr ⟨p, hp, rfl⟩)) _ _ B H a none QD _ S1 h0 ⟨fun j => noOwn_start j, fun _ => noGhost_start⟩ Fa ha (hw a ds QD hf) fun B' H' fs' S' hs' Fa' q => ?_
    obtain ⟨d, gs, g1, g2, g3, g4, g5, g6⟩ := hs'
    have mv := S'.mv
    have hd0 : Gb.del H a d = none := g4.2.1
    refine hq B' H' d gs fs' ⟨fun y o hy => ?_, mv.b, fun y o hy => ?_, mv.f, mv.t, fun y ps hy => ?_⟩ g1 g2 ?_ g3 g6 q
    · have ne1 : y ≠ a := fun z => by rw [z, Gb.del_same] at hy; cases hy
      have ne2 : y ≠ d := fun z => by rw [z, hd0] at hy; cases hy
      rw [Gb.del_ne ne2, Gb.del_ne ne1]
      exact mv.kp _ _ hy
    · have ne1 : y ≠ a := fun z => by rw [z, Fa'.1] at hy; cases hy
      have ne2 : y ≠ d := fun z => by rw [z, g4.1] at hy; cases hy
      rw [Gb.del_ne ne2, Gb.del_ne ne1]
      exact mv.s _ _ hy
    · exact mv.u y ps (Gb.del_le _ _ (Gb.del_le _ _ hy))
    · rw [Gb.del_ne g3] at hd0
      exact hd0
end Fv
set_option maxRecDepth 100000
set_option maxHeartbeats 4000000
/-! try by value. -/
namespace Fv
open PySem PySem.Spec PyProof.Rows L2 Gb
def asB (oi : Option Nat) (d : D) (ρ : List Sl) : List Sl := match oi with
  | none => ρ
  | some i => ρ.set i (.val d)
def unB (oi : Option Nat) (ρ : List Sl) : List Sl := match oi with
  | none => ρ
  | some i => ρ.set i .no
/-- what the clauses do with the exception x: is: whether a clause names its class -/
def hGo : List ((Str → Bool) × Option Nat × WS) → List Sl → Exn → Nat → XB → EB → Prop
  | [], ρ, x, n, E, _ => E ρ x n
  | (is, oi, ws) :: r, ρ, x, n, E, DB => if is x.cls = true then x.fs ≠ [] ∧ ws (asB oi (.exc x) ρ) n (fun _ _ _ => False) { nx := fun ρ' n' => DB.nx (unB oi ρ') n', rt := DB.rt, bk := fun ρ' n' => DB.bk (unB oi ρ') n', ct := fun ρ' n' => DB.ct (unB oi ρ') n' } else hGo r ρ x n E DB
def sTry (wb : WS) (lb : List ((Str → Bool) × Option Nat × WS)) : WS := fun ρ n E DB => wb ρ n (fun ρ' x n' => hGo lb ρ' x n' E DB) DB
inductive BHd (m : Bool) (X : Cx) (G : Cg) : List ExceptHandler → List (Value × Option Nat × TS) → List ((Str → Bool) × Option Nat × WS) → Prop
  | nil : BHd m X G [] [] []
  | bare {x : Str} {c : Value} {is : Str → Bool} {ts : TS} {ws : WS} {b₀ : Stmt} {suite : List Stmt} {np pos' : Pos} {hds : List ExceptHandler} {l : List (Value × Option Nat × TS)} {lb : List ((Str → Bool) × Option Nat × WS)} (hc : Names X x c)
      (his : ∀ nm C, G.ex nm = some (.ref C) → PySem.W.exmOne X.K (.ref C) c = some (is nm)) (hsu : ∀ (a : Addr) (pn : List (Addr × Obj)), BSs m (X.suite a pn) (G.wx fun _ _ _ _ => False) (b₀ :: suite) ts ws) (r : BHd m X G hds l lb) :
      BHd m X G (.ExceptHandler (some (.Name x np)) none (b₀ :: suite) pos' :: hds) ((c, none, ts) :: l) ((is, none, ws) :: lb)
  | named {x n : Str} {c : Value} {i : Nat} {is : Str → Bool} {ts : TS} {ws : WS} {b₀ : Stmt} {suite : List Stmt} {np pos' : Pos} {hds : List ExceptHandler} {l : List (Value × Option Nat × TS)} {lb : List ((Str → Bool) × Option Nat × WS)} (hc : Names X x c) (hi : X.N[i]? = some n) (hln : X.env.kindOf n = some .local)
      (his : ∀ nm C, G.ex nm = some (.ref C) → PySem.W.exmOne X.K (.ref C) c = some (is nm)) (hsu : ∀ (a : Addr) (pn : List (Addr × Obj)), BSs m (X.suite a pn) (G.wx fun _ _ _ _ => False) (b₀ :: suite) ts ws) (r : BHd m X G hds l lb) :
      BHd m X G (.ExceptHandler (some (.Name x np)) (some n) (b₀ :: suite) pos' :: hds) ((c, some i, ts) :: l) ((is, some i, ws) :: lb)
section
variable {m : Bool} {X : Cx} {G : Cg} {hds : List ExceptHandler} {l : List (Value × Option Nat × TS)} {lb : List ((Str → Bool) × Option Nat × WS)} {body : List Stmt} {h₀ : ExceptHandler} {pos : Pos} {tb : WX → TS} {wb : WS}
theorem BHd.hdn (h : BHd m X G hds l lb) : HdN X hds l := by
  induction h with
  | nil => exact .nil
  | bare hc his hsu r ih => exact .bare hc (fun a pn => (hsu a pn).ps) ih
  | named hc hi hln his hsu r ih => exact .named hc hi hln (fun a pn => (hsu a pn).ps) ih
end
end Fv
set_option maxRecDepth 100000
set_option maxHeartbeats 4000000
/-! A lambda without parameters, handed to a def that calls it. -/
namespace Fv
open PySem PySem.Spec PyProof.Rows L2 Gb
open LamX (Tabs TabS CodeO TabB LamS lamCx lamEnv)
/-- the heap behind the making of a lambda -/
def LamH (H : Hp) (P : Addr) (q : Str) (H1 : Hp) (c2 : Addr) : Prop :=
  (H1 = H ∧ H c2 = some (CodeO c2 q)) ∨ ∃ ps more : Array Value, H P = some (.tbl ps) ∧ H c2 = none ∧ H1 = upd (upd H P (.tbl (ps ++ more))) c2 (CodeO c2 q)
section
variable {X : Cx} {pins : List (Addr × Obj)} {σ : L2.St} {H : Hp} {s : Shared}
end
/-! ### by value -/
/-- a reading that is by value itself -/
def tSem (G : Cg) (w : WE) : TE := fun σ H Q => ∃ ρ n B E Qd, St G n B H ρ σ ∧ w ρ n E Qd ∧ XW G σ B H E ∧ ∀ v d n' B' H', Mv G.pn B H B' H' → Pk G.pn n' B' H' → R G B' v d → Qd d n' → Q v H'
/-- what a thunk wishes -/
abbrev TH := Nat → XQ → QE → Prop
def wAct (v : V) (th : TH) : WE := fun ρ n E Q => ρ[0]? = some (.val (.raw v)) ∧ th n E Q
/-- a def with one parameter, that calls what it is handed -/
structure ClL (F : Fx) (k : Nat) (x : Str) (a : Str) (f : TH → TH) : Prop where
  ex : ∃ (g : Addr) (Ng : List Str) (st : Stmt) (fd : FuncData), F.mg x = some (.ref g) ∧ PySem.W.keepIn F.K (.ref g) = true ∧ Fun F.K x x st g fd ∧ Binds F.K fd [a] [] ∧ FnScope Ng [a] (defScope st) ∧ Ng[0]? = some a ∧ Vis (defScope st) a ∧ (a == ("__debug__" : Str)) = false ∧ (a == ("__classdict__" : Str)) = false ∧
    ∀ (cdv : Value) (A : Around) (outer : List Env) (s : Shared) (H : Hp) (E : XK) (pn : Pn) (B : Hp) (v : V) (th : TH) (tA : WX → TE), Room k (cxB F Ng x (defScope st) g cdv A outer s H E).A → Takes (cxB F Ng x (defScope st) g cdv A outer s H E) (XKx E) →
      (∀ (W : WX) (pnz : List (Addr × Obj)) (xe : Value → Shared → Prop), Takes ((cxB F Ng x (defScope st) g cdv A outer s H E).tr pnz xe) W → ∀ p1 p2, BE ((cxB F Ng x (defScope st) g cdv A outer s H E).tr pnz xe) ((F.g pn (XKx E) B H).wx W) (.Call (.Name a p1) [] [] p2) (tA W) (wAct v th)) →
      ∃ t w, BSs false (cxB F Ng x (defScope st) g cdv A outer s H E) (F.g pn (XKx E) B H) (defBody st) t w ∧ ∀ n EX QD, f th n EX QD → w (startB Ng [.raw v]) n (fun _ => EX) { nx := fun _ n' => QD (.py .none) n', rt := QD }
section
variable {X : Cx} {G : Cg} {k j : Nat} {x a : Str} {f : TH → TH} {p lpos pos : Pos} {params : Arguments} {body : Expr} {scope : Scope} {w0 : WE} {t0 : XK → TE} {c P : Addr}
end
end Fv
set_option maxRecDepth 100000
set_option maxHeartbeats 4000000
/-! Promises over a heap, used by value: the callee is run on what it may see. -/
namespace Fv
open PySem PySem.Spec PyProof.Rows L2 Gb
/-- a list or a tuple -/
def isSq : HO → Bool
  | .lst _ => true
  | .tup _ => true
  | .frz _ (.tup _) => true
  | _ => false
def sqO : Option HO → Option HO
  | some o => if isSq o then some o else none
  | none => none
theorem sqO_some {x : Option HO} {o : HO} (h : sqO x = some o) : x = some o ∧ isSq o = true := by
  cases x with
  | none => cases h
  | some u =>
    unfold sqO at h
    by_cases e : isSq u = true
    · simp only [e, if_true] at h
      cases h
      exact ⟨rfl, e⟩
    · simp only [e, if_false] at h
      cases h
/-- what a callee of the pen may see: the pen, the lists and tuples that are told -/
def cutH (p : Addr) (B H : Hp) : Hp := fun b => if b = p then H p else sqO (B b)
/-- .. and behind it -/
def joinH (p : Addr) (B H J : Hp) : Hp := fun b => if b = p then J p else match H b with
  | some o => some o
  | none => sqO (J b)
def joinB (p : Addr) (B H J : Hp) : Hp := fun b => match B b with
  | some o => some o
  | none => if b = p then none else match H b with
    | some _ => none
    | none => sqO (J b)
/-- lists and tuples are not too long -/
def LenOk (H : Hp) : Prop := ∀ b o, H b = some o → match o with
  | .lst xs => xs.length ≤ sizeLine
  | .tup xs => xs.length ≤ sizeLine
  | .frz _ (.tup xs) => xs.length ≤ sizeLine
  | _ => True
def SpF (sp : Sp) : Sp := fun vs H Q _ => ∃ (p : Addr) (B : Hp), Same B H ∧ B p = none ∧ (∃ kvs, H p = some (.dK kvs)) ∧ sp vs (cutH p B H) (fun v J => Ex (cutH p B H) J ∧ (∃ kvs, J p = some (.dK kvs)) ∧ (LenOk J → (∀ b u, H b = some u → cutH p B H b = none → J b = none) → Q v (joinH p B H J))) (fun _ _ _ => False)
section
variable {P : Program} {w : World} {p : Addr} {B H J : Hp} {h h2 : Heap}
theorem cut_some {b : Addr} {o : HO} (ne : b ≠ p) (e : cutH p B H b = some o) : B b = some o ∧ isSq o = true := by
  unfold cutH at e
  rw [if_neg ne] at e
  exact sqO_some e
theorem cut_p : cutH p B H p = H p := if_pos rfl
theorem sq_stay {H1 H2 : Hp} {h1 h2 : Heap} {b : Addr} {o : HO} (s : isSq o = true) (x : ObjOk P w H1 h1 b o) (k : ∀ u, h1.get? b = some u → h2.get? b = some u) : ObjOk P w H2 h2 b o := by
  cases o with
  | lst xs =>
    obtain ⟨z, its, n, r, e⟩ := x
    exact ⟨z, its, n, r, k _ e⟩
  | tup xs =>
    obtain ⟨z, its, r, ob, e, c⟩ := x
    exact ⟨z, its, r, ob, k _ e, c⟩
  | frz ob u =>
    cases u with
    | tup xs =>
      obtain ⟨g, z, its, r, ob, e, c⟩ := x
      exact ⟨k _ g, z, its, r, ob, k _ e, c⟩
    | _ => cases s
  | _ => cases s
theorem dk_stay2 {H1 H2 : Hp} {h1 h2 : Heap} {b : Addr} {kvs : List (Key × V)} (x : ObjOk P w H1 h1 b (.dK kvs)) (k : ∀ u, h1.get? b = some u → h2.get? b = some u) : ObjOk P w H2 h2 b (.dK kvs) := by
  obtain ⟨z, y, vs, r, ob, es, ep, e, c⟩ := x
  exact ⟨z, y, vs, r, ob, es, ep, k _ e, c⟩
theorem cut_ok (s : Same B H) (hp : ∃ kvs, H p = some (.dK kvs)) (ok : HOk P w H h) : HOk P w (cutH p B H) h := fun b o e => by
  by_cases z : b = p
  · subst z
    rw [cut_p] at e
    obtain ⟨kvs, q⟩ := hp
    rw [q] at e
    cases e
    exact dk_stay2 (ok _ _ q) fun _ x => x
  · obtain ⟨e1, e2⟩ := cut_some z e
    exact sq_stay e2 (ok _ _ (s _ _ e1)) fun _ x => x
theorem len_of (ok : HOk P w H h) : LenOk H := fun b o e => by
  have x := ok b o e
  cases o with
  | lst xs => exact x.1
  | tup xs => exact x.1
  | frz ob u =>
    cases u with
    | tup xs => exact x.2.1
    | _ => trivial
  | _ => trivial
end
theorem ok_there {P : Program} {w : World} {H : Hp} {h : Heap} {b : Addr} {o : HO} (x : ObjOk P w H h b o) : ∃ u, h.get? b = some u := by
  induction o with
  | lst xs =>
    obtain ⟨_, _, _, _, e⟩ := x
    exact ⟨_, e⟩
  | tup xs =>
    obtain ⟨_, _, _, ob, e, _⟩ := x
    exact ⟨_, e⟩
  | dK kvs =>
    obtain ⟨_, _, _, _, o, _, _, e, _⟩ := x
    exact ⟨_, e⟩
  | dT kvs =>
    obtain ⟨_, _, _, _, o, _, _, e, _⟩ := x
    exact ⟨_, e⟩
  | set S n =>
    obtain ⟨o, _, _, _, e, _⟩ := x
    exact ⟨_, e⟩
  | ins C dx fs =>
    obtain ⟨_, _, _, e, _⟩ := x
    exact ⟨_, e⟩
  | own y =>
    obtain ⟨_, e⟩ := x
    exact ⟨_, e⟩
  | xd fs =>
    obtain ⟨_, ⟨_, _, _, e, _⟩, _⟩ := x
    exact ⟨_, e⟩
  | met f y => exact ⟨_, x⟩
  | rng lo hi =>
    obtain ⟨_, _, _, e⟩ := x
    exact ⟨_, e⟩
  | frz o u ih => exact ⟨_, x.1⟩
  | tbl ps => exact ⟨_, x⟩
  | ext φ => exact x.2.1
theorem fn_frame {P : Program} {w : World} {K : PySem.W.Frag} {mg : Str → Option Value} {base : Heap} {k : Nat} {f : Addr} {fd : FuncData} {ps : List Str} {sp : Sp} (F : FnOk P w K mg base CX0 k f fd ps sp) : FnOk P w K mg base (L2.CX P w) k f fd ps (SpF sp) := by
  refine ⟨fun vs H Q E h => ?_, fun A outer s H args us vs Q E hr he hb hv hs => ?_⟩
  · obtain ⟨p, B, _, _, _, q⟩ := h
    exact F.len _ _ _ _ q
  · obtain ⟨p, B, sb, bp, hp, q⟩ := hs
    have sub : ∀ {b : Addr} {o : HO}, cutH p B H b = some o → H b = some o := fun {b o} e => by
      by_cases z : b = p
      · subst z
        rw [cut_p] at e
        exact e
      · exact sb _ _ (cut_some z e).1
    have subN : ∀ {b : Addr}, H b = none → cutH p B H b = none := fun {b} e => by
      cases z : cutH p B H b with
      | none => rfl
      | some o =>
        rw [sub z] at e
        cases e
    have e0 : Env0 P w K mg base A outer s (cutH p B H) := ⟨he.frames, he.mod, fun b o e => ⟨(he.bs b o e).1, subN (he.bs b o e).2⟩, he.bsz, he.funs, fun b hb => subN (he.frf b hb), cut_ok sb hp he.hok, he.bare⟩
    refine codeAny_mono (F.run A outer s _ args us vs _ _ hr e0 hb hv q) fun r s2 hq => ?_
    cases r with
    | error e => exact (show False from hq).elim
    | ok fl =>
      cases fl with
      | next => exact hq.elim
      | brk => exact hq.elim
      | cont => exact hq.elim
      | ret u =>
        obtain ⟨v, J, os, bare, un, hok, rv, ex, hJp, q2⟩ := hq
        refine ⟨v, joinH p B H J, os, bare, ?_, ?_, rv, q2 (len_of hok) fun b u e n => let ⟨o, g⟩ := ok_there (he.hok b u e); un.free b o g n (by simp)⟩
        · -- what is not tracked stays
          have ip : ∀ {b : Addr}, H b = none → b ≠ p := fun {b} e z => by
            obtain ⟨kvs, g⟩ := hp
            rw [z, g] at e
            cases e
          refine ⟨fun b o e n => un.keep b o e (subN n), fun b o e n => un.slot b o e (subN n), fun b o e n hx => ?_, un.there, fun b xs e => ?_, fun b o u e => ?_, fun b qs e => ?_⟩
          · unfold joinH
            rw [if_neg (ip n), n]
            show sqO (J b) = none
            rw [un.free b o e (subN n) hx]
            rfl
          · unfold joinH
            rw [if_neg (fun z => by obtain ⟨kvs, g⟩ := hp; rw [z, g] at e; cases e), e]
          · unfold joinH
            rw [if_neg (fun z => by obtain ⟨kvs, g⟩ := hp; rw [z, g] at e; cases e), e]
          · refine ⟨#[], ?_⟩
            unfold joinH
            rw [if_neg (fun z => by obtain ⟨kvs, g⟩ := hp; rw [z, g] at e; cases e), e]
            simp
        · intro b o e
          by_cases z : b = p
          · subst z
            unfold joinH at e
            rw [if_pos rfl] at e
            obtain ⟨kvs, g⟩ := hJp
            rw [g] at e
            cases e
            exact dk_stay2 (hok _ _ g) fun _ x => x
          · unfold joinH at e
            rw [if_neg z] at e
            cases hb : H b with
            | none =>
              rw [hb] at e
              obtain ⟨e1, e2⟩ := sqO_some e
              exact sq_stay e2 (hok _ _ e1) fun _ x => x
            | some o1 =>
              rw [hb] at e
              have e' : o1 = o := Option.some.inj e
              subst e'
              cases hc : cutH p B H b with
              | some o2 =>
                have := sub hc
                rw [hb] at this
                cases this
                obtain ⟨_, sq⟩ := cut_some z hc
                have hJ : J b = some o1 := ex _ _ hc (by cases o1 <;> first | trivial | cases sq)
                exact sq_stay sq (hok _ _ hJ) fun _ x => x
              | none =>
                have nfr : b ∉ frs outer := fun m => by
                  rw [he.frf b m] at hb
                  cases hb
                refine (he.hok b o1 hb).stay (fun c u hcx g => ?_) (fun c g => ?_) fun c xs g => ?_
                · rcases hcx with rfl | hcx
                  · exact un.keep c u g hc nfr (by simp)
                  · have nc : cutH p B H c = none := by
                      cases y : cutH p B H c with
                      | none => rfl
                      | some o2 =>
                        have g2 := sub y
                        rw [hcx] at g2
                        cases g2
                        by_cases zc : c = p
                        · obtain ⟨kvs, g3⟩ := hp
                          rw [zc, g3] at hcx
                          cases hcx
                        · have := (cut_some zc y).2
                          cases this
                    exact un.keep c u g nc (fun m => by rw [he.frf c m] at hcx; cases hcx) (by simp)
                · unfold joinH
                  rw [if_neg (fun zc => by obtain ⟨kvs, g3⟩ := hp; rw [zc, g3] at g; cases g), g]
                · unfold joinH
                  rw [if_neg (fun zc => by obtain ⟨kvs, g3⟩ := hp; rw [zc, g3] at g; cases g), g]
/-! ### the steps of it -/
section
variable {p c : Addr} {T : List (Addr × Str)} {n k : Nat} {B H J : Hp}
theorem join_mv (sb : Same B H) (pk : Pk (some (p, c, T)) n B H) (hg : Go p c k (cutH p B H) J) : Mv (some (p, c, T)) B H (joinB p B H J) (joinH p B H J) ∧ Pk (some (p, c, T)) (n + k) (joinB p B H J) (joinH p B H J) := by
  obtain ⟨hpen, bp, hT, hTb, hTu, ys, hcb⟩ := pk
  obtain ⟨t, l, xs, h1, h2, h3⟩ := id hpen
  have cp : c ≠ p := fun z => by rw [z, h1] at h2; cases h2
  have penC : Pen (cutH p B H) p c n := by
    refine ⟨t, l, xs, by rw [cut_p]; exact h1, ?_, h3⟩
    unfold cutH
    rw [if_neg cp, hcb]
    have := sb _ _ hcb
    rw [h2] at this
    cases this
    rfl
  obtain ⟨t2, l2, xs2, g1, g2, g3⟩ := hg.2 n penC
  have hcJ : J c = some (.lst (xs.map V.int)) := by
    refine hg.1 _ _ ?_ trivial
    obtain ⟨_, _, ys2, _, q2, _⟩ := penC
    unfold cutH
    rw [if_neg cp, hcb]
    have := sb _ _ hcb
    rw [h2] at this
    cases this
    rfl
  have jH : ∀ {b : Addr} {o : HO}, b ≠ p → H b = some o → joinH p B H J b = some o := fun {b o} nb e => by
    unfold joinH
    rw [if_neg nb, e]
  have jp : joinH p B H J p = J p := if_pos rfl
  have jB : ∀ {b : Addr} {o : HO}, joinB p B H J b = some o → B b = some o ∨ (B b = none ∧ b ≠ p ∧ H b = none ∧ J b = some o ∧ isSq o = true) := fun {b o} e => by
    unfold joinB at e
    cases hb : B b with
    | some u =>
      rw [hb] at e
      exact .inl e
    | none =>
      rw [hb] at e
      by_cases z : b = p
      · simp only [z, if_true] at e
        cases e
      · simp only [z, if_false] at e
        cases hh : H b with
        | some u =>
          rw [hh] at e
          cases e
        | none =>
          rw [hh] at e
          obtain ⟨e1, e2⟩ := sqO_some e
          exact .inr ⟨rfl, z, rfl, e1, e2⟩
  have nB : ∀ {b : Addr} {o : HO}, B b = some o → b ≠ p := fun {b o} e z => by
    rw [z, bp] at e
    cases e
  refine ⟨⟨⟨fun b o nb _ e => jH nb e, fun o _ _ => ⟨.dK (penD c t2 l2), by rw [jp]; exact g1, True.intro⟩, fun b ps e => ⟨ps, jH (fun z => by rw [z, h1] at e; cases e) e⟩⟩, fun b o e => by unfold joinB; rw [e], fun b o e => ?_, fun x o u e eh _ => ?_, fun x ps e => ?_, fun x ps e => ?_⟩, ⟨t2, l2, xs2, by rw [jp]; exact g1, ?_, g3⟩, ?_, fun q hq => ?_, fun b ps e => ?_, fun b ps e => ?_, ys, by unfold joinB; rw [hcb]⟩
  · rcases jB e with e1 | ⟨e1, e2, e3, e4, e5⟩
    · exact jH (nB e1) (sb _ _ e1)
    · unfold joinH
      rw [if_neg e2, e3]
      show sqO (J b) = _
      rw [e4]
      unfold sqO
      simp only [e5, if_true]
  · rcases jB e with e1 | ⟨_, _, e3, _⟩
    · exact e1
    · rw [eh] at e3
      cases e3
  · rcases jB e with e1 | ⟨_, _, _, _, e5⟩
    · exact e1
    · cases e5
  · by_cases z : x = p
    · rw [z, jp, g1] at e
      cases e
    · unfold joinH at e
      rw [if_neg z] at e
      cases hh : H x with
      | some u =>
        rw [hh] at e
        cases e
        exact ⟨ps, rfl⟩
      | none =>
        rw [hh] at e
        have := (sqO_some e).2
        cases this
  · rw [jH cp h2, ← hcJ, g2]
  · unfold joinB
    rw [bp]
    simp
  · obtain ⟨ps, a1, a2, a3⟩ := hT q hq
    refine ⟨ps, jH (fun z => by rw [z, h1] at a1; cases a1) a1, a2, fun pos cv hc => ?_⟩
    obtain ⟨cc, b1, b2⟩ := a3 pos cv hc
    exact ⟨cc, b1, jH (fun z => by rw [z, h1] at b2; cases b2) b2⟩
  · rcases jB e with e1 | ⟨_, _, _, _, e5⟩
    · exact hTb _ _ e1
    · cases e5
  · by_cases z : b = p
    · rw [z, jp, g1] at e
      cases e
    · unfold joinH at e
      rw [if_neg z] at e
      cases hh : H b with
      | some u =>
        rw [hh] at e
        cases e
        exact hTu b ps hh
      | none =>
        rw [hh] at e
        have := (sqO_some e).2
        cases this
/-- a datum that the callee tells -/
theorem join_rd (hex : Ex (cutH p B H) J) (hJp : ∃ kvs, J p = some (.dK kvs)) (hfr : ∀ b u, H b = some u → cutH p B H b = none → J b = none) (sb : Same B H) {a : Addr} {o : HO} (e : J a = some o) (sq : isSq o = true) : joinB p B H J a = some o := by
  have nap : a ≠ p := fun z => by
    obtain ⟨kvs, g⟩ := hJp
    rw [z, g] at e
    cases e
    cases sq
  have cb : cutH p B H a = sqO (B a) := if_neg nap
  cases hb : B a with
  | some u =>
    rw [hb] at cb
    by_cases s : isSq u = true
    · have cb2 : cutH p B H a = some u := by
        rw [cb]
        unfold sqO
        simp only [s, if_true]
      have := hex _ _ cb2 (by cases u <;> first | trivial | cases s)
      rw [e] at this
      unfold joinB
      rw [hb]
      exact this.symm
    · have cb2 : cutH p B H a = none := by
        rw [cb]
        unfold sqO
        simp only [s, if_false]
        rfl
      rw [hfr a u (sb _ _ hb) cb2] at e
      cases e
  | none =>
    rw [hb] at cb
    cases hh : H a with
    | some u =>
      rw [hfr a u hh cb] at e
      cases e
    | none =>
      unfold joinB
      rw [hb]
      simp only [nap, if_false, hh]
      rw [e]
      unfold sqO
      simp only [sq, if_true]
mutual
/-- numbers, texts, and tuples of such -/
def flatT : PyData → Bool
  | .list _ => false
  | .dict _ => false
  | .tuple ds => flatTs ds
  | _ => true
def flatTs : List PyData → Bool
  | [] => true
  | d :: ds => flatT d && flatTs ds
end
theorem len_sq {K : PySem.W.Frag} (hl : LenOk J) {a : Addr} {xs : List V} (h : SqT K J a xs) : xs.length ≤ sizeLine := by
  rcases h with (h | ⟨o, h⟩) | ⟨o, its, n, _, _, _, hz, r⟩
  · exact hl _ _ h
  · exact hl _ _ h
  · rw [r.length]
    simpa using hz
theorem sq_join {K : PySem.W.Frag} (hex : Ex (cutH p B H) J) (hJp : ∃ kvs, J p = some (.dK kvs)) (hfr : ∀ b u, H b = some u → cutH p B H b = none → J b = none) (sb : Same B H) {a : Addr} {xs : List V} (h : SqT K J a xs) : SqT K (joinB p B H J) a xs := by
  rcases h with (h | ⟨o, h⟩) | h
  · exact .inl (.inl (join_rd hex hJp hfr sb h rfl))
  · exact .inl (.inr ⟨o, join_rd hex hJp hfr sb h rfl⟩)
  · exact .inr h
mutual
theorem dd_join {K : PySem.W.Frag} (hl : LenOk J) (hex : Ex (cutH p B H) J) (hJp : ∃ kvs, J p = some (.dK kvs)) (hfr : ∀ b u, H b = some u → cutH p B H b = none → J b = none) (sb : Same B H) :
    ∀ {v : V} {d : PyData}, Dp K J v d → flatT d = true → Dd K (joinB p B H J) v d
  | _, _, .non, _ => .non
  | _, _, .bl b, _ => .bl b
  | _, _, .int i, _ => .int i
  | _, _, .str x, _ => .str x
  | _, _, .lst h a, z => by cases z
  | _, _, .tup h a, z => .tup (sq_join hex hJp hfr sb h) (dda_join hl hex hJp hfr sb a z) (len_sq hl h)
theorem dda_join {K : PySem.W.Frag} (hl : LenOk J) (hex : Ex (cutH p B H) J) (hJp : ∃ kvs, J p = some (.dK kvs)) (hfr : ∀ b u, H b = some u → cutH p B H b = none → J b = none) (sb : Same B H) :
    ∀ {vs : List V} {ds : List PyData}, DpAll K J vs ds → flatTs ds = true → DdA K (joinB p B H J) vs ds
  | _, _, .nil, _ => .nil
  | _, _, .cons a b, z => by
    have z' := Bool.and_eq_true_iff.mp z
    exact .cons (dd_join hl hex hJp hfr sb a z'.1) (dda_join hl hex hJp hfr sb b z'.2)
end
end
end Fv
set_option maxRecDepth 100000
set_option maxHeartbeats 4000000
/-! repr; a law's end where it is known that nothing is being shown, with tables of code objects. -/
namespace Fv
open PySem PySem.Spec PyProof.Rows L2 Gb
/-! ### repr -/
def rRepr (K : PySem.W.Frag) : List V → Hp → VK → Prop := fun vs H Q => ∃ v d, vs = [v] ∧ Dp K H v d ∧ d.showable = true ∧ d.hasDict = false ∧ d.depth ≤ 40 ∧ d.shown.length ≤ sizeLine ∧ Q (.str d.shown) H
theorem call_repr {X : Cx} (hg : X.A.guards = some []) (hu : X.A.units + 64 < cLine) : CallR X (.builtin "repr") (rRepr X.K) := by
  intro pins s σ H xs us Q I r h
  obtain ⟨v, d, rfl, hd, hs, hn, hdp, hz, q⟩ := h
  obtain ⟨u, rfl, ru⟩ := vals1 r
  cases hd with
  | non =>
    cases ru
    exact PySem.P.repr_of_none ⟨.str _, H, I.tok _, ⟨_, rfl⟩, q⟩
  | bl b =>
    cases ru
    exact PySem.P.repr_of_bool ⟨.str _, H, I.tok _, ⟨_, rfl⟩, q⟩
  | int i =>
    obtain ⟨t, rfl⟩ := ru
    exact PySem.P.repr_of_int (of_decide_eq_true hs) ⟨.str _, H, I.tok _, ⟨_, rfl⟩, q⟩
  | str x =>
    obtain ⟨t, rfl⟩ := ru
    exact PySem.P.repr_of_str ⟨.str _, H, I.tok _, ⟨_, rfl⟩, q⟩ hz
  | @lst a xs ds h1 h2 =>
    obtain ⟨as, hr⟩ := Dp.reads I _ _ _ (.lst h1 h2) ru
    cases ru
    exact repr_of_reads' hr hs (PyData.noDict_hsm hn) hg (by omega) (fun _ _ e => e) (fun h2 t tk hk => ⟨.str _, H, I.kept (t' := tk) hk, ⟨_, rfl⟩, q⟩) hz
  | @tup a xs ds h1 h2 =>
    obtain ⟨as, hr⟩ := Dp.reads I _ _ _ (.tup h1 h2) ru
    cases ru
    exact repr_of_reads' hr hs (PyData.noDict_hsm hn) hg (by omega) (fun _ _ e => e) (fun h2 t tk hk => ⟨.str _, H, I.kept (t' := tk) hk, ⟨_, rfl⟩, q⟩) hz
/-- what repr can show -/
structure Shows (d : PyData) : Prop where
  s : d.showable = true
  n : d.hasDict = false
  dp : d.depth ≤ 40
  l : d.shown.length ≤ sizeLine
  c : d.canLay0 = true
def wRepr (wa : WE) : WE := fun ρ n E Q => wa ρ n E fun d n' => match d with
  | .py d => Shows d ∧ Q (.py (.str d.shown)) n'
  | _ => False
section
variable {X : Cx} {G : Cg} {a : Expr} {ta : TE} {wa : WE} {p pos : Pos}
theorem be_repr (hgu : X.A.guards = some []) (hu : X.A.units + 64 < cLine) (hg : Gl X "repr") (hm : X.mg "repr" = none) (ha : BF X G a ta wa) (he : starEach (a :: []) X.env = (false, eval a X.env) :: starEach [] X.env := by rfl) (hpl : (backTo pos (starEach [] X.env)).any (·.1) = false := by rfl) (hK : X.K = G.K := by rfl) :
    BE X G (.Call (.Name "repr" p) [a] [] pos) (tCB (rRepr X.K) (tCons ta tNil)) (wRepr wa) :=
  ⟨pe_callB (call_repr hgu hu) hg hm (by decide +kernel) (pa_cons ha.pe pa_nil he) (by decide) (by decide) he hpl, fun ρ σ n B H E Qd Q S hw xw k => ha.snd ρ σ n B H E _ _ S hw xw fun v d n1 B1 H1 Bf m1 pk1 lk r1 q1 => by
    match d, r1, q1 with
    | .py d, r1, q1 =>
      obtain ⟨hS, q1⟩ := q1
      refine ⟨v, d, rfl, ?_, hS.s, hS.n, hS.dp, hS.l, k _ _ n1 B1 H1 m1 pk1 r_str q1⟩
      rw [hK]
      exact Dd.dp (r1.mono lk.1) hS.c⟩
end
/-! ### a def that is run while nothing is being shown -/
structure FnG (P : Program) (w : World) (K : PySem.W.Frag) (mg : Str → Option Value) (base : Heap) (k : Nat) (f : Addr) (fd : FuncData) (ps : List Str) (sp : Sp) : Prop where
  run : ∀ (A : Around) (outer : List Env) (s : Shared) (H : Hp) (args : Args) (us : List Value) (vs : List V) (Q : VK) (E : XK), Room k A → A.guards = some [] → Env0 P w K mg base A outer s H → BindsTo s fd args (ps.zip us) → Vals vs us → vs.length = ps.length → sp vs H Q E →
    codeAny (model P w) A (.call (.ref f) args) (CR (L2.CX P w) outer P w H s Q E) s
theorem fn_g {P : Program} {w : World} {K : PySem.W.Frag} {mg : Str → Option Value} {base : Heap} {k : Nat} {x qual : Str} {st : Stmt} {f : Addr} {fd : FuncData} {N ps : List Str} {sp : Sp} (Fn : Fun K x qual st f fd) (S : FnScope N ps (defScope st))
    (hbody : ∀ (cdv : Value) (A : Around) (outer : List Env) (s : Shared) (H : Hp) (vs : List V) (Q : VK) (E : XK), Room k (A.deeper (envOfC qual (defScope st) s.heap.objs.size f cdv)) → A.guards = some [] → sp vs H Q E →
      ∃ t, PSs (cxOf (L2.CX P w) P w K mg base N qual (defScope st) f cdv A outer s H E) (defBody st) t ∧ t { nx := fun _ H' => Q .non H', rt := Q } (L2.start N vs) H) : FnG P w K mg base (k + 1) f fd ps sp := by
  obtain ⟨oc, od, kV, doc, pm, an, cdv, ct, osl, rfl, lk, hcd⟩ := Fn.ex
  exact ⟨fun A outer s H args us vs Q E hr hg e0 hb r hl hsp => LamX.run_ofS lk hcd S hr e0 hb r hl fun hr2 => hbody cdv A outer s H vs Q E hr2 hg hsp⟩
/-! ### the end -/
section
variable {P : Program} {w : World} {K : PySem.W.Frag} {mg mb : Str → Option Value} {s : Shared} {a fa : Addr} {cs : List (Addr × Addr)} {vs : List Value} {ns : List Int} {H : Hp}
/-- what is tracked at the start: the script, known; the tables, empty -/
structure Start (K : PySem.W.Frag) (H : Hp) (a : Addr) (cs : List (Addr × Addr)) (ob : Obj) (ns : List Int) : Prop where
  tab : ∀ p ∈ cs, H p.2 = some (.tbl #[])
  at_ : ∀ b u, H b = some u → (b = a ∧ u = .frz ob (.lst (ns.map V.int)) ∧ K.lookup a = none) ∨ (b ∈ cs.map (·.2) ∧ u = .tbl #[])
  sq : SqL K H a (ns.map V.int)
theorem start_any (ob : Obj) (nT : ∀ p ∈ cs, p.2 ≠ a) (hk : K.lookup a = none ∨ ∀ H : Hp, SqL K H a (ns.map V.int)) : ∃ H : Hp, Start K H a cs ob ns := by
  have mem : ∀ p ∈ cs, p.2 ∈ cs.map (·.2) := fun p hp => List.mem_map.mpr ⟨p, hp, rfl⟩
  rcases hk with hk | hk
  · refine ⟨fun b => if b = a then some (.frz ob (.lst (ns.map V.int))) else if b ∈ cs.map (·.2) then some (.tbl #[]) else none, fun p hp => ?_, fun b u e => ?_, .inl (.inr ⟨ob, if_pos rfl⟩)⟩
    · show (if p.2 = a then _ else _) = _
      rw [if_neg (nT p hp), if_pos (mem p hp)]
    · have e2 : (if b = a then some (HO.frz ob (.lst (ns.map V.int))) else if b ∈ cs.map (·.2) then some (HO.tbl #[]) else none) = some u := e
      by_cases h1 : b = a
      · rw [if_pos h1] at e2
        exact .inl ⟨h1, (Option.some.inj e2).symm, hk⟩
      · rw [if_neg h1] at e2
        by_cases h2 : b ∈ cs.map (·.2)
        · rw [if_pos h2] at e2
          exact .inr ⟨h2, (Option.some.inj e2).symm⟩
        · rw [if_neg h2] at e2
          cases e2
  · refine ⟨fun b => if b ∈ cs.map (·.2) then some (.tbl #[]) else none, fun p hp => if_pos (mem p hp), fun b u e => ?_, hk _⟩
    have e2 : (if b ∈ cs.map (·.2) then some (HO.tbl #[]) else none) = some u := e
    by_cases h2 : b ∈ cs.map (·.2)
    · rw [if_pos h2] at e2
      exact .inr ⟨h2, (Option.some.inj e2).symm⟩
    · rw [if_neg h2] at e2
      cases e2
theorem end_call {k : Nat} {fd : FuncData} {x : Str} {sp : Sp} (kin : K.In s.heap) (hns : s.heap.Ns mainGlobals mg) (hb : s.heap.Ns builtinsNs mb) (hbb : ∀ x : Str, x ≠ "__name__" → mb x = bootBuiltins x) (hlim : s.heap.NoLimit) (hg : s.gens = #[])
    (hT : ∀ p ∈ cs, s.heap.get? p.2 = some { cls := .none, data := .fields #[] }) (nT : ∀ p ∈ cs, K.lookup p.2 = none) (hC : ∀ p ∈ cs, PySem.W.CodeHd s.heap p.1 p.2)
    (hbm : ∃ (bm : Addr) (ob : Obj), mg "__builtins__" = some (.ref bm) ∧ bm ≠ builtinsNs ∧ s.heap.get? bm = some ob ∧ ob.cls = .type "module" ∧ ob.dict = some builtinsNs ∧ ob.data = .plain)
    (ha : s.heap.get? a = some { cls := .type "list", data := .seq vs.toArray }) (hi : IntsAre vs ns) (hl : ns.length ≤ sizeLine) (hr : Room k callerA)
    (F : ∀ base : Heap, K.In base → base.Ns mainGlobals mg → (∀ p ∈ cs, LamX.TabB base mg p.1 p.2) → FnG P w K mg base k fa fd [x] sp) (hbind : ∀ (s : Shared) (u : Value), BindsTo s fd ⟨[u], []⟩ [(x, u)])
    (hsp : ∀ H : Hp, Start K H a cs { cls := .type "list", data := .seq vs.toArray } ns → sp [.ref a] H (fun v _ => v = .bl true) fun _ _ _ => False) :
    codeAny (model P w) callerA (.call (.ref fa) ⟨[.ref a], []⟩) (fun r s' => r = .ok (.ret (.bool true)) ∧ OldK s.heap s'.heap ∧ s'.os = s.os ∧ AllBare s'.gens) s := by
  have rv := vals_ints hi
  have isT : ∀ b : Addr, b ∈ cs.map (·.2) → s.heap.get? b = some { cls := .none, data := .fields #[] } := fun b hb => by
    obtain ⟨p, hp, e⟩ := List.mem_map.mp hb
    rw [← e]
    exact hT p hp
  obtain ⟨H, hS⟩ := start_any (K := K) (cs := cs) (ns := ns) (a := a) { cls := .type "list", data := .seq vs.toArray } (fun p hp z => by
    have := hT p hp
    rw [z, ha] at this
    cases this) (by
    cases hk : K.lookup a with
    | none => exact .inl rfl
    | some o =>
      right
      have e := kin a o hk
      rw [ha] at e
      cases e
      exact fun _ => .inr ⟨_, vs.toArray, _, hk, rfl, rfl, rfl, by rw [List.size_toArray, hi.length]; exact hl, by simpa using rv⟩)
  have hok : HOk P w H s.heap := fun b u e => by
    rcases hS.at_ b u e with ⟨rfl, rfl, _⟩ | ⟨hm, rfl⟩
    · exact ⟨ha, by rw [List.length_map]; exact hl, vs, _, rv, ha⟩
    · exact isT b hm
  -- what has other content is not tracked
  have untr : ∀ {b : Addr} {o : Obj}, s.heap.get? b = some o → (∀ vs n, o.data ≠ .seq vs n) → o.data ≠ .fields #[] → H b = none := fun {b o} e n1 n2 => by
    cases q : H b with
    | none => rfl
    | some u =>
      rcases hS.at_ b u q with ⟨rfl, _⟩ | ⟨hm, _⟩
      · rw [ha] at e
        cases e
        exact absurd rfl (n1 _ _)
      · rw [isT b hm] at e
        cases e
        exact absurd rfl n2
  have nsK : ∀ {b : Addr} {m : Str → Option Value}, s.heap.Ns b m → (hidT s.heap H).Ns b m := fun {b m} ⟨o, es, ep, e, d, r⟩ => ⟨o, es, ep, hidT_get e (untr e (fun _ _ z => by rw [d] at z; cases z) fun z => by rw [d] at z; cases z), d, r⟩
  have hKb : K.In (hidT s.heap H) := fun b o e => hidT_get (kin b o e) (by
    cases q : H b with
    | none => rfl
    | some u =>
      rcases hS.at_ b u q with ⟨rfl, _, hk⟩ | ⟨hm, _⟩
      · rw [hk] at e
        cases e
      · obtain ⟨p, hp, ep⟩ := List.mem_map.mp hm
        rw [← ep, nT p hp] at e
        cases e)
  have hM : L2.Mod K mg (hidT s.heap H) := ⟨hKb, nsK hns, ⟨mb, nsK hb, hbb⟩, let ⟨mc, h1, h2⟩ := hlim; ⟨mc, nsK h1, h2⟩⟩
  have TB : ∀ p ∈ cs, LamX.TabB (hidT s.heap H) mg p.1 p.2 := fun p hp => by
    have hTp := hT p hp
    refine ⟨?_, ?_, fun z => ?_⟩
    · obtain ⟨o, us, file, tf, flags, tg, inF, text, tt, e1, r1, r2, r3, rest⟩ := hC p hp
      refine ⟨o, us, file, tf, flags, tg, inF, text, tt, hidT_get e1 (untr e1 (fun _ _ z => by rw [r2] at z; cases z) fun z => ?_), r1, r2, r3, rest⟩
      rw [r2] at z
      cases z
      simp at r3
    · obtain ⟨bm, ob, b1, b2, b3, b4, b5, b6⟩ := hbm
      refine ⟨bm, ob, b1, b2, fun q => ?_, fun q => ?_, hidT_get b3 (untr b3 (fun _ _ z => by rw [b6] at z; cases z) fun z => by rw [b6] at z; cases z), b4, b5, b6⟩
      · obtain ⟨o, es, ep, e, hd, _⟩ := hns
        rw [q, e] at b3
        cases b3
        rw [hd] at b6
        cases b6
      · rw [q, hTp] at b3
        cases b3
        cases b6
    · obtain ⟨o, es, ep, e, hd, _⟩ := hns
      rw [z, hTp] at e
      cases e
      cases hd
  have e0 : Env0 P w K mg (hidT s.heap H) callerA [] s H := ⟨rfl, hM, fun b o e => of_hidT e, Nat.le_of_eq (hidT_size _ _), trivial, fun b hb => absurd (show b ∈ ([] : List Addr) from hb) (by simp), hok, .of_eq hg⟩
  refine codeAny_mono ((F _ hKb (nsK hns) TB).run callerA [] s H ⟨[.ref a], []⟩ [.ref a] [.ref a] _ _ hr rfl e0 (hbind s (.ref a)) (.cons rfl .nil) rfl (hsp H hS)) fun r s2 h => ?_
  match r, h with
  | .error e, ⟨_, _, _, _, _, _, _, _, _, _, _, _, z⟩ => exact z.elim
  | .ok .next, h => exact h.elim
  | .ok .brk, h => exact h.elim
  | .ok .cont, h => exact h.elim
  | .ok (.ret u), ⟨v, H2, os, bare, un, hok2, rv2, q⟩ =>
    have q' : v = .bl true := q
    subst q'
    cases rv2
    have key : ∀ b o, b ∉ cs.map (·.2) → s.heap.get? b = some o → s2.heap.get? b = some o := fun b o nb e => by
      cases q : H b with
      | none => exact un.keep b o e q (by intro z; exact absurd (show b ∈ ([] : List Addr) from z) (by simp)) (by simp)
      | some u =>
        rcases hS.at_ b u q with ⟨rfl, rfl, _⟩ | ⟨hm, _⟩
        · obtain ⟨e2, _⟩ := hok2 b _ (un.frzs b _ _ q)
          rw [ha] at e
          cases e
          exact e2
        · exact absurd hm nb
    have grown : ∀ p ∈ cs, ∃ more : Array Value, s2.heap.get? p.2 = some { cls := .none, data := .fields more } := fun p hp => by
      obtain ⟨more, z⟩ := un.tbls p.2 #[] (hS.tab p hp)
      exact ⟨_, hok2 p.2 _ z⟩
    refine ⟨rfl, ⟨fun b o e => ?_, fun b o e => ?_⟩, os, bare⟩
    · by_cases hb : b ∈ cs.map (·.2)
      · obtain ⟨p, hp, rfl⟩ := List.mem_map.mp hb
        obtain ⟨more, hm⟩ := grown p hp
        rw [hT p hp] at e
        cases e
        exact .inr (.inl ⟨((hC p hp).tab (hT p hp)).isCodeTable, rfl, #[], more, rfl, by rw [Array.empty_append]; exact hm⟩)
      · exact .inl (key b o hb e)
    · by_cases hb : b ∈ cs.map (·.2)
      · obtain ⟨p, hp, rfl⟩ := List.mem_map.mp hb
        obtain ⟨more, hm⟩ := grown p hp
        exact ⟨_, hm⟩
      · exact ⟨o, key b o hb e⟩
end
theorem end_walk {l : PySem.W.OpenLaw} {n k : Nat} {q : Program} {loose : List Str} {XP : (Str → Option Value) → Heap → Prop} {YP : World → Heap → Prop} {d : DefRec} {x : Str}
    (hn : l.most = some n) (hn2 : n ≤ sizeLine) (hdf : d.params.defaults = []) (hr : Room k callerA)
    (F : ∀ (w : World) (mg : Str → Option Value) (fa : Addr) (h : Heap), YP w h → h.Ns mainGlobals mg → mg d.name = some (.ref fa) →
      ∃ (K : PySem.W.Frag) (fd : FuncData) (cs : List (Addr × Addr)) (sp : Sp), K.In h ∧ (∀ p ∈ cs, h.get? p.2 = some { cls := .none, data := .fields #[] }) ∧ (∀ p ∈ cs, K.lookup p.2 = none) ∧ (∀ p ∈ cs, PySem.W.CodeHd h p.1 p.2) ∧ (∀ (s : Shared) (u : Value), BindsTo s fd ⟨[u], []⟩ [(x, u)]) ∧
        (∀ (H : Hp) (a : Addr) (ns : List Int) (ob : Obj), ns.length ≤ n → Start K H a cs ob ns → sp [.ref a] H (fun v _ => v = .bl true) fun _ _ _ => False) ∧
        ∀ base : Heap, K.In base → base.Ns mainGlobals mg → (∀ p ∈ cs, LamX.TabB base mg p.1 p.2) → FnG l.prog w K mg base k fa fd [x] sp) :
    PySem.W.WalkO q loose XP YP l.row.toRowW d [] (fun f vs => PySem.call f vs) := by
  refine Att.attach_callB hn hdf fun w s₀ s1 mg mb fa o pm cd doc a vs ns G Y ho hd hcd hmg hobj hints hlen hbits hg => ?_
  obtain ⟨K, fd, cs, sp, kin, hT, nT, C, hb, hsp, hF⟩ := F w mg fa _ Y G.T.g hmg
  exact end_call kin G.T.g G.T.b G.T.builtins G.T.nolimit hg hT nT C G.T.bmain hobj hints (Nat.le_trans hlen hn2) hr hF hb fun H hS => hsp H a ns _ hlen hS
end Fv
set_option maxRecDepth 100000
set_option maxHeartbeats 4000000
/-! Sets of up to 75 unlike tuples. -/
namespace Fv
open PySem PySem.Spec PyProof.Rows L2 Gb
section
variable {P : Program} {w : World} {A : Around} {E : Value → Shared → Prop} {s : Shared} {a : Addr} {L : List (Addr × List Int)} {t : SetTable}
/-- the set at a, whatever its entries' array -/
structure Big (P : Program) (w : World) (h : Heap) (a : Addr) (L : List (Addr × List Int)) (t : SetTable) : Prop where
  it : ∃ o es ep, h.get? a = some o ∧ o.ExactSet ∧ o.data = .set es ep t ∧ es.toList = rowsOf P w L
  un : (L.map (·.2)).Nodup ∧ ∀ p ∈ L, IsT P w h p.2 p.1
  tb : TabOk t (L.map fun p => thash P w p.2)
  fl : t.plain = true ∧ (w.params.followText "set-order" = true ∨ t.led = true)
  rm : L.length * 5 < t.mask * 3
theorem Big.of {h : Heap} {es : Array (Int × Value)} {ep : Nat} (R : SetTR P w h a L es ep t) : Big P w h a L t := by
  obtain ⟨o, h1, h2, h3⟩ := R.ob
  exact ⟨⟨o, es, ep, h1, h2, h3, R.rows⟩, ⟨R.nd, R.tup⟩, R.tab, ⟨R.plain, R.led⟩, R.room⟩
theorem Big.tr {h : Heap} (R : Big P w h a L t) (hl : L.length < 64) : ∃ es ep, SetTR P w h a L es ep t := by
  obtain ⟨o, es, ep, h1, h2, h3, h4⟩ := R.it
  exact ⟨es, ep, { ob := ⟨o, h1, h2, h3⟩, rows := h4, tab := R.tb, nd := R.un.1, tup := R.un.2, plain := R.fl.1, led := R.fl.2, room := R.rm, few := hl }⟩
/-- where a way is behind c steps -/
abbrev wy (t : SetTable) (h : Int) (c : Nat) : SetTable.Probe := nth t.mask (runAt t.mask (SetTable.bits h % (t.mask + 1)) (SetTable.bits h)) c
/-- the place of i isn't met from c on before d -/
def Unmet (L : List (Addr × List Int)) (t : SetTable) (h : Int) (k : List Int) (c d : Nat) : Prop := ∀ (c' i : Nat) (p : Addr × List Int), c ≤ c' → c' < d → L[i]? = some p → p.2 = k → t.place.toList[i]? ≠ some (wy t h c').j
end
end Fv
set_option maxRecDepth 100000
set_option maxHeartbeats 4000000
/-! set(xs), len(set(xs)): lists of tuples of ints with up to 75 unlike ones. -/
namespace Fv
open PySem PySem.Spec PyProof.Rows L2 Gb
abbrev newSet (w : World) : Obj := { cls := .type "set", dict := none, data := .set #[] 0 (.fresh 0 0 (!w.params.followText "set-order")) }
abbrev Kt := List (Addr × List Int)
/-- how many unlike ones there may be -/
def Most (ks : Kt) : Prop := ∀ D : List (List Int), D.Nodup → (∀ k ∈ D, k ∈ ks.map (·.2)) → D.length ≤ 75
/-- the set S has what the first i of the list have -/
structure Fed (P : Program) (w : World) (ks : Kt) (S : Addr) (i : Nat) (h : Heap) : Prop where
  ex : ∃ L t, Big P w h S L t ∧ (∀ p ∈ L, p ∈ ks.take i) ∧ ∀ p ∈ ks.take i, p.2 ∈ L.map (·.2)
section
variable {P : Program} {w : World} {A : Around} {E : Value → Shared → Prop} {s : Shared} {S : Addr} {ks : Kt} {i : Nat}
theorem Big.kept {h h' : Heap} {L : Kt} {t : SetTable} (R : Big P w h S L t) (ha : ∀ o, h.get? S = some o → h'.get? S = some o) (ht : ∀ p ∈ L, IsT P w h' p.2 p.1) : Big P w h' S L t := by
  obtain ⟨o, es, ep, h1, r⟩ := R.it
  exact ⟨⟨o, es, ep, ha o h1, r⟩, ⟨R.un.1, ht⟩, R.tb, R.fl, R.rm⟩
theorem Fed.none {h : Heap} (e : h.get? S = some (newSet w)) : Fed P w ks S 0 h := by
  refine ⟨[], _, .of (setTR_fresh e), fun p hp => ?_, fun p hp => ?_⟩
  · cases hp
  · simp at hp
theorem Fed.kept {h h' : Heap} (R : Fed P w ks S i h) (ha : ∀ o, h.get? S = some o → h'.get? S = some o) (ht : ∀ p ∈ ks, IsT P w h' p.2 p.1) : Fed P w ks S i h' := by
  obtain ⟨L, t, B, h1, h2⟩ := R.ex
  exact ⟨L, t, B.kept ha fun p hp => ht p (List.mem_of_mem_take (h1 p hp)), h1, h2⟩
end
section
variable {X : Cx} {G : Cg} {Kx : PySem.W.Frag} {a : Expr} {ta : TE} {p p2 q pos : Pos}
/-- len(set(xs)): how many unlike ones, D the unlike ones in any order -/
def tLenSetB (K : PySem.W.Frag) (ta : TE) : TE := fun σ H Q => ta σ H fun x H1 => ∃ (l : Addr) (ks : Kt) (D : List (List Int)), x = .ref l ∧ SqL K H1 l (ks.map fun z => V.ref z.1) ∧ (∀ z ∈ ks, SqT K H1 z.1 (z.2.map V.int)) ∧ D.Nodup ∧ (∀ k, k ∈ D ↔ k ∈ ks.map (·.2)) ∧ D.length ≤ 75 ∧ Q (.int D.length) H1
end
end Fv
set_option maxRecDepth 100000
set_option maxHeartbeats 4000000
/-! More rules: statements as a script prints them, lists together, sets. -/
namespace Fv
open PySem PySem.Spec PyProof.Rows L2 Gb
section
variable {m : Bool} {X : Cx} {G : Cg} {a b c d e f o : Expr} {es rest : List Expr} {ta tb tc td te tk : TE} {wa wb wc wd we wy : WE} {pos p p2 p3 apos cpos tpos : Pos} {x y z : Str} {n : Nat} {t u tt tt1 : TT} {w v wt wt1 : WT} {wl wl2 : WL} {wn : WN} {wv wv2 wv3 : WV} {st : Stmt} {i j l : Nat}
/-! ### name = e -/
theorem bs_setV {pos' : Pos} (h : BV X G a ta wv) (hN : X.N.Nodup) (hi : X.N[i]? = some x) (hx : Loc X.env.scope x) (hs : swapsWith a (some (.Name x pos')) pos.line X.env = pure false := by rfl)
    (hf : X.fn x = true ∨ X.env.scope.names.lookup x = some .local := by first | exact .inl rfl | exact .inr rfl) : BS m X G (.Assign [.Name x pos'] a pos) (tAsg ta (gName i)) (sSet i wv) :=
  bs_set h (ps_set hN hi hx h.pe hs hf)
theorem bn_toE {wn : WN} (h : BN X G a ta wn) : BV X G a ta (wVE (wOfN wn)) := BE.toV h.e
/-- name += e, numbers -/
def sAug (i : Nat) (w : WE) : WS := fun ρ n E DB => match ρ[i]? with
  | some (.val (.py (.int z))) => w ρ n (E ρ) fun d n1 => (match d with
    | .py (.int y) => DB.nx (ρ.set i (.val (.py (.int (z + y))))) n1
    | _ => False)
  | _ => False
theorem bs_parV {px py pt : Pos} {kt k2 : Nat} {pt2 : Pos} (hN : X.N.Nodup) (ha : BV X G a ta wv) (hb : BV X G b tb wv2) (hc : X.calm = true) (hi : X.N[i]? = some x) (hj : X.N[j]? = some y) (hij : i ≠ j) (hx : X.env.scope.names.lookup x = some .local) (hy : X.env.scope.names.lookup y = some .local)
    (hw : swappedStores [.Tuple [.Name x px, .Name y py] kt pt] (.Tuple [a, b] k2 pt2) X.env = pure (some [x, y])) (he1 : starEach (a :: [b]) X.env = (false, eval a X.env) :: starEach [b] X.env := by rfl) (he2 : starEach (b :: []) X.env = (false, eval b X.env) :: starEach [] X.env := by rfl)
    (hs : swapsWithSole [.Tuple [.Name x px, .Name y py] kt pt] (.Tuple [a, b] k2 pt2) pos.line X.env = pure false := by rfl) : BS m X G (.Assign [.Tuple [.Name x px, .Name y py] kt pt] (.Tuple [a, b] k2 pt2) pos) (tPar i j (tCons ta (tCons tb tNil))) (sPar i j wv wv2) :=
  bs_par ha hb hij (ps_par hc hN hi hj hij hx hy (pa_cons ha.pe (pa_cons hb.pe pa_nil he2) he1) hw hs)
theorem bs_appendV (i : Nat) (ho : PE X o (tVar i)) (ha : BE X G a ta wa) (hK : X.K = G.K := by rfl) (h1 : attributeBase o "append" X.env (eval o X.env) = eval o X.env := by rfl)
    (h2 : ((backTo cpos (starEach (a :: []) X.env)).all (fun x => !x.1) && (backToKw cpos (keywordEach [] X.env)).all (fun x => x.1.isSome) && decide ((a :: []).length + ([] : List Keyword).length + (if ([] : List Keyword).isEmpty then 0 else 1) < 30)) = true := by rfl)
    (h3 : (apos.endLine == cpos.line) = true := by rfl) (h4 : starEach (a :: []) X.env = (false, eval a X.env) :: starEach [] X.env := by rfl) (h5 : (backTo cpos (starEach [] X.env)).any (·.1) = false := by rfl)
    (hs : swapsWith (.Call (.Attribute o "append" apos) [a] [] cpos) none pos.line X.env = pure false := by rfl) : BS m X G (.Expr (.Call (.Attribute o "append" apos) [a] [] cpos) pos) (tDrop (tBM G.K "list" rAppend (tVar i) (tCons ta tNil))) (sAppend i wa) :=
  bs_append i ha (ps_expr (pe_bmK PySem.F.plainAttrs_list PySem.F.slot_list_append PySem.F.type_list_append mt_append ho (pa_cons ha.pe pa_nil h4) hK h1 h2 h3 h4 h5) hs)
theorem bs_extendV (i : Nat) (ho : PE X o (tVar i)) (ha : BL X G a ta wl) (hK : X.K = G.K := by rfl) (h1 : attributeBase o "extend" X.env (eval o X.env) = eval o X.env := by rfl)
    (h2 : ((backTo cpos (starEach (a :: []) X.env)).all (fun x => !x.1) && (backToKw cpos (keywordEach [] X.env)).all (fun x => x.1.isSome) && decide ((a :: []).length + ([] : List Keyword).length + (if ([] : List Keyword).isEmpty then 0 else 1) < 30)) = true := by rfl)
    (h3 : (apos.endLine == cpos.line) = true := by rfl) (h4 : starEach (a :: []) X.env = (false, eval a X.env) :: starEach [] X.env := by rfl) (h5 : (backTo cpos (starEach [] X.env)).any (·.1) = false := by rfl)
    (hs : swapsWith (.Call (.Attribute o "extend" apos) [a] [] cpos) none pos.line X.env = pure false := by rfl) : BS m X G (.Expr (.Call (.Attribute o "extend" apos) [a] [] cpos) pos) (tDrop (tBM G.K "list" rExtend (tVar i) (tCons ta tNil))) (sExtend i wl) :=
  bs_extend i ha (ps_expr (pe_bmK PySem.F.plainAttrs_list PySem.F.slot_list_extend PySem.F.type_list_extend mt_extend ho (pa_cons ha.pe pa_nil h4) hK h1 h2 h3 h4 h5) hs)
theorem bs_putIxV (i : Nat) (ha : BE X G a ta wa) (hb : BE X G b tb wb) (h2 : ∀ v : Value, assign (.Subscript o b tpos) X.env v = (do let ov ← holding [v] (eval o X.env); let iv ← holding [v, ov] (eval b X.env); standAt tpos; holding [v, ov, iv] (setItem ov iv v); release [v, ov, iv] [])) (ho : PE X o (tVar i))
    (hs : swapsWithSole [.Subscript o b tpos] a pos.line X.env = pure false := by rfl) (hw : swappedStores [.Subscript o b tpos] a X.env = pure none := by rfl) (h1 : (assignEach [.Subscript o b tpos] X.env).map (·.2) = [assign (.Subscript o b tpos) X.env] := by rfl) : BS m X G (.Assign [.Subscript o b tpos] a pos) (tAsg ta (gSub (tVar i) tb rSetL)) (sPutIx i wa wb) :=
  bs_putIx i ha hb (ps_asg ha.pe (pg_sub ho hb.pe set_list h2) hs hw h1)
end
end Fv
set_option maxRecDepth 100000
set_option maxHeartbeats 4000000
/-! Lists put together, len(set(..)), comprehensions that get a name. -/
namespace Fv
open PySem PySem.Spec PyProof.Rows L2 Gb
section
variable {m : Bool} {X : Cx} {G : Cg} {a b c d e f o : Expr} {es rest : List Expr} {ta tb tc td te tk : TE} {wa wb wc wd we wy : WE} {pos p p2 q q2 p3 apos cpos tpos : Pos} {x y z : Str} {n : Nat} {t u tt tt1 : TT} {w v wt wt1 : WT} {wl wl2 : WL} {wn : WN} {wv wv2 wv3 : WV} {st : Stmt} {i j l : Nat}
/-- xs + ys, lists -/
def wCat (wl wl2 : WL) : WN := fun ρ n E Q => wl ρ n E fun k ds n1 => wl2 ρ n1 E fun k2 es n2 => k = false ∧ k2 = false ∧ ds.length + es.length ≤ 100000 ∧ Q (ds ++ es) n2
/-- xs * k, a list -/
def wRep (wl : WL) (wb : WE) : WN := fun ρ n E Q => wl ρ n E fun k ds n1 => wb ρ n1 E fun y n2 => match y with
  | .py (.int j) => k = false ∧ -(2 ^ 63) ≤ j ∧ j < 2 ^ 63 ∧ ds.length * j.toNat ≤ 100000 ∧ Q (List.replicate j.toNat ds).flatten n2
  | _ => False
theorem bn_rep (ha : BL X G a ta wl) (hb : BE X G b tb wb) : BN X G (.BinOp a .Mult b pos) (tOp rRep ta tb) (wRep wl wb) :=
  ⟨pe_op op_rep ha.pe hb.pe, fun ρ σ n B H E Qd Q S hw xw k => ha.snd ρ σ n B H E _ _ S hw xw fun l vs kk ds n1 B1 H1 m1 pk1 hs1 hz hA q1 =>
    hb.snd ρ σ n1 B1 H1 E _ _ (S.step m1 pk1) q1 (xw.step m1) fun y d n2 B2 H2 m2 pk2 r2 q2 => by
      split at q2
      · rename_i j
        have ey := dd_int r2
        subst ey
        obtain ⟨rfl, j1, j2, hn, q2⟩ := q2
        have h1 : H2 l = some (.lst vs) := hs1.step m2 pk1
        have hlen : vs.length * j.toNat ≤ sizeLine := by
          rw [hA.len]
          exact line5 hn
        refine ⟨l, j, vs, rfl, rfl, h1, j1, j2, hlen, fun p hp => ?_⟩
        have m12 := m1.trans m2
        have mm := Mv.newOwn (pn := none) (o := .lst (List.replicate j.toNat vs).flatten) m12.s hp
        refine k p _ _ n2 _ _ (m12.trans mm.of) (pk2.mv mm) (up_none m12 hp) (free_new (S.step m12 pk2) hp) upd_same ?_ ((hA.mono m2.b).rep _) q2
        rw [List.length_flatten, List.map_replicate, List.sum_replicate_nat, Nat.mul_comm]
        exact hlen
      · exact q2.elim⟩
/-- t * k, a tuple, k from 2 on -/
def bRepT : BOp := fun x y Q => match x, y with
  | .py (.tuple ds), .py (.int j) => ds ≠ [] ∧ 2 ≤ j ∧ j ≤ 1000 ∧ ds.length ≤ 90 ∧ Q (.py (.tuple (List.replicate j.toNat ds).flatten))
  | _, _ => False
/-! ### len(set(..)) -/
def wLenSet (wl : WL) : WE := fun ρ n E Q => wl ρ n E fun k ds n1 => k = false ∧ ∃ rows D : List (List Int), ds = rows.map (fun r => PyData.tuple (r.map PyData.int)) ∧ D.Nodup ∧ (∀ k, k ∈ D ↔ k ∈ rows) ∧ D.length ≤ 75 ∧ Q (.py (.int D.length)) n1
/-! ### name = [..] -/
theorem bs_setLcG {elt tg iter : Expr} {ifs : List Expr} {scope : Scope} {own : List (Str × Nat)} {wi : TI} {g : TG} {ii : WI} {wg : WG} {is : List Nat} {py spos : Pos} {wv : WV} (hc : X.calm = true) (hN : X.N.Nodup) (hy : X.N[i]? = some y) (hyl : X.env.scope.names.lookup y = some .local)
    (hsw : swapsWith (.ListComp elt [⟨tg, iter, ifs, 0⟩] scope pos) (some (.Name y py)) spos.line X.env = pure true) (hi : BI X G tg iter wi ii) (ok : BlkOk X.N X.env.scope scope own)
    (hg : ∀ (s : Shared) (H : Hp) (C : Addr) (cl : List (Str × Addr)) (fp : List Addr), BG (X.blk s H scope (compEnvC scope cl C X.env) fp) G tg g wg is) (ht : ∀ (s : Shared) (H : Hp) (C : Addr) (cl : List (Str × Addr)) (fp : List Addr), BTs (X.blk s H scope (compEnvC scope cl C X.env) fp) G ifs tt wt)
    (he : ∀ (s : Shared) (H : Hp) (C : Addr) (cl : List (Str × Addr)) (fp : List Addr), BE (X.blk s H scope (compEnvC scope cl C X.env) fp) G elt te we) (his : ∀ i ∈ is, i ∈ own.map (·.2) := by decide) (hs : ∀ x, foldedSetIterable iter X.env x = pure x := by intro _; rfl)
    (hv : BN X G (.ListComp elt [⟨tg, iter, ifs, 0⟩] scope pos) (tLc wi g tt te (own.map (·.2))) (wLc ii wg wt we (own.map (·.2))) → BV X G (.ListComp elt [⟨tg, iter, ifs, 0⟩] scope pos) (tLc wi g tt te (own.map (·.2))) wv) :
    BS m X G (.Assign [.Name y py] (.ListComp elt [⟨tg, iter, ifs, 0⟩] scope pos) spos) (tAsg (tLc wi g tt te (own.map (·.2))) (gName i)) (sSet i wv) :=
  bs_set (hv (bn_lc hc hN hi ok hg ht he his hs)) (ps_setLc hc hN hy hyl hsw hi.pi ok (fun s H C cl fp => (hg s H C cl fp).pg) (fun s H C cl fp => (ht s H C cl fp).pt) (fun s H C cl fp => (he s H C cl fp).pe) hs)
/-- .. told -/
theorem bs_setLcE {elt tg iter : Expr} {ifs : List Expr} {scope : Scope} {own : List (Str × Nat)} {wi : TI} {g : TG} {ii : WI} {wg : WG} {is : List Nat} {py spos : Pos} (hc : X.calm = true) (hN : X.N.Nodup) (hi : BI X G tg iter wi ii) (ok : BlkOk X.N X.env.scope scope own)
    (hg : ∀ (s : Shared) (H : Hp) (C : Addr) (cl : List (Str × Addr)) (fp : List Addr), BG (X.blk s H scope (compEnvC scope cl C X.env) fp) G tg g wg is) (ht : ∀ (s : Shared) (H : Hp) (C : Addr) (cl : List (Str × Addr)) (fp : List Addr), BTs (X.blk s H scope (compEnvC scope cl C X.env) fp) G ifs tt wt)
    (he : ∀ (s : Shared) (H : Hp) (C : Addr) (cl : List (Str × Addr)) (fp : List Addr), BE (X.blk s H scope (compEnvC scope cl C X.env) fp) G elt te we) (hy : X.N[i]? = some y) (hyl : X.env.scope.names.lookup y = some .local)
    (hsw : swapsWith (.ListComp elt [⟨tg, iter, ifs, 0⟩] scope pos) (some (.Name y py)) spos.line X.env = pure true) (his : ∀ i ∈ is, i ∈ own.map (·.2) := by decide) (hs : ∀ x, foldedSetIterable iter X.env x = pure x := by intro _; rfl) :
    BS m X G (.Assign [.Name y py] (.ListComp elt [⟨tg, iter, ifs, 0⟩] scope pos) spos) (tAsg (tLc wi g tt te (own.map (·.2))) (gName i)) (sSet i (wVE (wOfN (wLc ii wg wt we (own.map (·.2)))))) :=
  bs_setLcG hc hN hy hyl hsw hi ok hg ht he his hs bn_toE
/-- .. one's own -/
theorem bs_setLcO {elt tg iter : Expr} {ifs : List Expr} {scope : Scope} {own : List (Str × Nat)} {wi : TI} {g : TG} {ii : WI} {wg : WG} {is : List Nat} {py spos : Pos} (hc : X.calm = true) (hN : X.N.Nodup) (hi : BI X G tg iter wi ii) (ok : BlkOk X.N X.env.scope scope own)
    (hg : ∀ (s : Shared) (H : Hp) (C : Addr) (cl : List (Str × Addr)) (fp : List Addr), BG (X.blk s H scope (compEnvC scope cl C X.env) fp) G tg g wg is) (ht : ∀ (s : Shared) (H : Hp) (C : Addr) (cl : List (Str × Addr)) (fp : List Addr), BTs (X.blk s H scope (compEnvC scope cl C X.env) fp) G ifs tt wt)
    (he : ∀ (s : Shared) (H : Hp) (C : Addr) (cl : List (Str × Addr)) (fp : List Addr), BE (X.blk s H scope (compEnvC scope cl C X.env) fp) G elt te we) (hy : X.N[i]? = some y) (hyl : X.env.scope.names.lookup y = some .local)
    (hsw : swapsWith (.ListComp elt [⟨tg, iter, ifs, 0⟩] scope pos) (some (.Name y py)) spos.line X.env = pure true) (his : ∀ i ∈ is, i ∈ own.map (·.2) := by decide) (hs : ∀ x, foldedSetIterable iter X.env x = pure x := by intro _; rfl) :
    BS m X G (.Assign [.Name y py] (.ListComp elt [⟨tg, iter, ifs, 0⟩] scope pos) spos) (tAsg (tLc wi g tt te (own.map (·.2))) (gName i)) (sSet i (wVN (wLc ii wg wt we (own.map (·.2))))) :=
  bs_setLcG hc hN hy hyl hsw hi ok hg ht he his hs BN.toV
end
end Fv
set_option maxRecDepth 100000
set_option maxHeartbeats 4000000
/-! Webs by value: their fields, their methods, their making. -/
namespace Fv
open PySem PySem.Spec PyProof.Rows L2 Gb
/-! ### methods -/
/-- o.m(..), W: what is wished of an exception -/
def tMethX (C : Addr) (m : Str) (sp : Sp) (W : WX) (ta : TE) (t : TA) : TE := fun σ H Q => ta σ H fun x H1 => ∃ a dx fs, x = .ref a ∧ H1 a = some (.ins C dx fs) ∧ fs.lookup m = none ∧ t σ H1 fun vs H2 => sp (x :: vs) H2 Q (fun cls d H' => W cls d σ H')
/-- C(..) -/
def tMakeX (C : Addr) (sp : Sp) (W : WX) (t : TA) : TE := fun σ H Q => t σ H fun vs H1 => ∀ x dx, H1 x = none → H1 dx = none → dx ≠ x →
  sp (.ref x :: vs) (upd (upd H1 dx (.own x)) x (.ins C dx [])) (fun v H2 => v = .non ∧ Q (.ref x) H2) (fun cls d H' => W cls d σ H')
section
variable {X : Cx} {k j : Nat} {x m : Str} {C fa : Addr} {fd : FuncData} {ps : List Str} {sp : Sp} {W : WX} {p pos apos : Pos} {e o : Expr} {es : List Expr} {ta : TE} {t : TA}
end
/-! ### a class of the module -/
structure DnM (K : PySem.W.Frag) (C : Addr) (m qual : Str) (st : Stmt) (ps : List Str) : Prop where
  ex : ∃ (f : Addr) (fd : FuncData), Fun K m qual st f fd ∧ Meth K C m f ∧ Binds K fd ps []
structure DnI (K : PySem.W.Frag) (C : Addr) (qual : Str) (st : Stmt) (ps : List Str) : Prop where
  ex : ∃ (f : Addr) (fd : FuncData), Fun K "__init__" qual st f fd ∧ Mk K C f ∧ Binds K fd ps []
/-- a method that lets nothing out, over a heap -/
structure ClM0 (F : Fx) (k : Nat) (C : Addr) (m : Str) (sp : Sp) : Prop where
  cls : Cls F.K C
  ex : ∃ (f : Addr) (fd : FuncData) (ps : List Str), FnOk F.P F.w F.K F.mg F.base CX0 k f fd ps sp ∧ Meth F.K C m f ∧ Binds F.K fd ps []
/-! ### by value -/
structure ClMB (F : Fx) (k : Nat) (m : Str) (o : Bool) (f : FB) : Prop where
  cls : Cls F.K F.C
  nm : m ≠ "_rows" ∧ m ≠ "_ties"
  ex : ∃ (fa : Addr) (fd : FuncData) (ps : List Str), FnOk F.P F.w F.K F.mg F.base (L2.CX F.P F.w) k fa fd ps (SpB F o f) ∧ Meth F.K F.C m fa ∧ Binds F.K fd ps []
def wMt (f : FB) (wo : WE) (wa : WA) : WE := fun ρ n E Q => wo ρ n E fun d n1 => match d with
  | .web s M => wa ρ n1 E fun ds n2 => f (.web s M :: ds) n2 E Q
  | _ => False
def wOnL (w : WE) : WN := fun ρ n E Q => w ρ n E fun d n' => match d with
  | .py (.list ds) => Q ds n'
  | _ => False
section
variable {X : Cx} {G : Cg} {k j : Nat} {x m : Str} {f : FB} {p pos apos : Pos} {o e : Expr} {es : List Expr} {to ta te : TE} {wo wa we : WE} {t : TA} {wt : WA} {pl : Sem Bool}
def wMtM (f : FB) (wo : WE) (wa : WA) : WV := fun ρ n E Q => wo ρ n E fun d n1 => match d with
  | .web s M => wa ρ n1 E fun ds n2 => f (.web s M :: ds) n2 E (wMatR Q)
  | _ => False
/-! ### fields, len -/
/-- what the class Web lets one look at -/
structure Wc (K : PySem.W.Frag) (C : Addr) : Prop where
  cls : Cls K C
  rows : NoAttr K C "_rows"
  ties : NoAttr K C "_ties"
def wFr (wa : WE) : WE := fun ρ n E Q => wa ρ n E fun d n1 => match d with
  | .web s M => Q (.py (.tuple (rowsD M s))) n1
  | _ => False
def wFt (wa : WE) : WE := fun ρ n E Q => wa ρ n E fun d n1 => match d with
  | .web s M => Q (.py (.tuple ((tiesW M s).map tieD))) n1
  | _ => False
/-- len(web), by the old rule -/
def spLenW (K : PySem.W.Frag) (C : Addr) : Sp := fun vs H Q _ => ∃ (x : Addr) (s : Nat) (M : Nat → Nat → Int), vs = [.ref x] ∧ WebAt K C H x s M ∧ Q (.int s) H
def wLenW (wa : WE) : WE := fun ρ n E Q => wa ρ n E fun d n1 => match d with
  | .web s _ => Q (.py (.int s)) n1
  | _ => False
end
end Fv
set_option maxRecDepth 100000
set_option maxHeartbeats 4000000
/-! What the bodies' proofs use: comprehensions and loops by invariants, types of data. -/
namespace Fv
open PySem PySem.Spec PyProof.Rows L2 Gb
structure Bz (mg : Str → Option Value) : Prop extends Bt mg where
  bool : mg "bool" = none
  any : mg "any" = none
  sorted : mg "sorted" = none
  repr : mg "repr" = none
  dict : mg "dict" = none
  str : mg "str" = none
  enumerate : mg "enumerate" = none
section
variable {wg wg1 : WG} {wt wt1 : WT} {we : WE} {wi1 : WI} {vs1 : List Nat} {ρ : List Sl} {n : Nat}
/-- each item tells f of it -/
theorem lc_map (f : D → PyData) {Q : List PyData → Nat → Prop} : ∀ (ds : List D) (acc : List PyData),
    (∀ d ∈ ds, ∀ (P : PyData → Nat → Prop) (R : Nat → Prop), P (f d) n → wg d ρ fun ρ2 => wt ρ2 n (fun _ _ => False) fun b n1 => if b = true then we ρ2 n1 (fun _ _ => False) fun z n2 => (match z with
      | .py e => P e n2
      | _ => False) else R n1) → Q (acc ++ ds.map f) n → lcGo wg wt we ds acc n ρ Q
  | [], acc, _, q => by
    rw [List.map_nil, List.append_nil] at q
    exact q
  | d :: ds, acc, h, q => by
    refine h d (List.mem_cons_self ..) (fun e n2 => lcGo wg wt we ds (acc ++ [e]) n2 ρ Q) (fun n1 => lcGo wg wt we ds acc n1 ρ Q) ?_
    refine lc_map f ds (acc ++ [f d]) (fun x hx => h x (List.mem_cons_of_mem _ hx)) ?_
    rw [List.append_assoc]
    exact q
/-- those items that p lets by -/
theorem lc_filter (p : D → Bool) (f : D → PyData) {Q : List PyData → Nat → Prop} : ∀ (ds : List D) (acc : List PyData),
    (∀ d ∈ ds, ∀ (P : PyData → Nat → Prop) (R : Nat → Prop), (p d = true → P (f d) n) → (p d = false → R n) → wg d ρ fun ρ2 => wt ρ2 n (fun _ _ => False) fun b n1 => if b = true then we ρ2 n1 (fun _ _ => False) fun z n2 => (match z with
      | .py e => P e n2
      | _ => False) else R n1) → Q (acc ++ (ds.filter p).map f) n → lcGo wg wt we ds acc n ρ Q
  | [], acc, _, q => by
    rw [List.filter_nil, List.map_nil, List.append_nil] at q
    exact q
  | d :: ds, acc, h, q => by
    refine h d (List.mem_cons_self ..) (fun e n2 => lcGo wg wt we ds (acc ++ [e]) n2 ρ Q) (fun n1 => lcGo wg wt we ds acc n1 ρ Q) (fun hp => ?_) (fun hp => ?_)
    · refine lc_filter p f ds (acc ++ [f d]) (fun x hx => h x (List.mem_cons_of_mem _ hx)) ?_
      rw [List.filter_cons_of_pos hp, List.map_cons] at q
      rw [List.append_assoc]
      exact q
    · refine lc_filter p f ds acc (fun x hx => h x (List.mem_cons_of_mem _ hx)) ?_
      rw [List.filter_cons_of_neg (by rw [hp]; exact Bool.false_ne_true)] at q
      exact q
end
/-- a loop by what holds ahead of each step -/
theorem for_inv {wg : WG} {b : WS} {E : XB} (I : Nat → List Sl → Nat → Prop) : ∀ (ds : List D) (i : Nat) (DB : EB) (ρ : List Sl) (n : Nat),
    (∀ (j : Nat) (d : D) (ρ : List Sl) (n : Nat) (DB' : EB), ds[j]? = some d → I (i + j) ρ n → DB'.rt = DB.rt → DB'.bk = DB.nx → (∀ ρ' n', I (i + j + 1) ρ' n' → DB'.nx ρ' n') → (∀ ρ' n', I (i + j + 1) ρ' n' → DB'.ct ρ' n') → wg d ρ fun ρ2 => b ρ2 n E DB') →
    I i ρ n → (∀ ρ' n', I (i + ds.length) ρ' n' → DB.nx ρ' n') → forGo wg b ds ρ n E DB
  | [], i, DB, ρ, n, _, h0, hd => hd ρ n h0
  | d :: ds, i, DB, ρ, n, hs, h0, hd => by
    have go : ∀ ρ' n', I (i + 1) ρ' n' → forGo wg b ds ρ' n' E DB := fun ρ' n' h => by
      refine for_inv I ds (i + 1) DB ρ' n' (fun j d' ρ2 n2 DB' hj hI hrt hbk hnx hct => ?_) h (fun ρ2 n2 h2 => hd ρ2 n2 (by rw [List.length_cons, Nat.add_comm ds.length 1, ← Nat.add_assoc]; exact h2))
      refine hs (j + 1) d' ρ2 n2 DB' (by simpa using hj) (by rw [Nat.add_comm j 1, ← Nat.add_assoc]; exact hI) hrt hbk (fun ρ' n' q => hnx _ _ ?_) (fun ρ' n' q => hct _ _ ?_)
      · rw [Nat.add_comm j 1, ← Nat.add_assoc] at q
        exact q
      · rw [Nat.add_comm j 1, ← Nat.add_assoc] at q
        exact q
    exact hs 0 d ρ n _ rfl h0 rfl rfl go go
theorem isB_int (d : PyData) : isB d "int" = match d with
    | .int _ => true
    | .bool _ => true
    | _ => false := by
  cases d <;> (simp only [isB, tyName]; decide +kernel)
theorem isB_bool (d : PyData) : isB d "bool" = match d with
    | .bool _ => true
    | _ => false := by
  cases d <;> (simp only [isB, tyName]; decide +kernel)
theorem isB_tuple (d : PyData) : isB d "tuple" = match d with
    | .tuple _ => true
    | _ => false := by
  cases d <;> (simp only [isB, tyName]; decide +kernel)
theorem isB_list (d : PyData) : isB d "list" = match d with
    | .list _ => true
    | _ => false := by
  cases d <;> (simp only [isB, tyName]; decide +kernel)
/-- a whole number; a truth is none -/
def isWhole : PyData → Bool
  | .int _ => true
  | _ => false
def numOf : PyData → Int
  | .int i => i
  | _ => 0
theorem blsOf_wh {f : PyData → Bool} (ds : List PyData) : blsOf (ds.map fun d => PyData.bool (f d)) = some (ds.map f) := by
  rw [show (ds.map fun d => PyData.bool (f d)) = (ds.map f).map PyData.bool from by rw [List.map_map]; rfl]
  exact blsOf_map _
theorem wholes {ds : List PyData} (h : ds.all isWhole = true) : ds = (ds.map numOf).map PyData.int := by
  rw [List.map_map]
  refine (List.map_id ds).symm.trans (List.map_congr_left fun d hd => ?_)
  have := List.all_eq_true.mp h d hd
  cases d <;> first | rfl | cases this
section
variable {X : Cx} {G : Cg} {a b c d : Expr} {ta tb tc td : TE} {wa wb wc wd : WE} {pos p tpos : Pos} {elts : List Expr} {kk : Nat}
theorem bi_enum2 (hg : Gl X "enumerate") (hm : X.mg "enumerate" = none) (ha : BE X G a ta wa) (hK : X.K = G.K := by rfl) (hs : starEach [a] X.env = (false, eval a X.env) :: starEach [] X.env := by rfl) :
    BI X G (.Tuple elts kk tpos) (.Call (.Name "enumerate" p) [a] [] pos) (iEnum G.K (tCons ta tNil)) (wIEnum wa) :=
  bi_enum ha (hK ▸ pi_enum hg hm (pa_cons ha.pe pa_nil hs) hs)
end
end Fv
set_option maxRecDepth 100000
set_option maxHeartbeats 4000000
namespace Gb
open PySem PySem.Spec PyProof.Rows L2
open PySem.W (Datum Tup T4)
section
variable {P : Program} {w : World} {K : PySem.W.Frag} {mg : Str → Option Value} {base : Heap}
-- GbB
theorem put_turn {c : Addr} {t l t' : Int} : putK (penD c t l) (.inr "turn") (.int t') = penD c t' l := rfl
-- GbB
theorem put_left {c : Addr} {t l l' : Int} : putK (penD c t l) (.inr "left") (.int l') = penD c t l' := rfl
-- GbB
theorem penD_inj {c c' : Addr} {t l t' l' : Int} (h : penD c t l = penD c' t' l') : t = t' := by
  injection h with _ h2
  injection h2 with h3 _
  injection h3 with _ h5
  injection h5
-- GbB
theorem pen_go {H : Hp} {p c : Addr} {t l t' l' : Int} {xs : List V} (h : H p = some (.dK (penD c t l))) (hc : H c = some (.lst xs)) (h0 : 0 ≤ t') (h1 : t' ≤ t + 1) (h2 : 0 ≤ l') : Go p c 1 H (upd H p (.dK (penD c t' l'))) := by
  refine ⟨fun b o e n => ?_, fun n q => ?_⟩
  · have nb : b ≠ p := fun z => by
      rw [z, h] at e
      cases e
      exact n
    rw [upd_ne nb]
    exact e
  · obtain ⟨t0, l0, ys, a1, a2, a3, a4, a5⟩ := q
    rw [h] at a1
    injection a1 with a1
    injection a1 with a1
    have e := penD_inj a1
    have nc : c ≠ p := fun z => by
      rw [z, h] at a2
      cases a2
    exact ⟨t', l', ys, upd_same, by rw [upd_ne nc]; exact a2, h0, by omega, h2⟩
-- GbB
def primesV : List V := [.int 2147483647, .int 2147483629, .int 2147483587, .int 2147483579, .int 2147483563]
-- GbB
theorem primes_at {i : Int} (h0 : 0 ≤ i) (h1 : i < 5) : ∃ m : Int, atI primesV i = some (.int m) ∧ 0 < m ∧ m ≤ 2147483647 := by
  have h : i = 0 ∨ i = 1 ∨ i = 2 ∨ i = 3 ∨ i = 4 := by omega
  rcases h with rfl | rfl | rfl | rfl | rfl
  · exact ⟨_, rfl, by decide, by decide⟩
  · exact ⟨_, rfl, by decide, by decide⟩
  · exact ⟨_, rfl, by decide, by decide⟩
  · exact ⟨_, rfl, by decide, by decide⟩
  · exact ⟨_, rfl, by decide, by decide⟩
-- GbB
theorem dput_left {H : Hp} {p c : Addr} {t l l' : Int} (h : H p = some (.dK (penD c t l))) : DPut H p (.str "left") (.int l') (upd H p (.dK (penD c t l'))) := by
  have q := DPut.k (k := .inr "left") (v := .int l') h (by show 3 < sizeLine; decide)
  rw [put_left] at q
  exact q
-- GbB
theorem dput_turn {H : Hp} {p c : Addr} {t l t' : Int} (h : H p = some (.dK (penD c t l))) : DPut H p (.str "turn") (.int t') (upd H p (.dK (penD c t' l))) := by
  have q := DPut.k (k := .inr "turn") (v := .int t') h (by show 3 < sizeLine; decide)
  rw [put_turn] at q
  exact q
-- GbB
def spDraw : Sp := fun vs H Q _ => ∃ (p c : Addr) (n : Nat) (many : Int), vs = [.ref p, .int many] ∧ Pen H p c n ∧ n < 2 ^ 60 ∧ 0 < many ∧ many < 1000000 ∧ ∀ r H', 0 ≤ r → r < many → Go p c 1 H H' → Q (.int r) H'
-- GbC
def spPick (K : PySem.W.Frag) : Sp := fun vs H Q _ => ∃ (p c l : Addr) (n : Nat) (xs : List V), vs = [.ref p, .ref l] ∧ Pen H p c n ∧ n + 1 ≤ 2 ^ 60 ∧ SqL K H l xs ∧ 0 < xs.length ∧ xs.length < 1000 ∧
  ∀ (i : Nat) (v : V) (H' : Hp), xs[i]? = some v → Go p c 1 H H' → Q v H'
-- GbC
def spGreat : Sp := fun vs H Q _ => ∃ (p c : Addr) (n : Nat) (k : Nat), vs = [.ref p, .int (k : Int)] ∧ Pen H p c n ∧ n + k ≤ 2 ^ 60 ∧ k ≤ 1000 ∧ ∀ (r : Nat) H', r < 10 ^ k → Go p c k H H' → Q (.int (r : Int)) H'
-- GbC
def spShuf (K : PySem.W.Frag) : Sp := fun vs H Q _ => ∃ (p c l : Addr) (n : Nat) (xs : List V), vs = [.ref p, .ref l] ∧ Pen H p c n ∧ n + xs.length ≤ 2 ^ 60 ∧ SqL K H l xs ∧ xs.length < 1000 ∧
  ∀ r ys H', H r = none → H' r = some (.lst ys) → ys.Perm xs → Go p c xs.length H H' → Q (.ref r) H'
-- GbC
theorem erase_perm {α : Type} {y : α} : ∀ {zs : List α} {k : Nat}, zs[k]? = some y → (y :: zs.eraseIdx k).Perm zs
  | [], _, h => by simp at h
  | z :: r, 0, h => by
    have e : z = y := Option.some.inj h
    rw [e]
    exact List.Perm.refl _
  | z :: r, k + 1, h => by
    have ih := erase_perm (zs := r) (k := k) h
    show (y :: z :: r.eraseIdx k).Perm (z :: r)
    exact (List.Perm.swap z y _).trans (ih.cons z)
-- GbC
theorem seqIx {r : Int} {m : Nat} (h0 : 0 ≤ r) (h1 : r < m) : seqIndex? r m = some r.toNat := (ixN_seq (by unfold ixN; rw [if_pos h0, if_pos h1])).1
-- GbD
abbrev Tie := T4 Int Int Int Int
-- GbD
structure TieOk (m s : Int) (t : Tie) : Prop where
  a0 : 0 ≤ t.a
  ab : t.a < t.b
  bs : t.b < s
  c1 : 1 ≤ t.c
  cm : t.c ≤ m
  d1 : 1 ≤ t.d
  dm : t.d ≤ m
-- GbD
/-- the ties of a web of s posts, at most m cords each way -/
structure TiesOk (m s : Int) (ts : List Tie) : Prop where
  all : ∀ t ∈ ts, TieOk m s t
  nd : (ts.map fun t => (t.a, t.b)).Nodup
-- GbD
def rowT (f n : Int) : List Tie := (List.range (n - 1).toNat).map fun (k : Nat) => ⟨f + (k : Int), f + (k : Int) + 1, 1, 1⟩
-- GbD
def movT (ts : List Tie) (by_ : Int) : List Tie := ts.map fun t => ⟨t.a + by_, t.b + by_, t.c, t.d⟩
-- GbD
def armsT : Int → List Int → List Tie
  | _, [] => []
  | f, n :: r => (⟨0, f, 1, 1⟩ :: rowT f n) ++ armsT (f + n) r
-- GbD
def spRow (K : PySem.W.Frag) : Sp := fun vs H Q _ => ∃ f n : Int, vs = [.int f, .int n] ∧ -1000 ≤ n ∧ n ≤ 1000 ∧ ∀ r H', Same H H' → Ls K (nw H H') r (rowT f n) → Q r H'
-- GbD
def spMov (K : PySem.W.Frag) : Sp := fun vs H Q _ => ∃ (v : V) (ts : List Tie) (b : Int), vs = [v, .int b] ∧ Is K H v ts ∧ ts.length ≤ 1000 ∧ ∀ r H', Same H H' → Ls K (nw H H') r (movT ts b) → Q r H'
-- GbE
theorem cut_to (xs : List V) (n : Nat) : cutV xs none (some (n : Int)) = xs.take n := by
  unfold cutV
  rw [HT.sIx_none, HT.sIx_nat]
  show (xs.drop 0).take (min n xs.length - 0) = xs.take n
  rw [List.drop_zero, Nat.sub_zero]
  by_cases h : n ≤ xs.length
  · rw [Nat.min_eq_left h]
  · rw [Nat.min_eq_right (by omega), List.take_length, List.take_of_length_le (by omega)]
-- GbE
/-- one tie of so many, there so many cords one way -/
structure Dbl (ts : List Tie) (at_ : Nat) (times : Int) (ts' : List Tie) : Prop where
  ex : ∃ (t : Tie) (x y : Int), ts[at_]? = some t ∧ ((x = times ∧ y = 1) ∨ (x = 1 ∧ y = times)) ∧ ts' = ts.take at_ ++ [⟨t.a, t.b, x, y⟩] ++ ts.drop (at_ + 1)
-- GbE
def spDbl (K : PySem.W.Frag) : Sp := fun vs H Q _ => ∃ (p c : Addr) (n : Nat) (v : V) (ts : List Tie) (at_ : Nat) (times : Int), vs = [.ref p, v, .int (at_ : Int), .int times] ∧ Pen H p c n ∧ n + 1 ≤ 2 ^ 60 ∧ Is K H v ts ∧ at_ < ts.length ∧ ts.length ≤ 1000 ∧
  ∀ (r : V) (H' : Hp) (ts' : List Tie), Go p c 1 H H' → Ls K H' r ts' → Dbl ts at_ times ts' → Q r H'
-- GbF
def spArms (K : PySem.W.Frag) : Sp := fun vs H Q _ => ∃ (v : V) (ls : List Int), vs = [v] ∧ Is K H v ls ∧ ls.length ≤ 10 ∧ (∀ n ∈ ls, 0 ≤ n ∧ n ≤ 100) ∧ ∀ r H', Same H H' → Ls K (nw H H') r (armsT 1 ls) → Q r H'
-- GbG
abbrev pr (t : Tie) : Int × Int := (t.a, t.b)
-- GbG
theorem TieOk.mono {m s m' s' : Int} {t : Tie} (h : TieOk m s t) (hm : m ≤ m') (hs : s ≤ s') : TieOk m' s' t := ⟨h.a0, h.ab, Int.lt_of_lt_of_le h.bs hs, h.c1, Int.le_trans h.cm hm, h.d1, Int.le_trans h.dm hm⟩
-- GbG
theorem TiesOk.mono {m s m' s' : Int} {ts : List Tie} (h : TiesOk m s ts) (hm : m ≤ m') (hs : s ≤ s') : TiesOk m' s' ts := ⟨fun t ht => (h.all t ht).mono hm hs, h.nd⟩
-- GbG
theorem TiesOk.nil {m s : Int} : TiesOk m s [] := ⟨fun t ht => (by cases ht), List.nodup_nil⟩
-- GbG
theorem nd_iff {ts : List Tie} : (ts.map pr).Nodup ↔ ts.Pairwise fun x y => pr x ≠ pr y := List.pairwise_map
-- GbG
theorem TiesOk.perm {m s : Int} {ts us : List Tie} (h : TiesOk m s ts) (p : us.Perm ts) : TiesOk m s us := ⟨fun t ht => h.all t (p.mem_iff.mp ht), ((p.map pr).nodup_iff).mpr h.nd⟩
-- GbG
theorem TiesOk.app {m s : Int} {ts us : List Tie} (h : TiesOk m s ts) (h' : TiesOk m s us) (d : ∀ x ∈ ts, ∀ y ∈ us, pr x ≠ pr y) : TiesOk m s (ts ++ us) := by
  refine ⟨fun t ht => ?_, ?_⟩
  · rcases List.mem_append.mp ht with q | q
    · exact h.all t q
    · exact h'.all t q
  · show ((ts ++ us).map pr).Nodup
    rw [nd_iff, List.pairwise_append]
    exact ⟨nd_iff.mp h.nd, nd_iff.mp h'.nd, d⟩
-- GbG
theorem TiesOk.one {m s : Int} {t : Tie} (h : TieOk m s t) : TiesOk m s [t] := ⟨fun u hu => by
  rw [List.mem_singleton] at hu
  rw [hu]
  exact h, by simp⟩
-- GbG
theorem TiesOk.snoc {m s : Int} {ts : List Tie} {t : Tie} (h : TiesOk m s ts) (ht : TieOk m s t) (d : ∀ x ∈ ts, pr x ≠ pr t) : TiesOk m s (ts ++ [t]) :=
  h.app (.one ht) fun x hx y hy => by
    rw [List.mem_singleton] at hy
    rw [hy]
    exact d x hx
-- GbG
/-- rising by their second posts, from lo to below hi -/
structure Ris (lo hi : Int) (ts : List Tie) : Prop where
  pw : ts.Pairwise fun x y => x.b < y.b
  lo_ : ∀ t ∈ ts, lo ≤ t.b
  hi_ : ∀ t ∈ ts, t.b < hi
-- GbG
theorem Ris.app {lo mi hi : Int} {ts us : List Tie} (h : Ris lo mi ts) (h' : Ris mi hi us) (h1 : lo ≤ mi) (h2 : mi ≤ hi) : Ris lo hi (ts ++ us) := by
  refine ⟨List.pairwise_append.mpr ⟨h.pw, h'.pw, fun x hx y hy => ?_⟩, fun t ht => ?_, fun t ht => ?_⟩
  · have q1 := h.hi_ x hx
    have q2 := h'.lo_ y hy
    omega
  · rcases List.mem_append.mp ht with q | q
    · exact h.lo_ t q
    · have := h'.lo_ t q
      omega
  · rcases List.mem_append.mp ht with q | q
    · have := h.hi_ t q
      omega
    · exact h'.hi_ t q
-- GbG
theorem Ris.ties {m s lo hi : Int} {ts : List Tie} (r : Ris lo hi ts) (h : ∀ t ∈ ts, TieOk m s t) : TiesOk m s ts := by
  refine ⟨h, ?_⟩
  show (ts.map pr).Nodup
  rw [nd_iff]
  refine r.pw.imp fun {x y} q e => ?_
  have e2 : x.b = y.b := congrArg Prod.snd e
  omega
-- GbG
theorem Dbl.split {ts ts' : List Tie} {i : Nat} {times : Int} (d : Dbl ts i times ts') : ∃ (t t' : Tie), ts = ts.take i ++ [t] ++ ts.drop (i + 1) ∧ ts' = ts.take i ++ [t'] ++ ts.drop (i + 1) ∧ t'.a = t.a ∧ t'.b = t.b ∧ ((t'.c = times ∧ t'.d = 1) ∨ (t'.c = 1 ∧ t'.d = times)) := by
  obtain ⟨t, x, y, ht, hxy, rfl⟩ := d.ex
  obtain ⟨hi, rfl⟩ := List.getElem?_eq_some_iff.mp ht
  refine ⟨ts[i], _, ?_, rfl, rfl, rfl, hxy⟩
  rw [List.append_assoc, List.singleton_append, ← List.drop_eq_getElem_cons hi, List.take_append_drop]
-- GbG
theorem Dbl.len {ts ts' : List Tie} {i : Nat} {times : Int} (d : Dbl ts i times ts') : ts'.length = ts.length := by
  obtain ⟨t, t', e1, e2, _⟩ := d.split
  have h1 := congrArg List.length e1
  have h2 := congrArg List.length e2
  rw [List.length_append, List.length_append, List.length_singleton] at h1 h2
  omega
-- GbG
theorem Dbl.ok {m m' s times : Int} {ts ts' : List Tie} {i : Nat} (d : Dbl ts i times ts') (h : TiesOk m s ts) (hm : m ≤ m') (h1 : 1 ≤ times) (h2 : times ≤ m') (h3 : 1 ≤ m') : TiesOk m' s ts' := by
  obtain ⟨t, t', e1, e2, ea, eb, hc⟩ := d.split
  have hmem : t ∈ ts := by
    rw [e1]
    exact List.mem_append_left _ (List.mem_append_right _ (List.mem_singleton.mpr rfl))
  have ht := h.all t hmem
  refine ⟨fun u hu => ?_, ?_⟩
  · rw [e2] at hu
    rcases List.mem_append.mp hu with q | q
    · rcases List.mem_append.mp q with q | q
      · exact (h.all u (List.mem_of_mem_take q)).mono hm (Int.le_refl _)
      · rw [List.mem_singleton] at q
        rw [q]
        refine ⟨by rw [ea]; exact ht.a0, by rw [ea, eb]; exact ht.ab, by rw [eb]; exact ht.bs, ?_, ?_, ?_, ?_⟩
        · rcases hc with ⟨a, b⟩ | ⟨a, b⟩ <;> omega
        · rcases hc with ⟨a, b⟩ | ⟨a, b⟩ <;> omega
        · rcases hc with ⟨a, b⟩ | ⟨a, b⟩ <;> omega
        · rcases hc with ⟨a, b⟩ | ⟨a, b⟩ <;> omega
    · exact (h.all u (List.mem_of_mem_drop q)).mono hm (Int.le_refl _)
  · have e : ts'.map pr = ts.map pr := by
      rw [e2, List.map_append, List.map_append]
      have e3 : ts.map pr = (ts.take i).map pr ++ [pr t] ++ (ts.drop (i + 1)).map pr := by
        have q := congrArg (List.map pr) e1
        rw [List.map_append, List.map_append] at q
        exact q
      rw [e3]
      have ep : pr t' = pr t := by
        show (t'.a, t'.b) = (t.a, t.b)
        rw [ea, eb]
      show (ts.take i).map pr ++ [pr t'] ++ _ = _
      rw [ep]
    show (ts'.map pr).Nodup
    rw [e]
    exact h.nd
-- GbG
def renT (f : Int → Int) (t : Tie) : Tie := if f t.a < f t.b then ⟨f t.a, f t.b, t.c, t.d⟩ else ⟨f t.b, f t.a, t.d, t.c⟩
-- GbG
theorem ren_ties {m s : Int} {ts : List Tie} {f : Int → Int} (h : TiesOk m s ts) (hr : ∀ i, 0 ≤ i → i < s → 0 ≤ f i ∧ f i < s) (hi : ∀ i j, 0 ≤ i → i < s → 0 ≤ j → j < s → f i = f j → i = j) : TiesOk m s (ts.map (renT f)) := by
  refine ⟨fun u hu => ?_, ?_⟩
  · obtain ⟨t, ht, rfl⟩ := List.mem_map.mp hu
    have q := h.all t ht
    have q1 := q.a0
    have q2 := q.ab
    have q3 := q.bs
    have ha := hr t.a (by omega) (by omega)
    have hb := hr t.b (by omega) (by omega)
    unfold renT
    by_cases c : f t.a < f t.b
    · rw [if_pos c]
      exact ⟨ha.1, c, hb.2, q.c1, q.cm, q.d1, q.dm⟩
    · rw [if_neg c]
      have ne : f t.a ≠ f t.b := fun e => by
        have := hi _ _ (by omega) (by omega) (by omega) (by omega) e
        omega
      exact ⟨hb.1, by show f t.b < f t.a; omega, ha.2, q.d1, q.dm, q.c1, q.cm⟩
  · show ((ts.map (renT f)).map pr).Nodup
    rw [nd_iff, List.pairwise_map]
    have hp := nd_iff.mp h.nd
    refine List.Pairwise.imp_of_mem (fun {x y} hx hy q e => q ?_) hp
    have x1 := h.all x hx
    have y1 := h.all y hy
    have xa := x1.a0
    have xb := x1.ab
    have xs := x1.bs
    have ya := y1.a0
    have yb := y1.ab
    have ys := y1.bs
    have key : ∀ i j, 0 ≤ i → i < s → 0 ≤ j → j < s → f i = f j → i = j := hi
    have e1 : (renT f x).a = (renT f y).a := congrArg Prod.fst e
    have e2 : (renT f x).b = (renT f y).b := congrArg Prod.snd e
    show (x.a, x.b) = (y.a, y.b)
    unfold renT at e1 e2
    by_cases c1 : f x.a < f x.b
    · rw [if_pos c1] at e1 e2
      by_cases c2 : f y.a < f y.b
      · rw [if_pos c2] at e1 e2
        rw [key x.a y.a (by omega) (by omega) (by omega) (by omega) e1, key x.b y.b (by omega) (by omega) (by omega) (by omega) e2]
      · rw [if_neg c2] at e1 e2
        have k1 := key x.a y.b (by omega) (by omega) (by omega) (by omega) e1
        have k2 := key x.b y.a (by omega) (by omega) (by omega) (by omega) e2
        omega
    · rw [if_neg c1] at e1 e2
      by_cases c2 : f y.a < f y.b
      · rw [if_pos c2] at e1 e2
        have k1 := key x.b y.a (by omega) (by omega) (by omega) (by omega) e1
        have k2 := key x.a y.b (by omega) (by omega) (by omega) (by omega) e2
        omega
      · rw [if_neg c2] at e1 e2
        rw [key x.b y.b (by omega) (by omega) (by omega) (by omega) e1, key x.a y.a (by omega) (by omega) (by omega) (by omega) e2]
-- GbH
/-- (size, ties) -/
def Web2 (K : PySem.W.Frag) (H : Hp) (r : V) (s : Int) (ts : List Tie) : Prop := ∃ t v, r = .ref t ∧ H t = some (.tup [.int s, v]) ∧ Ls K H v ts
-- GbH
theorem Ls.nw {K : PySem.W.Frag} {H H' : Hp} {v : V} {ts : List Tie} (h : Ls K (nw H H') v ts) : Ls K H' v ts := h.ex (Ex.of nw_le)
-- GbH
def spGood (K : PySem.W.Frag) : Sp := fun vs H Q _ => ∃ (p c : Addr) (n : Nat) (most : Int), vs = [.ref p, .int most] ∧ Pen H p c n ∧ n + 10 ≤ 2 ^ 60 ∧ 1 ≤ most ∧ most ≤ 12 ∧
  ∀ (r : V) (H' : Hp) (s : Int) (ts : List Tie), Go p c 10 H H' → Web2 K H' r s ts → 1 ≤ s → s ≤ most → TiesOk 3 s ts → ts.length ≤ 20 → Q r H'
-- GbI
def spFlat (K : PySem.W.Frag) : Sp := fun vs H Q _ => ∃ (p c : Addr) (n : Nat) (most : Int), vs = [.ref p, .int most] ∧ Pen H p c n ∧ n + 10 ≤ 2 ^ 60 ∧ 2 ≤ most ∧ most ≤ 12 ∧
  ∀ (r : V) (H' : Hp) (s : Int) (ts : List Tie), Go p c 10 H H' → Web2 K H' r s ts → 2 ≤ s → s ≤ most → TiesOk 4 s ts → ts.length ≤ 20 → 0 < ts.length → Q r H'
-- GbJ
/-- the same web, its posts called otherwise, its ties in another order -/
structure Ren (s : Int) (ts ts' : List Tie) : Prop where
  ex : ∃ f : Int → Int, (∀ i, 0 ≤ i → i < s → 0 ≤ f i ∧ f i < s) ∧ (∀ i j, 0 ≤ i → i < s → 0 ≤ j → j < s → f i = f j → i = j) ∧ ts'.Perm (ts.map (renT f))
-- GbJ
theorem Ren.ok {m s : Int} {ts ts' : List Tie} (r : Ren s ts ts') (h : TiesOk m s ts) : TiesOk m s ts' := by
  obtain ⟨f, h1, h2, h3⟩ := r.ex
  exact (ren_ties h h1 h2).perm h3
-- GbJ
theorem Ren.len {s : Int} {ts ts' : List Tie} (r : Ren s ts ts') : ts'.length = ts.length := by
  obtain ⟨f, h1, h2, h3⟩ := r.ex
  rw [h3.length_eq, List.length_map]
-- GbJ
def spRen (K : PySem.W.Frag) : Sp := fun vs H Q _ => ∃ (p c : Addr) (n : Nat) (s m : Int) (v : V) (ts : List Tie), vs = [.ref p, .int s, v] ∧ Pen H p c n ∧ n + 300 ≤ 2 ^ 60 ∧ 1 ≤ s ∧ s ≤ 12 ∧ Is K H v ts ∧ TiesOk m s ts ∧ ts.length ≤ 200 ∧
  ∀ (r : V) (H' : Hp) (ts' : List Tie), Go p c 300 H H' → Ls K H' r ts' → Ren s ts ts' → Q r H'
-- GbK
def spWeb (K : PySem.W.Frag) (lo : Int) : Sp := fun vs H Q _ => ∃ (p c : Addr) (n : Nat) (most : Int), vs = [.ref p, .int most] ∧ Pen H p c n ∧ n + 1000 ≤ 2 ^ 60 ∧ lo ≤ most ∧ most ≤ 12 ∧
  ∀ (r : V) (H' : Hp) (s : Int) (ts : List Tie), Go p c 1000 H H' → Web2 K H' r s ts → 1 ≤ s → s ≤ most → TiesOk 9 s ts → ts.length ≤ 200 → Q r H'
-- GbM
def spSteep (K : PySem.W.Frag) : Sp := fun vs H Q _ => ∃ (p c : Addr) (n : Nat) (most : Int), vs = [.ref p, .int most] ∧ Pen H p c n ∧ n + 20 ≤ 2 ^ 60 ∧ 2 ≤ most ∧ most ≤ 12 ∧
  ∀ (r : V) (H' : Hp) (s : Int) (ts : List Tie), Go p c 20 H H' → Web2 K H' r s ts → 2 ≤ s → s ≤ most → TiesOk 9 s ts → ts.length ≤ 30 → Q r H'
-- GbN
/-- the ties so far of a web whose posts are gone through: all with first posts below i, those of i with second posts below i + 1 + j -/
structure AnyAt (K : PySem.W.Frag) (p c : Addr) (H : Hp) (l : Addr) (s : Int) (i j : Nat) (H' : Hp) (vs : List V) (ts : List Tie) : Prop where
  loc : Loc p c (1 + 48 * i + 4 * j) H H' l vs
  all : All K (del H' l) vs ts
  ok : TiesOk 9 s ts
  lt : ∀ t ∈ ts, t.a < i ∨ (t.a = i ∧ t.b < i + 1 + j)
  len : ts.length ≤ 12 * i + j
-- GbO
def spSome (K : PySem.W.Frag) : Sp := fun vs H Q _ => ∃ (p c : Addr) (n : Nat) (most : Int), vs = [.ref p, .int most] ∧ Pen H p c n ∧ n + 2000 ≤ 2 ^ 60 ∧ 2 ≤ most ∧ most ≤ 12 ∧
  ∀ (r : V) (H' : Hp) (s : Int) (ts : List Tie), Go p c 2000 H H' → Web2 K H' r s ts → 1 ≤ s → s ≤ most → TiesOk 9 s ts → ts.length ≤ 200 → Q r H'
-- GbO
def spNum (K : PySem.W.Frag) : Sp := fun vs H Q _ => ∃ (p c : Addr) (n far : Nat), vs = [.ref p, .int (far : Int)] ∧ Pen H p c n ∧ n + 110 ≤ 2 ^ 60 ∧ 2 ≤ far ∧ far ≤ 60 ∧
  ∀ (r : Int) (H' : Hp), Go p c 110 H H' → -(10 ^ far) < r → r < 10 ^ far → Q (.int r) H'
-- GbP
/-- a row of numbers at an address, a standing -/
def rowH (ns : List Int) : HO := .tup (ns.map V.int)
-- GbP
structure StAt (H : Hp) (v : V) (o n : List Int) : Prop where
  ex : ∃ t a b, v = .ref t ∧ H t = some (.tup [.ref a, .ref b]) ∧ H a = some (rowH o) ∧ H b = some (rowH n)
-- GbP
theorem StAt.same {H H' : Hp} {v : V} {o n : List Int} (e : Ex H H') (h : StAt H v o n) : StAt H' v o n := by
  obtain ⟨t, a, b, rfl, h1, h2, h3⟩ := h.ex
  exact ⟨t, a, b, rfl, e _ _ h1 trivial, e _ _ h2 trivial, e _ _ h3 trivial⟩
-- GbP
def spStand (K : PySem.W.Frag) : Sp := fun vs H Q _ => ∃ (p c : Addr) (m far : Nat) (s : Int), vs = [.ref p, .int s, .int (far : Int)] ∧ Pen H p c m ∧ m + 3000 ≤ 2 ^ 60 ∧ 1 ≤ s ∧ s ≤ 12 ∧ 2 ≤ far ∧ far ≤ 60 ∧
  ∀ (r : V) (H' : Hp) (o n : List Int), Go p c 3000 H H' → StAt H' r o n → (o.length : Int) = s → (n.length : Int) = s → (∀ k ∈ o ++ n, -(10 ^ far) < k ∧ k < 10 ^ far) → Q r H'
end
end Gb
set_option maxRecDepth 100000
set_option maxHeartbeats 4000000
namespace Gb
open PySem PySem.Spec PyProof.Rows L2
open PySem.W (Datum Tup T4)
def rowV (M : Nat → Nat → Int) (s i : Nat) : List V := (List.range s).map fun j => V.int (M i j)
/-- there and back of the ties -/
def setM (M : Nat → Nat → Int) (i j : Nat) (x : Int) : Nat → Nat → Int := fun a b => if a = i ∧ b = j then x else M a b
def tieM (M : Nat → Nat → Int) (t : Tie) : Nat → Nat → Int := setM (setM M t.a.toNat t.b.toNat t.c) t.b.toNat t.a.toNat t.d
def matOf (ts : List Tie) : Nat → Nat → Int := ts.foldl tieM fun _ _ => 0
theorem ixN_nat {n i : Nat} (h : i < n) : ixN n (i : Int) = some i := by
  unfold ixN
  rw [if_pos (by omega), if_pos (by omega), Int.toNat_natCast]
theorem atI_nat {xs : List V} {i : Nat} {v : V} (h : xs[i]? = some v) : atI xs (i : Int) = some v := by
  unfold atI
  rw [ixN_nat (List.getElem?_eq_some_iff.mp h).1]
  exact h
/-- a list of lists of its own -/
structure Rows (H0 H : Hp) (D : Addr) (rs : List Addr) (R : Nat → List V) : Prop where
  fD : H0 D = none
  at_ : H D = some (.lst (rs.map V.ref))
  nd : rs.Nodup
  nD : D ∉ rs
  fr : ∀ a ∈ rs, H0 a = none
  it : ∀ i a, rs[i]? = some a → H a = some (.lst (R i))
  ol : Same H0 H
section
variable {H0 H H' : Hp} {D : Addr} {rs : List Addr} {R : Nat → List V}
theorem Rows.start (h : H0 D = none) : Rows H0 (upd H0 D (.lst [])) D [] R := ⟨h, upd_same, List.Pairwise.nil, (fun h => by cases h), (fun a h => by cases h), (fun i a h => by cases h), same_new h⟩
theorem Rows.same (A : Rows H0 H D rs R) (e : Same H H') : Rows H0 H' D rs R := ⟨A.fD, e _ _ A.at_, A.nd, A.nD, A.fr, fun i a h => e _ _ (A.it i a h), A.ol.trans e⟩
theorem Rows.snoc (A : Rows H0 H D rs R) {l : Addr} {z : List V} (h : H l = none) (hz : R rs.length = z) : Rows H0 (upd (upd H l (.lst z)) D (.lst (rs.map V.ref ++ [.ref l]))) D (rs ++ [l]) R := by
  have hlD : l ≠ D := fun e => by
    rw [e, A.at_] at h
    cases h
  have hl0 : H0 l = none := A.ol.free h
  have nl : l ∉ rs := fun hm => by
    obtain ⟨i, hi⟩ := List.getElem?_of_mem hm
    rw [A.it i l hi] at h
    cases h
  have ne : ∀ a ∈ rs, a ≠ D := fun a ha e => A.nD (e ▸ ha)
  refine ⟨A.fD, ?_, ?_, ?_, ?_, ?_, ?_⟩
  · rw [upd_same, List.map_append]
    rfl
  · exact List.nodup_append.mpr ⟨A.nd, List.pairwise_singleton _ _, fun a ha b hb => by
      rw [List.mem_singleton.mp hb]
      exact fun e => nl (e ▸ ha)⟩
  · intro hm
    rcases List.mem_append.mp hm with hm | hm
    · exact A.nD hm
    · exact hlD (List.mem_singleton.mp hm).symm
  · intro a ha
    rcases List.mem_append.mp ha with ha | ha
    · exact A.fr a ha
    · rw [List.mem_singleton.mp ha]
      exact hl0
  · intro i a hi
    by_cases hlt : i < rs.length
    · rw [List.getElem?_append_left hlt] at hi
      have ha := List.mem_of_getElem? hi
      have nal : a ≠ l := fun e => nl (e ▸ ha)
      rw [upd_ne (ne a ha), upd_ne nal]
      exact A.it i a hi
    · rw [List.getElem?_append_right (by omega)] at hi
      have h0 : i - rs.length = 0 := by
        cases e : i - rs.length with
        | zero => rfl
        | succ n =>
          rw [e] at hi
          cases hi
      rw [h0] at hi
      have ea : l = a := Option.some.inj hi
      have ei : i = rs.length := by omega
      rw [← ea, upd_ne hlD, upd_same, ei, hz]
  · intro b o e
    have h1 : b ≠ D := fun q => by
      rw [q, A.fD] at e
      cases e
    have h2 : b ≠ l := fun q => by
      rw [q, hl0] at e
      cases e
    rw [upd_ne h1, upd_ne h2]
    exact A.ol _ _ e
theorem Rows.set (A : Rows H0 H D rs R) {i : Nat} {a : Addr} {z : List V} {R' : Nat → List V} (h : rs[i]? = some a) (hz : R' i = z) (ho : ∀ k, k ≠ i → R' k = R k) : Rows H0 (upd H a (.lst z)) D rs R' := by
  have ha := List.mem_of_getElem? h
  have hil := (List.getElem?_eq_some_iff.mp h).1
  refine ⟨A.fD, ?_, A.nd, A.nD, A.fr, ?_, ?_⟩
  · rw [upd_ne (fun e => A.nD (by rw [e]; exact ha))]
    exact A.at_
  · intro k b hk
    by_cases e : k = i
    · subst e
      have eb : a = b := Option.some.inj (h.symm.trans hk)
      rw [← eb, upd_same, hz]
    · have hkl := (List.getElem?_eq_some_iff.mp hk).1
      have nb : b ≠ a := fun q => by
        have := (List.getElem_inj (h₀ := hkl) (h₁ := hil) A.nd).mp (by
          have q1 := (List.getElem?_eq_some_iff.mp hk).2
          have q2 := (List.getElem?_eq_some_iff.mp h).2
          rw [q1, q2, q])
        exact e this
      rw [upd_ne nb, ho k e]
      exact A.it k b hk
  · intro b o e
    rw [upd_ne (fun q => by rw [q, A.fr a ha] at e; cases e)]
    exact A.ol _ _ e
end
end Gb
set_option maxRecDepth 100000
set_option maxHeartbeats 4000000
/-! Maths of webs: ties told and given, gains as sums over ties, bounds. -/
namespace Fv
open PySem PySem.Spec PyProof.Rows L2 Gb
open PySem.W (T4)
/-! ### pairs -/
/-- rising, pair by pair -/
def PLt (p q : Nat × Nat) : Prop := p.1 < q.1 ∨ (p.1 = q.1 ∧ p.2 < q.2)
theorem PLt.ne {p q : Nat × Nat} (h : PLt p q) : p ≠ q := fun e => by
  subst e
  rcases h with h | h
  · exact Nat.lt_irrefl _ h
  · exact Nat.lt_irrefl _ h.2
/-! ### there and back -/
/-- one tie ahead of another -/
def TLt (t u : Tw) : Prop := t.a < u.a ∨ (t.a = u.a ∧ t.b < u.b)
theorem TLt.ne {t u : Tw} (h : TLt t u) : t ≠ u := fun e => by
  subst e
  rcases h with h | h
  · exact Int.lt_irrefl _ h
  · exact Int.lt_irrefl _ h.2
/-! ### gains -/
def up (i : Int) : Int := if i > 0 then i else 0
def addAt (xs : List Int) (i : Nat) (d : Int) : List Int := xs.set i (xs.getD i 0 + d)
def gainT (ns : List Int) (acc : List Int) (t : Tw) : List Int :=
  addAt (addAt acc t.b.toNat (t.c * up (ns.getD t.a.toNat 0))) t.a.toNat (t.d * up (ns.getD t.b.toNat 0))
def gainsOf (ts : List Tw) (s : Nat) (ns : List Int) : List Int := ts.foldl (gainT ns) (List.replicate s 0)
def lessI (xs ys : List Int) : List Int := List.zipWith (fun x y => x - y) xs ys
theorem addAt_len {xs : List Int} {i : Nat} {d : Int} : (addAt xs i d).length = xs.length := by
  unfold addAt
  rw [List.length_set]
theorem gainT_len {ns acc : List Int} {t : Tw} : (gainT ns acc t).length = acc.length := by
  unfold gainT
  rw [addAt_len, addAt_len]
theorem fold_len {ns : List Int} : ∀ {ts : List Tw} {acc : List Int}, (ts.foldl (gainT ns) acc).length = acc.length
  | [], _ => rfl
  | t :: ts, acc => by rw [List.foldl_cons, fold_len, gainT_len]
/-- what a tie brings to post j -/
def ct (ns : List Int) (j : Nat) (t : Tw) : Int := (if t.b.toNat = j then t.c * up (ns.getD t.a.toNat 0) else 0) + (if t.a.toNat = j then t.d * up (ns.getD t.b.toNat 0) else 0)
theorem addAt_get {xs : List Int} {i j : Nat} {d : Int} (h : j < xs.length) : (addAt xs i d).getD j 0 = xs.getD j 0 + (if i = j then d else 0) := by
  unfold addAt
  rw [List.getD_eq_getElem?_getD, List.getElem?_set]
  by_cases e : i = j
  · subst e
    rw [if_pos rfl, if_pos h, if_pos rfl]
    rfl
  · rw [if_neg e, if_neg e, Int.add_zero, ← List.getD_eq_getElem?_getD]
theorem fold_sum {ns : List Int} {j : Nat} : ∀ (ts : List Tw) (acc : List Int), j < acc.length → (ts.foldl (gainT ns) acc).getD j 0 = acc.getD j 0 + (ts.map (ct ns j)).sum
  | [], acc, _ => by
    show _ = acc.getD j 0 + 0
    rw [Int.add_zero]
    rfl
  | t :: ts, acc, ha => by
    rw [List.foldl_cons, fold_sum ts _ (by rw [gainT_len]; exact ha), List.map_cons, List.sum_cons]
    unfold gainT
    rw [addAt_get (by rw [addAt_len]; exact ha), addAt_get ha]
    unfold ct
    omega
theorem getD_some {xs : List Int} {j : Nat} (h : j < xs.length) : xs[j]? = some (xs.getD j 0) := by
  rw [List.getD_eq_getElem?_getD, List.getElem?_eq_getElem h]
  rfl
/-! ### bounds -/
def Wi (b : Int) (xs : List Int) : Prop := ∀ x ∈ xs, -b ≤ x ∧ x ≤ b
theorem Wi.mono {b c : Int} {xs : List Int} (h : Wi b xs) (hc : b ≤ c) : Wi c xs := fun x hx => by
  have := h x hx
  omega
theorem Wi.at {b : Int} {xs : List Int} (h : Wi b xs) (hb : 0 ≤ b) (j : Nat) : -b ≤ xs.getD j 0 ∧ xs.getD j 0 ≤ b := by
  rw [List.getD_eq_getElem?_getD]
  cases e : xs[j]? with
  | none => exact ⟨by show -b ≤ 0; omega, hb⟩
  | some x => exact h x (List.mem_of_getElem? e)
/-- has to do with j -/
def has (j : Nat) (t : Tw) : Bool := decide (t.a.toNat = j) || decide (t.b.toNat = j)
def oth (j : Nat) (t : Tw) : Nat := if t.a.toNat = j then t.b.toNat else t.a.toNat
theorem sub_len {α : Type} [DecidableEq α] : ∀ {l m : List α}, l.Nodup → (∀ x ∈ l, x ∈ m) → l.length ≤ m.length
  | [], _, _, _ => Nat.zero_le _
  | x :: l, m, h, hs => by
    obtain ⟨h1, h2⟩ := List.nodup_cons.mp h
    have hx := hs x List.mem_cons_self
    have := sub_len (l := l) (m := m.erase x) h2 fun y hy => (List.mem_erase_of_ne (fun e => h1 (by rw [← e]; exact hy))).mpr (hs y (List.mem_cons_of_mem _ hy))
    rw [List.length_erase_of_mem hx] at this
    have hp := List.length_pos_of_mem hx
    rw [List.length_cons]
    omega
end Fv
set_option maxRecDepth 100000
set_option maxHeartbeats 4000000
/-! What is handed in: whole numbers, sizes, ties. -/
namespace Fv
open PySem PySem.Spec PyProof.Rows L2 Gb
def isBtw (lo hi : Int) : PyData → Bool
  | .int i => decide (lo ≤ i) && decide (i ≤ hi)
  | _ => false
def fWhole : FB := fun ds n _ Q => ∃ d, ds = [.py d] ∧ Q (.py (.bool (isWhole d))) n
theorem sc_is_whole : FnScope ["thing"] ["thing"] (defScope s_is_whole) := ⟨rfl, rfl, rfl, by decide +kernel, rfl, by decide +kernel, by decide +kernel⟩
theorem ok_is_whole {F : Fx} (D : Dn F.K F.mg "is_whole" s_is_whole ["thing"]) (bz : Bz F.mg)  : ClB F 1 "is_whole" false fWhole := by
  refine cl_b D sc_is_whole (fun ds n EX QD h => ?_) (fun fa cdv A outer s H E pn B0 hr tk po => ?_)
  · obtain ⟨d, rfl, _⟩ := h
    rfl
  · have nd := sc_is_whole.nd
    refine ⟨_, _, (bss_one (bs_ret (be_and (be_isi (T := "int") (by decide) (by rfl) bz.isinstance (BE.f (be_nm 0 (pv 0))) (pe_bltn (v := .ty "int") (u := .type "int") (by rfl) bz.int (by decide +kernel) rfl)) (be_one (be_not (be_isi (T := "bool") (by decide) (by rfl) bz.isinstance (BE.f (be_nm 0 (pv 0))) (pe_bltn (v := .ty "bool") (u := .type "bool") (by rfl) bz.bool (by decide +kernel) rfl))))))), ?_⟩
    rintro _ n EX QD ⟨d, rfl, q⟩
    simp only [startB, Nat.reduceAdd, Nat.reduceSub, List.replicate_succ, List.replicate_zero, wLc, wLc2, wISeq, wipeB, List.set_cons_succ, List.set_cons_zero, wgTup, wgCons, wgNil, wgNm, Bool.not_true, Bool.not_false, Bool.false_eq_true, if_true, if_false, List.map_cons, List.map_nil, List.length_cons, List.length_nil, List.cons_append, List.nil_append, wName, List.getElem?_cons_zero, List.getElem?_cons_succ, wC, wOp, wCall, wACons, wANil, wAndV, wOrV, wNotV, wIsi, wIsi2, wCmp, wChain, wChain3, wOfT, wIfE, wAnd, wOr, wNotT, bInt, bEq, bNe, bIsN, bNotN, bIn, bNotIn, wCall1, bLen, bAll, bAny, bSum, sRet, sRetN, sRetO, sIf, sSeq, sNil, sExpr, sSet, sAsg, sPar, wVE, wVN, wOfN, wOfE, wTup, wLst, pyAll, isB_int, isB_bool]
    cases d <;> exact q
def fBetween : FB := fun ds n _ Q => ∃ d lo hi, ds = [.py d, .py (.int lo), .py (.int hi)] ∧ Q (.py (.bool (isBtw lo hi d))) n
theorem sc_is_between : FnScope ["thing", "low", "high"] ["thing", "low", "high"] (defScope s_is_between) := ⟨rfl, rfl, rfl, by decide +kernel, rfl, by decide +kernel, by decide +kernel⟩
theorem ok_is_between {F : Fx} (D : Dn F.K F.mg "is_between" s_is_between ["thing", "low", "high"]) (bz : Bz F.mg) (c_is_whole : ClB F 1 "is_whole" false fWhole) : ClB F 2 "is_between" false fBetween := by
  refine cl_b D sc_is_between (fun ds n EX QD h => ?_) (fun fa cdv A outer s H E pn B0 hr tk po => ?_)
  · obtain ⟨d, lo, hi, rfl, _⟩ := h
    rfl
  · have nd := sc_is_between.nd
    refine ⟨_, _, (bss_one (bs_ret (be_and (be_call c_is_whole hr (by decide) (by rfl) tk (ba_cons (be_nm 0 (pv 0)) ba_nil)) (be_one (be_chain op_le op_le of_int of_int (BE.f (be_nm 1 (pv 1))) (BE.f (be_nm 0 (pv 0))) (BE.f (be_nm 2 (pv 2)))))))), ?_⟩
    rintro _ n EX QD ⟨d, lo, hi, rfl, q⟩
    simp only [startB, Nat.reduceAdd, Nat.reduceSub, List.replicate_succ, List.replicate_zero, wLc, wLc2, wISeq, wipeB, List.set_cons_succ, List.set_cons_zero, wgTup, wgCons, wgNil, wgNm, Bool.not_true, Bool.not_false, Bool.false_eq_true, if_true, if_false, List.map_cons, List.map_nil, List.length_cons, List.length_nil, List.cons_append, List.nil_append, wName, List.getElem?_cons_zero, List.getElem?_cons_succ, wC, wOp, wCall, wACons, wANil, wAndV, wOrV, wNotV, wIsi, wIsi2, wCmp, wChain, wChain3, wOfT, wIfE, wAnd, wOr, wNotT, bInt, bEq, bNe, bIsN, bNotN, bIn, bNotIn, wCall1, bLen, bAll, bAny, bSum, sRet, sRetN, sRetO, sIf, sSeq, sNil, sExpr, sSet, sAsg, sPar, wVE, wVN, wOfN, wOfE, wTup, wLst, pyAll, fWhole]
    refine ⟨d, rfl, ?_⟩
    cases d <;> simp only [isWhole, isBtw, if_true, if_false, Bool.false_eq_true] at q ⊢ <;> try exact q
    rename_i i
    by_cases h1 : lo ≤ i
    · simp only [decide_eq_true h1, if_true, Bool.true_and] at q ⊢
      exact q
    · simp only [decide_eq_false h1, if_false, Bool.false_and, Bool.false_eq_true] at q ⊢
      exact q
def xPart (c part : Str) : Exn := ⟨c, [("part", .str part)]⟩
def fiPart : FI := fun ds Q => ∃ p, ds = [p] ∧ Q [("part", p)]
def fNeedSize : FB := fun ds n EX Q => ∃ d, ds = [.py d] ∧ if isBtw 1 12 d = true then Q (.py .none) n else EX (xPart "NoWeb" "size") n
theorem sc_need_size : FnScope ["size"] ["size"] (defScope s_need_size) := ⟨rfl, rfl, rfl, by decide +kernel, rfl, by decide +kernel, by decide +kernel⟩
theorem ok_need_size {F : Fx} (D : Dn F.K F.mg "need_size" s_need_size ["size"]) (bz : Bz F.mg) {CE : Addr} (c_is_between : ClB F 2 "is_between" false fBetween) (e_NoWeb : ClE F 1 "NoWeb" CE fiPart) (v_MOST_POSTS : ∃ u, F.mg "MOST_POSTS" = some u ∧ RelV (.int 12) u) : ClB F 3 "need_size" false fNeedSize := by
  refine cl_b D sc_need_size (fun ds n EX QD h => ?_) (fun fa cdv A outer s H E pn B0 hr tk po => ?_)
  · obtain ⟨d, rfl, _⟩ := h
    rfl
  · have nd := sc_need_size.nd
    refine ⟨_, _, (bss_one (bs_if (bt_not (bt_val (be_call c_is_between hr (by decide) (by rfl) tk (ba_cons (be_nm 0 (pv 0)) (ba_cons be_int (ba_cons (be_gi (pe_gv (by rfl) v_MOST_POSTS)) ba_nil))))))
    (bss_one (bs_raise e_NoWeb hr (by decide) rfl (by rfl) tk (ba_cons be_str ba_nil)))
    bss_nil)), ?_⟩
    rintro _ n EX QD ⟨d, rfl, q⟩
    simp only [startB, Nat.reduceAdd, Nat.reduceSub, List.replicate_succ, List.replicate_zero, wLc, wLc2, wISeq, wipeB, List.set_cons_succ, List.set_cons_zero, wgTup, wgCons, wgNil, wgNm, Bool.not_true, Bool.not_false, Bool.false_eq_true, if_true, if_false, List.map_cons, List.map_nil, List.length_cons, List.length_nil, List.cons_append, List.nil_append, wName, List.getElem?_cons_zero, List.getElem?_cons_succ, wC, wOp, wCall, wACons, wANil, wAndV, wOrV, wNotV, wIsi, wIsi2, wCmp, wChain, wChain3, wOfT, wIfE, wAnd, wOr, wNotT, bInt, bEq, bNe, bIsN, bNotN, bIn, bNotIn, wCall1, bLen, bAll, bAny, bSum, sRet, sRetN, sRetO, sIf, sSeq, sNil, sExpr, sSet, sAsg, sPar, wVE, wVN, wOfN, wOfE, wTup, wLst, pyAll, sRaise, fBetween]
    refine ⟨d, 1, 12, rfl, ?_⟩
    cases hb : isBtw 1 12 d with
    | true =>
      rw [hb, if_pos rfl] at q
      exact ⟨trivial, q⟩
    | false =>
      rw [hb, if_neg Bool.false_ne_true] at q
      exact ⟨by decide, _, rfl, q⟩
def goodT (s a b c d : Int) : Bool := decide (0 ≤ a) && decide (a < b) && decide (b < s) && decide (1 ≤ c) && decide (c ≤ 9) && decide (1 ≤ d) && decide (d ≤ 9)
/-- the tie that a datum is -/
def tieT (s : Int) : PyData → Option Tw
  | .tuple [.int a, .int b, .int c, .int d] => if goodT s a b c d = true then some ⟨a, b, c, d⟩ else none
  | _ => none
theorem shaped_int (i : Int) : SeqAt.shaped (.int i) = true := by
  unfold SeqAt.shaped
  simp [PyData.canLay0, PyData.depth]
theorem eqv_int (i j : Int) : PyData.eqv (.int i) (.int j) = decide (i = j) := by
  unfold PyData.eqv
  first | rfl | simp
def wholeRow (m : Int) : PyData → Bool
  | .tuple ds => decide ((ds.length : Int) = m) && ds.all isWhole
  | _ => false
def fWholeRow : FB := fun ds n _ Q => ∃ d m, ds = [.py d, .py (.int m)] ∧ Q (.py (.bool (wholeRow m d))) n
theorem sc_is_whole_row : FnScope ["thing", "many", "number"] ["thing", "many"] (defScope s_is_whole_row) := ⟨rfl, rfl, rfl, by decide +kernel, rfl, by decide +kernel, by decide +kernel⟩
theorem ok_is_whole_row {F : Fx} (D : Dn F.K F.mg "is_whole_row" s_is_whole_row ["thing", "many"]) (bz : Bz F.mg) (c_is_whole : ClB F 1 "is_whole" false fWhole) : ClB F 2 "is_whole_row" false fWholeRow := by
  refine cl_b D sc_is_whole_row (fun ds n EX QD h => ?_) (fun fa cdv A outer s H E pn B0 hr tk po => ?_)
  · obtain ⟨d, m, rfl, _⟩ := h
    rfl
  · have nd := sc_is_whole_row.nd
    refine ⟨_, _, (bss_one (bs_ret (be_and (be_isi (T := "tuple") (by decide) (by rfl) bz.isinstance (BE.f (be_nm 0 (pv 0))) (pe_bltn (v := .ty "tuple") (u := .type "tuple") (by rfl) bz.tuple (by decide +kernel) rfl)) (be_and (be_eq hr.units (BE.f (be_len (by rfl) bz.len (BE.f (be_nm 0 (pv 0))))) (BE.f (be_nm 1 (pv 1)))) (be_one (be_all rfl (by rfl) bz.all (BE.f (BN.e (bn_lc (own := [("number", 2)]) rfl nd (bi_seq (be_nm 0 (pv 0))) (blkOk_by (N := ["thing", "many", "number"]) (sc := defScope s_is_whole_row) (by decide +kernel)) (fun _ _ _ _ _ => (bg_nm (pg_name (i := 2) nd rfl (.inl rfl)))) (fun _ _ _ _ _ => bts_nil) (fun _ _ _ _ _ => (be_call0 c_is_whole hr (by decide) (by rfl) (ba_cons (be_nm 2 (pv 2)) ba_nil)))))))))))), ?_⟩
    rintro _ n EX QD ⟨d, m, rfl, q⟩
    simp only [startB, Nat.reduceAdd, Nat.reduceSub, List.replicate_succ, List.replicate_zero, wLc, wLc2, wISeq, wipeB, List.set_cons_succ, List.set_cons_zero, wgTup, wgCons, wgNil, wgNm, Bool.not_true, Bool.not_false, Bool.false_eq_true, if_true, if_false, List.map_cons, List.map_nil, List.length_cons, List.length_nil, List.cons_append, List.nil_append, wName, List.getElem?_cons_zero, List.getElem?_cons_succ, wC, wOp, wCall, wACons, wANil, wAndV, wOrV, wNotV, wIsi, wIsi2, wCmp, wChain, wChain3, wOfT, wIfE, wAnd, wOr, wNotT, bInt, bEq, bNe, bIsN, bNotN, bIn, bNotIn, wCall1, bLen, bAll, bAny, bSum, sRet, sRetN, sRetO, sIf, sSeq, sNil, sExpr, sSet, sAsg, sPar, wVE, wVN, wOfN, wOfE, wTup, wLst, pyAll, isB_tuple, fWhole]
    cases d with
    | tuple ds =>
      simp only [if_true]
      refine ⟨shaped_int _, shaped_int _, ?_⟩
      rw [eqv_int]
      by_cases h4 : (ds.length : Int) = m
      · rw [decide_eq_true h4, if_pos rfl]
        refine lc_map (fun z => match z with
          | .py d => .bool (isWhole d)
          | _ => .none) _ _ (fun z hz P R p => ?_) ?_
        · obtain ⟨w, _, rfl⟩ := List.mem_map.mp hz
          simp only [startB, Nat.reduceAdd, Nat.reduceSub, List.replicate_succ, List.replicate_zero, wLc, wLc2, wISeq, wipeB, List.set_cons_succ, List.set_cons_zero, wgTup, wgCons, wgNil, wgNm, Bool.not_true, Bool.not_false, Bool.false_eq_true, if_true, if_false, List.map_cons, List.map_nil, List.length_cons, List.length_nil, List.cons_append, List.nil_append, wName, List.getElem?_cons_zero, List.getElem?_cons_succ, wC, wOp, wCall, wACons, wANil, wAndV, wOrV, wNotV, wIsi, wIsi2, wCmp, wChain, wChain3, wOfT, wIfE, wAnd, wOr, wNotT, bInt, bEq, bNe, bIsN, bNotN, bIn, bNotIn, wCall1, bLen, bAll, bAny, bSum, sRet, sRetN, sRetO, sIf, sSeq, sNil, sExpr, sSet, sAsg, sPar, wVE, wVN, wOfN, wOfE, wTup, wLst, pyAll, wYes]
          exact ⟨w, rfl, p⟩
        · rw [List.nil_append, List.map_map]
          rw [show List.map (_ ∘ Fv.D.py) ds = ds.map (fun d => PyData.bool (isWhole d)) from rfl, blsOf_wh]
          have ea : (ds.map isWhole).all id = ds.all isWhole := by
            rw [List.all_map]
            rfl
          simp only [ea]
          have q : QD (.py (.bool (decide ((ds.length : Int) = m) && ds.all isWhole))) n := q
          rw [decide_eq_true h4, Bool.true_and] at q
          exact q
      · have q : QD (.py (.bool (decide ((ds.length : Int) = m) && ds.all isWhole))) n := q
        rw [decide_eq_false h4, Bool.false_and] at q
        rw [decide_eq_false h4]
        exact q
    | _ => exact q
def fIsTie : FB := fun ds n _ Q => ∃ s d, ds = [.py (.int s), .py d] ∧ Q (.py (.bool (tieT s d).isSome)) n
/-! ### lists of ties -/
def allT (s : Int) : List PyData → Option (List Tw)
  | [] => some []
  | d :: ds => match tieT s d, allT s ds with
    | some t, some ts => some (t :: ts)
    | _, _ => none
def tiesL (s : Int) (ds : List PyData) : Option (List Tw) := match allT s ds with
  | some ts => if (ts.map fun t => (t.a, t.b)).Nodup then some ts else none
  | none => none
/-- the ties that a datum is -/
def tiesT (s : Int) : PyData → Option (List Tw)
  | .list ds => tiesL s ds
  | .tuple ds => tiesL s ds
  | _ => none
def ddup : List (List Int) → List (List Int)
  | [] => []
  | x :: xs => if x ∈ ddup xs then ddup xs else x :: ddup xs
def pairL (t : Tw) : List Int := [t.a, t.b]
def fAreTies : FB := fun ds n _ Q => ∃ (s : Int) (d : PyData), ds = [.py (.int s), .py d] ∧ s ≤ 12 ∧ Q (.py (.bool (tiesT s d).isSome)) n
def fNeedTies : FB := fun ds n EX Q => ∃ (s : Int) (d : PyData), ds = [.py (.int s), .py d] ∧ s ≤ 12 ∧ if (tiesT s d).isSome = true then Q (.py .none) n else EX (xPart "NoWeb" "ties") n
end Fv
set_option maxRecDepth 100000
set_option maxHeartbeats 4000000
/-! The refusals' classes. -/
namespace Fv
open PySem PySem.Spec PyProof.Rows L2 Gb
structure DnE (F : Fx) (x : Str) (C : Addr) (qual : Str) (st : Stmt) (ps : List Str) (base newId iniId : String) (tl : List Value) (fns : List Str) : Prop where
  T : OxT F.K C newId iniId tl
  hm : F.mg x = some (.ref C)
  hx : F.ex x = some (.ref C)
  no : ∀ f ∈ fns, PySem.W.findIn F.K (.ref C) f = some none
  bs : F.mg base = none
  vV : PySem.W.findCls F.K (.type base) (.type "type") "__init__" = some (.val (.builtin iniId))
  ex : ∃ (fI : Addr) (fd : FuncData), PySem.W.findIn F.K (.ref C) "__init__" = some (some (.ref fI)) ∧ PySem.W.typeIn F.K (.ref fI) = some (.type "function") ∧ Fun F.K "__init__" qual st fI fd ∧ Binds F.K fd ps []
abbrev tlV : List Value := [.type "ValueError", .type "Exception", .type "BaseException", .type "object"]
abbrev DnV (F : Fx) (x : Str) (C : Addr) (qual : Str) (st : Stmt) (ps fns : List Str) : Prop := DnE F x C qual st ps "ValueError" "ValueError.__new__" "ValueError.__init__" tlV fns
theorem bini_cons {X : Cx} {G : Cg} {newId iniId : String} {tl : List Value} {f : Str} {o e : Expr} {te : TE} {we : WE} {p' pos : Pos} {sts : List Stmt} {ts : TS} {ws : List (Str × WE)} (h : BE X G e te we) (ho : PE X o (tVar 0)) (hr : BIni X G newId iniId tl sts ts ws)
    (hs : swapsWith e (some (.Attribute o f p')) pos.line X.env = pure false := by rfl) : BIni X G newId iniId tl (.Assign [.Attribute o f p'] e pos :: sts) (tSeq (tFs X.K newId iniId tl f (tVar 0) te) ts) ((f, we) :: ws) := .cons h (ps_fs ho h.pe hs) hr
theorem sc_NoWeb___init__ : FnScope ["self", "part"] ["self", "part"] (defScope s_NoWeb___init__) := ⟨rfl, rfl, rfl, by decide +kernel, rfl, by decide +kernel, by decide +kernel⟩
theorem ok_NoWeb {F : Fx} {C : Addr} (D : DnV F "NoWeb" C "NoWeb.__init__" s_NoWeb___init__ ["self", "part"] ["part"]) : ClE F 1 "NoWeb" C fiPart := by
  obtain ⟨fI, fd, iC, tI, Fn, b⟩ := D.ex
  refine cl_e D.T D.hm D.hx iC tI Fn b sc_NoWeb___init__ (fun ds QD ⟨p, e, _⟩ => by rw [e]; rfl) (by decide) ["part"] D.no fun cdv A outer s H E B H0 hr => ?_
  have nd := sc_NoWeb___init__.nd
  refine ⟨_, _, _, _, _, rfl, ps_expr (pe_ini (Bs := "ValueError") (by rfl) D.bs (by decide +kernel) (by rfl) (by decide +kernel) (by decide) (by decide) D.vV (pa_cons (pv 0) (pa_cons pe_str pa_nil))), bini_cons (be_nm 1 (pv 1)) (pv 0) .nil, rfl, fun a ds QD ⟨p, e, q⟩ => ?_⟩
  subst e
  exact ⟨rfl, by decide, q⟩
end Fv
set_option maxRecDepth 100000
set_option maxHeartbeats 4000000
/-! What is looked at of a refusal's class. -/
namespace Fv
open PySem PySem.Spec PyProof.Rows L2 Gb
open PySem.Xb (Bas refsT)
def oxB (K : PySem.W.Frag) (C : Addr) (newId : String) (tl : List Value) : Bool :=
  (match K.lookup C with
  | some ⟨.type "type", _, .cls cd, sl⟩ => (match cd.mro, sl.toList with
    | .ref C' :: bm, [_, _, _, _, some (.builtin n), _] => decide (C' = C) && (decide (n = newId) && (!cd.hasDel && (cd.hasDict && refsT tl bm)))
    | _, _ => false)
  | _ => false) && (He.eqO (PySem.W.findIn K (.ref C) "__setattr__") (some (some (.builtin "object.__setattr__"))) && (decide (PySem.W.subIn K (.ref C) (.type "BaseException") = some true) && (decide (PySem.W.typeIn K (.ref C) = some (.type "type")) && PySem.W.keepIn K (.ref C))))
theorem oxB_ok {K : PySem.W.Frag} {C : Addr} {newId iniId : String} {tl : List Value} (b : Bas newId iniId tl) (h : oxB K C newId tl = true) : OxT K C newId iniId tl := by
  unfold oxB at h
  rw [Bool.and_eq_true, Bool.and_eq_true, Bool.and_eq_true, Bool.and_eq_true] at h
  obtain ⟨h1, h2, h3, h4, h5⟩ := h
  refine ⟨b, ?_, He.eqO_ok h2, of_decide_eq_true h3, of_decide_eq_true h4, h5⟩
  split at h1
  · rename_i dd cd sl ho
    split at h1
    · rename_i C' bm k0 k1 k2 k3 n k5 hm hs
      simp only [Bool.and_eq_true, decide_eq_true_eq, Bool.not_eq_true'] at h1
      obtain ⟨rfl, rfl, hdel, hd, ht⟩ := h1
      obtain ⟨nm, bs, mro, ns, qn, hd', sn, sub, ab, col, del⟩ := cd
      dsimp only at hm hdel hd
      subst hm hdel hd
      have hsl : sl = #[k0, k1, k2, k3, some (.builtin n), k5] := by
        obtain ⟨l⟩ := sl
        simp only at hs
        rw [hs]
      subst hsl
      exact ⟨nm, qn, ns, bs, bm, sn, sub, ab, col, dd, k0, k1, k2, k3, k5, ho, ht⟩
    · cases h1
  · cases h1
def iniB (K : PySem.W.Frag) (base iniId : String) : Bool := match PySem.W.findCls K (.type base) (.type "type") "__init__" with
  | some (.val (.builtin s)) => decide (s = iniId)
  | _ => false
theorem iniB_ok {K : PySem.W.Frag} {base iniId : String} (h : iniB K base iniId = true) : PySem.W.findCls K (.type base) (.type "type") "__init__" = some (.val (.builtin iniId)) := by
  unfold iniB at h
  split at h
  · rename_i s e
    rw [e, of_decide_eq_true h]
  · cases h
end Fv
set_option maxRecDepth 100000
set_option maxHeartbeats 4000000
/-! What is looked at of the refusals that a law asks for. -/
namespace Fv
open PySem PySem.Spec PyProof.Rows L2 Gb
def six : List Str := ["NoWeb", "NoStanding", "NoLots", "NotAlike", "NoPart", "NoTie"]
def flds : List Str := ["part", "one", "other", "post", "posts", "tie"]
def refs (K : PySem.W.Frag) (xs : List Str) : List Value := xs.map fun x => .ref (He.ga K x)
structure RowP (K : PySem.W.Frag) (nm : Str) (C : Addr) : Prop where
  xl : XlC K C
  fld : ∀ f ∈ flds, PySem.W.findIn K (.ref C) f = some none
  exm : ∀ c ∈ six, PySem.W.exmOne K (.ref C) (.ref (He.ga K c)) = some (decide (c = nm))
  kv : PySem.W.kitOne K (.ref C) (.type "ValueError") = some true
  kk : PySem.W.kitOne K (.ref C) (.type "KeyError") = some false
  ka : PySem.W.kitOne K (.ref C) (.ref (He.ga K "NotAlike")) = some false
  k4 : PySem.W.kitAny K (.ref C) (refs K ["NoStanding", "NoLots", "NotAlike", "NoPart"]) = some (decide ("NoStanding" = nm))
  k3 : PySem.W.kitAny K (.ref C) (refs K ["NoLots", "NotAlike", "NoPart"]) = some false
def rowB (K : PySem.W.Frag) (nm : Str) (C : Addr) : Bool :=
  xfB K C && (He.eqO (PySem.W.findIn K (.ref C) "__class__") (some (some (.builtin "object.__class__"))) && (He.eqO (PySem.W.specialIn K (.builtin "object.__class__") "__get__") (some (some (.builtin "getset_descriptor.__get__"))) && (decide (PySem.W.takesIn K (.builtin "object.__class__") = some true) && (decide (PySem.W.mroIn K C (.type "object") = some true) &&
  (flds.all (fun f => He.eqO (PySem.W.findIn K (.ref C) f) (some none)) && (six.all (fun c => decide (PySem.W.exmOne K (.ref C) (.ref (He.ga K c)) = some (decide (c = nm)))) &&
  (decide (PySem.W.kitOne K (.ref C) (.type "ValueError") = some true) && (decide (PySem.W.kitOne K (.ref C) (.type "KeyError") = some false) && (decide (PySem.W.kitOne K (.ref C) (.ref (He.ga K "NotAlike")) = some false) &&
  (decide (PySem.W.kitAny K (.ref C) (refs K ["NoStanding", "NoLots", "NotAlike", "NoPart"]) = some (decide (("NoStanding" : Str) = nm))) && decide (PySem.W.kitAny K (.ref C) (refs K ["NoLots", "NotAlike", "NoPart"]) = some false)))))))))))
def refB (K : PySem.W.Frag) : Bool := rowB K "NoWeb" (He.ga K "NoWeb") && rowB K "NoStanding" (He.ga K "NoStanding")
end Fv
set_option maxRecDepth 100000
set_option maxHeartbeats 0
namespace Hd
open PySem PySem.Spec PyProof.Rows L2 Gb
def d_is_whole : He.DefD := ⟨("is_whole", none), "is_whole", "is_whole", defArgs s_is_whole, defBody s_is_whole, defScope s_is_whole, [], []⟩
def d_is_between : He.DefD := ⟨("is_between", none), "is_between", "is_between", defArgs s_is_between, defBody s_is_between, defScope s_is_between, [], []⟩
def d_is_whole_row : He.DefD := ⟨("is_whole_row", none), "is_whole_row", "is_whole_row", defArgs s_is_whole_row, defBody s_is_whole_row, defScope s_is_whole_row, [], []⟩
def d_need_size : He.DefD := ⟨("need_size", none), "need_size", "need_size", defArgs s_need_size, defBody s_need_size, defScope s_need_size, [], []⟩
def d_turned_cords : He.DefD := ⟨("turned_cords", none), "turned_cords", "turned_cords", defArgs s_turned_cords, defBody s_turned_cords, defScope s_turned_cords, [], []⟩
def d_joining : He.DefD := ⟨("joining", none), "joining", "joining", defArgs s_joining, defBody s_joining, defScope s_joining, [], []⟩
def d_need_cords : He.DefD := ⟨("need_cords", none), "need_cords", "need_cords", defArgs s_need_cords, defBody s_need_cords, defScope s_need_cords, [], []⟩
def d_cords_fault : He.DefD := ⟨("cords_fault", none), "cords_fault", "cords_fault", defArgs s_cords_fault, defBody s_cords_fault, defScope s_cords_fault, [], []⟩
def d_row_fault : He.DefD := ⟨("row_fault", none), "row_fault", "row_fault", defArgs s_row_fault, defBody s_row_fault, defScope s_row_fault, [], []⟩
def d_is_cord : He.DefD := ⟨("is_cord", none), "is_cord", "is_cord", defArgs s_is_cord, defBody s_is_cord, defScope s_is_cord, [], []⟩
def d_are_crossed : He.DefD := ⟨("are_crossed", none), "are_crossed", "are_crossed", defArgs s_are_crossed, defBody s_are_crossed, defScope s_are_crossed, [], []⟩
def d__law_pen : He.DefD := ⟨("_law_pen", none), "_law_pen", "_law_pen", defArgs s__law_pen, defBody s__law_pen, defScope s__law_pen, [], []⟩
def d__law_draw : He.DefD := ⟨("_law_draw", none), "_law_draw", "_law_draw", defArgs s__law_draw, defBody s__law_draw, defScope s__law_draw, [], []⟩
def d__law_pick : He.DefD := ⟨("_law_pick", none), "_law_pick", "_law_pick", defArgs s__law_pick, defBody s__law_pick, defScope s__law_pick, [], []⟩
def d__law_great : He.DefD := ⟨("_law_great", none), "_law_great", "_law_great", defArgs s__law_great, defBody s__law_great, defScope s__law_great, [], []⟩
def d__law_shuffled : He.DefD := ⟨("_law_shuffled", none), "_law_shuffled", "_law_shuffled", defArgs s__law_shuffled, defBody s__law_shuffled, defScope s__law_shuffled, [], []⟩
def d__law_beat : He.DefD := ⟨("_law_beat", none), "_law_beat", "_law_beat", defArgs s__law_beat, defBody s__law_beat, defScope s__law_beat, [], []⟩
def d__law_run : He.DefD := ⟨("_law_run", none), "_law_run", "_law_run", defArgs s__law_run, defBody s__law_run, defScope s__law_run, [], []⟩
def d__law_corners : He.DefD := ⟨("_law_corners", none), "_law_corners", "_law_corners", defArgs s__law_corners, defBody s__law_corners, defScope s__law_corners, [], []⟩
def d__law_row : He.DefD := ⟨("_law_row", none), "_law_row", "_law_row", defArgs s__law_row, defBody s__law_row, defScope s__law_row, [], []⟩
def d__law_all_cords : He.DefD := ⟨("_law_all_cords", none), "_law_all_cords", "_law_all_cords", defArgs s__law_all_cords, defBody s__law_all_cords, defScope s__law_all_cords, [], []⟩
def d__law_cross : He.DefD := ⟨("_law_cross", none), "_law_cross", "_law_cross", defArgs s__law_cross, defBody s__law_cross, defScope s__law_cross, [], []⟩
def d__law_drawn_half : He.DefD := ⟨("_law_drawn_half", none), "_law_drawn_half", "_law_drawn_half", defArgs s__law_drawn_half, defBody s__law_drawn_half, defScope s__law_drawn_half, [], []⟩
def d__law_drawn_cords : He.DefD := ⟨("_law_drawn_cords", none), "_law_drawn_cords", "_law_drawn_cords", defArgs s__law_drawn_cords, defBody s__law_drawn_cords, defScope s__law_drawn_cords, [], []⟩
def d__law_by_cords : He.DefD := ⟨("_law_by_cords", none), "_law_by_cords", "_law_by_cords", defArgs s__law_by_cords, defBody s__law_by_cords, defScope s__law_by_cords, [], []⟩
def d__law_cords_by_run : He.DefD := ⟨("_law_cords_by_run", none), "_law_cords_by_run", "_law_cords_by_run", defArgs s__law_cords_by_run, defBody s__law_cords_by_run, defScope s__law_cords_by_run, [], []⟩
def d__law_handed : He.DefD := ⟨("_law_handed", none), "_law_handed", "_law_handed", defArgs s__law_handed, defBody s__law_handed, defScope s__law_handed, [], []⟩
def d__law_turned_on : He.DefD := ⟨("_law_turned_on", none), "_law_turned_on", "_law_turned_on", defArgs s__law_turned_on, defBody s__law_turned_on, defScope s__law_turned_on, [], []⟩
def d_law : He.DefD := ⟨("law", none), "law", "law", defArgs s_law, defBody s_law, defScope s_law, [], []⟩
def d_NoWeb___init__ : He.DefD := ⟨("NoWeb", some "__init__"), "__init__", "NoWeb.__init__", defArgs s_NoWeb___init__, defBody s_NoWeb___init__, defScope s_NoWeb___init__, [], []⟩
def d_NoCords___init__ : He.DefD := ⟨("NoCords", some "__init__"), "__init__", "NoCords.__init__", defArgs s_NoCords___init__, defBody s_NoCords___init__, defScope s_NoCords___init__, [], []⟩
def fn : List He.DefD := [d_is_whole, d_is_between, d_is_whole_row, d_need_size, d_turned_cords, d_joining, d_need_cords, d_cords_fault, d_row_fault, d_is_cord, d_are_crossed, d__law_pen, d__law_draw, d__law_pick, d__law_great, d__law_shuffled, d__law_beat, d__law_run, d__law_corners, d__law_row, d__law_all_cords, d__law_cross, d__law_drawn_half, d__law_drawn_cords, d__law_by_cords, d__law_cords_by_run, d__law_handed, d__law_turned_on, d_law, d_NoWeb___init__, d_NoCords___init__]
def fa : List He.Fa := [.glo "is_whole", .glo "is_between", .glo "is_whole_row", .glo "need_size", .glo "turned_cords", .glo "joining", .glo "need_cords", .glo "cords_fault", .glo "row_fault", .glo "is_cord", .glo "are_crossed", .glo "_law_pen", .glo "_law_draw", .glo "_law_pick", .glo "_law_great", .glo "_law_shuffled", .glo "_law_beat", .glo "_law_run", .glo "_law_corners", .glo "_law_row", .glo "_law_all_cords", .glo "_law_cross", .glo "_law_drawn_half", .glo "_law_drawn_cords", .glo "_law_by_cords", .glo "_law_cords_by_run", .glo "_law_handed", .glo "_law_turned_on", .glo "law", .glo "NoWeb", .glo "NoCords", .free "len", .free "abs", .free "max", .free "min", .free "list", .free "tuple", .free "range", .free "isinstance", .free "all", .free "any", .free "set", .free "sum", .free "zip", .free "int", .free "sorted", .free "repr", .free "bool", .free "dict", .free "str", .free "enumerate", .free "ValueError", .int "MOST_POSTS" (12), .meth "NoWeb" "__init__", .noat "NoWeb" "part", .meth "NoCords" "__init__", .noat "NoCords" "half", .noat "NoCords" "one", .noat "NoCords" "other"]
def hn : List PySem.Str := (["NoWeb", "NoCords", "is_whole", "is_between", "is_whole_row", "need_size", "turned_cords", "joining", "need_cords", "cords_fault", "row_fault", "is_cord", "are_crossed", "_law_pen", "_law_draw", "_law_pick", "_law_great", "_law_shuffled", "_law_beat", "_law_run", "_law_corners", "_law_row", "_law_all_cords", "_law_cross", "_law_drawn_half", "_law_drawn_cords", "_law_by_cords", "_law_cords_by_run", "_law_handed", "_law_turned_on"] : List PySem.Str) ++ (["law"] : List PySem.Str)
def ex (K : PySem.W.Frag) : Bool := (Fv.oxB K (He.ga K "NoWeb") "ValueError.__new__" Fv.tlV) && (Fv.iniB K "ValueError" "ValueError.__init__") && (Fv.oxB K (He.ga K "NoCords") "ValueError.__new__" Fv.tlV)
def tf : List He.Defn := []
abbrev R : PySem.W.OpenRow := PySem.W.OpenLaw.row PySem.Challenge.rw_giveback_k55_cords_behind_a_beat
abbrev hk : PySem.W.Hook := He.hookX 4 fa fn [] tf ex
def ob (s : PySem.W.SharedT) : He.AlX := He.obsX 4 fa fn [] tf ex (HandSHeadRun.getT s)
theorem ob_eq (s : PySem.W.SharedT) : ob s = hk.obs s.abs := He.obsX_eq (HandSHeadRun.getT_eq s)
def loose : List PySem.Str := (["is_whole", "is_between", "is_whole_row", "NoWeb", "NoCords", "MOST_POSTS", "need_size", "turned_cords", "joining", "need_cords", "cords_fault", "row_fault", "is_cord", "are_crossed", "_law_pen", "_law_draw", "_law_pick", "_law_great", "_law_shuffled", "_law_beat", "_law_run", "_law_corners", "_law_row", "_law_all_cords", "_law_cross", "_law_drawn_half", "_law_drawn_cords", "_law_by_cords", "_law_cords_by_run", "_law_handed"] : List PySem.Str) ++ (["_law_turned_on"] : List PySem.Str)
theorem run (w : World) : HandSHeadRun.RunEq R (PySem.W.view R.prog [36]) hk ob 6000 loose w := by
  intro os
  kernel_rfl
end Hd
set_option maxRecDepth 100000
set_option maxHeartbeats 4000000
namespace Gb
open PySem PySem.Spec PyProof.Rows L2
open PySem.W (Datum Tup T4)
section
variable {P : Program} {w : World} {K : PySem.W.Frag} {mg : Str → Option Value} {base : Heap}
theorem sc__law_draw : FnScope ["pen", "many", "digit", "turn", "cell", "primes", "prime", "drawn"] ["pen", "many"] (defScope s__law_draw) := ⟨rfl, rfl, rfl, by decide +kernel, rfl, by decide +kernel, by decide +kernel⟩
theorem ok__law_draw (D : Dn K mg "_law_draw" s__law_draw ["pen", "many"]) (B : Bt mg) : Cl P w K mg base 1 "_law_draw" spDraw := by
  refine cl_of D sc__law_draw (fun vs H Q E h => ?_) (fun cdv f A outer s H vs Q E hr h => ?_)
  · obtain ⟨p, c, n, many, rfl, _⟩ := h
    rfl
  · obtain ⟨p, c, n, many, rfl, hp, hn, hm0, hm1, q⟩ := h
    have nd := sc__law_draw.nd
    have hu := hu_of hr
    refine ⟨_, (pss_cons (ps_if (pt_cmpR op_gt (pe_dget hu (pv 0) pe_str (fun _ _ => rfl)) pe_int (nomark _))
    (pss_cons (ps_set (i := 2) nd rfl (.inl rfl) (pe_op op_mod (pe_dget hu (pv 0) pe_str (fun _ _ => rfl)) (pv 1)))
    (pss_cons (ps_dput hu (pv 0) pe_str (pe_op op_fdiv (pe_dget hu (pv 0) pe_str (fun _ _ => rfl)) (pv 1)) rfl)
    (pss_one (ps_ret (pv 2)))))
    pss_nil)
    (pss_cons (ps_set (i := 3) nd rfl (.inl rfl) (pe_dget hu (pv 0) pe_str (fun _ _ => rfl)))
    (pss_cons (ps_dput hu (pv 0) pe_str (pe_op op_add (pv 3) pe_int) rfl)
    (pss_cons (ps_set (i := 4) nd rfl (.inl rfl) (pe_op op_add (pe_op op_mul pe_int (pv 3)) pe_int))
    (Evl.pss_cut (ps_if (pt_cmpR (op_neD hr.units) (pe_dget hu (pv 0) pe_str (fun _ _ => rfl)) (pe_lst pa_nil) (nomark _))
    (pss_one (ps_set (i := 4) nd rfl (.inl rfl) (pe_ix ix_list (pe_dget hu (pv 0) pe_str (fun _ _ => rfl)) (pe_op op_mod (pv 3) (pe_callB call_len_seq (by rfl) B.len PySem.boot_len (pa_cons (pe_dget hu (pv 0) pe_str (fun _ _ => rfl)) pa_nil))) (fun _ _ => rfl))))
    pss_nil)
    (Evl.pss_cut (ps_if (PW.pt (pw_and (pt_cmpR op_lt (pv 3) (pe_callB call_len_seq (by rfl) B.len PySem.boot_len (pa_cons (pe_dget hu (pv 0) pe_str (fun _ _ => rfl)) pa_nil)) (nomark _)) (pw_and1 (pt_cmpR op_ge (pe_callB call_abs (by rfl) B.abs (by decide +kernel) (pa_cons (pv 4) pa_nil)) (pe_op op_pow pe_int pe_int) (nomark _)))))
    (pss_cons (ps_dput hu (pv 0) pe_str (pe_op op_fdiv (pe_op op_sub (pe_callB call_abs (by rfl) B.abs (by decide +kernel) (pa_cons (pv 4) pa_nil)) (pe_op op_pow pe_int pe_int)) (pv 1)) rfl)
    (pss_one (ps_ret (pe_op op_mod (pe_op op_sub (pe_callB call_abs (by rfl) B.abs (by decide +kernel) (pa_cons (pv 4) pa_nil)) (pe_op op_pow pe_int pe_int)) (pv 1)))))
    pss_nil)
    (pss_cons (ps_set (i := 5) nd rfl (.inl rfl) (pe_lst (pa_cons pe_int (pa_cons pe_int (pa_cons pe_int (pa_cons pe_int (pa_cons pe_int pa_nil)))))))
    (pss_cons (ps_set (i := 6) nd rfl (.inl rfl) (pe_ix ix_list (pv 5) (pe_op op_mod (pv 3) pe_int) (fun _ _ => rfl)))
    (pss_cons (ps_set (i := 7) nd rfl (.inl rfl) (pe_op op_mod (pe_op op_add (pe_op op_add (pe_op op_mul (pe_op op_mod (pv 4) (pv 6)) pe_int) (pe_op op_mul (pe_op op_mul pe_int (pv 3)) (pv 3))) pe_int) (pv 6)))
    (pss_cons (ps_set (i := 7) nd rfl (.inl rfl) (pe_op op_mod (pe_op op_mul (pv 7) (pe_op op_add (pv 7) pe_int)) (pe_ix ix_list (pv 5) (pe_op op_mod (pe_op op_add (pv 3) pe_int) pe_int) (fun _ _ => rfl))))
    (pss_one (ps_ret (pe_op op_mod (pe_op op_fdiv (pe_op op_mod (pe_op op_mul (pv 7) (pv 7)) pe_int) pe_int) (pv 1)))))))))))))), ?_⟩
    obtain ⟨t, l, xs, h1, h2, h3, h4, h5⟩ := id hp
    have gl : DGet H p (.str "left") (some (.int l)) := DGet.k (k := .inr "left") h1
    have gt : DGet H p (.str "turn") (some (.int t)) := DGet.k (k := .inr "turn") h1
    have gc : DGet H p (.str "cells") (some (.ref c)) := DGet.k (k := .inr "cells") h1
    -- if pen['left'] > 0
    refine ⟨.ref p, rfl, p, .int l, rfl, gl, l, 0, rfl, rfl, _, rfl, ite2 (fun hl => ?_) (fun hl => ?_)⟩
    · refine ⟨.ref p, rfl, p, .int l, rfl, gl, .int many, rfl, l, many, rfl, rfl, hm0, ?_⟩
      refine ⟨.ref p, rfl, p, .int l, rfl, gl, .int many, rfl, l, many, rfl, rfl, ⟨hm0, by omega⟩, .ref p, rfl, p, _, rfl, dput_left h1, ?_⟩
      refine ⟨.int (l % many), rfl, ?_⟩
      exact q _ _ (Int.emod_nonneg _ (by omega)) (Int.emod_lt_of_pos _ hm0) (pen_go h1 h2 h3 (by omega) (Int.ediv_nonneg h5 (by omega)))
    -- turn = pen['turn']; pen['turn'] = turn + 1
    refine ⟨.ref p, rfl, p, .int t, rfl, gt, ?_⟩
    refine ⟨.int t, rfl, t, 1, rfl, rfl, .ref p, rfl, p, _, rfl, dput_turn h1, ?_⟩
    -- cell = 37 * turn + 13
    refine ⟨.int t, rfl, 37, t, rfl, rfl, .inl ⟨by decide, by decide⟩, 37 * t, 13, rfl, rfl, ?_⟩
    have nc : c ≠ p := fun z => by
      rw [z, h1] at h2
      cases h2
    have k1 : (upd H p (.dK (penD c (t + 1) l))) p = some (.dK (penD c (t + 1) l)) := upd_same
    have k2 : (upd H p (.dK (penD c (t + 1) l))) c = some (.lst (xs.map V.int)) := by
      rw [upd_ne nc]
      exact h2
    have g1 : Go p c 1 H (upd H p (.dK (penD c (t + 1) l))) := pen_go h1 h2 (by omega) (by omega) h5
    generalize hH1 : upd H p (.dK (penD c (t + 1) l)) = H1 at k1 k2 g1 ⊢
    have gc1 : DGet H1 p (.str "cells") (some (.ref c)) := DGet.k (k := .inr "cells") k1
    -- if pen['cells'] != []
    refine ⟨fun σ' H' => ∃ cell : Int, σ' = [some (.ref p), some (.int many), none, some (.int t), some (.int cell), none, none, none] ∧ H' p = some (.dK (penD c (t + 1) l)) ∧ H' c = some (.lst (xs.map V.int)) ∧ Go p c 1 H H', ?_, ?_⟩
    · refine ⟨.ref p, rfl, p, .ref c, rfl, gc1, Nat.zero_le _, fun e he => ?_⟩
      have k3 : (upd H1 e (.lst [])) p = some (.dK (penD c (t + 1) l)) := same_new he _ _ k1
      have k4 : (upd H1 e (.lst [])) c = some (.lst (xs.map V.int)) := same_new he _ _ k2
      have g2 : Go p c 1 H (upd H1 e (.lst [])) := g1.trans (k := 0) (Go.new he)
      have gc2 : DGet (upd H1 e (.lst [])) p (.str "cells") (some (.ref c)) := DGet.k (k := .inr "cells") k3
      refine ne_dat (a := xs) (b := ([] : List Int)) (.lst (SqL.of k4) (dpa_of_ints xs)) (.lst (SqL.of upd_same) .nil) ⟨_, rfl, ?_⟩
      by_cases hx : xs = []
      · rw [decide_eq_true hx]
        exact ⟨37 * t + 13, rfl, k3, k4, g2⟩
      · rw [decide_eq_false hx]
        have hpos : (0 : Int) < (xs.map V.int).length := by
          rw [List.length_map]
          have := List.length_pos_iff.mpr hx
          omega
        refine ⟨.ref p, rfl, p, .ref c, rfl, gc2, .int t, rfl, .ref p, rfl, p, .ref c, rfl, gc2, c, _, rfl, .inl (SqL.of k4), t, _, rfl, rfl, hpos, ?_⟩
        have hlt : (t % ((xs.map V.int).length : Int)).toNat < xs.length := by
          have h6 := Int.emod_nonneg t (b := ((xs.map V.int).length : Int)) (by omega)
          have h7 := Int.emod_lt_of_pos t hpos
          rw [List.length_map] at h6 h7 ⊢
          omega
        refine ⟨c, xs.map V.int, _, .int xs[(t % ((xs.map V.int).length : Int)).toNat], rfl, rfl, SqL.of k4, ?_, ?_⟩
        · refine at_of (j := (t % ((xs.map V.int).length : Int)).toNat) ?_ ?_
          · have h6 := Int.emod_nonneg t (b := ((xs.map V.int).length : Int)) (by omega)
            omega
          · rw [List.getElem?_map, List.getElem?_eq_getElem hlt]
            rfl
        · exact ⟨_, rfl, k3, k4, g2⟩
    · rintro σ' H' ⟨cell, rfl, k3, k4, g2⟩
      have gc2 : DGet H' p (.str "cells") (some (.ref c)) := DGet.k (k := .inr "cells") k3
      -- if turn < len(pen['cells']) and abs(cell) >= 10 ** 18
      refine ⟨fun σ2 H2 => σ2 = [some (.ref p), some (.int many), none, some (.int t), some (.int cell), none, none, none] ∧ H2 = H', ?_, ?_⟩
      · refine ⟨.int t, rfl, .ref p, rfl, p, .ref c, rfl, gc2, c, _, rfl, .inl (SqL.of k4), t, _, rfl, rfl, _, rfl, ite2 (fun _ => ?_) (fun _ => ⟨rfl, rfl⟩)⟩
        refine ⟨.int cell, rfl, cell, rfl, 10, 18, rfl, rfl, ⟨by decide, by decide, by decide⟩, _, _, rfl, rfl, _, rfl, ite2 (fun ha => ?_) (fun _ => ⟨rfl, rfl⟩)⟩
        have hge : (10 : Int) ^ (18 : Int).toNat ≤ (if cell < 0 then -cell else cell) := of_decide_eq_true ha
        refine ⟨.int cell, rfl, cell, rfl, 10, 18, rfl, rfl, ⟨by decide, by decide, by decide⟩, _, _, rfl, rfl, .int many, rfl, _, many, rfl, rfl, ⟨hm0, by omega⟩, .ref p, rfl, p, _, rfl, dput_left k3, ?_⟩
        refine ⟨.int cell, rfl, cell, rfl, 10, 18, rfl, rfl, ⟨by decide, by decide, by decide⟩, _, _, rfl, rfl, .int many, rfl, _, many, rfl, rfl, hm0, ?_⟩
        refine q _ _ (Int.emod_nonneg _ (by omega)) (Int.emod_lt_of_pos _ hm0) ?_
        refine ⟨fun b o eb nb => ?_, fun m hpm => ?_⟩
        · have nbp : b ≠ p := fun z => by
            rw [z, h1] at eb
            cases eb
            exact nb
          rw [upd_ne nbp]
          exact g2.1 _ _ eb nb
        · obtain ⟨t0, l0, ys, a1, a2, a3, a4, a5⟩ := g2.2 m hpm
          rw [k3] at a1
          injection a1 with a1
          injection a1 with a1
          have et := penD_inj a1
          have nc' : c ≠ p := nc
          exact ⟨t + 1, _, ys, upd_same, by rw [upd_ne nc']; exact a2, by omega, by omega, Int.ediv_nonneg (by omega) (by omega)⟩
      · rintro σ2 H2 ⟨rfl, rfl⟩
        -- primes = [..]
        refine ⟨by show 5 ≤ sizeLine; decide, fun e he => ?_⟩
        have g3 : Go p c 1 H (upd H2 e (.lst primesV)) := g2.trans (k := 0) (Go.new he)
        have ke : (upd H2 e (.lst primesV)) e = some (.lst primesV) := upd_same
        obtain ⟨m, hm2, hm3, hm4⟩ := primes_at (i := t % 5) (by omega) (by omega)
        obtain ⟨m', hm2', hm3', hm4'⟩ := primes_at (i := (t + 3) % 5) (by omega) (by omega)
        -- prime = primes[turn % 5]
        refine ⟨.ref e, rfl, .int t, rfl, t, 5, rfl, rfl, (by show (0 : Int) < 5; decide), e, primesV, t % 5, .int m, rfl, rfl, SqL.of ke, hm2, ?_⟩
        -- drawn = (cell % prime * 48271 + 40692 * turn * turn + 31) % prime
        refine ⟨.int cell, rfl, .int m, rfl, cell, m, rfl, rfl, hm3, cell % m, 48271, rfl, rfl, .inr ⟨by decide, by decide⟩, .int t, rfl, 40692, t, rfl, rfl, .inl ⟨by decide, by decide⟩, .int t, rfl, 40692 * t, t, rfl, rfl, .inr ⟨by omega, by omega⟩, _, _, rfl, rfl, _, 31, rfl, rfl, .int m, rfl, _, m, rfl, rfl, hm3, ?_⟩
        have hd0 := Int.emod_nonneg (cell % m * 48271 + 40692 * t * t + 31) (b := m) (by omega)
        have hd1 := Int.emod_lt_of_pos (cell % m * 48271 + 40692 * t * t + 31) hm3
        obtain ⟨d, ed⟩ : ∃ d : Int, d = (cell % m * 48271 + 40692 * t * t + 31) % m := ⟨_, rfl⟩
        rw [← ed] at hd0 hd1
        -- drawn = drawn * (drawn + 69621) % primes[(turn + 3) % 5]
        refine ⟨.int d, (by rw [ed]; rfl), .int d, (by rw [ed]; rfl), d, 69621, rfl, rfl, d, d + 69621, rfl, rfl, .inl ⟨by omega, by omega⟩, .ref e, rfl, .int t, rfl, t, 3, rfl, rfl, t + 3, 5, rfl, rfl, (by show (0 : Int) < 5; decide), e, primesV, (t + 3) % 5, .int m', rfl, rfl, SqL.of ke, hm2', _, m', rfl, rfl, hm3', ?_⟩
        have he0 := Int.emod_nonneg (d * (d + 69621)) (b := m') (by omega)
        have he1 := Int.emod_lt_of_pos (d * (d + 69621)) hm3'
        obtain ⟨d', ed'⟩ : ∃ d' : Int, d' = d * (d + 69621) % m' := ⟨_, rfl⟩
        rw [← ed'] at he0 he1
        -- return drawn * drawn % 2147483549 // 64 % many
        refine ⟨.int d', (by rw [ed']; rfl), .int d', (by rw [ed']; rfl), d', d', rfl, rfl, .inl ⟨by omega, by omega⟩, d' * d', 2147483549, rfl, rfl, (by show (0 : Int) < 2147483549; decide), _, 64, rfl, rfl, ⟨by decide, by decide⟩, .int many, rfl, _, many, rfl, rfl, hm0, ?_⟩
        exact q _ _ (Int.emod_nonneg _ (by omega)) (Int.emod_lt_of_pos _ hm0) g3
end
end Gb
set_option maxRecDepth 100000
set_option maxHeartbeats 4000000
namespace Gb
open PySem PySem.Spec PyProof.Rows L2
open PySem.W (Datum Tup T4)
section
variable {P : Program} {w : World} {K : PySem.W.Frag} {mg : Str → Option Value} {base : Heap}
theorem sc__law_pick : FnScope ["pen", "some"] ["pen", "some"] (defScope s__law_pick) := ⟨rfl, rfl, rfl, by decide +kernel, rfl, by decide +kernel, by decide +kernel⟩
theorem ok__law_pick (D : Dn K mg "_law_pick" s__law_pick ["pen", "some"]) (B : Bt mg) (c__law_draw : Cl P w K mg base 1 "_law_draw" spDraw) : Cl P w K mg base 2 "_law_pick" (spPick K) := by
  refine cl_of D sc__law_pick (fun vs H Q E h => ?_) (fun cdv f A outer s H vs Q E hr h => ?_)
  · obtain ⟨p, c, l, n, xs, rfl, _⟩ := h
    rfl
  · obtain ⟨p, c, l, n, xs, rfl, hp, hn, hS, h0, h1, q⟩ := h
    have nd := sc__law_pick.nd
    refine ⟨_, (pss_one (ps_ret (pe_ix ix_listK (pv 1) (pe_c c__law_draw hr (by decide) (by rfl) (pa_cons (pv 0) (pa_cons (pe_callB call_lenK (by rfl) B.len PySem.boot_len (pa_cons (pv 1) pa_nil)) pa_nil))) (fun _ _ => rfl)))), ?_⟩
    refine ⟨.ref l, rfl, .ref p, rfl, .ref l, rfl, l, xs, rfl, .inl hS, ⟨p, c, n, _, rfl, hp, by omega, by omega, by omega, fun r H' hr0 hr1 g => ?_⟩⟩
    have hlt : r.toNat < xs.length := by omega
    exact ⟨l, xs, r, xs[r.toNat], rfl, rfl, g.1.l hS, at_of (j := r.toNat) (by omega) (List.getElem?_eq_getElem hlt), q r.toNat _ H' (List.getElem?_eq_getElem hlt) g⟩
end
end Gb
set_option maxRecDepth 100000
set_option maxHeartbeats 4000000
namespace Gb
open PySem PySem.Spec PyProof.Rows L2
open PySem.W (Datum Tup T4)
section
variable {P : Program} {w : World} {K : PySem.W.Frag} {mg : Str → Option Value} {base : Heap}
theorem sc__law_great : FnScope ["pen", "figures", "found", "k"] ["pen", "figures"] (defScope s__law_great) := ⟨rfl, rfl, rfl, by decide +kernel, rfl, by decide +kernel, by decide +kernel⟩
theorem ok__law_great (D : Dn K mg "_law_great" s__law_great ["pen", "figures"]) (B : Bt mg) (c__law_draw : Cl P w K mg base 1 "_law_draw" spDraw) : Cl P w K mg base 2 "_law_great" spGreat := by
  refine cl_of D sc__law_great (fun vs H Q E h => ?_) (fun cdv f A outer s H vs Q E hr h => ?_)
  · obtain ⟨p, c, n, k, rfl, _⟩ := h
    rfl
  · obtain ⟨p, c, n, k, rfl, hp, hn, hk, q⟩ := h
    have nd := sc__law_great.nd
    refine ⟨_, (pss_cons (ps_set (i := 2) nd rfl (.inl rfl) pe_int)
    (pss_cons (ps_for PassesOwn.never rfl (pi_range1 (by rfl) B.range (pa_cons (pv 1) pa_nil)) (pg_name (i := 3) nd rfl (.inl rfl))
    (pss_one (ps_set (i := 2) nd rfl (.inl rfl) (pe_op op_add (pe_op op_mul pe_int (pv 2)) (pe_c c__law_draw hr (by decide) (by rfl) (pa_cons (pv 0) (pa_cons pe_int pa_nil)))))))
    (pss_one (ps_ret (pv 2))))), ?_⟩
    refine ⟨.int (k : Int), rfl, k, rfl, by omega, by omega, for_range (lo := 0) (n := k) (fun i σ H' => ∃ (r : Nat) (u : Option V), σ = [some (.ref p), some (.int (k : Int)), some (.int (r : Int)), u] ∧ r < 10 ^ i ∧ Go p c i H H')
      ⟨0, none, rfl, by decide, Go.refl⟩ ?_ ?_⟩
    · rintro i σ H' hi ⟨r, u, rfl, hr10, g⟩
      refine ⟨.int (r : Int), rfl, 10, r, rfl, rfl, .inl ⟨by decide, by decide⟩, .ref p, rfl, ⟨p, c, n + i, 10, rfl, g.2 n hp, by omega, by decide, by decide, fun d H2 hd0 hd1 g2 => ?_⟩⟩
      refine ⟨10 * (r : Int), d, rfl, rfl, 10 * r + d.toNat, some (.int (0 + (i : Int))), ?_, ?_, g.trans g2⟩
      · have e : 10 * (r : Int) + d = ((10 * r + d.toNat : Nat) : Int) := by omega
        rw [← e]
        rfl
      · rw [Nat.pow_succ]
        omega
    · rintro σ H' ⟨r, u, rfl, hr10, g⟩
      exact ⟨.int (r : Int), rfl, q r H' hr10 g⟩
end
end Gb
set_option maxRecDepth 100000
set_option maxHeartbeats 4000000
namespace Gb
open PySem PySem.Spec PyProof.Rows L2
open PySem.W (Datum Tup T4)
section
variable {P : Program} {w : World} {K : PySem.W.Frag} {mg : Str → Option Value} {base : Heap}
theorem sc__law_shuffled : FnScope ["pen", "some", "left", "k"] ["pen", "some"] (defScope s__law_shuffled) := ⟨rfl, rfl, rfl, by decide +kernel, rfl, by decide +kernel, by decide +kernel⟩
theorem ok__law_shuffled (D : Dn K mg "_law_shuffled" s__law_shuffled ["pen", "some"]) (B : Bt mg) (c__law_draw : Cl P w K mg base 1 "_law_draw" spDraw) : Cl P w K mg base 2 "_law_shuffled" (spShuf K) := by
  refine cl_of D sc__law_shuffled (fun vs H Q E h => ?_) (fun cdv f A outer s H vs Q E hr h => ?_)
  · obtain ⟨p, c, l, n, xs, rfl, _⟩ := h
    rfl
  · obtain ⟨p, c, l, n, xs, rfl, hp, hn, hS, h1, q⟩ := h
    have nd := sc__law_shuffled.nd
    refine ⟨_, (pss_cons (ps_set (i := 2) nd rfl (.inr rfl) (pe_callTy call_listK (by rfl) B.list (by decide +kernel) (pa_cons (pv 1) pa_nil)))
    (pss_one (ps_ret (pe_lc (own := [("k", 3)]) rfl nd (pi_range1 (by rfl) B.range (pa_cons (pe_callB call_lenK (by rfl) B.len PySem.boot_len (pa_cons (pv 2) pa_nil)) pa_nil)) (blkOk_by (N := ["pen", "some", "left", "k"]) (sc := defScope s__law_shuffled) (by decide +kernel)) (fun _ _ _ _ _ => (pg_name (i := 3) nd rfl (.inl rfl))) (fun _ _ _ _ _ => pts_nil) (fun _ _ _ _ _ => (pe_bmK PySem.F.plainAttrs_list PySem.F.slot_list_pop PySem.F.type_list_pop mt_popAt (pv 2) (pa_cons (pe_c c__law_draw hr (by decide) (by rfl) (pa_cons (pv 0) (pa_cons (pe_callB call_lenK (by rfl) B.len PySem.boot_len (pa_cons (pv 2) pa_nil)) pa_nil))) pa_nil))))))), ?_⟩
    refine ⟨.ref l, rfl, l, xs, rfl, .inl hS, fun a ha => ?_⟩
    have na := hp.ne ha
    refine ⟨.ref a, rfl, a, xs, rfl, .inl (SqL.of upd_same), xs.length, rfl, by omega, by omega, fun D hD => ?_⟩
    have naD : D ≠ a := fun e => by
      rw [e, upd_same] at hD
      cases hD
    have hD0 : H D = none := by
      rw [upd_ne naD] at hD
      exact hD
    have nD := hp.ne hD0
    -- two lists: what is left at a, what is taken at D
    refine lc_range (lo := 0) (n := xs.length) (fun i H' => ∃ zs ys : List V, H' a = some (.lst zs) ∧ H' D = some (.lst ys) ∧ (ys ++ zs).Perm xs ∧ ys.length = i ∧ Go p c i H (del (del H' a) D)) ?_ ?_ ?_
    · refine ⟨xs, [], ?_, upd_same, List.Perm.refl _, rfl, ?_⟩
      · rw [upd_ne naD.symm]
        exact upd_same
      · have e : del (del (upd (upd H a (.lst xs)) D (.lst [])) a) D = H := by
          funext b
          by_cases hb : b = D
          · rw [hb, del_same, hD0]
          · rw [del_ne hb]
            by_cases hb2 : b = a
            · rw [hb2, del_same, ha]
            · rw [del_ne hb2, upd_ne hb, upd_ne hb2]
        rw [e]
        exact Go.refl
    · rintro i H' hi ⟨zs, ys, ka, kD, pm, hl, g⟩
      have hlen := pm.length_eq
      rw [List.length_append] at hlen
      have hp' : Pen H' p c (n + i) := ((g.2 n hp).undel).undel
      refine ⟨rfl, .ref a, rfl, .inl ⟨rfl, _, SqL.of ka⟩, .ref p, rfl, .ref a, rfl, a, zs, rfl, .inl (SqL.of ka), ⟨p, c, n + i, (zs.length : Int), rfl, hp', by omega, by omega, by omega, fun r H2 hr0 hr1 g2 => ?_⟩⟩
      have ka2 := g2.1 _ _ ka trivial
      have kD2 := g2.1 _ _ kD trivial
      have hlt : r.toNat < zs.length := by omega
      have hz : zs[r.toNat]? = some zs[r.toNat] := List.getElem?_eq_getElem hlt
      refine ⟨a, zs, r, r.toNat, zs[r.toNat], rfl, rfl, ka2, by omega, by omega, seqIx hr0 hr1, hz, ?_⟩
      refine ⟨ys, by rw [upd_ne naD]; exact kD2, Nat.lt_of_le_of_lt (by omega : ys.length ≤ 1000) (by decide), ?_⟩
      refine ⟨zs.eraseIdx r.toNat, ys ++ [zs[r.toNat]], ?_, upd_same, ?_, by rw [List.length_append, List.length_singleton, hl], ?_⟩
      · rw [upd_ne naD.symm]
        exact upd_same
      · rw [List.append_assoc]
        exact ((erase_perm hz).append_left ys).trans pm
      · have e : del (del (upd (upd H2 a (.lst (zs.eraseIdx r.toNat))) D (.lst (ys ++ [zs[r.toNat]]))) a) D = del (del H2 a) D := by
          funext b
          by_cases hb : b = D
          · rw [hb, del_same, del_same]
          · rw [del_ne hb, del_ne hb]
            by_cases hb2 : b = a
            · rw [hb2, del_same, del_same]
            · rw [del_ne hb2, del_ne hb2, upd_ne hb, upd_ne hb2]
        rw [e]
        exact g.trans ((g2.del na.1 na.2).del nD.1 nD.2)
    · rintro H' ⟨zs, ys, ka, kD, pm, hl, g⟩
      have hlen := pm.length_eq
      rw [List.length_append] at hlen
      have hz : zs = [] := List.length_eq_zero_iff.mp (by omega)
      rw [hz, List.append_nil] at pm
      exact q D ys H' hD0 kD pm ⟨(g.1.trans del_ex).trans del_ex, fun m hm => ((g.2 m hm).undel).undel⟩
end
end Gb
set_option maxRecDepth 100000
set_option maxHeartbeats 4000000
/-! Ties sorted are the web's ties. -/
namespace Fv
open PySem PySem.Spec PyProof.Rows L2 Gb
open PySem.W (T4)
def tieL (t : Tw) : List Int := [t.a, t.b, t.c, t.d]
theorem depthAll_le {b : Nat} : ∀ {ds : List PyData}, (∀ d ∈ ds, d.depth ≤ b) → PyData.depthAll ds ≤ b
  | [], _ => by
    simp only [PyData.depthAll]
    exact Nat.zero_le _
  | d :: ds, h => by
    simp only [PyData.depthAll]
    exact Nat.max_le.mpr ⟨h d List.mem_cons_self, depthAll_le fun x hx => h x (List.mem_cons_of_mem _ hx)⟩
theorem layAll_of : ∀ {ds : List PyData}, (∀ d ∈ ds, d.canLay0 = true) → PyData.canLayAll0 ds = true
  | [], _ => by simp only [PyData.canLayAll0]
  | d :: ds, h => by
    simp only [PyData.canLayAll0, h d List.mem_cons_self, layAll_of fun x hx => h x (List.mem_cons_of_mem _ hx), Bool.and_self]
end Fv
set_option maxRecDepth 100000
set_option maxHeartbeats 4000000
/-! Web(size, ties). -/
namespace Fv
open PySem PySem.Spec PyProof.Rows L2 Gb
/-- what a class's call tells, by its arguments -/
abbrev FW := List PyData → Nat → XQ → QE → Prop
def SpW (F : Fx) (f : FW) : Sp := fun vs H Q E => ∃ (H1 B : Hp) (x dx : Addr) (us : List V) (ds : List PyData) (n : Nat) (EX : XQ) (QD : QE), vs = .ref x :: us ∧ H = upd (upd H1 dx (.own x)) x (.ins F.C dx []) ∧ H1 x = none ∧ H1 dx = none ∧ dx ≠ x ∧ Same B H1 ∧ DdA F.K B us ds ∧ f ds n EX QD ∧
  (∀ s M B' H', Mv none B H1 B' H' → WebAt F.K F.C B' x s M → QD (.web s M) n → Q .non H') ∧
  ∀ xn cv dd B' H', Mv none B H1 B' H' → ExR (F.g none (fun _ _ _ _ => True) B H) B' cv dd xn → EX xn n → E cv dd H'
structure ClW (F : Fx) (k : Nat) (x : Str) (f : FW) : Prop where
  ex : ∃ (fI : Addr) (fd : FuncData) (ps : List Str), FnOk F.P F.w F.K F.mg F.base (L2.CX F.P F.w) k fI fd ps (SpW F f) ∧ F.mg x = some (.ref F.C) ∧ Mk F.K F.C fI ∧ Binds F.K fd ps []
def wMk (f : FW) (wa : WA) : WE := fun ρ n E Q => wa ρ n E fun ds n1 => match pyAll ds with
  | some ps => f ps n1 E (fun d n' => n' = n1 → Q d n')
  | none => False
section
variable {X : Cx} {G : Cg} {k j : Nat} {x : Str} {f : FW} {p pos : Pos} {e : Expr} {es : List Expr} {t : TA} {wa : WA}
end
abbrev wNo : WX := fun _ _ _ _ => False
/-- self.f = e -/
def tFldB (F : Fx) (f : Str) (we : WE) : TS := fun D σ H => ∃ ρ n B B0 H0 Qd, St (F.g none wNo B0 H0) n B H ρ σ ∧ we ρ n (fun _ _ => False) Qd ∧ ∀ v d n' B' H', Mv none B H B' H' → R (F.g none wNo B0 H0) B' v d → Qd d n' →
  ∃ a dx fs, σ[0]? = some (some (.ref a)) ∧ H' a = some (.ins F.C dx fs) ∧ Cls F.K F.C ∧ NoAttr F.K F.C f ∧ fs.length < 1000 ∧ D.nx σ (upd H' a (.ins F.C dx (putF f v fs)))
def NT (H H' : Hp) : Prop := ∀ y ps, H' y = some (.tbl ps) → ∃ ps', H y = some (.tbl ps')
theorem NT.refl {H : Hp} : NT H H := fun _ ps h => ⟨ps, h⟩
theorem NT.upd {H H' : Hp} {a : Addr} {o : HO} (h : NT H H') (nt : notTb o := by trivial) : NT H (upd H' a o) := fun y ps q => by
  by_cases e : y = a
  · subst e
    rw [upd_same] at q
    cases q
    exact absurd nt (fun z => z)
  · rw [upd_ne e] at q
    exact h y ps q
def fMk : FW := fun ds n EX Q => ∃ d e, ds = [d, e] ∧
  ((isBtw 1 12 d = false ∧ EX (xPart "NoWeb" "size") n) ∨ (∃ s : Nat, d = .int s ∧ 1 ≤ s ∧ s ≤ 12 ∧ ((tiesT s e = none ∧ EX (xPart "NoWeb" "ties") n) ∨ ∃ ts : List Tw, e = .list (ts.map tieD) ∧ TiesOk 9 s ts ∧ Q (.web s (matOf ts)) n)))
def tellB (B H : Hp) (D : Addr) (rs : List Addr) : Hp := fun b => if b = D ∨ b ∈ rs then H b else B b
theorem Rows.tell {B H0 H : Hp} {D : Addr} {rs : List Addr} {R : Nat → List V} (A : Rows H0 H D rs R) (sb : Same B H0) (nt : NT H0 H) : Mv none B H0 (tellB B H D rs) H := by
  have new : ∀ b, (b = D ∨ b ∈ rs) → H0 b = none := fun b h => h.elim (fun e => e ▸ A.fD) (A.fr b)
  refine ⟨A.ol, fun b o h => ?_, fun b o h => ?_, fun b o u h h0 _ => ?_, fun b ps h => ?_, nt⟩
  · unfold tellB
    rw [if_neg (fun z => by have := sb _ _ h; rw [new b z] at this; cases this)]
    exact h
  · unfold tellB at h
    split at h
    · exact h
    · exact A.ol _ _ (sb _ _ h)
  · unfold tellB at h
    rw [if_neg (fun z => by rw [new b z] at h0; cases h0)] at h
    exact h
  · unfold tellB at h
    split at h
    · rename_i z
      rcases z with z | z
      · rw [z, A.at_] at h
        cases h
      · obtain ⟨i, hi⟩ := List.getElem?_of_mem z
        rw [A.it i b hi] at h
        cases h
    · exact h
def rowL (M : Nat → Nat → Int) (s i : Nat) : PyData := .list ((List.range s).map fun j => .int (M i j))
end Fv
set_option maxRecDepth 100000
set_option maxHeartbeats 4000000
/-! What a web tells; standings. -/
namespace Fv
open PySem PySem.Spec PyProof.Rows L2 Gb
open PySem.W (T4)
def fTies : FB := fun ds n _ Q => ∃ s M, ds = [.web s M] ∧ Q (.py (.list ((tiesW M s).map tieD))) n
abbrev intsD (xs : List Int) : List PyData := xs.map PyData.int
/-- the cords are no more than nine -/
def M9 (M : Nat → Nat → Int) : Prop := ∀ i j, 0 ≤ M i j ∧ M i j ≤ 9
theorem atI_ints {xs : List Int} {i : Nat} (h : i < xs.length) : L2.atI (intsD xs) (i : Int) = some (.int (xs.getD i 0)) :=
  L2.atI_nat (by rw [List.getElem?_map, getD_some h]; rfl)
theorem flat_zero (s : Nat) : (List.replicate s [PyData.int 0]).flatten = intsD (List.replicate s 0) := by
  induction s with
  | zero => rfl
  | succ n ih =>
    rw [List.replicate_succ, List.flatten_cons, ih]
    rfl
theorem set_ints {xs : List Int} {i : Nat} {z : Int} : (intsD xs).set i (.int z) = intsD (xs.set i z) := by
  rw [intsD, intsD, List.map_set]
abbrev stD2 (o n : List Int) : PyData := .tuple [.tuple (intsD o), .tuple (intsD n)]
/-! ### standings -/
def shapeS (s : Nat) : PyData → Bool
  | .tuple [.tuple a, .tuple b] => decide (a.length = s) && decide (b.length = s)
  | _ => false
def numsS : PyData → Bool
  | .tuple [.tuple a, .tuple b] => a.all (isBtw (-(10 ^ 30)) (10 ^ 30)) && b.all (isBtw (-(10 ^ 30)) (10 ^ 30))
  | _ => false
/-- refused, or gone on with -/
def needS (s : Nat) (d : PyData) (EX : XQ) (n : Nat) (k : Prop) : Prop :=
  if shapeS s d = true then (if numsS d = true then k else EX (xPart "NoStanding" "numbers") n) else EX (xPart "NoStanding" "standing") n
def fNeedStanding : FB := fun ds n EX Q => ∃ (s : Nat) (M : Nat → Nat → Int) (d : PyData), ds = [.web s M, .py d] ∧ s ≤ 12 ∧ needS s d EX n (Q (.py .none) n)
def rowOk (s : Nat) : PyData → Bool
  | .tuple a => decide (a.length = s)
  | _ => false
def fBear : FB := fun ds n _ Q => ∃ xs ys, ds = [.py (.tuple [.tuple xs, .tuple ys])] ∧ xs.length + ys.length ≤ 100000 ∧ Q (.py (.bool (numsS (.tuple [.tuple xs, .tuple ys])))) n
/-- what is wrong with it -/
def faultS (s : Nat) (d : PyData) : PyData := if shapeS s d = true then (if numsS d = true then .none else .str "numbers") else .str "standing"
def fFault : FB := fun ds n _ Q => ∃ (s : Nat) (M : Nat → Nat → Int) (d : PyData), ds = [.web s M, .py d] ∧ s ≤ 12 ∧ Q (.py (faultS s d)) n
end Fv
set_option maxRecDepth 100000
set_option maxHeartbeats 4000000
/-! Standings that are none refused. -/
namespace Fv
open PySem PySem.Spec PyProof.Rows L2 Gb
open PySem.W (T4)
abbrev Sd := List Int × List Int
abbrev sdD (p : Sd) : PyData := stD2 p.1 p.2
end Fv
set_option maxRecDepth 100000
set_option maxHeartbeats 4000000
/-! How great numbers get, and that they can be shown. -/
namespace Fv
open PySem PySem.Spec PyProof.Rows L2 Gb
open PySem.W (T4)
theorem int_short {i : Int} (h : -(10 ^ 428) ≤ i ∧ i ≤ 10 ^ 428) : i.natAbs < 10 ^ 429 := by
  have e : (10 : Int) ^ 428 = ((10 ^ 428 : Nat) : Int) := by rw [Int.natCast_pow]; rfl
  have h1 : i.natAbs ≤ 10 ^ 428 := by
    rw [e] at h
    omega
  exact Nat.lt_of_le_of_lt h1 (Nat.pow_lt_pow_right (by decide) (by decide))
theorem int_leaf {i : Int} (h : -(10 ^ 428) ≤ i ∧ i ≤ 10 ^ 428) : (PyData.int i).leavesShort 430 = true := by
  simp only [PyData.leavesShort, decide_eq_true_eq]
  have := PySem.int_text_length_le10 (a := i) (k := 429) (by decide) (int_short h)
  simp only [PyData.shown]
  rw [PySem.ofString_length]
  exact this
theorem int_log {i : Int} (h : -(10 ^ 428) ≤ i ∧ i ≤ 10 ^ 428) : (PyData.int i).showable = true := by
  simp only [PyData.showable, decide_eq_true_eq]
  by_cases h0 : i.natAbs = 0
  · rw [h0]
    decide
  · rw [Nat.log2_lt h0]
    exact Nat.lt_of_lt_of_le (int_short h) (by
      have : (10 : Nat) ^ 429 ≤ 2 ^ 1920 := by decide +kernel
      exact this)
abbrev big : Int := 10 ^ 428
theorem ints_lay : ∀ xs : List Int, PyData.canLayAll0 (intsD xs) = true
  | [] => by simp only [intsD, List.map_nil, PyData.canLayAll0]
  | x :: xs => by
    have ih := ints_lay xs
    rw [intsD, List.map_cons]
    simp only [PyData.canLayAll0, PyData.canLay0, Bool.true_and]
    exact ih
theorem ints_depth : ∀ xs : List Int, PyData.depthAll (intsD xs) = 0
  | [] => by simp only [intsD, List.map_nil, PyData.depthAll]
  | x :: xs => by
    have ih := ints_depth xs
    rw [intsD, List.map_cons]
    simp only [PyData.depthAll, PyData.depth]
    rw [show PyData.depthAll (List.map PyData.int xs) = 0 from ih]
    rfl
structure SdOk (p : Sd) : Prop where
  l1 : p.1.length ≤ 12
  l2 : p.2.length ≤ 12
  w1 : Wi big p.1
  w2 : Wi big p.2
section
variable {p : Sd} (h : SdOk p)
include h
end
theorem shows_of {d : PyData} (s : d.showable = true) (c : d.canLay0 = true) (dp : d.depth ≤ 40) (l : d.leavesShort 430 = true) (b : d.bulk ≤ 20000) : Shows d := by
  refine ⟨s, PyData.hasDict_of_canLay d c, dp, ?_, c⟩
  refine Nat.le_trans (PyData.shown_le_bulk 430 (by decide) d l) (Nat.le_trans (Nat.add_le_add_right (Nat.mul_le_mul_left _ b) _) (by decide))
end Fv
set_option maxRecDepth 100000
set_option maxHeartbeats 4000000
/-! What is shown is a text of Python's own signs. -/
namespace Fv
open PySem PySem.Spec PyProof.Rows L2 Gb
def Good (x : Str) : Prop := ∀ c ∈ x.cps.toList, c < 0x110000
theorem good_ofString (s : String) : Good (Str.ofString s) := fun c hc => by
  rw [PyProof.Rows.signs_ofString] at hc
  obtain ⟨ch, _, rfl⟩ := List.mem_map.mp hc
  have := ch.valid
  have e : ch.toNat = ch.val.toNat := rfl
  rcases this with h | h
  · rw [e]
    exact Nat.lt_trans h (by decide)
  · rw [e]
    exact h.2
theorem good_app {x y : Str} (hx : Good x) (hy : Good y) : Good (x ++ y) := fun c hc => by
  rw [Str.cps_append, Array.toList_append, List.mem_append] at hc
  exact hc.elim (hx c) (hy c)
theorem good_from : ∀ (ts : List Str) (k : Nat) (acc : Str), Good acc → (∀ t ∈ ts, Good t) → Good (textFrom k acc ts)
  | [], _, acc, h, _ => h
  | t :: ts, k, acc, h, ht => by
    refine good_from ts (k + 1) _ (good_app (good_app h ?_) (ht t List.mem_cons_self)) fun u hu => ht u (List.mem_cons_of_mem _ hu)
    split <;> exact good_ofString _
theorem good_list {ts : List Str} (h : ∀ t ∈ ts, Good t) : Good (listText ts) := good_app (good_from ts 0 _ (good_ofString _) h) (good_ofString _)
theorem good_join : ∀ {ts : List Str}, (∀ t ∈ ts, Good t) → Good (Str.join ", " ts)
  | [], _ => fun c hc => by simp [Str.join, Str.empty] at hc
  | [x], h => h x List.mem_cons_self
  | x :: y :: r, h => good_app (good_app (h x List.mem_cons_self) (good_ofString _)) (good_join fun t ht => h t (List.mem_cons_of_mem _ ht))
theorem good_tuple {ts : List Str} (h : ∀ t ∈ ts, Good t) : Good (tupleText ts) := by
  refine good_app (good_app (good_ofString _) (good_join h)) ?_
  split <;> exact good_ofString _
theorem strOk_of {x : Str} (h : Good x) : PyData.strOk x = true := by
  unfold PyData.strOk
  rw [← Array.all_toList, List.all_eq_true]
  exact fun c hc => decide_eq_true (h c hc)
theorem good_int (i : Int) : Good (PyData.int i).shown := by
  simp only [PyData.shown]
  exact good_ofString _
theorem lay_str {x : Str} (h : Good x) : (PyData.str x).canLay0 = true := by
  simp only [PyData.canLay0, strOk_of h]
theorem shaped_str {x : Str} (h : Good x) : SeqAt.shaped (.str x) = true := by
  unfold SeqAt.shaped
  rw [lay_str h]
  simp [PyData.depth]
end Fv
set_option maxRecDepth 100000
set_option maxHeartbeats 4000000
/-! The pen's defs by value. -/
namespace Fv
open PySem PySem.Spec PyProof.Rows L2 Gb
theorem clb_of {F : Fx} {k : Nat} {x : Str} {sp : Sp} {f : FB} (c : Cl F.P F.w F.K F.mg F.base k x sp) (h : ∀ vs H Q E, SpB F false f vs H Q E → SpF sp vs H Q E) : ClB F k x false f := by
  obtain ⟨fa, fd, ps, Fn, hm, kp, b⟩ := c.ex
  exact ⟨fa, fd, ps, (fn_frame Fn).imp h, hm, kp, b⟩
section
variable {F : Fx} {B H : Hp}
/-- the pen among the arguments -/
theorem ra_pen {pn : Pn} {xe : WX} {vs : List V} {ds : List D} (r : RA (F.g pn xe B H) B vs (.pen :: ds)) : ∃ p c T ws, pn = some (p, c, T) ∧ vs = .ref p :: ws ∧ RA (F.g pn xe B H) B ws ds := by
  match vs, r with
  | v :: ws, ⟨⟨p, c, T, e1, e2⟩, r2⟩ => exact ⟨p, c, T, ws, e1, by rw [e2], r2⟩
theorem pen_facts {p c : Addr} {T : List (Addr × Str)} {n : Nat} (sb : Same B H) (pk : Pk (some (p, c, T)) n B H) : B p = none ∧ (∃ kvs, H p = some (.dK kvs)) ∧ Pen (cutH p B H) p c n := by
  obtain ⟨⟨t, l, xs, h1, h2, h3⟩, bp, _, _, _, ys, hcb⟩ := pk
  refine ⟨bp, ⟨_, h1⟩, t, l, xs, by rw [cut_p]; exact h1, ?_, h3⟩
  unfold cutH
  rw [if_neg (fun z => by rw [z, h1] at h2; cases h2), hcb]
  have := sb _ _ hcb
  rw [h2] at this
  cases this
  rfl
theorem go_pen {p c : Addr} {k n : Nat} {J : Hp} (g : Go p c k (cutH p B H) J) (hp : Pen (cutH p B H) p c n) : ∃ kvs, J p = some (.dK kvs) := by
  obtain ⟨t, l, xs, h1, _⟩ := g.2 n hp
  exact ⟨_, h1⟩
def fDraw : FB := fun ds n _ Q => ∃ many : Int, ds = [.pen, .py (.int many)] ∧ n < 2 ^ 60 ∧ 0 < many ∧ many < 1000000 ∧ ∀ r : Int, 0 ≤ r → r < many → Q (.py (.int r)) (n + 1)
theorem b_draw {k : Nat} {x : Str} (c : Cl F.P F.w F.K F.mg F.base k x spDraw) : ClB F k x false fDraw := clb_of c fun vs H Q E h => by
  obtain ⟨pn, B, n, ds, EX, QD, sb, pk, r, ⟨many, rfl, hn, h0, h1, hq⟩, qe, _⟩ := h
  obtain ⟨p, cc, T, ws, epn, evs, r2⟩ := ra_pen r
  subst epn evs
  obtain ⟨bp, hdk, hpen⟩ := pen_facts sb pk
  match ws, r2 with
  | [v], ⟨rv, _⟩ =>
    cases dd_int rv
    refine ⟨p, B, sb, bp, hdk, p, cc, n, many, rfl, hpen, hn, h0, h1, fun r J r0 r1 g => ⟨g.1, go_pen g hpen, fun _ _ => ?_⟩⟩
    obtain ⟨mv, pk2⟩ := join_mv sb pk g
    exact qe (.int r) _ _ _ _ mv pk2 r_int (hq r r0 r1)
def fPick : FB := fun ds n _ Q => ∃ xs : List PyData, ds = [.pen, .py (.list xs)] ∧ n + 1 ≤ 2 ^ 60 ∧ 0 < xs.length ∧ xs.length < 1000 ∧ ∀ d ∈ xs, Q (.py d) (n + 1)
theorem cut_lst {p : Addr} {a : Addr} {xs : List V} (bp : B p = none) (h : B a = some (.lst xs)) : cutH p B H a = some (.lst xs) := by
  unfold cutH
  rw [if_neg (fun z => by rw [z, bp] at h; cases h), h]
  rfl
theorem b_pick {k : Nat} {x : Str} (c : Cl F.P F.w F.K F.mg F.base k x (spPick F.K)) : ClB F k x false fPick := clb_of c fun vs H Q E h => by
  obtain ⟨pn, B, n, ds, EX, QD, sb, pk, r, ⟨xs, rfl, hn, h0, h1, hq⟩, qe, _⟩ := h
  obtain ⟨p, cc, T, ws, epn, evs, r2⟩ := ra_pen r
  subst epn evs
  obtain ⟨bp, hdk, hpen⟩ := pen_facts sb pk
  match ws, r2 with
  | [v], ⟨rv, _⟩ =>
    obtain ⟨a, us, rfl, g1, g2, g3⟩ := dd_list rv
    refine ⟨p, B, sb, bp, hdk, p, cc, a, n, us, rfl, hpen, hn, SqL.of (cut_lst bp g1), by rw [g2.len]; exact h0, by rw [g2.len]; exact h1, fun i v J hi g => ⟨g.1, go_pen g hpen, fun _ _ => ?_⟩⟩
    obtain ⟨mv, pk2⟩ := join_mv sb pk g
    obtain ⟨d, e1, e2⟩ := g2.get hi
    exact qe v (.py d) _ _ _ mv pk2 (Dd.mono mv.b e2) (hq d (List.mem_of_getElem? e1))
def fGreat : FB := fun ds n _ Q => ∃ k : Nat, ds = [.pen, .py (.int (k : Int))] ∧ n + k ≤ 2 ^ 60 ∧ k ≤ 1000 ∧ ∀ r : Nat, r < 10 ^ k → Q (.py (.int (r : Int))) (n + k)
theorem b_great {k : Nat} {x : Str} (c : Cl F.P F.w F.K F.mg F.base k x spGreat) : ClB F k x false fGreat := clb_of c fun vs H Q E h => by
  obtain ⟨pn, B, n, ds, EX, QD, sb, pk, r, ⟨m, rfl, hn, h0, hq⟩, qe, _⟩ := h
  obtain ⟨p, cc, T, ws, epn, evs, r2⟩ := ra_pen r
  subst epn evs
  obtain ⟨bp, hdk, hpen⟩ := pen_facts sb pk
  match ws, r2 with
  | [v], ⟨rv, _⟩ =>
    cases dd_int rv
    refine ⟨p, B, sb, bp, hdk, p, cc, n, m, rfl, hpen, hn, h0, fun r J r0 g => ⟨g.1, go_pen g hpen, fun _ _ => ?_⟩⟩
    obtain ⟨mv, pk2⟩ := join_mv sb pk g
    exact qe (.int r) _ _ _ _ mv pk2 r_int (hq r r0)
theorem dda_perm {K : PySem.W.Frag} {ys xs : List V} (h : ys.Perm xs) : ∀ {ds : List PyData}, DdA K B xs ds → ∃ es : List PyData, es.Perm ds ∧ DdA K B ys es := by
  induction h with
  | nil => exact fun a => ⟨_, .refl _, a⟩
  | cons x _ ih =>
    intro ds a
    match ds, a with
    | d :: ds, .cons r a =>
      obtain ⟨es, h1, h2⟩ := ih a
      exact ⟨d :: es, h1.cons d, .cons r h2⟩
  | swap x y l =>
    intro ds a
    match ds, a with
    | d :: e :: ds, .cons r (.cons r2 a) => exact ⟨e :: d :: ds, .swap d e ds, .cons r2 (.cons r a)⟩
  | trans _ _ ih1 ih2 =>
    intro ds a
    obtain ⟨es, h1, h2⟩ := ih2 a
    obtain ⟨fs, h3, h4⟩ := ih1 h2
    exact ⟨fs, h3.trans h1, h4⟩
def fShuf : FB := fun ds n _ Q => ∃ xs : List PyData, ds = [.pen, .py (.list xs)] ∧ n + xs.length ≤ 2 ^ 60 ∧ xs.length < 1000 ∧ ∀ ys : List PyData, ys.Perm xs → Q (.py (.list ys)) (n + xs.length)
theorem b_shuf {k : Nat} {x : Str} (c : Cl F.P F.w F.K F.mg F.base k x (spShuf F.K)) : ClB F k x false fShuf := clb_of c fun vs H Q E h => by
  obtain ⟨pn, B, n, ds, EX, QD, sb, pk, r, ⟨xs, rfl, hn, h1, hq⟩, qe, _⟩ := h
  obtain ⟨p, cc, T, ws, epn, evs, r2⟩ := ra_pen r
  subst epn evs
  obtain ⟨bp, hdk, hpen⟩ := pen_facts sb pk
  match ws, r2 with
  | [v], ⟨rv, _⟩ =>
    obtain ⟨a, us, rfl, g1, g2, g3⟩ := dd_list rv
    have hl := g2.len
    refine ⟨p, B, sb, bp, hdk, p, cc, a, n, us, rfl, hpen, by rw [hl]; exact hn, SqL.of (cut_lst bp g1), by rw [hl]; exact h1, fun q ys J hq0 hqJ hperm g => ⟨g.1, go_pen g hpen, fun hlen hfr => ?_⟩⟩
    obtain ⟨mv, pk2⟩ := join_mv sb pk g
    obtain ⟨es, e1, e2⟩ := dda_perm hperm (g2.mono mv.b)
    have := qe (.ref q) (.py (.list es)) (n + us.length) _ _ mv pk2 (r_lst (join_rd g.1 (go_pen g hpen) hfr sb hqJ rfl) e2 (hlen _ _ hqJ)) (by rw [hl]; exact hq es e1)
    exact this
/-- size and ties -/
def webD (s : Int) (ts : List Tie) : PyData := .tuple [.int s, .list (ts.map tieD)]
def fWeb (lo cost cap : Nat) (m : Int) : FB := fun ds n _ Q => ∃ most : Int, ds = [.pen, .py (.int most)] ∧ n + cost ≤ 2 ^ 60 ∧ (lo : Int) ≤ most ∧ most ≤ 12 ∧ ∀ (s : Int) (ts : List Tie), 1 ≤ s → s ≤ most → TiesOk m s ts → ts.length ≤ cap → Q (.py (webD s ts)) (n + cost)
def fNum : FB := fun ds n _ Q => ∃ far : Nat, ds = [.pen, .py (.int (far : Int))] ∧ n + 110 ≤ 2 ^ 60 ∧ 2 ≤ far ∧ far ≤ 60 ∧ ∀ r : Int, -(10 ^ far) < r → r < 10 ^ far → Q (.py (.int r)) (n + 110)
/-- a standing -/
def stD (o n : List Int) : PyData := .tuple [.tuple (o.map PyData.int), .tuple (n.map PyData.int)]
def fStand : FB := fun ds n _ Q => ∃ (far : Nat) (s : Int), ds = [.pen, .py (.int s), .py (.int (far : Int))] ∧ n + 3000 ≤ 2 ^ 60 ∧ 1 ≤ s ∧ s ≤ 12 ∧ 2 ≤ far ∧ far ≤ 60 ∧
  ∀ o nw : List Int, (o.length : Int) = s → (nw.length : Int) = s → (∀ k ∈ o ++ nw, -(10 ^ far) < k ∧ k < 10 ^ far) → Q (.py (stD o nw)) (n + 3000)
end
end Fv
set_option maxRecDepth 100000
set_option maxHeartbeats 4000000
/-! A law's pen; what goes by value from there. -/
namespace Fv
open PySem PySem.Spec PyProof.Rows L2 Gb
open PySem.W (T4)
/-- the pen, all that is new no table -/
def spPen2 (K : PySem.W.Frag) : Sp := fun vs H Q _ => ∃ (a : Addr) (ns : List Int), vs = [.ref a] ∧ SqL K H a (ns.map V.int) ∧ ∀ p c H', Pen H' p c 0 → Same H H' → NT H H' → p ≠ c → Q (.ref p) H'
theorem sc__law_pen : FnScope ["script"] ["script"] (defScope s__law_pen) := ⟨rfl, rfl, rfl, by decide +kernel, rfl, by decide +kernel, by decide +kernel⟩
theorem ok__law_pen {P : Program} {w : World} {K : PySem.W.Frag} {mg : Str → Option Value} {base : Heap} (D : Dn K mg "_law_pen" s__law_pen ["script"]) (B : Bt mg) : Cl P w K mg base 1 "_law_pen" (spPen2 K) := by
  refine cl_of D sc__law_pen (fun vs H Q E h => ?_) (fun cdv f A outer s H vs Q E hr h => ?_)
  · obtain ⟨a, ns, rfl, _⟩ := h
    rfl
  · obtain ⟨a, ns, rfl, hs, q⟩ := h
    have nd := sc__law_pen.nd
    refine ⟨_, (pss_one (ps_ret (pe_disp (pps_cons pe_str (pe_callTy call_listK (by rfl) B.list (by decide +kernel) (pa_cons (pe_slice sl_listK (pv 0) po_none (po_some pe_int)) pa_nil)) (pps_cons pe_str pe_int (pps_cons pe_str pe_int pps_nil))) (by rfl) (by rfl) (fun z => by cases z) (by decide)))), ?_⟩
    intro p hp
    have k1 : (upd H p (.dK [])) p = some (.dK []) := upd_same
    have s1 : Same H (upd H p (.dK [])) := same_new hp
    have n1 : NT H (upd H p (.dK [])) := NT.refl.upd
    generalize upd H p (.dK []) = H1 at k1 s1 n1 ⊢
    refine ⟨.ref a, rfl, 63, rfl, a, _, rfl, Ex.l (Ex.of s1) hs, fun l hl => ?_⟩
    have k2 : (upd H1 l (.lst (cutV (ns.map V.int) none (some 63)))) l = some (.lst (cutV (ns.map V.int) none (some 63))) := upd_same
    have s2 : Same H1 (upd H1 l (.lst (cutV (ns.map V.int) none (some 63)))) := same_new hl
    have n2 : NT H (upd H1 l (.lst (cutV (ns.map V.int) none (some 63)))) := n1.upd
    generalize upd H1 l (.lst (cutV (ns.map V.int) none (some 63))) = H2 at k2 s2 n2 ⊢
    refine ⟨l, _, rfl, .inl (SqL.of k2), fun c hc => ?_⟩
    have k3 : (upd H2 c (.lst (cutV (ns.map V.int) none (some 63)))) c = some (.lst (cutV (ns.map V.int) none (some 63))) := upd_same
    have s3 : Same H2 (upd H2 c (.lst (cutV (ns.map V.int) none (some 63)))) := same_new hc
    have n3 : NT H (upd H2 c (.lst (cutV (ns.map V.int) none (some 63)))) := n2.upd
    generalize upd H2 c (.lst (cutV (ns.map V.int) none (some 63))) = H3 at k3 s3 n3 ⊢
    have kp := s3 _ _ (s2 _ _ k1)
    have e63 : cutV (ns.map V.int) none (some 63) = (ns.take 63).map V.int := by
      rw [show (63 : Int) = ((63 : Nat) : Int) from rfl, cut_to, List.map_take]
    have npc : p ≠ c := fun e => by rw [e, k3] at kp; cases kp
    refine ⟨kp, [(.inr "cells", .ref c), (.inr "turn", .int 0), (.inr "left", .int 0)], rfl, Nat.le_of_lt (Nat.lt_of_sub_ne_zero (by intro z; cases z)), ?_⟩
    refine q p c _ ⟨0, 0, ns.take 63, upd_same, ?_, by omega, by omega, by omega⟩ ?_ n3.upd npc
    · rw [upd_ne (Ne.symm npc), k3, e63]
    · exact fun b o e => by
        have nb : b ≠ p := fun z => by
          rw [z, hp] at e
          cases e
        rw [upd_ne nb]
        exact s3 _ _ (s2 _ _ (s1 _ _ e))
/-- what goes by value from here on -/
def tRest (F : Fx) (W : WX) (w : WS) : TS := fun D σ H => ∃ pn B0 H0 ρ n B Ex DB, St (F.g pn W B0 H0) n B H ρ σ ∧ w ρ n Ex DB ∧ XS (F.g pn W B0 H0) B Ex ∧ EO (F.g pn W B0 H0) false B D DB
theorem pss_rest {X : Cx} {F : Fx} {W : WX} {sts : List Stmt} {w : WS} (h : ∀ pn B0 H0, ∃ t, BSs false X (F.g pn W B0 H0) sts t w) : PSs X sts (tRest F W w) := by
  refine ⟨fun pins s σ H D I ht => ?_⟩
  obtain ⟨pn, B0, H0, ρ, n, B, Ex, DB, S, hw, xs, eo⟩ := ht
  obtain ⟨t, hb⟩ := h pn B0 H0
  exact hb.ps.run pins s σ H D I (hb.snd ρ σ n B H Ex D DB S hw xs eo)
def spLawX (K : PySem.W.Frag) : Sp := fun vs H Q _ => ∃ (a : Addr) (ob : Obj) (ns : List Int), vs = [.ref a] ∧ Start K H a [] ob ns ∧ ns.length ≤ 63 ∧ ∀ H', Q (.bl true) H'
theorem same_if {d : PyData} {A B : Prop} (hd : d.canLay0 = true) (h : B) : if (!PyData.eqv d d) = true then A else B := by
  rw [PySem.SeqAt.eqv_refl d hd, if_neg (by decide)]
  exact h
theorem same_str {x : Str} {A B : Prop} (hx : Good x) (h : B) : if (!PyData.eqv (.str x) (.str x)) = true then A else B := same_if (lay_str hx) h
end Fv
set_option maxRecDepth 100000
set_option maxHeartbeats 4000000
/-! range(a, 0, -1). -/
namespace Fv
open PySem PySem.Spec PyProof.Rows L2 Gb
section
variable {X : Cx} {G : Cg} {a b c : Expr} {ta tb tc : TE} {wa wb wc : WE} {pos p : Pos}
def dwnD (lo : Int) (n : Nat) : List D := (List.range n).map fun (k : Nat) => .py (.int (lo - (k : Int)))
def wIRd (wa wb wc : WE) : WI := fun ρ n E Q => wa ρ n E fun d n1 => wb ρ n1 E fun d2 n2 => wc ρ n2 E fun d3 n3 => match d, d2, d3 with
  | .py (.int i), .py (.int j), .py (.int k) => k = -1 ∧ j = 0 ∧ 0 ≤ i ∧ i ≤ 100000 ∧ Q (dwnD i i.toNat) n3
  | _, _, _ => False
end
end Fv
set_option maxRecDepth 100000
set_option maxHeartbeats 4000000
/-! More rules: one's own list told, one of two ways, xs != [], xs[::-1]. -/
namespace Fv
open PySem PySem.Spec PyProof.Rows L2 Gb
/-! ### one's own list is told -/
theorem St.tell {G : Cg} {n : Nat} {B H : Hp} {ρ : List Sl} {σ : L2.St} (S : St G n B H ρ σ) {i : Nat} {ds : List PyData} (hr : ρ[i]? = some (.own ds)) : ∃ B', Same B B' ∧ St G n B' H (ρ.set i (.val (.py (.list ds)))) σ := by
  obtain ⟨l, vs, h1, h2, h3, h4, h5⟩ := S.own i ds hr
  have sm : Same B (upd B l (.lst vs)) := same_new h5.1
  have hi : i < ρ.length := (List.getElem?_eq_some_iff.mp hr).1
  refine ⟨upd B l (.lst vs), sm, S.mv.tell h5.1 h2 h5.2.1, S.pk.tell h2 (fun p c T e => (h5.2.2 p c T e).1), by rw [List.length_set]; exact S.len, fun j d h => ?_, fun j es h => ?_, fun j ks h => ?_, fun j k a ne hj hk => ?_, (S.mat.tellB (S.mat.own i l ⟨_, hr, rfl⟩ h1) h5.1).sub (fun j t l' rows h => ⟨(mat_at (fun _ _ _ => by intro z; cases z) h).2, rfl⟩) (fun j ⟨x, hx, ox⟩ => by
      rw [List.getElem?_set] at hx
      split at hx
      · cases hx
        cases ox
      · exact ⟨⟨x, hx, ox⟩, rfl⟩)⟩
  · rw [List.getElem?_set] at h
    split at h
    · rename_i e
      cases h
      subst e
      exact ⟨.ref l, h1, r_lst upd_same (h4.mono sm) h3⟩
    · obtain ⟨v, g1, g2⟩ := S.val j d h
      exact ⟨v, g1, g2.mono sm⟩
  · rw [List.getElem?_set] at h
    split at h
    · cases h
    · rename_i ne
      obtain ⟨a, us, g1, g2, g3, g4, g5⟩ := S.own j es h
      have nl : a ≠ l := fun e => S.dis j i a (Ne.symm ne) ⟨_, h, rfl⟩ ⟨_, hr, rfl⟩ g1 (by rw [h1, e])
      exact ⟨a, us, g1, g2, g3, g4.mono sm, by rw [upd_ne nl]; exact g5.1, g5.2⟩
  · rw [List.getElem?_set] at h
    split at h
    · cases h
    · rename_i ne
      obtain ⟨a, us, g1, g2, g4, g5⟩ := S.dow j ks h
      have nl : a ≠ l := fun e => S.dis j i a (Ne.symm ne) ⟨_, h, rfl⟩ ⟨_, hr, rfl⟩ g1 (by rw [h1, e])
      exact ⟨a, us, g1, g2, g4.mono sm, by rw [upd_ne nl]; exact g5.1, g5.2⟩
  · have own : ∀ j, ownAt (ρ.set i (.val (.py (.list ds)))) j → ownAt ρ j := fun j ⟨x, hx, ox⟩ => by
      rw [List.getElem?_set] at hx
      split at hx
      · cases hx
        cases ox
      · exact ⟨x, hx, ox⟩
    exact S.dis j k a ne (own j hj) (own k hk)
def sTell (i : Nat) (w : WS) : WS := fun ρ n E DB => match ρ[i]? with
  | some (.own ds) => w (ρ.set i (.val (.py (.list ds)))) n E DB
  | _ => False
/-! ### one of two ways -/
section
variable {X : Cx} {G : Cg} {e : Expr} {t1 t2 : TE} {w1 w2 : WE}
def tAlt (t1 t2 : TE) : TE := fun σ H Q => t1 σ H Q ∨ t2 σ H Q
def wAlt (w1 w2 : WE) : WE := fun ρ n E Q => w1 ρ n E Q ∨ w2 ρ n E Q
end
/-! ### a list beside the empty one -/
section
variable {X : Cx} {G : Cg} {a b : Expr} {ta tb : TE} {wl : WL} {wn wn2 : WN} {pos p : Pos}
def rNeNil (K : PySem.W.Frag) : R2 := fun x y H Q => ∃ p q xs, x = .ref p ∧ y = .ref q ∧ SqL K H p xs ∧ SqL K H q [] ∧ Q (.bl (!xs.isEmpty)) H
def wNeNil (wl : WL) (wn : WN) : WE := fun ρ n E Q => wl ρ n E fun k ds n1 => k = false ∧ wn ρ n1 E fun es n2 => es = [] ∧ Q (.py (.bool (!ds.isEmpty))) n2
/-! ### xs[::-1] -/
def wRevL (wl : WL) : WN := fun ρ n E Q => wl ρ n E fun k ds n1 => k = false ∧ Q ds.reverse n1
end
/-! ### any two tuples one behind the other -/
section
variable {X : Cx} {G : Cg} {a b : Expr} {ta tb : TE} {wa wb : WE} {pos : Pos}
def bCatA : BOp := fun x y Q => match x, y with
  | .py (.tuple xs), .py (.tuple ys) => xs.length + ys.length ≤ 100000 ∧ Q (.py (.tuple (xs ++ ys)))
  | _, _ => False
theorem bs_catA : OpS G (rCatA G.K) bCatA := fun B H x y dx dy P Q sb rx ry h k => by
  match dx, dy, rx, ry, h with
  | .py (.tuple xs), .py (.tuple ys), rx, ry, h =>
    obtain ⟨p, us, rfl, h1, h2, h3⟩ := dd_tup rx
    obtain ⟨q, ws, rfl, g1, g2, g3⟩ := dd_tup ry
    obtain ⟨hl, hq⟩ := h
    have l1 := h2.len
    have l2 := g2.len
    have hz : us.length + ws.length ≤ sizeLine := line5 (by omega)
    refine ⟨p, q, us, ws, rfl, rfl, Same.t sb h1, Same.t sb g1, hz, fun e => ?_, fun e e2 => ?_, fun e e2 r hr => ?_⟩
    · subst e
      have e2 : xs = [] := List.eq_nil_of_length_eq_zero l1.symm
      rw [e2, List.nil_append] at hq
      exact k _ _ B H (Mv.refl sb) ry hq
    · subst e2
      have e3 : ys = [] := List.eq_nil_of_length_eq_zero l2.symm
      rw [e3, List.append_nil] at hq
      exact k _ _ B H (Mv.refl sb) rx hq
    · exact k (.ref r) _ (upd B r (.tup (us ++ ws))) _ (Mv.new sb hr) (r_tup (SqT.of upd_same) ((h2.app g2).mono (same_new (sb.free hr))) (by rw [List.length_append]; exact hz)) hq
theorem be_catA (ha : BE X G a ta wa) (hb : BE X G b tb wb) (hK : X.K = G.K := by rfl) : BE X G (.BinOp a .Add b pos) (tOp (rCatA G.K) ta tb) (wOp bCatA wa wb) := be_opB (hK ▸ op_catA) bs_catA ha hb
end
/-! ### what is new is told -/
section
variable {X : Cx} {G : Cg} {e : Expr} {t : TE} {w : WV}
def wEd (w : WV) : WE := fun ρ n E Q => w ρ n E fun s n' => match s with
  | .val d => Q d n'
  | .own ds => Q (.py (.list ds)) n'
  | .dow ks => Q (.py (.dict ks)) n'
  | .no => False
  | .mat _ _ _ => False
theorem _root_.Fv.BV.ed (h : BV X G e t w) : BE X G e t (wEd w) := ⟨h.pe, fun ρ σ n B H E Qd Q S hw xw k => h.snd ρ σ n B H E _ Q S hw xw fun v s n' B' H' m pk r q => by
  match s, r, q with
  | .val d, r, q => exact k v d n' B' H' m pk r q
  | .own ds, r, q =>
    obtain ⟨l, vs, rfl, hl, fr, hl', hz, hA⟩ := r
    exact k (.ref l) _ n' (upd B' l (.lst vs)) H' (m.tell fr.1 hl' hl) (pk.tell hl' fun p c T e => (fr.2.2 p c T e).1) (r_lst upd_same (hA.mono (same_new fr.1)) hz) q
  | .dow ks, r, q =>
    obtain ⟨l, vs, rfl, hl, fr, hl', hA⟩ := r
    exact k (.ref l) _ n' (upd B' l (.dK vs)) H' (m.tell fr.1 hl' hl) (pk.tell hl' fun p c T e => (fr.2.2 p c T e).1) (r_dic upd_same (hA.mono (same_new fr.1))) q⟩
end
end Fv
set_option maxRecDepth 100000
set_option maxHeartbeats 4000000
/-! A law's frame: from the pen on all goes by value. -/
namespace Fv
open PySem PySem.Spec PyProof.Rows L2 Gb
open PySem.W (T4)
theorem rep_no {m j : Nat} {x : Sl} (h : (List.replicate m Sl.no)[j]? = some x) : x = .no := by
  rw [List.getElem?_replicate] at h
  split at h
  · exact (Option.some.inj h).symm
  · cases h
theorem rest_start {F : Fx} {W : WX} {w : WS} {D : Ends} {Hs H1 : Hp} {a p c : Addr} {ob : Obj} {ns : List Int} {x0 : Option V} (m : Nat) (hS : Start F.K Hs a [] ob ns) (hp0 : Pen H1 p c 0) (nt0 : NT Hs H1) (npc : p ≠ c) (hrt : ∀ H', D.rt (.bl true) H')
    (hw : w (.no :: .val .pen :: List.replicate m .no) 0 (fun _ _ _ => False) { nx := fun _ _ => False, rt := fun d _ => d = .py (.bool true) }) : tRest F W w D (x0 :: some (.ref p) :: List.replicate m none) H1 := by
  obtain ⟨t0, l0, xs0, hp1, hp2, hp3⟩ := hp0
  have dl : Same (Gb.del H1 p) H1 := Gb.del_le
  have hdc : (Gb.del H1 p) c = some (HO.lst (xs0.map V.int)) := by rw [Gb.del_ne (Ne.symm npc)]; exact hp2
  have ntb : ∀ b ps, H1 b ≠ some (.tbl ps) := fun b ps e => by
    obtain ⟨ps', h⟩ := nt0 b ps e
    rcases hS.at_ b _ h with ⟨_, z, _⟩ | ⟨z, _⟩
    · cases z
    · cases z
  refine ⟨some (p, c, []), Gb.del H1 p, H1, .no :: .val .pen :: List.replicate m .no, 0, Gb.del H1 p, fun _ _ _ => False, { nx := fun _ _ => False, rt := fun d _ => d = .py (.bool true) }, ⟨Mv.refl dl, ⟨⟨t0, l0, xs0, hp1, hp2, hp3⟩, Gb.del_same, (fun q hq => by cases hq), fun b ps e => ntb b ps (dl _ _ e), fun b ps e => absurd e (ntb b ps), _, hdc⟩, ?_, fun i d h => ?_, fun i ds h => ?_, fun i ks h => ?_, fun i j l ne ⟨z, hz, oz⟩ => ?_, .no_ fun i t l rows e => ?_⟩, hw, fun _ _ _ _ _ _ _ => XW.none, ⟨fun _ _ _ _ _ _ _ q => q.elim, fun _ _ _ _ _ _ _ q => q.elim, fun _ _ _ _ _ _ _ q => q.elim, fun hm v d n' B' H' mv pk' rv qd => ?_, fun hm => by cases hm⟩⟩
  · simp only [List.length_cons, List.length_replicate]
  · match i, h with
    | 0, h => cases h
    | 1, h =>
      cases h
      exact ⟨.ref p, rfl, p, c, [], rfl, rfl⟩
    | j + 2, h => cases rep_no (j := j) (m := m) h
  · match i, h with
    | 0, h => cases h
    | 1, h => cases h
    | j + 2, h => cases rep_no (j := j) (m := m) h
  · match i, h with
    | 0, h => cases h
    | 1, h => cases h
    | j + 2, h => cases rep_no (j := j) (m := m) h
  · exfalso
    match i, hz with
    | 0, hz =>
      cases hz
      cases oz
    | 1, hz =>
      cases hz
      cases oz
    | j + 2, hz =>
      have := rep_no (j := j) (m := m) hz
      subst this
      cases oz
  · match i, e with
    | 0, e => cases e
    | 1, e => cases e
    | j + 2, e => cases rep_no (j := j) (m := m) e
  · have qd : d = .py (.bool true) := qd
    subst qd
    have := dd_bl rv
    subst this
    exact hrt _
section
variable {m : Bool} {X : Cx} {G : Cg} {a b c : Expr} {ta tb tc : TE} {wa wb wc : WE} {wv wv2 wv3 : WV} {pos : Pos} {x y z : Str} {i j l : Nat}
end
/-! ### ranges -/
theorem rng0 {n j : Nat} {d : D} (h : (rngD 0 n)[j]? = some d) : j < n ∧ d = .py (.int (j : Int)) := by
  have hj : j < n := by
    have := (List.getElem?_eq_some_iff.mp h).1
    rw [rngD_len] at this
    exact this
  refine ⟨hj, ?_⟩
  unfold rngD at h
  rw [List.getElem?_map, List.getElem?_range hj] at h
  have := (Option.some.inj h).symm
  rw [this]
  show D.py (.int (0 + (j : Int))) = _
  rw [Int.zero_add]
/-- a loop that may be left by a break with the same known -/
theorem for_invB {wg : WG} {b : WS} {E : XB} (I : Nat → List Sl → Nat → Prop) (Bk : List Sl → Nat → Prop) (ds : List D) (DB : EB) (ρ : List Sl) (n : Nat)
    (hs : ∀ (j : Nat) (d : D) (ρ : List Sl) (n : Nat) (DB' : EB), ds[j]? = some d → I j ρ n → DB'.rt = DB.rt → (∀ ρ' n', Bk ρ' n' → DB'.bk ρ' n') → (∀ ρ' n', I (j + 1) ρ' n' → DB'.nx ρ' n') → (∀ ρ' n', I (j + 1) ρ' n' → DB'.ct ρ' n') → wg d ρ fun ρ2 => b ρ2 n E DB')
    (h0 : I 0 ρ n) (hp : ∀ ρ' n', I ds.length ρ' n' → DB.nx ρ' n') (hd : ∀ ρ' n', Bk ρ' n' → DB.nx ρ' n') : forGo wg b ds ρ n E DB :=
  for_inv I ds 0 DB ρ n (fun j d ρ n DB' hj hI hrt hbk hnx hct => hs j d ρ n DB' hj (by rw [Nat.zero_add] at hI; exact hI) hrt (fun ρ' n' h => by rw [hbk]; exact hd _ _ h) (fun ρ' n' h => hnx _ _ (by rw [Nat.zero_add]; exact h)) (fun ρ' n' h => hct _ _ (by rw [Nat.zero_add]; exact h))) h0 (fun ρ' n' h => hp _ _ (by rw [Nat.zero_add] at h; exact h))
end Fv
set_option maxRecDepth 100000
set_option maxHeartbeats 4000000
/-! Gains, the standing behind a beat. -/
namespace Fv
open PySem PySem.Spec PyProof.Rows L2 Gb
open PySem.W (T4)
def fLess : FB := fun ds n _ Q => ∃ xs ys : List Int, ds = [.py (.list (intsD xs)), .py (.tuple (intsD ys))] ∧ Q (.py (.tuple (intsD (lessI xs ys)))) n
def fGains : FB := fun ds n _ Q => ∃ (s : Nat) (M : Nat → Nat → Int) (ns : List Int), ds = [.web s M, .py (.tuple (intsD ns))] ∧ s ≤ 12 ∧ M9 M ∧ ns.length = s ∧ Q (.py (.list (intsD (gainsOf (tiesW M s) s ns)))) n
def fFollowing : FB := fun ds n _ Q => ∃ (s : Nat) (M : Nat → Nat → Int) (o w : List Int), ds = [.web s M, .py (stD2 o w)] ∧ s ≤ 12 ∧ M9 M ∧ w.length = s ∧ Q (.py (stD2 w (lessI (gainsOf (tiesW M s) s w) o))) n
end Fv
set_option maxRecDepth 100000
set_option maxHeartbeats 4000000
/-! Beats and runs. -/
namespace Fv
open PySem PySem.Spec PyProof.Rows L2 Gb
open PySem.W (T4)
/-- a beat, a beat back -/
def onF (ts : List Tw) (s : Nat) (p : Sd) : Sd := (p.2, lessI (gainsOf ts s p.2) p.1)
def backF (ts : List Tw) (s : Nat) (p : Sd) : Sd := (lessI (gainsOf ts s p.1) p.2, p.1)
def nthF (f : Sd → Sd) (p : Sd) : Nat → Sd
  | 0 => p
  | n + 1 => f (nthF f p n)
def runF (f : Sd → Sd) (p : Sd) (b : Nat) : List Sd := (List.range (b + 1)).map (nthF f p)
def fBeat (g : List Tw → Nat → Sd → Sd) : FB := fun ds n EX Q => ∃ (s : Nat) (M : Nat → Nat → Int) (d : PyData), ds = [.web s M, .py d] ∧ s ≤ 12 ∧ M9 M ∧ needS s d EX n (∀ p : Sd, d = sdD p → p.1.length = s → p.2.length = s → Q (.py (sdD (g (tiesW M s) s p))) n)
theorem run_len {f : Sd → Sd} {p : Sd} {b : Nat} : (runF f p b).length = b + 1 := by
  unfold runF
  rw [List.length_map, List.length_range]
theorem run_succ {f : Sd → Sd} {p : Sd} {b : Nat} : runF f p (b + 1) = runF f p b ++ [f (nthF f p b)] := by
  unfold runF
  rw [List.range_succ, List.map_append]
  rfl
theorem atI_last {f : Sd → Sd} {p : Sd} {b : Nat} : L2.atI ((runF f p b).map sdD) (-1) = some (sdD (nthF f p b)) := by
  have hl : ((runF f p b).map sdD).length = b + 1 := by rw [List.length_map, run_len]
  unfold L2.atI
  rw [hl]
  have e : L2.ixN (b + 1) (-1) = some b := by
    unfold L2.ixN
    rw [if_neg (by omega), if_pos (by omega)]
    congr 1
    omega
  rw [e]
  show ((runF f p b).map sdD)[b]? = _
  unfold runF
  rw [List.getElem?_map, List.getElem?_map, List.getElem?_range (by omega)]
  rfl
def fRunOn : FB := fun ds n _ Q => ∃ (s : Nat) (M : Nat → Nat → Int) (p : Sd) (b : Nat), ds = [.web s M, .py (sdD p), .py (.int (b : Int))] ∧ s ≤ 12 ∧ M9 M ∧ p.1.length = s ∧ p.2.length = s ∧ b ≤ 1000 ∧ Q (.py (.list ((runF (onF (tiesW M s) s) p b).map sdD))) n
def fRunOf : FB := fun ds n EX Q => ∃ (s : Nat) (M : Nat → Nat → Int) (d : PyData) (b : Nat), ds = [.web s M, .py d, .py (.int (b : Int))] ∧ s ≤ 12 ∧ M9 M ∧ b ≤ 1000 ∧ needS s d EX n (∀ p : Sd, d = sdD p → p.1.length = s → p.2.length = s → Q (.py (.list ((runF (onF (tiesW M s) s) p b).map sdD))) n)
end Fv
set_option maxRecDepth 100000
set_option maxHeartbeats 4000000
/-! max(t), min(t) of a tuple; what a law asks of great standings. -/
namespace Fv
open PySem PySem.Spec PyProof.Rows L2 Gb
open PySem.W (T4)
section
variable {X : Cx} {G : Cg} {a b c d e f : Expr} {ta tb tc td te : TE} {wa wb wc wd we : WE} {pos p p2 p3 : Pos} {x : Str}
def bMaxT : D → (D → Prop) → Prop := fun d Q => match d with
  | .py (.tuple ds) => (match intsOf ds with
    | some ns => 0 < ns.length ∧ ∀ m, m ∈ ns → (∀ y, y ∈ ns → y ≤ m) → Q (.py (.int m))
    | none => False)
  | _ => False
def bMinT : D → (D → Prop) → Prop := fun d Q => match d with
  | .py (.tuple ds) => (match intsOf ds with
    | some ns => 0 < ns.length ∧ ∀ m, m ∈ ns → (∀ y, y ∈ ns → m ≤ y) → Q (.py (.int m))
    | none => False)
  | _ => False
end
end Fv
namespace Fv
open PySem PySem.Spec PyProof.Rows L2 Gb
theorem at0 {α : Type} {x : α} {xs : List α} : L2.atI (x :: xs) 0 = some x := by
  unfold L2.atI L2.ixN
  rw [if_pos (Int.le_refl _), if_pos (by rw [List.length_cons]; omega)]
  rfl
theorem at1 {α : Type} {x y : α} {xs : List α} : L2.atI (x :: y :: xs) 1 = some y := by
  unfold L2.atI L2.ixN
  rw [if_pos (by decide), if_pos (by rw [List.length_cons, List.length_cons]; omega)]
  rfl
end Fv
namespace Fv
open PySem PySem.Spec PyProof.Rows L2 Gb
def swp (p : Sd) : Sd := (p.2, p.1)
end Fv
namespace Fv
end Fv
namespace Fv
open PySem PySem.Spec PyProof.Rows L2 Gb
end Fv
set_option maxRecDepth 100000
set_option maxHeartbeats 4000000
/-! Products of great numbers; standings so many times, and added. -/
namespace Fv
open PySem PySem.Spec PyProof.Rows L2 Gb
open PySem.W (T4)
section
variable {X : Cx} {G : Cg} {a b : Expr} {ta tb : TE} {wa wb : WE} {pos : Pos}
def bMulW : BOp := fun x y Q => match x, y with
  | .py (.int i), .py (.int j) => CMulW i j ∧ Q (.py (.int (i * j)))
  | _, _ => False
end
/-! ### so many times -/
def mulL (c : Int) (xs : List Int) : List Int := xs.map fun x => c * x
def mulP (c : Int) (p : Sd) : Sd := (mulL c p.1, mulL c p.2)
theorem mul_zero {xs : List Int} : mulL 0 xs = List.replicate xs.length 0 := by
  unfold mulL
  induction xs with
  | nil => rfl
  | cons x xs ih => rw [List.map_cons, ih, Int.zero_mul]; rfl
/-! ### added -/
def addL (xs ys : List Int) : List Int := List.zipWith (· + ·) xs ys
def addP (p q : Sd) : Sd := (addL p.1 q.1, addL p.2 q.2)
def alikeS (xs ys : List Int) : Prop := ∀ j, ¬ xs.getD j 0 * ys.getD j 0 < 0
end Fv
namespace Fv
open PySem PySem.Spec PyProof.Rows L2 Gb
section
variable {wg wg1 : WG} {wt wt1 : WT} {we : WE} {ρ : List Sl} {n : Nat}
end
end Fv
set_option maxRecDepth 100000
set_option maxHeartbeats 4000000
/-! Posts tied, parts: the mathematics. -/
namespace Fv
open PySem PySem.Spec PyProof.Rows L2 Gb
open PySem.W (T4)
def natsD (xs : List Nat) : List PyData := xs.map fun (i : Nat) => .int (i : Int)
/-- tied, at either place -/
def adjB (M : Nat → Nat → Int) (i j : Nat) : Bool := decide (i < j ∧ M i j > 0) || decide (j < i ∧ M j i > 0)
theorem adj_symm {M : Nat → Nat → Int} {i j : Nat} : adjB M i j = adjB M j i := by
  unfold adjB
  rw [Bool.or_comm]
def nbrs (M : Nat → Nat → Int) (s i : Nat) : List Nat := (List.range s).filter (adjB M i)
theorem mem_nbrs {M : Nat → Nat → Int} {s i j : Nat} : j ∈ nbrs M s i ↔ j < s ∧ adjB M i j = true := by
  unfold nbrs
  rw [List.mem_filter, List.mem_range]
theorem nbrs_rise {M : Nat → Nat → Int} {s i : Nat} : (nbrs M s i).Pairwise (· < ·) := List.pairwise_lt_range.sublist List.filter_sublist
noncomputable def dec (p : Prop) : Bool := @decide p (Classical.propDecidable p)
/-- to be come to from i -/
inductive Conn (M : Nat → Nat → Int) (s i : Nat) : Nat → Prop
  | refl : Conn M s i i
  | step {j k : Nat} : Conn M s i j → k < s → adjB M j k = true → Conn M s i k
section
variable {M : Nat → Nat → Int} {s i j k : Nat}
theorem Conn.trans (h : Conn M s i j) (h2 : Conn M s j k) : Conn M s i k := by
  induction h2 with
  | refl => exact h
  | step _ a b ih => exact ih.step a b
theorem Conn.lt (h : Conn M s i j) (hi : i < s) : j < s := by
  cases h with
  | refl => exact hi
  | step _ a _ => exact a
theorem Conn.symm (h : Conn M s i j) (hi : i < s) : Conn M s j i := by
  induction h with
  | refl => exact .refl
  | step p a b ih => exact (Conn.step .refl (p.lt hi) (by rw [adj_symm]; exact b)).trans ih
end
noncomputable def comp (M : Nat → Nat → Int) (s i : Nat) : List Nat := (List.range s).filter fun j => dec (Conn M s i j)
/-- the first of its part -/
noncomputable def isFirst (M : Nat → Nat → Int) (s i : Nat) : Bool := dec (∀ j, j < i → ¬ Conn M s j i)
noncomputable def firstsF (M : Nat → Nat → Int) (s n : Nat) : List Nat := (List.range n).filter (isFirst M s)
/-- the parts, by their first posts -/
noncomputable def partsF (M : Nat → Nat → Int) (s : Nat) : List (List Nat) := (firstsF M s s).map (comp M s)
def partD (p : List Nat) : PyData := .list (natsD p)
section
variable {M : Nat → Nat → Int} {s i j k : Nat}
end
/-! ### ties and neighbours -/
/-- the posts told as tied to i, below and above -/
def tiedI (M : Nat → Nat → Int) (s i : Nat) : List Int := ((tiesW M s).filter fun t => decide (t.b = (i : Int))).map (fun t => t.a) ++ ((tiesW M s).filter fun t => decide (t.a = (i : Int))).map (fun t => t.b)
/-- what is reached, with all neighbours of what stands ahead of `at` -/
structure Rch (M : Nat → Nat → Int) (s i : Nat) (L : List Nat) (m : Nat) : Prop where
  nd : L.Nodup
  has : i ∈ L
  all : ∀ j ∈ L, j < s ∧ Conn M s i j
  shut : ∀ k, k < m → ∀ j, L[k]? = some j → ∀ x ∈ nbrs M s j, x ∈ L
theorem Rch.start {M : Nat → Nat → Int} {s i : Nat} (hi : i < s) : Rch M s i [i] 0 :=
  ⟨List.nodup_cons.mpr ⟨by simp, List.nodup_nil⟩, List.mem_singleton.mpr rfl, fun j hj => by rw [List.mem_singleton.mp hj]; exact ⟨hi, .refl⟩, fun k hk => by omega⟩
theorem Rch.more {M : Nat → Nat → Int} {s i m j : Nat} {L : List Nat} (h : Rch M s i L m) (hj : L[m]? = some j) : Rch M s i (L ++ (nbrs M s j).filter fun x => !decide (x ∈ L)) (m + 1) := by
  refine ⟨?_, List.mem_append_left _ h.has, fun x hx => ?_, fun k hk y hy x hx => ?_⟩
  · refine List.nodup_append.mpr ⟨h.nd, (nbrs_rise.imp fun {a b} q => Nat.ne_of_lt q).sublist List.filter_sublist, fun a ha b hb e => ?_⟩
    have := (List.mem_filter.mp hb).2
    rw [← e] at this
    simp [ha] at this
  · rcases List.mem_append.mp hx with hx | hx
    · exact h.all x hx
    · have hx := (List.mem_filter.mp hx).1
      obtain ⟨a, b⟩ := mem_nbrs.mp hx
      exact ⟨a, (h.all j (List.mem_of_getElem? hj)).2.step a b⟩
  · have hm : m < L.length := (List.getElem?_eq_some_iff.mp hj).1
    rw [List.getElem?_append_left (by omega)] at hy
    by_cases hx2 : x ∈ L
    · exact List.mem_append_left _ hx2
    · by_cases e : k = m
      · subst e
        rw [hj] at hy
        cases hy
        exact List.mem_append_right _ (List.mem_filter.mpr ⟨hx, by simp [hx2]⟩)
      · exact absurd (h.shut k (by omega) y hy x hx) hx2
theorem Rch.len {M : Nat → Nat → Int} {s i m : Nat} {L : List Nat} (h : Rch M s i L m) : L.length ≤ s := by
  have := sub_len (m := List.range s) h.nd fun x hx => List.mem_range.mpr (h.all x hx).1
  rw [List.length_range] at this
  exact this
/-! ### numbers among others -/
end Fv
namespace Fv
open PySem PySem.Spec PyProof.Rows L2 Gb
/-! ### numbers sorted -/
theorem le_ints (a b : Int) : PySem.W.dataLe false id (.int a) (.int b) = decide (a ≤ b) := by
  show (!PySem.W.dataLt (.int b) (.int a)) = _
  rw [PySem.W.dataLt_int]
  by_cases h : b < a
  · have h' : ¬ a ≤ b := by omega
    simp [h, h']
  · have h' : a ≤ b := by omega
    simp [h, h']
theorem sort_ints {xs ys : List Int} (h : xs.Perm ys) (r : ys.Pairwise (· ≤ ·)) : sortD (intsD xs) = intsD ys := by
  unfold sortD
  have e := PySem.W.sort_maps (r := fun t u : Int => decide (t ≤ u)) (s := PySem.W.dataLe false id) PyData.int (l := xs) fun a _ b _ => (le_ints a b).symm
  rw [intsD, ← e]
  congr 1
  have hp : (xs.mergeSort fun t u => decide (t ≤ u)).Perm xs := List.mergeSort_perm _ _
  have p1 : (xs.mergeSort fun t u => decide (t ≤ u)).Pairwise fun t u => decide (t ≤ u) = true := List.pairwise_mergeSort (fun a b c h1 h2 => by
    simp only [decide_eq_true_eq] at h1 h2 ⊢
    omega) (fun a b => by
    simp only [Bool.or_eq_true, decide_eq_true_eq]
    omega) xs
  exact (hp.trans h).eq_of_pairwise (fun a b _ _ h1 h2 => by
    have := of_decide_eq_true h1
    have := of_decide_eq_true h2
    omega) p1 (r.imp fun h => decide_eq_true h)
theorem ints_able (xs : List Int) : SortsD (intsD xs) := by
  refine ⟨fun d hd d' hd' => ?_, .inr fun d hd => ?_, ?_, ints_lay _⟩
  · obtain ⟨a, _, rfl⟩ := List.mem_map.mp hd
    obtain ⟨b, _, rfl⟩ := List.mem_map.mp hd'
    rfl
  · obtain ⟨a, _, rfl⟩ := List.mem_map.mp hd
    refine ⟨fun h => ?_, fun ys h => ?_⟩ <;> cases h
  · rw [ints_depth]
    decide
end Fv
set_option maxRecDepth 100000
set_option maxHeartbeats 4000000
/-! Pairs sorted; the cords of a ring. -/
namespace Fv
open PySem PySem.Spec PyProof.Rows L2 Gb
open PySem.W (T4)
def cpD (p : Int × Int) : PyData := .tuple [.int p.1, .int p.2]
def PLe (p q : Int × Int) : Prop := p.1 < q.1 ∨ (p.1 = q.1 ∧ p.2 ≤ q.2)
instance (p q : Int × Int) : Decidable (PLe p q) := inferInstanceAs (Decidable (p.1 < q.1 ∨ (p.1 = q.1 ∧ p.2 ≤ q.2)))
theorem cpD_lay (p : Int × Int) : (cpD p).canLay0 = true := by
  simp [cpD, PyData.canLay0, PyData.canLayAll0]
theorem cpD_depth (p : Int × Int) : (cpD p).depth ≤ 2 := by
  simp [cpD, PyData.depth, PyData.depthAll]
theorem eqv_pair (a b c d : Int) : (PyData.tuple [.int a, .int b]).eqv (.tuple [.int c, .int d]) = (decide (a = c) && decide (b = d)) := by
  have e : ∀ x y : Int, (x == y) = decide (x = y) := fun x y => rfl
  simp only [PyData.eqv, PyData.eqvAll, e, Bool.and_true]
theorem shaped_pair (a b : Int) : SeqAt.shaped (.tuple [.int a, .int b]) = true := by
  unfold SeqAt.shaped
  rw [show (PyData.tuple [.int a, .int b]).canLay0 = true from cpD_lay (a, b), decide_eq_true (show (PyData.tuple [.int a, .int b]).depth ≤ 64 from Nat.le_trans (cpD_depth (a, b)) (by decide))]
  rfl
/-! ### cords -/
def joinI (r x y : Int) : Int × Int := (min (x % r) (y % r), max (x % r) (y % r))
theorem sort_two (x y : Int) : sortD [.int x, .int y] = [.int (min x y), .int (max x y)] := by
  have h : ([x, y] : List Int).Perm [min x y, max x y] := by
    by_cases h : x ≤ y
    · rw [Int.min_eq_left h, Int.max_eq_right h]
    · rw [Int.min_eq_right (by omega), Int.max_eq_left (by omega)]
      exact List.Perm.swap _ _ _
  exact sort_ints h (List.pairwise_cons.mpr ⟨fun z hz => by rw [List.mem_singleton.mp hz]; omega, List.pairwise_singleton _ _⟩)
def cordI (s p b : Int) : Int × Int × Int := ((p + b) % 2, joinI (s + 3) (-((b + (p + b) % 2) / 2) - (p + 1) / 2) (-((b + (p + b) % 2) / 2) + 2 + p / 2))
def cordD (c : Int × Int × Int) : PyData := .tuple [.int c.1, .int c.2.1, .int c.2.2]
def rowW (s : Nat) : List Tw := (List.range (s - 1)).map fun (i : Nat) => ⟨(i : Int), (i : Int) + 1, 1, 1⟩
def allC (s : Int) : List (Int × Int) := (List.range (s + 3).toNat).flatMap fun (l : Nat) => ((List.range (s + 3 - ((l : Int) + 2)).toNat).map fun (k : Nat) => ((l : Int), (l : Int) + 2 + (k : Int))).filter fun c => !decide (c = (0, s + 2))
/-- the cords of a half that the law's loops tell, in their order -/
def halfC (s h : Int) : List (Int × Int) := (List.range s.toNat).flatMap fun (p : Nat) => (List.range (s + 3).toNat).flatMap fun (b : Nat) => if (cordI s (p : Int) (b : Int)).1 = h then [(cordI s (p : Int) (b : Int)).2] else []
def okC (s : Int) : Bool := (halfC s 0).isPerm (allC s) && ((halfC s 1).isPerm (allC s) && decide ((allC s).Pairwise PLe))
theorem row_ok {s : Nat} : TiesOk 9 (s : Int) (rowW s) := by
  refine ⟨fun t ht => ?_, ?_⟩
  · obtain ⟨i, hi, rfl⟩ := List.mem_map.mp ht
    have := List.mem_range.mp hi
    exact ⟨by show (0 : Int) ≤ i; omega, by show (i : Int) < i + 1; omega, by show (i : Int) + 1 < s; omega, by show (1 : Int) ≤ 1; decide, by show (1 : Int) ≤ 9; decide, by show (1 : Int) ≤ 1; decide, by show (1 : Int) ≤ 9; decide⟩
  · unfold rowW
    rw [List.map_map]
    refine List.Pairwise.map _ (fun (a b : Nat) (h : a ≠ b) => ?_) List.nodup_range
    intro e
    have e1 : (a : Int) = (b : Int) := congrArg Prod.fst e
    exact h (by omega)
end Fv
set_option maxRecDepth 100000
set_option maxHeartbeats 4000000
/-! Cords of a ring that stand for a standing: the mathematics. -/
namespace Fv
open PySem PySem.Spec PyProof.Rows L2 Gb
open PySem.W (T4)
/-- a cord and how many -/
abbrev Cm := (Int × Int) × Int
def cmD (c : Cm) : PyData := .tuple [.int c.1.1, .int c.1.2, .int c.2]
def crossI (a b : Int × Int) : Bool := (decide (a.1 < b.1) && (decide (b.1 < a.2) && decide (a.2 < b.2))) || (decide (b.1 < a.1) && (decide (a.1 < b.2) && decide (b.2 < a.2)))
theorem crossI_iff {a b : Int × Int} : crossI a b = true ↔ (a.1 < b.1 ∧ b.1 < a.2 ∧ a.2 < b.2) ∨ (b.1 < a.1 ∧ a.1 < b.2 ∧ b.2 < a.2) := by
  unfold crossI
  simp only [Bool.or_eq_true, Bool.and_eq_true, decide_eq_true_eq]
theorem crossI_comm (a b : Int × Int) : crossI a b = crossI b a := by
  rw [Bool.eq_iff_iff, crossI_iff, crossI_iff]
  omega
theorem mem_allC {s : Int} {c : Int × Int} (hs : 0 ≤ s) : c ∈ allC s ↔ 0 ≤ c.1 ∧ c.1 + 2 ≤ c.2 ∧ c.2 ≤ s + 2 ∧ ¬ (c.1 = 0 ∧ c.2 = s + 2) := by
  unfold allC
  simp only [List.mem_flatMap, List.mem_filter, List.mem_map, List.mem_range]
  constructor
  · rintro ⟨l, hl, ⟨k, hk, rfl⟩, h⟩
    simp only [Bool.not_eq_true', decide_eq_false_iff_not] at h
    refine ⟨by dsimp only; omega, by dsimp only; omega, by dsimp only; omega, fun z => h ?_⟩
    exact Prod.ext z.1 z.2
  · rintro ⟨h1, h2, h3, h4⟩
    refine ⟨c.1.toNat, by omega, ⟨(c.2 - c.1 - 2).toNat, by omega, Prod.ext (by dsimp only; omega) (by dsimp only; omega)⟩, ?_⟩
    simp only [Bool.not_eq_true', decide_eq_false_iff_not]
    intro z
    exact h4 ⟨congrArg Prod.fst z, congrArg Prod.snd z⟩
/-! ### turning -/
def turnP (s : Int) (c : Int × Int) : Int × Int := joinI (s + 3) (c.1 + 1) (c.2 + 1)
theorem turnP_last {s : Int} {c : Int × Int} (h : 0 ≤ c.1 ∧ c.1 + 2 ≤ c.2 ∧ c.2 ≤ s + 2) (e : c.2 = s + 2) : turnP s c = (0, c.1 + 1) := by
  unfold turnP joinI
  rw [show c.2 + 1 = s + 3 by omega, Int.emod_self, Int.emod_eq_of_lt (by omega) (by omega : c.1 + 1 < s + 3)]
  exact Prod.ext (Int.min_eq_right (by omega)) (Int.max_eq_left (by omega))
theorem turnP_else {s : Int} {c : Int × Int} (h : 0 ≤ c.1 ∧ c.1 + 2 ≤ c.2 ∧ c.2 ≤ s + 2) (e : c.2 ≠ s + 2) : turnP s c = (c.1 + 1, c.2 + 1) := by
  unfold turnP joinI
  rw [Int.emod_eq_of_lt (by omega) (by omega : c.2 + 1 < s + 3), Int.emod_eq_of_lt (by omega) (by omega : c.1 + 1 < s + 3)]
  exact Prod.ext (Int.min_eq_left (by omega)) (Int.max_eq_right (by omega))
theorem turn_mem {s : Int} (hs : 0 ≤ s) {c : Int × Int} (h : c ∈ allC s) : turnP s c ∈ allC s := by
  rw [mem_allC hs] at h ⊢
  by_cases e : c.2 = s + 2
  · rw [turnP_last ⟨h.1, h.2.1, h.2.2.1⟩ e]
    dsimp only
    omega
  · rw [turnP_else ⟨h.1, h.2.1, h.2.2.1⟩ e]
    dsimp only
    omega
theorem turn_inj {s : Int} (hs : 0 ≤ s) {c d : Int × Int} (h : c ∈ allC s) (h' : d ∈ allC s) (e : turnP s c = turnP s d) : c = d := by
  rw [mem_allC hs] at h h'
  have k1 : 0 ≤ c.1 ∧ c.1 + 2 ≤ c.2 ∧ c.2 ≤ s + 2 := ⟨h.1, h.2.1, h.2.2.1⟩
  have k2 : 0 ≤ d.1 ∧ d.1 + 2 ≤ d.2 ∧ d.2 ≤ s + 2 := ⟨h'.1, h'.2.1, h'.2.2.1⟩
  by_cases e1 : c.2 = s + 2 <;> by_cases e2 : d.2 = s + 2
  · rw [turnP_last k1 e1, turnP_last k2 e2] at e
    have := congrArg Prod.snd e
    exact Prod.ext (by dsimp only at this; omega) (by omega)
  · rw [turnP_last k1 e1, turnP_else k2 e2] at e
    have := congrArg Prod.fst e
    dsimp only at this
    omega
  · rw [turnP_else k1 e1, turnP_last k2 e2] at e
    have := congrArg Prod.fst e
    dsimp only at this
    omega
  · rw [turnP_else k1 e1, turnP_else k2 e2] at e
    have := congrArg Prod.fst e
    have := congrArg Prod.snd e
    dsimp only at *
    exact Prod.ext (by omega) (by omega)
theorem turn_cross {s : Int} (hs : 0 ≤ s) {c d : Int × Int} (h : c ∈ allC s) (h' : d ∈ allC s) : crossI (turnP s c) (turnP s d) = crossI c d := by
  rw [mem_allC hs] at h h'
  have k1 : 0 ≤ c.1 ∧ c.1 + 2 ≤ c.2 ∧ c.2 ≤ s + 2 := ⟨h.1, h.2.1, h.2.2.1⟩
  have k2 : 0 ≤ d.1 ∧ d.1 + 2 ≤ d.2 ∧ d.2 ≤ s + 2 := ⟨h'.1, h'.2.1, h'.2.2.1⟩
  rw [Bool.eq_iff_iff, crossI_iff, crossI_iff]
  by_cases e1 : c.2 = s + 2 <;> by_cases e2 : d.2 = s + 2
  · rw [turnP_last k1 e1, turnP_last k2 e2]
    dsimp only
    omega
  · rw [turnP_last k1 e1, turnP_else k2 e2]
    dsimp only
    omega
  · rw [turnP_else k1 e1, turnP_last k2 e2]
    dsimp only
    omega
  · rw [turnP_else k1 e1, turnP_else k2 e2]
    dsimp only
    omega
theorem joinI_comm (r x y : Int) : joinI r x y = joinI r y x := by
  unfold joinI
  rw [Int.min_comm, Int.max_comm]
theorem turn_join {s : Int} (hs : 0 ≤ s) (x y : Int) : turnP s (joinI (s + 3) x y) = joinI (s + 3) (x + 1) (y + 1) := by
  have hm : ∀ z : Int, (z % (s + 3) + 1) % (s + 3) = (z + 1) % (s + 3) := fun z => Int.emod_add_emod z (s + 3) 1
  have e : ∀ a b : Int, joinI (s + 3) (a % (s + 3) + 1) (b % (s + 3) + 1) = joinI (s + 3) (a + 1) (b + 1) := fun a b => by
    unfold joinI
    rw [hm, hm]
  unfold turnP
  by_cases h : x % (s + 3) ≤ y % (s + 3)
  · rw [show (joinI (s + 3) x y).1 = x % (s + 3) from Int.min_eq_left h, show (joinI (s + 3) x y).2 = y % (s + 3) from Int.max_eq_right h]
    exact e x y
  · rw [show (joinI (s + 3) x y).1 = y % (s + 3) from Int.min_eq_right (by omega), show (joinI (s + 3) x y).2 = x % (s + 3) from Int.max_eq_left (by omega)]
    rw [e y x, joinI_comm]
/-! ### what a cord is worth -/
def eI (s p b : Int) (c : Int × Int) : Int := (if crossI (cordI s p b).2 c = true then 1 else 0) - (if (cordI s p b).2 = c then 1 else 0)
def sumE (s p b : Int) (L : List Cm) : Int := (L.map fun c => c.2 * eI s p b c.1).sum
def nbE (s p : Int) (c : Int × Int) : Int := (if 1 ≤ p then up (eI s (p - 1) 0 c) else 0) + (if p + 1 < s then up (eI s (p + 1) 0 c) else 0)
def okE (s : Int) : Bool := (List.range s.toNat).all fun (p : Nat) => (allC s).all fun c =>
  if p % 2 = 0 then decide (-eI s p (-1) c + nbE s p c = eI s p 0 (turnP s c)) && decide (eI s p (-1) c = eI s p 0 c)
  else decide (-eI s p (-1) c + nbE s p c = eI s p 0 c) && decide (eI s p (-1) (turnP s c) = eI s p 0 c)
theorem okE_all : ((List.range 12).all fun (k : Nat) => okE ((k : Int) + 1)) = true := by decide +kernel
end Fv
set_option maxRecDepth 100000
set_option maxHeartbeats 4000000
/-! The law's own beats. -/
namespace Fv
open PySem PySem.Spec PyProof.Rows L2 Gb
open PySem.W (T4)
def lonF (ts : List Tw) (p : Sd) : Sd := (p.2, ts.foldl (gainT p.2) (p.1.map fun x => 0 - x))
def lbackF (ts : List Tw) (p : Sd) : Sd := (ts.foldl (gainT p.1) (p.2.map fun x => 0 - x), p.1)
abbrev tiesD (ts : List Tw) : List PyData := ts.map tieD
def fLaw (g : List Tw → Sd → Sd) : FB := fun ds n _ Q => ∃ (s : Nat) (ts : List Tw) (p : Sd), ds = [.py (.int (s : Int)), .py (.list (tiesD ts)), .py (sdD p)] ∧ TiesOk 9 (s : Int) ts ∧ p.1.length = s ∧ p.2.length = s ∧ Q (.py (sdD (g ts p))) n
theorem ixN_ints {xs : List Int} {i : Nat} (h : i < xs.length) : ixN (intsD xs).length (i : Int) = some i := by
  rw [List.length_map]
  exact Gb.ixN_nat h
def negD : D → PyData
  | .py (.int i) => .int (0 - i)
  | _ => .none
theorem neg_ints : ∀ xs : List Int, ((intsD xs).map D.py).map negD = intsD (xs.map fun x => 0 - x)
  | [] => rfl
  | x :: xs => by
    have ih := neg_ints xs
    rw [intsD, List.map_cons, List.map_cons, List.map_cons, List.map_cons, intsD, List.map_cons]
    rw [ih]
    rfl
theorem sc__law_beat : FnScope ["size", "ties", "standing", "old", "now", "fresh", "one", "two", "there", "back", "number"] ["size", "ties", "standing"] (defScope s__law_beat) := ⟨rfl, rfl, rfl, by decide +kernel, rfl, by decide +kernel, by decide +kernel⟩
theorem ok__law_beat {F : Fx} (D : Dn F.K F.mg "_law_beat" s__law_beat ["size", "ties", "standing"]) (bz : Bz F.mg)  : ClB F 1 "_law_beat" false (fLaw lonF) := by
  refine cl_b D sc__law_beat (fun ds n EX QD h => ?_) (fun fa cdv A outer s H E pn B0 hr tk po => ?_)
  · obtain ⟨s, ts, p, rfl, _⟩ := h
    rfl
  · have nd := sc__law_beat.nd
    refine ⟨_, _, (bss_cons (bs_asg (be_nm 2 (pv 2)) (bg_tup (bgs_cons (bg_nm (pg_name (i := 3) nd rfl (.inl rfl))) (bgs_cons (bg_nm (pg_name (i := 4) nd rfl (.inl rfl))) bgs_nil (pgs_cons (pg_name (i := 4) nd rfl (.inl rfl)) pgs_nil)) (pgs_cons (pg_name (i := 3) nd rfl (.inl rfl)) (pgs_cons (pg_name (i := 4) nd rfl (.inl rfl)) pgs_nil))) (pg_tupK (n := 2) (by rfl) (pgs_cons (pg_name (i := 3) nd rfl (.inl rfl)) (pgs_cons (pg_name (i := 4) nd rfl (.inl rfl)) pgs_nil)))))
    (bss_cons (bs_setLcO (i := 5) (own := [("number", 10)]) rfl nd (bi_seq (be_nm 3 (pv 3))) (blkOk_by (N := ["size", "ties", "standing", "old", "now", "fresh", "one", "two", "there", "back", "number"]) (sc := defScope s__law_beat) (by decide +kernel)) (fun _ _ _ _ _ => (bg_nm (pg_name (i := 10) nd rfl (.inl rfl)))) (fun _ _ _ _ _ => bts_nil) (fun _ _ _ _ _ => (be_sub be_int (be_nm 10 (pv 10)))) rfl rfl (sw_true rfl rfl rfl (by decide +kernel)))
    (bss_cons (bs_for po rfl (bi_seq (be_nm 1 (pv 1))) (bg_tup (bgs_cons (bg_nm (pg_name (i := 6) nd rfl (.inl rfl))) (bgs_cons (bg_nm (pg_name (i := 7) nd rfl (.inl rfl))) (bgs_cons (bg_nm (pg_name (i := 8) nd rfl (.inl rfl))) (bgs_cons (bg_nm (pg_name (i := 9) nd rfl (.inl rfl))) bgs_nil (pgs_cons (pg_name (i := 9) nd rfl (.inl rfl)) pgs_nil)) (pgs_cons (pg_name (i := 8) nd rfl (.inl rfl)) (pgs_cons (pg_name (i := 9) nd rfl (.inl rfl)) pgs_nil))) (pgs_cons (pg_name (i := 7) nd rfl (.inl rfl)) (pgs_cons (pg_name (i := 8) nd rfl (.inl rfl)) (pgs_cons (pg_name (i := 9) nd rfl (.inl rfl)) pgs_nil)))) (pgs_cons (pg_name (i := 6) nd rfl (.inl rfl)) (pgs_cons (pg_name (i := 7) nd rfl (.inl rfl)) (pgs_cons (pg_name (i := 8) nd rfl (.inl rfl)) (pgs_cons (pg_name (i := 9) nd rfl (.inl rfl)) pgs_nil))))) (pg_tupK (n := 4) (by rfl) (pgs_cons (pg_name (i := 6) nd rfl (.inl rfl)) (pgs_cons (pg_name (i := 7) nd rfl (.inl rfl)) (pgs_cons (pg_name (i := 8) nd rfl (.inl rfl)) (pgs_cons (pg_name (i := 9) nd rfl (.inl rfl)) pgs_nil))))))
    (bss_cons (bs_putIxV 5 (be_add (be_ix (bl_own 5 (pv 5)) (be_nm 7 (pv 7))) (be_mul (be_nm 8 (pv 8)) (be_max2 rfl (by rfl) bz.max be_int (be_ix (BE.l (be_nm 4 (pv 4))) (be_nm 6 (pv 6)))))) (be_nm 7 (pv 7)) (by intros; rfl) (pv 5))
    (bss_one (bs_putIxV 5 (be_add (be_ix (bl_own 5 (pv 5)) (be_nm 6 (pv 6))) (be_mul (be_nm 9 (pv 9)) (be_max2 rfl (by rfl) bz.max be_int (be_ix (BE.l (be_nm 4 (pv 4))) (be_nm 7 (pv 7)))))) (be_nm 6 (pv 6)) (by intros; rfl) (pv 5)))))
    (bss_one (bs_ret (be_tup (ba_cons (be_nm 4 (pv 4)) (ba_cons (be_tupleL (by rfl) bz.tuple (bl_own 5 (pv 5))) ba_nil)))))))), ?_⟩
    rintro _ n EX QD ⟨s, ts, p, rfl, ok, h1, h2, q⟩
    simp only [startB, Nat.reduceAdd, Nat.reduceSub, List.replicate_succ, List.replicate_zero, wLc, wLc2, wISeq, wipeB, List.set_cons_succ, List.set_cons_zero, wgTup, wgCons, wgNil, wgNm, Bool.not_true, Bool.not_false, Bool.false_eq_true, if_true, if_false, List.map_cons, List.map_nil, List.length_cons, List.length_nil, List.cons_append, List.nil_append, wName, List.getElem?_cons_zero, List.getElem?_cons_succ, wC, wOp, wCall, wACons, wANil, wAndV, wOrV, wNotV, wIsi, wIsi2, wCmp, wChain, wChain3, wOfT, wIfE, wAnd, wOr, wNotT, bInt, bEq, bNe, bIsN, bNotN, bIn, bNotIn, wCall1, bLen, bAll, bAny, bSum, sRet, sRetN, sRetO, sIf, sSeq, sNil, sExpr, sSet, sAsg, sPar, wVE, wVN, wOfN, wOfE, wTup, wLst, pyAll, sFor]
    refine ⟨trivial, trivial, ?_⟩
    refine lc_map negD _ _ (fun z hz P R p => ?_) ?_
    · obtain ⟨w, hw, rfl⟩ := List.mem_map.mp hz
      obtain ⟨i, _, rfl⟩ := List.mem_map.mp hw
      simp only [startB, Nat.reduceAdd, Nat.reduceSub, List.replicate_succ, List.replicate_zero, wLc, wLc2, wISeq, wipeB, List.set_cons_succ, List.set_cons_zero, wgTup, wgCons, wgNil, wgNm, Bool.not_true, Bool.not_false, Bool.false_eq_true, if_true, if_false, List.map_cons, List.map_nil, List.length_cons, List.length_nil, List.cons_append, List.nil_append, wName, List.getElem?_cons_zero, List.getElem?_cons_succ, wC, wOp, wCall, wACons, wANil, wAndV, wOrV, wNotV, wIsi, wIsi2, wCmp, wChain, wChain3, wOfT, wIfE, wAnd, wOr, wNotT, bInt, bEq, bNe, bIsN, bNotN, bIn, bNotIn, wCall1, bLen, bAll, bAny, bSum, sRet, sRetN, sRetO, sIf, sSeq, sNil, sExpr, sSet, sAsg, sPar, wVE, wVN, wOfN, wOfE, wTup, wLst, pyAll, wYes, bSub]
      exact p
    rw [List.nil_append, neg_ints]
    refine for_inv (fun i ρ n' => n' = n ∧ ∃ u6 u7 u8 u9 u10, ρ = [.val (.py (.int (s : Int))), .val (.py (.list (tiesD ts))), .val (.py (sdD p)), .val (.py (.tuple (intsD p.1))), .val (.py (.tuple (intsD p.2))), .own (intsD ((ts.take i).foldl (gainT p.2) (p.1.map fun x => 0 - x))), u6, u7, u8, u9, u10]) _ 0 _ _ _ (fun j d ρ n' DB' hd hI hrt hbk hnx hct => ?_) ⟨rfl, _, _, _, _, _, rfl⟩ (fun ρ' n' hI => ?_)
    · obtain ⟨rfl, u6, u7, u8, u9, u10, rfl⟩ := hI
      rw [List.getElem?_map, List.getElem?_map] at hd
      obtain ⟨t, ht, rfl⟩ : ∃ t, ts[j]? = some t ∧ d = .py (tieD t) := by
        cases e : ts[j]? with
        | none =>
          rw [e] at hd
          cases hd
        | some t =>
          rw [e] at hd
          exact ⟨t, rfl, (Option.some.inj hd).symm⟩
      have o := ok.all t (List.mem_of_getElem? ht)
      have la : ((ts.take (0 + j)).foldl (gainT p.2) (p.1.map fun x => 0 - x)).length = s := by rw [fold_len, List.length_map, h1]
      have ht' : ts.take (0 + j + 1) = ts.take (0 + j) ++ [t] := by
        rw [Nat.zero_add, List.take_add_one, ht]
        rfl
      rw [ht', List.foldl_append] at hnx
      generalize (ts.take (0 + j)).foldl (gainT p.2) (p.1.map fun x => 0 - x) = acc at la hnx ⊢
      obtain ⟨ta, tb, tc, td⟩ := t
      obtain ⟨na, hna⟩ := Int.eq_ofNat_of_zero_le o.a0
      obtain ⟨nb, hnb⟩ := Int.eq_ofNat_of_zero_le (Int.le_of_lt (Int.lt_of_le_of_lt o.a0 o.ab))
      have hab := o.ab
      have hbs := o.bs
      have c1 := o.c1
      have cm := o.cm
      have d1 := o.d1
      have dm := o.dm
      simp only at hna hnb hab hbs c1 cm d1 dm
      subst hna
      subst hnb
      simp only [startB, Nat.reduceAdd, Nat.reduceSub, List.replicate_succ, List.replicate_zero, wLc, wLc2, wISeq, wipeB, List.set_cons_succ, List.set_cons_zero, wgTup, wgCons, wgNil, wgNm, Bool.not_true, Bool.not_false, Bool.false_eq_true, if_true, if_false, List.map_cons, List.map_nil, List.length_cons, List.length_nil, List.cons_append, List.nil_append, wName, List.getElem?_cons_zero, List.getElem?_cons_succ, wC, wOp, wCall, wACons, wANil, wAndV, wOrV, wNotV, wIsi, wIsi2, wCmp, wChain, wChain3, wOfT, wIfE, wAnd, wOr, wNotT, bInt, bEq, bNe, bIsN, bNotN, bIn, bNotIn, wCall1, bLen, bAll, bAny, bSum, sRet, sRetN, sRetO, sIf, sSeq, sNil, sExpr, sSet, sAsg, sPar, wVE, wVN, wOfN, wOfE, wTup, wLst, pyAll, tieD, sPutIx, wIx, wOwnL, wMax2, bMul, bAdd, atI_ints (xs := p.2) (i := na) (by omega), atI_ints (xs := p.2) (i := nb) (by omega), atI_ints (xs := acc) (i := nb) (by omega), ixN_ints (xs := acc) (i := nb) (by omega)]
      rw [set_ints, atI_ints (xs := acc.set nb _) (i := na) (by rw [List.length_set]; omega), ixN_ints (xs := acc.set nb _) (i := na) (by rw [List.length_set]; omega)]
      refine ⟨trivial, trivial, .inl ⟨by omega, by omega⟩, .inl ⟨by omega, by omega⟩, ?_⟩
      refine hnx _ _ ⟨rfl, .val (.py (.int na)), .val (.py (.int nb)), .val (.py (.int tc)), .val (.py (.int td)), u10, ?_⟩
      rw [set_ints]
      rfl
    · obtain ⟨rfl, u6, u7, u8, u9, u10, rfl⟩ := hI
      rw [List.take_of_length_le (by rw [List.length_map, List.length_map]; omega)]
      simp only [startB, Nat.reduceAdd, Nat.reduceSub, List.replicate_succ, List.replicate_zero, wLc, wLc2, wISeq, wipeB, List.set_cons_succ, List.set_cons_zero, wgTup, wgCons, wgNil, wgNm, Bool.not_true, Bool.not_false, Bool.false_eq_true, if_true, if_false, List.map_cons, List.map_nil, List.length_cons, List.length_nil, List.cons_append, List.nil_append, wName, List.getElem?_cons_zero, List.getElem?_cons_succ, wC, wOp, wCall, wACons, wANil, wAndV, wOrV, wNotV, wIsi, wIsi2, wCmp, wChain, wChain3, wOfT, wIfE, wAnd, wOr, wNotT, bInt, bEq, bNe, bIsN, bNotN, bIn, bNotIn, wCall1, bLen, bAll, bAny, bSum, sRet, sRetN, sRetO, sIf, sSeq, sNil, sExpr, sSet, sAsg, sPar, wVE, wVN, wOfN, wOfE, wTup, wLst, pyAll, wTupOf, wOwnL]
      exact ⟨trivial, by show 2 ≤ 100000; decide, q⟩
def fLRun : FB := fun ds n _ Q => ∃ (s : Nat) (ts : List Tw) (p : Sd) (b : Nat), ds = [.py (.int (s : Int)), .py (.list (tiesD ts)), .py (sdD p), .py (.int (b : Int))] ∧ TiesOk 9 (s : Int) ts ∧ p.1.length = s ∧ p.2.length = s ∧ b ≤ 1000 ∧ Q (.py (.list ((runF (lonF ts) p b).map sdD))) n
theorem lon_len {ts : List Tw} {s : Nat} {p : Sd} (h1 : p.1.length = s) (h2 : p.2.length = s) : (lonF ts p).1.length = s ∧ (lonF ts p).2.length = s := by
  refine ⟨h2, ?_⟩
  show (List.foldl (gainT p.2) (p.1.map fun x => 0 - x) ts).length = s
  rw [fold_len, List.length_map, h1]
theorem lnth_len {ts : List Tw} {s : Nat} {p : Sd} (h1 : p.1.length = s) (h2 : p.2.length = s) : ∀ n, (nthF (lonF ts) p n).1.length = s ∧ (nthF (lonF ts) p n).2.length = s
  | 0 => ⟨h1, h2⟩
  | n + 1 => lon_len (lnth_len h1 h2 n).1 (lnth_len h1 h2 n).2
theorem sc__law_run : FnScope ["size", "ties", "standing", "beats", "found", "k"] ["size", "ties", "standing", "beats"] (defScope s__law_run) := ⟨rfl, rfl, rfl, by decide +kernel, rfl, by decide +kernel, by decide +kernel⟩
theorem ok__law_run {F : Fx} (D : Dn F.K F.mg "_law_run" s__law_run ["size", "ties", "standing", "beats"]) (bz : Bz F.mg) (c__law_beat : ClB F 1 "_law_beat" false (fLaw lonF)) : ClB F 2 "_law_run" true fLRun := by
  refine cl_b D sc__law_run (fun ds n EX QD h => ?_) (fun fa cdv A outer s H E pn B0 hr tk po => ?_)
  · obtain ⟨s, ts, p, b, rfl, _⟩ := h
    rfl
  · have nd := sc__law_run.nd
    refine ⟨_, _, (bss_cons (bs_setV (i := 4) (BN.toV (bn_lst (ba_cons (be_nm 2 (pv 2)) ba_nil))) nd rfl (.inl rfl))
    (bss_cons (bs_for po rfl (bi_rng1 (by rfl) bz.range (be_nm 3 (pv 3))) (bg_nm (pg_name (i := 5) nd rfl (.inl rfl)))
    (bss_one (bs_appendV 4 (pv 4) (be_call c__law_beat hr (by decide) (by rfl) tk (ba_cons (be_nm 0 (pv 0)) (ba_cons (be_nm 1 (pv 1)) (ba_cons (be_ix (bl_own 4 (pv 4)) (be_neg be_int)) ba_nil)))))))
    (bss_one (bs_retO 4 (pv 4))))), ?_⟩
    rintro _ n EX QD ⟨s, ts, p, b, rfl, ok, h1, h2, hb, q⟩
    simp only [startB, Nat.reduceAdd, Nat.reduceSub, List.replicate_succ, List.replicate_zero, wLc, wLc2, wISeq, wipeB, List.set_cons_succ, List.set_cons_zero, wgTup, wgCons, wgNil, wgNm, Bool.not_true, Bool.not_false, Bool.false_eq_true, if_true, if_false, List.map_cons, List.map_nil, List.length_cons, List.length_nil, List.cons_append, List.nil_append, wName, List.getElem?_cons_zero, List.getElem?_cons_succ, wC, wOp, wCall, wACons, wANil, wAndV, wOrV, wNotV, wIsi, wIsi2, wCmp, wChain, wChain3, wOfT, wIfE, wAnd, wOr, wNotT, bInt, bEq, bNe, bIsN, bNotN, bIn, bNotIn, wCall1, bLen, bAll, bAny, bSum, sRet, sRetN, sRetO, sIf, sSeq, sNil, sExpr, sSet, sAsg, sPar, wVE, wVN, wOfN, wOfE, wTup, wLst, pyAll, sFor, wIR1]
    refine ⟨show 1 ≤ 100000 by decide, by omega, by omega, ?_⟩
    rw [Int.toNat_natCast]
    refine for_inv (fun i ρ n' => n' = n ∧ ∃ u, ρ = [.val (.py (.int (s : Int))), .val (.py (.list (tiesD ts))), .val (.py (sdD p)), .val (.py (.int (b : Int))), .own ((runF (lonF ts) p i).map sdD), u]) _ 0 _ _ _ (fun j d ρ n' DB' hd hI hrt hbk hnx hct => ?_) ⟨rfl, _, rfl⟩ (fun ρ' n' hI => ?_)
    · obtain ⟨rfl, u, rfl⟩ := hI
      simp only [startB, Nat.reduceAdd, Nat.reduceSub, List.replicate_succ, List.replicate_zero, wLc, wLc2, wISeq, wipeB, List.set_cons_succ, List.set_cons_zero, wgTup, wgCons, wgNil, wgNm, Bool.not_true, Bool.not_false, Bool.false_eq_true, if_true, if_false, List.map_cons, List.map_nil, List.length_cons, List.length_nil, List.cons_append, List.nil_append, wName, List.getElem?_cons_zero, List.getElem?_cons_succ, wC, wOp, wCall, wACons, wANil, wAndV, wOrV, wNotV, wIsi, wIsi2, wCmp, wChain, wChain3, wOfT, wIfE, wAnd, wOr, wNotT, bInt, bEq, bNe, bIsN, bNotN, bIn, bNotIn, wCall1, bLen, bAll, bAny, bSum, sRet, sRetN, sRetO, sIf, sSeq, sNil, sExpr, sSet, sAsg, sPar, wVE, wVN, wOfN, wOfE, wTup, wLst, pyAll, sAppend, wIx, wOwnL, wNeg, fLaw, atI_last]
      have hj : j < b := by
        have := (List.getElem?_eq_some_iff.mp hd).1
        rw [rngD_len] at this
        exact this
      have hp := lnth_len (ts := ts) h1 h2 (0 + j)
      refine ⟨s, ts, _, rfl, ok, hp.1, hp.2, by rw [List.length_map, run_len]; omega, hnx _ _ ⟨rfl, .val d, ?_⟩⟩
      rw [run_succ, List.map_append]
      rfl
    · obtain ⟨rfl, u, rfl⟩ := hI
      rw [Nat.zero_add, rngD_len]
      exact q
/-! ### the law's beats are the program's -/
end Fv
set_option maxRecDepth 100000
set_option maxHeartbeats 4000000
/-! Cords of a ring that stand for a standing: many of them, and beats. -/
namespace Fv
open PySem PySem.Spec PyProof.Rows L2 Gb
open PySem.W (T4)
structure OkL (s : Int) (L : List Cm) : Prop where
  mem : ∀ c ∈ L, c.1 ∈ allC s
  pos : ∀ c ∈ L, 1 ≤ c.2
  pw : L.Pairwise fun a b => a.1 ≠ b.1 ∧ crossI a.1 b.1 = false
theorem OkL.perm {s : Int} {L L' : List Cm} (h : OkL s L) (p : L.Perm L') : OkL s L' :=
  ⟨fun c hc => h.mem c (p.mem_iff.mpr hc), fun c hc => h.pos c (p.mem_iff.mpr hc), (p.pairwise_iff fun {a b} h => ⟨h.1.symm, by rw [crossI_comm]; exact h.2⟩).mp h.pw⟩
def turnC (s : Int) (c : Cm) : Cm := (turnP s c.1, c.2)
theorem OkL.turn {s : Int} (hs : 0 ≤ s) {L : List Cm} (h : OkL s L) : OkL s (L.map (turnC s)) := by
  refine ⟨fun c hc => ?_, fun c hc => ?_, ?_⟩
  · obtain ⟨d, hd, rfl⟩ := List.mem_map.mp hc
    exact turn_mem hs (h.mem d hd)
  · obtain ⟨d, hd, rfl⟩ := List.mem_map.mp hc
    exact h.pos d hd
  · have pw := h.pw
    have hm := h.mem
    clear h
    induction L with
    | nil => exact .nil
    | cons a L ih =>
      obtain ⟨h1, h2⟩ := List.pairwise_cons.mp pw
      refine List.pairwise_cons.mpr ⟨fun b hb => ?_, ih h2 fun c hc => hm c (List.mem_cons_of_mem _ hc)⟩
      obtain ⟨d, hd, rfl⟩ := List.mem_map.mp hb
      have k := h1 d hd
      have ma := hm a List.mem_cons_self
      have md := hm d (List.mem_cons_of_mem _ hd)
      exact ⟨fun e => k.1 (turn_inj hs ma md e), (turn_cross hs ma md).trans k.2⟩
/-! ### sums -/
theorem sum_map_perm {α : Type} {f : α → Int} {L L' : List α} (p : L.Perm L') : (L.map f).sum = (L'.map f).sum := by
  induction p with
  | nil => rfl
  | cons x _ ih => rw [List.map_cons, List.map_cons, List.sum_cons, List.sum_cons, ih]
  | swap x y l =>
    simp only [List.map_cons, List.sum_cons]
    omega
  | trans _ _ ih1 ih2 => exact ih1.trans ih2
theorem sum_map_zero {α : Type} {f : α → Int} : ∀ {L : List α}, (∀ c ∈ L, f c = 0) → (L.map f).sum = 0
  | [], _ => rfl
  | a :: L, h => by
    rw [List.map_cons, List.sum_cons, h a List.mem_cons_self, sum_map_zero fun c hc => h c (List.mem_cons_of_mem _ hc)]
    rfl
theorem sum_map_nonneg {α : Type} {f : α → Int} : ∀ {L : List α}, (∀ c ∈ L, 0 ≤ f c) → 0 ≤ (L.map f).sum
  | [], _ => Int.le_refl 0
  | a :: L, h => by
    rw [List.map_cons, List.sum_cons]
    have h1 := h a List.mem_cons_self
    have h2 := sum_map_nonneg (f := f) fun c hc => h c (List.mem_cons_of_mem _ hc)
    omega
theorem sum_map_congr {α : Type} {f g : α → Int} : ∀ {L : List α}, (∀ c ∈ L, f c = g c) → (L.map f).sum = (L.map g).sum
  | [], _ => rfl
  | a :: L, h => by
    rw [List.map_cons, List.sum_cons, List.map_cons, List.sum_cons, h a List.mem_cons_self, sum_map_congr fun c hc => h c (List.mem_cons_of_mem _ hc)]
theorem sum_map_add {α : Type} {f g : α → Int} : ∀ (L : List α), (L.map f).sum + (L.map g).sum = (L.map fun c => f c + g c).sum
  | [] => rfl
  | a :: L => by
    have := sum_map_add (f := f) (g := g) L
    simp only [List.map_cons, List.sum_cons]
    omega
theorem sum_map_neg {α : Type} {f : α → Int} : ∀ (L : List α), -(L.map f).sum = (L.map fun c => -f c).sum
  | [] => rfl
  | a :: L => by
    have := sum_map_neg (f := f) L
    simp only [List.map_cons, List.sum_cons]
    omega
theorem sumE_perm {s p b : Int} {L L' : List Cm} (h : L.Perm L') : sumE s p b L = sumE s p b L' := sum_map_perm h
theorem eI_self {s p b : Int} {c : Int × Int} (h : (cordI s p b).2 = c) : eI s p b c = -1 := by
  unfold eI
  subst h
  have : ¬ crossI (cordI s p b).2 (cordI s p b).2 = true := fun z => by
    rw [crossI_iff] at z
    omega
  rw [if_neg this, if_pos rfl]
  rfl
theorem eI_clear {s p b : Int} {c : Int × Int} (h : (cordI s p b).2 ≠ c) (h2 : crossI (cordI s p b).2 c = false) : eI s p b c = 0 := by
  unfold eI
  rw [h2, if_neg Bool.false_ne_true, if_neg h]
  rfl
theorem eI_nonneg {s p b : Int} {c : Int × Int} (h : (cordI s p b).2 ≠ c) : 0 ≤ eI s p b c := by
  unfold eI
  rw [if_neg h]
  split <;> decide
/-- one of the cords is that of the post: all others are clear of it -/
theorem others {s : Int} {L : List Cm} (h : OkL s L) {x : Int × Int} {c : Cm} (hc : c ∈ L) (e : x = c.1) : ∀ d ∈ L, d = c ∨ (x ≠ d.1 ∧ crossI x d.1 = false) := fun d hd => by
  obtain ⟨i, hi, e1⟩ := List.mem_iff_getElem.mp hc
  obtain ⟨j, hj, e2⟩ := List.mem_iff_getElem.mp hd
  subst e
  rcases Nat.lt_trichotomy i j with lt | rfl | gt
  · have := List.pairwise_iff_getElem.mp h.pw i j hi hj lt
    rw [e1, e2] at this
    exact .inr this
  · left
    rw [← e1, ← e2]
  · have := List.pairwise_iff_getElem.mp h.pw j i hj hi gt
    rw [e1, e2] at this
    exact .inr ⟨this.1.symm, by rw [crossI_comm]; exact this.2⟩
theorem OkL.nd {s : Int} {L : List Cm} (h : OkL s L) : L.Nodup := h.pw.imp fun {a b} k e => k.1 (congrArg Prod.fst e)
theorem sum_one {α : Type} {f : α → Int} {L : List α} {c : α} (nd : L.Nodup) (hc : c ∈ L) (h : ∀ d ∈ L, d = c ∨ f d = 0) : (L.map f).sum = f c := by
  obtain ⟨s, t, rfl⟩ := List.append_of_mem hc
  obtain ⟨_, nd2, nd3⟩ := List.nodup_append.mp nd
  have h1 : ∀ d ∈ s, f d = 0 := fun d hd => (h d (List.mem_append_left _ hd)).resolve_left fun e => nd3 d hd c List.mem_cons_self e
  have h2 : ∀ d ∈ t, f d = 0 := fun d hd => (h d (List.mem_append_right _ (List.mem_cons_of_mem _ hd))).resolve_left fun e => by
    subst e
    exact (List.nodup_cons.mp nd2).1 hd
  rw [List.map_append, List.sum_append, List.map_cons, List.sum_cons, sum_map_zero h1, sum_map_zero h2]
  omega
theorem sum_hit {s p b : Int} {L : List Cm} (h : OkL s L) {c : Cm} (hc : c ∈ L) (e : (cordI s p b).2 = c.1) : sumE s p b L = -c.2 := by
  have k := others h hc e
  unfold sumE
  rw [sum_one (c := c) h.nd hc fun d hd => (k d hd).imp_right fun z => by rw [eI_clear z.1 z.2, Int.mul_zero], eI_self e]
  omega
theorem sum_miss {s p b : Int} {L : List Cm} (h : OkL s L) (no : ∀ c ∈ L, (cordI s p b).2 ≠ c.1) : 0 ≤ sumE s p b L :=
  sum_map_nonneg fun c hc => Int.mul_nonneg (by have := h.pos c hc; omega) (eI_nonneg (no c hc))
theorem up_sum {s p b : Int} {L : List Cm} (h : OkL s L) : up (sumE s p b L) = (L.map fun c => c.2 * up (eI s p b c.1)).sum := by
  by_cases hh : ∃ c ∈ L, (cordI s p b).2 = c.1
  · obtain ⟨c, hc, e⟩ := hh
    have k := others h hc e
    have p1 := h.pos c hc
    rw [sum_hit h hc e, sum_one (c := c) h.nd hc fun d hd => (k d hd).imp_right fun z => by rw [eI_clear z.1 z.2, show up 0 = 0 from rfl, Int.mul_zero], eI_self e]
    unfold up
    rw [if_neg (by omega), if_neg (by omega)]
    omega
  · have no : ∀ c ∈ L, (cordI s p b).2 ≠ c.1 := fun c hc e => hh ⟨c, hc, e⟩
    have h0 := sum_miss h no
    rw [show up (sumE s p b L) = sumE s p b L by unfold up; split <;> omega]
    refine sum_map_congr fun c hc => ?_
    have := eI_nonneg (no c hc)
    rw [show up (eI s p b c.1) = eI s p b c.1 by unfold up; split <;> omega]
/-! ### a standing of cords -/
abbrev L2c := List Cm × List Cm
def byN (s : Nat) (L : L2c) : List Int := (List.range s).map fun (p : Nat) => sumE s p 0 (if p % 2 = 0 then L.1 else L.2)
def byO (s : Nat) (L : L2c) : List Int := (List.range s).map fun (p : Nat) => sumE s p (-1) (if p % 2 = 0 then L.2 else L.1)
def byS (s : Nat) (L : L2c) : Sd := (byO s L, byN s L)
def stp (s : Int) (L : L2c) : L2c := (L.2.map (turnC s), L.1)
def stN (s : Int) (L : L2c) : Nat → L2c
  | 0 => L
  | n + 1 => stp s (stN s L n)
structure Ok2 (s : Int) (L : L2c) : Prop where
  a : OkL s L.1
  b : OkL s L.2
theorem Ok2.stp {s : Int} (hs : 0 ≤ s) {L : L2c} (h : Ok2 s L) : Ok2 s (stp s L) := ⟨h.b.turn hs, h.a⟩
theorem Ok2.stN {s : Int} (hs : 0 ≤ s) {L : L2c} (h : Ok2 s L) : ∀ n, Ok2 s (stN s L n)
  | 0 => h
  | n + 1 => (h.stN hs n).stp hs
theorem okE_of {s : Nat} (h1 : 1 ≤ s) (h2 : s ≤ 12) {p : Nat} (hp : p < s) {c : Int × Int} (hc : c ∈ allC s) :
    (p % 2 = 0 → -eI s p (-1) c + nbE s p c = eI s p 0 (turnP s c) ∧ eI s p (-1) c = eI s p 0 c) ∧ (p % 2 = 1 → -eI s p (-1) c + nbE s p c = eI s p 0 c ∧ eI s p (-1) (turnP s c) = eI s p 0 c) := by
  have h := List.all_eq_true.mp okE_all (s - 1) (List.mem_range.mpr (by omega))
  have e : (((s - 1 : Nat)) : Int) + 1 = (s : Int) := by omega
  rw [e] at h
  unfold okE at h
  have h := List.all_eq_true.mp (List.all_eq_true.mp h p (List.mem_range.mpr (by omega))) c hc
  refine ⟨fun e => ?_, fun e => ?_⟩
  · rw [if_pos e, Bool.and_eq_true, decide_eq_true_eq, decide_eq_true_eq] at h
    exact h
  · rw [if_neg (by omega), Bool.and_eq_true, decide_eq_true_eq, decide_eq_true_eq] at h
    exact h
theorem range_map_get {f : Nat → Int} {s i : Nat} : ((List.range s).map f).getD i 0 = if i < s then f i else 0 := by
  rw [List.getD_eq_getElem?_getD, List.getElem?_map]
  by_cases h : i < s
  · rw [List.getElem?_range h, if_pos h]
    rfl
  · rw [List.getElem?_eq_none (by rw [List.length_range]; omega), if_neg h]
    rfl
/-- what the ties of a row bring -/
theorem row_sum {ns : List Int} {j : Nat} : ∀ k : Nat, (((List.range k).map fun (i : Nat) => (⟨(i : Int), (i : Int) + 1, 1, 1⟩ : Tw)).map (ct ns j)).sum = (if 1 ≤ j ∧ j ≤ k then up (ns.getD (j - 1) 0) else 0) + (if j < k then up (ns.getD (j + 1) 0) else 0)
  | 0 => by
    rw [if_neg (by omega), if_neg (by omega)]
    rfl
  | k + 1 => by
    rw [List.range_succ, List.map_append, List.map_append, List.sum_append, row_sum k]
    show _ + (ct ns j ⟨(k : Int), (k : Int) + 1, 1, 1⟩ + 0) = _
    unfold ct
    dsimp only
    rw [show ((k : Int) + 1).toNat = k + 1 by omega, show ((k : Int)).toNat = k by omega, Int.one_mul, Int.one_mul]
    by_cases h1 : k + 1 = j
    · subst h1
      rw [Nat.add_sub_cancel]
      generalize up (ns.getD k 0) = U
      generalize up (ns.getD (k + 1) 0) = V
      generalize up (ns.getD (k + 1 + 1) 0) = W
      (repeat' split) <;> omega
    · by_cases h2 : k = j
      · subst h2
        generalize up (ns.getD (k - 1) 0) = U
        generalize up (ns.getD (k + 1) 0) = V
        generalize up (ns.getD k 0) = W
        (repeat' split) <;> omega
      · generalize up (ns.getD (j - 1) 0) = U
        generalize up (ns.getD (j + 1) 0) = V
        generalize up (ns.getD k 0) = W
        generalize up (ns.getD (k + 1) 0) = Z
        (repeat' split) <;> omega
theorem map_neg_get {xs : List Int} {j : Nat} : (xs.map fun x => 0 - x).getD j 0 = -(xs.getD j 0) := by
  rw [List.getD_eq_getElem?_getD, List.getElem?_map, List.getD_eq_getElem?_getD]
  cases xs[j]? with
  | none => rfl
  | some x =>
    show 0 - x = -x
    omega
theorem ext_getDc {xs ys : List Int} (h : xs.length = ys.length) (k : ∀ j, j < xs.length → xs.getD j 0 = ys.getD j 0) : xs = ys := by
  refine List.ext_getElem h fun j h1 h2 => ?_
  have := k j h1
  rw [List.getD_eq_getElem?_getD, List.getD_eq_getElem?_getD, List.getElem?_eq_getElem h1, List.getElem?_eq_getElem h2] at this
  exact this
theorem by_beat {s : Nat} (h1 : 1 ≤ s) (h2 : s ≤ 12) {L : L2c} (ok : Ok2 s L) : lonF (rowW s) (byS s L) = byS s (stp s L) := by
  have hs : (0 : Int) ≤ s := by omega
  refine Prod.ext ?_ ?_
  · show byN s L = byO s (stp s L)
    refine List.map_congr_left fun p hp => ?_
    have hp := List.mem_range.mp hp
    by_cases e : p % 2 = 0
    · rw [if_pos e, if_pos e]
      exact sum_map_congr fun c hc => by rw [((okE_of h1 h2 hp (ok.a.mem c hc)).1 e).2]
    · rw [if_neg e, if_neg e]
      show _ = ((L.2.map (turnC s)).map fun c => c.2 * eI s p (-1) c.1).sum
      rw [List.map_map]
      exact sum_map_congr fun c hc => by
        show _ = c.2 * eI s p (-1) (turnP s c.1)
        rw [((okE_of h1 h2 hp (ok.b.mem c hc)).2 (by omega)).2]
  · show (rowW s).foldl (gainT (byN s L)) ((byO s L).map fun x => 0 - x) = byN s (stp s L)
    have lO : (byO s L).length = s := by
      unfold byO
      rw [List.length_map, List.length_range]
    have lN : (byN s (stp s L)).length = s := by
      unfold byN
      rw [List.length_map, List.length_range]
    refine ext_getDc (by rw [fold_len, List.length_map, lO, lN]) fun j hj => ?_
    rw [fold_len, List.length_map, lO] at hj
    rw [fold_sum _ _ (by rw [List.length_map, lO]; exact hj), map_neg_get]
    have rw1 : ((rowW s).map (ct (byN s L) j)).sum = _ := row_sum (ns := byN s L) (j := j) (s - 1)
    rw [rw1]
    unfold byN byO
    rw [range_map_get, range_map_get, range_map_get, range_map_get, if_pos hj, if_pos hj]
    -- the neighbours are of the other sort
    have nb : ∀ (K : List Cm), OkL s K → ∀ q : Nat, up (sumE s q 0 K) = (K.map fun c => c.2 * up (eI s q 0 c.1)).sum := fun K hK q => up_sum hK
    have fin : ∀ (K : List Cm), OkL s K → (-sumE s j (-1) K + ((if 1 ≤ j ∧ j ≤ s - 1 then up (sumE s ((j - 1 : Nat) : Int) 0 K) else 0) + (if j < s - 1 then up (sumE s ((j + 1 : Nat) : Int) 0 K) else 0)) = (K.map fun c => c.2 * (-eI s j (-1) c.1 + nbE s j c.1)).sum) := fun K hK => by
      have z : ∀ (b : Prop) [Decidable b] (q : Nat), (if b then up (sumE s q 0 K) else 0) = (K.map fun c => c.2 * (if b then up (eI s q 0 c.1) else 0)).sum := fun b _ q => by
        by_cases hb : b
        · rw [if_pos hb, nb K hK]
          exact sum_map_congr fun c _ => by rw [if_pos hb]
        · rw [if_neg hb, sum_map_zero fun c _ => by rw [if_neg hb, Int.mul_zero]]
      rw [z, z, sum_map_add]
      unfold sumE
      rw [sum_map_neg, sum_map_add]
      refine sum_map_congr fun c _ => ?_
      unfold nbE
      have c1 : (if 1 ≤ j ∧ j ≤ s - 1 then up (eI s ((j - 1 : Nat) : Int) 0 c.1) else 0) = (if (1 : Int) ≤ (j : Int) then up (eI s ((j : Int) - 1) 0 c.1) else 0) := by
        by_cases q : 1 ≤ j
        · rw [if_pos ⟨q, by omega⟩, if_pos (by omega), show ((j - 1 : Nat) : Int) = (j : Int) - 1 by omega]
        · rw [if_neg (by omega), if_neg (by omega)]
      have c2 : (if j < s - 1 then up (eI s ((j + 1 : Nat) : Int) 0 c.1) else 0) = (if (j : Int) + 1 < (s : Int) then up (eI s ((j : Int) + 1) 0 c.1) else 0) := by
        by_cases q : j < s - 1
        · rw [if_pos q, if_pos (by omega), show ((j + 1 : Nat) : Int) = (j : Int) + 1 by omega]
        · rw [if_neg q, if_neg (by omega)]
      rw [c1, c2, Int.mul_add, Int.mul_add, Int.mul_neg]
    by_cases e : j % 2 = 0
    · have e1 : ∀ h : 1 ≤ j, ((j - 1) % 2 = 0) = False := fun h => eq_false (by omega)
      have e2 : ((j + 1) % 2 = 0) = False := eq_false (by omega)
      have f := fin L.2 ok.b
      rw [if_pos e, if_pos e]
      have t1 : (if 1 ≤ j ∧ j ≤ s - 1 then up (if j - 1 < s then sumE s ((j - 1 : Nat) : Int) 0 (if (j - 1) % 2 = 0 then L.1 else L.2) else 0) else 0) = (if 1 ≤ j ∧ j ≤ s - 1 then up (sumE s ((j - 1 : Nat) : Int) 0 L.2) else 0) := by
        by_cases q : 1 ≤ j ∧ j ≤ s - 1
        · rw [if_pos q, if_pos q, if_pos (by omega), if_neg (by omega)]
        · rw [if_neg q, if_neg q]
      have t2 : (if j < s - 1 then up (if j + 1 < s then sumE s ((j + 1 : Nat) : Int) 0 (if (j + 1) % 2 = 0 then L.1 else L.2) else 0) else 0) = (if j < s - 1 then up (sumE s ((j + 1 : Nat) : Int) 0 L.2) else 0) := by
        by_cases q : j < s - 1
        · rw [if_pos q, if_pos q, if_pos (by omega), if_neg (by omega)]
        · rw [if_neg q, if_neg q]
      rw [t1, t2, f]
      show _ = ((L.2.map (turnC s)).map fun c => c.2 * eI s j 0 c.1).sum
      rw [List.map_map]
      exact sum_map_congr fun c hc => by
        show _ = c.2 * eI s j 0 (turnP s c.1)
        rw [((okE_of h1 h2 hj (ok.b.mem c hc)).1 e).1]
    · have f := fin L.1 ok.a
      rw [if_neg e, if_neg e]
      have t1 : (if 1 ≤ j ∧ j ≤ s - 1 then up (if j - 1 < s then sumE s ((j - 1 : Nat) : Int) 0 (if (j - 1) % 2 = 0 then L.1 else L.2) else 0) else 0) = (if 1 ≤ j ∧ j ≤ s - 1 then up (sumE s ((j - 1 : Nat) : Int) 0 L.1) else 0) := by
        by_cases q : 1 ≤ j ∧ j ≤ s - 1
        · rw [if_pos q, if_pos q, if_pos (by omega), if_pos (by omega)]
        · rw [if_neg q, if_neg q]
      have t2 : (if j < s - 1 then up (if j + 1 < s then sumE s ((j + 1 : Nat) : Int) 0 (if (j + 1) % 2 = 0 then L.1 else L.2) else 0) else 0) = (if j < s - 1 then up (sumE s ((j + 1 : Nat) : Int) 0 L.1) else 0) := by
        by_cases q : j < s - 1
        · rw [if_pos q, if_pos q, if_pos (by omega), if_pos (by omega)]
        · rw [if_neg q, if_neg q]
      rw [t1, t2, f]
      show _ = (L.1.map fun c => c.2 * eI s j 0 c.1).sum
      exact sum_map_congr fun c hc => by rw [((okE_of h1 h2 hj (ok.a.mem c hc)).2 (by omega)).1]
theorem by_nth {s : Nat} (h1 : 1 ≤ s) (h2 : s ≤ 12) {L : L2c} (ok : Ok2 s L) : ∀ n, nthF (lonF (rowW s)) (byS s L) n = byS s (stN s L n)
  | 0 => rfl
  | n + 1 => by
    show lonF (rowW s) (nthF (lonF (rowW s)) (byS s L) n) = _
    rw [by_nth h1 h2 ok n]
    exact by_beat h1 h2 (ok.stN (by omega) n)
end Fv
set_option maxRecDepth 100000
set_option maxHeartbeats 4000000
/-! Cords of a ring that stand for a standing: read off a run; sorted. -/
namespace Fv
open PySem PySem.Spec PyProof.Rows L2 Gb
open PySem.W (T4)
def pickC (h : Int) (L : L2c) : List Cm := if h = 0 then L.1 else L.2
def turnN (s : Int) (c : Cm) : Nat → Cm
  | 0 => c
  | n + 1 => turnC s (turnN s c n)
theorem turnN_snd {s : Int} {c : Cm} : ∀ n, (turnN s c n).2 = c.2
  | 0 => rfl
  | n + 1 => turnN_snd n
theorem turnN_mem {s : Int} (hs : 0 ≤ s) {c : Cm} (h : c.1 ∈ allC s) : ∀ n, (turnN s c n).1 ∈ allC s
  | 0 => h
  | n + 1 => turn_mem hs (turnN_mem hs h n)
theorem turnN_inj {s : Int} (hs : 0 ≤ s) {c d : Cm} (h : c.1 ∈ allC s) (h' : d.1 ∈ allC s) : ∀ n, (turnN s c n).1 = (turnN s d n).1 → c.1 = d.1
  | 0, e => e
  | n + 1, e => turnN_inj hs h h' n (turn_inj hs (turnN_mem hs h n) (turnN_mem hs h' n) e)
theorem turnN_join {s : Int} (hs : 0 ≤ s) (x y m : Int) : ∀ n : Nat, (turnN s (joinI (s + 3) x y, m) n).1 = joinI (s + 3) (x + n) (y + n)
  | 0 => by
    show joinI (s + 3) x y = _
    rw [show x + ((0 : Nat) : Int) = x by omega, show y + ((0 : Nat) : Int) = y by omega]
  | n + 1 => by
    show turnP s (turnN s (joinI (s + 3) x y, m) n).1 = _
    rw [turnN_join hs x y m n, turn_join hs, show x + ((n + 1 : Nat) : Int) = x + n + 1 by omega, show y + ((n + 1 : Nat) : Int) = y + n + 1 by omega]
/-- behind b beats: the half of the posts of this sort -/
theorem stN_pick {s : Int} {L : L2c} : ∀ (b p : Nat), pickC ((p : Int) % 2) (stN s L b) = (pickC (((p : Int) + b) % 2) L).map fun c => turnN s c ((b + (p + b) % 2) / 2)
  | 0, p => by
    have e : (0 + (p + 0) % 2) / 2 = 0 := by omega
    rw [e]
    show pickC ((p : Int) % 2) L = (pickC (((p : Int) + ((0 : Nat) : Int)) % 2) L).map fun c => c
    rw [List.map_id', show (p : Int) + ((0 : Nat) : Int) = p by omega]
  | b + 1, p => by
    by_cases e : p % 2 = 0
    · have ih := stN_pick (s := s) (L := L) b (p + 1)
      have e1 : (((p + 1 : Nat) : Int)) % 2 = 1 := by omega
      rw [e1] at ih
      rw [show ((p : Int)) % 2 = 0 by omega]
      show (stN s L b).2.map (turnC s) = _
      have ih : (stN s L b).2 = _ := ih
      rw [ih, List.map_map, show (((p + 1 : Nat) : Int) + (b : Int)) = (p : Int) + ((b + 1 : Nat) : Int) by omega]
      refine List.map_congr_left fun c _ => ?_
      rw [show (b + 1 + (p + (b + 1)) % 2) / 2 = (b + (p + 1 + b) % 2) / 2 + 1 by omega]
      rfl
    · have ih := stN_pick (s := s) (L := L) b (p + 1)
      have e1 : (((p + 1 : Nat) : Int)) % 2 = 0 := by omega
      rw [e1] at ih
      rw [show ((p : Int)) % 2 = 1 by omega]
      show (stN s L b).1 = _
      have ih : (stN s L b).1 = _ := ih
      rw [ih, show (((p + 1 : Nat) : Int) + (b : Int)) = (p : Int) + ((b + 1 : Nat) : Int) by omega]
      refine List.map_congr_left fun c _ => ?_
      rw [show (b + 1 + (p + (b + 1)) % 2) / 2 = (b + (p + 1 + b) % 2) / 2 by omega]
theorem cord_turned {s : Int} (hs : 0 ≤ s) (p b : Nat) (m : Int) : (turnN s ((cordI s p b).2, m) ((b + (p + b) % 2) / 2)).1 = (cordI s p 0).2 := by
  show (turnN s (joinI (s + 3) _ _, m) _).1 = joinI (s + 3) _ _
  rw [turnN_join hs]
  congr 1 <;> omega
/-- the cords of a half that the run tells, beat by beat -/
def halfB (s h : Int) : List (Int × Int) := (List.range (s + 3).toNat).flatMap fun (b : Nat) => (List.range s.toNat).flatMap fun (p : Nat) => if (cordI s (p : Int) (b : Int)).1 = h then [(cordI s (p : Int) (b : Int)).2] else []
def okB (s : Int) : Bool := (halfB s 0).isPerm (allC s) && ((halfB s 1).isPerm (allC s) && decide ((allC s).Nodup))
theorem okB_all : ((List.range 12).all fun (k : Nat) => okB ((k : Int) + 1)) = true := by decide +kernel
theorem okB_of {s : Int} (h1 : 1 ≤ s) (h2 : s ≤ 12) : (halfB s 0).Perm (allC s) ∧ (halfB s 1).Perm (allC s) ∧ (allC s).Nodup := by
  have h := List.all_eq_true.mp okB_all (s - 1).toNat (List.mem_range.mpr (by omega))
  have e : (((s - 1).toNat : Nat) : Int) + 1 = s := by omega
  rw [e] at h
  unfold okB at h
  simp only [Bool.and_eq_true, decide_eq_true_eq] at h
  exact ⟨List.isPerm_iff.mp h.1, List.isPerm_iff.mp h.2.1, h.2.2⟩
theorem half01 (s p b : Int) : (cordI s p b).1 = 0 ∨ (cordI s p b).1 = 1 := by
  show (p + b) % 2 = 0 ∨ (p + b) % 2 = 1
  omega
theorem cord_mem {s : Int} (h1 : 1 ≤ s) (h2 : s ≤ 12) {p b : Nat} (hp : (p : Int) < s) (hb : (b : Int) < s + 3) : (cordI s p b).2 ∈ allC s := by
  obtain ⟨a, c, _⟩ := okB_of h1 h2
  have key : ∀ h : Int, (cordI s p b).1 = h → (cordI s p b).2 ∈ halfB s h := fun h e => by
    unfold halfB
    refine List.mem_flatMap.mpr ⟨b, List.mem_range.mpr (by omega), List.mem_flatMap.mpr ⟨p, List.mem_range.mpr (by omega), ?_⟩⟩
    rw [if_pos e]
    exact List.mem_singleton.mpr rfl
  rcases half01 s p b with e | e
  · exact a.mem_iff.mp (key 0 e)
  · exact c.mem_iff.mp (key 1 e)
/-- what is owed at a post behind b beats -/
def owedI (s : Nat) (L : L2c) (b p : Nat) : Int := 0 - sumE s p 0 (if p % 2 = 0 then (stN s L b).1 else (stN s L b).2)
theorem owed_filter {s : Nat} (h1 : 1 ≤ s) (h2 : s ≤ 12) {L : L2c} (ok : Ok2 s L) {b p : Nat} (hp : p < s) (hb : b < s + 3) :
    (if owedI s L b p > 0 then [((cordI s p b).2, owedI s L b p)] else []) = (pickC (cordI s p b).1 L).filter fun c => decide (c.1 = (cordI s p b).2) := by
  have hs : (0 : Int) ≤ s := by omega
  have e1 : (if p % 2 = 0 then (stN s L b).1 else (stN s L b).2) = pickC ((p : Int) % 2) (stN s L b) := by
    unfold pickC
    by_cases e : p % 2 = 0
    · rw [if_pos e, if_pos (by omega)]
    · rw [if_neg e, if_neg (by omega)]
  have okP : OkL s (pickC (cordI s p b).1 L) := by
    unfold pickC
    split
    · exact ok.a
    · exact ok.b
  have okT : OkL s (pickC ((p : Int) % 2) (stN s L b)) := by
    have := ok.stN hs b
    unfold pickC
    split
    · exact this.a
    · exact this.b
  unfold owedI
  rw [e1]
  have st := stN_pick (s := s) (L := L) b p
  have hx := cord_mem (s := s) (by omega) (by omega) (p := p) (b := b) (by omega) (by omega)
  have same : ∀ c ∈ pickC (cordI s p b).1 L, (turnN s c ((b + (p + b) % 2) / 2)).1 = (cordI s p 0).2 → c.1 = (cordI s p b).2 := fun c hc e => by
    refine turnN_inj (d := ((cordI s p b).2, 0)) hs (okP.mem c hc) hx ((b + (p + b) % 2) / 2) ?_
    rw [e, cord_turned hs]
  by_cases hh : ∃ c ∈ pickC (cordI s p b).1 L, c.1 = (cordI s p b).2
  · obtain ⟨c, hc, e⟩ := hh
    have hm : turnN s c ((b + (p + b) % 2) / 2) ∈ pickC ((p : Int) % 2) (stN s L b) := by
      rw [st]
      exact List.mem_map.mpr ⟨c, hc, rfl⟩
    have ev : (turnN s c ((b + (p + b) % 2) / 2)).1 = (cordI s p 0).2 := by
      have := cord_turned hs p b c.2
      rw [← e] at this
      exact this
    rw [sum_hit okT hm ev.symm, turnN_snd]
    have p1 := okP.pos c hc
    rw [if_pos (by omega), show 0 - -c.2 = c.2 by omega]
    have nd := okP.nd
    obtain ⟨u, v, huv⟩ := List.append_of_mem hc
    have pw := okP.pw
    rw [huv] at pw ⊢
    obtain ⟨_, pw2, pw3⟩ := List.pairwise_append.mp pw
    rw [List.filter_append, List.filter_cons, if_pos (decide_eq_true e)]
    have z1 : (u.filter fun c => decide (c.1 = (cordI s p b).2)) = [] := List.filter_eq_nil_iff.mpr fun d hd h => (pw3 d hd c List.mem_cons_self).1 ((of_decide_eq_true h).trans e.symm)
    have z2 : (v.filter fun c => decide (c.1 = (cordI s p b).2)) = [] := List.filter_eq_nil_iff.mpr fun d hd h => ((List.pairwise_cons.mp pw2).1 d hd).1 (e.trans (of_decide_eq_true h).symm)
    rw [z1, z2, ← e]
    rfl
  · have no : ∀ c ∈ pickC ((p : Int) % 2) (stN s L b), (cordI s p 0).2 ≠ c.1 := fun d hd e => by
      rw [st] at hd
      obtain ⟨c, hc, rfl⟩ := List.mem_map.mp hd
      exact hh ⟨c, hc, same c hc e.symm⟩
    have := sum_miss okT no
    rw [if_neg (by omega)]
    exact (List.filter_eq_nil_iff.mpr fun d hd h => hh ⟨d, hd, of_decide_eq_true h⟩).symm
/-- what the law's loops read off the run for a half -/
def readP (s : Nat) (L : L2c) (h : Int) (b p : Nat) : List Cm := if (cordI s p b).1 = h then (if owedI s L b p > 0 then [((cordI s p b).2, owedI s L b p)] else []) else []
def readB (s : Nat) (L : L2c) (h : Int) (b n : Nat) : List Cm := (List.range n).flatMap fun p => readP s L h b p
def readU (s : Nat) (L : L2c) (h : Int) (n : Nat) : List Cm := (List.range n).flatMap fun b => readB s L h b s
theorem readB_succ (s : Nat) (L : L2c) (h : Int) (b n : Nat) : readB s L h b (n + 1) = readB s L h b n ++ readP s L h b n := by
  unfold readB
  rw [List.range_succ, List.flatMap_append, List.flatMap_cons, List.flatMap_nil, List.append_nil]
theorem readU_succ (s : Nat) (L : L2c) (h : Int) (n : Nat) : readU s L h (n + 1) = readU s L h n ++ readB s L h n s := by
  unfold readU
  rw [List.range_succ, List.flatMap_append, List.flatMap_cons, List.flatMap_nil, List.append_nil]
theorem readP_len (s : Nat) (L : L2c) (h : Int) (b p : Nat) : (readP s L h b p).length ≤ 1 := by
  unfold readP
  repeat' split
  all_goals simp
theorem readB_len (s : Nat) (L : L2c) (h : Int) (b : Nat) : ∀ n, (readB s L h b n).length ≤ n
  | 0 => by simp [readB]
  | n + 1 => by
    rw [readB_succ, List.length_append]
    have := readB_len s L h b n
    have := readP_len s L h b n
    omega
theorem readU_len (s : Nat) (L : L2c) (h : Int) : ∀ n, (readU s L h n).length ≤ s * n
  | 0 => by simp [readU]
  | n + 1 => by
    rw [readU_succ, List.length_append, Nat.mul_add, Nat.mul_one]
    have := readU_len s L h n
    have := readB_len s L h n s
    omega
theorem keys_perm : ∀ (ks : List (Int × Int)) (L : List Cm), ks.Nodup → (∀ c ∈ L, c.1 ∈ ks) → (ks.flatMap fun x => L.filter fun c => decide (c.1 = x)).Perm L
  | [], L, _, h => by
    cases L with
    | nil => exact .nil
    | cons c L => exact absurd (h c List.mem_cons_self) List.not_mem_nil
  | k :: ks, L, nd, h => by
    obtain ⟨n1, n2⟩ := List.nodup_cons.mp nd
    rw [List.flatMap_cons]
    have e : (ks.flatMap fun x => L.filter fun c => decide (c.1 = x)) = ks.flatMap fun x => (L.filter fun c => !decide (c.1 = k)).filter fun c => decide (c.1 = x) := by
      rw [List.flatMap_def, List.flatMap_def]
      congr 1
      refine List.map_congr_left fun x hx => ?_
      rw [List.filter_filter]
      refine List.filter_congr fun c _ => ?_
      by_cases ec : c.1 = x
      · have : c.1 ≠ k := fun z => n1 (by rw [← z, ec]; exact hx)
        have h2 : x ≠ k := fun z => this (ec.trans z)
        simp [ec, h2]
      · simp [ec]
    rw [e]
    refine ((List.Perm.refl _).append (keys_perm ks (L.filter fun c => !decide (c.1 = k)) n2 fun c hc => ?_)).trans (List.filter_append_perm (fun c => decide (c.1 = k)) L)
    obtain ⟨hc1, hc2⟩ := List.mem_filter.mp hc
    refine (List.mem_cons.mp (h c hc1)).resolve_left fun z => ?_
    rw [decide_eq_true z] at hc2
    cases hc2
theorem flatMap_perm {α β : Type} {f : α → List β} {l l' : List α} (h : l.Perm l') : (l.flatMap f).Perm (l'.flatMap f) := by
  induction h with
  | nil => exact .nil
  | cons x _ ih => exact (List.Perm.refl _).append ih
  | swap x y l =>
    simp only [List.flatMap_cons]
    rw [← List.append_assoc, ← List.append_assoc]
    exact List.perm_append_comm.append_right _
  | trans _ _ h1 h2 => exact h1.trans h2
theorem read_perm {s : Nat} (h1 : 1 ≤ s) (h2 : s ≤ 12) {L : L2c} (ok : Ok2 s L) {h : Int} (hh : h = 0 ∨ h = 1) : (readU s L h (s + 3)).Perm (pickC h L) := by
  have e : readU s L h (s + 3) = (halfB s h).flatMap fun x => (pickC h L).filter fun c => decide (c.1 = x) := by
    unfold readU halfB readB
    rw [List.flatMap_assoc, show ((s : Int) + 3).toNat = s + 3 by omega, show ((s : Int)).toNat = s by omega, List.flatMap_def, List.flatMap_def]
    congr 1
    refine List.map_congr_left fun b hb => ?_
    have hb := List.mem_range.mp hb
    rw [List.flatMap_assoc, List.flatMap_def, List.flatMap_def]
    congr 1
    refine List.map_congr_left fun p hp => ?_
    have hp := List.mem_range.mp hp
    unfold readP
    by_cases q : (cordI s p b).1 = h
    · rw [if_pos q, if_pos q, owed_filter h1 h2 ok hp hb, q, List.flatMap_cons, List.flatMap_nil, List.append_nil]
    · rw [if_neg q, if_neg q]
      rfl
  rw [e]
  obtain ⟨a, c, nd⟩ := okB_of (s := s) (by omega) (by omega)
  have hp : (halfB s h).Perm (allC s) := by
    rcases hh with rfl | rfl
    · exact a
    · exact c
  refine (flatMap_perm hp).trans (keys_perm _ _ nd fun x hx => ?_)
  unfold pickC at hx
  split at hx
  · exact ok.a.mem x hx
  · exact ok.b.mem x hx
/-! ### sorting -/
def CLe (p q : Cm) : Prop := p.1.1 < q.1.1 ∨ (p.1.1 = q.1.1 ∧ (p.1.2 < q.1.2 ∨ (p.1.2 = q.1.2 ∧ p.2 ≤ q.2)))
instance (p q : Cm) : Decidable (CLe p q) := inferInstanceAs (Decidable (p.1.1 < q.1.1 ∨ (p.1.1 = q.1.1 ∧ (p.1.2 < q.1.2 ∨ (p.1.2 = q.1.2 ∧ p.2 ≤ q.2)))))
def sortC (L : List Cm) : List Cm := L.mergeSort fun a b => decide (CLe a b)
theorem sortC_of (L : List Cm) : (sortC L).Perm L := List.mergeSort_perm _ _
theorem sortC_pw (L : List Cm) : (sortC L).Pairwise fun a b => decide (CLe a b) = true := List.pairwise_mergeSort (fun a b c h1 h2 => by
    simp only [decide_eq_true_eq] at h1 h2 ⊢
    unfold CLe at *
    omega) (fun a b => by
    simp only [Bool.or_eq_true, decide_eq_true_eq]
    unfold CLe
    omega) L
theorem sortC_perm {L L' : List Cm} (h : L.Perm L') : sortC L = sortC L' :=
  ((sortC_of L).trans (h.trans (sortC_of L').symm)).eq_of_pairwise (fun a b _ _ h1 h2 => by
    have h1 := of_decide_eq_true h1
    have h2 := of_decide_eq_true h2
    unfold CLe at h1 h2
    exact Prod.ext (Prod.ext (by omega) (by omega)) (by omega)) (sortC_pw L) (sortC_pw L')
theorem le_cords (p q : Cm) : PySem.W.dataLe false id (cmD p) (cmD q) = decide (CLe p q) := by
  show (!PySem.W.dataLt (cmD q) (cmD p)) = _
  rw [show cmD q = .tuple (([q.1.1, q.1.2, q.2] : List Int).map PyData.int) from rfl, show cmD p = .tuple (([p.1.1, p.1.2, p.2] : List Int).map PyData.int) from rfl, PySem.W.dataLt_tuple]
  show (!PySem.W.rowLt (([q.1.1, q.1.2, q.2] : List Int).map .int) (([p.1.1, p.1.2, p.2] : List Int).map .int)) = _
  rw [PySem.W.dataLt_ints]
  have e : ([q.1.1, q.1.2, q.2] : List Int) < [p.1.1, p.1.2, p.2] ↔ ¬ CLe p q := by
    rw [List.cons_lt_cons_iff, List.cons_lt_cons_iff, List.cons_lt_cons_iff]
    unfold CLe
    simp
    omega
  by_cases h : CLe p q
  · have h' : ¬ ([q.1.1, q.1.2, q.2] : List Int) < [p.1.1, p.1.2, p.2] := fun z => e.mp z h
    simp [h, h']
  · have h' : ([q.1.1, q.1.2, q.2] : List Int) < [p.1.1, p.1.2, p.2] := e.mpr h
    simp [h, h']
theorem sort_cm (L : List Cm) : sortD (L.map cmD) = (sortC L).map cmD := by
  unfold sortD sortC
  exact (PySem.W.sort_maps (r := fun t u : Cm => decide (CLe t u)) (s := PySem.W.dataLe false id) cmD (l := L) fun a _ b _ => (le_cords a b).symm).symm
theorem cmD_lay (p : Cm) : (cmD p).canLay0 = true := by
  simp [cmD, PyData.canLay0, PyData.canLayAll0]
theorem cmD_depth (p : Cm) : (cmD p).depth ≤ 2 := by
  simp [cmD, PyData.depth, PyData.depthAll]
theorem cm_able (xs : List Cm) : SortsD (xs.map cmD) := by
  refine ⟨fun d hd d' hd' => ?_, .inl fun d hd => ?_, Nat.le_trans (depthAll_le (b := 2) fun d hd => ?_) (by decide), layAll_of fun d hd => ?_⟩
  · obtain ⟨a, _, rfl⟩ := List.mem_map.mp hd
    obtain ⟨b, _, rfl⟩ := List.mem_map.mp hd'
    simp [cmD, PySem.W.alike, PySem.W.alikeAll]
  · obtain ⟨t, _, rfl⟩ := List.mem_map.mp hd
    exact ⟨_, _, rfl⟩
  · obtain ⟨t, _, rfl⟩ := List.mem_map.mp hd
    exact cmD_depth t
  · obtain ⟨t, _, rfl⟩ := List.mem_map.mp hd
    exact cmD_lay t
theorem sortC_ok {s : Int} {L : List Cm} (h : OkL s L) : OkL s (sortC L) := h.perm (sortC_of L).symm
theorem read_sort {s : Nat} (h1 : 1 ≤ s) (h2 : s ≤ 12) {L : L2c} (ok : Ok2 s L) : sortC (readU s L 0 (s + 3)) = sortC L.1 ∧ sortC (readU s L 1 (s + 3)) = sortC L.2 :=
  ⟨sortC_perm (read_perm h1 h2 ok (.inl rfl)), sortC_perm (read_perm h1 h2 ok (.inr rfl))⟩
theorem byS_perm {s : Nat} {L L' : L2c} (h1 : L.1.Perm L'.1) (h2 : L.2.Perm L'.2) : byS s L = byS s L' := by
  refine Prod.ext ?_ ?_
  · show byO s L = byO s L'
    unfold byO
    refine List.map_congr_left fun p _ => ?_
    split
    · exact sumE_perm h2
    · exact sumE_perm h1
  · show byN s L = byN s L'
    unfold byN
    refine List.map_congr_left fun p _ => ?_
    split
    · exact sumE_perm h1
    · exact sumE_perm h2
end Fv
set_option maxRecDepth 100000
set_option maxHeartbeats 4000000
/-! enumerate of a tuple. -/
namespace Fv
open PySem PySem.Spec PyProof.Rows L2 Gb
abbrev enumO (it : Addr) : Obj := { cls := .type "enumerate", data := .fields #[.none, .bool false, .ref it, rawInt 0, .none, .none] }
theorem meets_enumOf {v : Value} {o : Obj} {HB : Heap → Prop} (B : Begins v o HB) :
    Meets (Builtin.«enumerate.__new__» ⟨[.type "enumerate", v], []⟩) (fun _ R s => HB s.heap ∧ R (.ok (.ret (.ref (s.heap.push o).objs.size))) { s with heap := (s.heap.push o).push (enumO s.heap.objs.size) }) :=
  .of_wp fun prog w A R st hst => by
    obtain ⟨hp, gg, dd, kk, oo⟩ := st
    obtain ⟨hb, hr⟩ := hst
    have sub := sub_enumerate
    have it1 : ∀ {A' : Around} {E : Value → Shared → Prop} {Q : Value → Shared → Prop}, Q (.ref hp.objs.size) ⟨hp.push o, gg, dd, kk, oo⟩ → wpAny (model prog w) A' (pyIter v) Q E ⟨hp, gg, dd, kk, oo⟩ := fun q => B.iter prog w _ _ ⟨hp, gg, dd, kk, oo⟩ _ hb q
    wp_walk using it1
    refine wpAny_stack_any fun _ => wpAny_pure ?_
    split
    · rename_i c _ _ _ _ _
      cases hc : (c == Value.type "enumerate") <;> (wp_walk using it1; exact ⟨_, rfl, hr⟩)
    · wp_walk using it1
      exact ⟨_, rfl, hr⟩
theorem enumOf_begins {prog : Program} {w : World} {A : Around} {E : Value → Shared → Prop} {s : Shared} {v : Value} {o : Obj} {HB : Heap → Prop} {Q : Value → Shared → Prop} (B : Begins v o HB) (hb : HB s.heap)
    (k : ∀ h', IsEnum h' (s.heap.objs.size + 1) s.heap.objs.size 0 .none → h'.get? s.heap.objs.size = some o → h'.objs.size = s.heap.objs.size + 2 → (∀ b u, s.heap.get? b = some u → h'.get? b = some u) → Q (.ref (s.heap.objs.size + 1)) { s with heap := h' }) :
    wpAny (model prog w) A (call (.type "enumerate") [v]) Q E s := by
  have z1 : (s.heap.push o).objs.size = s.heap.objs.size + 1 := Heap.size_push ..
  have en : IsEnum ((s.heap.push o).push (enumO s.heap.objs.size)) (s.heap.objs.size + 1) s.heap.objs.size 0 .none := by
    have q := Heap.get?_push_size (s.heap.push o) (o := enumO s.heap.objs.size) rfl
    rw [z1] at q
    exact q
  refine callType_new F.called_enumerate (by decide) (F.typeCall_enumerate_1 _) (F.newCall_enumerate_1 _) (fun obj => F.args_object_init_2 obj _) F.entry_enumerate_new (meets_enumOf B) ⟨hb, ?_⟩
  rw [z1]
  exact ⟨⟨_, en, rfl⟩, k _ en (Heap.get?_push_of_some _ (Heap.get?_push_size _ B.free)) (by rw [Heap.size_push, z1]) fun b u x => Heap.get?_push_of_some _ (Heap.get?_push_of_some _ x)⟩
/-- the tuple at a, each item in a new pair -/
def IteT (K : PySem.W.Frag) (a : Addr) : It :=
  ⟨fun i H => ∃ (xs : List V) (x : V), SqT K H a xs ∧ xs[i]? = some x,
    fun i H u H' => ∃ T x, u = .ref T ∧ H T = none ∧ H' = upd H T (.tup [.int (i : Nat), x]) ∧ ∀ xs, SqT K H a xs → xs[i]? = some x,
    fun i H => ∃ xs : List V, SqT K H a xs ∧ xs.length = i⟩
theorem turn_enumT {P : Program} {w : World} {K : PySem.W.Frag} {elts : List Expr} {kk : Nat} {tpos : Pos} {a e it : Addr} (ne : e ≠ it) (na : a ≠ it) (nae : a ≠ e) :
    Turn P w K (.Tuple elts kk tpos) (IteT K a) [e, it] e (fun i h => (∃ old, IsEnum h e it ((i : Nat) : Int) old) ∧ h.IsTupleIter it a i) where
  mem := List.mem_cons_self
  obj := by
    rintro i h ⟨⟨old, he⟩, o, ho, hc, hd⟩ b hb
    simp only [List.mem_cons, List.not_mem_nil, or_false] at hb
    rcases hb with rfl | rfl
    · exact ⟨_, he, fun v q => nomatch q⟩
    · exact ⟨o, ho, fun v q => by rw [hd] at q; cases q⟩
  keep := by
    rintro i h h' ⟨⟨old, he⟩, hi⟩ k
    exact ⟨⟨old, k e (by simp) _ he⟩, hi.at fun o q => k it (by simp) o q⟩
  item := by
    rintro X rfl rfl rfl hc i pins s σ H E I hf ⟨⟨old, he⟩, hit⟩ ⟨xs, x, hq, hx⟩
    obtain ⟨its, rv, p, hz⟩ := I.tuple hq
    obtain ⟨u, hu, ru⟩ := rv.get hx
    have hel : e < s.heap.objs.size := Heap.lt_size he
    have hil : it < s.heap.objs.size := by
      obtain ⟨_, q, _⟩ := hit
      exact Heap.lt_size q
    have hh : X.A.in1.handled = none := I.ok.hd hc
    have lt : i < its.toArray.size := by
      rw [List.size_toArray]
      exact (List.getElem?_eq_some_iff.mp hu).1
    refine wpAny_pyNext_enum_itemD (Draws.tuple hh it a na its.toArray) he ⟨hit, p⟩ lt ne (by simp [ne, Ne.symm nae]) fun x2 h' tk ex ho st hT hsz hk => ?_
    have ex2 : x2 = u := by
      have q : its[i]? = some x2 := by simpa using ex
      rw [hu] at q
      exact (Option.some.inj q).symm
    subst ex2
    refine ⟨_, rfl, wpAny_letOwnedTupleGo_enum (s := { s with heap := h', toks := tk + 1 }) ho fun h'' he' sb => ?_⟩
    have hT2 : h''.get? s.heap.objs.size = some { cls := .type "tuple", data := .seq #[.int i tk, x2] } := (sb.2 _ (Nat.ne_of_gt hel)).trans hT
    have nt : ObjOk X.prog X.w (upd H s.heap.objs.size (.tup [.int (i : Nat), x])) h'' s.heap.objs.size (.tup [.int (i : Nat), x]) := ⟨by show 2 ≤ sizeLine; decide, [.int i tk, x2], .cons ⟨_, rfl⟩ (.cons ru .nil), ⟨_, hT2, rfl, _, rfl⟩⟩
    have J : Inv X pins σ (upd H s.heap.objs.size (.tup [.int (i : Nat), x])) { s with heap := h'', toks := tk + 1 } :=
      I.turnedNew (t' := tk + 1) (ch := [e, it]) (fun b o hb q => (sb.2 b fun z => hb (by simp [z])).trans (hk b o (fun z => hb (by simp [z])) (fun z => hb (by simp [z])) q)) hf (Nat.le_refl _) nt
    refine ⟨.ref s.heap.objs.size, _, J, rfl, ⟨_, x, rfl, I.hok.fresh (Nat.le_refl _), rfl, fun ys hy => by rw [I.tuple_inj hy hq]; exact hx⟩, ⟨⟨x2, ?_⟩, st.1.at fun o q => (sb.2 it (Ne.symm ne)).trans q⟩, fun b hb => ?_⟩
    · rw [show ((i + 1 : Nat) : Int) = (i : Int) + 1 by omega]
      exact he'
    · have hb' : b < s.heap.objs.size := by
        simp only [List.mem_cons, List.not_mem_nil, or_false] at hb
        rcases hb with rfl | rfl
        · exact hel
        · exact hil
      rw [upd_ne (Nat.ne_of_lt hb')]
      exact (hf b hb).1
  done := by
    rintro X rfl rfl rfl hc i pins s σ H E I hf ⟨⟨old, he⟩, hit⟩ ⟨xs, hq, hx⟩
    obtain ⟨its, rv, p, hz⟩ := I.tuple hq
    obtain ⟨f0, f1, f2, f3, f4, f5⟩ := hf it (by simp)
    have hh : X.A.in1.handled = none := I.ok.hd hc
    have sz : its.toArray.size = i := by rw [List.size_toArray, ← rv.length, hx]
    exact wpAny_pyNext_enum_endD (Draws.tuple hh it a na its.toArray) he (by rw [sz]; exact ⟨hit, p⟩) fun h' eb => ⟨rfl, I.turned (t' := s.toks) (fun b o hb q => eb b o hb q) f0 f1 f3 f4 f5⟩
  self := fun A i s Q E st h => let ⟨⟨_, he⟩, _⟩ := st; wpAny_pyIter_enum he h
def iEnumT (K : PySem.W.Frag) (ta : TA) : TI := fun σ H R => ta σ H fun vs H1 => ∃ a xs, vs = [.ref a] ∧ SqT K H1 a xs ∧ R (IteT K a) H1
theorem pi_enumT {X : Cx} {Kx : PySem.W.Frag} {e : Expr} {ta : TA} {p pos tpos : Pos} {elts : List Expr} {kk : Nat} (hg : Gl X "enumerate") (hm : X.mg "enumerate" = none) (ha : PA X [e] ta) (hK : X.K = Kx := by rfl) (hs : starEach [e] X.env = [(false, eval e X.env)] := by rfl) :
    PI X (.Tuple elts kk tpos) (.Call (.Name "enumerate" p) [e] [] pos) (iEnumT Kx ta) := by
  subst hK
  refine ⟨fun pins s σ H R I h => ?_⟩
  refine Call_ (ld_blt I hg hm boot_enumerate (PyProof.Rows.callWith_type1 (thn (ha.run pos pins s σ H _ I h) fun us s1 ⟨vs, H1, I1, r1, q1⟩ => ?_) hs rfl))
  obtain ⟨a, xs, ex, hq, q⟩ := q1
  subst ex
  obtain ⟨u1, rfl, r⟩ : ∃ u1, us = [u1] ∧ RelV (.ref a) u1 := by
    cases r1 with
    | cons r rr =>
      cases rr
      exact ⟨_, rfl, r⟩
  obtain rfl : u1 = Value.ref a := r
  obtain ⟨its, rv, p', hz⟩ := I1.tuple hq
  have la : a < s1.heap.objs.size := by
    obtain ⟨o, ho, _⟩ := p'
    exact Heap.lt_size ho
  refine enumOf_begins (begins_tuple a its.toArray) p' fun h' he hit hsz hk => wpAny_pyIter_enum he ?_
  have I2 : Inv X pins σ H1 { s1 with heap := h' } := I1.kept (t' := s1.toks) hk
  refine ⟨s1.heap.objs.size + 1, [s1.heap.objs.size + 1, s1.heap.objs.size], _, _, H1, rfl, I2, turn_enumT (Nat.succ_ne_self _) (Nat.ne_of_lt la) (Nat.ne_of_lt (Nat.lt_succ_of_lt la)), ⟨⟨.none, he⟩, _, hit, rfl, rfl⟩, fun b hb => ?_, q⟩
  have hle : s1.heap.objs.size ≤ b := by
    simp only [List.mem_cons, List.not_mem_nil, or_false] at hb
    rcases hb with rfl | rfl
    · exact Nat.le_succ _
    · exact Nat.le_refl _
  exact I1.fpOk hle (I1.hok.fresh hle)
section
variable {X : Cx} {G : Cg} {a : Expr} {ta : TE} {wa : WE} {p pos : Pos}
def wIEnumT (wa : WE) : WI := fun ρ n E Q => wa ρ n E fun d n1 => match d with
  | .py (.tuple xs) => Q (enumD xs) n1
  | _ => False
theorem bi_enumT {elts : List Expr} {kk : Nat} {tpos : Pos} (hg : Gl X "enumerate") (hm : X.mg "enumerate" = none) (ha : BE X G a ta wa) (hK : X.K = G.K := by rfl) (hs : starEach [a] X.env = (false, eval a X.env) :: starEach [] X.env := by rfl) :
    BI X G (.Tuple elts kk tpos) (.Call (.Name "enumerate" p) [a] [] pos) (iEnumT G.K (tCons ta tNil)) (wIEnumT wa) :=
  ⟨pi_enumT hg hm (pa_cons ha.pe pa_nil hs) hK hs, fun ρ σ n B H E Qd Q S hw xw k => ha.snd ρ σ n B H E _ _ S hw xw fun v d n1 B1 H1 m1 pk1 r1 q1 => by
    match d, r1, q1 with
    | .py (.tuple xs), r1, q1 =>
      obtain ⟨l, vs, rfl, h1, h2, hz⟩ := dd_tup r1
      have hl : (enumD xs).length = vs.length := by
        unfold enumD
        rw [List.length_map, List.length_zipIdx, h2.len]
      refine ⟨l, vs, rfl, Same.t m1.s h1, k _ _ n1 B1 H1 m1 pk1 (fun Bc Hc e1 e2 => ?_) (by rw [hl]; exact hz) q1⟩
      have e := e1.trans e2
      refine ⟨fun i hi => ?_, ⟨vs, Same.t e h1, by rw [hl]⟩, fun i x H' hi y => ?_⟩
      · rw [hl] at hi
        exact ⟨vs, _, Same.t e h1, List.getElem?_eq_getElem hi⟩
      · obtain ⟨T, z, rfl, hT, rfl, hv⟩ := y
        obtain ⟨d1, g1, r2⟩ := h2.get (hv vs (Same.t e h1))
        have m := Mv.new (pn := none) (o := .tup [.int (i : Nat), z]) e2 hT
        refine ⟨_, .py (.tuple [.int (i : Nat), d1]), ?_, m, r_tup (SqT.of upd_same) (.cons (.int _) (.cons ((r2.mono e1).mono m.b) .nil)) (by show 2 ≤ sizeLine; decide)⟩
        unfold enumD
        rw [List.getElem?_map, List.getElem?_zipIdx, g1]
        simp⟩
end
end Fv
set_option maxRecDepth 100000
set_option maxHeartbeats 4000000
/-! Lists of lists of one's own: made, read, written, told. -/
namespace Fv
open PySem PySem.Spec PyProof.Rows L2 Gb
open PySem.W (T4)
section
variable {m : Bool} {X : Cx} {G : Cg} {a b c d e f o : Expr} {es rest : List Expr} {ta tb tc td te to : TE} {wa wb wc wd we : WE} {pos p p2 p3 apos cpos tpos : Pos} {x : Str} {n : Nat} {t u tt : TT} {w v wt : WT} {wl wl2 : WL} {wn : WN} {wv wv2 : WV} {st : Stmt} {sts sts2 : List Stmt} {ts us : TS} {ws vs : WS}
theorem mat_get {rows : Rws} {i : Nat} {r : Addr × List PyData} (h : rows[i]? = some r) : (rows.map fun r => V.ref r.1)[i]? = some (.ref r.1) := by
  rw [List.getElem?_map, h]
  rfl
theorem atI_some {α : Type} {xs : List α} {i : Int} {y : α} (h : L2.atI xs i = some y) : ∃ j, ixN xs.length i = some j ∧ xs[j]? = some y := by
  unfold L2.atI at h
  cases e : ixN xs.length i with
  | none => rw [e] at h; cases h
  | some j =>
    rw [e] at h
    exact ⟨j, rfl, h⟩
theorem atI_of {α : Type} {xs : List α} {i : Int} {j : Nat} {y : α} (h1 : ixN xs.length i = some j) (h2 : xs[j]? = some y) : L2.atI xs i = some y := by
  unfold L2.atI
  rw [h1]
  exact h2
/-- x[k], a row -/
theorem mat_ix {B H : Hp} {tp : Bool} {l : Addr} {rows : Rws} {k : Int} {j : Nat} {r : Addr × List PyData} {Q : VK} (A : MatAt G B H tp l rows) (h1 : ixN rows.length k = some j) (h2 : rows[j]? = some r) (q : Q (.ref r.1) H) : rIx G.K (.ref l) (.int k) H Q := by
  have e : L2.atI (rows.map fun r => V.ref r.1) k = some (.ref r.1) := atI_of (j := j) (by rw [List.length_map]; exact h1) (mat_get h2)
  have h := A.at_
  cases tp with
  | true => exact .inr (.inl ⟨l, _, k, .ref r.1, rfl, rfl, SqT.of h, e, q⟩)
  | false => exact .inl ⟨l, _, k, .ref r.1, rfl, rfl, SqL.of h, e, q⟩
def wRow (i : Nat) (wk : WE) : WL := fun ρ n E Q => match ρ[i]? with
  | some (.mat _ _ rows) => wk ρ n E fun y n1 => (match y with
    | .py (.int k) => (match L2.atI rows k with
      | some r => Q false r.2 n1
      | none => False)
    | _ => False)
  | _ => False
theorem bl_row (i : Nat) (ho : PE X o (tVar i)) (hb : BE X G b tb wb) (hs : PlainIx b := by exact fun _ _ => rfl) (hK : X.K = G.K := by rfl) : BL X G (.Subscript o b pos) (tOp (rIx G.K) (tVar i) tb) (wRow i wb) :=
  ⟨pe_ix (hK ▸ ix_seq) ho hb.pe hs, fun ρ σ n B H E Qd Q S hw xw k => by
    unfold wRow at hw
    match hr : ρ[i]?, hw with
    | some (.mat tp l rows), hw =>
      obtain ⟨h1, A⟩ := S.mat.at_ i tp l rows hr
      refine ⟨.ref l, h1, hb.snd ρ σ n B H E _ _ S hw xw fun v2 d2 n2 B2 H2 m2 pk2 r2 q2 => ?_⟩
      match d2, r2, q2 with
      | .py (.int j), r2, q2 =>
        cases dd_int r2
        simp only at q2
        match ei : L2.atI rows j, q2 with
        | some r, q2 =>
          simp only at q2
          obtain ⟨j', e1, e2⟩ := atI_some ei
          have A2 := A.step m2
          obtain ⟨vs, g1, g2, g3, g4⟩ := A2.row r (List.mem_of_getElem? e2)
          exact mat_ix A2 e1 e2 (k r.1 vs false r.2 n2 B2 H2 m2 pk2 g1 g2 g3 q2)⟩
/-- all of it, looked at -/
def wMat (i : Nat) : WE := fun ρ n _ Q => match ρ[i]? with
  | some (.mat tp _ rows) => Q (.py (if tp = true then .tuple (rows.map fun r => .list r.2) else .list (rows.map fun r => .list r.2))) n
  | _ => False
def tellM (B H : Hp) (l : Addr) (as : List Addr) : Hp := fun b => if b = l ∨ b ∈ as then H b else B b
theorem MatAt.dd {B H : Hp} {tp : Bool} {l : Addr} {rows : Rws} (A : MatAt G B H tp l rows) {B' : Hp} (sb : Same B B') (hl : B' l = H l) (hr : ∀ r ∈ rows, B' r.1 = H r.1) : R G B' (.ref l) (.py (if tp = true then .tuple (rows.map fun r => .list r.2) else .list (rows.map fun r => .list r.2))) := by
  have all : ∀ rs : Rws, (∀ r ∈ rs, r ∈ rows) → DdA G.K B' (rs.map fun r => V.ref r.1) (rs.map fun r => .list r.2) := by
    intro rs
    induction rs with
    | nil => exact fun _ => .nil
    | cons r rs ih =>
      intro h
      obtain ⟨vs, h1, h2, h3, h4⟩ := A.row r (h r List.mem_cons_self)
      exact .cons (.lst (by rw [hr r (h r List.mem_cons_self)]; exact h1) (h3.mono sb) h2) (ih fun x hx => h x (List.mem_cons_of_mem _ hx))
  have hA := all rows fun r h => h
  have hlen : (rows.map fun r => V.ref r.1).length ≤ sizeLine := by rw [List.length_map]; exact A.len
  cases tp with
  | true => exact r_tup (SqT.of (hl.trans A.at_)) hA hlen
  | false => exact r_lst (hl.trans A.at_) hA hlen
theorem tellM_same {B H : Hp} {l : Addr} {as : List Addr} (h1 : B l = none) (h2 : ∀ a ∈ as, B a = none) : Same B (tellM B H l as) := fun b u h => by
  unfold tellM
  rw [if_neg (fun z => by
    rcases z with rfl | z
    · rw [h1] at h; cases h
    · rw [h2 b z] at h; cases h)]
  exact h
theorem tellM_l {B H : Hp} {l : Addr} {as : List Addr} : tellM B H l as l = H l := if_pos (.inl rfl)
theorem tellM_r {B H : Hp} {l a : Addr} {as : List Addr} (h : a ∈ as) : tellM B H l as a = H a := if_pos (.inr h)
theorem tellM_sub {B H : Hp} {l : Addr} {as : List Addr} (s : Same B H) : Same (tellM B H l as) H := fun b u h => by
  unfold tellM at h
  split at h
  · exact h
  · exact s _ _ h
theorem MatAt.sameB {B H : Hp} {tp : Bool} {l : Addr} {rows : Rws} (A : MatAt G B H tp l rows) : Same B (tellM B H l (rows.map (·.1))) := tellM_same A.fr.1 fun a ha => by
  obtain ⟨r, hr, rfl⟩ := List.mem_map.mp ha
  obtain ⟨vs, _, _, _, h4⟩ := A.row r hr
  exact h4.1
theorem MatAt.nt {B H : Hp} {tp : Bool} {l : Addr} {rows : Rws} (A : MatAt G B H tp l rows) {b : Addr} (hb : b = l ∨ b ∈ rows.map (·.1)) {ps : Array Value} : H b ≠ some (.tbl ps) := fun h => by
  rcases hb with rfl | hb
  · rw [A.at_] at h
    cases tp <;> cases h
  · obtain ⟨r, hr, rfl⟩ := List.mem_map.mp hb
    obtain ⟨vs, h1, _⟩ := A.row r hr
    rw [h1] at h
    cases h
theorem MatAt.ne_pen {B H : Hp} {tp : Bool} {l : Addr} {rows : Rws} (A : MatAt G B H tp l rows) {b : Addr} (hb : b = l ∨ b ∈ rows.map (·.1)) : Free G B b := by
  rcases hb with rfl | hb
  · exact A.fr
  · obtain ⟨r, hr, rfl⟩ := List.mem_map.mp hb
    obtain ⟨vs, _, _, _, h4⟩ := A.row r hr
    exact h4
theorem MatAt.lk {n : Nat} {B H : Hp} {tp : Bool} {l : Addr} {rows : Rws} (A : MatAt G B H tp l rows) (s : Same B H) (pk : Pk G.pn n B H) : Lk G (tellM B H l (rows.map (·.1))) H := by
  refine ⟨tellM_sub s, fun p c T e => ?_⟩
  rw [e] at pk
  refine ⟨?_, fun b ps q => ?_⟩
  · unfold tellM
    rw [if_neg (fun z => ((A.ne_pen z).2.2 p c T e).1 rfl)]
    exact pk.2.1
  · unfold tellM at q
    split at q
    · rename_i z
      exact A.nt z q
    · exact pk.2.2.2.1 _ _ q
/-! ### a row is written -/
theorem set_fst {rows : Rws} {j : Nat} {r : Addr × List PyData} {ds : List PyData} (h : rows[j]? = some r) : (rows.set j (r.1, ds)).map (·.1) = rows.map (·.1) := by
  apply List.ext_getElem?
  intro i
  rw [List.getElem?_map, List.getElem?_map, List.getElem?_set]
  split
  · rename_i e
    subst e
    rw [h, if_pos (List.getElem?_eq_some_iff.mp h).1]
    rfl
  · rfl
theorem St.putM {B H : Hp} {ρ : List Sl} {σ : L2.St} (S : St G n B H ρ σ) {i j : Nat} {tp : Bool} {l : Addr} {rows : Rws} {r : Addr × List PyData} {us : List V} {ds : List PyData} (hr : ρ[i]? = some (.mat tp l rows)) (hj : rows[j]? = some r) (hz : us.length ≤ sizeLine) (hA : DdA G.K B us ds) :
    St G n B (upd H r.1 (.lst us)) (ρ.set i (.mat tp l (rows.set j (r.1, ds)))) σ := by
  obtain ⟨h1, A⟩ := S.mat.at_ i tp l rows hr
  have hmem := List.mem_of_getElem? hj
  obtain ⟨vs, g1, g2, g3, F⟩ := A.row r hmem
  have hg : r.1 ∈ l :: rows.map (·.1) := List.mem_cons_of_mem _ (List.mem_map.mpr ⟨r, hmem, rfl⟩)
  have gh : ghost ρ r.1 := ⟨i, tp, l, rows, hr, hg⟩
  have hi : i < ρ.length := (List.getElem?_eq_some_iff.mp hr).1
  have hjl : j < rows.length := (List.getElem?_eq_some_iff.mp hj).1
  have at_ : ∀ {k : Nat} {x : Sl}, (ρ.set i (.mat tp l (rows.set j (r.1, ds))))[k]? = some x → (k = i ∧ x = .mat tp l (rows.set j (r.1, ds))) ∨ (k ≠ i ∧ ρ[k]? = some x) := fun {k x} h => by
    by_cases e : i = k
    · subst e
      rw [List.getElem?_set_self hi] at h
      exact .inl ⟨rfl, (Option.some.inj h).symm⟩
    · rw [List.getElem?_set_ne e] at h
      exact .inr ⟨Ne.symm e, h⟩
  have ownNe : ∀ {k : Nat} {l' : Addr}, ownAt ρ k → σ[k]? = some (some (.ref l')) → l' ≠ r.1 := fun {k l'} hk e z => S.mat.own k l' hk e (z ▸ gh)
  have fs := set_fst (ds := ds) hj
  refine ⟨S.mv.own F.2.1 F.1 (fun p c T e => (F.2.2 p c T e).1), S.pk.own F (.lst g1), by rw [List.length_set]; exact S.len, fun k d h => ?_, fun k es h => ?_, fun k ks h => ?_, fun k k' l' ne hk hk' e => ?_, ⟨fun k t' l' rows' h => ?_, fun k k' t1 l1 r1 t2 l2 r2 ne h h' b hb hb' => ?_, fun k b hk e hg' => ?_⟩⟩
  · rcases at_ h with ⟨_, h2⟩ | ⟨_, h2⟩
    · cases h2
    · exact S.val k d h2
  · rcases at_ h with ⟨_, h2⟩ | ⟨_, h2⟩
    · cases h2
    · obtain ⟨l', ws, a1, a2, a3⟩ := S.own k es h2
      exact ⟨l', ws, a1, by rw [upd_ne (ownNe ⟨_, h2, rfl⟩ a1)]; exact a2, a3⟩
  · rcases at_ h with ⟨_, h2⟩ | ⟨_, h2⟩
    · cases h2
    · obtain ⟨l', ws, a1, a2, a3⟩ := S.dow k ks h2
      exact ⟨l', ws, a1, by rw [upd_ne (ownNe ⟨_, h2, rfl⟩ a1)]; exact a2, a3⟩
  · have back : ∀ {k : Nat}, ownAt (ρ.set i (.mat tp l (rows.set j (r.1, ds)))) k → ownAt ρ k := fun {k} ⟨x, hx, ox⟩ => by
      rcases at_ hx with ⟨_, h2⟩ | ⟨_, h2⟩
      · rw [h2] at ox
        cases ox
      · exact ⟨x, h2, ox⟩
    exact S.dis k k' l' ne (back hk) (back hk') e
  · rcases at_ h with ⟨e, h2⟩ | ⟨e, h2⟩
    · injection h2 with e1 e2 e3
      subst e1
      subst e2
      subst e3
      refine ⟨by rw [e]; exact h1, ⟨?_, A.fr, by rw [fs]; exact A.nd, by rw [List.length_set]; exact A.len, fun q hq => ?_⟩⟩
      · rw [upd_ne (fun z => by
          have := (List.nodup_cons.mp A.nd).1
          rw [z] at this
          exact this (List.mem_map.mpr ⟨r, hmem, rfl⟩)), A.at_]
        have em : (rows.set j (r.1, ds)).map (fun r => V.ref r.1) = rows.map fun r => V.ref r.1 := by
          have := congrArg (List.map V.ref) fs
          rw [List.map_map, List.map_map] at this
          exact this
        cases t' <;> (unfold matO; simp only; rw [em])
      · obtain ⟨k', hk'⟩ := List.getElem?_of_mem hq
        rw [List.getElem?_set] at hk'
        split at hk'
        · cases hk'
          exact ⟨us, upd_same, hz, hA, F⟩
        · rename_i ne
          obtain ⟨ws, b1, b2, b3, b4⟩ := A.row q (List.mem_of_getElem? hk')
          have nq : q.1 ≠ r.1 := fun z => by
            have nd := (List.nodup_cons.mp A.nd).2
            have x1 : (rows.map (·.1))[k']? = some q.1 := by rw [List.getElem?_map, hk']; rfl
            have x2 : (rows.map (·.1))[j]? = some r.1 := by rw [List.getElem?_map, hj]; rfl
            rw [z, ← x2] at x1
            have := (List.getElem?_inj (by rw [List.length_map]; exact (List.getElem?_eq_some_iff.mp hk').1) nd).mp x1
            exact ne this.symm
          exact ⟨ws, by rw [upd_ne nq]; exact b1, b2, b3, b4⟩
    · obtain ⟨b1, b2⟩ := S.mat.at_ k t' l' rows' h2
      exact ⟨b1, b2.other fun z => S.mat.sep k i t' l' rows' tp l rows e h2 hr r.1 z hg⟩
  · rcases at_ h with ⟨e1, h2⟩ | ⟨e1, h2⟩
    · rcases at_ h' with ⟨e2, g2'⟩ | ⟨e2, g2'⟩
      · exact ne (e1.trans e2.symm)
      · cases h2
        rw [fs] at hb
        exact S.mat.sep i k' tp l rows t2 l2 r2 (Ne.symm e2) hr g2' b hb hb'
    · rcases at_ h' with ⟨e2, g2'⟩ | ⟨e2, g2'⟩
      · cases g2'
        rw [fs] at hb'
        exact S.mat.sep k i t1 l1 r1 tp l rows e1 h2 hr b hb hb'
      · exact S.mat.sep k k' t1 l1 r1 t2 l2 r2 ne h2 g2' b hb hb'
  · obtain ⟨x, hx, ox⟩ := hk
    obtain ⟨k', t', l', rows', hm, hb⟩ := hg'
    rcases at_ hx with ⟨_, h2⟩ | ⟨_, h2⟩
    · rw [h2] at ox
      cases ox
    · rcases at_ hm with ⟨e2, g2'⟩ | ⟨e2, g2'⟩
      · cases g2'
        rw [fs] at hb
        exact S.mat.own k b ⟨x, h2, ox⟩ e ⟨i, tp, l, rows, hr, hb⟩
      · exact S.mat.own k b ⟨x, h2, ox⟩ e ⟨k', t', l', rows', g2', hb⟩
/-- x[j][k] = e -/
def sPutM (i : Nat) (w wj wk : WE) : WS := fun ρ n E DB => match ρ[i]? with
  | some (.mat tp l rows) => w ρ n (E ρ) fun d n1 => wj ρ n1 (E ρ) fun y n2 => (match y with
    | .py (.int j) => (match ixN rows.length j with
      | some j' => (match rows[j']? with
        | some r => wk ρ n2 (E ρ) fun z n3 => (match d, z with
          | .py d, .py (.int k) => (match ixN r.2.length k with
            | some k' => DB.nx (ρ.set i (.mat tp l (rows.set j' (r.1, r.2.set k' d)))) n3
            | none => False)
          | _, _ => False)
        | none => False)
      | none => False)
    | _ => False)
  | _ => False
theorem bs_putM (i : Nat) {q1 q2 : Pos} (he : BE X G e te we) (hj : BE X G a ta wa) (hk : BE X G b tb wb) (ho : PE X o (tVar i)) (hs0 : PlainIx a := by exact fun _ _ => rfl)
    (h2 : ∀ v : Value, assign (.Subscript (.Subscript o a q1) b q2) X.env v = (do let ov ← holding [v] (eval (.Subscript o a q1) X.env); let iv ← holding [v, ov] (eval b X.env); standAt q2; holding [v, ov, iv] (setItem ov iv v); release [v, ov, iv] []) := by intro _; rfl)
    (hs : swapsWithSole [.Subscript (.Subscript o a q1) b q2] e pos.line X.env = pure false := by rfl) (hw : swappedStores [.Subscript (.Subscript o a q1) b q2] e X.env = pure none := by rfl) (h1 : (assignEach [.Subscript (.Subscript o a q1) b q2] X.env).map (·.2) = [assign (.Subscript (.Subscript o a q1) b q2) X.env] := by rfl) (hK : X.K = G.K := by rfl) :
    BS m X G (.Assign [.Subscript (.Subscript o a q1) b q2] e pos) (tAsg te (gSub (tOp (rIx G.K) (tVar i) ta) tb rSetL)) (sPutM i we wa wb) :=
  ⟨ps_asg he.pe (pg_sub (pe_ix (hK ▸ ix_seq) ho hj.pe hs0) hk.pe set_list h2) hs hw h1, fun ρ σ n B H E D DB S hw xs eo => by
    unfold sPutM at hw
    match hr : ρ[i]?, hw with
    | some (.mat tp l rows), hw =>
      obtain ⟨h1, A⟩ := S.mat.at_ i tp l rows hr
      refine he.snd ρ σ n B H _ _ _ S hw (xs.at S) fun v d n1 B1 H1 m1 pk1 r1 q1 => ?_
      refine ⟨.ref l, h1, hj.snd ρ σ n1 B1 H1 _ _ _ (S.step m1 pk1) q1 ((xs.at S).step m1) fun y dy n2 B2 H2 m2 pk2 r2 q2 => ?_⟩
      match dy, r2, q2 with
      | .py (.int j), r2, q2 =>
        cases dd_int r2
        simp only at q2
        match ej : ixN rows.length j, q2 with
        | some j', q2 =>
          simp only at q2
          match er : rows[j']?, q2 with
          | some r, q2 =>
            simp only at q2
            have m12 := m1.trans m2
            refine mat_ix (A.step m12) ej er ?_
            refine hk.snd ρ σ n2 B2 H2 _ _ _ (S.step m12 pk2) q2 ((xs.at S).step m12) fun z dz n3 B3 H3 m3 pk3 r3 q3 => ?_
            match d, dz, r1, r3, q3 with
            | .py d, .py (.int k), r1, r3, q3 =>
              cases dd_int r3
              simp only at q3
              match ek : ixN r.2.length k, q3 with
              | some k', q3 =>
                have m13 := m12.trans m3
                have S3 := S.step m13 pk3
                obtain ⟨us, g1, g2, g3, g4⟩ := (A.step m13).row r (List.mem_of_getElem? er)
                exact ⟨r.1, us, k, k', rfl, rfl, g1, by rw [g3.len]; exact ek, eo.nx _ _ n3 B3 _ m13.b (S3.putM hr er (by rw [List.length_set]; exact g2) (DdA.set (Dd.mono (m2.b.trans m3.b) r1) k' g3)) q3⟩⟩
/-- x[j][k] += e, numbers; k not less than nought -/
def sAugM (i : Nat) (wj wk w : WE) : WS := fun ρ n E DB => match ρ[i]? with
  | some (.mat tp l rows) => wj ρ n (E ρ) fun y n1 => (match y with
    | .py (.int j) => (match ixN rows.length j with
      | some j' => (match rows[j']? with
        | some r => wk ρ n1 (E ρ) fun z n2 => (match z with
          | .py (.int k) => 0 ≤ k ∧ (match r.2[k.toNat]? with
            | some (.int u) => w ρ n2 (E ρ) fun d n3 => (match d with
              | .py (.int d) => DB.nx (ρ.set i (.mat tp l (rows.set j' (r.1, r.2.set k.toNat (.int (u + d)))))) n3
              | _ => False)
            | _ => False)
          | _ => False)
        | none => False)
      | none => False)
    | _ => False)
  | _ => False
/-! ### told -/
def sTellM (i : Nat) (w : WS) : WS := fun ρ n E DB => match ρ[i]? with
  | some (.mat tp _ rows) => w (ρ.set i (.val (.py (if tp = true then .tuple (rows.map fun r => .list r.2) else .list (rows.map fun r => .list r.2))))) n E DB
  | _ => False
/-! ### made by a comprehension -/
def lcmGo (wg : WG) (wt : WT) (we : WN) : List D → Rws → Nat → List Sl → (Rws → Nat → Prop) → Prop
  | [], acc, n, _, Q => Q acc n
  | d :: ds, acc, n, ρ, Q => wg d ρ fun ρ2 => wt ρ2 n (fun _ _ => False) fun b n1 => if b = true then we ρ2 n1 (fun _ _ => False) fun es n2 => ∀ a, lcmGo wg wt we ds (acc ++ [(a, es)]) n2 ρ Q
    else lcmGo wg wt we ds acc n1 ρ Q
def wLcM (wi : WI) (wg : WG) (wt : WT) (we : WN) (vs : List Nat) : WV := fun ρ n E Q => wi ρ n E fun ds n1 => lcmGo wg wt we ds [] n1 (wipeB ρ vs) fun rows n' => ∀ D, Q (.mat false D rows) n'
end
end Fv
set_option maxRecDepth 100000
set_option maxHeartbeats 4000000
/-! Two items of rows written at once; a row appended to. -/
namespace Fv
open PySem PySem.Spec PyProof.Rows L2 Gb
open PySem.W (T4)
section
variable {m : Bool} {X : Cx} {G : Cg} {a b c d e f o : Expr} {es rest : List Expr} {ta tb tc td te to : TE} {wa wb wc wd we : WE} {pos p p2 p3 apos cpos tpos : Pos} {x : Str} {n : Nat}
def gPutM (i : Nat) (wj wk : WE) (d : D) (ρ : List Sl) (n : Nat) (E : XQ) (Q : List Sl → Nat → Prop) : Prop := match ρ[i]? with
  | some (.mat tp l rows) => wj ρ n E fun y n2 => (match y with
    | .py (.int j) => (match ixN rows.length j with
      | some j' => (match rows[j']? with
        | some r => wk ρ n2 E fun z n3 => (match d, z with
          | .py d, .py (.int k) => (match ixN r.2.length k with
            | some k' => Q (ρ.set i (.mat tp l (rows.set j' (r.1, r.2.set k' d)))) n3
            | none => False)
          | _, _ => False)
        | none => False)
      | none => False)
    | _ => False)
  | _ => False
/-- x[j1][k1], x[j2][k2] = e1, e2 -/
def sPutM2 (i : Nat) (w1 w2 wj1 wk1 wj2 wk2 : WE) : WS := fun ρ n E DB => w1 ρ n (E ρ) fun d1 n1 => w2 ρ n1 (E ρ) fun d2 n2 => match d1, d2 with
  | .py d1, .py d2 => gPutM i wj1 wk1 (.py d1) ρ n2 (E ρ) fun ρ' n3 => gPutM i wj2 wk2 (.py d2) ρ' n3 (E ρ') fun ρ'' n4 => DB.nx ρ'' n4
  | _, _ => False
/-- x[j].append(e) -/
def sAppM (i : Nat) (wj w : WE) : WS := fun ρ n E DB => match ρ[i]? with
  | some (.mat tp l rows) => wj ρ n (E ρ) fun y n1 => (match y with
    | .py (.int j) => (match ixN rows.length j with
      | some j' => (match rows[j']? with
        | some r => w ρ n1 (E ρ) fun d n2 => (match d with
          | .py d => r.2.length < 100000 ∧ DB.nx (ρ.set i (.mat tp l (rows.set j' (r.1, r.2 ++ [d])))) n2
          | _ => False)
        | none => False)
      | none => False)
    | _ => False)
  | _ => False
theorem bs_appM (i : Nat) (ho : PE X o (tVar i)) (hj : BE X G b tb wb) (ha : BE X G a ta wa) (hs0 : PlainIx b := by exact fun _ _ => rfl) (hK : X.K = G.K := by rfl) (h1 : attributeBase (.Subscript o b p) "append" X.env (eval (.Subscript o b p) X.env) = eval (.Subscript o b p) X.env := by rfl)
    (h2 : ((backTo cpos (starEach (a :: []) X.env)).all (fun x => !x.1) && (backToKw cpos (keywordEach [] X.env)).all (fun x => x.1.isSome) && decide ((a :: []).length + ([] : List Keyword).length + (if ([] : List Keyword).isEmpty then 0 else 1) < 30)) = true := by rfl)
    (h3 : (apos.endLine == cpos.line) = true := by rfl) (h4 : starEach (a :: []) X.env = (false, eval a X.env) :: starEach [] X.env := by rfl) (h5 : (backTo cpos (starEach [] X.env)).any (·.1) = false := by rfl)
    (hs : swapsWith (.Call (.Attribute (.Subscript o b p) "append" apos) [a] [] cpos) none pos.line X.env = pure false := by rfl) : BS m X G (.Expr (.Call (.Attribute (.Subscript o b p) "append" apos) [a] [] cpos) pos) (tDrop (tBM G.K "list" rAppend (tOp (rIx G.K) (tVar i) tb) (tCons ta tNil))) (sAppM i wb wa) :=
  ⟨ps_expr (pe_bmK PySem.F.plainAttrs_list PySem.F.slot_list_append PySem.F.type_list_append mt_append (pe_ix (hK ▸ ix_seq) ho hj.pe hs0) (pa_cons ha.pe pa_nil h4) hK h1 h2 h3 h4 h5) hs, fun ρ σ n B H E D DB S hw xs eo => by
    unfold sAppM at hw
    match hr : ρ[i]?, hw with
    | some (.mat tp l rows), hw =>
      obtain ⟨h1, A⟩ := S.mat.at_ i tp l rows hr
      refine ⟨.ref l, h1, hj.snd ρ σ n B H _ _ _ S hw (xs.at S) fun y dy n2 B2 H2 m2 pk2 r2 q2 => ?_⟩
      match dy, r2, q2 with
      | .py (.int j), r2, q2 =>
        cases dd_int r2
        simp only at q2
        match ej : ixN rows.length j, q2 with
        | some j', q2 =>
          simp only at q2
          match er : rows[j']?, q2 with
          | some r, q2 =>
            simp only at q2
            have A2 := A.step m2
            obtain ⟨us0, f1, _⟩ := A2.row r (List.mem_of_getElem? er)
            refine mat_ix A2 ej er ⟨tyV_l f1, ?_⟩
            refine ha.snd ρ σ n2 B2 H2 _ _ _ (S.step m2 pk2) q2 ((xs.at S).step m2) fun v d n3 B3 H3 m3 pk3 r3 q3 => ?_
            match d, r3, q3 with
            | .py d, r3, q3 =>
              simp only at q3
              have m13 := m2.trans m3
              obtain ⟨us, g1, g2, g3, g4⟩ := (A.step m13).row r (List.mem_of_getElem? er)
              have hlt : us.length < sizeLine := by
                rw [g3.len]
                exact Nat.lt_of_lt_of_le q3.1 (by decide)
              exact ⟨r.1, us, v, rfl, rfl, g1, hlt, eo.nx _ _ n3 B3 _ m13.b ((S.step m13 pk3).putM hr er (by rw [List.length_append]; exact hlt) (g3.snoc r3)) q3.2⟩⟩
end
end Fv
set_option maxRecDepth 100000
set_option maxHeartbeats 4000000
/-! A tuple of two new lists of one's own. -/
namespace Fv
open PySem PySem.Spec PyProof.Rows L2 Gb
section
variable {m : Bool} {X : Cx} {G : Cg} {a b : Expr} {ta tb : TE} {pos : Pos} {kt : Nat} {wn1 wn2 : WN}
def wTup2N (wn1 wn2 : WN) : WV := fun ρ n E Q => wn1 ρ n E fun ds1 n1 => wn2 ρ n1 E fun ds2 n2 => ∀ l a b, Q (.mat true l [(a, ds1), (b, ds2)]) n2
theorem bv_tup2N (ha : BN X G a ta wn1) (hb : BN X G b tb wn2) (he : starEach (a :: [b]) X.env = (false, eval a X.env) :: starEach [b] X.env := by rfl) (he' : starEach (b :: []) X.env = (false, eval b X.env) :: starEach [] X.env := by rfl) :
    BV X G (.Tuple [a, b] kt pos) (tTup (tCons ta (tCons tb tNil))) (wTup2N wn1 wn2) := by
  refine ⟨pe_tup (pa_cons ha.pe (pa_cons hb.pe pa_nil he') he), fun ρ σ n B H E Qd Q S hw xw k => ?_⟩
  refine ha.snd ρ σ n B H E _ _ S hw xw fun l1 us1 ds1 n1 B1 H1 m1 pk1 hn1 F1 hl1 hz1 hA1 q1 => ?_
  have S1 := S.step m1 pk1
  refine hb.snd ρ σ n1 B1 H1 E _ _ S1 q1 (xw.step m1) fun l2 us2 ds2 n2 B2 H2 m2 pk2 hn2 F2 hl2 hz2 hA2 q2 => ⟨Nat.le_trans (show 2 ≤ 100000 by decide) (line5 (Nat.le_refl _)), fun z hz => ?_⟩
  have S2 := S1.step m2 pk2
  have Fz := free_new S2 hz
  have m12 := m1.trans m2
  have F1' := F1.mv m2 hl1
  have hl1' := m2.kp.at_ F1 hl1
  have z1 : z ≠ l1 := fun e => by
    rw [e, hl1'] at hz
    cases hz
  have z2 : z ≠ l2 := fun e => by
    rw [e, hl2] at hz
    cases hz
  have n12 : l1 ≠ l2 := fun e => by
    rw [← e, hl1] at hn2
    cases hn2
  refine k (.ref z) (.mat true z [(l1, ds1), (l2, ds2)]) n2 B2 _ (m12.trans (Mv.newOwn m2.s hz)) (pk2.own Fz (.none hz)) ⟨rfl, ⟨?_, Fz, ?_, ?_, fun r hr => ?_⟩, fun a ha => ?_⟩ (q2 z l1 l2)
  · rw [upd_same]
    rfl
  · refine List.nodup_cons.mpr ⟨fun h => ?_, List.nodup_cons.mpr ⟨fun h => ?_, List.nodup_cons.mpr ⟨List.not_mem_nil, List.nodup_nil⟩⟩⟩
    · simp only [List.map_cons, List.map_nil, List.mem_cons, List.not_mem_nil, or_false] at h
      rcases h with h | h
      · exact z1 h
      · exact z2 h
    · exact n12 (List.mem_singleton.mp h)
  · exact Nat.le_trans (show 2 ≤ 100000 by decide) (line5 (Nat.le_refl _))
  · simp only [List.mem_cons, List.not_mem_nil, or_false] at hr
    rcases hr with rfl | rfl
    · exact ⟨us1, by rw [upd_ne z1.symm]; exact hl1', hz1, hA1.mono m2.b, F1'⟩
    · exact ⟨us2, by rw [upd_ne z2.symm]; exact hl2, hz2, hA2, F2⟩
  · simp only [List.map_cons, List.map_nil, List.mem_cons, List.not_mem_nil, or_false] at ha
    rcases ha with rfl | rfl | rfl
    · exact up_none m12 hz
    · exact hn1
    · exact up_none m1 hn2
/-! ### a list taken apart -/
def wgUnl (n : Nat) (ws : WGs) : WG := fun d ρ Q => match d with
  | .py (.list ds) => ds.length = n ∧ ws ds ρ Q
  | _ => False
theorem pg_unlK {es : List Expr} {k : Nat} {t : TGs} {n : Nat} {Kx : PySem.W.Frag} (hc : X.calm = true) (h : PGs X es t) (hK : X.K = Kx := by rfl) (hn : (assignEach es X.env).length = n := by rfl) (hst : (assignEach es X.env).findIdx? (·.1) = none := by rfl) : PG X (.Tuple es k pos) (gUnl Kx n t) := by
  subst hK
  exact pg_unl hc h hn hst
theorem bg_unl {es : List Expr} {m kk : Nat} {gs : TGs} {ws : WGs} {is : List Nat} (h : BGs X G es gs ws is) (hp : PG X (.Tuple es kk pos) (gUnl G.K m gs)) : BG X G (.Tuple es kk pos) (gUnl G.K m gs) (wgUnl m ws) is :=
  ⟨hp, fun ρ σ n B H v d Qd Q S r hw k => by
    match d, r, hw with
    | .py (.list ds), r, hw =>
      obtain ⟨l, vs, rfl, h1, h2, _⟩ := dd_list r
      exact ⟨l, vs, rfl, SqL.of (S.sub _ _ h1), by rw [h2.len]; exact hw.1, h.snd ρ σ n B H vs ds _ _ S h2 hw.2 k⟩⟩
end
end Fv
set_option maxRecDepth 100000
set_option maxHeartbeats 4000000
/-! A law's end where what stands at the modules' dict is known not to be the law's: so dicts can be shown. -/
namespace Fv
open PySem PySem.Spec PyProof.Rows L2 Gb
section
variable {P : Program} {w : World} {K : PySem.W.Frag} {mg mb : Str → Option Value} {s : Shared} {a fa : Addr} {cs : List (Addr × Addr)} {vs : List Value} {ns : List Int} {H : Hp}
/-- what is tracked at the start: the script, known; the tables, empty -/
structure StartS (K : PySem.W.Frag) (H : Hp) (a : Addr) (cs : List (Addr × Addr)) (ob : Obj) (ns : List Int) (o1 : Obj) : Prop where
  tab : ∀ p ∈ cs, H p.2 = some (.tbl #[])
  at_ : ∀ b u, H b = some u → (b = a ∧ u = .frz ob (.lst (ns.map V.int)) ∧ K.lookup a = none) ∨ (b ∈ cs.map (·.2) ∧ u = .tbl #[]) ∨ (b = sysModules ∧ u = .frz o1 (.own 0))
  sm : ∃ o u, H sysModules = some (.frz o u)
  k1 : K.lookup sysModules = none
  sq : SqL K H a (ns.map V.int)
end
/-- the head's hook that also says that something stands at the modules' dict -/
def hookS (n : Nat) (fa : List He.Fa) (fn : List He.DefD) (ts : List He.Tab) (tf : List He.Defn) (ex : PySem.W.Frag → Bool) : PySem.W.Hook where
  α := He.AlX × Bool
  obs := fun s => (He.obsX n fa fn ts tf ex s.heap.get?, (s.heap.get? sysModules).isSome)
  val := fun w => (He.valX fn ts w, true)
  says := fun w h => (∃ K : PySem.W.Frag, K.In h ∧ He.SaysX fa fn ts tf ex w h K) ∧ ∃ o, h.get? sysModules = some o
  of := fun w s e => ⟨(He.hookX n fa fn ts tf ex).of w s (congrArg (fun z : He.AlX × Bool => z.1) e), Option.isSome_iff_exists.mp (congrArg (fun z : He.AlX × Bool => z.2) e)⟩
  keeps := fun w h h' ⟨x, o, e⟩ k => ⟨(He.hookX n fa fn ts tf ex).keeps w h h' x k, o, k _ _ e⟩
def obS (n : Nat) (fa : List He.Fa) (fn : List He.DefD) (ts : List He.Tab) (tf : List He.Defn) (ex : PySem.W.Frag → Bool) (g : Addr → Option Obj) : He.AlX × Bool := (He.obsX n fa fn ts tf ex g, (g sysModules).isSome)
end Fv
set_option maxRecDepth 100000
set_option maxHeartbeats 4000000
/-! dict(pairs); what is in a dict. -/
namespace Fv
open PySem PySem.Spec PyProof.Rows L2 Gb
open PySem.W (T4)
def pairD (p : Key × PyData) : PyData := .tuple [keyP p.1, p.2]
section
variable {X : Cx} {G : Cg} {a b : Expr} {ta tb : TE} {wa wb : WE} {wl : WL} {wk : WK} {pos p : Pos}
def wDictP (wl : WL) : WV := fun ρ n E Q => wl ρ n E fun k ds n1 => k = false ∧ ∃ es : List (Key × PyData), ds = es.map pairD ∧ Q (.dow (mergeD [] es)) n1
def rDictP (K : PySem.W.Frag) : List V → Hp → VK → Prop := fun xs H Q => ∃ (a : Addr) (ps : List Addr) (kvs : List (Key × V)), xs = [.ref a] ∧ SqL K H a (ps.map V.ref) ∧ Paired (fun p kv => SqT K H p [kV kv.1, kv.2]) ps kvs ∧ ∀ p, H p = none → Q (.ref p) (upd H p (.dK (mergeK [] kvs)))
end
end Fv
namespace Fv
open PySem PySem.Spec PyProof.Rows L2 Gb
end Fv
set_option maxRecDepth 100000
set_option maxHeartbeats 4000000
/-! repr of data with dicts. -/
namespace Fv
open PySem PySem.Spec PyProof.Rows L2 Gb
theorem vals_kv : ∀ {kvs : List (Key × V)} {vs : List (Key × Value)}, KV kvs vs → Vals (kvs.map (·.2)) (vs.map (·.2))
  | _, _, .nil => .nil
  | _, _, .cons h t => .cons h.2 (vals_kv t)
theorem keys_kv : ∀ {kvs : List (Key × V)} {vs : List (Key × Value)}, KV kvs vs → vs.map (·.1) = kvs.map (·.1)
  | _, _, .nil => rfl
  | _, _, .cons h t => by
    simp only [List.map_cons, h.1, keys_kv t]
theorem ddk_keys {K : PySem.W.Frag} {H : Hp} : ∀ {kvs : List (Key × V)} {ks : List (PyData × PyData)}, DdK K H kvs ks → ks.map (·.1) = kvs.map fun p => keyP p.1
  | _, _, .nil => rfl
  | _, _, .cons h t => by simp only [List.map_cons, ddk_keys t]
theorem reads_key {h : Heap} {k : Key} {v : Value} (e : keyIs k v = true) : Reads h v (keyP k) [] := by
  rcases keyIs_shape e with ⟨i, t, rfl, rfl⟩ | ⟨x, t, rfl, rfl⟩
  · exact .int i t
  · exact .str x t
theorem reads_keys {P : Program} {w : World} {h : Heap} : ∀ {es : List DictEntry} {vs : List (Key × Value)}, Pairs (mixKind P w) es vs → ∃ as, ReadsAll h (es.map (·.key)) (vs.map fun p => keyP p.1) as ∧ sysModules ∉ as
  | _, _, .nil => ⟨_, .nil, by simp⟩
  | _, _, .cons h1 h2 t => by
    obtain ⟨as, q, n⟩ := reads_keys t
    exact ⟨_, .cons (reads_key h1) q, by simpa using n⟩
theorem pairs_vals {P : Program} {w : World} : ∀ {es : List DictEntry} {vs : List (Key × Value)}, Pairs (mixKind P w) es vs → es.map (·.val) = vs.map (·.2)
  | _, _, .nil => rfl
  | _, _, .cons h1 h2 t => by simp only [List.map_cons, h2, pairs_vals t]
theorem sys_ne {H : Hp} {a : Addr} {u : HO} (hs : ∃ o u, H sysModules = some (.frz o u)) (h : H a = some u) (hu : ∀ o v, u ≠ .frz o v) : sysModules ≠ a := fun e => by
  obtain ⟨o, v, q⟩ := hs
  rw [e, h] at q
  exact hu o v (Option.some.inj q)
section
variable {X : Cx} {pins : List (Addr × Obj)} {σ : L2.St} {H : Hp} {s : Shared}
mutual
theorem Dd.readsS (I : Inv X pins σ H s) (hs : ∃ o u, H sysModules = some (.frz o u)) : ∀ {v : V} {d : PyData} {u : Value}, Dd X.K H v d → RelV v u → ∃ as, Reads s.heap u d as ∧ sysModules ∉ as
  | _, _, _, .non, r => by
    cases r
    exact ⟨_, .none, by simp⟩
  | _, _, _, .bl b, r => by
    cases r
    exact ⟨_, .bool b, by simp⟩
  | _, _, _, .int i, r => by
    obtain ⟨t, rfl⟩ := r
    exact ⟨_, .int i t, by simp⟩
  | _, _, _, .str x, r => by
    obtain ⟨t, rfl⟩ := r
    exact ⟨_, .str x t, by simp⟩
  | _, _, _, .lst h a _, r => by
    cases r
    obtain ⟨its, rv, ⟨o, n, ho, hc, _, hd⟩, _⟩ := I.list (SqL.of h)
    obtain ⟨as, q, nn⟩ := DdA.readsS I hs a (us := its) rv
    exact ⟨_, Reads.list ho hc hd q, by
      rw [List.mem_cons, not_or]
      exact ⟨sys_ne hs h (fun _ _ => nofun), nn⟩⟩
  | _, _, _, .tup h a _, r => by
    cases r
    obtain ⟨its, rv, ⟨o, ho, hc, n, hd⟩, _⟩ := I.tuple h
    obtain ⟨as, q, nn⟩ := DdA.readsS I hs a (us := its) rv
    exact ⟨_, Reads.tuple ho hc hd q, nn⟩
  | _, _, _, .dic (kvs := kvs) (ks := ks) h a, r => by
    cases r
    obtain ⟨_, _, vs, hkv, o, es, ep, ho, hex, hd, _, hp, _⟩ := I.hok _ _ h
    obtain ⟨as, q1, n1⟩ := reads_keys (h := s.heap) hp
    obtain ⟨bs, q2, n2⟩ := DdK.readsS I hs a (vals_kv hkv)
    have e1 : ks.map (·.1) = vs.map fun p => keyP p.1 := by
      rw [ddk_keys a]
      have e := keys_kv hkv
      calc kvs.map (fun p => keyP p.1) = (kvs.map (·.1)).map keyP := by rw [List.map_map]; rfl
        _ = (vs.map (·.1)).map keyP := by rw [e]
        _ = _ := by rw [List.map_map]; rfl
    refine ⟨_, Reads.dict ho hex.1 hd (e1 ▸ q1) (by rw [pairs_vals hp]; exact q2), ?_⟩
    rw [List.cons_append, List.mem_cons, List.mem_append, not_or, not_or]
    exact ⟨sys_ne hs h (fun _ _ => nofun), n1, n2⟩
theorem DdA.readsS (I : Inv X pins σ H s) (hs : ∃ o u, H sysModules = some (.frz o u)) : ∀ {vs : List V} {ds : List PyData} {us : List Value}, DdA X.K H vs ds → Vals vs us → ∃ as, ReadsAll s.heap us ds as ∧ sysModules ∉ as
  | _, _, _, .nil, r => by
    cases r
    exact ⟨_, .nil, by simp⟩
  | _, _, _, .cons h1 h2, r => by
    cases r with
    | cons r1 r2 =>
      obtain ⟨as, q1, n1⟩ := Dd.readsS I hs h1 r1
      obtain ⟨bs, q2, n2⟩ := DdA.readsS I hs h2 r2
      exact ⟨_, .cons q1 q2, by
        rw [List.mem_append, not_or]
        exact ⟨n1, n2⟩⟩
theorem DdK.readsS (I : Inv X pins σ H s) (hs : ∃ o u, H sysModules = some (.frz o u)) : ∀ {kvs : List (Key × V)} {ks : List (PyData × PyData)} {us : List Value}, DdK X.K H kvs ks → Vals (kvs.map (·.2)) us → ∃ as, ReadsAll s.heap us (ks.map (·.2)) as ∧ sysModules ∉ as
  | _, _, _, .nil, r => by
    cases r
    exact ⟨_, .nil, by simp⟩
  | _, _, _, .cons h1 h2, r => by
    cases r with
    | cons r1 r2 =>
      obtain ⟨as, q1, n1⟩ := Dd.readsS I hs h1 r1
      obtain ⟨bs, q2, n2⟩ := DdK.readsS I hs h2 r2
      exact ⟨_, .cons q1 q2, by
        rw [List.mem_append, not_or]
        exact ⟨n1, n2⟩⟩
end
end
/-! ### repr -/
def rReprD (K : PySem.W.Frag) : List V → Hp → VK → Prop := fun vs H Q => ∃ v d, vs = [v] ∧ Dd K H v d ∧ (∃ o u, H sysModules = some (.frz o u)) ∧ d.showable = true ∧ d.depth ≤ 40 ∧ d.shown.length ≤ sizeLine ∧ Q (.str d.shown) H
/-- what repr can show, with dicts -/
structure ShowsD (d : PyData) : Prop where
  s : d.showable = true
  dp : d.depth ≤ 40
  l : d.shown.length ≤ sizeLine
def wReprD (wa : WE) : WE := fun ρ n E Q => wa ρ n E fun d n' => match d with
  | .py d => ShowsD d ∧ Q (.py (.str d.shown)) n'
  | _ => False
section
variable {X : Cx} {G : Cg} {a : Expr} {ta : TE} {wa : WE} {p pos : Pos}
end
end Fv
set_option maxRecDepth 100000
set_option maxHeartbeats 4000000
/-! A list of anything (dicts too) in a list of lists of ints. -/
namespace Fv
section
open PySem PySem.SeqAt PySem.MeetsSeq
open AutoSeq1 (wpAny_loadPart')
end
section
open PySem PySem.Spec PyProof.Rows L2 Gb
section
variable {X : Cx} {pins : List (Addr × Obj)} {σ : L2.St} {H : Hp} {s : Shared}
mutual
theorem Dd.readsZ (I : Inv X pins σ H s) : ∀ {v : V} {d : PyData} {u : Value}, Dd X.K H v d → RelV v u → ∃ as, Reads s.heap u d as
  | _, _, _, .non, r => by
    cases r
    exact ⟨_, .none⟩
  | _, _, _, .bl b, r => by
    cases r
    exact ⟨_, .bool b⟩
  | _, _, _, .int i, r => by
    obtain ⟨t, rfl⟩ := r
    exact ⟨_, .int i t⟩
  | _, _, _, .str x, r => by
    obtain ⟨t, rfl⟩ := r
    exact ⟨_, .str x t⟩
  | _, _, _, .lst h a _, r => by
    cases r
    obtain ⟨its, rv, ⟨o, n, ho, hc, _, hd⟩, _⟩ := I.list (SqL.of h)
    obtain ⟨as, q⟩ := DdA.readsZ I a (us := its) rv
    exact ⟨_, Reads.list ho hc hd q⟩
  | _, _, _, .tup h a _, r => by
    cases r
    obtain ⟨its, rv, ⟨o, ho, hc, n, hd⟩, _⟩ := I.tuple h
    obtain ⟨as, q⟩ := DdA.readsZ I a (us := its) rv
    exact ⟨_, Reads.tuple ho hc hd q⟩
  | _, _, _, .dic (kvs := kvs) (ks := ks) h a, r => by
    cases r
    obtain ⟨_, _, vs, hkv, o, es, ep, ho, hex, hd, _, hp, _⟩ := I.hok _ _ h
    obtain ⟨as, q1, _⟩ := reads_keys (h := s.heap) hp
    obtain ⟨bs, q2⟩ := DdK.readsZ I a (vals_kv hkv)
    have e1 : ks.map (·.1) = vs.map fun p => keyP p.1 := by
      rw [ddk_keys a]
      have e := keys_kv hkv
      calc kvs.map (fun p => keyP p.1) = (kvs.map (·.1)).map keyP := by rw [List.map_map]; rfl
        _ = (vs.map (·.1)).map keyP := by rw [e]
        _ = _ := by rw [List.map_map]; rfl
    exact ⟨_, Reads.dict ho hex.1 hd (e1 ▸ q1) (by rw [pairs_vals hp]; exact q2)⟩
theorem DdA.readsZ (I : Inv X pins σ H s) : ∀ {vs : List V} {ds : List PyData} {us : List Value}, DdA X.K H vs ds → Vals vs us → ∃ as, ReadsAll s.heap us ds as
  | _, _, _, .nil, r => by
    cases r
    exact ⟨_, .nil⟩
  | _, _, _, .cons h1 h2, r => by
    cases r with
    | cons r1 r2 =>
      obtain ⟨as, q1⟩ := Dd.readsZ I h1 r1
      obtain ⟨bs, q2⟩ := DdA.readsZ I h2 r2
      exact ⟨_, .cons q1 q2⟩
theorem DdK.readsZ (I : Inv X pins σ H s) : ∀ {kvs : List (Key × V)} {ks : List (PyData × PyData)} {us : List Value}, DdK X.K H kvs ks → Vals (kvs.map (·.2)) us → ∃ as, ReadsAll s.heap us (ks.map (·.2)) as
  | _, _, _, .nil, r => by
    cases r
    exact ⟨_, .nil⟩
  | _, _, _, .cons h1 h2, r => by
    cases r with
    | cons r1 r2 =>
      obtain ⟨as, q1⟩ := Dd.readsZ I h1 r1
      obtain ⟨bs, q2⟩ := DdK.readsZ I h2 r2
      exact ⟨_, .cons q1 q2⟩
end
end
/-- a list of anything in a list of lists of ints -/
def rInZ (K : PySem.W.Frag) : R2 := fun x y H Q => ∃ (xs : List PyData) (Ls : List (List Int)), Dd K H x (.list xs) ∧ Dd K H y (.list (Ls.map fun L => .list (L.map PyData.int))) ∧ Q (.bl (Ls.any fun L => PyData.eqvAll (L.map PyData.int) xs)) H
def bInZ : BC := fun x y Q => match x, y with
  | .py (.list xs), .py (.list ys) => ∃ Ls : List (List Int), ys = Ls.map (fun L => .list (L.map PyData.int)) ∧ Q (Ls.any fun L => PyData.eqvAll (L.map PyData.int) xs)
  | _, _ => False
end
end Fv
set_option maxRecDepth 100000
set_option maxHeartbeats 4000000
/-! Lists of one's own in a tuple, or None: looked at; a list beside the empty one (==). -/
namespace Fv
open PySem PySem.Spec PyProof.Rows L2 Gb
/-- a statement with what is known behind it, whatever way it goes -/
def sCut (w v : WS) : WS := fun ρ n E DB => ∃ P : List Sl → Nat → Prop, w ρ n E { DB with nx := P } ∧ ∀ ρ' n', P ρ' n' → v ρ' n' E DB
section
variable {X : Cx} {G : Cg} {a b : Expr} {ta tb : TE} {wl : WL} {wn wn2 : WN} {pos p : Pos}
def wMatV (i : Nat) : WE := fun ρ n _ Q => match ρ[i]? with
  | some (.mat tp _ rows) => Q (.py (if tp = true then .tuple (rows.map fun r => .list r.2) else .list (rows.map fun r => .list r.2))) n
  | some (.val d) => Q d n
  | _ => False
theorem bf_matV (i : Nat) (h : PE X a (tVar i)) : BF X G a (tVar i) (wMatV i) := ⟨h, fun ρ σ n B H E Qd Q S hw xw k => by
  unfold wMatV at hw
  match hr : ρ[i]?, hw with
  | some (.mat tp l rows), hw =>
    obtain ⟨h1, A⟩ := S.mat.at_ i tp l rows hr
    exact ⟨.ref l, h1, k _ _ n B H _ (Mv.refl S.sub) S.pk (A.lk S.sub S.pk) (A.dd A.sameB tellM_l fun r hr => tellM_r (List.mem_map.mpr ⟨r, hr, rfl⟩)) hw⟩
  | some (.val d), hw =>
    obtain ⟨v, h1, h2⟩ := S.val i d hr
    exact ⟨v, h1, k v d n B H B (Mv.refl S.sub) S.pk (.of S.sub S.pk) h2 hw⟩⟩
def rEqNil (K : PySem.W.Frag) : R2 := fun x y H Q => ∃ p q xs, x = .ref p ∧ y = .ref q ∧ SqL K H p xs ∧ SqL K H q [] ∧ Q (.bl xs.isEmpty) H
theorem op_eqNil (hu : X.A.units + 64 < cLine) : OpR X (compareOp .Eq) (rEqNil X.K) := by
  intro pins s σ H x y v u Q I rx ry h
  obtain ⟨p, q, xs, rfl, rfl, hp, hq, k⟩ := h
  cases xs with
  | nil =>
    refine op_eqD hu pins s σ H (.ref p) (.ref q) v u Q I rx ry ⟨.list [], .list [], .lst hp .nil, .lst hq .nil, by decide, by decide, ?_⟩
    rw [show PyData.eqv (.list []) (.list []) = true from by simp [PyData.eqv, PyData.eqvAll]]
    exact k
  | cons z xs =>
    cases rx
    cases ry
    obtain ⟨its, rv, h1, _⟩ := I.list hp
    obtain ⟨its2, rv2, h2, _⟩ := I.list hq
    have l1 := rv.length
    have l2 := rv2.length
    refine SeqAt.RcAt.lists_lengths (A := X.A) h1.isList h2.isList ?_ (by omega) X.prog X.w _ _ ⟨.bl false, H, I, rfl, k⟩
    rw [List.size_toArray, List.size_toArray, ← l1, ← l2]
    rfl
def wEqNil (wl : WL) (wn : WN) : WE := fun ρ n E Q => wl ρ n E fun k ds n1 => k = false ∧ wn ρ n1 E fun es n2 => es = [] ∧ Q (.py (.bool ds.isEmpty)) n2
theorem be_eqNil (hu : X.A.units + 64 < cLine) (ha : BL X G a ta wl) (hb : BN X G b tb wn) (hK : X.K = G.K := by rfl) : BE X G (.Compare a [.Eq] [b] pos) (tOp (rEqNil G.K) ta tb) (wEqNil wl wn) :=
  ⟨pe_cmpR (hK ▸ op_eqNil hu) ha.pe hb.pe (nomark _), fun ρ σ n B H E Qd Q S hw xw k => ha.snd ρ σ n B H E _ _ S hw xw fun l vs kk ds n1 B1 H1 m1 pk1 hs1 hz hA q1 => by
    obtain ⟨rfl, q1⟩ := q1
    refine hb.snd ρ σ n1 B1 H1 E _ _ (S.step m1 pk1) q1 (xw.step m1) fun l2 us es n2 B2 H2 m2 pk2 hl2 fr2 hu2 hz2 hA2 q2 => ?_
    obtain ⟨rfl, q2⟩ := q2
    cases hA2
    have hs2 : H2 l = some (.lst vs) := by
      have := hs1.step m2 pk1
      exact this
    refine ⟨l, l2, vs, rfl, rfl, SqL.of hs2, SqL.of hu2, ?_⟩
    rw [hA.empty]
    exact k _ _ n2 B2 H2 (m1.trans m2) pk2 r_bl q2⟩
theorem bt_eqNil (hu : X.A.units + 64 < cLine) (ha : BL X G a ta wl) (hb : BN X G b tb wn) (hK : X.K = G.K := by rfl) : BT X G (.Compare a [.Eq] [b] pos) (tTest (tOp (rEqNil G.K) ta tb)) (wOfT (wEqNil wl wn)) :=
  bt_cmp (be_eqNil hu ha hb hK) (pt_cmpR (hK ▸ op_eqNil hu) ha.pe hb.pe (nomark _))
end
end Fv
set_option maxRecDepth 100000
set_option maxHeartbeats 4000000
/-! A while by what holds ahead of each turn; one's own list looked at as a value for a while. -/
namespace Fv
open PySem PySem.Spec PyProof.Rows L2 Gb
open PySem.W (T4)
/-- neither a list nor what holds one -/
def flatD : D → Prop
  | .py .none => True
  | .py (.bool _) => True
  | .py (.int _) => True
  | .py (.str _) => True
  | _ => False
def wLook (i : Nat) (w : WE) : WE := fun ρ n _ Q => match ρ[i]? with
  | some (.own ds) => w (ρ.set i (.val (.py (.list ds)))) n (fun _ _ => False) fun d n' => flatD d ∧ Q d n'
  | _ => False
section
variable {X : Cx} {G : Cg} {e : Expr} {t : TE} {w : WE}
theorem mv_untell {pn : Pn} {B H B' H' : Hp} {l : Addr} {o : HO} (hB : B l = none) (m : Mv pn (upd B l o) H B' H') : Mv pn B H (Gb.del B' l) H' := by
  refine ⟨m.kp, fun x u hx => ?_, fun x u hx => m.s _ _ (Gb.del_le _ _ hx), fun x u z hx hz nt => ?_, fun x ps hx => ?_, m.u⟩
  · have ne : x ≠ l := fun e => by rw [e, hB] at hx; cases hx
    rw [Gb.del_ne ne]
    exact m.b _ _ (by rw [upd_ne ne]; exact hx)
  · have ne : x ≠ l := fun e => by rw [e, Gb.del_same] at hx; cases hx
    have := m.f x u z (Gb.del_le _ _ hx) hz nt
    rw [upd_ne ne] at this
    exact this
  · have ne : x ≠ l := fun e => by rw [e, Gb.del_same] at hx; cases hx
    have := m.t x ps (Gb.del_le _ _ hx)
    rw [upd_ne ne] at this
    exact this
theorem pk_untell {pn : Pn} {n : Nat} {B H : Hp} {l : Addr} (h : Pk pn n B H) (hc : ∀ p c T, pn = some (p, c, T) → l ≠ c) : Pk pn n (Gb.del B l) H := by
  cases pn with
  | none => trivial
  | some pc =>
    obtain ⟨p, c, T⟩ := pc
    obtain ⟨h1, hb, hT, hTb, hTu, ys, hcc⟩ := h
    refine ⟨h1, ?_, hT, fun b ps q => hTb b ps (Gb.del_le _ _ q), hTu, ys, ?_⟩
    · by_cases e : p = l
      · rw [e, Gb.del_same]
      · rw [Gb.del_ne e]
        exact hb
    · rw [Gb.del_ne (Ne.symm (hc p c T rfl))]
      exact hcc
end
end Fv
set_option maxRecDepth 100000
set_option maxHeartbeats 4000000
/-! One's own list looked at while something new is made of it: a list or a dict with nothing in it that holds a list. -/
namespace Fv
open PySem PySem.Spec PyProof.Rows L2 Gb
open PySem.W (T4)
theorem St.look {G : Cg} {n : Nat} {B H : Hp} {ρ : List Sl} {σ : L2.St} {i : Nat} {ds : List PyData} {l : Addr} {vs : List V} (S : St G n B H ρ σ) (hr : ρ[i]? = some (.own ds)) (h1 : σ[i]? = some (some (.ref l))) (h2 : H l = some (.lst vs)) (h3 : vs.length ≤ sizeLine) (h4 : DdA G.K B vs ds) (h5 : Free G B l) : St G n (upd B l (.lst vs)) H (ρ.set i (.val (.py (.list ds)))) σ := by
  have sm : Same B (upd B l (.lst vs)) := same_new h5.1
  have hi : i < ρ.length := (List.getElem?_eq_some_iff.mp hr).1
  refine ⟨S.mv.tell h5.1 h2 h5.2.1, S.pk.tell h2 (fun p c T e => (h5.2.2 p c T e).1), by rw [List.length_set]; exact S.len, fun j d h => ?_, fun j es h => ?_, fun j ks h => ?_, fun j k a ne hj hk => ?_, (S.mat.tellB (S.mat.own i l ⟨_, hr, rfl⟩ h1) h5.1).sub (fun j t l' rows h => ⟨(mat_at (fun _ _ _ => by intro z; cases z) h).2, rfl⟩) (fun j ⟨x, hx, ox⟩ => by
      rw [List.getElem?_set] at hx
      split at hx
      · cases hx
        cases ox
      · exact ⟨⟨x, hx, ox⟩, rfl⟩)⟩
  · rw [List.getElem?_set] at h
    split at h
    · rename_i e
      cases h
      subst e
      exact ⟨.ref l, h1, r_lst upd_same (h4.mono sm) h3⟩
    · obtain ⟨v, g1, g2⟩ := S.val j d h
      exact ⟨v, g1, g2.mono sm⟩
  · rw [List.getElem?_set] at h
    split at h
    · cases h
    · rename_i ne
      obtain ⟨a, us, g1, g2, g3, g4, g5⟩ := S.own j es h
      have nl : a ≠ l := fun e => S.dis j i a (Ne.symm ne) ⟨_, h, rfl⟩ ⟨_, hr, rfl⟩ g1 (by rw [h1, e])
      exact ⟨a, us, g1, g2, g3, g4.mono sm, by rw [upd_ne nl]; exact g5.1, g5.2⟩
  · rw [List.getElem?_set] at h
    split at h
    · cases h
    · rename_i ne
      obtain ⟨a, us, g1, g2, g4, g5⟩ := S.dow j ks h
      have nl : a ≠ l := fun e => S.dis j i a (Ne.symm ne) ⟨_, h, rfl⟩ ⟨_, hr, rfl⟩ g1 (by rw [h1, e])
      exact ⟨a, us, g1, g2, g4.mono sm, by rw [upd_ne nl]; exact g5.1, g5.2⟩
  · have own : ∀ j, ownAt (ρ.set i (.val (.py (.list ds)))) j → ownAt ρ j := fun j ⟨x, hx, ox⟩ => by
      rw [List.getElem?_set] at hx
      split at hx
      · cases hx
        cases ox
      · exact ⟨x, hx, ox⟩
    exact S.dis j k a ne (own j hj) (own k hk)
def flatS : Sl → Prop
  | .val d => flatD d
  | .own ds => ∀ d ∈ ds, flatD (.py d)
  | .dow ks => ∀ p ∈ ks, flatD (.py p.2)
  | _ => False
def wLookV (i : Nat) (w : WV) : WV := fun ρ n _ Q => match ρ[i]? with
  | some (.own ds) => w (ρ.set i (.val (.py (.list ds)))) n (fun _ _ => False) fun s n' => flatS s ∧ Q s n'
  | _ => False
end Fv
set_option maxRecDepth 100000
set_option maxHeartbeats 4000000
/-! Lists of lists of one's own, made list by list and looked at. -/
namespace Fv
open PySem PySem.Spec PyProof.Rows L2 Gb
section
variable {m : Bool} {X : Cx} {G : Cg} {a b e o : Expr} {ta t : TE} {wn : WN} {w : WE} {p pos apos cpos : Pos}
/-- [] -/
def wMatNil (wn : WN) : WV := fun ρ n E Q => wn ρ n E fun ds n' => ds = [] ∧ ∀ l, Q (.mat false l []) n'
/-- looked at while something flat is made -/
def wLookM (i : Nat) (w : WE) : WE := fun ρ n _ Q => match ρ[i]? with
  | some (.mat tp _ rows) => w (ρ.set i (.val (.py (if tp = true then .tuple (rows.map fun r => .list r.2) else .list (rows.map fun r => .list r.2))))) n (fun _ _ => False) fun d n' => flatD d ∧ Q d n'
  | _ => False
/-- x.append(e), e a new list of one's own -/
def sAppRow (i : Nat) (wn : WN) : WS := fun ρ n E DB => match ρ[i]? with
  | some (.mat false l rows) => wn ρ n (E ρ) fun ds n1 => rows.length < 100000 ∧ ∀ a, DB.nx (ρ.set i (.mat false l (rows ++ [(a, ds)]))) n1
  | _ => False
end
end Fv
set_option maxRecDepth 100000
set_option maxHeartbeats 4000000
/-! list(d.values()), by value. -/
namespace Fv
open PySem PySem.Spec PyProof.Rows L2 Gb
section
variable {X : Cx} {o : Expr} {to : TE} {pos apos cpos p : Pos}
/-- the view of a dict's values: made, tracked -/
def tView (to : TE) : TE := fun σ H Q => to σ H fun x H1 => ∃ d kvs, x = .ref d ∧ H1 d = some (.dK kvs) ∧ ∀ v, H1 v = none → Q (.ref v) (upd H1 v (viewO "dict_values" v d))
def rListV : List V → Hp → VK → Prop := fun xs H Q => ∃ v d kvs, xs = [.ref v] ∧ H v = some (viewO "dict_values" v d) ∧ H d = some (.dK kvs) ∧ ∀ l, H l = none → Q (.ref l) (upd H l (.lst (kvs.map (·.2))))
end
section
variable {X : Cx} {G : Cg} {a : Expr} {ta : TE} {wa : WE} {p pos apos cpos : Pos}
/-- list(d.values()) -/
def wValues (wa : WE) : WN := fun ρ n E Q => wa ρ n E fun d n' => match d with
  | .py (.dict ks) => ks.length ≤ sizeLine ∧ Q (ks.map (·.2)) n'
  | _ => False
end
end Fv
set_option maxRecDepth 100000
set_option maxHeartbeats 4000000
/-! What zip draws of a dict: its keys. -/
namespace Fv
open PySem PySem.Spec PyProof.Rows L2 Gb
section
variable {prog : Program} {w : World} {A : Around} {E : Value → Shared → Prop} {s : Shared} {K : Type} [DecidableEq K] {knd : KeyKind prog w K}
end
end Fv
set_option maxRecDepth 100000
set_option maxHeartbeats 4000000
/-! zip of a dict that stands still and a list. -/
namespace Fv
open PySem PySem.Spec PyProof.Rows L2 Gb
/-- the keys of the dict at d (known: od), the items of the list at b, in new pairs -/
def ItKL (K : PySem.W.Frag) (d : Addr) (od : Obj) (kvs : List (Key × V)) (b : Addr) : It :=
  ⟨fun i H => ∃ (ys : List V) (k : Key) (v y : V), H d = some (.frz od (.dK kvs)) ∧ SqL K H b ys ∧ kvs[i]? = some (k, v) ∧ ys[i]? = some y,
    fun i H u H' => ∃ T k v y, u = .ref T ∧ H T = none ∧ H' = upd H T (.tup [kV k, y]) ∧ kvs[i]? = some (k, v) ∧ ∀ ys, SqL K H b ys → ys[i]? = some y,
    fun i H => ∃ ys : List V, H d = some (.frz od (.dK kvs)) ∧ SqL K H b ys ∧ i ≤ kvs.length ∧ i ≤ ys.length ∧ (i = kvs.length ∨ i = ys.length)⟩
def iZipKL (K : PySem.W.Frag) (ta : TA) : TI := fun σ H R => ta σ H fun vs H1 => ∃ d od kvs b ys, vs = [.ref d, .ref b] ∧ H1 d = some (.frz od (.dK kvs)) ∧ SqL K H1 b ys ∧ R (ItKL K d od kvs b) H1
end Fv
set_option maxRecDepth 100000
set_option maxHeartbeats 4000000
/-! {k: m for k, m in zip(d, xs)}: the dict d with other values. -/
namespace Fv
open PySem PySem.Spec PyProof.Rows L2 Gb
/-- under a lock; the keys are each once -/
def tLockN (t : TE) : TE := fun σ H Q => ∃ d kvs, H d = some (.dK kvs) ∧ ((kvs.map (·.1)).Nodup → kvs.length ≤ sizeLine → ∀ od, t σ (upd H d (.frz od (.dK kvs))) fun v H' => H' d = some (.frz od (.dK kvs)) ∧ Q v (upd H' d (.dK kvs)))
/-- the dict with the values at ds -/
def refill (kvs : List (Key × V)) (ys : List V) : List (Key × V) := kvs.zipWith (fun p y => (p.1, y)) ys
def wFill (i j : Nat) : WV := fun ρ n _ Q => ∃ (ks : List (PyData × PyData)) (ds : List PyData), ρ[0]? = some (.val (.py (.dict ks))) ∧ ρ[1]? = some (.val (.py (.list ds))) ∧ ds.length = ks.length ∧ i < ρ.length ∧ j < ρ.length ∧ Q (.dow ((ks.zip ds).map fun p => (p.1.1, p.2))) n
end Fv
set_option maxRecDepth 100000
set_option maxHeartbeats 4000000
/-! xs.pop() told to a name; an item of one's own dict set; one of two ways to walk. -/
namespace Fv
open PySem PySem.Spec PyProof.Rows L2 Gb
section
variable {m : Bool} {X : Cx} {G : Cg} {a b c o tgt : Expr} {ta tb : TE} {wa wb : WE} {pos apos cpos tpos p : Pos} {i : Nat}
def iOr (t1 t2 : TI) : TI := fun σ H R => t1 σ H R ∨ t2 σ H R
def wIOr (w1 w2 : WI) : WI := fun ρ n E Q => w1 ρ n E Q ∨ w2 ρ n E Q
theorem bi_or {tg : Expr} {t1 t2 : TI} {w1 w2 : WI} (h1 : BI X G tg a t1 w1) (h2 : BI X G tg a t2 w2) : BI X G tg a (iOr t1 t2) (wIOr w1 w2) := by
  refine ⟨⟨fun pins s σ H R I h => ?_⟩, fun ρ σ n B H E Qd Q S hw xw k => ?_⟩
  · rcases h with h | h
    · exact h1.pi.run pins s σ H R I h
    · exact h2.pi.run pins s σ H R I h
  · rcases hw with hw | hw
    · exact .inl (h1.snd ρ σ n B H E Qd Q S hw xw k)
    · exact .inr (h2.snd ρ σ n B H E Qd Q S hw xw k)
end
end Fv
set_option maxRecDepth 100000
set_option maxHeartbeats 4000000
/-! Lists of one's own: cleared in a row of lists; two in a new list. -/
namespace Fv
open PySem PySem.Spec PyProof.Rows L2 Gb
section
variable {m : Bool} {X : Cx} {G : Cg} {a b c o tgt : Expr} {ta tb : TE} {wa wb : WE} {wn1 wn2 : WN} {pos apos cpos tpos p : Pos} {i kt : Nat}
/-- x[j].clear() -/
def sClrM (i : Nat) (wj : WE) : WS := fun ρ n E DB => match ρ[i]? with
  | some (.mat tp l rows) => wj ρ n (E ρ) fun y n1 => (match y with
    | .py (.int j) => (match ixN rows.length j with
      | some j' => (match rows[j']? with
        | some r => DB.nx (ρ.set i (.mat tp l (rows.set j' (r.1, [])))) n1
        | none => False)
      | none => False)
    | _ => False)
  | _ => False
theorem bs_clrM (i : Nat) (ho : PE X o (tVar i)) (hj : BE X G b tb wb) (hs0 : PlainIx b := by exact fun _ _ => rfl) (hK : X.K = G.K := by rfl) (h1 : attributeBase (.Subscript o b p) "clear" X.env (eval (.Subscript o b p) X.env) = eval (.Subscript o b p) X.env := by rfl)
    (h3 : (apos.endLine == cpos.line) = true := by rfl)
    (hs : swapsWith (.Call (.Attribute (.Subscript o b p) "clear" apos) [] [] cpos) none pos.line X.env = pure false := by rfl) : BS m X G (.Expr (.Call (.Attribute (.Subscript o b p) "clear" apos) [] [] cpos) pos) (tDrop (tBM0 G.K "list" rClear (tOp (rIx G.K) (tVar i) tb))) (sClrM i wb) := by
  have h := pe_bm0 (X := X) (cpos := cpos) PySem.F.plainAttrs_list PySem.F.slot_list_clear PySem.F.type_list_clear mt_clear (pe_ix (hK ▸ ix_seq) ho hj.pe hs0) h1 h3
  rw [hK] at h
  refine ⟨ps_expr h hs, fun ρ σ n B H E D DB S hw xs eo => ?_⟩
  unfold sClrM at hw
  match hr : ρ[i]?, hw with
  | some (.mat tp l rows), hw =>
    obtain ⟨g1, A⟩ := S.mat.at_ i tp l rows hr
    refine ⟨.ref l, g1, hj.snd ρ σ n B H _ _ _ S hw (xs.at S) fun y dy n2 B2 H2 m2 pk2 r2 q2 => ?_⟩
    match dy, r2, q2 with
    | .py (.int j), r2, q2 =>
      cases dd_int r2
      simp only at q2
      match ej : ixN rows.length j, q2 with
      | some j', q2 =>
        simp only at q2
        match er : rows[j']?, q2 with
        | some r, q2 =>
          simp only at q2
          have A2 := A.step m2
          obtain ⟨us0, f1, _⟩ := A2.row r (List.mem_of_getElem? er)
          refine mat_ix A2 ej er ⟨tyV_l f1, ?_⟩
          exact ⟨r.1, us0, rfl, rfl, f1, eo.nx _ _ n2 B2 _ m2.b ((S.step m2 pk2).putM hr er (Nat.zero_le _) .nil) q2⟩
/-- two lists of one's own in a list -/
def wLst2N (w1 w2 : WN) : WV := fun ρ n E Q => w1 ρ n E fun ds1 n1 => w2 ρ n1 E fun ds2 n2 => ∀ z a b : Addr, Q (.mat false z [(a, ds1), (b, ds2)]) n2
theorem bv_lst2N (ha : BN X G a ta wn1) (hb : BN X G b tb wn2) (he : starEach (a :: [b]) X.env = (false, eval a X.env) :: starEach [b] X.env := by rfl) (he' : starEach (b :: []) X.env = (false, eval b X.env) :: starEach [] X.env := by rfl) :
    BV X G (.List [a, b] pos) (tLst (tCons ta (tCons tb tNil))) (wLst2N wn1 wn2) := by
  refine ⟨pe_lst (pa_cons ha.pe (pa_cons hb.pe pa_nil he') he), fun ρ σ n B H E Qd Q S hw xw k => ?_⟩
  refine ha.snd ρ σ n B H E _ _ S hw xw fun l1 us1 ds1 n1 B1 H1 m1 pk1 hn1 F1 hl1 hz1 hA1 q1 => ?_
  have S1 := S.step m1 pk1
  refine hb.snd ρ σ n1 B1 H1 E _ _ S1 q1 (xw.step m1) fun l2 us2 ds2 n2 B2 H2 m2 pk2 hn2 F2 hl2 hz2 hA2 q2 => ⟨Nat.le_trans (show 2 ≤ 100000 by decide) (line5 (Nat.le_refl _)), fun z hz => ?_⟩
  have S2 := S1.step m2 pk2
  have Fz := free_new S2 hz
  have m12 := m1.trans m2
  have F1' := F1.mv m2 hl1
  have hl1' := m2.kp.at_ F1 hl1
  have z1 : z ≠ l1 := fun e => by
    rw [e, hl1'] at hz
    cases hz
  have z2 : z ≠ l2 := fun e => by
    rw [e, hl2] at hz
    cases hz
  have n12 : l1 ≠ l2 := fun e => by
    rw [← e, hl1] at hn2
    cases hn2
  refine k (.ref z) (.mat false z [(l1, ds1), (l2, ds2)]) n2 B2 _ (m12.trans (Mv.newOwn m2.s hz)) (pk2.own Fz (.none hz)) ⟨rfl, ⟨?_, Fz, ?_, ?_, fun r hr => ?_⟩, fun a ha => ?_⟩ (q2 z l1 l2)
  · rw [upd_same]
    rfl
  · refine List.nodup_cons.mpr ⟨fun h => ?_, List.nodup_cons.mpr ⟨fun h => ?_, List.nodup_cons.mpr ⟨List.not_mem_nil, List.nodup_nil⟩⟩⟩
    · simp only [List.map_cons, List.map_nil, List.mem_cons, List.not_mem_nil, or_false] at h
      rcases h with h | h
      · exact z1 h
      · exact z2 h
    · exact n12 (List.mem_singleton.mp h)
  · exact Nat.le_trans (show 2 ≤ 100000 by decide) (line5 (Nat.le_refl _))
  · simp only [List.mem_cons, List.not_mem_nil, or_false] at hr
    rcases hr with rfl | rfl
    · exact ⟨us1, by rw [upd_ne z1.symm]; exact hl1', hz1, hA1.mono m2.b, F1'⟩
    · exact ⟨us2, by rw [upd_ne z2.symm]; exact hl2, hz2, hA2, F2⟩
  · simp only [List.map_cons, List.map_nil, List.mem_cons, List.not_mem_nil, or_false] at ha
    rcases ha with rfl | rfl | rfl
    · exact up_none m12 hz
    · exact hn1
    · exact up_none m1 hn2
end
/-- a list of one's own looked at in a test -/
def wLookT (i : Nat) (w : WT) : WT := fun ρ n _ Q => match ρ[i]? with
  | some (.own ds) => w (ρ.set i (.val (.py (.list ds)))) n (fun _ _ => False) Q
  | _ => False
theorem bt_look {X : Cx} {G : Cg} {e : Expr} {t : TT} {w : WT} (i : Nat) (h : BT X G e t w) : BT X G e t (wLookT i w) := ⟨h.pe, fun ρ σ n B H E Qd Q S hw xw k => by
  unfold wLookT at hw
  match hr : ρ[i]?, hw with
  | some (.own ds), hw =>
    obtain ⟨l, vs, h1, h2, h3, h4, h5⟩ := S.own i ds hr
    exact h.snd _ σ n _ H _ _ _ (S.look hr h1 h2 h3 h4 h5) hw XW.none fun b n' B' H' m pk q => k b n' _ H' (mv_untell h5.1 m) (pk_untell pk fun p c T e => (h5.2.2 p c T e).2) q⟩
end Fv
set_option maxRecDepth 100000
set_option maxHeartbeats 4000000
/-! sorted of a tuple. -/
namespace PyProof.Rows
open PySem PySem.Calls PySem.Spec PyProof.V
section
variable {prog : Program} {w : World} {A : Around} {E : Value → Shared → Prop} {s : Shared}
theorem collect_tupleZ {l : Addr} {vs : List Value} {Q : List Value → Shared → Prop} (hl : s.heap.IsTuple l vs.toArray)
    (h : Q vs { s with heap := (s.heap.push (seqObj "list" #[] 0)).update s.heap.objs.size (Obj.mapSeq (· ++ vs.toArray)) }) (hsz : vs.length ≤ sizeLine) :
    wpAny (model prog w) A (collect (.ref l)) Q E s := by
  obtain ⟨o, ho, hc, n, hd⟩ := id hl
  unfold collect
  refine wpAny_bind (wpAny_runValue (codeAny_builtin entry_proto_collect' ?_))
  show wpAny _ _ (do again (.builtin "list.__iadd__" ⟨[← newList [], .ref l], []⟩)) _ _ s
  refine wpAny_bind (wpAny_newList (wpAny_pure ⟨Code.quiet_builtin _ (by decide +kernel), codeAny_builtin entry_list_iadd' ?_⟩))
  show wpAny _ _ (Builtin.List.listExtendWith (.ref s.heap.objs.size) (.ref l) (.ref s.heap.objs.size)) _ _ { s with heap := s.heap.push (seqObj "list" #[] 0) }
  unfold Builtin.List.listExtendWith
  have ho' : (s.heap.push (seqObj "list" #[] 0)).get? l = some o := Heap.get?_push_of_some _ ho
  refine wpAny_bind (wpAny_typeOf (T := "tuple") ⟨o, ho', hc⟩ ?_)
  rw [if_pos (by rw [show (Value.type "tuple" == Value.type "tuple") = true from rfl]; simp)]
  refine wpAny_bind (listItems_at ho' hd ?_)
  refine wpAny_bind (listItems_at (xs := #[]) (n := 0) (Heap.get?_push_size _ rfl) rfl ?_)
  rw [if_neg (by simp)]
  refine wpAny_bind (listUpdate_at (xs := #[]) (n := 0) (Heap.get?_push_size _ rfl) rfl ?_ (Nat.zero_le _) (by show (#[] ++ vs.toArray).size ≤ sizeLine + 1; simp only [Array.size_append, List.size_toArray, List.length_nil]; omega))
  refine wpAny_pure ?_
  show wpAny (model prog w) A (do
      let o ← load s.heap.objs.size
      match o.data with
      | .seq xs _ => pure xs.toList
      | _ => unsupported "internal:collect") Q E { s with heap := (s.heap.push (seqObj "list" #[] 0)).update s.heap.objs.size (Obj.mapSeq (· ++ vs.toArray)) }
  refine wpAny_bind (wpAny_load (get?_update_seq (Heap.get?_push_size _ rfl) _) ?_)
  show wpAny _ _ (pure ((#[] : Array Value) ++ vs.toArray).toList) Q E _
  rw [show ((#[] : Array Value) ++ vs.toArray).toList = vs by simp]
  exact wpAny_pure h
end
end PyProof.Rows
namespace PySem.W
open PySem PySem.Calls PyProof.Rows
section
variable {prog : Program} {w : World} {A : Around} {E : Value → Shared → Prop} {s : Shared} {κ : PyProof.Rows.KeyKind}
theorem sorted_of_sortZ {l : Addr} {vs : List Value} {kw : List (Str × Value)} {Q : Value → Shared → Prop} (hl : s.heap.IsTuple l vs.toArray) (hL : vs.length ≤ sizeLine) (ha1 : argsOk "sorted" ⟨[.ref l], kw⟩) (ha2 : ∀ x, argsOk "list.sort" ⟨[.ref x], kw⟩)
    (body : ∀ E' : Value → Shared → Prop, wpAny (model prog w) A.in1.in1 (Builtin.«list.sort» ⟨[.ref (s.heap.objs.size + 1)], kw⟩) (fun f s' => f = .done (.ret .none) ∧ Q (.ref (s.heap.objs.size + 1)) s') E' { s with heap := copyHeap s.heap vs }) :
    wpAny (model prog w) A (call (.builtin "sorted") [.ref l] kw) Q E s := by
  refine call_function_entry_kw kind_sorted plain_sorted entry_sorted ha1 ?_
  unfold Builtin.«sorted»
  refine wpAny_bind (m := checkCount "sorted" 1 1 _) (wpAny_pure ?_)
  refine wpAny_bind (collect_tupleZ hl ?_ hL)
  refine wpAny_bind (wpAny_newList ?_ hL)
  have hsz : ((s.heap.push (seqObj "list" #[] 0)).update s.heap.objs.size (Obj.mapSeq (· ++ vs.toArray))).objs.size = s.heap.objs.size + 1 := by
    rw [Heap.size_update, size_push']
  show wpAny _ _ _ _ _ { s with heap := copyHeap s.heap vs }
  rw [hsz]
  refine wpAny_bind (wpAny_holding (wpAny_call_entry_kw slot_list_sort ⟨_, copyHeap_at s.heap vs, rfl⟩ entry_list_sort ?body (ha2 _)))
  case body =>
    show wpAny (model prog w) A.in1.in1 (Builtin.«list.sort» ⟨[.ref (s.heap.objs.size + 1)], kw⟩) _ _ _
    refine wpAny_mono (body _) (fun f s' hf => ?_) fun _ _ e => e
    obtain ⟨rfl, hq⟩ := hf
    exact ⟨_, rfl, wpAny_pure ⟨_, rfl, hq⟩⟩
theorem sorted_valsZ {l : Addr} {vs : List Value} {Q : Value → Shared → Prop} (hl : s.heap.IsTuple l vs.toArray) (S : SortsAt prog w A.in1.in1 { s with heap := sortingHeap (copyHeap s.heap vs) (s.heap.objs.size + 1) vs } κ vs) (hL : vs.length ≤ sizeLine)
    (h : Q (.ref (s.heap.objs.size + 1)) { s with heap := sortedAll s.heap vs (sortVals κ false vs vs).toArray }) : wpAny (model prog w) A (call (.builtin "sorted") [.ref l]) Q E s :=
  sorted_of_sortZ hl hL (args_sorted1 _) (fun _ => args_list_sort _) fun _ => list_sort_vals (s := { s with heap := copyHeap s.heap vs }) (copyHeap_at s.heap vs) S hL ⟨rfl, h⟩
end
section
variable {prog : Program} {w : World} {A : Around} {E : Value → Shared → Prop} {s : Shared} {β : Type} {vs : List Value} {bs : List β} {enc : β → PyData} {R : Value → β → Prop}
theorem sorted_dataZ {l : Addr} {Q : Value → Shared → Prop} (hl : s.heap.IsTuple l vs.toArray) (e : EachIs R vs bs) (er : EachIs (fun v b => ∃ as, Reads s.heap v (enc b) as) vs bs) (hal : AllAlike (bs.map enc)) (hk : Sortable (bs.map enc)) (hL : bs.length ≤ sizeLine)
    (hu : ∀ b, b ∈ bs → A.units + 2 + (enc b).depth < cLine) (h : ∀ out, out.length = bs.length → EachIs R out (bs.mergeSort (dataLe false enc)) → Q (.ref (s.heap.objs.size + 1)) { s with heap := sortedAll s.heap vs (List.toArray out) }) :
    wpAny (model prog w) A (call (.builtin "sorted") [.ref l]) Q E s := by
  have er' : EachIs (fun v b => ∃ as, Reads (sortingHeap (copyHeap s.heap vs) (s.heap.objs.size + 1) vs) v (enc b) as) vs bs := er.mono fun _ _ ⟨as, r⟩ => ⟨as, PyProof.Rows.Reads.keeps (fun _ _ => sorting_copy_old) r⟩
  exact sorted_valsZ hl (SortsAt.data (s := { s with heap := sortingHeap (copyHeap s.heap vs) (s.heap.objs.size + 1) vs }) (each_map (R := fun v d => ∃ as, Reads (sortingHeap (copyHeap s.heap vs) (s.heap.objs.size + 1) vs) v d as) enc er') hal hk (bound_map hu)) (by rw [e.length]; exact hL)
    (h _ (by rw [sortVals_length false rfl]; exact e.length) (sortVals_data false e er' hal))
end
end PySem.W
namespace Fv
open PySem PySem.Spec PyProof.Rows L2 Gb
section
variable {X : Cx} {G : Cg} {a : Expr} {ta : TE} {wl : WL} {p pos : Pos}
def rSortZ (K : PySem.W.Frag) : List V → Hp → VK → Prop := fun vs H Q => ∃ (k : Bool) (l : Addr) (xs : List V) (ds : List PyData), vs = [V.ref l] ∧ (if k = true then SqT K H l xs else SqL K H l xs) ∧ DpAll K H xs ds ∧ PySem.W.AllAlike ds ∧ PySem.W.Sortable ds ∧ xs.length ≤ sizeLine ∧ PyData.depthAll ds ≤ 40 ∧
  ∀ (zs : List (V × PyData)) (p : Addr), (∀ z ∈ zs, z ∈ xs.zip ds) → zs.length = xs.length → zs.map Prod.snd = sortD ds → H p = none → Q (.ref p) (upd H p (.lst (zs.map Prod.fst)))
theorem cr_sortZ (hu : X.A.units + 64 < cLine) : CallR X (.builtin "sorted") (rSortZ X.K) := by
  intro pins s σ H vs us Q I r h
  obtain ⟨k, l, xs, ds, rfl, hs, hd, hal, hk, hz, hdp, q⟩ := h
  cases k with
  | false => exact cr_sortD hu pins s σ H _ us Q I r ⟨l, xs, ds, rfl, hs, hd, hal, hk, hz, hdp, q⟩
  | true =>
    have hs : SqT X.K H l xs := hs
    obtain ⟨its, rv, hl, _⟩ := I.tuple hs
    rw [Vals.ref1 r]
    obtain ⟨e1, e2⟩ := each_zip (G := ⟨X.K, 0, none, fun _ _ _ _ => False, fun _ => none, H, H⟩) I rv hd
    have hlen := dpa_len hd
    have ez : (xs.zip ds).map Prod.snd = ds := zip_snd hlen
    have lz : (xs.zip ds).length = xs.length := by
      rw [List.length_zip, hlen]
      exact Nat.min_self _
    refine PySem.W.sorted_dataZ (enc := fun z : V × PyData => z.2) hl e1 e2 (by rw [show (xs.zip ds).map (fun z : V × PyData => z.2) = (xs.zip ds).map Prod.snd from rfl, ez]; exact hal) (by rw [show (xs.zip ds).map (fun z : V × PyData => z.2) = (xs.zip ds).map Prod.snd from rfl, ez]; exact hk) (by rw [lz]; exact hz) (fun b hb => ?_) fun out ho eo => ?_
    · have hb2 : b.2 ∈ ds := by
        rw [← ez]
        exact List.mem_map.mpr ⟨b, hb, rfl⟩
      have := depth_mem hb2
      show X.A.units + 2 + b.2.depth < cLine
      omega
    · obtain ⟨ep, he'⟩ := sortedAll_at s.heap its (List.toArray out)
      have hv := vals_each (fun u z h => h.1) eo
      have hl2 : ((xs.zip ds).mergeSort (PySem.W.dataLe false fun z : V × PyData => z.2)).length = xs.length := by
        rw [List.length_mergeSort, lz]
      have hq := q ((xs.zip ds).mergeSort (PySem.W.dataLe false fun z : V × PyData => z.2)) _ (fun z hz => (List.mergeSort_perm _ _).mem_iff.mp hz) hl2 (by
        show List.map Prod.snd _ = ds.mergeSort _
        refine (PySem.W.sort_maps (r := PySem.W.dataLe false fun z : V × PyData => z.2) (s := PySem.W.dataLe false id) Prod.snd (l := xs.zip ds) fun a _ b _ => rfl).trans ?_
        rw [ez]) (I.hok.fresh (Nat.le_succ _))
      have hlz : (((xs.zip ds).mergeSort (PySem.W.dataLe false fun z : V × PyData => z.2)).map Prod.fst).length ≤ sizeLine := by
        rw [List.length_map, hl2]
        exact hz
      exact ⟨.ref _, _, I.laid (t' := s.toks) (o := .lst (((xs.zip ds).mergeSort (PySem.W.dataLe false fun z : V × PyData => z.2)).map Prod.fst)) (fun _ _ => sortedAll_old) (Nat.le_succ _) ⟨hlz, out, ep, hv, he'⟩, rfl, hq⟩
def wSortedZ (wl : WL) : WN := fun ρ n E Q => wl ρ n E fun _ ds n1 => SortsD ds ∧ Q (sortD ds) n1
theorem bn_sortedZ (hu : X.A.units + 64 < cLine) (hg : Gl X "sorted") (hm : X.mg "sorted" = none) (ha : BL X G a ta wl) (he : starEach (a :: []) X.env = (false, eval a X.env) :: starEach [] X.env := by rfl) (hpl : (backTo pos (starEach [] X.env)).any (·.1) = false := by rfl) (hK : X.K = G.K := by rfl) :
    BN X G (.Call (.Name "sorted" p) [a] [] pos) (tCB (rSortZ G.K) (tCons ta tNil)) (wSortedZ wl) :=
  ⟨pe_callB (hK ▸ cr_sortZ hu) hg hm (by decide +kernel) (pa_cons ha.pe pa_nil he) (by decide) (by decide) he hpl, fun ρ σ n B H E Qd Q S hw xw k => ha.snd ρ σ n B H E _ _ S hw xw fun l vs kk ds n1 B1 H1 m1 pk1 hs1 hz hA q1 => by
    obtain ⟨hS, q1⟩ := q1
    refine ⟨kk, l, vs, ds, rfl, ?_, (hA.mono m1.s).dp hS.lay, hS.alike, hS.able, hz, hS.depth, fun zs q hmem hlz hsn hq => ?_⟩
    · cases kk with
      | true => exact Same.t m1.s hs1
      | false => exact SqL.of hs1
    have m := Mv.newOwn (pn := none) (o := .lst (zs.map Prod.fst)) m1.s hq
    have hA2 := dda_of hA hmem
    rw [hsn] at hA2
    exact k q _ _ n1 _ _ (m1.trans m.of) (pk1.mv m) (up_none m1 hq) (free_new (S.step m1 pk1) hq) upd_same (by rw [List.length_map, hlz]; exact hz) hA2 q1⟩
end
end Fv
set_option maxRecDepth 100000
set_option maxHeartbeats 4000000
/-! A thing copied, holder by holder: the stack of what is under way. -/
namespace Fv
open PySem PySem.Spec PyProof.Rows L2 Gb
mutual
/-- turns that a datum's copying takes, about -/
def szD : PyData → Nat
  | .list xs => 2 + szA xs
  | .tuple xs => 2 + szA xs
  | .dict ks => 2 + szK ks
  | _ => 1
def szA : List PyData → Nat
  | [] => 0
  | d :: ds => szD d + szA ds
def szK : List (PyData × PyData) → Nat
  | [] => 0
  | (_, d) :: ks => szD d + szK ks
end
def isHolder : PyData → Bool
  | .list _ => true
  | .tuple _ => true
  | .dict _ => true
  | _ => false
/-- what a holder holds -/
def memsOf : PyData → List PyData
  | .list xs => xs
  | .tuple xs => xs
  | .dict ks => ks.map (·.2)
  | _ => []
/-- what is under way: the tuple, the holder, its members, what is done -/
structure Fr where
  t : Addr
  hv : V
  hd : PyData
  m : Addr
  mv : List V
  ms : List PyData
  a : Addr
  dv : List V
/-- turns that are left below -/
def lowM : List Fr → Nat
  | [] => 0
  | g :: rest => 1 + szA (g.ms.drop (g.dv.length + 1)) + lowM rest
def muM : List Fr → Nat
  | [] => 0
  | f :: rest => szA (f.ms.drop f.dv.length) + lowM rest
/-- each holder is the member below that is under way -/
def Chain (d : PyData) : List Fr → Prop
  | [] => False
  | [f] => f.ms = [d]
  | f :: g :: rest => g.ms[g.dv.length]? = some f.hd ∧ f.ms = memsOf f.hd ∧ isHolder f.hd = true ∧ Chain d (g :: rest)
structure FrOk (K : PySem.W.Frag) (F H H0 : Hp) (f : Fr) : Prop where
  tup : F f.t = some (.tup [f.hv, .ref f.m, .ref f.a])
  mem : F f.m = some (.lst f.mv)
  mz : f.mv.length ≤ sizeLine
  hv : Dd K F f.hv f.hd
  mv : DdA K F f.mv f.ms
  own : H f.a = some (.lst f.dv)
  nF : F f.a = none
  n0 : H0 f.a = none
  dv : DdA K F f.dv (f.ms.take f.dv.length)
  le : f.dv.length ≤ f.ms.length
structure Stk (K : PySem.W.Frag) (B0 H0 F H : Hp) (l : Addr) (d : PyData) (fs : List Fr) : Prop where
  mv : Mv none B0 H0 F H
  at_ : H l = some (.lst (fs.reverse.map fun f => .ref f.t))
  nF : F l = none
  n0 : H0 l = none
  ok : ∀ f ∈ fs, FrOk K F H H0 f
  nd : (l :: fs.map (·.a)).Nodup
  ch : Chain d fs
section
variable {K : PySem.W.Frag} {B0 H0 F H F' H' : Hp} {l : Addr} {d : PyData} {fs rest : List Fr} {f g : Fr}
/-- the frame's facts where more is read and its own list stands -/
theorem FrOk.step (h : FrOk K F H H0 f) (e : Same F F') (own : H' f.a = some (.lst f.dv)) (nF : F' f.a = none) : FrOk K F' H' H0 f :=
  ⟨e _ _ h.tup, e _ _ h.mem, h.mz, h.hv.mono e, h.mv.mono e, own, nF, h.n0, h.dv.mono e, h.le⟩
/-- more is read -/
theorem Stk.grow (S : Stk K B0 H0 F H l d fs) (m : Mv none F H F' H') : Stk K B0 H0 F' H' l d fs :=
  ⟨S.mv.trans m, m.kp _ _ S.at_, m.stay S.at_ trivial S.nF, S.n0, fun f hf => (S.ok f hf).step m.b (m.kp _ _ (S.ok f hf).own) (m.stay (S.ok f hf).own trivial (S.ok f hf).nF), S.nd, S.ch⟩
theorem chain_top {d : PyData} {f f' : Fr} {rest : List Fr} (h : Chain d (f :: rest)) (e1 : f'.ms = f.ms) (e2 : f'.hd = f.hd) : Chain d (f' :: rest) := by
  cases rest with
  | nil =>
    show f'.ms = [d]
    rw [e1]
    exact h
  | cons g rest =>
    obtain ⟨h1, h2, h3, h4⟩ := h
    exact ⟨by rw [e2]; exact h1, by rw [e1, e2]; exact h2, by rw [e2]; exact h3, h4⟩
/-- one more is done at the top -/
theorem Stk.put (S : Stk K B0 H0 F H l d (f :: rest)) {v : V} {e : PyData} (he : f.ms[f.dv.length]? = some e) (hv : Dd K F v e) :
    Stk K B0 H0 F (upd H f.a (.lst (f.dv ++ [v]))) l d ({ f with dv := f.dv ++ [v] } :: rest) := by
  have fo := S.ok f (List.mem_cons_self ..)
  have hlt : f.dv.length < f.ms.length := (List.getElem?_eq_some_iff.mp he).1
  have la : l ≠ f.a := fun z => by
    have := (List.nodup_cons.mp S.nd).1
    exact this (by rw [z]; exact List.mem_cons_self ..)
  have nd2 := (List.nodup_cons.mp S.nd).2
  have len1 : (f.dv ++ [v]).length = f.dv.length + 1 := List.length_append
  refine ⟨S.mv.own fo.n0 fo.nF (fun p c T z => by cases z), ?_, S.nF, S.n0, fun x hx => ?_, S.nd, chain_top S.ch rfl rfl⟩
  · rw [upd_ne la]
    have := S.at_
    simpa using this
  · rcases List.mem_cons.mp hx with rfl | hx
    · refine ⟨fo.tup, fo.mem, fo.mz, fo.hv, fo.mv, upd_same, fo.nF, fo.n0, ?_, ?_⟩
      · show DdA K F (f.dv ++ [v]) (f.ms.take (f.dv ++ [v]).length)
        rw [len1, List.take_succ, he]
        exact DdA.app fo.dv (.cons hv .nil)
      · show (f.dv ++ [v]).length ≤ f.ms.length
        rw [len1]
        exact hlt
    · have xo := S.ok x (List.mem_cons_of_mem _ hx)
      have ne : x.a ≠ f.a := fun z => (List.nodup_cons.mp nd2).1 (List.mem_map.mpr ⟨x, hx, z⟩)
      exact xo.step (Same.refl F) (by rw [upd_ne ne]; exact xo.own) xo.nF
/-- a holder that is a member: one more frame (its tuple at t, its members at m, its done at a are new; l is put) -/
theorem Stk.push (S : Stk K B0 H0 F H l d (f :: rest)) {e : PyData} (he : f.ms[f.dv.length]? = some e) (ho : isHolder e = true)
    (mv : Mv none F H F' H') (ho1 : FrOk K F' H' H0 g) (e1 : g.hd = e) (e2 : g.ms = memsOf e) (e3 : g.dv = []) (gl : g.a ≠ l) (gn : ∀ x ∈ f :: rest, g.a ≠ x.a) :
    Stk K B0 H0 F' (upd H' l (.lst ((g :: f :: rest).reverse.map fun f => .ref f.t))) l d (g :: f :: rest) := by
  have S1 := S.grow mv
  have nl := (List.nodup_cons.mp S.nd).1
  refine ⟨S1.mv.own S1.n0 S1.nF (fun p c T z => by cases z), upd_same, S1.nF, S1.n0, fun x hx => ?_, ?_, ?_⟩
  · rcases List.mem_cons.mp hx with rfl | hx
    · exact ho1.step (Same.refl F') (by rw [upd_ne gl]; exact ho1.own) ho1.nF
    · have xo := S1.ok x hx
      have ne : x.a ≠ l := fun z => nl (List.mem_map.mpr ⟨x, hx, z⟩)
      exact xo.step (Same.refl F') (by rw [upd_ne ne]; exact xo.own) xo.nF
  · have nd2 := (List.nodup_cons.mp S.nd).2
    refine List.nodup_cons.mpr ⟨fun h => ?_, List.nodup_cons.mpr ⟨fun h => ?_, nd2⟩⟩
    · rcases List.mem_cons.mp h with z | h
      · exact gl z.symm
      · exact nl h
    · obtain ⟨x, hx, z⟩ := List.mem_map.mp h
      exact gn x hx z.symm
  · exact ⟨by rw [e1]; exact he, by rw [e1]; exact e2, by rw [e1]; exact ho, S.ch⟩
theorem ne_new {H : Hp} {a b : Addr} {o : HO} (h : (upd H a o) b = none) : b ≠ a := fun e => by
  rw [e, upd_same] at h
  cases h
theorem old_new {H : Hp} {a b : Addr} {o : HO} (h : (upd H a o) b = none) : H b = none := by
  have := ne_new h
  rwa [upd_ne this] at h
/-- frames = [([], [thing], [])] -/
theorem Stk.start {v0 : V} {a1 m a t : Addr} (sb : Same B0 H0) (hd : Dd K B0 v0 d) (h1 : H0 a1 = none) (h2 : (upd H0 a1 (.lst [])) m = none) (h3 : (upd (upd H0 a1 (.lst [])) m (.lst [v0])) a = none)
    (h4 : (upd (upd (upd H0 a1 (.lst [])) m (.lst [v0])) a (.lst [])) t = none) (h5 : (upd (upd (upd (upd H0 a1 (.lst [])) m (.lst [v0])) a (.lst [])) t (.tup [.ref a1, .ref m, .ref a])) l = none) :
    Stk K B0 H0 (upd (upd (upd B0 a1 (.lst [])) m (.lst [v0])) t (.tup [.ref a1, .ref m, .ref a])) (upd (upd (upd (upd (upd H0 a1 (.lst [])) m (.lst [v0])) a (.lst [])) t (.tup [.ref a1, .ref m, .ref a])) l (.lst [.ref t])) l d [⟨t, .ref a1, .list [], m, [v0], [d], a, []⟩] := by
  have m1 := Mv.new (pn := none) (o := .lst []) sb h1
  have m2 := Mv.new (pn := none) (o := .lst [v0]) m1.s h2
  have m3 := Mv.newOwn (pn := none) (o := .lst []) m2.s h3
  have m4 := Mv.new (pn := none) (o := .tup [.ref a1, .ref m, .ref a]) m3.s h4
  have m5 := Mv.newOwn (pn := none) (o := .lst [.ref t]) m4.s h5
  have mm := (((m1.trans m2).trans m3).trans m4).trans m5
  have nm : m ≠ a1 := ne_new h2
  have nam : a ≠ m := ne_new h3
  have na1 : a ≠ a1 := ne_new (old_new h3)
  have nta : t ≠ a := ne_new h4
  have ntm : t ≠ m := ne_new (old_new h4)
  have nt1 : t ≠ a1 := ne_new (old_new (old_new h4))
  have nlt : l ≠ t := ne_new h5
  have nla : l ≠ a := ne_new (old_new h5)
  have nlm : l ≠ m := ne_new (old_new (old_new h5))
  have nl1 : l ≠ a1 := ne_new (old_new (old_new (old_new h5)))
  have h3' : H0 a = none := old_new (old_new h3)
  have h5' : H0 l = none := old_new (old_new (old_new (old_new h5)))
  have bn : ∀ {x : Addr}, H0 x = none → B0 x = none := fun {x} hx => by
    cases q : B0 x with
    | none => rfl
    | some o =>
      have := sb _ _ q
      rw [hx] at this
      cases this
  have hd' : Dd K (upd (upd (upd B0 a1 (.lst [])) m (.lst [v0])) t (.tup [.ref a1, .ref m, .ref a])) v0 d := hd.mono mm.b
  refine ⟨mm, upd_same, by rw [upd_ne nlt, upd_ne nlm, upd_ne nl1]; exact bn h5', h5', fun x hx => ?_, ?_, rfl⟩
  · rw [List.mem_singleton.mp hx]
    refine ⟨upd_same, by rw [upd_ne (Ne.symm ntm)]; exact upd_same, by show 1 ≤ sizeLine; decide, ?_, .cons hd' .nil, ?_, ?_, h3', .nil, Nat.zero_le _⟩
    · exact .lst (by rw [upd_ne (Ne.symm nt1), upd_ne (Ne.symm nm)]; exact upd_same) .nil (Nat.zero_le _)
    · show upd _ l _ a = _
      rw [upd_ne (Ne.symm nla), upd_ne (Ne.symm nta)]
      exact upd_same
    · show upd _ t _ a = none
      rw [upd_ne (Ne.symm nta), upd_ne nam, upd_ne na1]
      exact bn h3'
  · exact List.nodup_cons.mpr ⟨fun h => nla (List.mem_singleton.mp h), List.nodup_cons.mpr ⟨by simp, List.nodup_nil⟩⟩
end
end Fv
set_option maxRecDepth 100000
set_option maxHeartbeats 4000000
/-! What holders hold. -/
namespace Fv
open PySem PySem.Spec PyProof.Rows L2 Gb
open PySem.W (T4)
abbrev memsD := memsOf
def holds : PyData → Prop
  | .list _ => True
  | .tuple _ => True
  | .dict ks => ks.length ≤ sizeLine
  | _ => False
def fMembers : FB := fun ds n _ Q => ∃ d, ds = [.py d] ∧ holds d ∧ Q (.py (.list (memsD d))) n
end Fv
set_option maxRecDepth 100000
set_option maxHeartbeats 4000000
/-! A holder filled anew. -/
namespace Fv
open PySem PySem.Spec PyProof.Rows L2 Gb
open PySem.W (T4)
/-- a holder with other members -/
def fillD : PyData → List PyData → PyData
  | .dict ks, ds => .dict ((ks.zip ds).map fun p => (p.1.1, p.2))
  | .tuple _, ds => .tuple ds
  | _, ds => .list ds
def fFilled : FB := fun ds n _ Q => ∃ d xs, ds = [.py d, .py (.list xs)] ∧ holds d ∧ xs.length = (memsD d).length ∧ Q (.py (fillD d xs)) n
end Fv
set_option maxRecDepth 100000
set_option maxHeartbeats 4000000
/-! A thing copied. -/
namespace Fv
open PySem PySem.Spec PyProof.Rows L2 Gb
open PySem.W (T4)
theorem at_of {xs : List V} {i : Nat} {v : V} (h : xs[i]? = some v) : atI xs (i : Int) = some v := by
  have hl := (List.getElem?_eq_some_iff.mp h).1
  unfold atI
  have e : ixN xs.length (i : Int) = some i := by
    unfold ixN
    rw [if_pos (by omega), if_pos (by omega)]
    simp
  rw [e]
  exact h
/-- a thing that is not too great is copied -/
def fCopied : FB := fun ds n _ Q => ∃ d, ds = [.py d] ∧ szD d ≤ 1000 ∧ Q (.py d) n
end Fv
set_option maxRecDepth 100000
set_option maxHeartbeats 4000000
/-! The refusals that keep what is handed in. -/
namespace Fv
open PySem PySem.Spec PyProof.Rows L2 Gb
abbrev tlK : List Value := [.type "KeyError", .type "LookupError", .type "Exception", .type "BaseException", .type "object"]
/-- one field, a copy -/
abbrev fiCopy (f : Str) : List PyData → (List (Str × PyData) → Prop) → Prop := fun ds QD => ∃ d, ds = [d] ∧ szD d ≤ 1000 ∧ QD [(f, d)]
abbrev fiCords : FI := fun ds Q => ∃ a b c, ds = [a, b, c] ∧ Q [("other", c), ("one", b), ("half", a)]
theorem sc_NoCords___init__ : FnScope ["self", "half", "one", "other"] ["self", "half", "one", "other"] (defScope s_NoCords___init__) := ⟨rfl, rfl, rfl, by decide +kernel, rfl, by decide +kernel, by decide +kernel⟩
theorem ok_NoCords {F : Fx} {C : Addr} (D : DnV F "NoCords" C "NoCords.__init__" s_NoCords___init__ ["self", "half", "one", "other"] ["half", "one", "other"]) : ClE F 1 "NoCords" C fiCords := by
  obtain ⟨fI, fd, iC, tI, Fn, b⟩ := D.ex
  refine cl_e D.T D.hm D.hx iC tI Fn b sc_NoCords___init__ (fun ds QD ⟨p, q, r, e, _⟩ => by rw [e]; rfl) (by decide) ["half", "one", "other"] D.no fun cdv A outer s H E B H0 hr => ?_
  have nd := sc_NoCords___init__.nd
  refine ⟨_, _, _, _, _, rfl, ps_expr (pe_ini (Bs := "ValueError") (by rfl) D.bs (by decide +kernel) (by rfl) (by decide +kernel) (by decide) (by decide) D.vV (pa_cons (pv 0) (pa_cons pe_str pa_nil))), bini_cons (be_nm 1 (pv 1)) (pv 0) (bini_cons (be_nm 2 (pv 2)) (pv 0) (bini_cons (be_nm 3 (pv 3)) (pv 0) .nil)), rfl, fun a ds QD ⟨p, q, r, e, k⟩ => ?_⟩
  subst e
  exact ⟨rfl, Nat.zero_le _, rfl, Nat.le_of_ble_eq_true rfl, rfl, Nat.le_of_ble_eq_true rfl, k⟩
end Fv
set_option maxRecDepth 100000
set_option maxHeartbeats 4000000
/-! Rows, posts asked for, cords of debts. -/
namespace Fv
open PySem PySem.Spec PyProof.Rows L2 Gb
open PySem.W (T4)
def fNeedPost : FB := fun ds n EX Q => ∃ (s : Nat) (M : Nat → Nat → Int) (d : PyData), ds = [.web s M, .py d] ∧ szD d ≤ 1000 ∧ if isBtw 0 ((s : Int) - 1) d = true then Q (.py .none) n else EX ⟨"NoPost", [("post", d)]⟩ n
def fRowWeb : FB := fun ds n EX Q => ∃ d, ds = [.py d] ∧ if isBtw 1 12 d = true then ∀ s : Nat, d = .int s → 1 ≤ s → s ≤ 12 → Q (.web s (matOf (rowW s))) n else EX (xPart "NoWeb" "size") n
def rowF : D → PyData
  | .py (.int i) => .tuple [.int i, .int (i + 1), .int 1, .int 1]
  | _ => .none
theorem rowF_map (s : Nat) : (rngD 0 ((s : Int) - 1).toNat).map rowF = (rowW s).map tieD := by
  have e : ((s : Int) - 1).toNat = s - 1 := by omega
  unfold rngD rowW
  rw [e, List.map_map, List.map_map]
  refine List.map_congr_left fun i hi => ?_
  show PyData.tuple [.int (0 + (i : Int)), .int (0 + (i : Int) + 1), .int 1, .int 1] = .tuple [.int (i : Int), .int ((i : Int) + 1), .int 1, .int 1]
  rw [Int.zero_add]
def fJoin : FB := fun ds n _ Q => ∃ s x y : Int, ds = [.py (.int s), .py (.int x), .py (.int y)] ∧ 0 < s + 3 ∧ Q (.py (cpD (joinI (s + 3) x y))) n
theorem sc_joining : FnScope ["size", "one", "other", "low", "high"] ["size", "one", "other"] (defScope s_joining) := ⟨rfl, rfl, rfl, by decide +kernel, rfl, by decide +kernel, by decide +kernel⟩
theorem ok_joining {F : Fx} (D : Dn F.K F.mg "joining" s_joining ["size", "one", "other"]) (bz : Bz F.mg) : ClB F 1 "joining" false fJoin := by
  refine cl_b D sc_joining (fun ds n EX QD h => ?_) (fun fa cdv A outer s H E pn B0 hr tk po => ?_)
  · obtain ⟨s, x, y, rfl, _⟩ := h
    rfl
  · have nd := sc_joining.nd
    refine ⟨_, _, (bss_cons (bs_asg (BN.e (bn_sorted hr.units (by rfl) bz.sorted (BN.l (bn_lst (ba_cons (be_mod (be_nm 1 (pv 1)) (be_add (be_nm 0 (pv 0)) be_int)) (ba_cons (be_mod (be_nm 2 (pv 2)) (be_add (be_nm 0 (pv 0)) be_int)) ba_nil)))))) (bg_unl (bgs_cons (bg_nm (pg_name (i := 3) nd rfl (.inl rfl))) (bgs_cons (bg_nm (pg_name (i := 4) nd rfl (.inl rfl))) bgs_nil (pgs_cons (pg_name (i := 4) nd rfl (.inl rfl)) pgs_nil)) (pgs_cons (pg_name (i := 3) nd rfl (.inl rfl)) (pgs_cons (pg_name (i := 4) nd rfl (.inl rfl)) pgs_nil))) (pg_unlK (n := 2) (by rfl) (pgs_cons (pg_name (i := 3) nd rfl (.inl rfl)) (pgs_cons (pg_name (i := 4) nd rfl (.inl rfl)) pgs_nil)))))
    (bss_one (bs_ret (be_tup (ba_cons (be_nm 3 (pv 3)) (ba_cons (be_nm 4 (pv 4)) ba_nil)))))), ?_⟩
    rintro _ n EX QD ⟨s, x, y, rfl, h3, q⟩
    simp only [startB, Nat.reduceAdd, Nat.reduceSub, List.replicate_succ, List.replicate_zero, wLc, wLc2, wISeq, wipeB, List.set_cons_succ, List.set_cons_zero, wgTup, wgCons, wgNil, wgNm, Bool.not_true, Bool.not_false, Bool.false_eq_true, if_true, if_false, List.map_cons, List.map_nil, List.length_cons, List.length_nil, List.cons_append, List.nil_append, wName, List.getElem?_cons_zero, List.getElem?_cons_succ, wC, wOp, wCall, wACons, wANil, wAndV, wOrV, wNotV, wIsi, wIsi2, wCmp, wChain, wChain3, wOfT, wIfE, wAnd, wOr, wNotT, bInt, bEq, bNe, bIsN, bNotN, bIn, bNotIn, wCall1, bLen, bAll, bAny, bSum, sRet, sRetN, sRetO, sIf, sSeq, sNil, sExpr, sSet, sAsg, sPar, wVE, wVN, wOfN, wOfE, wTup, wLst, pyAll, wSorted, bMod, bAdd, wOwnL, wOwn, wgUnl, Option.map_some]
    refine ⟨h3, h3, Nat.le_of_ble_eq_true rfl, trivial, ints_able [x % (s + 3), y % (s + 3)], ?_⟩
    rw [sort_two]
    exact ⟨rfl, rfl, Nat.le_of_ble_eq_true rfl, q⟩
def fCordOf : FB := fun ds n _ Q => ∃ s p b : Int, ds = [.py (.int s), .py (.int p), .py (.int b)] ∧ 0 < s + 3 ∧ Q (.py (cordD (cordI s p b))) n
def fCordAt : FB := fun ds n EX Q => ∃ d p b : PyData, ds = [.py d, .py p, .py b] ∧ szD p ≤ 1000 ∧ szD b ≤ 1000 ∧
  if isBtw 1 12 d = true then ∀ s : Nat, d = .int s → 1 ≤ s → s ≤ 12 → (if isBtw 0 ((s : Int) - 1) p = true then (if isBtw 0 ((s : Int) + 2) b = true then ∀ i j : Int, p = .int i → b = .int j → Q (.py (cordD (cordI s i j))) n else EX ⟨"NoBeats", [("beats", b)]⟩ n) else EX ⟨"NoPost", [("post", p)]⟩ n) else EX (xPart "NoWeb" "size") n
end Fv
set_option maxRecDepth 100000
set_option maxHeartbeats 4000000
/-! The law's own cords. -/
namespace Fv
open PySem PySem.Spec PyProof.Rows L2 Gb
open PySem.W (T4)
theorem sc__law_corners : FnScope ["size", "post", "beat", "half", "ring", "middle", "low", "high"] ["size", "post", "beat"] (defScope s__law_corners) := ⟨rfl, rfl, rfl, by decide +kernel, rfl, by decide +kernel, by decide +kernel⟩
theorem ok__law_corners {F : Fx} (D : Dn F.K F.mg "_law_corners" s__law_corners ["size", "post", "beat"]) (bz : Bz F.mg) : ClB F 1 "_law_corners" false fCordOf := by
  refine cl_b D sc__law_corners (fun ds n EX QD h => ?_) (fun fa cdv A outer s H E pn B0 hr tk po => ?_)
  · obtain ⟨s, p, b, rfl, _⟩ := h
    rfl
  · have nd := sc__law_corners.nd
    refine ⟨_, _, (bss_cons (bs_parV (i := 3) (j := 4) nd (BE.toV (be_mod (be_add (be_nm 1 (pv 1)) (be_nm 2 (pv 2))) be_int)) (BE.toV (be_add (be_nm 0 (pv 0)) be_int)) rfl rfl rfl (by decide) rfl rfl (by rfl))
    (bss_cons (bs_setV (i := 5) (BE.toV (be_sub be_int (be_div (be_add (be_nm 2 (pv 2)) (be_nm 3 (pv 3))) be_int))) nd rfl (.inl rfl))
    (bss_cons (bs_asg (BN.e (bn_sorted hr.units (by rfl) bz.sorted (BN.l (bn_lst (ba_cons (be_mod (be_sub (be_nm 5 (pv 5)) (be_div (be_add (be_nm 1 (pv 1)) be_int) be_int)) (be_nm 4 (pv 4))) (ba_cons (be_mod (be_add (be_add (be_nm 5 (pv 5)) be_int) (be_div (be_nm 1 (pv 1)) be_int)) (be_nm 4 (pv 4))) ba_nil)))))) (bg_unl (bgs_cons (bg_nm (pg_name (i := 6) nd rfl (.inl rfl))) (bgs_cons (bg_nm (pg_name (i := 7) nd rfl (.inl rfl))) bgs_nil (pgs_cons (pg_name (i := 7) nd rfl (.inl rfl)) pgs_nil)) (pgs_cons (pg_name (i := 6) nd rfl (.inl rfl)) (pgs_cons (pg_name (i := 7) nd rfl (.inl rfl)) pgs_nil))) (pg_unlK (n := 2) (by rfl) (pgs_cons (pg_name (i := 6) nd rfl (.inl rfl)) (pgs_cons (pg_name (i := 7) nd rfl (.inl rfl)) pgs_nil)))))
    (bss_one (bs_ret (be_tup (ba_cons (be_nm 3 (pv 3)) (ba_cons (be_nm 6 (pv 6)) (ba_cons (be_nm 7 (pv 7)) ba_nil))))))))), ?_⟩
    rintro _ n EX QD ⟨s, p, b, rfl, h3, q⟩
    simp only [startB, Nat.reduceAdd, Nat.reduceSub, List.replicate_succ, List.replicate_zero, wLc, wLc2, wISeq, wipeB, List.set_cons_succ, List.set_cons_zero, wgTup, wgCons, wgNil, wgNm, Bool.not_true, Bool.not_false, Bool.false_eq_true, if_true, if_false, List.map_cons, List.map_nil, List.length_cons, List.length_nil, List.cons_append, List.nil_append, wName, List.getElem?_cons_zero, List.getElem?_cons_succ, wC, wOp, wCall, wACons, wANil, wAndV, wOrV, wNotV, wIsi, wIsi2, wCmp, wChain, wChain3, wOfT, wIfE, wAnd, wOr, wNotT, bInt, bEq, bNe, bIsN, bNotN, bIn, bNotIn, wCall1, bLen, bAll, bAny, bSum, sRet, sRetN, sRetO, sIf, sSeq, sNil, sExpr, sSet, sAsg, sPar, wVE, wVN, wOfN, wOfE, wTup, wLst, pyAll, wSorted, bMod, bAdd, bDiv, bSub, wOwnL, wOwn, wgUnl, Option.map_some]
    refine ⟨by decide, ⟨by decide, by decide⟩, ⟨by decide, by decide⟩, h3, ⟨by decide, by decide⟩, h3, Nat.le_of_ble_eq_true rfl, trivial, ints_able [_, _], ?_⟩
    rw [sort_two, Int.zero_sub]
    exact ⟨rfl, rfl, Nat.le_of_ble_eq_true rfl, q⟩
def fLRow : FB := fun ds n _ Q => ∃ s : Nat, ds = [.py (.int (s : Int))] ∧ s ≤ 12 ∧ Q (.py (.list ((rowW s).map tieD))) n
theorem sc__law_row : FnScope ["size", "post"] ["size"] (defScope s__law_row) := ⟨rfl, rfl, rfl, by decide +kernel, rfl, by decide +kernel, by decide +kernel⟩
theorem ok__law_row {F : Fx} (D : Dn F.K F.mg "_law_row" s__law_row ["size"]) (bz : Bz F.mg) : ClB F 1 "_law_row" true fLRow := by
  refine cl_b D sc__law_row (fun ds n EX QD h => ?_) (fun fa cdv A outer s H E pn B0 hr tk po => ?_)
  · obtain ⟨s, rfl, _⟩ := h
    rfl
  · have nd := sc__law_row.nd
    refine ⟨_, _, (bss_one (bs_retN (bn_lc (own := [("post", 1)]) rfl nd (bi_rng1 (by rfl) bz.range (be_sub (be_nm 0 (pv 0)) be_int)) (blkOk_by (N := ["size", "post"]) (sc := defScope s__law_row) (by decide +kernel)) (fun _ _ _ _ _ => (bg_nm (pg_name (i := 1) nd rfl (.inl rfl)))) (fun _ _ _ _ _ => bts_nil) (fun _ _ _ _ _ => (be_tup (ba_cons (be_nm 1 (pv 1)) (ba_cons (be_add (be_nm 1 (pv 1)) be_int) (ba_cons be_int (ba_cons be_int ba_nil))))))))), ?_⟩
    rintro _ n EX QD ⟨s, rfl, h12, q⟩
    simp only [startB, Nat.reduceAdd, Nat.reduceSub, List.replicate_succ, List.replicate_zero, wLc, wLc2, wISeq, wipeB, List.set_cons_succ, List.set_cons_zero, wgTup, wgCons, wgNil, wgNm, Bool.not_true, Bool.not_false, Bool.false_eq_true, if_true, if_false, List.map_cons, List.map_nil, List.length_cons, List.length_nil, List.cons_append, List.nil_append, wName, List.getElem?_cons_zero, List.getElem?_cons_succ, wC, wOp, wCall, wACons, wANil, wAndV, wOrV, wNotV, wIsi, wIsi2, wCmp, wChain, wChain3, wOfT, wIfE, wAnd, wOr, wNotT, bInt, bEq, bNe, bIsN, bNotN, bIn, bNotIn, wCall1, bLen, bAll, bAny, bSum, sRet, sRetN, sRetO, sIf, sSeq, sNil, sExpr, sSet, sAsg, sPar, wVE, wVN, wOfN, wOfE, wTup, wLst, pyAll, wIR1, bSub]
    refine ⟨by omega, by omega, ?_⟩
    refine lc_map rowF _ _ (fun z hz P R p => ?_) ?_
    · obtain ⟨k, _, rfl⟩ := List.mem_map.mp hz
      simp only [startB, Nat.reduceAdd, Nat.reduceSub, List.replicate_succ, List.replicate_zero, wLc, wLc2, wISeq, wipeB, List.set_cons_succ, List.set_cons_zero, wgTup, wgCons, wgNil, wgNm, Bool.not_true, Bool.not_false, Bool.false_eq_true, if_true, if_false, List.map_cons, List.map_nil, List.length_cons, List.length_nil, List.cons_append, List.nil_append, wName, List.getElem?_cons_zero, List.getElem?_cons_succ, wC, wOp, wCall, wACons, wANil, wAndV, wOrV, wNotV, wIsi, wIsi2, wCmp, wChain, wChain3, wOfT, wIfE, wAnd, wOr, wNotT, bInt, bEq, bNe, bIsN, bNotN, bIn, bNotIn, wCall1, bLen, bAll, bAny, bSum, sRet, sRetN, sRetO, sIf, sSeq, sNil, sExpr, sSet, sAsg, sPar, wVE, wVN, wOfN, wOfE, wTup, wLst, pyAll, wYes, bAdd]
      exact ⟨Nat.le_of_ble_eq_true rfl, p⟩
    · rw [List.nil_append, rowF_map]
      exact q
def cordsAt (s l : Int) : List (Int × Int) := ((List.range (s + 3 - (l + 2)).toNat).map fun (k : Nat) => (l, l + 2 + (k : Int))).filter fun c => !decide (c = (0, s + 2))
def acP (s l : Int) : D → Bool
  | .py (.int h) => !decide ((l, h) = (0, s + 2))
  | _ => false
def acF (l : Int) : D → PyData
  | .py (.int h) => cpD (l, h)
  | _ => .none
theorem ac_map (s l : Int) : ((rngD (l + 2) (s + 3 - (l + 2)).toNat).filter (acP s l)).map (acF l) = (cordsAt s l).map cpD := by
  unfold rngD cordsAt
  rw [List.filter_map, List.filter_map, List.map_map, List.map_map]
  rfl
theorem cordsAt_len {s l : Int} (h0 : 0 ≤ l) (hs : s ≤ 12) : (cordsAt s l).length ≤ 15 := by
  unfold cordsAt
  refine Nat.le_trans (List.length_filter_le _ _) ?_
  rw [List.length_map, List.length_range]
  omega
def acU (s : Int) (i : Nat) : List (Int × Int) := (List.range i).flatMap fun (l : Nat) => cordsAt s (l : Int)
theorem acU_succ {s : Int} {i : Nat} : acU s (i + 1) = acU s i ++ cordsAt s (i : Int) := by
  unfold acU
  rw [List.range_succ, List.flatMap_append, List.flatMap_cons, List.flatMap_nil, List.append_nil]
theorem acU_len {s : Int} (hs : s ≤ 12) : ∀ i : Nat, (acU s i).length ≤ 15 * i
  | 0 => by simp [acU]
  | i + 1 => by
    have h1 := acU_len hs i
    have h2 := cordsAt_len (s := s) (l := (i : Int)) (by omega) hs
    rw [acU_succ, List.length_append]
    omega
def fLAllC : FB := fun ds n _ Q => ∃ s : Int, ds = [.py (.int s)] ∧ 1 ≤ s ∧ s ≤ 12 ∧ Q (.py (.list ((allC s).map cpD))) n
theorem sc__law_all_cords : FnScope ["size", "found", "low", "high"] ["size"] (defScope s__law_all_cords) := ⟨rfl, rfl, rfl, by decide +kernel, rfl, by decide +kernel, by decide +kernel⟩
theorem ok__law_all_cords {F : Fx} (D : Dn F.K F.mg "_law_all_cords" s__law_all_cords ["size"]) (bz : Bz F.mg) : ClB F 1 "_law_all_cords" true fLAllC := by
  refine cl_b D sc__law_all_cords (fun ds n EX QD h => ?_) (fun fa cdv A outer s H E pn B0 hr tk po => ?_)
  · obtain ⟨s, rfl, _⟩ := h
    rfl
  · have nd := sc__law_all_cords.nd
    refine ⟨_, _, (bss_cons (bs_setV (i := 1) (BN.toV (bn_lst ba_nil)) nd rfl (.inl rfl))
    (bss_cons (bs_for po rfl (bi_rng1 (by rfl) bz.range (be_add (be_nm 0 (pv 0)) be_int)) (bg_nm (pg_name (i := 2) nd rfl (.inr rfl)))
    (bss_one (bs_extendV 1 (pv 1) (BN.l (bn_lc (own := [("high", 3)]) rfl nd (bi_rng2 (by rfl) bz.range (be_add (be_nm 2 (pv 2)) be_int) (be_add (be_nm 0 (pv 0)) be_int)) (blkOk_by (N := ["size", "found", "low", "high"]) (sc := defScope s__law_all_cords) (by decide +kernel)) (fun _ _ _ _ _ => (bg_nm (pg_name (i := 3) nd rfl (.inl rfl)))) (fun _ _ _ _ _ => (bts_one (bt_ne (by exact hr.units) (BE.f (be_tup (ba_cons (be_nm 2 (pv 2)) (ba_cons (be_nm 3 (pv 3)) ba_nil)))) (BE.f (be_tup (ba_cons be_int (ba_cons (be_add (be_nm 0 (pv 0)) be_int) ba_nil)))) rfl))) (fun _ _ _ _ _ => (be_tup (ba_cons (be_nm 2 (pv 2)) (ba_cons (be_nm 3 (pv 3)) ba_nil)))))))))
    (bss_one (bs_retO 1 (pv 1))))), ?_⟩
    rintro _ n EX QD ⟨s, rfl, h1, h12, q⟩
    simp only [startB, Nat.reduceAdd, Nat.reduceSub, List.replicate_succ, List.replicate_zero, wLc, wLc2, wISeq, wipeB, List.set_cons_succ, List.set_cons_zero, wgTup, wgCons, wgNil, wgNm, Bool.not_true, Bool.not_false, Bool.false_eq_true, if_true, if_false, List.map_cons, List.map_nil, List.length_cons, List.length_nil, List.cons_append, List.nil_append, wName, List.getElem?_cons_zero, List.getElem?_cons_succ, wC, wOp, wCall, wACons, wANil, wAndV, wOrV, wNotV, wIsi, wIsi2, wCmp, wChain, wChain3, wOfT, wIfE, wAnd, wOr, wNotT, bInt, bEq, bNe, bIsN, bNotN, bIn, bNotIn, wCall1, bLen, bAll, bAny, bSum, sRet, sRetN, sRetO, sIf, sSeq, sNil, sExpr, sSet, sAsg, sPar, wVE, wVN, wOfN, wOfE, wTup, wLst, pyAll, sFor, wIR1, bAdd]
    refine ⟨Nat.zero_le _, by omega, by omega, ?_⟩
    refine for_inv (fun i ρ n' => n' = n ∧ ∃ v2 v3, ρ = [.val (.py (.int s)), .own ((acU s i).map cpD), v2, v3]) _ 0 _ _ _ (fun j d ρ n' DB' hd hI hrt hbk hnx hct => ?_) ⟨rfl, _, _, rfl⟩ (fun ρ' n' hI => ?_)
    · obtain ⟨rfl, v2, v3, rfl⟩ := hI
      obtain ⟨hj, rfl⟩ := rng0 hd
      rw [Nat.zero_add] at *
      simp only [startB, Nat.reduceAdd, Nat.reduceSub, List.replicate_succ, List.replicate_zero, wLc, wLc2, wISeq, wipeB, List.set_cons_succ, List.set_cons_zero, wgTup, wgCons, wgNil, wgNm, Bool.not_true, Bool.not_false, Bool.false_eq_true, if_true, if_false, List.map_cons, List.map_nil, List.length_cons, List.length_nil, List.cons_append, List.nil_append, wName, List.getElem?_cons_zero, List.getElem?_cons_succ, wC, wOp, wCall, wACons, wANil, wAndV, wOrV, wNotV, wIsi, wIsi2, wCmp, wChain, wChain3, wOfT, wIfE, wAnd, wOr, wNotT, bInt, bEq, bNe, bIsN, bNotN, bIn, bNotIn, wCall1, bLen, bAll, bAny, bSum, sRet, sRetN, sRetO, sIf, sSeq, sNil, sExpr, sSet, sAsg, sPar, wVE, wVN, wOfN, wOfE, wTup, wLst, pyAll, sExtend, wOfN, wOwnL, wOwn, wIR2, bAdd]
      refine ⟨⟨by omega, by omega, by omega, by omega⟩, by omega, ?_⟩
      refine lc_filter (acP s (j : Int)) (acF (j : Int)) _ _ (fun z hz P R p1 p2 => ?_) ?_
      · obtain ⟨k, _, rfl⟩ := List.mem_map.mp hz
        simp only [startB, Nat.reduceAdd, Nat.reduceSub, List.replicate_succ, List.replicate_zero, wLc, wLc2, wISeq, wipeB, List.set_cons_succ, List.set_cons_zero, wgTup, wgCons, wgNil, wgNm, Bool.not_true, Bool.not_false, Bool.false_eq_true, if_true, if_false, List.map_cons, List.map_nil, List.length_cons, List.length_nil, List.cons_append, List.nil_append, wName, List.getElem?_cons_zero, List.getElem?_cons_succ, wC, wOp, wCall, wACons, wANil, wAndV, wOrV, wNotV, wIsi, wIsi2, wCmp, wChain, wChain3, wOfT, wIfE, wAnd, wOr, wNotT, bInt, bEq, bNe, bIsN, bNotN, bIn, bNotIn, wCall1, bLen, bAll, bAny, bSum, sRet, sRetN, sRetO, sIf, sSeq, sNil, sExpr, sSet, sAsg, sPar, wVE, wVN, wOfN, wOfE, wTup, wLst, pyAll, bAdd, Option.map_some]
        refine ⟨Nat.le_of_ble_eq_true rfl, Nat.le_of_ble_eq_true rfl, shaped_pair _ _, shaped_pair _ _, ?_⟩
        rw [eqv_pair]
        by_cases hc : (j : Int) = 0 ∧ (j : Int) + 2 + (k : Int) = s + 2
        · have e : acP s (j : Int) (.py (.int ((j : Int) + 2 + (k : Int)))) = false := by
            show (!decide (((j : Int), (j : Int) + 2 + (k : Int)) = (0, s + 2))) = false
            rw [decide_eq_true (Prod.ext hc.1 hc.2)]
            rfl
          rw [decide_eq_true hc.1, decide_eq_true hc.2]
          exact p2 e
        · have e : acP s (j : Int) (.py (.int ((j : Int) + 2 + (k : Int)))) = true := by
            show (!decide (((j : Int), (j : Int) + 2 + (k : Int)) = (0, s + 2))) = true
            rw [decide_eq_false fun z => hc ⟨congrArg Prod.fst z, congrArg Prod.snd z⟩]
            rfl
          have e2 : (decide ((j : Int) = 0) && decide ((j : Int) + 2 + (k : Int) = s + 2)) = false := by
            rw [Bool.and_eq_false_iff, decide_eq_false_iff_not, decide_eq_false_iff_not]
            omega
          rw [e2]
          exact ⟨Nat.le_of_ble_eq_true rfl, p1 e⟩
      · rw [List.nil_append, ac_map]
        have l1 := acU_len h12 j
        have l2 := cordsAt_len (s := s) (l := (j : Int)) (by omega) h12
        refine ⟨trivial, by rw [List.length_map, List.length_map]; omega, hnx _ _ ⟨rfl, .val (.py (.int (j : Int))), v3, ?_⟩⟩
        rw [acU_succ, List.map_append]
        try rfl
    · obtain ⟨rfl, v2, v3, rfl⟩ := hI
      rw [rngD_len, Nat.zero_add]
      simp only [startB, Nat.reduceAdd, Nat.reduceSub, List.replicate_succ, List.replicate_zero, wLc, wLc2, wISeq, wipeB, List.set_cons_succ, List.set_cons_zero, wgTup, wgCons, wgNil, wgNm, Bool.not_true, Bool.not_false, Bool.false_eq_true, if_true, if_false, List.map_cons, List.map_nil, List.length_cons, List.length_nil, List.cons_append, List.nil_append, wName, List.getElem?_cons_zero, List.getElem?_cons_succ, wC, wOp, wCall, wACons, wANil, wAndV, wOrV, wNotV, wIsi, wIsi2, wCmp, wChain, wChain3, wOfT, wIfE, wAnd, wOr, wNotT, bInt, bEq, bNe, bIsN, bNotN, bIn, bNotIn, wCall1, bLen, bAll, bAny, bSum, sRet, sRetN, sRetO, sIf, sSeq, sNil, sExpr, sSet, sAsg, sPar, wVE, wVN, wOfN, wOfE, wTup, wLst, pyAll]
      exact q
end Fv
set_option maxRecDepth 100000
set_option maxHeartbeats 4000000
/-! Cords looked at, and turned by a beat. -/
namespace Fv
open PySem PySem.Spec PyProof.Rows L2 Gb
open PySem.W (T4)
abbrev cmsD (L : List Cm) : List PyData := L.map cmD
def rowK (k : Bool) (L : List Cm) : PyData := if k = true then .tuple (cmsD L) else .list (cmsD L)
def cordOk (s : Int) : PyData → Bool
  | .tuple [.int a, .int b, .int m] => decide (0 ≤ a) && ((decide (a + 2 ≤ b) && decide (b ≤ s + 2)) && (decide (b - a ≤ s + 1) && decide (m ≥ 1)))
  | _ => false
theorem row3 {d : PyData} (h : wholeRow 3 d = true) : ∃ a b c : Int, d = .tuple [.int a, .int b, .int c] := by
  cases d with
  | tuple ds =>
    unfold wholeRow at h
    rw [Bool.and_eq_true, decide_eq_true_eq] at h
    have e := wholes h.2
    match ds, h, e with
    | [x, y, z], _, e =>
      rw [e]
      exact ⟨_, _, _, rfl⟩
    | [], h, _ => exact absurd h.1 (by decide)
    | [_], h, _ => exact absurd h.1 (by simp)
    | [_, _], h, _ => exact absurd h.1 (by simp)
    | _ :: _ :: _ :: _ :: _, h, _ =>
      have := h.1
      simp only [List.length_cons] at this
      omega
  | _ => cases h
theorem cord_no {s : Int} {d : PyData} (h : wholeRow 3 d = false) : cordOk s d = false := by
  unfold cordOk
  split
  · cases h
  · rfl
def fIsCord : FB := fun ds n _ Q => ∃ (s : Int) (d : PyData), ds = [.py (.int s), .py d] ∧ Q (.py (.bool (cordOk s d))) n
theorem sc_is_cord : FnScope ["size", "thing", "low", "high", "many"] ["size", "thing"] (defScope s_is_cord) := ⟨rfl, rfl, rfl, by decide +kernel, rfl, by decide +kernel, by decide +kernel⟩
theorem ok_is_cord {F : Fx} (D : Dn F.K F.mg "is_cord" s_is_cord ["size", "thing"]) (bz : Bz F.mg) (c_is_whole_row : ClB F 2 "is_whole_row" false fWholeRow) : ClB F 3 "is_cord" false fIsCord := by
  refine cl_b D sc_is_cord (fun ds n EX QD h => ?_) (fun fa cdv A outer s H E pn B0 hr tk po => ?_)
  · obtain ⟨s, d, rfl, _⟩ := h
    rfl
  · have nd := sc_is_cord.nd
    refine ⟨_, _, (bss_cons (bs_if (bt_not (bt_val (be_call c_is_whole_row hr (by decide) (by rfl) tk (ba_cons (be_nm 1 (pv 1)) (ba_cons be_int ba_nil)))))
    (bss_one (bs_ret be_bl))
    bss_nil)
    (bss_cons (bs_asg (be_nm 1 (pv 1)) (bg_tup (bgs_cons (bg_nm (pg_name (i := 2) nd rfl (.inl rfl))) (bgs_cons (bg_nm (pg_name (i := 3) nd rfl (.inl rfl))) (bgs_cons (bg_nm (pg_name (i := 4) nd rfl (.inl rfl))) bgs_nil (pgs_cons (pg_name (i := 4) nd rfl (.inl rfl)) pgs_nil)) (pgs_cons (pg_name (i := 3) nd rfl (.inl rfl)) (pgs_cons (pg_name (i := 4) nd rfl (.inl rfl)) pgs_nil))) (pgs_cons (pg_name (i := 2) nd rfl (.inl rfl)) (pgs_cons (pg_name (i := 3) nd rfl (.inl rfl)) (pgs_cons (pg_name (i := 4) nd rfl (.inl rfl)) pgs_nil)))) (pg_tupK (n := 3) (by rfl) (pgs_cons (pg_name (i := 2) nd rfl (.inl rfl)) (pgs_cons (pg_name (i := 3) nd rfl (.inl rfl)) (pgs_cons (pg_name (i := 4) nd rfl (.inl rfl)) pgs_nil))))))
    (bss_one (bs_ret (be_and (be_le (BE.f be_int) (BE.f (be_nm 2 (pv 2)))) (be_and (be_chain op_le op_le of_int of_int (BE.f (be_add (be_nm 2 (pv 2)) be_int)) (BE.f (be_nm 3 (pv 3))) (BE.f (be_add (be_nm 0 (pv 0)) be_int))) (be_and (be_le (BE.f (be_sub (be_nm 3 (pv 3)) (be_nm 2 (pv 2)))) (BE.f (be_add (be_nm 0 (pv 0)) be_int))) (be_one (be_ge (BE.f (be_nm 4 (pv 4))) (BE.f be_int)))))))))), ?_⟩
    rintro _ n EX QD ⟨s, d, rfl, q⟩
    simp only [startB, Nat.reduceAdd, Nat.reduceSub, List.replicate_succ, List.replicate_zero, wLc, wLc2, wISeq, wipeB, List.set_cons_succ, List.set_cons_zero, wgTup, wgCons, wgNil, wgNm, Bool.not_true, Bool.not_false, Bool.false_eq_true, if_true, if_false, List.map_cons, List.map_nil, List.length_cons, List.length_nil, List.cons_append, List.nil_append, wName, List.getElem?_cons_zero, List.getElem?_cons_succ, wC, wOp, wCall, wACons, wANil, wAndV, wOrV, wNotV, wIsi, wIsi2, wCmp, wChain, wChain3, wOfT, wIfE, wAnd, wOr, wNotT, bInt, bEq, bNe, bIsN, bNotN, bIn, bNotIn, wCall1, bLen, bAll, bAny, bSum, sRet, sRetN, sRetO, sIf, sSeq, sNil, sExpr, sSet, sAsg, sPar, wVE, wVN, wOfN, wOfE, wTup, wLst, pyAll, fWholeRow, bAdd, bSub]
    refine ⟨d, 3, rfl, ?_⟩
    cases hw : wholeRow 3 d with
    | false =>
      rw [cord_no hw] at q
      exact q
    | true =>
      obtain ⟨a, b, m, rfl⟩ := row3 hw
      simp only [startB, Nat.reduceAdd, Nat.reduceSub, List.replicate_succ, List.replicate_zero, wLc, wLc2, wISeq, wipeB, List.set_cons_succ, List.set_cons_zero, wgTup, wgCons, wgNil, wgNm, Bool.not_true, Bool.not_false, Bool.false_eq_true, if_true, if_false, List.map_cons, List.map_nil, List.length_cons, List.length_nil, List.cons_append, List.nil_append, wName, List.getElem?_cons_zero, List.getElem?_cons_succ, wC, wOp, wCall, wACons, wANil, wAndV, wOrV, wNotV, wIsi, wIsi2, wCmp, wChain, wChain3, wOfT, wIfE, wAnd, wOr, wNotT, bInt, bEq, bNe, bIsN, bNotN, bIn, bNotIn, wCall1, bLen, bAll, bAny, bSum, sRet, sRetN, sRetO, sIf, sSeq, sNil, sExpr, sSet, sAsg, sPar, wVE, wVN, wOfN, wOfE, wTup, wLst, pyAll, cordOk] at q ⊢
      refine ⟨trivial, trivial, ?_⟩
      by_cases h1 : 0 ≤ a
      · by_cases h2 : a + 2 ≤ b
        · by_cases h3 : b ≤ s + 2
          · by_cases h4 : b - a ≤ s + 1
            · simp only [decide_eq_true h1, decide_eq_true h2, decide_eq_true h3, decide_eq_true h4, Bool.true_and, if_true] at q ⊢
              exact q
            · simp only [decide_eq_true h1, decide_eq_true h2, decide_eq_true h3, decide_eq_false h4, Bool.true_and, Bool.false_and, if_true, Bool.false_eq_true, if_false] at q ⊢
              exact q
          · simp only [decide_eq_true h1, decide_eq_true h2, decide_eq_false h3, Bool.true_and, Bool.and_false, Bool.false_and, if_true, Bool.false_eq_true, if_false] at q ⊢
            exact q
        · simp only [decide_eq_true h1, decide_eq_false h2, Bool.true_and, Bool.and_false, Bool.false_and, if_true, Bool.false_eq_true, if_false] at q ⊢
          exact q
      · simp only [decide_eq_false h1, Bool.false_and, Bool.false_eq_true, if_false] at q ⊢
        exact q
theorem sortC_eq {L L' : List Cm} (p : L'.Perm L) (h : L'.Pairwise CLe) : sortC L = L' := by
  have := sortC_perm p.symm
  rw [this]
  exact ((sortC_of L').eq_of_pairwise (fun a b _ _ h1 h2 => by
    have h1 := of_decide_eq_true h1
    have h2 := of_decide_eq_true h2
    unfold CLe at h1 h2
    exact Prod.ext (Prod.ext (by omega) (by omega)) (by omega)) (sortC_pw L') (h.imp fun h => decide_eq_true h))
theorem sort2 (a b : Cm) : sortC [a, b] = [a, b] ∧ CLe a b ∨ sortC [a, b] = [b, a] ∧ CLe b a := by
  by_cases h : CLe a b
  · exact .inl ⟨sortC_eq (.refl _) (List.pairwise_cons.mpr ⟨fun c hc => by rw [List.mem_singleton.mp hc]; exact h, List.pairwise_singleton _ _⟩), h⟩
  · have h' : CLe b a := by
      unfold CLe at h ⊢
      omega
    exact .inr ⟨sortC_eq (.swap _ _ _) (List.pairwise_cons.mpr ⟨fun c hc => by rw [List.mem_singleton.mp hc]; exact h', List.pairwise_singleton _ _⟩), h'⟩
def fCrossed : FB := fun ds n _ Q => ∃ a b : Cm, ds = [.py (cmD a), .py (cmD b)] ∧ Q (.py (.bool (decide (a.1 = b.1) || crossI a.1 b.1))) n
theorem sc_are_crossed : FnScope ["one", "other", "first", "second", "low", "high", "_", "below", "above"] ["one", "other"] (defScope s_are_crossed) := ⟨rfl, rfl, rfl, by decide +kernel, rfl, by decide +kernel, by decide +kernel⟩
theorem ok_are_crossed {F : Fx} (D : Dn F.K F.mg "are_crossed" s_are_crossed ["one", "other"]) (bz : Bz F.mg)  : ClB F 2 "are_crossed" false fCrossed := by
  refine cl_b D sc_are_crossed (fun ds n EX QD h => ?_) (fun fa cdv A outer s H E pn B0 hr tk po => ?_)
  · obtain ⟨a, b, rfl, _⟩ := h
    rfl
  · have nd := sc_are_crossed.nd
    refine ⟨_, _, (bss_cons (bs_asg (BN.e (bn_sorted hr.units (by rfl) bz.sorted (BN.l (bn_lst (ba_cons (be_nm 0 (pv 0)) (ba_cons (be_nm 1 (pv 1)) ba_nil)))))) (bg_unl (bgs_cons (bg_nm (pg_name (i := 2) nd rfl (.inl rfl))) (bgs_cons (bg_nm (pg_name (i := 3) nd rfl (.inl rfl))) bgs_nil (pgs_cons (pg_name (i := 3) nd rfl (.inl rfl)) pgs_nil)) (pgs_cons (pg_name (i := 2) nd rfl (.inl rfl)) (pgs_cons (pg_name (i := 3) nd rfl (.inl rfl)) pgs_nil))) (pg_unlK (n := 2) (by rfl) (pgs_cons (pg_name (i := 2) nd rfl (.inl rfl)) (pgs_cons (pg_name (i := 3) nd rfl (.inl rfl)) pgs_nil)))))
    (bss_cons (bs_asg (be_nm 2 (pv 2)) (bg_tup (bgs_cons (bg_nm (pg_name (i := 4) nd rfl (.inl rfl))) (bgs_cons (bg_nm (pg_name (i := 5) nd rfl (.inl rfl))) (bgs_cons (bg_nm (pg_name (i := 6) nd rfl (.inl rfl))) bgs_nil (pgs_cons (pg_name (i := 6) nd rfl (.inl rfl)) pgs_nil)) (pgs_cons (pg_name (i := 5) nd rfl (.inl rfl)) (pgs_cons (pg_name (i := 6) nd rfl (.inl rfl)) pgs_nil))) (pgs_cons (pg_name (i := 4) nd rfl (.inl rfl)) (pgs_cons (pg_name (i := 5) nd rfl (.inl rfl)) (pgs_cons (pg_name (i := 6) nd rfl (.inl rfl)) pgs_nil)))) (pg_tupK (n := 3) (by rfl) (pgs_cons (pg_name (i := 4) nd rfl (.inl rfl)) (pgs_cons (pg_name (i := 5) nd rfl (.inl rfl)) (pgs_cons (pg_name (i := 6) nd rfl (.inl rfl)) pgs_nil))))))
    (bss_cons (bs_asg (be_nm 3 (pv 3)) (bg_tup (bgs_cons (bg_nm (pg_name (i := 7) nd rfl (.inl rfl))) (bgs_cons (bg_nm (pg_name (i := 8) nd rfl (.inl rfl))) (bgs_cons (bg_nm (pg_name (i := 6) nd rfl (.inl rfl))) bgs_nil (pgs_cons (pg_name (i := 6) nd rfl (.inl rfl)) pgs_nil)) (pgs_cons (pg_name (i := 8) nd rfl (.inl rfl)) (pgs_cons (pg_name (i := 6) nd rfl (.inl rfl)) pgs_nil))) (pgs_cons (pg_name (i := 7) nd rfl (.inl rfl)) (pgs_cons (pg_name (i := 8) nd rfl (.inl rfl)) (pgs_cons (pg_name (i := 6) nd rfl (.inl rfl)) pgs_nil)))) (pg_tupK (n := 3) (by rfl) (pgs_cons (pg_name (i := 7) nd rfl (.inl rfl)) (pgs_cons (pg_name (i := 8) nd rfl (.inl rfl)) (pgs_cons (pg_name (i := 6) nd rfl (.inl rfl)) pgs_nil))))))
    (bss_cons (bs_if (bt_eq hr.units (BE.f (be_nm 4 (pv 4))) (BE.f (be_nm 7 (pv 7))))
    (bss_one (bs_ret (be_eq hr.units (BE.f (be_nm 5 (pv 5))) (BE.f (be_nm 8 (pv 8))))))
    bss_nil)
    (bss_one (bs_ret (be_chain op_lt op_lt of_int of_int (BE.f (be_nm 7 (pv 7))) (BE.f (be_nm 5 (pv 5))) (BE.f (be_nm 8 (pv 8)))))))))), ?_⟩
    rintro _ n EX QD ⟨a, b, rfl, q⟩
    simp only [startB, Nat.reduceAdd, Nat.reduceSub, List.replicate_succ, List.replicate_zero, wLc, wLc2, wISeq, wipeB, List.set_cons_succ, List.set_cons_zero, wgTup, wgCons, wgNil, wgNm, Bool.not_true, Bool.not_false, Bool.false_eq_true, if_true, if_false, List.map_cons, List.map_nil, List.length_cons, List.length_nil, List.cons_append, List.nil_append, wName, List.getElem?_cons_zero, List.getElem?_cons_succ, wC, wOp, wCall, wACons, wANil, wAndV, wOrV, wNotV, wIsi, wIsi2, wCmp, wChain, wChain3, wOfT, wIfE, wAnd, wOr, wNotT, bInt, bEq, bNe, bIsN, bNotN, bIn, bNotIn, wCall1, bLen, bAll, bAny, bSum, sRet, sRetN, sRetO, sIf, sSeq, sNil, sExpr, sSet, sAsg, sPar, wVE, wVN, wOfN, wOfE, wTup, wLst, pyAll, wSorted, wOwnL, wOwn, wgUnl, Option.map_some]
    refine ⟨Nat.le_of_ble_eq_true rfl, trivial, cm_able [a, b], ?_⟩
    rw [show [cmD a, cmD b] = cmsD [a, b] from rfl, sort_cm]
    have fin : ∀ x y : Cm, CLe x y → QD (.py (.bool (decide (x.1 = y.1) || crossI x.1 y.1))) n → (if (PyData.int x.1.1).eqv (.int y.1.1) = true then SeqAt.shaped (.int x.1.2) = true ∧ SeqAt.shaped (.int y.1.2) = true ∧ QD (.py (.bool ((PyData.int x.1.2).eqv (.int y.1.2)))) n
        else if decide (y.1.1 < x.1.2) = true then QD (.py (.bool (decide (x.1.2 < y.1.2)))) n else QD (.py (.bool false)) n) := fun x y hxy q => by
      rw [eqv_int, eqv_int]
      unfold CLe at hxy
      have e : (decide (x.1 = y.1) || crossI x.1 y.1) = if x.1.1 = y.1.1 then decide (x.1.2 = y.1.2) else (decide (y.1.1 < x.1.2) && decide (x.1.2 < y.1.2)) := by
        rw [Bool.eq_iff_iff, Bool.or_eq_true, decide_eq_true_eq, crossI_iff]
        by_cases h : x.1.1 = y.1.1
        · rw [if_pos h, decide_eq_true_eq]
          refine ⟨fun z => ?_, fun z => .inl (Prod.ext h z)⟩
          rcases z with z | z
          · exact congrArg Prod.snd z
          · omega
        · rw [if_neg h, Bool.and_eq_true, decide_eq_true_eq, decide_eq_true_eq]
          refine ⟨fun z => ?_, fun z => .inr (by omega)⟩
          rcases z with z | z
          · exact absurd (congrArg Prod.fst z) h
          · omega
      rw [e] at q
      by_cases h : x.1.1 = y.1.1
      · rw [if_pos (decide_eq_true h)]
        rw [if_pos h] at q
        exact ⟨shaped_int _, shaped_int _, q⟩
      · rw [if_neg (by rw [decide_eq_true_eq]; exact h)]
        rw [if_neg h] at q
        by_cases h2 : y.1.1 < x.1.2
        · rw [if_pos (decide_eq_true h2)]
          rw [decide_eq_true h2, Bool.true_and] at q
          exact q
        · rw [if_neg (by rw [decide_eq_true_eq]; exact h2)]
          rw [decide_eq_false h2, Bool.false_and] at q
          exact q
    rcases sort2 a b with ⟨e, hc⟩ | ⟨e, hc⟩
    · rw [e]
      exact ⟨rfl, rfl, rfl, rfl, rfl, rfl, shaped_int _, shaped_int _, fin a b hc q⟩
    · rw [e]
      refine ⟨rfl, rfl, rfl, rfl, rfl, rfl, shaped_int _, shaped_int _, fin b a hc ?_⟩
      rw [crossI_comm, show decide (b.1 = a.1) = decide (a.1 = b.1) from decide_eq_decide.mpr ⟨Eq.symm, Eq.symm⟩]
      exact q
/-! ### good rows -/
theorem ok_cordOk {s : Int} {L : List Cm} (hs : 0 ≤ s) (h : OkL s L) {c : Cm} (hc : c ∈ L) : cordOk s (cmD c) = true := by
  have m := (mem_allC hs).mp (h.mem c hc)
  have p := h.pos c hc
  unfold cordOk cmD
  simp only [Bool.and_eq_true, decide_eq_true_eq]
  omega
def fRowGood : FB := fun ds n _ Q => ∃ (s : Nat) (k : Bool) (L : List Cm), ds = [.py (.int (s : Int)), .py (rowK k L)] ∧ OkL s L ∧ L.length ≤ 1000 ∧ Q (.py .none) n
theorem enumD_get {ds : List PyData} {j : Nat} {d : D} (h : (enumD ds)[j]? = some d) : ∃ e, ds[j]? = some e ∧ d = .py (.tuple [.int (j : Int), e]) := by
  unfold enumD at h
  rw [List.getElem?_map, List.getElem?_zipIdx] at h
  cases e : ds[j]? with
  | none =>
    rw [e] at h
    cases h
  | some x =>
    rw [e] at h
    refine ⟨x, rfl, ?_⟩
    have h := Option.some.inj h
    rw [← h]
    simp
theorem cms_get {L : List Cm} {j : Nat} {e : PyData} (h : (cmsD L)[j]? = some e) : ∃ c, L[j]? = some c ∧ e = cmD c := by
  unfold cmsD at h
  rw [List.getElem?_map] at h
  cases q : L[j]? with
  | none =>
    rw [q] at h
    cases h
  | some c =>
    rw [q] at h
    exact ⟨c, rfl, (Option.some.inj h).symm⟩
theorem ixN_cms {L : List Cm} {i : Nat} (h : i < L.length) : ixN (cmsD L).length (i : Int) = some i := by
  unfold cmsD
  rw [List.length_map]
  exact Gb.ixN_nat h
theorem rngL {lo : Int} {n j : Nat} {d : D} (h : (rngD lo n)[j]? = some d) : j < n ∧ d = .py (.int (lo + (j : Int))) := by
  have hj : j < n := by
    have := (List.getElem?_eq_some_iff.mp h).1
    rw [rngD_len] at this
    exact this
  refine ⟨hj, ?_⟩
  unfold rngD at h
  rw [List.getElem?_map, List.getElem?_range hj] at h
  exact (Option.some.inj h).symm
theorem atI_cms {L : List Cm} {i : Nat} (h : i < L.length) : L2.atI (cmsD L) (i : Int) = some (cmD L[i]) := by
  unfold L2.atI
  rw [ixN_cms h, Option.bind_some]
  unfold cmsD
  rw [List.getElem?_map, List.getElem?_eq_getElem h]
  rfl
theorem row_cases (k : Bool) (L : List Cm) : rowK k L = .list (cmsD L) ∨ rowK k L = .tuple (cmsD L) := by
  cases k
  · exact .inl rfl
  · exact .inr rfl
theorem sc_row_fault : FnScope ["size", "row", "one", "cord", "other"] ["size", "row"] (defScope s_row_fault) := ⟨rfl, rfl, rfl, by decide +kernel, rfl, by decide +kernel, by decide +kernel⟩
theorem ok_row_faultK {F : Fx} (D : Dn F.K F.mg "row_fault" s_row_fault ["size", "row"]) (bz : Bz F.mg) (c_is_cord : ClB F 3 "is_cord" false fIsCord) (c_are_crossed : ClB F 2 "are_crossed" false fCrossed) : ClB F 4 "row_fault" false fRowGood := by
  refine cl_b D sc_row_fault (fun ds n EX QD h => ?_) (fun fa cdv A outer s H E pn B0 hr tk po => ?_)
  · obtain ⟨s, k, L, rfl, _⟩ := h
    rfl
  · have nd := sc_row_fault.nd
    refine ⟨_, _, (bss_cons (bs_if (bt_not (bt_val (be_isi2 (T := "list") (T' := "tuple") (by decide) (by decide) (by rfl) bz.isinstance (BE.f (be_nm 1 (pv 1))) (pe_bltn (v := .ty "list") (u := .type "list") (by rfl) bz.list (by decide +kernel) rfl) (pe_bltn (v := .ty "tuple") (u := .type "tuple") (by rfl) bz.tuple (by decide +kernel) rfl))))
    (bss_one (bs_ret (be_tup (ba_cons be_non (ba_cons be_non ba_nil)))))
    bss_nil)
    (bss_cons (bs_for po rfl (bi_or (bi_enum2 (by rfl) bz.enumerate (be_nm 1 (pv 1))) (bi_enumT (by rfl) bz.enumerate (be_nm 1 (pv 1)))) (bg_tup (bgs_cons (bg_nm (pg_name (i := 2) nd rfl (.inl rfl))) (bgs_cons (bg_nm (pg_name (i := 3) nd rfl (.inl rfl))) bgs_nil (pgs_cons (pg_name (i := 3) nd rfl (.inl rfl)) pgs_nil)) (pgs_cons (pg_name (i := 2) nd rfl (.inl rfl)) (pgs_cons (pg_name (i := 3) nd rfl (.inl rfl)) pgs_nil))) (pg_tupK (n := 2) (by rfl) (pgs_cons (pg_name (i := 2) nd rfl (.inl rfl)) (pgs_cons (pg_name (i := 3) nd rfl (.inl rfl)) pgs_nil))))
    (bss_one (bs_if (bt_not (bt_val (be_call c_is_cord hr (by decide) (by rfl) tk (ba_cons (be_nm 0 (pv 0)) (ba_cons (be_nm 3 (pv 3)) ba_nil)))))
    (bss_one (bs_ret (be_tup (ba_cons (be_nm 2 (pv 2)) (ba_cons be_non ba_nil)))))
    bss_nil)))
    (bss_cons (bs_for po rfl (bi_rng1 (by rfl) bz.range (be_len (by rfl) bz.len (BE.f (be_nm 1 (pv 1))))) (bg_nm (pg_name (i := 2) nd rfl (.inl rfl)))
    (bss_one (bs_for po rfl (bi_rng2 (by rfl) bz.range (be_add (be_nm 2 (pv 2)) be_int) (be_len (by rfl) bz.len (BE.f (be_nm 1 (pv 1))))) (bg_nm (pg_name (i := 4) nd rfl (.inl rfl)))
    (bss_one (bs_if (bt_val (be_call c_are_crossed hr (by decide) (by rfl) tk (ba_cons (be_ix (BE.l (be_nm 1 (pv 1))) (be_nm 2 (pv 2))) (ba_cons (be_ix (BE.l (be_nm 1 (pv 1))) (be_nm 4 (pv 4))) ba_nil))))
    (bss_one (bs_ret (be_tup (ba_cons (be_nm 2 (pv 2)) (ba_cons (be_nm 4 (pv 4)) ba_nil)))))
    bss_nil)))))
    (bss_one (bs_ret be_non))))), ?_⟩
    rintro _ n EX QD ⟨s, k, L, rfl, ok, hl, q⟩
    have hs : (0 : Int) ≤ s := by omega
    rcases row_cases k L with e | e
    · rw [e]
      simp only [startB, Nat.reduceAdd, Nat.reduceSub, List.replicate_succ, List.replicate_zero, wLc, wLc2, wISeq, wipeB, List.set_cons_succ, List.set_cons_zero, wgTup, wgCons, wgNil, wgNm, Bool.not_true, Bool.not_false, Bool.false_eq_true, if_true, if_false, List.map_cons, List.map_nil, List.length_cons, List.length_nil, List.cons_append, List.nil_append, wName, List.getElem?_cons_zero, List.getElem?_cons_succ, wC, wOp, wCall, wACons, wANil, wAndV, wOrV, wNotV, wIsi, wIsi2, wCmp, wChain, wChain3, wOfT, wIfE, wAnd, wOr, wNotT, bInt, bEq, bNe, bIsN, bNotN, bIn, bNotIn, wCall1, bLen, bAll, bAny, bSum, sRet, sRetN, sRetO, sIf, sSeq, sNil, sExpr, sSet, sAsg, sPar, wVE, wVN, wOfN, wOfE, wTup, wLst, pyAll, isB_list, isB_tuple, sFor, wIOr, wIEnum, wIEnumT, wIR1, wIR2, bAdd, wIx]
      refine (if_neg (by decide)).mpr ?_
      left
      refine for_inv (fun i ρ n' => n' = n ∧ ∃ u2 u3 u4, ρ = [.val (.py (.int (s : Int))), .val (.py (.list (cmsD L))), u2, u3, u4]) _ 0 _ _ _ (fun j d ρ n' DB' hd hI hrt hbk hnx hct => ?_) ⟨rfl, _, _, _, rfl⟩ (fun ρ' n' hI => ?_)
      · obtain ⟨rfl, u2, u3, u4, rfl⟩ := hI
        obtain ⟨e1, he1, rfl⟩ := enumD_get hd
        obtain ⟨c, hc, rfl⟩ := cms_get he1
        simp only [startB, Nat.reduceAdd, Nat.reduceSub, List.replicate_succ, List.replicate_zero, wLc, wLc2, wISeq, wipeB, List.set_cons_succ, List.set_cons_zero, wgTup, wgCons, wgNil, wgNm, Bool.not_true, Bool.not_false, Bool.false_eq_true, if_true, if_false, List.map_cons, List.map_nil, List.length_cons, List.length_nil, List.cons_append, List.nil_append, wName, List.getElem?_cons_zero, List.getElem?_cons_succ, wC, wOp, wCall, wACons, wANil, wAndV, wOrV, wNotV, wIsi, wIsi2, wCmp, wChain, wChain3, wOfT, wIfE, wAnd, wOr, wNotT, bInt, bEq, bNe, bIsN, bNotN, bIn, bNotIn, wCall1, bLen, bAll, bAny, bSum, sRet, sRetN, sRetO, sIf, sSeq, sNil, sExpr, sSet, sAsg, sPar, wVE, wVN, wOfN, wOfE, wTup, wLst, pyAll, fIsCord]
        refine ⟨trivial, trivial, _, _, rfl, ?_⟩
        simp only [startB, Nat.reduceAdd, Nat.reduceSub, List.replicate_succ, List.replicate_zero, wLc, wLc2, wISeq, wipeB, List.set_cons_succ, List.set_cons_zero, wgTup, wgCons, wgNil, wgNm, Bool.not_true, Bool.not_false, Bool.false_eq_true, if_true, if_false, List.map_cons, List.map_nil, List.length_cons, List.length_nil, List.cons_append, List.nil_append, wName, List.getElem?_cons_zero, List.getElem?_cons_succ, wC, wOp, wCall, wACons, wANil, wAndV, wOrV, wNotV, wIsi, wIsi2, wCmp, wChain, wChain3, wOfT, wIfE, wAnd, wOr, wNotT, bInt, bEq, bNe, bIsN, bNotN, bIn, bNotIn, wCall1, bLen, bAll, bAny, bSum, sRet, sRetN, sRetO, sIf, sSeq, sNil, sExpr, sSet, sAsg, sPar, wVE, wVN, wOfN, wOfE, wTup, wLst, pyAll, ok_cordOk hs ok (List.mem_of_getElem? hc)]
        exact hnx _ _ ⟨rfl, _, _, _, rfl⟩
      · obtain ⟨rfl, u2, u3, u4, rfl⟩ := hI
        simp only [startB, Nat.reduceAdd, Nat.reduceSub, List.replicate_succ, List.replicate_zero, wLc, wLc2, wISeq, wipeB, List.set_cons_succ, List.set_cons_zero, wgTup, wgCons, wgNil, wgNm, Bool.not_true, Bool.not_false, Bool.false_eq_true, if_true, if_false, List.map_cons, List.map_nil, List.length_cons, List.length_nil, List.cons_append, List.nil_append, wName, List.getElem?_cons_zero, List.getElem?_cons_succ, wC, wOp, wCall, wACons, wANil, wAndV, wOrV, wNotV, wIsi, wIsi2, wCmp, wChain, wChain3, wOfT, wIfE, wAnd, wOr, wNotT, bInt, bEq, bNe, bIsN, bNotN, bIn, bNotIn, wCall1, bLen, bAll, bAny, bSum, sRet, sRetN, sRetO, sIf, sSeq, sNil, sExpr, sSet, sAsg, sPar, wVE, wVN, wOfN, wOfE, wTup, wLst, pyAll]
        have hlc : (cmsD L).length = L.length := List.length_map _
        rw [hlc]
        refine ⟨by omega, by omega, ?_⟩
        rw [Int.toNat_natCast]
        refine for_inv (fun i ρ n2 => n2 = n' ∧ ∃ u2 u3 u4, ρ = [.val (.py (.int (s : Int))), .val (.py (.list (cmsD L))), u2, u3, u4]) _ 0 _ _ _ (fun j d ρ n2 DB' hd hI hrt hbk hnx hct => ?_) ⟨rfl, _, _, _, rfl⟩ (fun ρ' n2 hI => ?_)
        · obtain ⟨rfl, u2, u3, u4, rfl⟩ := hI
          obtain ⟨hj, rfl⟩ := rng0 hd
          simp only [startB, Nat.reduceAdd, Nat.reduceSub, List.replicate_succ, List.replicate_zero, wLc, wLc2, wISeq, wipeB, List.set_cons_succ, List.set_cons_zero, wgTup, wgCons, wgNil, wgNm, Bool.not_true, Bool.not_false, Bool.false_eq_true, if_true, if_false, List.map_cons, List.map_nil, List.length_cons, List.length_nil, List.cons_append, List.nil_append, wName, List.getElem?_cons_zero, List.getElem?_cons_succ, wC, wOp, wCall, wACons, wANil, wAndV, wOrV, wNotV, wIsi, wIsi2, wCmp, wChain, wChain3, wOfT, wIfE, wAnd, wOr, wNotT, bInt, bEq, bNe, bIsN, bNotN, bIn, bNotIn, wCall1, bLen, bAll, bAny, bSum, sRet, sRetN, sRetO, sIf, sSeq, sNil, sExpr, sSet, sAsg, sPar, wVE, wVN, wOfN, wOfE, wTup, wLst, pyAll, sFor, wIR2, bAdd]
          rw [hlc]
          refine ⟨⟨by omega, by omega, by omega, by omega⟩, by omega, ?_⟩
          refine for_inv (fun i ρ n3 => n3 = n2 ∧ ∃ u3 u4, ρ = [.val (.py (.int (s : Int))), .val (.py (.list (cmsD L))), .val (.py (.int (j : Int))), u3, u4]) _ 0 _ _ _ (fun k2 d ρ n3 DB2 hd2 hI2 hrt2 hbk2 hnx2 hct2 => ?_) ⟨rfl, _, _, rfl⟩ (fun ρ' n3 hI2 => ?_)
          · obtain ⟨rfl, u3, u4, rfl⟩ := hI2
            obtain ⟨hk, rfl⟩ := rngL hd2
            have hm : j + 1 + k2 < L.length := by omega
            rw [show (j : Int) + 1 + (k2 : Int) = ((j + 1 + k2 : Nat) : Int) by omega]
            have pw := List.pairwise_iff_getElem.mp ok.pw j (j + 1 + k2) hj hm (by omega)
            simp only [startB, Nat.reduceAdd, Nat.reduceSub, List.replicate_succ, List.replicate_zero, wLc, wLc2, wISeq, wipeB, List.set_cons_succ, List.set_cons_zero, wgTup, wgCons, wgNil, wgNm, Bool.not_true, Bool.not_false, Bool.false_eq_true, if_true, if_false, List.map_cons, List.map_nil, List.length_cons, List.length_nil, List.cons_append, List.nil_append, wName, List.getElem?_cons_zero, List.getElem?_cons_succ, wC, wOp, wCall, wACons, wANil, wAndV, wOrV, wNotV, wIsi, wIsi2, wCmp, wChain, wChain3, wOfT, wIfE, wAnd, wOr, wNotT, bInt, bEq, bNe, bIsN, bNotN, bIn, bNotIn, wCall1, bLen, bAll, bAny, bSum, sRet, sRetN, sRetO, sIf, sSeq, sNil, sExpr, sSet, sAsg, sPar, wVE, wVN, wOfN, wOfE, wTup, wLst, pyAll, fCrossed, wIx]
            rw [atI_cms hj, atI_cms hm]
            refine ⟨L[j], L[j + 1 + k2], rfl, ?_⟩
            simp only [startB, Nat.reduceAdd, Nat.reduceSub, List.replicate_succ, List.replicate_zero, wLc, wLc2, wISeq, wipeB, List.set_cons_succ, List.set_cons_zero, wgTup, wgCons, wgNil, wgNm, Bool.not_true, Bool.not_false, Bool.false_eq_true, if_true, if_false, List.map_cons, List.map_nil, List.length_cons, List.length_nil, List.cons_append, List.nil_append, wName, List.getElem?_cons_zero, List.getElem?_cons_succ, wC, wOp, wCall, wACons, wANil, wAndV, wOrV, wNotV, wIsi, wIsi2, wCmp, wChain, wChain3, wOfT, wIfE, wAnd, wOr, wNotT, bInt, bEq, bNe, bIsN, bNotN, bIn, bNotIn, wCall1, bLen, bAll, bAny, bSum, sRet, sRetN, sRetO, sIf, sSeq, sNil, sExpr, sSet, sAsg, sPar, wVE, wVN, wOfN, wOfE, wTup, wLst, pyAll, decide_eq_false pw.1, pw.2, Bool.or_self]
            exact hnx2 _ _ ⟨rfl, _, _, rfl⟩
          · obtain ⟨rfl, u3, u4, rfl⟩ := hI2
            exact hnx _ _ ⟨rfl, _, _, _, rfl⟩
        · obtain ⟨rfl, u2, u3, u4, rfl⟩ := hI
          exact q
    · rw [e]
      simp only [startB, Nat.reduceAdd, Nat.reduceSub, List.replicate_succ, List.replicate_zero, wLc, wLc2, wISeq, wipeB, List.set_cons_succ, List.set_cons_zero, wgTup, wgCons, wgNil, wgNm, Bool.not_true, Bool.not_false, Bool.false_eq_true, if_true, if_false, List.map_cons, List.map_nil, List.length_cons, List.length_nil, List.cons_append, List.nil_append, wName, List.getElem?_cons_zero, List.getElem?_cons_succ, wC, wOp, wCall, wACons, wANil, wAndV, wOrV, wNotV, wIsi, wIsi2, wCmp, wChain, wChain3, wOfT, wIfE, wAnd, wOr, wNotT, bInt, bEq, bNe, bIsN, bNotN, bIn, bNotIn, wCall1, bLen, bAll, bAny, bSum, sRet, sRetN, sRetO, sIf, sSeq, sNil, sExpr, sSet, sAsg, sPar, wVE, wVN, wOfN, wOfE, wTup, wLst, pyAll, isB_list, isB_tuple, sFor, wIOr, wIEnum, wIEnumT, wIR1, wIR2, bAdd, wIx]
      refine (if_neg (by decide)).mpr ?_
      right
      refine for_inv (fun i ρ n' => n' = n ∧ ∃ u2 u3 u4, ρ = [.val (.py (.int (s : Int))), .val (.py (.tuple (cmsD L))), u2, u3, u4]) _ 0 _ _ _ (fun j d ρ n' DB' hd hI hrt hbk hnx hct => ?_) ⟨rfl, _, _, _, rfl⟩ (fun ρ' n' hI => ?_)
      · obtain ⟨rfl, u2, u3, u4, rfl⟩ := hI
        obtain ⟨e1, he1, rfl⟩ := enumD_get hd
        obtain ⟨c, hc, rfl⟩ := cms_get he1
        simp only [startB, Nat.reduceAdd, Nat.reduceSub, List.replicate_succ, List.replicate_zero, wLc, wLc2, wISeq, wipeB, List.set_cons_succ, List.set_cons_zero, wgTup, wgCons, wgNil, wgNm, Bool.not_true, Bool.not_false, Bool.false_eq_true, if_true, if_false, List.map_cons, List.map_nil, List.length_cons, List.length_nil, List.cons_append, List.nil_append, wName, List.getElem?_cons_zero, List.getElem?_cons_succ, wC, wOp, wCall, wACons, wANil, wAndV, wOrV, wNotV, wIsi, wIsi2, wCmp, wChain, wChain3, wOfT, wIfE, wAnd, wOr, wNotT, bInt, bEq, bNe, bIsN, bNotN, bIn, bNotIn, wCall1, bLen, bAll, bAny, bSum, sRet, sRetN, sRetO, sIf, sSeq, sNil, sExpr, sSet, sAsg, sPar, wVE, wVN, wOfN, wOfE, wTup, wLst, pyAll, fIsCord]
        refine ⟨trivial, trivial, _, _, rfl, ?_⟩
        simp only [startB, Nat.reduceAdd, Nat.reduceSub, List.replicate_succ, List.replicate_zero, wLc, wLc2, wISeq, wipeB, List.set_cons_succ, List.set_cons_zero, wgTup, wgCons, wgNil, wgNm, Bool.not_true, Bool.not_false, Bool.false_eq_true, if_true, if_false, List.map_cons, List.map_nil, List.length_cons, List.length_nil, List.cons_append, List.nil_append, wName, List.getElem?_cons_zero, List.getElem?_cons_succ, wC, wOp, wCall, wACons, wANil, wAndV, wOrV, wNotV, wIsi, wIsi2, wCmp, wChain, wChain3, wOfT, wIfE, wAnd, wOr, wNotT, bInt, bEq, bNe, bIsN, bNotN, bIn, bNotIn, wCall1, bLen, bAll, bAny, bSum, sRet, sRetN, sRetO, sIf, sSeq, sNil, sExpr, sSet, sAsg, sPar, wVE, wVN, wOfN, wOfE, wTup, wLst, pyAll, ok_cordOk hs ok (List.mem_of_getElem? hc)]
        exact hnx _ _ ⟨rfl, _, _, _, rfl⟩
      · obtain ⟨rfl, u2, u3, u4, rfl⟩ := hI
        simp only [startB, Nat.reduceAdd, Nat.reduceSub, List.replicate_succ, List.replicate_zero, wLc, wLc2, wISeq, wipeB, List.set_cons_succ, List.set_cons_zero, wgTup, wgCons, wgNil, wgNm, Bool.not_true, Bool.not_false, Bool.false_eq_true, if_true, if_false, List.map_cons, List.map_nil, List.length_cons, List.length_nil, List.cons_append, List.nil_append, wName, List.getElem?_cons_zero, List.getElem?_cons_succ, wC, wOp, wCall, wACons, wANil, wAndV, wOrV, wNotV, wIsi, wIsi2, wCmp, wChain, wChain3, wOfT, wIfE, wAnd, wOr, wNotT, bInt, bEq, bNe, bIsN, bNotN, bIn, bNotIn, wCall1, bLen, bAll, bAny, bSum, sRet, sRetN, sRetO, sIf, sSeq, sNil, sExpr, sSet, sAsg, sPar, wVE, wVN, wOfN, wOfE, wTup, wLst, pyAll]
        have hlc : (cmsD L).length = L.length := List.length_map _
        rw [hlc]
        refine ⟨by omega, by omega, ?_⟩
        rw [Int.toNat_natCast]
        refine for_inv (fun i ρ n2 => n2 = n' ∧ ∃ u2 u3 u4, ρ = [.val (.py (.int (s : Int))), .val (.py (.tuple (cmsD L))), u2, u3, u4]) _ 0 _ _ _ (fun j d ρ n2 DB' hd hI hrt hbk hnx hct => ?_) ⟨rfl, _, _, _, rfl⟩ (fun ρ' n2 hI => ?_)
        · obtain ⟨rfl, u2, u3, u4, rfl⟩ := hI
          obtain ⟨hj, rfl⟩ := rng0 hd
          simp only [startB, Nat.reduceAdd, Nat.reduceSub, List.replicate_succ, List.replicate_zero, wLc, wLc2, wISeq, wipeB, List.set_cons_succ, List.set_cons_zero, wgTup, wgCons, wgNil, wgNm, Bool.not_true, Bool.not_false, Bool.false_eq_true, if_true, if_false, List.map_cons, List.map_nil, List.length_cons, List.length_nil, List.cons_append, List.nil_append, wName, List.getElem?_cons_zero, List.getElem?_cons_succ, wC, wOp, wCall, wACons, wANil, wAndV, wOrV, wNotV, wIsi, wIsi2, wCmp, wChain, wChain3, wOfT, wIfE, wAnd, wOr, wNotT, bInt, bEq, bNe, bIsN, bNotN, bIn, bNotIn, wCall1, bLen, bAll, bAny, bSum, sRet, sRetN, sRetO, sIf, sSeq, sNil, sExpr, sSet, sAsg, sPar, wVE, wVN, wOfN, wOfE, wTup, wLst, pyAll, sFor, wIR2, bAdd]
          rw [hlc]
          refine ⟨⟨by omega, by omega, by omega, by omega⟩, by omega, ?_⟩
          refine for_inv (fun i ρ n3 => n3 = n2 ∧ ∃ u3 u4, ρ = [.val (.py (.int (s : Int))), .val (.py (.tuple (cmsD L))), .val (.py (.int (j : Int))), u3, u4]) _ 0 _ _ _ (fun k2 d ρ n3 DB2 hd2 hI2 hrt2 hbk2 hnx2 hct2 => ?_) ⟨rfl, _, _, rfl⟩ (fun ρ' n3 hI2 => ?_)
          · obtain ⟨rfl, u3, u4, rfl⟩ := hI2
            obtain ⟨hk, rfl⟩ := rngL hd2
            have hm : j + 1 + k2 < L.length := by omega
            rw [show (j : Int) + 1 + (k2 : Int) = ((j + 1 + k2 : Nat) : Int) by omega]
            have pw := List.pairwise_iff_getElem.mp ok.pw j (j + 1 + k2) hj hm (by omega)
            simp only [startB, Nat.reduceAdd, Nat.reduceSub, List.replicate_succ, List.replicate_zero, wLc, wLc2, wISeq, wipeB, List.set_cons_succ, List.set_cons_zero, wgTup, wgCons, wgNil, wgNm, Bool.not_true, Bool.not_false, Bool.false_eq_true, if_true, if_false, List.map_cons, List.map_nil, List.length_cons, List.length_nil, List.cons_append, List.nil_append, wName, List.getElem?_cons_zero, List.getElem?_cons_succ, wC, wOp, wCall, wACons, wANil, wAndV, wOrV, wNotV, wIsi, wIsi2, wCmp, wChain, wChain3, wOfT, wIfE, wAnd, wOr, wNotT, bInt, bEq, bNe, bIsN, bNotN, bIn, bNotIn, wCall1, bLen, bAll, bAny, bSum, sRet, sRetN, sRetO, sIf, sSeq, sNil, sExpr, sSet, sAsg, sPar, wVE, wVN, wOfN, wOfE, wTup, wLst, pyAll, fCrossed, wIx]
            rw [atI_cms hj, atI_cms hm]
            refine ⟨L[j], L[j + 1 + k2], rfl, ?_⟩
            simp only [startB, Nat.reduceAdd, Nat.reduceSub, List.replicate_succ, List.replicate_zero, wLc, wLc2, wISeq, wipeB, List.set_cons_succ, List.set_cons_zero, wgTup, wgCons, wgNil, wgNm, Bool.not_true, Bool.not_false, Bool.false_eq_true, if_true, if_false, List.map_cons, List.map_nil, List.length_cons, List.length_nil, List.cons_append, List.nil_append, wName, List.getElem?_cons_zero, List.getElem?_cons_succ, wC, wOp, wCall, wACons, wANil, wAndV, wOrV, wNotV, wIsi, wIsi2, wCmp, wChain, wChain3, wOfT, wIfE, wAnd, wOr, wNotT, bInt, bEq, bNe, bIsN, bNotN, bIn, bNotIn, wCall1, bLen, bAll, bAny, bSum, sRet, sRetN, sRetO, sIf, sSeq, sNil, sExpr, sSet, sAsg, sPar, wVE, wVN, wOfN, wOfE, wTup, wLst, pyAll, decide_eq_false pw.1, pw.2, Bool.or_self]
            exact hnx2 _ _ ⟨rfl, _, _, rfl⟩
          · obtain ⟨rfl, u3, u4, rfl⟩ := hI2
            exact hnx _ _ ⟨rfl, _, _, _, rfl⟩
        · obtain ⟨rfl, u2, u3, u4, rfl⟩ := hI
          exact q
end Fv
/-! Statements that are never come to. -/
namespace Fv
open PySem PySem.Spec PyProof.Rows L2 Gb
theorem bss_never {m : Bool} {X : Cx} {G : Cg} {sts : List Stmt} : BSs m X G sts (fun _ _ _ => False) (fun _ _ _ _ => False) :=
  ⟨⟨fun _ _ _ _ _ _ h => h.elim⟩, fun _ _ _ _ _ _ _ _ _ h _ _ => h.elim⟩
end Fv
set_option maxRecDepth 100000
set_option maxHeartbeats 4000000
/-! Cords turned by a beat. -/
namespace Fv
open PySem PySem.Spec PyProof.Rows L2 Gb
open PySem.W (T4)
theorem btw_natK {s : Nat} (h1 : 1 ≤ s) (h2 : s ≤ 12) : isBtw 1 12 (.int (s : Int)) = true := by
  simp only [isBtw, Bool.and_eq_true, decide_eq_true_eq]
  omega
def hereD (k0 k1 : Bool) (L : L2c) : PyData := .tuple [rowK k0 L.1, rowK k1 L.2]
def fHere (R : Nat → L2c → PyData) : FB := fun ds n _ Q => ∃ (s : Nat) (k0 k1 : Bool) (L : L2c), ds = [.py (.int (s : Int)), .py (hereD k0 k1 L)] ∧ 1 ≤ s ∧ s ≤ 12 ∧ Ok2 s L ∧ L.1.length ≤ 1000 ∧ L.2.length ≤ 1000 ∧ Q (.py (R s L)) n
def nonR (_ : Nat) (_ : L2c) : PyData := .none
def turnR (s : Nat) (L : L2c) : PyData := .tuple [.list (cmsD (sortC (L.2.map (turnC s)))), .list (cmsD (sortC L.1))]
theorem sc_cords_fault : FnScope ["size", "cords", "half", "row", "fault"] ["size", "cords"] (defScope s_cords_fault) := ⟨rfl, rfl, rfl, by decide +kernel, rfl, by decide +kernel, by decide +kernel⟩
theorem ok_cords_faultK {F : Fx} (D : Dn F.K F.mg "cords_fault" s_cords_fault ["size", "cords"]) (bz : Bz F.mg) (c_row_faultK : ClB F 4 "row_fault" false fRowGood) : ClB F 5 "cords_fault" false (fHere nonR) := by
  have c_row_fault := c_row_faultK
  refine cl_b D sc_cords_fault (fun ds n EX QD h => ?_) (fun fa cdv A outer s H E pn B0 hr tk po => ?_)
  · obtain ⟨s, k0, k1, L, rfl, _⟩ := h
    rfl
  · have nd := sc_cords_fault.nd
    refine ⟨_, _, (bss_cons (bs_if (BW.bt (bw_or (bt_not (bt_val (be_isi (T := "tuple") (by decide) (by rfl) bz.isinstance (BE.f (be_nm 1 (pv 1))) (pe_bltn (v := .ty "tuple") (u := .type "tuple") (by rfl) bz.tuple (by decide +kernel) rfl)))) (bw_or1 (bt_ne hr.units (BE.f (be_len (by rfl) bz.len (BE.f (be_nm 1 (pv 1))))) (BE.f be_int)))))
    (bss_one (bs_ret (be_tup (ba_cons be_non (ba_cons be_non (ba_cons be_non ba_nil))))))
    bss_nil)
    (bss_cons (bs_for po rfl (bi_enumT (by rfl) bz.enumerate (be_nm 1 (pv 1))) (bg_tup (bgs_cons (bg_nm (pg_name (i := 2) nd rfl (.inl rfl))) (bgs_cons (bg_nm (pg_name (i := 3) nd rfl (.inl rfl))) bgs_nil (pgs_cons (pg_name (i := 3) nd rfl (.inl rfl)) pgs_nil)) (pgs_cons (pg_name (i := 2) nd rfl (.inl rfl)) (pgs_cons (pg_name (i := 3) nd rfl (.inl rfl)) pgs_nil))) (pg_tupK (n := 2) (by rfl) (pgs_cons (pg_name (i := 2) nd rfl (.inl rfl)) (pgs_cons (pg_name (i := 3) nd rfl (.inl rfl)) pgs_nil))))
    (bss_cons (bs_setV (i := 4) (BE.toV (be_call c_row_fault hr (by decide) (by rfl) tk (ba_cons (be_nm 0 (pv 0)) (ba_cons (be_nm 3 (pv 3)) ba_nil)))) nd rfl (.inl rfl))
    (bss_one (bs_if (bt_notN (BE.f (be_nm 4 (pv 4))) (BE.f be_non))
    (bss_one (bs_ret (be_catA (be_tup (ba_cons (be_nm 2 (pv 2)) ba_nil)) (be_nm 4 (pv 4)))))
    bss_nil))))
    (bss_one (bs_ret be_non)))), ?_⟩
    rintro _ n EX QD ⟨s, k0, k1, L, rfl, h1, h2, ok, l1, l2, q⟩
    simp only [startB, Nat.reduceAdd, Nat.reduceSub, List.replicate_succ, List.replicate_zero, wLc, wLc2, wISeq, wipeB, List.set_cons_succ, List.set_cons_zero, wgTup, wgCons, wgNil, wgNm, Bool.not_true, Bool.not_false, Bool.false_eq_true, if_true, if_false, List.map_cons, List.map_nil, List.length_cons, List.length_nil, List.cons_append, List.nil_append, wName, List.getElem?_cons_zero, List.getElem?_cons_succ, wC, wOp, wCall, wACons, wANil, wAndV, wOrV, wNotV, wIsi, wIsi2, wCmp, wChain, wChain3, wOfT, wIfE, wAnd, wOr, wNotT, bInt, bEq, bNe, bIsN, bNotN, bIn, bNotIn, wCall1, bLen, bAll, bAny, bSum, sRet, sRetN, sRetO, sIf, sSeq, sNil, sExpr, sSet, sAsg, sPar, wVE, wVN, wOfN, wOfE, wTup, wLst, pyAll, isB_tuple, sFor, wIEnumT, hereD, bCatA]
    refine ⟨shaped_int _, shaped_int _, ?_⟩
    rw [eqv_int]
    refine (if_neg (by simp)).mpr ?_
    refine for_inv (fun i ρ n' => n' = n ∧ ∃ u2 u3 u4, ρ = [.val (.py (.int (s : Int))), .val (.py (.tuple [rowK k0 L.1, rowK k1 L.2])), u2, u3, u4]) _ 0 _ _ _ (fun j d ρ n' DB' hd hI hrt hbk hnx hct => ?_) ⟨rfl, _, _, _, rfl⟩ (fun ρ' n' hI => ?_)
    · obtain ⟨rfl, u2, u3, u4, rfl⟩ := hI
      obtain ⟨e, he, rfl⟩ := enumD_get hd
      obtain ⟨k, M, rfl, hM, hl⟩ : ∃ k M, e = rowK k M ∧ OkL s M ∧ M.length ≤ 1000 := by
        match j, he with
        | 0, he => exact ⟨_, _, (Option.some.inj he).symm, ok.a, l1⟩
        | 1, he => exact ⟨_, _, (Option.some.inj he).symm, ok.b, l2⟩
        | j + 2, he => simp at he
      simp only [startB, Nat.reduceAdd, Nat.reduceSub, List.replicate_succ, List.replicate_zero, wLc, wLc2, wISeq, wipeB, List.set_cons_succ, List.set_cons_zero, wgTup, wgCons, wgNil, wgNm, Bool.not_true, Bool.not_false, Bool.false_eq_true, if_true, if_false, List.map_cons, List.map_nil, List.length_cons, List.length_nil, List.cons_append, List.nil_append, wName, List.getElem?_cons_zero, List.getElem?_cons_succ, wC, wOp, wCall, wACons, wANil, wAndV, wOrV, wNotV, wIsi, wIsi2, wCmp, wChain, wChain3, wOfT, wIfE, wAnd, wOr, wNotT, bInt, bEq, bNe, bIsN, bNotN, bIn, bNotIn, wCall1, bLen, bAll, bAny, bSum, sRet, sRetN, sRetO, sIf, sSeq, sNil, sExpr, sSet, sAsg, sPar, wVE, wVN, wOfN, wOfE, wTup, wLst, pyAll, fRowGood]
      refine ⟨trivial, trivial, s, k, M, rfl, hM, hl, ?_⟩
      exact hnx _ _ ⟨rfl, _, _, _, rfl⟩
    · obtain ⟨rfl, u2, u3, u4, rfl⟩ := hI
      exact q
theorem sc_need_cords : FnScope ["size", "cords", "fault", "half", "one", "other"] ["size", "cords"] (defScope s_need_cords) := ⟨rfl, rfl, rfl, by decide +kernel, rfl, by decide +kernel, by decide +kernel⟩
theorem ok_need_cordsK {F : Fx} (D : Dn F.K F.mg "need_cords" s_need_cords ["size", "cords"]) (bz : Bz F.mg) (c_cords_faultK : ClB F 5 "cords_fault" false (fHere nonR)) : ClB F 6 "need_cords" false (fHere nonR) := by
  have c_cords_fault := c_cords_faultK
  refine cl_b D sc_need_cords (fun ds n EX QD h => ?_) (fun fa cdv A outer s H E pn B0 hr tk po => ?_)
  · obtain ⟨s, k0, k1, L, rfl, _⟩ := h
    rfl
  · have nd := sc_need_cords.nd
    refine ⟨_, _, (bss_cons (bs_setV (i := 2) (BE.toV (be_call c_cords_fault hr (by decide) (by rfl) tk (ba_cons (be_nm 0 (pv 0)) (ba_cons (be_nm 1 (pv 1)) ba_nil)))) nd rfl (.inl rfl))
    (bss_one (bs_if (bt_notN (BE.f (be_nm 2 (pv 2))) (BE.f be_non))
    (bss_cons (bs_asg (be_nm 2 (pv 2)) (bg_tup (bgs_cons (bg_nm (pg_name (i := 3) nd rfl (.inl rfl))) (bgs_cons (bg_nm (pg_name (i := 4) nd rfl (.inl rfl))) (bgs_cons (bg_nm (pg_name (i := 5) nd rfl (.inl rfl))) bgs_nil (pgs_cons (pg_name (i := 5) nd rfl (.inl rfl)) pgs_nil)) (pgs_cons (pg_name (i := 4) nd rfl (.inl rfl)) (pgs_cons (pg_name (i := 5) nd rfl (.inl rfl)) pgs_nil))) (pgs_cons (pg_name (i := 3) nd rfl (.inl rfl)) (pgs_cons (pg_name (i := 4) nd rfl (.inl rfl)) (pgs_cons (pg_name (i := 5) nd rfl (.inl rfl)) pgs_nil)))) (pg_tupK (n := 3) (by rfl) (pgs_cons (pg_name (i := 3) nd rfl (.inl rfl)) (pgs_cons (pg_name (i := 4) nd rfl (.inl rfl)) (pgs_cons (pg_name (i := 5) nd rfl (.inl rfl)) pgs_nil)))))) bss_never)
    bss_nil))), ?_⟩
    rintro _ n EX QD ⟨s, k0, k1, L, rfl, h1, h2, ok, l1, l2, q⟩
    simp only [startB, Nat.reduceAdd, Nat.reduceSub, List.replicate_succ, List.replicate_zero, wLc, wLc2, wISeq, wipeB, List.set_cons_succ, List.set_cons_zero, wgTup, wgCons, wgNil, wgNm, Bool.not_true, Bool.not_false, Bool.false_eq_true, if_true, if_false, List.map_cons, List.map_nil, List.length_cons, List.length_nil, List.cons_append, List.nil_append, wName, List.getElem?_cons_zero, List.getElem?_cons_succ, wC, wOp, wCall, wACons, wANil, wAndV, wOrV, wNotV, wIsi, wIsi2, wCmp, wChain, wChain3, wOfT, wIfE, wAnd, wOr, wNotT, bInt, bEq, bNe, bIsN, bNotN, bIn, bNotIn, wCall1, bLen, bAll, bAny, bSum, sRet, sRetN, sRetO, sIf, sSeq, sNil, sExpr, sSet, sAsg, sPar, wVE, wVN, wOfN, wOfE, wTup, wLst, pyAll, fHere, nonR]
    exact ⟨s, k0, k1, L, rfl, h1, h2, ok, l1, l2, (if_neg (by decide)).mpr ⟨trivial, q⟩⟩
def turnF (s : Nat) : D → PyData
  | .py (.tuple [.int a, .int b, .int m]) => cmD (turnC s ((a, b), m))
  | _ => .none
theorem turn_map (s : Nat) (L : List Cm) : ((cmsD L).map D.py).map (turnF s) = cmsD (L.map (turnC s)) := by
  unfold cmsD
  rw [List.map_map, List.map_map, List.map_map]
  rfl
theorem sc_turned_cords : FnScope ["size", "cords", "first", "second", "turned", "low", "high", "many"] ["size", "cords"] (defScope s_turned_cords) := ⟨rfl, rfl, rfl, by decide +kernel, rfl, by decide +kernel, by decide +kernel⟩
theorem ok_turned_cords {F : Fx} (D : Dn F.K F.mg "turned_cords" s_turned_cords ["size", "cords"]) (bz : Bz F.mg) (c_need_size : ClB F 3 "need_size" false fNeedSize) (c_need_cordsK : ClB F 6 "need_cords" false (fHere nonR)) (c_joining : ClB F 1 "joining" false fJoin) : ClB F 7 "turned_cords" false (fHere turnR) := by
  have c_need_cords := c_need_cordsK
  refine cl_b D sc_turned_cords (fun ds n EX QD h => ?_) (fun fa cdv A outer s H E pn B0 hr tk po => ?_)
  · obtain ⟨s, k0, k1, L, rfl, _⟩ := h
    rfl
  · have nd := sc_turned_cords.nd
    refine ⟨_, _, (bss_cons (bs_expr (be_call c_need_size hr (by decide) (by rfl) tk (ba_cons (be_nm 0 (pv 0)) ba_nil)))
    (bss_cons (bs_expr (be_call c_need_cords hr (by decide) (by rfl) tk (ba_cons (be_nm 0 (pv 0)) (ba_cons (be_nm 1 (pv 1)) ba_nil))))
    (bss_cons (bs_asg (be_nm 1 (pv 1)) (bg_tup (bgs_cons (bg_nm (pg_name (i := 2) nd rfl (.inl rfl))) (bgs_cons (bg_nm (pg_name (i := 3) nd rfl (.inl rfl))) bgs_nil (pgs_cons (pg_name (i := 3) nd rfl (.inl rfl)) pgs_nil)) (pgs_cons (pg_name (i := 2) nd rfl (.inl rfl)) (pgs_cons (pg_name (i := 3) nd rfl (.inl rfl)) pgs_nil))) (pg_tupK (n := 2) (by rfl) (pgs_cons (pg_name (i := 2) nd rfl (.inl rfl)) (pgs_cons (pg_name (i := 3) nd rfl (.inl rfl)) pgs_nil)))))
    (bss_cons (bs_setLcE (i := 4) (own := [("low", 5), ("high", 6), ("many", 7)]) rfl nd (bi_seq (be_nm 3 (pv 3))) (blkOk_by (N := ["size", "cords", "first", "second", "turned", "low", "high", "many"]) (sc := defScope s_turned_cords) (by decide +kernel)) (fun _ _ _ _ _ => (bg_tup (bgs_cons (bg_nm (pg_name (i := 5) nd rfl (.inl rfl))) (bgs_cons (bg_nm (pg_name (i := 6) nd rfl (.inl rfl))) (bgs_cons (bg_nm (pg_name (i := 7) nd rfl (.inl rfl))) bgs_nil (pgs_cons (pg_name (i := 7) nd rfl (.inl rfl)) pgs_nil)) (pgs_cons (pg_name (i := 6) nd rfl (.inl rfl)) (pgs_cons (pg_name (i := 7) nd rfl (.inl rfl)) pgs_nil))) (pgs_cons (pg_name (i := 5) nd rfl (.inl rfl)) (pgs_cons (pg_name (i := 6) nd rfl (.inl rfl)) (pgs_cons (pg_name (i := 7) nd rfl (.inl rfl)) pgs_nil)))) (pg_tupK (n := 3) (by rfl) (pgs_cons (pg_name (i := 5) nd rfl (.inl rfl)) (pgs_cons (pg_name (i := 6) nd rfl (.inl rfl)) (pgs_cons (pg_name (i := 7) nd rfl (.inl rfl)) pgs_nil)))))) (fun _ _ _ _ _ => bts_nil) (fun _ _ _ _ _ => (be_catA (be_call0 c_joining hr (by decide) (by rfl) (ba_cons (be_nm 0 (pv 0)) (ba_cons (be_add (be_nm 5 (pv 5)) be_int) (ba_cons (be_add (be_nm 6 (pv 6)) be_int) ba_nil)))) (be_tup (ba_cons (be_nm 7 (pv 7)) ba_nil)))) rfl rfl (sw_true rfl rfl rfl (by decide +kernel)))
    (bss_one (bs_ret (be_tup (ba_cons (BN.e (bn_sorted hr.units (by rfl) bz.sorted (BE.l (be_nm 4 (pv 4))))) (ba_cons (BN.e (bn_sortedZ hr.units (by rfl) bz.sorted (BE.l (be_nm 2 (pv 2))))) ba_nil))))))))), ?_⟩
    rintro _ n EX QD ⟨s, k0, k1, L, rfl, h1, h2, ok, l1, l2, q⟩
    simp only [startB, Nat.reduceAdd, Nat.reduceSub, List.replicate_succ, List.replicate_zero, wLc, wLc2, wISeq, wipeB, List.set_cons_succ, List.set_cons_zero, wgTup, wgCons, wgNil, wgNm, Bool.not_true, Bool.not_false, Bool.false_eq_true, if_true, if_false, List.map_cons, List.map_nil, List.length_cons, List.length_nil, List.cons_append, List.nil_append, wName, List.getElem?_cons_zero, List.getElem?_cons_succ, wC, wOp, wCall, wACons, wANil, wAndV, wOrV, wNotV, wIsi, wIsi2, wCmp, wChain, wChain3, wOfT, wIfE, wAnd, wOr, wNotT, bInt, bEq, bNe, bIsN, bNotN, bIn, bNotIn, wCall1, bLen, bAll, bAny, bSum, sRet, sRetN, sRetO, sIf, sSeq, sNil, sExpr, sSet, sAsg, sPar, wVE, wVN, wOfN, wOfE, wTup, wLst, pyAll, fHere, nonR, fNeedSize]
    refine ⟨_, rfl, ?_⟩
    rw [if_pos (btw_natK h1 h2)]
    refine ⟨s, k0, k1, L, rfl, h1, h2, ok, l1, l2, ?_⟩
    simp only [startB, Nat.reduceAdd, Nat.reduceSub, List.replicate_succ, List.replicate_zero, wLc, wLc2, wISeq, wipeB, List.set_cons_succ, List.set_cons_zero, wgTup, wgCons, wgNil, wgNm, Bool.not_true, Bool.not_false, Bool.false_eq_true, if_true, if_false, List.map_cons, List.map_nil, List.length_cons, List.length_nil, List.cons_append, List.nil_append, wName, List.getElem?_cons_zero, List.getElem?_cons_succ, wC, wOp, wCall, wACons, wANil, wAndV, wOrV, wNotV, wIsi, wIsi2, wCmp, wChain, wChain3, wOfT, wIfE, wAnd, wOr, wNotT, bInt, bEq, bNe, bIsN, bNotN, bIn, bNotIn, wCall1, bLen, bAll, bAny, bSum, sRet, sRetN, sRetO, sIf, sSeq, sNil, sExpr, sSet, sAsg, sPar, wVE, wVN, wOfN, wOfE, wTup, wLst, pyAll, hereD]
    obtain ⟨L0, L1⟩ := L
    cases k0 <;> cases k1 <;> simp only [rowK, Bool.false_eq_true, if_true, if_false]
    all_goals
      refine ⟨trivial, trivial, ?_⟩
      refine lc_map (turnF s) _ _ (fun z hz P R p => ?_) ?_
      · obtain ⟨w, hw, rfl⟩ := List.mem_map.mp hz
        obtain ⟨c, hc, rfl⟩ := List.mem_map.mp hw
        simp only [startB, Nat.reduceAdd, Nat.reduceSub, List.replicate_succ, List.replicate_zero, wLc, wLc2, wISeq, wipeB, List.set_cons_succ, List.set_cons_zero, wgTup, wgCons, wgNil, wgNm, Bool.not_true, Bool.not_false, Bool.false_eq_true, if_true, if_false, List.map_cons, List.map_nil, List.length_cons, List.length_nil, List.cons_append, List.nil_append, wName, List.getElem?_cons_zero, List.getElem?_cons_succ, wC, wOp, wCall, wACons, wANil, wAndV, wOrV, wNotV, wIsi, wIsi2, wCmp, wChain, wChain3, wOfT, wIfE, wAnd, wOr, wNotT, bInt, bEq, bNe, bIsN, bNotN, bIn, bNotIn, wCall1, bLen, bAll, bAny, bSum, sRet, sRetN, sRetO, sIf, sSeq, sNil, sExpr, sSet, sAsg, sPar, wVE, wVN, wOfN, wOfE, wTup, wLst, pyAll, cmD, bAdd, fJoin, wYes]
        refine ⟨trivial, trivial, _, _, _, rfl, by omega, ?_⟩
        simp only [startB, Nat.reduceAdd, Nat.reduceSub, List.replicate_succ, List.replicate_zero, wLc, wLc2, wISeq, wipeB, List.set_cons_succ, List.set_cons_zero, wgTup, wgCons, wgNil, wgNm, Bool.not_true, Bool.not_false, Bool.false_eq_true, if_true, if_false, List.map_cons, List.map_nil, List.length_cons, List.length_nil, List.cons_append, List.nil_append, wName, List.getElem?_cons_zero, List.getElem?_cons_succ, wC, wOp, wCall, wACons, wANil, wAndV, wOrV, wNotV, wIsi, wIsi2, wCmp, wChain, wChain3, wOfT, wIfE, wAnd, wOr, wNotT, bInt, bEq, bNe, bIsN, bNotN, bIn, bNotIn, wCall1, bLen, bAll, bAny, bSum, sRet, sRetN, sRetO, sIf, sSeq, sNil, sExpr, sSet, sAsg, sPar, wVE, wVN, wOfN, wOfE, wTup, wLst, pyAll, cpD, bCatA]
        exact ⟨Nat.le_of_ble_eq_true rfl, Nat.le_of_ble_eq_true rfl, p⟩
      · rw [List.nil_append, turn_map]
        simp only [startB, Nat.reduceAdd, Nat.reduceSub, List.replicate_succ, List.replicate_zero, wLc, wLc2, wISeq, wipeB, List.set_cons_succ, List.set_cons_zero, wgTup, wgCons, wgNil, wgNm, Bool.not_true, Bool.not_false, Bool.false_eq_true, if_true, if_false, List.map_cons, List.map_nil, List.length_cons, List.length_nil, List.cons_append, List.nil_append, wName, List.getElem?_cons_zero, List.getElem?_cons_succ, wC, wOp, wCall, wACons, wANil, wAndV, wOrV, wNotV, wIsi, wIsi2, wCmp, wChain, wChain3, wOfT, wIfE, wAnd, wOr, wNotT, bInt, bEq, bNe, bIsN, bNotN, bIn, bNotIn, wCall1, bLen, bAll, bAny, bSum, sRet, sRetN, sRetO, sIf, sSeq, sNil, sExpr, sSet, sAsg, sPar, wVE, wVN, wOfN, wOfE, wTup, wLst, pyAll, wSorted, wSortedZ, Option.map_some]
        refine ⟨trivial, cm_able _, cm_able _, ?_⟩
        rw [sort_cm, sort_cm]
        exact ⟨Nat.le_of_ble_eq_true rfl, q⟩
theorem ok_turned_cordsM {F : Fx} (D : Dn F.K F.mg "turned_cords" s_turned_cords ["size", "cords"]) (bz : Bz F.mg) (c_need_size : ClB F 3 "need_size" false fNeedSize) (c_need_cordsK : ClB F 6 "need_cords" false (fHere nonR)) (c_joining : ClB F 1 "joining" false fJoin) : ClB F 7 "turned_cords" true (fHere turnR) := by
  have c_need_cords := c_need_cordsK
  refine cl_b D sc_turned_cords (fun ds n EX QD h => ?_) (fun fa cdv A outer s H E pn B0 hr tk po => ?_)
  · obtain ⟨s, k0, k1, L, rfl, _⟩ := h
    rfl
  · have nd := sc_turned_cords.nd
    refine ⟨_, _, (bss_cons (bs_expr (be_call c_need_size hr (by decide) (by rfl) tk (ba_cons (be_nm 0 (pv 0)) ba_nil)))
    (bss_cons (bs_expr (be_call c_need_cords hr (by decide) (by rfl) tk (ba_cons (be_nm 0 (pv 0)) (ba_cons (be_nm 1 (pv 1)) ba_nil))))
    (bss_cons (bs_asg (be_nm 1 (pv 1)) (bg_tup (bgs_cons (bg_nm (pg_name (i := 2) nd rfl (.inl rfl))) (bgs_cons (bg_nm (pg_name (i := 3) nd rfl (.inl rfl))) bgs_nil (pgs_cons (pg_name (i := 3) nd rfl (.inl rfl)) pgs_nil)) (pgs_cons (pg_name (i := 2) nd rfl (.inl rfl)) (pgs_cons (pg_name (i := 3) nd rfl (.inl rfl)) pgs_nil))) (pg_tupK (n := 2) (by rfl) (pgs_cons (pg_name (i := 2) nd rfl (.inl rfl)) (pgs_cons (pg_name (i := 3) nd rfl (.inl rfl)) pgs_nil)))))
    (bss_cons (bs_setLcE (i := 4) (own := [("low", 5), ("high", 6), ("many", 7)]) rfl nd (bi_seq (be_nm 3 (pv 3))) (blkOk_by (N := ["size", "cords", "first", "second", "turned", "low", "high", "many"]) (sc := defScope s_turned_cords) (by decide +kernel)) (fun _ _ _ _ _ => (bg_tup (bgs_cons (bg_nm (pg_name (i := 5) nd rfl (.inl rfl))) (bgs_cons (bg_nm (pg_name (i := 6) nd rfl (.inl rfl))) (bgs_cons (bg_nm (pg_name (i := 7) nd rfl (.inl rfl))) bgs_nil (pgs_cons (pg_name (i := 7) nd rfl (.inl rfl)) pgs_nil)) (pgs_cons (pg_name (i := 6) nd rfl (.inl rfl)) (pgs_cons (pg_name (i := 7) nd rfl (.inl rfl)) pgs_nil))) (pgs_cons (pg_name (i := 5) nd rfl (.inl rfl)) (pgs_cons (pg_name (i := 6) nd rfl (.inl rfl)) (pgs_cons (pg_name (i := 7) nd rfl (.inl rfl)) pgs_nil)))) (pg_tupK (n := 3) (by rfl) (pgs_cons (pg_name (i := 5) nd rfl (.inl rfl)) (pgs_cons (pg_name (i := 6) nd rfl (.inl rfl)) (pgs_cons (pg_name (i := 7) nd rfl (.inl rfl)) pgs_nil)))))) (fun _ _ _ _ _ => bts_nil) (fun _ _ _ _ _ => (be_catA (be_call0 c_joining hr (by decide) (by rfl) (ba_cons (be_nm 0 (pv 0)) (ba_cons (be_add (be_nm 5 (pv 5)) be_int) (ba_cons (be_add (be_nm 6 (pv 6)) be_int) ba_nil)))) (be_tup (ba_cons (be_nm 7 (pv 7)) ba_nil)))) rfl rfl (sw_true rfl rfl rfl (by decide +kernel)))
    (bss_one (bs_retM (bv_tup2N (bn_sorted hr.units (by rfl) bz.sorted (BE.l (be_nm 4 (pv 4)))) (bn_sortedZ hr.units (by rfl) bz.sorted (BE.l (be_nm 2 (pv 2))))))))))), ?_⟩
    rintro _ n EX QD ⟨s, k0, k1, L, rfl, h1, h2, ok, l1, l2, q⟩
    simp only [startB, Nat.reduceAdd, Nat.reduceSub, List.replicate_succ, List.replicate_zero, wLc, wLc2, wISeq, wipeB, List.set_cons_succ, List.set_cons_zero, wgTup, wgCons, wgNil, wgNm, Bool.not_true, Bool.not_false, Bool.false_eq_true, if_true, if_false, List.map_cons, List.map_nil, List.length_cons, List.length_nil, List.cons_append, List.nil_append, wName, List.getElem?_cons_zero, List.getElem?_cons_succ, wC, wOp, wCall, wACons, wANil, wAndV, wOrV, wNotV, wIsi, wIsi2, wCmp, wChain, wChain3, wOfT, wIfE, wAnd, wOr, wNotT, bInt, bEq, bNe, bIsN, bNotN, bIn, bNotIn, wCall1, bLen, bAll, bAny, bSum, sRet, sRetN, sRetO, sIf, sSeq, sNil, sExpr, sSet, sAsg, sPar, wVE, wVN, wOfN, wOfE, wTup, wLst, pyAll, fHere, nonR, fNeedSize]
    refine ⟨_, rfl, ?_⟩
    rw [if_pos (btw_natK h1 h2)]
    refine ⟨s, k0, k1, L, rfl, h1, h2, ok, l1, l2, ?_⟩
    simp only [startB, Nat.reduceAdd, Nat.reduceSub, List.replicate_succ, List.replicate_zero, wLc, wLc2, wISeq, wipeB, List.set_cons_succ, List.set_cons_zero, wgTup, wgCons, wgNil, wgNm, Bool.not_true, Bool.not_false, Bool.false_eq_true, if_true, if_false, List.map_cons, List.map_nil, List.length_cons, List.length_nil, List.cons_append, List.nil_append, wName, List.getElem?_cons_zero, List.getElem?_cons_succ, wC, wOp, wCall, wACons, wANil, wAndV, wOrV, wNotV, wIsi, wIsi2, wCmp, wChain, wChain3, wOfT, wIfE, wAnd, wOr, wNotT, bInt, bEq, bNe, bIsN, bNotN, bIn, bNotIn, wCall1, bLen, bAll, bAny, bSum, sRet, sRetN, sRetO, sIf, sSeq, sNil, sExpr, sSet, sAsg, sPar, wVE, wVN, wOfN, wOfE, wTup, wLst, pyAll, hereD]
    obtain ⟨L0, L1⟩ := L
    cases k0 <;> cases k1 <;> simp only [rowK, Bool.false_eq_true, if_true, if_false]
    all_goals
      refine ⟨trivial, trivial, ?_⟩
      refine lc_map (turnF s) _ _ (fun z hz P R p => ?_) ?_
      · obtain ⟨w, hw, rfl⟩ := List.mem_map.mp hz
        obtain ⟨c, hc, rfl⟩ := List.mem_map.mp hw
        simp only [startB, Nat.reduceAdd, Nat.reduceSub, List.replicate_succ, List.replicate_zero, wLc, wLc2, wISeq, wipeB, List.set_cons_succ, List.set_cons_zero, wgTup, wgCons, wgNil, wgNm, Bool.not_true, Bool.not_false, Bool.false_eq_true, if_true, if_false, List.map_cons, List.map_nil, List.length_cons, List.length_nil, List.cons_append, List.nil_append, wName, List.getElem?_cons_zero, List.getElem?_cons_succ, wC, wOp, wCall, wACons, wANil, wAndV, wOrV, wNotV, wIsi, wIsi2, wCmp, wChain, wChain3, wOfT, wIfE, wAnd, wOr, wNotT, bInt, bEq, bNe, bIsN, bNotN, bIn, bNotIn, wCall1, bLen, bAll, bAny, bSum, sRet, sRetN, sRetO, sIf, sSeq, sNil, sExpr, sSet, sAsg, sPar, wVE, wVN, wOfN, wOfE, wTup, wLst, pyAll, cmD, bAdd, fJoin, wYes]
        refine ⟨trivial, trivial, _, _, _, rfl, by omega, ?_⟩
        simp only [startB, Nat.reduceAdd, Nat.reduceSub, List.replicate_succ, List.replicate_zero, wLc, wLc2, wISeq, wipeB, List.set_cons_succ, List.set_cons_zero, wgTup, wgCons, wgNil, wgNm, Bool.not_true, Bool.not_false, Bool.false_eq_true, if_true, if_false, List.map_cons, List.map_nil, List.length_cons, List.length_nil, List.cons_append, List.nil_append, wName, List.getElem?_cons_zero, List.getElem?_cons_succ, wC, wOp, wCall, wACons, wANil, wAndV, wOrV, wNotV, wIsi, wIsi2, wCmp, wChain, wChain3, wOfT, wIfE, wAnd, wOr, wNotT, bInt, bEq, bNe, bIsN, bNotN, bIn, bNotIn, wCall1, bLen, bAll, bAny, bSum, sRet, sRetN, sRetO, sIf, sSeq, sNil, sExpr, sSet, sAsg, sPar, wVE, wVN, wOfN, wOfE, wTup, wLst, pyAll, cpD, bCatA]
        exact ⟨Nat.le_of_ble_eq_true rfl, Nat.le_of_ble_eq_true rfl, p⟩
      · rw [List.nil_append, turn_map]
        simp only [startB, Nat.reduceAdd, Nat.reduceSub, List.replicate_succ, List.replicate_zero, wLc, wLc2, wISeq, wipeB, List.set_cons_succ, List.set_cons_zero, wgTup, wgCons, wgNil, wgNm, Bool.not_true, Bool.not_false, Bool.false_eq_true, if_true, if_false, List.map_cons, List.map_nil, List.length_cons, List.length_nil, List.cons_append, List.nil_append, wName, List.getElem?_cons_zero, List.getElem?_cons_succ, wC, wOp, wCall, wACons, wANil, wAndV, wOrV, wNotV, wIsi, wIsi2, wCmp, wChain, wChain3, wOfT, wIfE, wAnd, wOr, wNotT, bInt, bEq, bNe, bIsN, bNotN, bIn, bNotIn, wCall1, bLen, bAll, bAny, bSum, sRet, sRetN, sRetO, sIf, sSeq, sNil, sExpr, sSet, sAsg, sPar, wVE, wVN, wOfN, wOfE, wTup, wLst, pyAll, wSorted, wSortedZ, wTup2N, sRetM]
        refine ⟨trivial, cm_able _, cm_able _, ?_⟩
        rw [sort_cm, sort_cm]
        exact fun l a b => q
end Fv
set_option maxRecDepth 100000
set_option maxHeartbeats 4000000
/-! Ties moved on. -/
namespace Fv
open PySem PySem.Spec PyProof.Rows L2 Gb
open PySem.W (T4)
def movW (ts : List Tw) (b : Int) : List Tw := ts.map fun t => ⟨t.a + b, t.b + b, t.c, t.d⟩
def movD (b : Int) : D → PyData
  | .py (.tuple [.int x, .int y, .int z, .int w]) => .tuple [.int (x + b), .int (y + b), .int z, .int w]
  | _ => .none
def fMoved : FB := fun ds n _ Q => ∃ (ts : List Tw) (b : Int), ds = [.py (.list (ts.map tieD)), .py (.int b)] ∧ Q (.py (.list ((movW ts b).map tieD))) n
end Fv
set_option maxRecDepth 100000
set_option maxHeartbeats 4000000
/-! Two webs beside one another. -/
namespace Fv
open PySem PySem.Spec PyProof.Rows L2 Gb
open PySem.W (T4)
/-- what stands for a web -/
structure WebOk (s : Nat) (M : Nat → Nat → Int) : Prop where
  s1 : 1 ≤ s
  s12 : s ≤ 12
  ok : TiesOk 9 (s : Int) (tiesW M s)
/-- the web of both -/
def bothW (s : Nat) (M : Nat → Nat → Int) (s' : Nat) (M' : Nat → Nat → Int) : List Tw := tiesW M s ++ movW (tiesW M' s') s
def fBeside : FB := fun ds n EX Q => ∃ (s : Nat) (M : Nat → Nat → Int) (s' : Nat) (M' : Nat → Nat → Int), ds = [.web s M, .web s' M'] ∧ WebOk s M ∧ WebOk s' M' ∧
  if s + s' ≤ 12 then Q (.web (s + s') (matOf (bothW s M s' M'))) n else EX (xPart "NoWeb" "size") n
def fBesideSt : FB := fun ds n EX Q => ∃ (s : Nat) (M : Nat → Nat → Int) (d : PyData) (s' : Nat) (M' : Nat → Nat → Int) (d' : PyData), ds = [.web s M, .py d, .web s' M', .py d'] ∧ WebOk s M ∧ WebOk s' M' ∧
  needS s d EX n (needS s' d' EX n (if s + s' ≤ 12 then ∀ p p' : Sd, d = sdD p → d' = sdD p' → p.1.length = s → p.2.length = s → p'.1.length = s' → p'.2.length = s' → Q (.py (sdD (p.1 ++ p'.1, p.2 ++ p'.2))) n else EX (xPart "NoWeb" "size") n))
end Fv
set_option maxRecDepth 100000
set_option maxHeartbeats 4000000
/-! What is no standing, by the law's own look. -/
namespace Fv
open PySem PySem.Spec PyProof.Rows L2 Gb
open PySem.W (T4)
section
variable {wg : WG} {wt : WT} {we : WE} {ρ : List Sl} {n : Nat}
def lift (p : PyData → Bool) : D → Bool := fun z => match z with
  | .py d => p d
  | _ => false
def down : D → PyData := fun z => match z with
  | .py d => d
  | _ => .none
theorem lift_filter (p : PyData → Bool) : ∀ ds : List PyData, ((ds.map D.py).filter (lift p)).map down = ds.filter p
  | [] => rfl
  | d :: ds => by
    have ih := lift_filter p ds
    rw [List.map_cons]
    cases h : p d with
    | true => rw [List.filter_cons_of_pos (show lift p (.py d) = true from h), List.filter_cons_of_pos h, List.map_cons, ih]; rfl
    | false => rw [List.filter_cons_of_neg (by show ¬ p d = true; rw [h]; exact Bool.false_ne_true), List.filter_cons_of_neg (by rw [h]; exact Bool.false_ne_true), ih]
/-- a comprehension that keeps what is asked -/
theorem lc_sieve (p : PyData → Bool) {Q : List PyData → Nat → Prop} (ds : List PyData)
    (h : ∀ d ∈ ds, ∀ (P : PyData → Nat → Prop) (R : Nat → Prop), (p d = true → P d n) → (p d = false → R n) → wg (.py d) ρ fun ρ2 => wt ρ2 n (fun _ _ => False) fun b n1 => if b = true then we ρ2 n1 (fun _ _ => False) fun z n2 => (match z with
      | .py e => P e n2
      | _ => False) else R n1) (q : Q (ds.filter p) n) : lcGo wg wt we (ds.map D.py) [] n ρ Q := by
  refine lc_filter (lift p) down _ _ (fun z hz P R h1 h2 => ?_) ?_
  · obtain ⟨w, hw, rfl⟩ := List.mem_map.mp hz
    exact h w hw P R h1 h2
  · rw [List.nil_append, lift_filter]
    exact q
end
def badSt (s : Nat) (d : PyData) : Str := if shapeS s d = true then (if numsS d = true then "none" else "numbers") else "standing"
def fBad : FB := fun ds n _ Q => ∃ (s : Nat) (d : PyData), ds = [.py (.int (s : Int)), .py d] ∧ s ≤ 12 ∧ Q (.py (.str (badSt s d))) n
end Fv
set_option maxRecDepth 100000
set_option maxHeartbeats 4000000
/-! The law's own look at cords. -/
namespace Fv
open PySem PySem.Spec PyProof.Rows L2 Gb
open PySem.W (T4)
def fLCross : FB := fun ds n _ Q => ∃ (a b c d : Int) (xs ys : List PyData), ds = [.py (.tuple (.int a :: .int b :: xs)), .py (.tuple (.int c :: .int d :: ys))] ∧ Q (.py (.bool (crossI (a, b) (c, d)))) n
theorem cut2 (x y : PyData) (xs : List PyData) : cutD (x :: y :: xs) none (some 2) = [x, y] := by
  unfold cutD
  rw [HT.sIx_none, show HT.sIx (x :: y :: xs).length (x :: y :: xs).length (some 2) = 2 from (HT.sIx_nat _ _ 2).trans (by simp)]
  rfl
theorem perm_map_inv {α β : Type} {f : α → β} {ys zs : List β} (h : ys.Perm zs) : ∀ L : List α, zs = L.map f → ∃ L' : List α, ys = L'.map f ∧ L'.Perm L := by
  induction h with
  | nil =>
    intro L e
    exact ⟨[], rfl, by cases L with | nil => exact .nil | cons a L => cases e⟩
  | cons x _ ih =>
    intro L e
    cases L with
    | nil => cases e
    | cons a L =>
      rw [List.map_cons, List.cons.injEq] at e
      obtain ⟨L', e2, p⟩ := ih L e.2
      exact ⟨a :: L', by rw [e.1, e2, List.map_cons], p.cons a⟩
  | swap x y l =>
    intro L e
    match L, e with
    | [], e => cases e
    | [_], e => simp at e
    | a :: b :: M, e =>
      simp only [List.map_cons, List.cons.injEq] at e
      exact ⟨b :: a :: M, by simp only [List.map_cons]; rw [e.1, e.2.1, e.2.2], List.Perm.swap _ _ _⟩
  | trans _ _ ih1 ih2 =>
    intro L e
    obtain ⟨L2, e2, p2⟩ := ih2 L e
    obtain ⟨L1, e1, p1⟩ := ih1 L2 e2
    exact ⟨L1, e1, p1.trans p2⟩
theorem sc__law_cross : FnScope ["one", "other", "a", "b", "c", "d"] ["one", "other"] (defScope s__law_cross) := ⟨rfl, rfl, rfl, by decide +kernel, rfl, by decide +kernel, by decide +kernel⟩
theorem ok__law_cross {F : Fx} (D : Dn F.K F.mg "_law_cross" s__law_cross ["one", "other"]) (bz : Bz F.mg)  : ClB F 1 "_law_cross" false fLCross := by
  refine cl_b D sc__law_cross (fun ds n EX QD h => ?_) (fun fa cdv A outer s H E pn B0 hr tk po => ?_)
  · obtain ⟨a, b, c, d, xs, ys, rfl, _⟩ := h
    rfl
  · have nd := sc__law_cross.nd
    refine ⟨_, _, (bss_cons (bs_asg (be_slT (BE.l (be_nm 0 (pv 0))) bo_none (bo_some be_int)) (bg_tup (bgs_cons (bg_nm (pg_name (i := 2) nd rfl (.inl rfl))) (bgs_cons (bg_nm (pg_name (i := 3) nd rfl (.inl rfl))) bgs_nil (pgs_cons (pg_name (i := 3) nd rfl (.inl rfl)) pgs_nil)) (pgs_cons (pg_name (i := 2) nd rfl (.inl rfl)) (pgs_cons (pg_name (i := 3) nd rfl (.inl rfl)) pgs_nil))) (pg_tupK (n := 2) (by rfl) (pgs_cons (pg_name (i := 2) nd rfl (.inl rfl)) (pgs_cons (pg_name (i := 3) nd rfl (.inl rfl)) pgs_nil)))))
    (bss_cons (bs_asg (be_slT (BE.l (be_nm 1 (pv 1))) bo_none (bo_some be_int)) (bg_tup (bgs_cons (bg_nm (pg_name (i := 4) nd rfl (.inl rfl))) (bgs_cons (bg_nm (pg_name (i := 5) nd rfl (.inl rfl))) bgs_nil (pgs_cons (pg_name (i := 5) nd rfl (.inl rfl)) pgs_nil)) (pgs_cons (pg_name (i := 4) nd rfl (.inl rfl)) (pgs_cons (pg_name (i := 5) nd rfl (.inl rfl)) pgs_nil))) (pg_tupK (n := 2) (by rfl) (pgs_cons (pg_name (i := 4) nd rfl (.inl rfl)) (pgs_cons (pg_name (i := 5) nd rfl (.inl rfl)) pgs_nil)))))
    (bss_one (bs_ret (be_or (be_chain3 op_lt op_lt op_lt of_int of_int of_int (BE.f (be_nm 2 (pv 2))) (BE.f (be_nm 4 (pv 4))) (BE.f (be_nm 3 (pv 3))) (BE.f (be_nm 5 (pv 5)))) (be_one (be_chain3 op_lt op_lt op_lt of_int of_int of_int (BE.f (be_nm 4 (pv 4))) (BE.f (be_nm 2 (pv 2))) (BE.f (be_nm 5 (pv 5))) (BE.f (be_nm 3 (pv 3)))))))))), ?_⟩
    rintro _ n EX QD ⟨a, b, c, d, xs, ys, rfl, q⟩
    simp only [startB, Nat.reduceAdd, Nat.reduceSub, List.replicate_succ, List.replicate_zero, wLc, wLc2, wISeq, wipeB, List.set_cons_succ, List.set_cons_zero, wgTup, wgCons, wgNil, wgNm, Bool.not_true, Bool.not_false, Bool.false_eq_true, if_true, if_false, List.map_cons, List.map_nil, List.length_cons, List.length_nil, List.cons_append, List.nil_append, wName, List.getElem?_cons_zero, List.getElem?_cons_succ, wC, wOp, wCall, wACons, wANil, wAndV, wOrV, wNotV, wIsi, wIsi2, wCmp, wChain, wChain3, wOfT, wIfE, wAnd, wOr, wNotT, bInt, bEq, bNe, bIsN, bNotN, bIn, bNotIn, wCall1, bLen, bAll, bAny, bSum, sRet, sRetN, sRetO, sIf, sSeq, sNil, sExpr, sSet, sAsg, sPar, wVE, wVN, wOfN, wOfE, wTup, wLst, pyAll, wSlT, wPart, cut2]
    refine ⟨trivial, trivial, trivial, trivial, trivial, trivial, ?_⟩
    unfold crossI at q
    dsimp only at q
    by_cases h1 : a < c <;> by_cases h2 : c < b <;> by_cases h3 : b < d <;> by_cases h4 : c < a <;> by_cases h5 : a < d <;> by_cases h6 : d < b <;>
      simp only [h1, h2, h3, h4, h5, h6, decide_true, decide_false, Bool.true_and, Bool.false_and, Bool.and_true, Bool.and_false, Bool.or_true, Bool.or_false, Bool.true_or, Bool.false_or, if_true, if_false, Bool.false_eq_true] at q ⊢ <;> exact q
def fTurnedOn : FB := fun ds n _ Q => ∃ (s : Nat) (k : Bool) (L : List Cm), ds = [.py (.int (s : Int)), .py (rowK k L), .py (.int 1)] ∧ L.length ≤ 1000 ∧ Q (.py (.list (cmsD (sortC (L.map (turnC s)))))) n
theorem sc__law_turned_on : FnScope ["size", "cords", "by", "ring", "found", "low", "high", "many"] ["size", "cords", "by"] (defScope s__law_turned_on) := ⟨rfl, rfl, rfl, by decide +kernel, rfl, by decide +kernel, by decide +kernel⟩
theorem ok__law_turned_on {F : Fx} (D : Dn F.K F.mg "_law_turned_on" s__law_turned_on ["size", "cords", "by"]) (bz : Bz F.mg)  : ClB F 1 "_law_turned_on" true fTurnedOn := by
  refine cl_b D sc__law_turned_on (fun ds n EX QD h => ?_) (fun fa cdv A outer s H E pn B0 hr tk po => ?_)
  · obtain ⟨s, k, L, rfl, _⟩ := h
    rfl
  · have nd := sc__law_turned_on.nd
    refine ⟨_, _, (bss_cons (bs_parV (i := 3) (j := 4) nd (BE.toV (be_add (be_nm 0 (pv 0)) be_int)) (BN.toV (bn_lst ba_nil)) rfl rfl rfl (by decide) rfl rfl (by rfl))
    (bss_cons (bs_for po rfl (bi_seq (be_nm 1 (pv 1))) (bg_tup (bgs_cons (bg_nm (pg_name (i := 5) nd rfl (.inl rfl))) (bgs_cons (bg_nm (pg_name (i := 6) nd rfl (.inl rfl))) (bgs_cons (bg_nm (pg_name (i := 7) nd rfl (.inl rfl))) bgs_nil (pgs_cons (pg_name (i := 7) nd rfl (.inl rfl)) pgs_nil)) (pgs_cons (pg_name (i := 6) nd rfl (.inl rfl)) (pgs_cons (pg_name (i := 7) nd rfl (.inl rfl)) pgs_nil))) (pgs_cons (pg_name (i := 5) nd rfl (.inl rfl)) (pgs_cons (pg_name (i := 6) nd rfl (.inl rfl)) (pgs_cons (pg_name (i := 7) nd rfl (.inl rfl)) pgs_nil)))) (pg_tupK (n := 3) (by rfl) (pgs_cons (pg_name (i := 5) nd rfl (.inl rfl)) (pgs_cons (pg_name (i := 6) nd rfl (.inl rfl)) (pgs_cons (pg_name (i := 7) nd rfl (.inl rfl)) pgs_nil)))))
    (bss_one (bs_appendV 4 (pv 4) (be_catA (be_tupleL (by rfl) bz.tuple (BN.l (bn_sorted hr.units (by rfl) bz.sorted (BN.l (bn_lst (ba_cons (be_mod (be_add (be_nm 5 (pv 5)) (be_nm 2 (pv 2))) (be_nm 3 (pv 3))) (ba_cons (be_mod (be_add (be_nm 6 (pv 6)) (be_nm 2 (pv 2))) (be_nm 3 (pv 3))) ba_nil))))))) (be_tup (ba_cons (be_nm 7 (pv 7)) ba_nil))))))
    (bss_one (bs_retN (bn_sorted hr.units (by rfl) bz.sorted (bl_own 4 (pv 4))))))), ?_⟩
    rintro _ n EX QD ⟨s, k, L, rfl, hl, q⟩
    cases k <;> simp only [rowK, Bool.false_eq_true, if_true, if_false] <;> simp only [startB, Nat.reduceAdd, Nat.reduceSub, List.replicate_succ, List.replicate_zero, wLc, wLc2, wISeq, wipeB, List.set_cons_succ, List.set_cons_zero, wgTup, wgCons, wgNil, wgNm, Bool.not_true, Bool.not_false, Bool.false_eq_true, if_true, if_false, List.map_cons, List.map_nil, List.length_cons, List.length_nil, List.cons_append, List.nil_append, wName, List.getElem?_cons_zero, List.getElem?_cons_succ, wC, wOp, wCall, wACons, wANil, wAndV, wOrV, wNotV, wIsi, wIsi2, wCmp, wChain, wChain3, wOfT, wIfE, wAnd, wOr, wNotT, bInt, bEq, bNe, bIsN, bNotN, bIn, bNotIn, wCall1, bLen, bAll, bAny, bSum, sRet, sRetN, sRetO, sIf, sSeq, sNil, sExpr, sSet, sAsg, sPar, wVE, wVN, wOfN, wOfE, wTup, wLst, pyAll, sFor, bAdd, wISeq]
    all_goals
      refine ⟨Nat.zero_le _, ?_⟩
      refine for_inv (fun i ρ n' => n' = n ∧ ∃ u1 u5 u6 u7, ρ = [.val (.py (.int (s : Int))), u1, .val (.py (.int 1)), .val (.py (.int ((s : Int) + 3))), .own (cmsD ((L.take i).map (turnC s))), u5, u6, u7]) _ 0 _ _ _ (fun j d ρ n' DB' hd hI hrt hbk hnx hct => ?_) ⟨rfl, _, _, _, _, rfl⟩ (fun ρ' n' hI => ?_)
      · obtain ⟨rfl, u1, u5, u6, u7, rfl⟩ := hI
        rw [List.getElem?_map] at hd
        obtain ⟨e, he, rfl⟩ : ∃ e, (cmsD L)[j]? = some e ∧ d = .py e := by
          cases q : (cmsD L)[j]? with
          | none =>
            rw [q] at hd
            cases hd
          | some e =>
            rw [q] at hd
            exact ⟨e, rfl, (Option.some.inj hd).symm⟩
        obtain ⟨c, hc, rfl⟩ := cms_get he
        obtain ⟨⟨lo, hi⟩, many⟩ := c
        simp only [startB, Nat.reduceAdd, Nat.reduceSub, List.replicate_succ, List.replicate_zero, wLc, wLc2, wISeq, wipeB, List.set_cons_succ, List.set_cons_zero, wgTup, wgCons, wgNil, wgNm, Bool.not_true, Bool.not_false, Bool.false_eq_true, if_true, if_false, List.map_cons, List.map_nil, List.length_cons, List.length_nil, List.cons_append, List.nil_append, wName, List.getElem?_cons_zero, List.getElem?_cons_succ, wC, wOp, wCall, wACons, wANil, wAndV, wOrV, wNotV, wIsi, wIsi2, wCmp, wChain, wChain3, wOfT, wIfE, wAnd, wOr, wNotT, bInt, bEq, bNe, bIsN, bNotN, bIn, bNotIn, wCall1, bLen, bAll, bAny, bSum, sRet, sRetN, sRetO, sIf, sSeq, sNil, sExpr, sSet, sAsg, sPar, wVE, wVN, wOfN, wOfE, wTup, wLst, pyAll, cmD, bAdd, bMod, wSorted, sAppend, bCatA, wTupOf, Option.map_some]
        refine ⟨trivial, trivial, by omega, by omega, Nat.le_of_ble_eq_true rfl, trivial, ints_able [_, _], ?_⟩
        rw [sort_two]
        rw [Nat.zero_add] at hnx ⊢
        have E : cmsD ((L.take (j + 1)).map (turnC (s : Int))) = cmsD ((L.take j).map (turnC (s : Int))) ++ [cmD (turnC s ((lo, hi), many))] := by
          rw [List.take_add_one, hc]
          unfold cmsD
          rw [List.map_append, List.map_append]
          rfl
        rw [E] at hnx
        refine ⟨trivial, Nat.le_of_ble_eq_true rfl, Nat.le_of_ble_eq_true rfl, ?_, hnx _ _ ⟨rfl, _, _, _, _, rfl⟩⟩
        unfold cmsD
        rw [List.length_map, List.length_map, List.length_take]
        omega
      · obtain ⟨rfl, u1, u5, u6, u7, rfl⟩ := hI
        simp only [startB, Nat.reduceAdd, Nat.reduceSub, List.replicate_succ, List.replicate_zero, wLc, wLc2, wISeq, wipeB, List.set_cons_succ, List.set_cons_zero, wgTup, wgCons, wgNil, wgNm, Bool.not_true, Bool.not_false, Bool.false_eq_true, if_true, if_false, List.map_cons, List.map_nil, List.length_cons, List.length_nil, List.cons_append, List.nil_append, wName, List.getElem?_cons_zero, List.getElem?_cons_succ, wC, wOp, wCall, wACons, wANil, wAndV, wOrV, wNotV, wIsi, wIsi2, wCmp, wChain, wChain3, wOfT, wIfE, wAnd, wOr, wNotT, bInt, bEq, bNe, bIsN, bNotN, bIn, bNotIn, wCall1, bLen, bAll, bAny, bSum, sRet, sRetN, sRetO, sIf, sSeq, sNil, sExpr, sSet, sAsg, sPar, wVE, wVN, wOfN, wOfE, wTup, wLst, pyAll, wSorted, wOwnL]
        rw [Nat.zero_add, List.length_map, show (cmsD L).length = L.length from List.length_map _, List.take_of_length_le (Nat.le_refl _), sort_cm]
        exact ⟨trivial, cm_able _, q⟩
def fHanded : FB := fun ds n _ Q => ∃ L : List Cm, ds = [.pen, .py (.list (cmsD L))] ∧ n + 1000 ≤ 2 ^ 60 ∧ L.length ≤ 500 ∧ ∀ (k : Bool) (L' : List Cm) (n' : Nat), L'.Perm L → n' ≤ n + 501 → Q (.py (rowK k L')) n'
theorem sc__law_handed : FnScope ["pen", "some", "found"] ["pen", "some"] (defScope s__law_handed) := ⟨rfl, rfl, rfl, by decide +kernel, rfl, by decide +kernel, by decide +kernel⟩
theorem ok__law_handed {F : Fx} (D : Dn F.K F.mg "_law_handed" s__law_handed ["pen", "some"]) (bz : Bz F.mg) (c__law_draw : ClB F 1 "_law_draw" false fDraw) (c__law_shuffled : ClB F 2 "_law_shuffled" false fShuf) : ClB F 3 "_law_handed" false fHanded := by
  refine cl_b D sc__law_handed (fun ds n EX QD h => ?_) (fun fa cdv A outer s H E pn B0 hr tk po => ?_)
  · obtain ⟨L, rfl, _⟩ := h
    rfl
  · have nd := sc__law_handed.nd
    refine ⟨_, _, (bss_cons (bs_setV (i := 2) (BE.toV (be_call c__law_shuffled hr (by decide) (by rfl) tk (ba_cons (be_nm 0 (pv 0)) (ba_cons (be_nm 1 (pv 1)) ba_nil)))) nd rfl (.inl rfl))
    (bss_one (bs_ret (be_ifExp (bt_eq hr.units (BE.f (be_call c__law_draw hr (by decide) (by rfl) tk (ba_cons (be_nm 0 (pv 0)) (ba_cons be_int ba_nil)))) (BE.f be_int)) (be_nm 2 (pv 2)) (be_tupleL (by rfl) bz.tuple (BE.l (be_nm 2 (pv 2)))))))), ?_⟩
    rintro _ n EX QD ⟨L, rfl, hn, hl, q⟩
    simp only [startB, Nat.reduceAdd, Nat.reduceSub, List.replicate_succ, List.replicate_zero, wLc, wLc2, wISeq, wipeB, List.set_cons_succ, List.set_cons_zero, wgTup, wgCons, wgNil, wgNm, Bool.not_true, Bool.not_false, Bool.false_eq_true, if_true, if_false, List.map_cons, List.map_nil, List.length_cons, List.length_nil, List.cons_append, List.nil_append, wName, List.getElem?_cons_zero, List.getElem?_cons_succ, wC, wOp, wCall, wACons, wANil, wAndV, wOrV, wNotV, wIsi, wIsi2, wCmp, wChain, wChain3, wOfT, wIfE, wAnd, wOr, wNotT, bInt, bEq, bNe, bIsN, bNotN, bIn, bNotIn, wCall1, bLen, bAll, bAny, bSum, sRet, sRetN, sRetO, sIf, sSeq, sNil, sExpr, sSet, sAsg, sPar, wVE, wVN, wOfN, wOfE, wTup, wLst, pyAll, fShuf, fDraw]
    have hlc : (cmsD L).length = L.length := List.length_map _
    refine ⟨cmsD L, rfl, by omega, by omega, fun ys hp => ⟨2, rfl, by omega, by decide, by decide, fun r r0 r1 => ⟨shaped_int _, shaped_int _, ?_⟩⟩⟩
    obtain ⟨L', rfl, hp2⟩ := perm_map_inv hp L rfl
    rw [eqv_int]
    by_cases h0 : r = 0
    · rw [if_pos (decide_eq_true h0)]
      exact q false L' (n + (cmsD L).length + 1) hp2 (by omega)
    · rw [if_neg (by rw [decide_eq_true_eq]; exact h0)]
      simp only [startB, Nat.reduceAdd, Nat.reduceSub, List.replicate_succ, List.replicate_zero, wLc, wLc2, wISeq, wipeB, List.set_cons_succ, List.set_cons_zero, wgTup, wgCons, wgNil, wgNm, Bool.not_true, Bool.not_false, Bool.false_eq_true, if_true, if_false, List.map_cons, List.map_nil, List.length_cons, List.length_nil, List.cons_append, List.nil_append, wName, List.getElem?_cons_zero, List.getElem?_cons_succ, wC, wOp, wCall, wACons, wANil, wAndV, wOrV, wNotV, wIsi, wIsi2, wCmp, wChain, wChain3, wOfT, wIfE, wAnd, wOr, wNotT, bInt, bEq, bNe, bIsN, bNotN, bIn, bNotIn, wCall1, bLen, bAll, bAny, bSum, sRet, sRetN, sRetO, sIf, sSeq, sNil, sExpr, sSet, sAsg, sPar, wVE, wVN, wOfN, wOfE, wTup, wLst, pyAll, wTupOf]
      exact ⟨trivial, q true L' (n + (cmsD L).length + 1) hp2 (by omega)⟩
def fHalf : FB := fun ds n _ Q => ∃ s far : Nat, ds = [.pen, .py (.int (s : Int)), .py (.int (far : Int))] ∧ n + 100000 ≤ 2 ^ 60 ∧ 1 ≤ s ∧ s ≤ 12 ∧ far ≤ 60 ∧ ∀ (L : List Cm) (n' : Nat), n' ≤ n + 50000 → OkL s L → L.length ≤ 12 → (∀ c ∈ L, c.2 ≤ 10 ^ 60) → Q (.py (.list (cmsD L))) n'
theorem sc__law_drawn_half : FnScope ["pen", "size", "far", "found", "most", "cord", "one"] ["pen", "size", "far"] (defScope s__law_drawn_half) := ⟨rfl, rfl, rfl, by decide +kernel, rfl, by decide +kernel, by decide +kernel⟩
theorem ok__law_drawn_half {F : Fx} (D : Dn F.K F.mg "_law_drawn_half" s__law_drawn_half ["pen", "size", "far"]) (bz : Bz F.mg) (c__law_pick : ClB F 2 "_law_pick" false fPick) (c__law_great : ClB F 2 "_law_great" false fGreat) (c__law_shuffled : ClB F 2 "_law_shuffled" false fShuf) (c__law_all_cords : ClB F 1 "_law_all_cords" true fLAllC) (c__law_cross : ClB F 1 "_law_cross" false fLCross) : ClB F 3 "_law_drawn_half" true fHalf := by
  refine cl_b D sc__law_drawn_half (fun ds n EX QD h => ?_) (fun fa cdv A outer s H E pn B0 hr tk po => ?_)
  · obtain ⟨s, far, rfl, _⟩ := h
    rfl
  · have nd := sc__law_drawn_half.nd
    refine ⟨_, _, (bss_cons (bs_parV (i := 3) (j := 4) nd (BN.toV (bn_lst ba_nil)) (BE.toV (be_call c__law_pick hr (by decide) (by rfl) tk (ba_cons (be_nm 0 (pv 0)) (ba_cons (BN.e (bn_lst (ba_cons be_int (ba_cons be_int (ba_cons be_int (ba_cons (be_nm 1 (pv 1)) (ba_cons (be_nm 1 (pv 1)) ba_nil))))))) ba_nil)))) rfl rfl rfl (by decide) rfl rfl (by rfl))
    (bss_cons (bs_for po rfl (bi_seq (be_call c__law_shuffled hr (by decide) (by rfl) tk (ba_cons (be_nm 0 (pv 0)) (ba_cons (BN.e (bn_call c__law_all_cords hr (by decide) (by rfl) tk (ba_cons (be_nm 1 (pv 1)) ba_nil))) ba_nil)))) (bg_nm (pg_name (i := 5) nd rfl (.inr rfl)))
    (bss_one (bs_if (BW.bt (bw_and (bt_lt (BE.f (be_len (by rfl) bz.len (bf_own 3 (pv 3)))) (BE.f (be_nm 4 (pv 4)))) (bw_and1 (bt_look 3 (bt_eqNil hr.units (BN.l (bn_lc (own := [("one", 6)]) rfl nd (bi_seq (be_nm 3 (pv 3))) (blkOk_by (N := ["pen", "size", "far", "found", "most", "cord", "one"]) (sc := defScope s__law_drawn_half) (by decide +kernel)) (fun _ _ _ _ _ => (bg_nm (pg_name (i := 6) nd rfl (.inl rfl)))) (fun _ _ _ _ _ => (bts_one (bt_val (be_call0 c__law_cross hr (by decide) (by rfl) (ba_cons (be_nm 6 (pv 6)) (ba_cons (be_nm 5 (pv 5)) ba_nil)))))) (fun _ _ _ _ _ => (be_nm 6 (pv 6))))) (bn_lst ba_nil))))))
    (bss_one (bs_appendV 3 (pv 3) (be_catA (be_nm 5 (pv 5)) (be_tup (ba_cons (be_add be_int (be_call c__law_great hr (by decide) (by rfl) tk (ba_cons (be_nm 0 (pv 0)) (ba_cons (be_call c__law_pick hr (by decide) (by rfl) tk (ba_cons (be_nm 0 (pv 0)) (ba_cons (BN.e (bn_lst (ba_cons be_int (ba_cons be_int (ba_cons be_int (ba_cons (be_nm 2 (pv 2)) ba_nil)))))) ba_nil))) ba_nil)))) ba_nil)))))
    bss_nil)))
    (bss_one (bs_retO 3 (pv 3))))), ?_⟩
    rintro _ n EX QD ⟨s, far, rfl, hn, h1, h2, hf, q⟩
    simp only [startB, Nat.reduceAdd, Nat.reduceSub, List.replicate_succ, List.replicate_zero, wLc, wLc2, wISeq, wipeB, List.set_cons_succ, List.set_cons_zero, wgTup, wgCons, wgNil, wgNm, Bool.not_true, Bool.not_false, Bool.false_eq_true, if_true, if_false, List.map_cons, List.map_nil, List.length_cons, List.length_nil, List.cons_append, List.nil_append, wName, List.getElem?_cons_zero, List.getElem?_cons_succ, wC, wOp, wCall, wACons, wANil, wAndV, wOrV, wNotV, wIsi, wIsi2, wCmp, wChain, wChain3, wOfT, wIfE, wAnd, wOr, wNotT, bInt, bEq, bNe, bIsN, bNotN, bIn, bNotIn, wCall1, bLen, bAll, bAny, bSum, sRet, sRetN, sRetO, sIf, sSeq, sNil, sExpr, sSet, sAsg, sPar, wVE, wVN, wOfN, wOfE, wTup, wLst, pyAll, fPick, fShuf, fLAllC, sFor, wISeq, Option.map_some]
    have la : (allC (s : Int)).length ≤ 300 := by
      have := acU_len (s := (s : Int)) (by omega) (s + 3)
      have e : allC (s : Int) = acU (s : Int) (s + 3) := by
        unfold allC acU cordsAt
        rw [show ((s : Int) + 3).toNat = s + 3 by omega]
      rw [e]
      omega
    have lm : ((allC (s : Int)).map cpD).length = (allC (s : Int)).length := List.length_map _
    refine ⟨Nat.zero_le _, Nat.le_of_ble_eq_true rfl, _, rfl, by omega, Nat.succ_pos _, Nat.le_of_ble_eq_true rfl, fun md hmd => ?_⟩
    obtain ⟨m, rfl, hm⟩ : ∃ m : Nat, md = .int (m : Int) ∧ m ≤ 12 := by
      simp only [List.mem_cons, List.not_mem_nil, or_false] at hmd
      rcases hmd with rfl | rfl | rfl | rfl | rfl
      · exact ⟨0, rfl, by omega⟩
      · exact ⟨1, rfl, by omega⟩
      · exact ⟨2, rfl, by omega⟩
      · exact ⟨s, rfl, h2⟩
      · exact ⟨s, rfl, h2⟩
    refine ⟨(s : Int), rfl, by omega, by omega, _, rfl, by omega, by omega, fun ys hp => ?_⟩
    obtain ⟨zs, rfl, hz⟩ := perm_map_inv hp (allC (s : Int)) rfl
    have hlz : zs.length = (allC (s : Int)).length := hz.length_eq
    obtain ⟨_, _, ndA⟩ := okB_of (s := (s : Int)) (by omega) (by omega)
    have ndz : zs.Nodup := hz.nodup_iff.mpr ndA
    refine for_inv (fun i ρ n' => n' ≤ n + 400 + 100 * i ∧ ∃ (L : List Cm) (u5 u6 : Sl), ρ = [.val .pen, .val (.py (.int (s : Int))), .val (.py (.int (far : Int))), .own (cmsD L), .val (.py (.int (m : Int))), u5, u6] ∧ OkL s L ∧ L.length ≤ 12 ∧ (∀ c ∈ L, c.2 ≤ 10 ^ 60) ∧ ∀ c ∈ L, c.1 ∈ zs.take i) _ 0 _ _ _ (fun j d ρ n' DB' hd hI hrt hbk hnx hct => ?_) ⟨by omega, [], _, _, rfl, ⟨fun c hc => absurd hc List.not_mem_nil, fun c hc => absurd hc List.not_mem_nil, .nil⟩, Nat.zero_le _, fun c hc => absurd hc List.not_mem_nil, fun c hc => absurd hc List.not_mem_nil⟩ (fun ρ' n' hI => ?_)
    · obtain ⟨hn', L, u5, u6, rfl, ok, l12, hb, hin⟩ := hI
      rw [Nat.zero_add] at *
      obtain ⟨c, hc, rfl⟩ : ∃ c, zs[j]? = some c ∧ d = .py (cpD c) := by
        rw [List.getElem?_map, List.getElem?_map] at hd
        cases q : zs[j]? with
        | none =>
          rw [q] at hd
          cases hd
        | some e =>
          rw [q] at hd
          exact ⟨e, rfl, (Option.some.inj hd).symm⟩
      have hlc : (cmsD L).length = L.length := List.length_map _
      have htk : zs.take (j + 1) = zs.take j ++ [c] := by rw [List.take_add_one, hc]; rfl
      simp only [startB, Nat.reduceAdd, Nat.reduceSub, List.replicate_succ, List.replicate_zero, wLc, wLc2, wISeq, wipeB, List.set_cons_succ, List.set_cons_zero, wgTup, wgCons, wgNil, wgNm, Bool.not_true, Bool.not_false, Bool.false_eq_true, if_true, if_false, List.map_cons, List.map_nil, List.length_cons, List.length_nil, List.cons_append, List.nil_append, wName, List.getElem?_cons_zero, List.getElem?_cons_succ, wC, wOp, wCall, wACons, wANil, wAndV, wOrV, wNotV, wIsi, wIsi2, wCmp, wChain, wChain3, wOfT, wIfE, wAnd, wOr, wNotT, bInt, bEq, bNe, bIsN, bNotN, bIn, bNotIn, wCall1, bLen, bAll, bAny, bSum, sRet, sRetN, sRetO, sIf, sSeq, sNil, sExpr, sSet, sAsg, sPar, wVE, wVN, wOfN, wOfE, wTup, wLst, pyAll, wLookT, wOwn, wEqNil, fLCross, fPick, fGreat, sAppend, bCatA, bAdd, Option.map_some]
      rw [hlc]
      by_cases hlm : (L.length : Int) < (m : Int)
      · rw [if_pos (decide_eq_true hlm)]
        refine lc_sieve (fun d => match d with
          | .tuple (.int a :: .int b :: _) => crossI (a, b) c
          | _ => false) (cmsD L) (fun w hw P R p1 p2 => ?_) ?_
        · obtain ⟨e, he, rfl⟩ := List.mem_map.mp hw
          simp only [startB, Nat.reduceAdd, Nat.reduceSub, List.replicate_succ, List.replicate_zero, wLc, wLc2, wISeq, wipeB, List.set_cons_succ, List.set_cons_zero, wgTup, wgCons, wgNil, wgNm, Bool.not_true, Bool.not_false, Bool.false_eq_true, if_true, if_false, List.map_cons, List.map_nil, List.length_cons, List.length_nil, List.cons_append, List.nil_append, wName, List.getElem?_cons_zero, List.getElem?_cons_succ, wC, wOp, wCall, wACons, wANil, wAndV, wOrV, wNotV, wIsi, wIsi2, wCmp, wChain, wChain3, wOfT, wIfE, wAnd, wOr, wNotT, bInt, bEq, bNe, bIsN, bNotN, bIn, bNotIn, wCall1, bLen, bAll, bAny, bSum, sRet, sRetN, sRetO, sIf, sSeq, sNil, sExpr, sSet, sAsg, sPar, wVE, wVN, wOfN, wOfE, wTup, wLst, pyAll]
          refine ⟨e.1.1, e.1.2, c.1, c.2, [.int e.2], [], rfl, ?_⟩
          cases hx : crossI (e.1.1, e.1.2) (c.1, c.2) with
          | true => exact p1 hx
          | false => exact p2 hx
        · refine ⟨trivial, Nat.zero_le _, trivial, ?_⟩
          by_cases hx : ∀ e ∈ L, crossI e.1 c = false
          · have hE : ((cmsD L).filter fun d => match d with
              | .tuple (.int a :: .int b :: _) => crossI (a, b) c
              | _ => false) = [] := List.filter_eq_nil_iff.mpr fun d hd h => by
                obtain ⟨e, he, rfl⟩ := List.mem_map.mp hd
                have h : crossI e.1 c = true := h
                rw [hx e he] at h
                cases h
            rw [hE]
            have hj : j < zs.length := (List.getElem?_eq_some_iff.mp hc).1
            refine (if_pos rfl).mpr ⟨Nat.le_of_ble_eq_true rfl, _, rfl, by omega, Nat.succ_pos _, Nat.le_of_ble_eq_true rfl, fun d hd => ?_⟩
            obtain ⟨k, rfl, hk⟩ : ∃ k : Nat, d = .int (k : Int) ∧ k ≤ 60 := by
              simp only [List.mem_cons, List.not_mem_nil, or_false] at hd
              rcases hd with rfl | rfl | rfl | rfl
              · exact ⟨0, rfl, by omega⟩
              · exact ⟨1, rfl, by omega⟩
              · exact ⟨2, rfl, by omega⟩
              · exact ⟨far, rfl, hf⟩
            refine ⟨k, rfl, by omega, by omega, fun r hr => ⟨Nat.le_of_ble_eq_true rfl, ?_⟩⟩
            simp only [cpD]
            have hcA : c ∈ allC (s : Int) := hz.mem_iff.mp (List.mem_of_getElem? hc)
            have hr60 : (1 : Int) + (r : Int) ≤ 10 ^ 60 := by
              have h1 : r + 1 ≤ 10 ^ k := hr
              have h2 : 10 ^ k ≤ 10 ^ 60 := Nat.pow_le_pow_right (by decide) hk
              have h3 : ((r + 1 : Nat) : Int) ≤ ((10 ^ 60 : Nat) : Int) := Int.ofNat_le.mpr (Nat.le_trans h1 h2)
              have e3 : ((10 ^ 60 : Nat) : Int) = (10 : Int) ^ 60 := by norm_cast
              rw [e3] at h3
              omega
            refine ⟨Nat.le_of_ble_eq_true rfl, by omega, hnx _ _ ⟨by omega, L ++ [(c, 1 + (r : Int))], .val (.py (cpD c)), u6, ?_, ⟨fun e he => ?_, fun e he => ?_, ?_⟩, ?_, fun e he => ?_, fun e he => ?_⟩⟩
            · unfold cmsD
              rw [List.map_append]
              rfl
            · rcases List.mem_append.mp he with he | he
              · exact ok.mem e he
              · rw [List.mem_singleton.mp he]
                exact hcA
            · rcases List.mem_append.mp he with he | he
              · exact ok.pos e he
              · rw [List.mem_singleton.mp he]
                show (1 : Int) ≤ 1 + (r : Int)
                omega
            · refine List.pairwise_append.mpr ⟨ok.pw, List.pairwise_singleton _ _, fun a ha b hb => ?_⟩
              rw [List.mem_singleton.mp hb]
              refine ⟨fun e => ?_, hx a ha⟩
              have e : a.1 = c := e
              have hm := hin a ha
              rw [e] at hm
              obtain ⟨i, hi, ei⟩ := List.mem_iff_getElem.mp hm
              rw [List.length_take] at hi
              have g1 : zs[i]'(by omega) = c := by rw [← ei, List.getElem_take]
              have g2 : zs[j]'hj = c := (List.getElem?_eq_some_iff.mp hc).2
              have := (List.getElem_inj ndz).mp (g1.trans g2.symm)
              omega
            · rw [List.length_append, List.length_singleton]
              omega
            · rcases List.mem_append.mp he with he | he
              · exact hb e he
              · rw [List.mem_singleton.mp he]
                exact hr60
            · rw [htk]
              rcases List.mem_append.mp he with he | he
              · exact List.mem_append_left _ (hin e he)
              · rw [List.mem_singleton.mp he]
                exact List.mem_append_right _ (List.mem_singleton.mpr rfl)
          · have hE : ¬ (((cmsD L).filter fun d => match d with
              | .tuple (.int a :: .int b :: _) => crossI (a, b) c
              | _ => false).isEmpty = true) := fun h => hx fun e he => by
                rw [List.isEmpty_iff] at h
                have := List.filter_eq_nil_iff.mp h (cmD e) (List.mem_map.mpr ⟨e, he, rfl⟩)
                cases q : crossI e.1 c with
                | false => rfl
                | true => exact absurd q this
            refine (if_neg hE).mpr ?_
            exact hnx _ _ ⟨by omega, L, _, _, rfl, ok, l12, hb, fun e he => by rw [htk]; exact List.mem_append_left _ (hin e he)⟩
      · rw [if_neg (by rw [decide_eq_true_eq]; exact hlm)]
        exact hnx _ _ ⟨by omega, L, _, _, rfl, ok, l12, hb, fun e he => by rw [htk]; exact List.mem_append_left _ (hin e he)⟩
    · obtain ⟨hn', L, u5, u6, rfl, ok, l12, hb, hin⟩ := hI
      simp only [startB, Nat.reduceAdd, Nat.reduceSub, List.replicate_succ, List.replicate_zero, wLc, wLc2, wISeq, wipeB, List.set_cons_succ, List.set_cons_zero, wgTup, wgCons, wgNil, wgNm, Bool.not_true, Bool.not_false, Bool.false_eq_true, if_true, if_false, List.map_cons, List.map_nil, List.length_cons, List.length_nil, List.cons_append, List.nil_append, wName, List.getElem?_cons_zero, List.getElem?_cons_succ, wC, wOp, wCall, wACons, wANil, wAndV, wOrV, wNotV, wIsi, wIsi2, wCmp, wChain, wChain3, wOfT, wIfE, wAnd, wOr, wNotT, bInt, bEq, bNe, bIsN, bNotN, bIn, bNotIn, wCall1, bLen, bAll, bAny, bSum, sRet, sRetN, sRetO, sIf, sSeq, sNil, sExpr, sSet, sAsg, sPar, wVE, wVN, wOfN, wOfE, wTup, wLst, pyAll]
      refine q L n' ?_ ok l12 hb
      rw [List.length_map, List.length_map] at hn'
      omega
end Fv
set_option maxRecDepth 100000
set_option maxHeartbeats 4000000
/-! The law's own cords: a standing of them, and back. -/
namespace Fv
open PySem PySem.Spec PyProof.Rows L2 Gb
open PySem.W (T4)
def fDrawnC : FB := fun ds n _ Q => ∃ s far : Nat, ds = [.pen, .py (.int (s : Int)), .py (.int (far : Int))] ∧ n + 300000 ≤ 2 ^ 60 ∧ 1 ≤ s ∧ s ≤ 12 ∧ far ≤ 60 ∧ ∀ (L : L2c) (n' : Nat), n' ≤ n + 100000 → Ok2 s L → L.1.length ≤ 12 → L.2.length ≤ 12 → (∀ c ∈ L.1, c.2 ≤ 10 ^ 60) → (∀ c ∈ L.2, c.2 ≤ 10 ^ 60) → Q (.py (hereD false false L)) n'
theorem sc__law_drawn_cords : FnScope ["pen", "size", "far"] ["pen", "size", "far"] (defScope s__law_drawn_cords) := ⟨rfl, rfl, rfl, by decide +kernel, rfl, by decide +kernel, by decide +kernel⟩
theorem ok__law_drawn_cords {F : Fx} (D : Dn F.K F.mg "_law_drawn_cords" s__law_drawn_cords ["pen", "size", "far"]) (bz : Bz F.mg) (c__law_drawn_half : ClB F 3 "_law_drawn_half" true fHalf) : ClB F 4 "_law_drawn_cords" false fDrawnC := by
  refine cl_b D sc__law_drawn_cords (fun ds n EX QD h => ?_) (fun fa cdv A outer s H E pn B0 hr tk po => ?_)
  · obtain ⟨s, far, rfl, _⟩ := h
    rfl
  · have nd := sc__law_drawn_cords.nd
    refine ⟨_, _, (bss_one (bs_ret (be_tup (ba_cons (BN.e (bn_call c__law_drawn_half hr (by decide) (by rfl) tk (ba_cons (be_nm 0 (pv 0)) (ba_cons (be_nm 1 (pv 1)) (ba_cons (be_nm 2 (pv 2)) ba_nil))))) (ba_cons (BN.e (bn_call c__law_drawn_half hr (by decide) (by rfl) tk (ba_cons (be_nm 0 (pv 0)) (ba_cons (be_nm 1 (pv 1)) (ba_cons (be_nm 2 (pv 2)) ba_nil))))) ba_nil))))), ?_⟩
    rintro _ n EX QD ⟨s, far, rfl, hn, h1, h2, hf, q⟩
    simp only [startB, Nat.reduceAdd, Nat.reduceSub, List.replicate_succ, List.replicate_zero, wLc, wLc2, wISeq, wipeB, List.set_cons_succ, List.set_cons_zero, wgTup, wgCons, wgNil, wgNm, Bool.not_true, Bool.not_false, Bool.false_eq_true, if_true, if_false, List.map_cons, List.map_nil, List.length_cons, List.length_nil, List.cons_append, List.nil_append, wName, List.getElem?_cons_zero, List.getElem?_cons_succ, wC, wOp, wCall, wACons, wANil, wAndV, wOrV, wNotV, wIsi, wIsi2, wCmp, wChain, wChain3, wOfT, wIfE, wAnd, wOr, wNotT, bInt, bEq, bNe, bIsN, bNotN, bIn, bNotIn, wCall1, bLen, bAll, bAny, bSum, sRet, sRetN, sRetO, sIf, sSeq, sNil, sExpr, sSet, sAsg, sPar, wVE, wVN, wOfN, wOfE, wTup, wLst, pyAll, fHalf, Option.map_some]
    refine ⟨s, far, rfl, by omega, h1, h2, hf, fun L0 n1 hn1 ok0 l0 b0 => ⟨s, far, rfl, by omega, h1, h2, hf, fun L1 n2 hn2 ok1 l1 b1 => ⟨Nat.le_of_ble_eq_true rfl, ?_⟩⟩⟩
    exact q (L0, L1) n2 (by omega) ⟨ok0, ok1⟩ l0 l1 b0 b1
/-! ### a standing -/
def dnH (h p : Nat) (k q : Nat) : Bool := decide (k < h) || (decide (k = h) && decide (q < p))
def nowL (s : Nat) (L : L2c) (h p : Nat) : List Int := (List.range s).map fun (q : Nat) => if dnH h p (q % 2) q = true then sumE s q 0 (if q % 2 = 0 then L.1 else L.2) else 0
def oldL (s : Nat) (L : L2c) (h p : Nat) : List Int := (List.range s).map fun (q : Nat) => if dnH h p ((q + 1) % 2) q = true then sumE s q (-1) (if q % 2 = 0 then L.2 else L.1) else 0
theorem cut1c {x : PyData} {xs : List PyData} : cutD (x :: xs) (some 1) none = xs := by
  unfold cutD
  rw [HT.sIx_none, show HT.sIx (x :: xs).length 0 (some 1) = 1 from (HT.sIx_nat _ _ 1).trans (by simp)]
  simp
theorem dn_next {h p k q s : Nat} (hq : q < s) : dnH h s k q = dnH (h + 1) 0 k q := by
  unfold dnH
  rw [Bool.eq_iff_iff]
  simp only [Bool.or_eq_true, Bool.and_eq_true, decide_eq_true_eq]
  omega
theorem now_next (s : Nat) (L : L2c) (h : Nat) : nowL s L h s = nowL s L (h + 1) 0 := List.map_congr_left fun q hq => by
  rw [dn_next (p := 0) (List.mem_range.mp hq)]
theorem old_next (s : Nat) (L : L2c) (h : Nat) : oldL s L h s = oldL s L (h + 1) 0 := List.map_congr_left fun q hq => by
  rw [dn_next (p := 0) (List.mem_range.mp hq)]
theorem now_len (s : Nat) (L : L2c) (h p : Nat) : (nowL s L h p).length = s := by
  unfold nowL
  rw [List.length_map, List.length_range]
theorem old_len (s : Nat) (L : L2c) (h p : Nat) : (oldL s L h p).length = s := by
  unfold oldL
  rw [List.length_map, List.length_range]
/-- one entry of a row that is counted -/
theorem set_range {f g : Nat → Int} {s p : Nat} {v : Int} (hv : g p = v) (hf : ∀ q, q ≠ p → f q = g q) : ((List.range s).map f).set p v = (List.range s).map g := by
  refine List.ext_getElem (by rw [List.length_set, List.length_map, List.length_map]) fun i h1 h2 => ?_
  rw [List.getElem_set, List.getElem_map, List.getElem_map, List.getElem_range]
  by_cases e : p = i
  · rw [if_pos e, ← e, hv]
  · rw [if_neg e]
    exact hf i (Ne.symm e)
theorem dn_self {h p k : Nat} : dnH h (p + 1) k p = (decide (k < h) || decide (k = h)) := by
  unfold dnH
  rw [Bool.eq_iff_iff]
  simp only [Bool.or_eq_true, Bool.and_eq_true, decide_eq_true_eq]
  omega
theorem dn_ne {h p k q : Nat} (hq : q ≠ p) : dnH h p k q = dnH h (p + 1) k q := by
  unfold dnH
  rw [Bool.eq_iff_iff]
  simp only [Bool.or_eq_true, Bool.and_eq_true, decide_eq_true_eq]
  omega
theorem now_set {s : Nat} {L : L2c} {h p : Nat} (e : p % 2 = h) : (nowL s L h p).set p (sumE s p 0 (if p % 2 = 0 then L.1 else L.2)) = nowL s L h (p + 1) := by
  refine set_range ?_ fun q hq => ?_
  · rw [dn_self, e, decide_eq_true (rfl : h = h), Bool.or_true, if_pos rfl]
  · rw [dn_ne hq]
theorem old_set {s : Nat} {L : L2c} {h p : Nat} (e : (p + 1) % 2 = h) : (oldL s L h p).set p (sumE s p (-1) (if p % 2 = 0 then L.2 else L.1)) = oldL s L h (p + 1) := by
  refine set_range ?_ fun q hq => ?_
  · rw [dn_self, e, decide_eq_true (rfl : h = h), Bool.or_true, if_pos rfl]
  · rw [dn_ne hq]
theorem now_keep {s : Nat} {L : L2c} {h p : Nat} (h2 : h < 2) (e : p % 2 ≠ h) : nowL s L h p = nowL s L h (p + 1) := List.map_congr_left fun q _ => by
  by_cases hq : q = p
  · subst hq
    have : dnH h q (q % 2) q = dnH h (q + 1) (q % 2) q := by
      unfold dnH
      rw [Bool.eq_iff_iff]
      simp only [Bool.or_eq_true, Bool.and_eq_true, decide_eq_true_eq]
      omega
    rw [this]
  · rw [dn_ne hq]
theorem old_keep {s : Nat} {L : L2c} {h p : Nat} (h2 : h < 2) (e : (p + 1) % 2 ≠ h) : oldL s L h p = oldL s L h (p + 1) := List.map_congr_left fun q _ => by
  by_cases hq : q = p
  · subst hq
    have : dnH h q ((q + 1) % 2) q = dnH h (q + 1) ((q + 1) % 2) q := by
      unfold dnH
      rw [Bool.eq_iff_iff]
      simp only [Bool.or_eq_true, Bool.and_eq_true, decide_eq_true_eq]
      omega
    rw [this]
  · rw [dn_ne hq]
theorem set_zero {f : Nat → Int} {s p : Nat} (h : f p = 0) : ((List.range s).map f).set p 0 = (List.range s).map f := set_range h fun _ _ => rfl
theorem now_zero {s : Nat} {L : L2c} {h p : Nat} (e : p % 2 = h) : (nowL s L h p).set p 0 = nowL s L h p := set_zero (by
  have : dnH h p (p % 2) p = false := by
    unfold dnH
    rw [Bool.or_eq_false_iff, decide_eq_false_iff_not, Bool.and_eq_false_iff, decide_eq_false_iff_not, decide_eq_false_iff_not]
    omega
  rw [this, if_neg Bool.false_ne_true])
theorem old_zero {s : Nat} {L : L2c} {h p : Nat} (e : (p + 1) % 2 = h) : (oldL s L h p).set p 0 = oldL s L h p := set_zero (by
  have : dnH h p ((p + 1) % 2) p = false := by
    unfold dnH
    rw [Bool.or_eq_false_iff, decide_eq_false_iff_not, Bool.and_eq_false_iff, decide_eq_false_iff_not, decide_eq_false_iff_not]
    omega
  rw [this, if_neg Bool.false_ne_true])
theorem now_start (s : Nat) (L : L2c) : nowL s L 0 0 = List.replicate s 0 := by
  refine List.eq_replicate_iff.mpr ⟨now_len s L 0 0, fun b hb => ?_⟩
  obtain ⟨q, _, rfl⟩ := List.mem_map.mp hb
  have : dnH 0 0 (q % 2) q = false := by
    unfold dnH
    simp
  rw [this]
  rfl
theorem old_start (s : Nat) (L : L2c) : oldL s L 0 0 = List.replicate s 0 := by
  refine List.eq_replicate_iff.mpr ⟨old_len s L 0 0, fun b hb => ?_⟩
  obtain ⟨q, _, rfl⟩ := List.mem_map.mp hb
  have : dnH 0 0 ((q + 1) % 2) q = false := by
    unfold dnH
    simp
  rw [this]
  rfl
theorem now_end (s : Nat) (L : L2c) : nowL s L 2 0 = byN s L := List.map_congr_left fun q _ => by
  rw [show dnH 2 0 (q % 2) q = true from by unfold dnH; rw [decide_eq_true (by omega : q % 2 < 2)]; rfl, if_pos rfl]
theorem old_end (s : Nat) (L : L2c) : oldL s L 2 0 = byO s L := List.map_congr_left fun q _ => by
  rw [show dnH 2 0 ((q + 1) % 2) q = true from by unfold dnH; rw [decide_eq_true (by omega : (q + 1) % 2 < 2)]; rfl, if_pos rfl]
theorem sumE_take {s p b : Int} {M : List Cm} {j : Nat} {c : Cm} (h : M[j]? = some c) : sumE s p b (M.take (j + 1)) = sumE s p b (M.take j) + c.2 * eI s p b c.1 := by
  unfold sumE
  rw [List.take_add_one, h, List.map_append, List.sum_append]
  simp
theorem getD_set_self {xs : List Int} {p : Nat} {v : Int} (h : p < xs.length) : (xs.set p v).getD p 0 = v := by
  rw [List.getD_eq_getElem?_getD, List.getElem?_set_self h]
  rfl
theorem eI_form {s p b : Int} {lo hi : Int} : (if crossI ((cordI s p b).2.1, (cordI s p b).2.2) (lo, hi) = true then (1 : Int) else 0) - (if (decide ((cordI s p b).2.1 = lo) && decide ((cordI s p b).2.2 = hi)) = true then 1 else 0) = eI s p b (lo, hi) := by
  unfold eI
  congr 1
  refine ite_congr (propext ?_) (fun _ => rfl) fun _ => rfl
  rw [Bool.and_eq_true, decide_eq_true_eq, decide_eq_true_eq]
  exact ⟨fun h => Prod.ext h.1 h.2, fun h => ⟨congrArg Prod.fst h, congrArg Prod.snd h⟩⟩
theorem eI_small {s p b : Int} {c : Int × Int} : -1 ≤ eI s p b c ∧ eI s p b c ≤ 1 := by
  unfold eI
  split <;> split <;> decide
theorem atI_2 (x y z : PyData) : L2.atI [x, y, z] 2 = some z := rfl
theorem atI_r0 (x y : Addr × List PyData) : L2.atI [x, y] 0 = some x := rfl
theorem atI_r1 (x y : Addr × List PyData) : L2.atI [x, y] 1 = some y := rfl
theorem ixN_20 : ixN 2 0 = some 0 := rfl
theorem ixN_21 : ixN 2 1 = some 1 := rfl
def fByC : FB := fun ds n _ Q => ∃ (s : Nat) (L : L2c), ds = [.py (.int (s : Int)), .py (hereD false false L)] ∧ 1 ≤ s ∧ s ≤ 12 ∧ (∀ c ∈ L.1, c.1 ∈ allC s) ∧ (∀ c ∈ L.2, c.1 ∈ allC s) ∧ Q (.py (sdD (byS s L))) n
theorem sc__law_by_cords : FnScope ["size", "cords", "found", "half", "post", "is_now", "mine", "cord", "more"] ["size", "cords"] (defScope s__law_by_cords) := ⟨rfl, rfl, rfl, by decide +kernel, rfl, by decide +kernel, by decide +kernel⟩
theorem ok__law_by_cords {F : Fx} (D : Dn F.K F.mg "_law_by_cords" s__law_by_cords ["size", "cords"]) (bz : Bz F.mg) (c__law_corners : ClB F 1 "_law_corners" false fCordOf) (c__law_cross : ClB F 1 "_law_cross" false fLCross) : ClB F 2 "_law_by_cords" false fByC := by
  refine cl_b D sc__law_by_cords (fun ds n EX QD h => ?_) (fun fa cdv A outer s H E pn B0 hr tk po => ?_)
  · obtain ⟨s, L, rfl, _⟩ := h
    rfl
  · have nd := sc__law_by_cords.nd
    refine ⟨_, _, (bss_cons (bs_setV (i := 2) (bv_lst2N (bn_rep (BN.l (bn_lst (ba_cons be_int ba_nil))) (be_nm 0 (pv 0))) (bn_rep (BN.l (bn_lst (ba_cons be_int ba_nil))) (be_nm 0 (pv 0)))) nd rfl (.inl rfl))
    (bss_cons (bs_for po rfl (bi_seq (be_tup (ba_cons be_int (ba_cons be_int ba_nil)))) (bg_nm (pg_name (i := 3) nd rfl (.inl rfl)))
    (bss_one (bs_for po rfl (bi_rng1 (by rfl) bz.range (be_nm 0 (pv 0))) (bg_nm (pg_name (i := 4) nd rfl (.inl rfl)))
    (bss_cons (bs_setV (i := 5) (BE.toV (be_eq hr.units (BE.f (be_mod (be_nm 4 (pv 4)) be_int)) (BE.f (be_nm 3 (pv 3))))) nd rfl (.inl rfl))
    (bss_cons (bs_setV (i := 6) (BE.toV (be_slT (BE.l (be_call c__law_corners hr (by decide) (by rfl) tk (ba_cons (be_nm 0 (pv 0)) (ba_cons (be_nm 4 (pv 4)) (ba_cons (be_ifExp (bt_val (be_nm 5 (pv 5))) be_int (be_neg be_int)) ba_nil))))) (bo_some be_int) bo_none)) nd rfl (.inl rfl))
    (bss_one (bs_for po rfl (bi_seq (be_ix (BE.l (be_nm 1 (pv 1))) (be_nm 3 (pv 3)))) (bg_nm (pg_name (i := 7) nd rfl (.inl rfl)))
    (bss_cons (bs_setV (i := 8) (BE.toV (be_mul (be_ix (BE.l (be_nm 7 (pv 7))) be_int) (be_sub (be_intOf (by rfl) bz.int (BE.f (be_call c__law_cross hr (by decide) (by rfl) tk (ba_cons (be_nm 6 (pv 6)) (ba_cons (be_nm 7 (pv 7)) ba_nil))))) (be_intOf (by rfl) bz.int (BE.f (be_eq hr.units (BE.f (be_nm 6 (pv 6))) (BE.f (be_slT (BE.l (be_nm 7 (pv 7))) bo_none (bo_some be_int))))))))) nd rfl (.inl rfl))
    (bss_one (bs_putM 2 (be_add (be_ix (bl_row 2 (pv 2) (be_intOf (by rfl) bz.int (BE.f (be_nm 5 (pv 5))))) (be_nm 4 (pv 4))) (be_nm 8 (pv 8))) (be_intOf (by rfl) bz.int (BE.f (be_nm 5 (pv 5)))) (be_nm 4 (pv 4)) (pv 2)))))))))))
    (bss_one (bs_ret (be_tup (ba_cons (be_tupleL (by rfl) bz.tuple (bl_row 2 (pv 2) be_int)) (ba_cons (be_tupleL (by rfl) bz.tuple (bl_row 2 (pv 2) be_int)) ba_nil))))))), ?_⟩
    rintro _ n EX QD ⟨s, L, rfl, h1, h2, m1, m2, q⟩
    simp only [startB, Nat.reduceAdd, Nat.reduceSub, List.replicate_succ, List.replicate_zero, wLc, wLc2, wISeq, wipeB, List.set_cons_succ, List.set_cons_zero, wgTup, wgCons, wgNil, wgNm, Bool.not_true, Bool.not_false, Bool.false_eq_true, if_true, if_false, List.map_cons, List.map_nil, List.length_cons, List.length_nil, List.cons_append, List.nil_append, wName, List.getElem?_cons_zero, List.getElem?_cons_succ, wC, wOp, wCall, wACons, wANil, wAndV, wOrV, wNotV, wIsi, wIsi2, wCmp, wChain, wChain3, wOfT, wIfE, wAnd, wOr, wNotT, bInt, bEq, bNe, bIsN, bNotN, bIn, bNotIn, wCall1, bLen, bAll, bAny, bSum, sRet, sRetN, sRetO, sIf, sSeq, sNil, sExpr, sSet, sAsg, sPar, wVE, wVN, wOfN, wOfE, wTup, wLst, pyAll, sFor, wISeq, wIR1, wLst2N, wRep, hereD, rowK, Option.map_some]
    refine ⟨Nat.le_of_ble_eq_true rfl, trivial, by omega, by omega, by simp; omega, Nat.le_of_ble_eq_true rfl, trivial, by omega, by omega, by simp; omega, fun z a b => ⟨Nat.le_of_ble_eq_true rfl, ?_⟩⟩
    rw [Int.toNat_natCast, flat_zero]
    refine for_inv (fun i ρ n' => n' = n ∧ ∃ u3 u4 u5 u6 u7 u8, ρ = [.val (.py (.int (s : Int))), .val (.py (.tuple [.list (cmsD L.1), .list (cmsD L.2)])), .mat false z [(a, intsD (oldL s L i 0)), (b, intsD (nowL s L i 0))], u3, u4, u5, u6, u7, u8]) _ 0 _ _ _ (fun h d ρ n' DB' hd hI hrt hbk hnx hct => ?_) ⟨rfl, _, _, _, _, _, _, by rw [now_start, old_start]⟩ (fun ρ' n' hI => ?_)
    · obtain ⟨rfl, u3, u4, u5, u6, u7, u8, rfl⟩ := hI
      rw [Nat.zero_add] at *
      obtain ⟨hh, rfl⟩ : h < 2 ∧ d = .py (.int (h : Int)) := by
        match h, hd with
        | 0, hd => exact ⟨by decide, (Option.some.inj hd).symm⟩
        | 1, hd => exact ⟨by decide, (Option.some.inj hd).symm⟩
        | h + 2, hd => simp at hd
      obtain ⟨M, hM, hMm⟩ : ∃ M : List Cm, L2.atI [PyData.list (cmsD L.1), .list (cmsD L.2)] (h : Int) = some (.list (cmsD M)) ∧ (∀ p : Nat, p % 2 = h → M = if p % 2 = 0 then L.1 else L.2) ∧ (∀ p : Nat, (p + 1) % 2 = h → M = if p % 2 = 0 then L.2 else L.1) := by
        have : h = 0 ∨ h = 1 := by omega
        rcases this with rfl | rfl
        · exact ⟨L.1, rfl, fun p e => by rw [if_pos e], fun p e => by rw [if_neg (by omega)]⟩
        · exact ⟨L.2, rfl, fun p e => by rw [if_neg (by omega)], fun p e => by rw [if_pos (by omega)]⟩
      simp only [startB, Nat.reduceAdd, Nat.reduceSub, List.replicate_succ, List.replicate_zero, wLc, wLc2, wISeq, wipeB, List.set_cons_succ, List.set_cons_zero, wgTup, wgCons, wgNil, wgNm, Bool.not_true, Bool.not_false, Bool.false_eq_true, if_true, if_false, List.map_cons, List.map_nil, List.length_cons, List.length_nil, List.cons_append, List.nil_append, wName, List.getElem?_cons_zero, List.getElem?_cons_succ, wC, wOp, wCall, wACons, wANil, wAndV, wOrV, wNotV, wIsi, wIsi2, wCmp, wChain, wChain3, wOfT, wIfE, wAnd, wOr, wNotT, bInt, bEq, bNe, bIsN, bNotN, bIn, bNotIn, wCall1, bLen, bAll, bAny, bSum, sRet, sRetN, sRetO, sIf, sSeq, sNil, sExpr, sSet, sAsg, sPar, wVE, wVN, wOfN, wOfE, wTup, wLst, pyAll, sFor, wIR1]
      refine ⟨by omega, by omega, ?_⟩
      rw [Int.toNat_natCast]
      refine for_inv (fun i ρ n2 => n2 = n' ∧ ∃ u4 u5 u6 u7 u8, ρ = [.val (.py (.int (s : Int))), .val (.py (.tuple [.list (cmsD L.1), .list (cmsD L.2)])), .mat false z [(a, intsD (oldL s L h i)), (b, intsD (nowL s L h i))], .val (.py (.int (h : Int))), u4, u5, u6, u7, u8]) _ 0 _ _ _ (fun p d ρ n2 DB2 hd2 hI2 hrt2 hbk2 hnx2 hct2 => ?_) ⟨rfl, _, _, _, _, _, rfl⟩ (fun ρ' n2 hI2 => ?_)
      · obtain ⟨rfl, u4, u5, u6, u7, u8, rfl⟩ := hI2
        rw [Nat.zero_add] at *
        obtain ⟨hp, rfl⟩ := rng0 hd2
        simp only [startB, Nat.reduceAdd, Nat.reduceSub, List.replicate_succ, List.replicate_zero, wLc, wLc2, wISeq, wipeB, List.set_cons_succ, List.set_cons_zero, wgTup, wgCons, wgNil, wgNm, Bool.not_true, Bool.not_false, Bool.false_eq_true, if_true, if_false, List.map_cons, List.map_nil, List.length_cons, List.length_nil, List.cons_append, List.nil_append, wName, List.getElem?_cons_zero, List.getElem?_cons_succ, wC, wOp, wCall, wACons, wANil, wAndV, wOrV, wNotV, wIsi, wIsi2, wCmp, wChain, wChain3, wOfT, wIfE, wAnd, wOr, wNotT, bInt, bEq, bNe, bIsN, bNotN, bIn, bNotIn, wCall1, bLen, bAll, bAny, bSum, sRet, sRetN, sRetO, sIf, sSeq, sNil, sExpr, sSet, sAsg, sPar, wVE, wVN, wOfN, wOfE, wTup, wLst, pyAll, sFor, wISeq, bMod, wNeg, wIfE, wSlT, wPart, fCordOf, wIx]
        refine ⟨by decide, shaped_int _, shaped_int _, ?_⟩
        rw [eqv_int]
        by_cases e : p % 2 = h
        · have e' : (p : Int) % 2 = (h : Int) := by omega
          rw [decide_eq_true e']
          refine (if_pos rfl).mpr ⟨_, _, _, rfl, by omega, ?_⟩
          simp only [cordD, cut1c, hM]
          refine ⟨trivial, ?_⟩
          refine for_inv (fun i ρ n3 => n3 = n2 ∧ ∃ u7 u8, ρ = [.val (.py (.int (s : Int))), .val (.py (.tuple [.list (cmsD L.1), .list (cmsD L.2)])), .mat false z [(a, intsD (oldL s L h p)), (b, intsD ((nowL s L h p).set p (sumE s p 0 (M.take i))))], .val (.py (.int (h : Int))), .val (.py (.int (p : Int))), .val (.py (.bool true)), .val (.py (.tuple [.int (cordI s p 0).2.1, .int (cordI s p 0).2.2])), u7, u8]) _ 0 _ _ _ (fun j d ρ n3 DB3 hd3 hI3 hrt3 hbk3 hnx3 hct3 => ?_) ⟨rfl, _, _, by rw [show sumE s p 0 (M.take 0) = 0 from rfl, now_zero e]⟩ (fun ρ' n3 hI3 => ?_)
          · obtain ⟨rfl, u7, u8, rfl⟩ := hI3
            rw [Nat.zero_add] at *
            obtain ⟨c, hc, rfl⟩ : ∃ c, M[j]? = some c ∧ d = .py (cmD c) := by
              rw [List.getElem?_map] at hd3
              cases q : (cmsD M)[j]? with
              | none =>
                rw [q] at hd3
                cases hd3
              | some e =>
                rw [q] at hd3
                obtain ⟨c, hc, rfl⟩ := cms_get q
                exact ⟨c, hc, (Option.some.inj hd3).symm⟩
            obtain ⟨⟨lo, hi⟩, m⟩ := c
            simp only [startB, Nat.reduceAdd, Nat.reduceSub, List.replicate_succ, List.replicate_zero, wLc, wLc2, wISeq, wipeB, List.set_cons_succ, List.set_cons_zero, wgTup, wgCons, wgNil, wgNm, Bool.not_true, Bool.not_false, Bool.false_eq_true, if_true, if_false, List.map_cons, List.map_nil, List.length_cons, List.length_nil, List.cons_append, List.nil_append, wName, List.getElem?_cons_zero, List.getElem?_cons_succ, wC, wOp, wCall, wACons, wANil, wAndV, wOrV, wNotV, wIsi, wIsi2, wCmp, wChain, wChain3, wOfT, wIfE, wAnd, wOr, wNotT, bInt, bEq, bNe, bIsN, bNotN, bIn, bNotIn, wCall1, bLen, bAll, bAny, bSum, sRet, sRetN, sRetO, sIf, sSeq, sNil, sExpr, sSet, sAsg, sPar, wVE, wVN, wOfN, wOfE, wTup, wLst, pyAll, cmD, fLCross, wSlT, wPart, cut2, bIntOf, bSub, bMul, bAdd, wIx, wRow, sPutM]
            have hl : ((nowL s L h p).set p (sumE s p 0 (M.take j))).length = s := by rw [List.length_set, now_len]
            simp only [atI_2, atI_r1, ixN_21]
            refine ⟨_, _, _, _, [], [.int m], rfl, trivial, shaped_pair _ _, shaped_pair _ _, ?_⟩
            rw [eqv_pair, eI_form]
            refine ⟨.inr ⟨by have := (eI_small (s := (s : Int)) (p := (p : Int)) (b := 0) (c := (lo, hi))).1; omega, by have := (eI_small (s := (s : Int)) (p := (p : Int)) (b := 0) (c := (lo, hi))).2; omega⟩, ?_⟩
            have hv := sumE_take (s := (s : Int)) (p := (p : Int)) (b := 0) hc
            rw [hv] at hnx3
            rw [atI_ints (by rw [hl]; exact hp), getD_set_self (by rw [now_len]; exact hp)]
            simp only [List.getElem?_cons_succ, List.getElem?_cons_zero]
            rw [ixN_ints (by rw [hl]; exact hp)]
            simp only [List.set_cons_zero, List.set_cons_succ]
            rw [set_ints, List.set_set]
            exact hnx3 _ _ ⟨rfl, _, _, rfl⟩
          · obtain ⟨rfl, u7, u8, rfl⟩ := hI3
            rw [List.length_map, Nat.zero_add, show (cmsD M).length = M.length from List.length_map _, List.take_of_length_le (Nat.le_refl _)]
            rw [hMm.1 p e, now_set e, old_keep hh (by omega)]
            exact hnx2 _ _ ⟨rfl, _, _, _, _, _, rfl⟩
        · have e' : ¬ (p : Int) % 2 = (h : Int) := by omega
          rw [decide_eq_false e']
          refine (if_neg Bool.false_ne_true).mpr ⟨_, _, _, rfl, by omega, ?_⟩
          simp only [cordD, cut1c, hM]
          refine ⟨trivial, ?_⟩
          refine for_inv (fun i ρ n3 => n3 = n2 ∧ ∃ u7 u8, ρ = [.val (.py (.int (s : Int))), .val (.py (.tuple [.list (cmsD L.1), .list (cmsD L.2)])), .mat false z [(a, intsD ((oldL s L h p).set p (sumE s p (-1) (M.take i)))), (b, intsD (nowL s L h p))], .val (.py (.int (h : Int))), .val (.py (.int (p : Int))), .val (.py (.bool false)), .val (.py (.tuple [.int (cordI s p (-1)).2.1, .int (cordI s p (-1)).2.2])), u7, u8]) _ 0 _ _ _ (fun j d ρ n3 DB3 hd3 hI3 hrt3 hbk3 hnx3 hct3 => ?_) ⟨rfl, _, _, by rw [show sumE s p (-1) (M.take 0) = 0 from rfl, old_zero (by omega)]⟩ (fun ρ' n3 hI3 => ?_)
          · obtain ⟨rfl, u7, u8, rfl⟩ := hI3
            rw [Nat.zero_add] at *
            obtain ⟨c, hc, rfl⟩ : ∃ c, M[j]? = some c ∧ d = .py (cmD c) := by
              rw [List.getElem?_map] at hd3
              cases q : (cmsD M)[j]? with
              | none =>
                rw [q] at hd3
                cases hd3
              | some e =>
                rw [q] at hd3
                obtain ⟨c, hc, rfl⟩ := cms_get q
                exact ⟨c, hc, (Option.some.inj hd3).symm⟩
            obtain ⟨⟨lo, hi⟩, m⟩ := c
            simp only [startB, Nat.reduceAdd, Nat.reduceSub, List.replicate_succ, List.replicate_zero, wLc, wLc2, wISeq, wipeB, List.set_cons_succ, List.set_cons_zero, wgTup, wgCons, wgNil, wgNm, Bool.not_true, Bool.not_false, Bool.false_eq_true, if_true, if_false, List.map_cons, List.map_nil, List.length_cons, List.length_nil, List.cons_append, List.nil_append, wName, List.getElem?_cons_zero, List.getElem?_cons_succ, wC, wOp, wCall, wACons, wANil, wAndV, wOrV, wNotV, wIsi, wIsi2, wCmp, wChain, wChain3, wOfT, wIfE, wAnd, wOr, wNotT, bInt, bEq, bNe, bIsN, bNotN, bIn, bNotIn, wCall1, bLen, bAll, bAny, bSum, sRet, sRetN, sRetO, sIf, sSeq, sNil, sExpr, sSet, sAsg, sPar, wVE, wVN, wOfN, wOfE, wTup, wLst, pyAll, cmD, fLCross, wSlT, wPart, cut2, bIntOf, bSub, bMul, bAdd, wIx, wRow, sPutM]
            have hl : ((oldL s L h p).set p (sumE s p (-1) (M.take j))).length = s := by rw [List.length_set, old_len]
            simp only [atI_2, atI_r0, ixN_20]
            refine ⟨_, _, _, _, [], [.int m], rfl, trivial, shaped_pair _ _, shaped_pair _ _, ?_⟩
            rw [eqv_pair, eI_form]
            refine ⟨.inr ⟨by have := (eI_small (s := (s : Int)) (p := (p : Int)) (b := (-1)) (c := (lo, hi))).1; omega, by have := (eI_small (s := (s : Int)) (p := (p : Int)) (b := (-1)) (c := (lo, hi))).2; omega⟩, ?_⟩
            have hv := sumE_take (s := (s : Int)) (p := (p : Int)) (b := (-1)) hc
            rw [hv] at hnx3
            rw [atI_ints (by rw [hl]; exact hp), getD_set_self (by rw [old_len]; exact hp)]
            simp only [List.getElem?_cons_succ, List.getElem?_cons_zero]
            rw [ixN_ints (by rw [hl]; exact hp)]
            simp only [List.set_cons_zero, List.set_cons_succ]
            rw [set_ints, List.set_set]
            exact hnx3 _ _ ⟨rfl, _, _, rfl⟩
          · obtain ⟨rfl, u7, u8, rfl⟩ := hI3
            rw [List.length_map, Nat.zero_add, show (cmsD M).length = M.length from List.length_map _, List.take_of_length_le (Nat.le_refl _)]
            rw [hMm.2 p (by omega), old_set (by omega), now_keep hh e]
            exact hnx2 _ _ ⟨rfl, _, _, _, _, _, rfl⟩
      · obtain ⟨rfl, u4, u5, u6, u7, u8, rfl⟩ := hI2
        rw [rngD_len, Nat.zero_add, now_next, old_next]
        exact hnx _ _ ⟨rfl, _, _, _, _, _, _, rfl⟩
    · obtain ⟨rfl, u3, u4, u5, u6, u7, u8, rfl⟩ := hI
      simp only [startB, Nat.reduceAdd, Nat.reduceSub, List.replicate_succ, List.replicate_zero, wLc, wLc2, wISeq, wipeB, List.set_cons_succ, List.set_cons_zero, wgTup, wgCons, wgNil, wgNm, Bool.not_true, Bool.not_false, Bool.false_eq_true, if_true, if_false, List.map_cons, List.map_nil, List.length_cons, List.length_nil, List.cons_append, List.nil_append, wName, List.getElem?_cons_zero, List.getElem?_cons_succ, wC, wOp, wCall, wACons, wANil, wAndV, wOrV, wNotV, wIsi, wIsi2, wCmp, wChain, wChain3, wOfT, wIfE, wAnd, wOr, wNotT, bInt, bEq, bNe, bIsN, bNotN, bIn, bNotIn, wCall1, bLen, bAll, bAny, bSum, sRet, sRetN, sRetO, sIf, sSeq, sNil, sExpr, sSet, sAsg, sPar, wVE, wVN, wOfN, wOfE, wTup, wLst, pyAll, wTupOf, wRow, atI_r0, atI_r1, Option.map_some]
      refine ⟨trivial, trivial, Nat.le_of_ble_eq_true rfl, ?_⟩
      have e1 : oldL s L 2 0 = byO s L := old_end s L
      have e2 : nowL s L 2 0 = byN s L := now_end s L
      have q : QD (.py (.tuple [.tuple (intsD (byO s L)), .tuple (intsD (byN s L))])) n' := q
      rw [← e1, ← e2] at q
      exact q
/-! ### and back -/
theorem byS_len (s : Nat) (L : L2c) : (byS s L).1.length = s ∧ (byS s L).2.length = s := ⟨by show (byO s L).length = s; unfold byO; rw [List.length_map, List.length_range], by show (byN s L).length = s; unfold byN; rw [List.length_map, List.length_range]⟩
theorem run_atC {s : Nat} (h1 : 1 ≤ s) (h2 : s ≤ 12) {L : L2c} (ok : Ok2 s L) {b m : Nat} (hb : b ≤ m) : L2.atI ((runF (lonF (rowW s)) (byS s L) m).map sdD) (b : Int) = some (sdD (byS s (stN s L b))) := by
  refine L2.atI_nat ?_
  unfold runF
  rw [List.getElem?_map, List.getElem?_map, List.getElem?_range (by omega), Option.map_some, Option.map_some, by_nth h1 h2 ok]
theorem owed_at {s : Nat} {L : L2c} {b p : Nat} (hp : p < s) : 0 - (byN s (stN s L b)).getD p 0 = owedI s L b p := by
  unfold byN owedI
  rw [range_map_get, if_pos hp]
theorem sd_at (x y : PyData) : L2.atI [x, y] 1 = some y := rfl
def fCByRun : FB := fun ds n _ Q => ∃ (s : Nat) (L : L2c), ds = [.py (.int (s : Int)), .py (sdD (byS s L))] ∧ 1 ≤ s ∧ s ≤ 12 ∧ Ok2 s L ∧ Q (.py (.tuple [.list (cmsD (sortC L.1)), .list (cmsD (sortC L.2))])) n
theorem sc__law_cords_by_run : FnScope ["size", "standing", "halves", "run", "beat", "post", "owed", "half", "low", "high"] ["size", "standing"] (defScope s__law_cords_by_run) := ⟨rfl, rfl, rfl, by decide +kernel, rfl, by decide +kernel, by decide +kernel⟩
theorem ok__law_cords_by_run {F : Fx} (D : Dn F.K F.mg "_law_cords_by_run" s__law_cords_by_run ["size", "standing"]) (bz : Bz F.mg) (c__law_run : ClB F 2 "_law_run" true fLRun) (c__law_row : ClB F 1 "_law_row" true fLRow) (c__law_corners : ClB F 1 "_law_corners" false fCordOf) : ClB F 3 "_law_cords_by_run" false fCByRun := by
  refine cl_b D sc__law_cords_by_run (fun ds n EX QD h => ?_) (fun fa cdv A outer s H E pn B0 hr tk po => ?_)
  · obtain ⟨s, L, rfl, _⟩ := h
    rfl
  · have nd := sc__law_cords_by_run.nd
    refine ⟨_, _, (bss_cons (bs_parV (i := 2) (j := 3) nd (bv_tup2N (bn_lst ba_nil) (bn_lst ba_nil)) (bn_toE (bn_call c__law_run hr (by decide) (by rfl) tk (ba_cons (be_nm 0 (pv 0)) (ba_cons (BN.e (bn_call c__law_row hr (by decide) (by rfl) tk (ba_cons (be_nm 0 (pv 0)) ba_nil))) (ba_cons (be_nm 1 (pv 1)) (ba_cons (be_add (be_nm 0 (pv 0)) be_int) ba_nil)))))) rfl rfl rfl (by decide) rfl rfl (by rfl))
    (bss_cons (bs_for po rfl (bi_rng1 (by rfl) bz.range (be_add (be_nm 0 (pv 0)) be_int)) (bg_nm (pg_name (i := 4) nd rfl (.inl rfl)))
    (bss_one (bs_for po rfl (bi_rng1 (by rfl) bz.range (be_nm 0 (pv 0))) (bg_nm (pg_name (i := 5) nd rfl (.inl rfl)))
    (bss_cons (bs_setV (i := 6) (BE.toV (be_sub be_int (be_ix (BE.l (be_ix (BE.l (be_ix (BE.l (be_nm 3 (pv 3))) (be_nm 4 (pv 4)))) be_int)) (be_nm 5 (pv 5))))) nd rfl (.inl rfl))
    (bss_one (bs_if (bt_gt (BE.f (be_nm 6 (pv 6))) (BE.f be_int))
    (bss_cons (bs_asg (be_call c__law_corners hr (by decide) (by rfl) tk (ba_cons (be_nm 0 (pv 0)) (ba_cons (be_nm 5 (pv 5)) (ba_cons (be_nm 4 (pv 4)) ba_nil)))) (bg_tup (bgs_cons (bg_nm (pg_name (i := 7) nd rfl (.inl rfl))) (bgs_cons (bg_nm (pg_name (i := 8) nd rfl (.inl rfl))) (bgs_cons (bg_nm (pg_name (i := 9) nd rfl (.inl rfl))) bgs_nil (pgs_cons (pg_name (i := 9) nd rfl (.inl rfl)) pgs_nil)) (pgs_cons (pg_name (i := 8) nd rfl (.inl rfl)) (pgs_cons (pg_name (i := 9) nd rfl (.inl rfl)) pgs_nil))) (pgs_cons (pg_name (i := 7) nd rfl (.inl rfl)) (pgs_cons (pg_name (i := 8) nd rfl (.inl rfl)) (pgs_cons (pg_name (i := 9) nd rfl (.inl rfl)) pgs_nil)))) (pg_tupK (n := 3) (by rfl) (pgs_cons (pg_name (i := 7) nd rfl (.inl rfl)) (pgs_cons (pg_name (i := 8) nd rfl (.inl rfl)) (pgs_cons (pg_name (i := 9) nd rfl (.inl rfl)) pgs_nil))))))
    (bss_one (bs_appM 2 (pv 2) (be_nm 7 (pv 7)) (be_tup (ba_cons (be_nm 8 (pv 8)) (ba_cons (be_nm 9 (pv 9)) (ba_cons (be_nm 6 (pv 6)) ba_nil)))))))
    bss_nil))))))
    (bss_one (bs_ret (be_tup (ba_cons (BN.e (bn_sorted hr.units (by rfl) bz.sorted (bl_row 2 (pv 2) be_int))) (ba_cons (BN.e (bn_sorted hr.units (by rfl) bz.sorted (bl_row 2 (pv 2) be_int))) ba_nil))))))), ?_⟩
    rintro _ n EX QD ⟨s, L, rfl, h1, h2, ok, q⟩
    simp only [startB, Nat.reduceAdd, Nat.reduceSub, List.replicate_succ, List.replicate_zero, wLc, wLc2, wISeq, wipeB, List.set_cons_succ, List.set_cons_zero, wgTup, wgCons, wgNil, wgNm, Bool.not_true, Bool.not_false, Bool.false_eq_true, if_true, if_false, List.map_cons, List.map_nil, List.length_cons, List.length_nil, List.cons_append, List.nil_append, wName, List.getElem?_cons_zero, List.getElem?_cons_succ, wC, wOp, wCall, wACons, wANil, wAndV, wOrV, wNotV, wIsi, wIsi2, wCmp, wChain, wChain3, wOfT, wIfE, wAnd, wOr, wNotT, bInt, bEq, bNe, bIsN, bNotN, bIn, bNotIn, wCall1, bLen, bAll, bAny, bSum, sRet, sRetN, sRetO, sIf, sSeq, sNil, sExpr, sSet, sAsg, sPar, wVE, wVN, wOfN, wOfE, wTup, wLst, pyAll, sFor, wIR1, wTup2N, fLRow, fLRun, bAdd]
    refine ⟨Nat.zero_le _, Nat.zero_le _, fun z a0 a1 => ?_⟩
    refine ⟨s, rfl, h2, s, rowW s, byS s L, s + 2, ?_, row_ok, (byS_len s L).1, (byS_len s L).2, by omega, by omega, by omega, ?_⟩
    · rfl
    rw [show ((s : Int) + 3).toNat = s + 3 by omega]
    refine for_inv (fun i ρ n' => n' = n ∧ ∃ u4 u5 u6 u7 u8 u9, ρ = [.val (.py (.int (s : Int))), .val (.py (sdD (byS s L))), .mat true z [(a0, cmsD (readU s L 0 i)), (a1, cmsD (readU s L 1 i))], .val (.py (.list ((runF (lonF (rowW s)) (byS s L) (s + 2)).map sdD))), u4, u5, u6, u7, u8, u9]) _ 0 _ _ _ (fun b d ρ n' DB' hd hI hrt hbk hnx hct => ?_) ⟨rfl, _, _, _, _, _, _, rfl⟩ (fun ρ' n' hI => ?_)
    · obtain ⟨rfl, u4, u5, u6, u7, u8, u9, rfl⟩ := hI
      rw [Nat.zero_add] at *
      obtain ⟨hb, rfl⟩ := rng0 hd
      simp only [startB, Nat.reduceAdd, Nat.reduceSub, List.replicate_succ, List.replicate_zero, wLc, wLc2, wISeq, wipeB, List.set_cons_succ, List.set_cons_zero, wgTup, wgCons, wgNil, wgNm, Bool.not_true, Bool.not_false, Bool.false_eq_true, if_true, if_false, List.map_cons, List.map_nil, List.length_cons, List.length_nil, List.cons_append, List.nil_append, wName, List.getElem?_cons_zero, List.getElem?_cons_succ, wC, wOp, wCall, wACons, wANil, wAndV, wOrV, wNotV, wIsi, wIsi2, wCmp, wChain, wChain3, wOfT, wIfE, wAnd, wOr, wNotT, bInt, bEq, bNe, bIsN, bNotN, bIn, bNotIn, wCall1, bLen, bAll, bAny, bSum, sRet, sRetN, sRetO, sIf, sSeq, sNil, sExpr, sSet, sAsg, sPar, wVE, wVN, wOfN, wOfE, wTup, wLst, pyAll, sFor, wIR1]
      refine ⟨by omega, by omega, ?_⟩
      rw [Int.toNat_natCast]
      refine for_inv (fun i ρ n2 => n2 = n' ∧ ∃ u5 u6 u7 u8 u9, ρ = [.val (.py (.int (s : Int))), .val (.py (sdD (byS s L))), .mat true z [(a0, cmsD (readU s L 0 b ++ readB s L 0 b i)), (a1, cmsD (readU s L 1 b ++ readB s L 1 b i))], .val (.py (.list ((runF (lonF (rowW s)) (byS s L) (s + 2)).map sdD))), .val (.py (.int (b : Int))), u5, u6, u7, u8, u9]) _ 0 _ _ _ (fun p d ρ n2 DB2 hd2 hI2 hrt2 hbk2 hnx2 hct2 => ?_) ⟨rfl, _, _, _, _, _, by rw [show readB s L 0 b 0 = [] from rfl, show readB s L 1 b 0 = [] from rfl, List.append_nil, List.append_nil]⟩ (fun ρ' n2 hI2 => ?_)
      · obtain ⟨rfl, u5, u6, u7, u8, u9, rfl⟩ := hI2
        rw [Nat.zero_add] at *
        obtain ⟨hp, rfl⟩ := rng0 hd2
        simp only [startB, Nat.reduceAdd, Nat.reduceSub, List.replicate_succ, List.replicate_zero, wLc, wLc2, wISeq, wipeB, List.set_cons_succ, List.set_cons_zero, wgTup, wgCons, wgNil, wgNm, Bool.not_true, Bool.not_false, Bool.false_eq_true, if_true, if_false, List.map_cons, List.map_nil, List.length_cons, List.length_nil, List.cons_append, List.nil_append, wName, List.getElem?_cons_zero, List.getElem?_cons_succ, wC, wOp, wCall, wACons, wANil, wAndV, wOrV, wNotV, wIsi, wIsi2, wCmp, wChain, wChain3, wOfT, wIfE, wAnd, wOr, wNotT, bInt, bEq, bNe, bIsN, bNotN, bIn, bNotIn, wCall1, bLen, bAll, bAny, bSum, sRet, sRetN, sRetO, sIf, sSeq, sNil, sExpr, sSet, sAsg, sPar, wVE, wVN, wOfN, wOfE, wTup, wLst, pyAll, wIx, bSub, run_atC h1 h2 ok (show b ≤ s + 2 by omega), sdD, stD2, sd_at]
        rw [atI_ints (by rw [(byS_len s _).2]; exact hp)]
        simp only [startB, Nat.reduceAdd, Nat.reduceSub, List.replicate_succ, List.replicate_zero, wLc, wLc2, wISeq, wipeB, List.set_cons_succ, List.set_cons_zero, wgTup, wgCons, wgNil, wgNm, Bool.not_true, Bool.not_false, Bool.false_eq_true, if_true, if_false, List.map_cons, List.map_nil, List.length_cons, List.length_nil, List.cons_append, List.nil_append, wName, List.getElem?_cons_zero, List.getElem?_cons_succ, wC, wOp, wCall, wACons, wANil, wAndV, wOrV, wNotV, wIsi, wIsi2, wCmp, wChain, wChain3, wOfT, wIfE, wAnd, wOr, wNotT, bInt, bEq, bNe, bIsN, bNotN, bIn, bNotIn, wCall1, bLen, bAll, bAny, bSum, sRet, sRetN, sRetO, sIf, sSeq, sNil, sExpr, sSet, sAsg, sPar, wVE, wVN, wOfN, wOfE, wTup, wLst, pyAll, fCordOf, sAppM, Option.map_some]
        have ow : 0 - (byS s (stN (s : Int) L b)).2.getD p 0 = owedI s L b p := owed_at hp
        rw [ow]
        have l0 := readU_len s L 0 b
        have l1 := readU_len s L 1 b
        have k0 := readB_len s L 0 b p
        have k1 := readB_len s L 1 b p
        have lsb : s * b ≤ 12 * 15 := Nat.mul_le_mul h2 (by omega)
        rw [readB_succ, readB_succ] at hnx2
        by_cases hpos : owedI s L b p > 0
        · refine (if_pos (decide_eq_true hpos)).mpr ⟨_, _, _, rfl, by omega, ?_⟩
          have hl : ∀ h : Int, (cmsD (readU s L h b ++ readB s L h b p)).length = (readU s L h b).length + (readB s L h b p).length := fun h => by
            unfold cmsD
            rw [List.length_map, List.length_append]
          rcases half01 s p b with e | e
          · have p0 : readP s L 0 b p = [((cordI s p b).2, owedI s L b p)] := by
              unfold readP
              rw [if_pos e, if_pos hpos]
            have p1 : readP s L 1 b p = [] := by
              unfold readP
              rw [if_neg (by rw [e]; decide)]
            have E0 : ∀ A : List Cm, cmsD (A ++ [((cordI s p b).2, owedI s L b p)]) = cmsD A ++ [cmD ((cordI s p b).2, owedI s L b p)] := fun A => List.map_append
            rw [p0, p1, List.append_nil, ← List.append_assoc, E0] at hnx2
            simp only [cordD, e, ixN_20, List.getElem?_cons_zero]
            exact ⟨rfl, trivial, Nat.le_of_ble_eq_true rfl, by rw [hl]; omega, hnx2 _ _ ⟨rfl, _, _, _, _, _, rfl⟩⟩
          · have p0 : readP s L 0 b p = [] := by
              unfold readP
              rw [if_neg (by rw [e]; decide)]
            have p1 : readP s L 1 b p = [((cordI s p b).2, owedI s L b p)] := by
              unfold readP
              rw [if_pos e, if_pos hpos]
            have E0 : ∀ A : List Cm, cmsD (A ++ [((cordI s p b).2, owedI s L b p)]) = cmsD A ++ [cmD ((cordI s p b).2, owedI s L b p)] := fun A => List.map_append
            rw [p0, p1, List.append_nil, ← List.append_assoc, E0] at hnx2
            simp only [cordD, e, ixN_21, List.getElem?_cons_succ, List.getElem?_cons_zero]
            exact ⟨rfl, trivial, Nat.le_of_ble_eq_true rfl, by rw [hl]; omega, hnx2 _ _ ⟨rfl, _, _, _, _, _, rfl⟩⟩
        · have pz : ∀ h : Int, readP s L h b p = [] := fun h => by
            unfold readP
            rw [if_neg hpos]
            split <;> rfl
          rw [pz, pz, List.append_nil, List.append_nil] at hnx2
          refine (if_neg (by rw [decide_eq_true_eq]; exact hpos)).mpr ?_
          exact hnx2 _ _ ⟨rfl, _, _, _, _, _, rfl⟩
      · obtain ⟨rfl, u5, u6, u7, u8, u9, rfl⟩ := hI2
        rw [rngD_len, Nat.zero_add, ← readU_succ, ← readU_succ]
        exact hnx _ _ ⟨rfl, _, _, _, _, _, _, rfl⟩
    · obtain ⟨rfl, u4, u5, u6, u7, u8, u9, rfl⟩ := hI
      rw [rngD_len, Nat.zero_add]
      simp only [startB, Nat.reduceAdd, Nat.reduceSub, List.replicate_succ, List.replicate_zero, wLc, wLc2, wISeq, wipeB, List.set_cons_succ, List.set_cons_zero, wgTup, wgCons, wgNil, wgNm, Bool.not_true, Bool.not_false, Bool.false_eq_true, if_true, if_false, List.map_cons, List.map_nil, List.length_cons, List.length_nil, List.cons_append, List.nil_append, wName, List.getElem?_cons_zero, List.getElem?_cons_succ, wC, wOp, wCall, wACons, wANil, wAndV, wOrV, wNotV, wIsi, wIsi2, wCmp, wChain, wChain3, wOfT, wIfE, wAnd, wOr, wNotT, bInt, bEq, bNe, bIsN, bNotN, bIn, bNotIn, wCall1, bLen, bAll, bAny, bSum, sRet, sRetN, sRetO, sIf, sSeq, sNil, sExpr, sSet, sAsg, sPar, wVE, wVN, wOfN, wOfE, wTup, wLst, pyAll, wSorted, wRow, atI_r0, atI_r1, Option.map_some]
      refine ⟨trivial, cm_able _, trivial, cm_able _, Nat.le_of_ble_eq_true rfl, ?_⟩
      obtain ⟨r0, r1⟩ := read_sort h1 h2 ok
      rw [sort_cm, sort_cm, r0, r1]
      exact q
end Fv
set_option maxRecDepth 100000
set_option maxHeartbeats 4000000
/-! What is told can be shown. -/
namespace Fv
open PySem PySem.Spec PyProof.Rows L2 Gb
/-- what can be shown, its size told -/
structure Sh (d : PyData) (b dp : Nat) : Prop where
  s : d.showable = true
  c : d.canLay0 = true
  l : d.leavesShort 430 = true
  b : d.bulk ≤ b
  dz : d.depth ≤ dp
  g : Good d.shown
structure ShA (ds : List PyData) (b dp : Nat) : Prop where
  s : PyData.showableAll ds = true
  c : PyData.canLayAll0 ds = true
  l : PyData.leavesShortAll 430 ds = true
  b : PyData.bulkAll ds ≤ b
  dz : PyData.depthAll ds ≤ dp
  g : ∀ t ∈ PyData.shownAll ds, Good t
theorem Sh.shows {d : PyData} {b dp : Nat} (h : Sh d b dp) (hb : b ≤ 20000) (hd : dp ≤ 40) : Shows d := shows_of h.s h.c (Nat.le_trans h.dz hd) h.l (Nat.le_trans h.b hb)
theorem shA_nil : ShA [] 0 0 := ⟨rfl, rfl, rfl, Nat.le_refl _, Nat.le_refl _, fun t h => by cases h⟩
theorem shA_cons {d : PyData} {ds : List PyData} {b b' dp dp' : Nat} (h : Sh d b dp) (r : ShA ds b' dp') : ShA (d :: ds) (b + b' + 1) (max dp dp') := by
  refine ⟨?_, ?_, ?_, ?_, ?_, ?_⟩
  · simp only [PyData.showableAll, h.s, r.s, Bool.and_self]
  · simp only [PyData.canLayAll0, h.c, r.c, Bool.and_self]
  · simp only [PyData.leavesShortAll, h.l, r.l, Bool.and_self]
  · have h1 := h.b
    have h2 := r.b
    simp only [PyData.bulkAll]
    omega
  · have h1 := h.dz
    have h2 := r.dz
    simp only [PyData.depthAll]
    omega
  · intro t ht
    simp only [PyData.shownAll] at ht
    rcases List.mem_cons.mp ht with rfl | ht
    · exact h.g
    · exact r.g t ht
theorem sh_tup {ds : List PyData} {b dp : Nat} (h : ShA ds b dp) : Sh (.tuple ds) (b + 1) (dp + 1) := by
  refine ⟨?_, ?_, ?_, ?_, ?_, ?_⟩
  · simp only [PyData.showable, h.s]
  · simp only [PyData.canLay0, h.c]
  · simp only [PyData.leavesShort, h.l]
  · have := h.b
    simp only [PyData.bulk]
    omega
  · have := h.dz
    simp only [PyData.depth]
    omega
  · simp only [PyData.shown]
    exact good_tuple h.g
theorem sh_lst {ds : List PyData} {b dp : Nat} (h : ShA ds b dp) : Sh (.list ds) (b + 1) (dp + 1) := by
  refine ⟨?_, ?_, ?_, ?_, ?_, ?_⟩
  · simp only [PyData.showable, h.s]
  · simp only [PyData.canLay0, h.c]
  · simp only [PyData.leavesShort, h.l]
  · have := h.b
    simp only [PyData.bulk]
    omega
  · have := h.dz
    simp only [PyData.depth]
    omega
  · simp only [PyData.shown]
    exact good_list h.g
theorem sh_int {i : Int} (h : -big ≤ i ∧ i ≤ big) : Sh (.int i) 1 0 := ⟨int_log h, rfl, int_leaf h, by simp only [PyData.bulk]; omega, by simp only [PyData.depth]; omega, good_int i⟩
/-- shown twice, unlike? no -/
theorem sh_same {d : PyData} {b dp : Nat} (h : Sh d b dp) (hb : b ≤ 20000) (hd : dp ≤ 40) {A C : Prop} (q : C) : Shows d ∧ Shows d ∧ SeqAt.shaped (.str d.shown) = true ∧ SeqAt.shaped (.str d.shown) = true ∧ (if (!PyData.eqv (.str d.shown) (.str d.shown)) = true then A else C) :=
  ⟨h.shows hb hd, h.shows hb hd, shaped_str h.g, shaped_str h.g, same_str (x := d.shown) h.g q⟩
theorem sh_eq {d : PyData} {b dp : Nat} (h : Sh d b dp) (hd : dp ≤ 4) {A C : Prop} (q : C) : SeqAt.shaped d = true ∧ SeqAt.shaped d = true ∧ (if (!PyData.eqv d d) = true then A else C) := by
  have e : SeqAt.shaped d = true := by
    unfold SeqAt.shaped
    rw [h.c, decide_eq_true (Nat.le_trans (Nat.le_trans h.dz hd) (by decide))]
    rfl
  exact ⟨e, e, same_if h.c q⟩
theorem sh_same4 {d : PyData} {b dp : Nat} (h : Sh d b dp) (hb : b ≤ 20000) (hd : dp ≤ 40) {A C : Prop} (q : C) : Shows d ∧ SeqAt.shaped (.str d.shown) = true ∧ SeqAt.shaped (.str d.shown) = true ∧ (if (!PyData.eqv (.str d.shown) (.str d.shown)) = true then A else C) :=
  ⟨h.shows hb hd, shaped_str h.g, shaped_str h.g, same_str (x := d.shown) h.g q⟩
end Fv
set_option maxRecDepth 100000
set_option maxHeartbeats 4000000
/-! k55. -/
namespace Fv
open PySem PySem.Spec PyProof.Rows L2 Gb
open PySem.W (T4)
structure Gd (s : Nat) (L : L2c) : Prop where
  ok : Ok2 s L
  l1 : L.1.length ≤ 12
  l2 : L.2.length ≤ 12
  b1 : ∀ c ∈ L.1, c.2 ≤ 10 ^ 60
  b2 : ∀ c ∈ L.2, c.2 ≤ 10 ^ 60
def nextL (s : Nat) (L : L2c) : L2c := (sortC (L.2.map (turnC s)), sortC L.1)
theorem Gd.next {s : Nat} {L : L2c} (h : Gd s L) : Gd s (nextL s L) := by
  have hs : (0 : Int) ≤ s := by omega
  refine ⟨⟨sortC_ok (h.ok.b.turn hs), sortC_ok h.ok.a⟩, ?_, ?_, fun c hc => ?_, fun c hc => ?_⟩
  · show (sortC _).length ≤ 12
    rw [(sortC_of _).length_eq, List.length_map]
    exact h.l2
  · show (sortC _).length ≤ 12
    rw [(sortC_of _).length_eq]
    exact h.l1
  · obtain ⟨d, hd, rfl⟩ := List.mem_map.mp ((sortC_of _).mem_iff.mp hc)
    exact h.b2 d hd
  · exact h.b1 c ((sortC_of _).mem_iff.mp hc)
theorem by_next {s : Nat} (h1 : 1 ≤ s) (h2 : s ≤ 12) {L : L2c} (h : Gd s L) : lonF (rowW s) (byS s L) = byS s (nextL s L) := by
  rw [by_beat h1 h2 h.ok]
  exact byS_perm (sortC_of _).symm (sortC_of _).symm
theorem big_60 : (10 : Int) ^ 60 ≤ big := by decide +kernel
theorem sh_cm {s : Nat} (h1 : 1 ≤ s) (h2 : s ≤ 12) {c : Cm} (hc : c.1 ∈ allC s) (hp : 1 ≤ c.2) (hb : c.2 ≤ 10 ^ 60) : Sh (cmD c) 10 2 := by
  have m := (mem_allC (by omega)).mp hc
  have B := big_60
  have b1 : (100 : Int) ≤ big := by decide +kernel
  have k := sh_tup (shA_cons (sh_int (i := c.1.1) (by omega)) (shA_cons (sh_int (i := c.1.2) (by omega)) (shA_cons (sh_int (i := c.2) (by omega)) shA_nil)))
  exact ⟨k.s, k.c, k.l, Nat.le_trans k.b (by decide), Nat.le_trans k.dz (by decide), k.g⟩
theorem shA_cms {s : Nat} (h1 : 1 ≤ s) (h2 : s ≤ 12) : ∀ {L : List Cm}, OkL s L → (∀ c ∈ L, c.2 ≤ 10 ^ 60) → ShA (cmsD L) (11 * L.length) 2
  | [], _, _ => ⟨rfl, rfl, rfl, Nat.le_refl _, Nat.zero_le _, fun t h => by cases h⟩
  | c :: L, ok, hb => by
    have k := shA_cons (sh_cm h1 h2 (ok.mem c List.mem_cons_self) (ok.pos c List.mem_cons_self) (hb c List.mem_cons_self)) (shA_cms h1 h2 (L := L) ⟨fun d hd => ok.mem d (List.mem_cons_of_mem _ hd), fun d hd => ok.pos d (List.mem_cons_of_mem _ hd), (List.pairwise_cons.mp ok.pw).2⟩ fun d hd => hb d (List.mem_cons_of_mem _ hd))
    exact ⟨k.s, k.c, k.l, Nat.le_trans k.b (by rw [List.length_cons]; omega), k.dz, k.g⟩
theorem sh_row {s : Nat} (h1 : 1 ≤ s) (h2 : s ≤ 12) (k : Bool) {L : List Cm} (ok : OkL s L) (hb : ∀ c ∈ L, c.2 ≤ 10 ^ 60) : Sh (rowK k L) (11 * L.length + 1) 3 := by
  cases k
  · exact sh_lst (shA_cms h1 h2 ok hb)
  · exact sh_tup (shA_cms h1 h2 ok hb)
theorem sh_here {s : Nat} (h1 : 1 ≤ s) (h2 : s ≤ 12) (k0 k1 : Bool) {L : L2c} (h : Gd s L) : Sh (hereD k0 k1 L) 1000 4 := by
  have a := h.l1
  have b := h.l2
  have k := sh_tup (shA_cons (sh_row h1 h2 k0 h.ok.a h.b1) (shA_cons (sh_row h1 h2 k1 h.ok.b h.b2) shA_nil))
  exact ⟨k.s, k.c, k.l, Nat.le_trans k.b (by omega), Nat.le_trans k.dz (by decide), k.g⟩
theorem rows2 {rows : Rws} {A B : List PyData} (h : (rows.map fun r => PyData.list r.2) = [.list A, .list B]) : ∃ a b, rows = [(a, A), (b, B)] := by
  match rows, h with
  | [(a, x), (b, y)], h =>
    simp only [List.map_cons, List.map_nil, List.cons.injEq, PyData.list.injEq, and_true] at h
    obtain ⟨rfl, rfl⟩ := h
    exact ⟨a, b, rfl⟩
  | [], h => cases h
  | [_], h => simp at h
  | _ :: _ :: _ :: _, h => simp at h
theorem sc_law : FnScope ["script", "pen", "turn", "size", "cords", "standing", "here", "beat", "kept", "due", "told"] ["script"] (defScope s_law) := ⟨rfl, rfl, rfl, by decide +kernel, rfl, by decide +kernel, by decide +kernel⟩
theorem ok_law {F : Fx} {fa : Addr} {fd : FuncData} (Fn : Fun F.K "law" "law" s_law fa fd) (bz : Bz F.mg) (c__law_pen : Cl F.P F.w F.K F.mg F.base 1 "_law_pen" (spPen2 F.K)) (c__law_draw : ClB F 1 "_law_draw" false fDraw) (c__law_drawn_cords : ClB F 4 "_law_drawn_cords" false fDrawnC) (c__law_by_cords : ClB F 2 "_law_by_cords" false fByC) (c__law_handed : ClB F 3 "_law_handed" false fHanded) (c__law_turned_on : ClB F 1 "_law_turned_on" true fTurnedOn)
    (c_turned_cords : ClB F 7 "turned_cords" false (fHere turnR)) (c_turned_cordsM : ClB F 7 "turned_cords" true (fHere turnR)) (c__law_beat : ClB F 1 "_law_beat" false (fLaw lonF)) (c__law_row : ClB F 1 "_law_row" true fLRow) (c__law_cords_by_run : ClB F 3 "_law_cords_by_run" false fCByRun) : FnG F.P F.w F.K F.mg F.base 8 fa fd ["script"] (spLawX F.K) := by
  refine fn_g Fn sc_law (fun cdv A outer s H vs Q E hr hgu0 h => ?_)
  obtain ⟨a, ob, ns, rfl, hS, hn, q⟩ := h
  have nd := sc_law.nd
  have tk : Takes (cxB F ["script", "pen", "turn", "size", "cords", "standing", "here", "beat", "kept", "due", "told"] "law" (defScope s_law) fa cdv A outer s H E) (XKx E) := takes_of rfl rfl rfl rfl
  have hgu : (cxB F ["script", "pen", "turn", "size", "cords", "standing", "here", "beat", "kept", "due", "told"] "law" (defScope s_law) fa cdv A outer s H E).A.guards = some [] := hgu0
  refine ⟨_, pss_cons (ps_set (i := 1) nd rfl (.inl rfl) (pe_c c__law_pen hr (by decide) (by rfl) (pa_cons (pv 0) pa_nil))) (pss_rest (F := F) (W := XKx E) (fun pn B0 H0 => ⟨_, (bss_cons (bs_for (passes_of rfl) rfl (bi_rng1 (by rfl) bz.range be_int) (bg_nm (pg_name (i := 2) nd rfl (.inl rfl)))
    (bss_cons (bs_setV (i := 3) (BE.toV (be_add be_int (be_call c__law_draw hr (by decide) (by rfl) tk (ba_cons (be_nm 1 (pv 1)) (ba_cons be_int ba_nil))))) nd rfl (.inl rfl))
    (bss_cons (bs_setV (i := 4) (BE.toV (be_call c__law_drawn_cords hr (by decide) (by rfl) tk (ba_cons (be_nm 1 (pv 1)) (ba_cons (be_nm 3 (pv 3)) (ba_cons be_int ba_nil))))) nd rfl (.inl rfl))
    (bss_cons (bs_parV (i := 5) (j := 6) nd (BE.toV (be_call c__law_by_cords hr (by decide) (by rfl) tk (ba_cons (be_nm 3 (pv 3)) (ba_cons (be_nm 4 (pv 4)) ba_nil)))) (BE.toV (be_tup (ba_cons (be_call c__law_handed hr (by decide) (by rfl) tk (ba_cons (be_nm 1 (pv 1)) (ba_cons (be_ix (BE.l (be_nm 4 (pv 4))) be_int) ba_nil))) (ba_cons (be_call c__law_handed hr (by decide) (by rfl) tk (ba_cons (be_nm 1 (pv 1)) (ba_cons (be_ix (BE.l (be_nm 4 (pv 4))) be_int) ba_nil))) ba_nil)))) rfl rfl rfl (by decide) rfl rfl (by rfl))
    (bss_one (bs_for (passes_of rfl) rfl (bi_rng1 (by rfl) bz.range (be_add be_int (be_call c__law_draw hr (by decide) (by rfl) tk (ba_cons (be_nm 1 (pv 1)) (ba_cons be_int ba_nil))))) (bg_nm (pg_name (i := 7) nd rfl (.inl rfl)))
    (bss_cons (bs_parV (i := 8) (j := 9) nd (BE.toV (be_repr hgu hr.units (by rfl) bz.repr (BE.f (be_nm 6 (pv 6))))) (BE.toV (be_tup (ba_cons (BN.e (bn_call c__law_turned_on hr (by decide) (by rfl) tk (ba_cons (be_nm 3 (pv 3)) (ba_cons (be_ix (BE.l (be_nm 6 (pv 6))) be_int) (ba_cons be_int ba_nil))))) (ba_cons (BN.e (bn_sortedZ hr.units (by rfl) bz.sorted (BE.l (be_ix (BE.l (be_nm 6 (pv 6))) be_int)))) ba_nil)))) rfl rfl rfl (by decide) rfl rfl (by rfl))
    (bss_cons (bs_setV (i := 10) (bv_callM c_turned_cordsM hr (by decide) (by rfl) tk (ba_cons (be_nm 3 (pv 3)) (ba_cons (be_nm 6 (pv 6)) ba_nil))) nd rfl (.inl rfl))
    (bss_cons (bs_setV (i := 5) (BE.toV (be_call c__law_beat hr (by decide) (by rfl) tk (ba_cons (be_nm 3 (pv 3)) (ba_cons (BN.e (bn_call c__law_row hr (by decide) (by rfl) tk (ba_cons (be_nm 3 (pv 3)) ba_nil))) (ba_cons (be_nm 5 (pv 5)) ba_nil))))) nd rfl (.inl rfl))
    (bss_cons (bs_if (BW.bt (bw_or (bt_ne hr.units (BE.f (be_repr hgu hr.units (by rfl) bz.repr (bf_matV 10 (pv 10)))) (BE.f (be_repr hgu hr.units (by rfl) bz.repr (BE.f (be_nm 9 (pv 9)))))) (bw_or (bt_ne hr.units (BE.f (be_repr hgu hr.units (by rfl) bz.repr (BE.f (be_nm 6 (pv 6))))) (BE.f (be_nm 8 (pv 8)))) (bw_or1 (bt_ne hr.units (BE.f (be_nm 9 (pv 9))) (BE.f (be_call c__law_cords_by_run hr (by decide) (by rfl) tk (ba_cons (be_nm 3 (pv 3)) (ba_cons (be_nm 5 (pv 5)) ba_nil)))))))))
    (bss_one (bs_ret be_bl))
    bss_nil)
    (bss_cons (bs_appM 10 (pv 10) be_int be_non)
    (bss_cons (bs_clrM 10 (pv 10) be_int)
    (bss_cons (bs_setV (i := 6) (BE.toV (be_call c_turned_cords hr (by decide) (by rfl) tk (ba_cons (be_nm 3 (pv 3)) (ba_cons (be_nm 6 (pv 6)) ba_nil)))) nd rfl (.inl rfl))
    (bss_one (bs_if (bt_ne hr.units (BE.f (be_repr hgu hr.units (by rfl) bz.repr (BE.f (be_nm 6 (pv 6))))) (BE.f (be_repr hgu hr.units (by rfl) bz.repr (BE.f (be_nm 9 (pv 9))))))
    (bss_one (bs_ret be_bl))
    bss_nil)))))))))))))))
    (bss_one (bs_ret be_bl)))⟩)), ?_⟩
  refine ⟨.ref a, rfl, a, ns, rfl, hS.sq, fun p c H1 hp0 s0 nt0 npc => ?_⟩
  refine rest_start 9 hS hp0 nt0 npc q ?_
  simp only [startB, Nat.reduceAdd, Nat.reduceSub, List.replicate_succ, List.replicate_zero, wLc, wLc2, wISeq, wipeB, List.set_cons_succ, List.set_cons_zero, wgTup, wgCons, wgNil, wgNm, Bool.not_true, Bool.not_false, Bool.false_eq_true, if_true, if_false, List.map_cons, List.map_nil, List.length_cons, List.length_nil, List.cons_append, List.nil_append, wName, List.getElem?_cons_zero, List.getElem?_cons_succ, wC, wOp, wCall, wACons, wANil, wAndV, wOrV, wNotV, wIsi, wIsi2, wCmp, wChain, wChain3, wOfT, wIfE, wAnd, wOr, wNotT, bInt, bEq, bNe, bIsN, bNotN, bIn, bNotIn, wCall1, bLen, bAll, bAny, bSum, sRet, sRetN, sRetO, sIf, sSeq, sNil, sExpr, sSet, sAsg, sPar, wVE, wVN, wOfN, wOfE, wTup, wLst, pyAll, sFor, wIR1]
  refine ⟨by decide, by decide, ?_⟩
  refine for_invB (fun i ρ n' => n' ≤ 110000 * i ∧ ∃ u2 u3 u4 u5 u6 u7 u8 u9 u10, ρ = [.no, .val .pen, u2, u3, u4, u5, u6, u7, u8, u9, u10]) (fun _ _ => False) _ _ _ _ (fun j d ρ n' DB' hd hI hrt hbk hnx hct => ?_) ⟨by decide, _, _, _, _, _, _, _, _, _, rfl⟩ (fun ρ' n' hI => trivial) (fun _ _ h => h.elim)
  obtain ⟨hnj, u2, u3, u4, u5, u6, u7, u8, u9, u10, rfl⟩ := hI
  obtain ⟨hj, rfl⟩ := rng0 hd
  have hj : j < 6 := hj
  simp only [startB, Nat.reduceAdd, Nat.reduceSub, List.replicate_succ, List.replicate_zero, wLc, wLc2, wISeq, wipeB, List.set_cons_succ, List.set_cons_zero, wgTup, wgCons, wgNil, wgNm, Bool.not_true, Bool.not_false, Bool.false_eq_true, if_true, if_false, List.map_cons, List.map_nil, List.length_cons, List.length_nil, List.cons_append, List.nil_append, wName, List.getElem?_cons_zero, List.getElem?_cons_succ, wC, wOp, wCall, wACons, wANil, wAndV, wOrV, wNotV, wIsi, wIsi2, wCmp, wChain, wChain3, wOfT, wIfE, wAnd, wOr, wNotT, bInt, bEq, bNe, bIsN, bNotN, bIn, bNotIn, wCall1, bLen, bAll, bAny, bSum, sRet, sRetN, sRetO, sIf, sSeq, sNil, sExpr, sSet, sAsg, sPar, wVE, wVN, wOfN, wOfE, wTup, wLst, pyAll, fDraw, bAdd]
  refine ⟨12, rfl, by omega, by decide, by decide, fun r hr0 hr1 => ?_⟩
  obtain ⟨s, hs⟩ : ∃ s : Nat, 1 + r = (s : Int) := ⟨(1 + r).toNat, by omega⟩
  rw [hs]
  have s1 : 1 ≤ s := by omega
  have s12 : s ≤ 12 := by omega
  clear hr0 hr1 hs r
  simp only [startB, Nat.reduceAdd, Nat.reduceSub, List.replicate_succ, List.replicate_zero, wLc, wLc2, wISeq, wipeB, List.set_cons_succ, List.set_cons_zero, wgTup, wgCons, wgNil, wgNm, Bool.not_true, Bool.not_false, Bool.false_eq_true, if_true, if_false, List.map_cons, List.map_nil, List.length_cons, List.length_nil, List.cons_append, List.nil_append, wName, List.getElem?_cons_zero, List.getElem?_cons_succ, wC, wOp, wCall, wACons, wANil, wAndV, wOrV, wNotV, wIsi, wIsi2, wCmp, wChain, wChain3, wOfT, wIfE, wAnd, wOr, wNotT, bInt, bEq, bNe, bIsN, bNotN, bIn, bNotIn, wCall1, bLen, bAll, bAny, bSum, sRet, sRetN, sRetO, sIf, sSeq, sNil, sExpr, sSet, sAsg, sPar, wVE, wVN, wOfN, wOfE, wTup, wLst, pyAll, fDrawnC, fByC, fHanded, Option.map_some]
  refine ⟨s, 25, rfl, by omega, s1, s12, by decide, fun L n1 hn1 ok l1 l2 b1 b2 => ?_⟩
  refine ⟨s, L, rfl, s1, s12, ok.a.mem, ok.b.mem, ?_⟩
  simp only [startB, Nat.reduceAdd, Nat.reduceSub, List.replicate_succ, List.replicate_zero, wLc, wLc2, wISeq, wipeB, List.set_cons_succ, List.set_cons_zero, wgTup, wgCons, wgNil, wgNm, Bool.not_true, Bool.not_false, Bool.false_eq_true, if_true, if_false, List.map_cons, List.map_nil, List.length_cons, List.length_nil, List.cons_append, List.nil_append, wName, List.getElem?_cons_zero, List.getElem?_cons_succ, wC, wOp, wCall, wACons, wANil, wAndV, wOrV, wNotV, wIsi, wIsi2, wCmp, wChain, wChain3, wOfT, wIfE, wAnd, wOr, wNotT, bInt, bEq, bNe, bIsN, bNotN, bIn, bNotIn, wCall1, bLen, bAll, bAny, bSum, sRet, sRetN, sRetO, sIf, sSeq, sNil, sExpr, sSet, sAsg, sPar, wVE, wVN, wOfN, wOfE, wTup, wLst, pyAll, hereD, rowK, wIx]
  refine ⟨L.1, rfl, by omega, by omega, fun k0 L0 n2 p0 hn2 => ⟨L.2, rfl, by omega, by omega, fun k1 L1 n3 p1 hn3 => ⟨Nat.le_of_ble_eq_true rfl, ?_⟩⟩⟩
  have g0 : Gd s (L0, L1) := ⟨⟨ok.a.perm p0.symm, ok.b.perm p1.symm⟩, by show L0.length ≤ 12; rw [p0.length_eq]; exact l1, by show L1.length ≤ 12; rw [p1.length_eq]; exact l2, fun c hc => b1 c (p0.mem_iff.mp hc), fun c hc => b2 c (p1.mem_iff.mp hc)⟩
  rw [show byS s L = byS s (L0, L1) from byS_perm p0.symm p1.symm]
  simp only [startB, Nat.reduceAdd, Nat.reduceSub, List.replicate_succ, List.replicate_zero, wLc, wLc2, wISeq, wipeB, List.set_cons_succ, List.set_cons_zero, wgTup, wgCons, wgNil, wgNm, Bool.not_true, Bool.not_false, Bool.false_eq_true, if_true, if_false, List.map_cons, List.map_nil, List.length_cons, List.length_nil, List.cons_append, List.nil_append, wName, List.getElem?_cons_zero, List.getElem?_cons_succ, wC, wOp, wCall, wACons, wANil, wAndV, wOrV, wNotV, wIsi, wIsi2, wCmp, wChain, wChain3, wOfT, wIfE, wAnd, wOr, wNotT, bInt, bEq, bNe, bIsN, bNotN, bIn, bNotIn, wCall1, bLen, bAll, bAny, bSum, sRet, sRetN, sRetO, sIf, sSeq, sNil, sExpr, sSet, sAsg, sPar, wVE, wVN, wOfN, wOfE, wTup, wLst, pyAll, sFor, wIR1, fDraw, bAdd]
  refine ⟨5, rfl, by omega, by decide, by decide, fun r hr0 hr1 => ⟨by omega, by omega, ?_⟩⟩
  refine for_inv (fun i ρ n' => n' = n3 + 1 ∧ ∃ (k0 k1 : Bool) (M : L2c) (u4 u7 u8 u9 u10 : Sl), ρ = [.no, .val .pen, .val (.py (.int (j : Int))), .val (.py (.int (s : Int))), u4, .val (.py (sdD (byS s M))), .val (.py (.tuple [rowK k0 M.1, rowK k1 M.2])), u7, u8, u9, u10] ∧ Gd s M) _ 0 _ _ _ (fun b d ρ n' DB2 hd2 hI2 hrt2 hbk2 hnx2 hct2 => ?_) ⟨rfl, k0, k1, (L0, L1), _, _, _, _, _, rfl, g0⟩ (fun ρ' n' hI2 => ?_)
  · clear g0 hr0 hr1 p0 p1 k0 k1 b1 b2 l1 l2 ok
    obtain ⟨rfl, k0, k1, M, u4, u7, u8, u9, u10, rfl, g⟩ := hI2
    obtain ⟨hb, rfl⟩ := rng0 hd2
    simp only [startB, Nat.reduceAdd, Nat.reduceSub, List.replicate_succ, List.replicate_zero, wLc, wLc2, wISeq, wipeB, List.set_cons_succ, List.set_cons_zero, wgTup, wgCons, wgNil, wgNm, Bool.not_true, Bool.not_false, Bool.false_eq_true, if_true, if_false, List.map_cons, List.map_nil, List.length_cons, List.length_nil, List.cons_append, List.nil_append, wName, List.getElem?_cons_zero, List.getElem?_cons_succ, wC, wOp, wCall, wACons, wANil, wAndV, wOrV, wNotV, wIsi, wIsi2, wCmp, wChain, wChain3, wOfT, wIfE, wAnd, wOr, wNotT, bInt, bEq, bNe, bIsN, bNotN, bIn, bNotIn, wCall1, bLen, bAll, bAny, bSum, sRet, sRetN, sRetO, sIf, sSeq, sNil, sExpr, sSet, sAsg, sPar, wVE, wVN, wOfN, wOfE, wTup, wLst, pyAll, sPar, wRepr, fTurnedOn, wIx, wSortedZ, Option.map_some]
    have hh : Shows (hereD k0 k1 M) := (sh_here s1 s12 k0 k1 g).shows (by decide) (by decide)
    have lm1 := g.l1
    have lm2 := g.l2
    have sD := sh_here s1 s12 false false g.next
    have shD := sD.shows (by decide) (by decide)
    refine ⟨hh, s, k1, M.2, rfl, by omega, ?_⟩
    cases k0
    all_goals
      refine ⟨cm_able _, Nat.le_of_ble_eq_true rfl, ?_⟩
      simp only [startB, Nat.reduceAdd, Nat.reduceSub, List.replicate_succ, List.replicate_zero, wLc, wLc2, wISeq, wipeB, List.set_cons_succ, List.set_cons_zero, wgTup, wgCons, wgNil, wgNm, Bool.not_true, Bool.not_false, Bool.false_eq_true, if_true, if_false, List.map_cons, List.map_nil, List.length_cons, List.length_nil, List.cons_append, List.nil_append, wName, List.getElem?_cons_zero, List.getElem?_cons_succ, wC, wOp, wCall, wACons, wANil, wAndV, wOrV, wNotV, wIsi, wIsi2, wCmp, wChain, wChain3, wOfT, wIfE, wAnd, wOr, wNotT, bInt, bEq, bNe, bIsN, bNotN, bIn, bNotIn, wCall1, bLen, bAll, bAny, bSum, sRet, sRetN, sRetO, sIf, sSeq, sNil, sExpr, sSet, sAsg, sPar, wVE, wVN, wOfN, wOfE, wTup, wLst, pyAll, wCallM, fHere, fLRow, fLaw]
      rw [sort_cm]
      refine ⟨s, _, k1, M, rfl, s1, s12, g.ok, by omega, by omega, ?_⟩
      simp only [turnR, wMatR]
      intro l rows hrows
      obtain ⟨a0, a1, rfl⟩ := rows2 hrows
      clear hrows
      refine ⟨s, rfl, s12, s, rowW s, byS s M, rfl, row_ok, (byS_len s M).1, (byS_len s M).2, ?_⟩
      rw [by_next s1 s12 g]
      simp only [startB, Nat.reduceAdd, Nat.reduceSub, List.replicate_succ, List.replicate_zero, wLc, wLc2, wISeq, wipeB, List.set_cons_succ, List.set_cons_zero, wgTup, wgCons, wgNil, wgNm, Bool.not_true, Bool.not_false, Bool.false_eq_true, if_true, if_false, List.map_cons, List.map_nil, List.length_cons, List.length_nil, List.cons_append, List.nil_append, wName, List.getElem?_cons_zero, List.getElem?_cons_succ, wC, wOp, wCall, wACons, wANil, wAndV, wOrV, wNotV, wIsi, wIsi2, wCmp, wChain, wChain3, wOfT, wIfE, wAnd, wOr, wNotT, bInt, bEq, bNe, bIsN, bNotN, bIn, bNotIn, wCall1, bLen, bAll, bAny, bSum, sRet, sRetN, sRetO, sIf, sSeq, sNil, sExpr, sSet, sAsg, sPar, wVE, wVN, wOfN, wOfE, wTup, wLst, pyAll, wMatV, Option.map_some]
      refine sh_same (d := .tuple [.list (cmsD (sortC (M.2.map (turnC s)))), .list (cmsD (sortC M.1))]) sD (by decide) (by decide) ?_
      refine sh_same4 (sh_here s1 s12 _ k1 g) (by decide) (by decide) ?_
      refine ⟨s, nextL s M, rfl, s1, s12, g.next.ok, ?_⟩
      have i1 : sortC (nextL s M).1 = sortC (M.2.map (turnC s)) := sortC_perm (sortC_of _)
      have i2 : sortC (nextL s M).2 = sortC M.1 := sortC_perm (sortC_of _)
      rw [i1, i2]
      refine sh_eq (d := .tuple [.list (cmsD (sortC (M.2.map (turnC s)))), .list (cmsD (sortC M.1))]) sD (by decide) ?_
      simp only [startB, Nat.reduceAdd, Nat.reduceSub, List.replicate_succ, List.replicate_zero, wLc, wLc2, wISeq, wipeB, List.set_cons_succ, List.set_cons_zero, wgTup, wgCons, wgNil, wgNm, Bool.not_true, Bool.not_false, Bool.false_eq_true, if_true, if_false, List.map_cons, List.map_nil, List.length_cons, List.length_nil, List.cons_append, List.nil_append, wName, List.getElem?_cons_zero, List.getElem?_cons_succ, wC, wOp, wCall, wACons, wANil, wAndV, wOrV, wNotV, wIsi, wIsi2, wCmp, wChain, wChain3, wOfT, wIfE, wAnd, wOr, wNotT, bInt, bEq, bNe, bIsN, bNotN, bIn, bNotIn, wCall1, bLen, bAll, bAny, bSum, sRet, sRetN, sRetO, sIf, sSeq, sNil, sExpr, sSet, sAsg, sPar, wVE, wVN, wOfN, wOfE, wTup, wLst, pyAll, sAppM, sClrM, fHere, ixN_20, ixN_21]
      refine ⟨by
        unfold cmsD
        rw [List.length_map, (sortC_of _).length_eq, List.length_map]
        omega, s, _, k1, M, rfl, s1, s12, g.ok, by omega, by omega, ?_⟩
      refine sh_same (d := .tuple [.list (cmsD (sortC (M.2.map (turnC s)))), .list (cmsD (sortC M.1))]) sD (by decide) (by decide) ?_
      exact hnx2 _ _ ⟨rfl, false, false, nextL s M, _, _, _, _, _, rfl, g.next⟩
  · obtain ⟨rfl, k0, k1, M, u4, u7, u8, u9, u10, rfl, g⟩ := hI2
    exact hnx _ _ ⟨by omega, _, _, _, _, _, _, _, _, _, rfl⟩
end Fv
set_option maxRecDepth 100000
set_option maxHeartbeats 4000000
/-! A web's posts called otherwise; ties moved on. -/
namespace Fv
open PySem PySem.Spec PyProof.Rows L2 Gb
open PySem.W (T4)
theorem cut_tup {K : PySem.W.Frag} {p a : Addr} {B H : Hp} {xs : List V} (bp : B p = none) (h : SqT K B a xs) : SqT K (cutH p B H) a xs := by
  have one : ∀ {o : HO}, B a = some o → isSq o = true → cutH p B H a = some o := fun {o} e s => by
    have ne : a ≠ p := fun z => by rw [z, bp] at e; cases e
    unfold cutH
    rw [if_neg ne, e]
    show (if isSq o = true then some o else none) = some o
    rw [if_pos s]
  rcases h with h | h
  · rcases h with h | ⟨o, h⟩
    · exact .inl (.inl (one h rfl))
    · exact .inl (.inr ⟨o, one h rfl⟩)
  · exact .inr h
mutual
theorem dd_cut {K : PySem.W.Frag} {p : Addr} {B H : Hp} (bp : B p = none) : ∀ {v : V} {d : PyData}, Dd K B v d → d.canLay0 = true → Dp K (cutH p B H) v d
  | _, _, .non, _ => .non
  | _, _, .bl b, _ => .bl b
  | _, _, .int i, _ => .int i
  | _, _, .str x, _ => .str x
  | _, _, .lst h a _, c => .lst (SqL.of (cut_lst bp h)) (dda_cut bp a (by simpa only [PyData.canLay0] using c))
  | _, _, .tup h a _, c => .tup (cut_tup bp h) (dda_cut bp a (by simpa only [PyData.canLay0] using c))
  | _, _, .dic _ _, c => by simp only [PyData.canLay0] at c; cases c
theorem dda_cut {K : PySem.W.Frag} {p : Addr} {B H : Hp} (bp : B p = none) : ∀ {vs : List V} {ds : List PyData}, DdA K B vs ds → PyData.canLayAll0 ds = true → DpAll K (cutH p B H) vs ds
  | _, _, .nil, _ => .nil
  | _, _, .cons a b, c => by
    simp only [PyData.canLayAll0, Bool.and_eq_true] at c
    exact .cons (dd_cut bp a c.1) (dda_cut bp b c.2)
end
variable {F : Fx}
/-- renamed: by any names, in any order -/
def fRen : FB := fun ds n _ Q => ∃ (s m : Int) (ts : List Tw), ds = [.pen, .py (.int s), .py (.list (ts.map tieD))] ∧ n + 300 ≤ 2 ^ 60 ∧ 1 ≤ s ∧ s ≤ 12 ∧ TiesOk m s ts ∧ ts.length ≤ 200 ∧ ∀ ts' : List Tw, Ren s ts ts' → Q (.py (.list (ts'.map tieD))) (n + 300)
end Fv
set_option maxRecDepth 100000
set_option maxHeartbeats 0
namespace Hd
open PySem PySem.Spec PyProof.Rows L2 Gb
theorem facts {P : Program} {w : World} {K : PySem.W.Frag} {h : Heap} {mg : Str → Option Value} {f : Addr} (X : K.In h) (G : h.Ns mainGlobals mg) (hfa : mg ("law" : Str) = some (.ref f)) (c : He.SaysX fa fn [] tf ex w h K) :
    ∃ fd : FuncData, (∀ (s : Shared) (v : Value), BindsTo s fd ⟨[v], []⟩ [("script", v)]) ∧ ∀ base : Heap, K.In base → base.Ns mainGlobals mg → Fv.FnG P w K mg base 8 f fd ["script"] (Fv.spLawX K) := by
  have cd0 := c.t.d
  obtain ⟨fd, Fl⟩ := cd0.def_ 28 (d := d_law) rfl
  have e := hfa.symm.trans (He.glo_ok X G (cd0.fact 28 (f := .glo "law") rfl))
  cases e
  have b := FunD.bindsA (ps := ["script"]) Fl fun _ _ _ _ _ _ us hl => match us, hl with | [_], _ => rfl
  refine ⟨fd, fun s v => b s [v] rfl, fun base _ _ => ?_⟩
  have cd := c.t.d
  have fxe_NoWeb : (⟨P, w, K, mg, base, He.ga K "Web", fun x => if x = "NoWeb" then some (.ref (He.ga K "NoWeb")) else if x = "NoCords" then some (.ref (He.ga K "NoCords")) else none⟩ : Fv.Fx).ex "NoWeb" = some (.ref (He.ga K "NoWeb")) := by
    first | rfl | decide | simp
  have fxe_NoCords : (⟨P, w, K, mg, base, He.ga K "Web", fun x => if x = "NoWeb" then some (.ref (He.ga K "NoWeb")) else if x = "NoCords" then some (.ref (He.ga K "NoCords")) else none⟩ : Fv.Fx).ex "NoCords" = some (.ref (He.ga K "NoCords")) := by
    first | rfl | decide | simp
  have cd := c.t.d
  have bz : Fv.Bz mg := ⟨⟨He.free_ok X G (cd.fact 31 (f := .free "len") rfl), He.free_ok X G (cd.fact 32 (f := .free "abs") rfl), He.free_ok X G (cd.fact 33 (f := .free "max") rfl), He.free_ok X G (cd.fact 34 (f := .free "min") rfl), He.free_ok X G (cd.fact 35 (f := .free "list") rfl), He.free_ok X G (cd.fact 36 (f := .free "tuple") rfl), He.free_ok X G (cd.fact 37 (f := .free "range") rfl), He.free_ok X G (cd.fact 38 (f := .free "isinstance") rfl), He.free_ok X G (cd.fact 39 (f := .free "all") rfl), He.free_ok X G (cd.fact 41 (f := .free "set") rfl), He.free_ok X G (cd.fact 42 (f := .free "sum") rfl), He.free_ok X G (cd.fact 43 (f := .free "zip") rfl), He.free_ok X G (cd.fact 44 (f := .free "int") rfl)⟩, He.free_ok X G (cd.fact 47 (f := .free "bool") rfl), He.free_ok X G (cd.fact 40 (f := .free "any") rfl), He.free_ok X G (cd.fact 45 (f := .free "sorted") rfl), He.free_ok X G (cd.fact 46 (f := .free "repr") rfl), He.free_ok X G (cd.fact 48 (f := .free "dict") rfl), He.free_ok X G (cd.fact 49 (f := .free "str") rfl), He.free_ok X G (cd.fact 50 (f := .free "enumerate") rfl)⟩
  have dn__law_draw : Dn K mg "_law_draw" s__law_draw ["pen", "many"] := by
    obtain ⟨fd, F⟩ := cd.def_ 12 (d := d__law_draw) rfl
    have F2 : Fun K "_law_draw" "_law_draw" s__law_draw _ fd := He5.fun_of F
    exact ⟨_, fd, F2, He.glo_ok X G (cd.fact 12 (f := .glo "_law_draw") rfl), F2.binds fun _ _ _ _ _ _ us hl => match us, hl with | [_, _], _ => rfl⟩
  have dn__law_pick : Dn K mg "_law_pick" s__law_pick ["pen", "some"] := by
    obtain ⟨fd, F⟩ := cd.def_ 13 (d := d__law_pick) rfl
    have F2 : Fun K "_law_pick" "_law_pick" s__law_pick _ fd := He5.fun_of F
    exact ⟨_, fd, F2, He.glo_ok X G (cd.fact 13 (f := .glo "_law_pick") rfl), F2.binds fun _ _ _ _ _ _ us hl => match us, hl with | [_, _], _ => rfl⟩
  have dn__law_great : Dn K mg "_law_great" s__law_great ["pen", "figures"] := by
    obtain ⟨fd, F⟩ := cd.def_ 14 (d := d__law_great) rfl
    have F2 : Fun K "_law_great" "_law_great" s__law_great _ fd := He5.fun_of F
    exact ⟨_, fd, F2, He.glo_ok X G (cd.fact 14 (f := .glo "_law_great") rfl), F2.binds fun _ _ _ _ _ _ us hl => match us, hl with | [_, _], _ => rfl⟩
  have dn__law_shuffled : Dn K mg "_law_shuffled" s__law_shuffled ["pen", "some"] := by
    obtain ⟨fd, F⟩ := cd.def_ 15 (d := d__law_shuffled) rfl
    have F2 : Fun K "_law_shuffled" "_law_shuffled" s__law_shuffled _ fd := He5.fun_of F
    exact ⟨_, fd, F2, He.glo_ok X G (cd.fact 15 (f := .glo "_law_shuffled") rfl), F2.binds fun _ _ _ _ _ _ us hl => match us, hl with | [_, _], _ => rfl⟩
  have de_NoWeb : Fv.DnV (⟨P, w, K, mg, base, He.ga K "Web", fun x => if x = "NoWeb" then some (.ref (He.ga K "NoWeb")) else if x = "NoCords" then some (.ref (He.ga K "NoCords")) else none⟩ : Fv.Fx) "NoWeb" (He.ga K "NoWeb") "NoWeb.__init__" s_NoWeb___init__ ["self", "part"] ["part"] := by
    obtain ⟨fd, F_⟩ := cd.def_ 29 (d := d_NoWeb___init__) rfl
    have F2 : Fun K "__init__" "NoWeb.__init__" s_NoWeb___init__ _ fd := He5.fun_of F_
    have M := He.meth_ok (cd.fact 53 (f := .meth "NoWeb" "__init__") rfl)
    refine ⟨Fv.oxB_ok PySem.Xb.bas_V (Bool.and_eq_true_iff.mp (Bool.and_eq_true_iff.mp c.more).1).1, He.glo_ok X G (cd.fact 29 (f := .glo "NoWeb") rfl), fxe_NoWeb, fun f hf => by
      simp only [List.mem_cons, List.not_mem_nil, or_false] at hf
      subst hf
      exact He.noat_ok (cd.fact 54 (f := .noat "NoWeb" "part") rfl), He.free_ok X G (cd.fact 51 (f := .free "ValueError") rfl), Fv.iniB_ok (Bool.and_eq_true_iff.mp (Bool.and_eq_true_iff.mp c.more).1).2, _, fd, M.1, beq_iff_eq.mp M.2, F2, F2.binds fun _ _ _ _ _ _ us hl => match us, hl with | [_, _], _ => rfl⟩
  have dn_is_whole : Dn K mg "is_whole" s_is_whole ["thing"] := by
    obtain ⟨fd, F⟩ := cd.def_ 0 (d := d_is_whole) rfl
    have F2 : Fun K "is_whole" "is_whole" s_is_whole _ fd := He5.fun_of F
    exact ⟨_, fd, F2, He.glo_ok X G (cd.fact 0 (f := .glo "is_whole") rfl), F2.binds fun _ _ _ _ _ _ us hl => match us, hl with | [_], _ => rfl⟩
  have dn_is_between : Dn K mg "is_between" s_is_between ["thing", "low", "high"] := by
    obtain ⟨fd, F⟩ := cd.def_ 1 (d := d_is_between) rfl
    have F2 : Fun K "is_between" "is_between" s_is_between _ fd := He5.fun_of F
    exact ⟨_, fd, F2, He.glo_ok X G (cd.fact 1 (f := .glo "is_between") rfl), F2.binds fun _ _ _ _ _ _ us hl => match us, hl with | [_, _, _], _ => rfl⟩
  have dn_need_size : Dn K mg "need_size" s_need_size ["size"] := by
    obtain ⟨fd, F⟩ := cd.def_ 3 (d := d_need_size) rfl
    have F2 : Fun K "need_size" "need_size" s_need_size _ fd := He5.fun_of F
    exact ⟨_, fd, F2, He.glo_ok X G (cd.fact 3 (f := .glo "need_size") rfl), F2.binds fun _ _ _ _ _ _ us hl => match us, hl with | [_], _ => rfl⟩
  have v_MOST_POSTS : ∃ u, mg "MOST_POSTS" = some u ∧ RelV (.int 12) u := by
    obtain ⟨t, h⟩ := He.int_ok X G (cd.fact 52 (f := .int "MOST_POSTS" (12)) rfl)
    exact ⟨_, h, ⟨t, rfl⟩⟩
  have dn_is_whole_row : Dn K mg "is_whole_row" s_is_whole_row ["thing", "many"] := by
    obtain ⟨fd, F⟩ := cd.def_ 2 (d := d_is_whole_row) rfl
    have F2 : Fun K "is_whole_row" "is_whole_row" s_is_whole_row _ fd := He5.fun_of F
    exact ⟨_, fd, F2, He.glo_ok X G (cd.fact 2 (f := .glo "is_whole_row") rfl), F2.binds fun _ _ _ _ _ _ us hl => match us, hl with | [_, _], _ => rfl⟩
  have dn__law_pen : Dn K mg "_law_pen" s__law_pen ["script"] := by
    obtain ⟨fd, F⟩ := cd.def_ 11 (d := d__law_pen) rfl
    have F2 : Fun K "_law_pen" "_law_pen" s__law_pen _ fd := He5.fun_of F
    exact ⟨_, fd, F2, He.glo_ok X G (cd.fact 11 (f := .glo "_law_pen") rfl), F2.binds fun _ _ _ _ _ _ us hl => match us, hl with | [_], _ => rfl⟩
  have dn__law_beat : Dn K mg "_law_beat" s__law_beat ["size", "ties", "standing"] := by
    obtain ⟨fd, F⟩ := cd.def_ 16 (d := d__law_beat) rfl
    have F2 : Fun K "_law_beat" "_law_beat" s__law_beat _ fd := He5.fun_of F
    exact ⟨_, fd, F2, He.glo_ok X G (cd.fact 16 (f := .glo "_law_beat") rfl), F2.binds fun _ _ _ _ _ _ us hl => match us, hl with | [_, _, _], _ => rfl⟩
  have dn__law_run : Dn K mg "_law_run" s__law_run ["size", "ties", "standing", "beats"] := by
    obtain ⟨fd, F⟩ := cd.def_ 17 (d := d__law_run) rfl
    have F2 : Fun K "_law_run" "_law_run" s__law_run _ fd := He5.fun_of F
    exact ⟨_, fd, F2, He.glo_ok X G (cd.fact 17 (f := .glo "_law_run") rfl), F2.binds fun _ _ _ _ _ _ us hl => match us, hl with | [_, _, _, _], _ => rfl⟩
  have de_NoCords : Fv.DnV (⟨P, w, K, mg, base, He.ga K "Web", fun x => if x = "NoWeb" then some (.ref (He.ga K "NoWeb")) else if x = "NoCords" then some (.ref (He.ga K "NoCords")) else none⟩ : Fv.Fx) "NoCords" (He.ga K "NoCords") "NoCords.__init__" s_NoCords___init__ ["self", "half", "one", "other"] ["half", "one", "other"] := by
    obtain ⟨fd, F_⟩ := cd.def_ 30 (d := d_NoCords___init__) rfl
    have F2 : Fun K "__init__" "NoCords.__init__" s_NoCords___init__ _ fd := He5.fun_of F_
    have M := He.meth_ok (cd.fact 55 (f := .meth "NoCords" "__init__") rfl)
    refine ⟨Fv.oxB_ok PySem.Xb.bas_V (Bool.and_eq_true_iff.mp c.more).2, He.glo_ok X G (cd.fact 30 (f := .glo "NoCords") rfl), fxe_NoCords, fun f hf => by
      simp only [List.mem_cons, List.not_mem_nil, or_false] at hf
      rcases hf with rfl | rfl | rfl
      · exact He.noat_ok (cd.fact 56 (f := .noat "NoCords" "half") rfl)
      · exact He.noat_ok (cd.fact 57 (f := .noat "NoCords" "one") rfl)
      · exact He.noat_ok (cd.fact 58 (f := .noat "NoCords" "other") rfl), He.free_ok X G (cd.fact 51 (f := .free "ValueError") rfl), Fv.iniB_ok (Bool.and_eq_true_iff.mp (Bool.and_eq_true_iff.mp c.more).1).2, _, fd, M.1, beq_iff_eq.mp M.2, F2, F2.binds fun _ _ _ _ _ _ us hl => match us, hl with | [_, _, _, _], _ => rfl⟩
  have dn_joining : Dn K mg "joining" s_joining ["size", "one", "other"] := by
    obtain ⟨fd, F⟩ := cd.def_ 5 (d := d_joining) rfl
    have F2 : Fun K "joining" "joining" s_joining _ fd := He5.fun_of F
    exact ⟨_, fd, F2, He.glo_ok X G (cd.fact 5 (f := .glo "joining") rfl), F2.binds fun _ _ _ _ _ _ us hl => match us, hl with | [_, _, _], _ => rfl⟩
  have dn__law_corners : Dn K mg "_law_corners" s__law_corners ["size", "post", "beat"] := by
    obtain ⟨fd, F⟩ := cd.def_ 18 (d := d__law_corners) rfl
    have F2 : Fun K "_law_corners" "_law_corners" s__law_corners _ fd := He5.fun_of F
    exact ⟨_, fd, F2, He.glo_ok X G (cd.fact 18 (f := .glo "_law_corners") rfl), F2.binds fun _ _ _ _ _ _ us hl => match us, hl with | [_, _, _], _ => rfl⟩
  have dn__law_row : Dn K mg "_law_row" s__law_row ["size"] := by
    obtain ⟨fd, F⟩ := cd.def_ 19 (d := d__law_row) rfl
    have F2 : Fun K "_law_row" "_law_row" s__law_row _ fd := He5.fun_of F
    exact ⟨_, fd, F2, He.glo_ok X G (cd.fact 19 (f := .glo "_law_row") rfl), F2.binds fun _ _ _ _ _ _ us hl => match us, hl with | [_], _ => rfl⟩
  have dn__law_all_cords : Dn K mg "_law_all_cords" s__law_all_cords ["size"] := by
    obtain ⟨fd, F⟩ := cd.def_ 20 (d := d__law_all_cords) rfl
    have F2 : Fun K "_law_all_cords" "_law_all_cords" s__law_all_cords _ fd := He5.fun_of F
    exact ⟨_, fd, F2, He.glo_ok X G (cd.fact 20 (f := .glo "_law_all_cords") rfl), F2.binds fun _ _ _ _ _ _ us hl => match us, hl with | [_], _ => rfl⟩
  have dn_is_cord : Dn K mg "is_cord" s_is_cord ["size", "thing"] := by
    obtain ⟨fd, F⟩ := cd.def_ 9 (d := d_is_cord) rfl
    have F2 : Fun K "is_cord" "is_cord" s_is_cord _ fd := He5.fun_of F
    exact ⟨_, fd, F2, He.glo_ok X G (cd.fact 9 (f := .glo "is_cord") rfl), F2.binds fun _ _ _ _ _ _ us hl => match us, hl with | [_, _], _ => rfl⟩
  have dn_are_crossed : Dn K mg "are_crossed" s_are_crossed ["one", "other"] := by
    obtain ⟨fd, F⟩ := cd.def_ 10 (d := d_are_crossed) rfl
    have F2 : Fun K "are_crossed" "are_crossed" s_are_crossed _ fd := He5.fun_of F
    exact ⟨_, fd, F2, He.glo_ok X G (cd.fact 10 (f := .glo "are_crossed") rfl), F2.binds fun _ _ _ _ _ _ us hl => match us, hl with | [_, _], _ => rfl⟩
  have dn_row_fault : Dn K mg "row_fault" s_row_fault ["size", "row"] := by
    obtain ⟨fd, F⟩ := cd.def_ 8 (d := d_row_fault) rfl
    have F2 : Fun K "row_fault" "row_fault" s_row_fault _ fd := He5.fun_of F
    exact ⟨_, fd, F2, He.glo_ok X G (cd.fact 8 (f := .glo "row_fault") rfl), F2.binds fun _ _ _ _ _ _ us hl => match us, hl with | [_, _], _ => rfl⟩
  have dn_cords_fault : Dn K mg "cords_fault" s_cords_fault ["size", "cords"] := by
    obtain ⟨fd, F⟩ := cd.def_ 7 (d := d_cords_fault) rfl
    have F2 : Fun K "cords_fault" "cords_fault" s_cords_fault _ fd := He5.fun_of F
    exact ⟨_, fd, F2, He.glo_ok X G (cd.fact 7 (f := .glo "cords_fault") rfl), F2.binds fun _ _ _ _ _ _ us hl => match us, hl with | [_, _], _ => rfl⟩
  have dn_need_cords : Dn K mg "need_cords" s_need_cords ["size", "cords"] := by
    obtain ⟨fd, F⟩ := cd.def_ 6 (d := d_need_cords) rfl
    have F2 : Fun K "need_cords" "need_cords" s_need_cords _ fd := He5.fun_of F
    exact ⟨_, fd, F2, He.glo_ok X G (cd.fact 6 (f := .glo "need_cords") rfl), F2.binds fun _ _ _ _ _ _ us hl => match us, hl with | [_, _], _ => rfl⟩
  have dn_turned_cords : Dn K mg "turned_cords" s_turned_cords ["size", "cords"] := by
    obtain ⟨fd, F⟩ := cd.def_ 4 (d := d_turned_cords) rfl
    have F2 : Fun K "turned_cords" "turned_cords" s_turned_cords _ fd := He5.fun_of F
    exact ⟨_, fd, F2, He.glo_ok X G (cd.fact 4 (f := .glo "turned_cords") rfl), F2.binds fun _ _ _ _ _ _ us hl => match us, hl with | [_, _], _ => rfl⟩
  have dn__law_cross : Dn K mg "_law_cross" s__law_cross ["one", "other"] := by
    obtain ⟨fd, F⟩ := cd.def_ 21 (d := d__law_cross) rfl
    have F2 : Fun K "_law_cross" "_law_cross" s__law_cross _ fd := He5.fun_of F
    exact ⟨_, fd, F2, He.glo_ok X G (cd.fact 21 (f := .glo "_law_cross") rfl), F2.binds fun _ _ _ _ _ _ us hl => match us, hl with | [_, _], _ => rfl⟩
  have dn__law_turned_on : Dn K mg "_law_turned_on" s__law_turned_on ["size", "cords", "by"] := by
    obtain ⟨fd, F⟩ := cd.def_ 27 (d := d__law_turned_on) rfl
    have F2 : Fun K "_law_turned_on" "_law_turned_on" s__law_turned_on _ fd := He5.fun_of F
    exact ⟨_, fd, F2, He.glo_ok X G (cd.fact 27 (f := .glo "_law_turned_on") rfl), F2.binds fun _ _ _ _ _ _ us hl => match us, hl with | [_, _, _], _ => rfl⟩
  have dn__law_handed : Dn K mg "_law_handed" s__law_handed ["pen", "some"] := by
    obtain ⟨fd, F⟩ := cd.def_ 26 (d := d__law_handed) rfl
    have F2 : Fun K "_law_handed" "_law_handed" s__law_handed _ fd := He5.fun_of F
    exact ⟨_, fd, F2, He.glo_ok X G (cd.fact 26 (f := .glo "_law_handed") rfl), F2.binds fun _ _ _ _ _ _ us hl => match us, hl with | [_, _], _ => rfl⟩
  have dn__law_drawn_half : Dn K mg "_law_drawn_half" s__law_drawn_half ["pen", "size", "far"] := by
    obtain ⟨fd, F⟩ := cd.def_ 22 (d := d__law_drawn_half) rfl
    have F2 : Fun K "_law_drawn_half" "_law_drawn_half" s__law_drawn_half _ fd := He5.fun_of F
    exact ⟨_, fd, F2, He.glo_ok X G (cd.fact 22 (f := .glo "_law_drawn_half") rfl), F2.binds fun _ _ _ _ _ _ us hl => match us, hl with | [_, _, _], _ => rfl⟩
  have dn__law_drawn_cords : Dn K mg "_law_drawn_cords" s__law_drawn_cords ["pen", "size", "far"] := by
    obtain ⟨fd, F⟩ := cd.def_ 23 (d := d__law_drawn_cords) rfl
    have F2 : Fun K "_law_drawn_cords" "_law_drawn_cords" s__law_drawn_cords _ fd := He5.fun_of F
    exact ⟨_, fd, F2, He.glo_ok X G (cd.fact 23 (f := .glo "_law_drawn_cords") rfl), F2.binds fun _ _ _ _ _ _ us hl => match us, hl with | [_, _, _], _ => rfl⟩
  have dn__law_by_cords : Dn K mg "_law_by_cords" s__law_by_cords ["size", "cords"] := by
    obtain ⟨fd, F⟩ := cd.def_ 24 (d := d__law_by_cords) rfl
    have F2 : Fun K "_law_by_cords" "_law_by_cords" s__law_by_cords _ fd := He5.fun_of F
    exact ⟨_, fd, F2, He.glo_ok X G (cd.fact 24 (f := .glo "_law_by_cords") rfl), F2.binds fun _ _ _ _ _ _ us hl => match us, hl with | [_, _], _ => rfl⟩
  have dn__law_cords_by_run : Dn K mg "_law_cords_by_run" s__law_cords_by_run ["size", "standing"] := by
    obtain ⟨fd, F⟩ := cd.def_ 25 (d := d__law_cords_by_run) rfl
    have F2 : Fun K "_law_cords_by_run" "_law_cords_by_run" s__law_cords_by_run _ fd := He5.fun_of F
    exact ⟨_, fd, F2, He.glo_ok X G (cd.fact 25 (f := .glo "_law_cords_by_run") rfl), F2.binds fun _ _ _ _ _ _ us hl => match us, hl with | [_, _], _ => rfl⟩
  have o__law_draw := ok__law_draw (P := P) (w := w) (K := K) (mg := mg) (base := base) (D := dn__law_draw) (B := bz.toBt)
  have c__law_draw := Fv.b_draw (F := (⟨P, w, K, mg, base, He.ga K "Web", fun x => if x = "NoWeb" then some (.ref (He.ga K "NoWeb")) else if x = "NoCords" then some (.ref (He.ga K "NoCords")) else none⟩ : Fv.Fx)) o__law_draw
  have o__law_pick := ok__law_pick (P := P) (w := w) (K := K) (mg := mg) (base := base) (D := dn__law_pick) (B := bz.toBt) (c__law_draw := o__law_draw)
  have c__law_pick := Fv.b_pick (F := (⟨P, w, K, mg, base, He.ga K "Web", fun x => if x = "NoWeb" then some (.ref (He.ga K "NoWeb")) else if x = "NoCords" then some (.ref (He.ga K "NoCords")) else none⟩ : Fv.Fx)) o__law_pick
  have o__law_great := ok__law_great (P := P) (w := w) (K := K) (mg := mg) (base := base) (D := dn__law_great) (B := bz.toBt) (c__law_draw := o__law_draw)
  have c__law_great := Fv.b_great (F := (⟨P, w, K, mg, base, He.ga K "Web", fun x => if x = "NoWeb" then some (.ref (He.ga K "NoWeb")) else if x = "NoCords" then some (.ref (He.ga K "NoCords")) else none⟩ : Fv.Fx)) o__law_great
  have o__law_shuffled := ok__law_shuffled (P := P) (w := w) (K := K) (mg := mg) (base := base) (D := dn__law_shuffled) (B := bz.toBt) (c__law_draw := o__law_draw)
  have c__law_shuffled := Fv.b_shuf (F := (⟨P, w, K, mg, base, He.ga K "Web", fun x => if x = "NoWeb" then some (.ref (He.ga K "NoWeb")) else if x = "NoCords" then some (.ref (He.ga K "NoCords")) else none⟩ : Fv.Fx)) o__law_shuffled
  have e_NoWeb := Fv.ok_NoWeb (F := (⟨P, w, K, mg, base, He.ga K "Web", fun x => if x = "NoWeb" then some (.ref (He.ga K "NoWeb")) else if x = "NoCords" then some (.ref (He.ga K "NoCords")) else none⟩ : Fv.Fx)) (D := de_NoWeb)
  have c_is_whole := Fv.ok_is_whole (F := (⟨P, w, K, mg, base, He.ga K "Web", fun x => if x = "NoWeb" then some (.ref (He.ga K "NoWeb")) else if x = "NoCords" then some (.ref (He.ga K "NoCords")) else none⟩ : Fv.Fx)) (D := dn_is_whole) (bz := bz)
  have c_is_between := Fv.ok_is_between (F := (⟨P, w, K, mg, base, He.ga K "Web", fun x => if x = "NoWeb" then some (.ref (He.ga K "NoWeb")) else if x = "NoCords" then some (.ref (He.ga K "NoCords")) else none⟩ : Fv.Fx)) (D := dn_is_between) (bz := bz) (c_is_whole := c_is_whole)
  have c_need_size := Fv.ok_need_size (F := (⟨P, w, K, mg, base, He.ga K "Web", fun x => if x = "NoWeb" then some (.ref (He.ga K "NoWeb")) else if x = "NoCords" then some (.ref (He.ga K "NoCords")) else none⟩ : Fv.Fx)) (D := dn_need_size) (bz := bz) (c_is_between := c_is_between) (e_NoWeb := e_NoWeb) (v_MOST_POSTS := v_MOST_POSTS)
  have c_is_whole_row := Fv.ok_is_whole_row (F := (⟨P, w, K, mg, base, He.ga K "Web", fun x => if x = "NoWeb" then some (.ref (He.ga K "NoWeb")) else if x = "NoCords" then some (.ref (He.ga K "NoCords")) else none⟩ : Fv.Fx)) (D := dn_is_whole_row) (bz := bz) (c_is_whole := c_is_whole)
  have c__law_pen := Fv.ok__law_pen (P := P) (w := w) (K := K) (mg := mg) (base := base) (D := dn__law_pen) (B := bz.toBt)
  have c__law_beat := Fv.ok__law_beat (F := (⟨P, w, K, mg, base, He.ga K "Web", fun x => if x = "NoWeb" then some (.ref (He.ga K "NoWeb")) else if x = "NoCords" then some (.ref (He.ga K "NoCords")) else none⟩ : Fv.Fx)) (D := dn__law_beat) (bz := bz)
  have c__law_run := Fv.ok__law_run (F := (⟨P, w, K, mg, base, He.ga K "Web", fun x => if x = "NoWeb" then some (.ref (He.ga K "NoWeb")) else if x = "NoCords" then some (.ref (He.ga K "NoCords")) else none⟩ : Fv.Fx)) (D := dn__law_run) (bz := bz) (c__law_beat := c__law_beat)
  have e_NoCords := Fv.ok_NoCords (F := (⟨P, w, K, mg, base, He.ga K "Web", fun x => if x = "NoWeb" then some (.ref (He.ga K "NoWeb")) else if x = "NoCords" then some (.ref (He.ga K "NoCords")) else none⟩ : Fv.Fx)) (D := de_NoCords)
  have c_joining := Fv.ok_joining (F := (⟨P, w, K, mg, base, He.ga K "Web", fun x => if x = "NoWeb" then some (.ref (He.ga K "NoWeb")) else if x = "NoCords" then some (.ref (He.ga K "NoCords")) else none⟩ : Fv.Fx)) (D := dn_joining) (bz := bz)
  have c__law_corners := Fv.ok__law_corners (F := (⟨P, w, K, mg, base, He.ga K "Web", fun x => if x = "NoWeb" then some (.ref (He.ga K "NoWeb")) else if x = "NoCords" then some (.ref (He.ga K "NoCords")) else none⟩ : Fv.Fx)) (D := dn__law_corners) (bz := bz)
  have c__law_row := Fv.ok__law_row (F := (⟨P, w, K, mg, base, He.ga K "Web", fun x => if x = "NoWeb" then some (.ref (He.ga K "NoWeb")) else if x = "NoCords" then some (.ref (He.ga K "NoCords")) else none⟩ : Fv.Fx)) (D := dn__law_row) (bz := bz)
  have c__law_all_cords := Fv.ok__law_all_cords (F := (⟨P, w, K, mg, base, He.ga K "Web", fun x => if x = "NoWeb" then some (.ref (He.ga K "NoWeb")) else if x = "NoCords" then some (.ref (He.ga K "NoCords")) else none⟩ : Fv.Fx)) (D := dn__law_all_cords) (bz := bz)
  have c_is_cord := Fv.ok_is_cord (F := (⟨P, w, K, mg, base, He.ga K "Web", fun x => if x = "NoWeb" then some (.ref (He.ga K "NoWeb")) else if x = "NoCords" then some (.ref (He.ga K "NoCords")) else none⟩ : Fv.Fx)) (D := dn_is_cord) (bz := bz) (c_is_whole_row := c_is_whole_row)
  have c_are_crossed := Fv.ok_are_crossed (F := (⟨P, w, K, mg, base, He.ga K "Web", fun x => if x = "NoWeb" then some (.ref (He.ga K "NoWeb")) else if x = "NoCords" then some (.ref (He.ga K "NoCords")) else none⟩ : Fv.Fx)) (D := dn_are_crossed) (bz := bz)
  have c_row_faultK := Fv.ok_row_faultK (F := (⟨P, w, K, mg, base, He.ga K "Web", fun x => if x = "NoWeb" then some (.ref (He.ga K "NoWeb")) else if x = "NoCords" then some (.ref (He.ga K "NoCords")) else none⟩ : Fv.Fx)) (D := dn_row_fault) (bz := bz) (c_is_cord := c_is_cord) (c_are_crossed := c_are_crossed)
  have c_cords_faultK := Fv.ok_cords_faultK (F := (⟨P, w, K, mg, base, He.ga K "Web", fun x => if x = "NoWeb" then some (.ref (He.ga K "NoWeb")) else if x = "NoCords" then some (.ref (He.ga K "NoCords")) else none⟩ : Fv.Fx)) (D := dn_cords_fault) (bz := bz) (c_row_faultK := c_row_faultK)
  have c_need_cordsK := Fv.ok_need_cordsK (F := (⟨P, w, K, mg, base, He.ga K "Web", fun x => if x = "NoWeb" then some (.ref (He.ga K "NoWeb")) else if x = "NoCords" then some (.ref (He.ga K "NoCords")) else none⟩ : Fv.Fx)) (D := dn_need_cords) (bz := bz) (c_cords_faultK := c_cords_faultK)
  have c_turned_cords := Fv.ok_turned_cords (F := (⟨P, w, K, mg, base, He.ga K "Web", fun x => if x = "NoWeb" then some (.ref (He.ga K "NoWeb")) else if x = "NoCords" then some (.ref (He.ga K "NoCords")) else none⟩ : Fv.Fx)) (D := dn_turned_cords) (bz := bz) (c_need_size := c_need_size) (c_need_cordsK := c_need_cordsK) (c_joining := c_joining)
  have c_turned_cordsM := Fv.ok_turned_cordsM (F := (⟨P, w, K, mg, base, He.ga K "Web", fun x => if x = "NoWeb" then some (.ref (He.ga K "NoWeb")) else if x = "NoCords" then some (.ref (He.ga K "NoCords")) else none⟩ : Fv.Fx)) (D := dn_turned_cords) (bz := bz) (c_need_size := c_need_size) (c_need_cordsK := c_need_cordsK) (c_joining := c_joining)
  have c__law_cross := Fv.ok__law_cross (F := (⟨P, w, K, mg, base, He.ga K "Web", fun x => if x = "NoWeb" then some (.ref (He.ga K "NoWeb")) else if x = "NoCords" then some (.ref (He.ga K "NoCords")) else none⟩ : Fv.Fx)) (D := dn__law_cross) (bz := bz)
  have c__law_turned_on := Fv.ok__law_turned_on (F := (⟨P, w, K, mg, base, He.ga K "Web", fun x => if x = "NoWeb" then some (.ref (He.ga K "NoWeb")) else if x = "NoCords" then some (.ref (He.ga K "NoCords")) else none⟩ : Fv.Fx)) (D := dn__law_turned_on) (bz := bz)
  have c__law_handed := Fv.ok__law_handed (F := (⟨P, w, K, mg, base, He.ga K "Web", fun x => if x = "NoWeb" then some (.ref (He.ga K "NoWeb")) else if x = "NoCords" then some (.ref (He.ga K "NoCords")) else none⟩ : Fv.Fx)) (D := dn__law_handed) (bz := bz) (c__law_draw := c__law_draw) (c__law_shuffled := c__law_shuffled)
  have c__law_drawn_half := Fv.ok__law_drawn_half (F := (⟨P, w, K, mg, base, He.ga K "Web", fun x => if x = "NoWeb" then some (.ref (He.ga K "NoWeb")) else if x = "NoCords" then some (.ref (He.ga K "NoCords")) else none⟩ : Fv.Fx)) (D := dn__law_drawn_half) (bz := bz) (c__law_pick := c__law_pick) (c__law_great := c__law_great) (c__law_shuffled := c__law_shuffled) (c__law_all_cords := c__law_all_cords) (c__law_cross := c__law_cross)
  have c__law_drawn_cords := Fv.ok__law_drawn_cords (F := (⟨P, w, K, mg, base, He.ga K "Web", fun x => if x = "NoWeb" then some (.ref (He.ga K "NoWeb")) else if x = "NoCords" then some (.ref (He.ga K "NoCords")) else none⟩ : Fv.Fx)) (D := dn__law_drawn_cords) (bz := bz) (c__law_drawn_half := c__law_drawn_half)
  have c__law_by_cords := Fv.ok__law_by_cords (F := (⟨P, w, K, mg, base, He.ga K "Web", fun x => if x = "NoWeb" then some (.ref (He.ga K "NoWeb")) else if x = "NoCords" then some (.ref (He.ga K "NoCords")) else none⟩ : Fv.Fx)) (D := dn__law_by_cords) (bz := bz) (c__law_corners := c__law_corners) (c__law_cross := c__law_cross)
  have c__law_cords_by_run := Fv.ok__law_cords_by_run (F := (⟨P, w, K, mg, base, He.ga K "Web", fun x => if x = "NoWeb" then some (.ref (He.ga K "NoWeb")) else if x = "NoCords" then some (.ref (He.ga K "NoCords")) else none⟩ : Fv.Fx)) (D := dn__law_cords_by_run) (bz := bz) (c__law_run := c__law_run) (c__law_row := c__law_row) (c__law_corners := c__law_corners)
  exact Fv.ok_law (F := (⟨P, w, K, mg, base, He.ga K "Web", fun x => if x = "NoWeb" then some (.ref (He.ga K "NoWeb")) else if x = "NoCords" then some (.ref (He.ga K "NoCords")) else none⟩ : Fv.Fx)) (He5.fun_of Fl) (bz := bz) (c__law_pen := c__law_pen) (c__law_draw := c__law_draw) (c__law_drawn_cords := c__law_drawn_cords) (c__law_by_cords := c__law_by_cords) (c__law_handed := c__law_handed) (c__law_turned_on := c__law_turned_on) (c_turned_cords := c_turned_cords) (c_turned_cordsM := c_turned_cordsM) (c__law_beat := c__law_beat) (c__law_row := c__law_row) (c__law_cords_by_run := c__law_cords_by_run)
end Hd
open PySem PySem.W PySem.Calls PyProof.Rows
theorem PySem.Challenge.cw_giveback_k55_cords_behind_a_beat_holds : PySem.Challenge.rw_giveback_k55_cords_behind_a_beat.Holds := by
  w_on; o_law
  refine HandSHeadRun.head_any (r := OpenLaw.row PySem.Challenge.rw_giveback_k55_cords_behind_a_beat) (q := view (OpenLaw.row PySem.Challenge.rw_giveback_k55_cords_behind_a_beat).prog [36]) (H := Hd.hk) (ob := Hd.ob) (M := 6000) (loose := Hd.loose) (d := HandSHeadRun.topDef (OpenLaw.row PySem.Challenge.rw_giveback_k55_cords_behind_a_beat).prog 36) (kwd := []) Hd.ob_eq
    (by kernel_rfl) (fun s => by kernel_rfl) Hd.run (by kernel_rfl) (by kernel_rfl) (by kernel_rfl) (by rfl) (by first | assumption | decide +kernel) (by decide +kernel) ⟨rfl, rfl, rfl, rfl, rfl, by decide +kernel⟩ ?hw ?hc
  case hw => w_witness2
  case hc =>
    refine Fv.end_walk (l := PySem.Challenge.rw_giveback_k55_cords_behind_a_beat) (n := 63) (k := 8) (x := "script") rfl (by decide) (by kernel_rfl) ⟨rfl, by decide, by decide⟩ ?F
    intro w mg fa h Y G hmg0
    obtain ⟨K, KX, c⟩ := Y
    have hmg : mg ("law" : PySem.Str) = some (.ref fa) := by
      have e : (HandSHeadRun.topDef (OpenLaw.row PySem.Challenge.rw_giveback_k55_cords_behind_a_beat).prog 36).name = ("law" : PySem.Str) := by kernel_rfl
      rw [← e]
      exact hmg0
    obtain ⟨fd, hb, hF⟩ := Hd.facts (P := (PySem.Challenge.rw_giveback_k55_cords_behind_a_beat).prog) (w := w) KX G hmg c
    exact ⟨K, fd, [], Fv.spLawX K, KX, (fun p hp => by cases hp), (fun p hp => by cases hp), (fun p hp => by cases hp), hb, fun H a ns ob hl hS => ⟨a, ob, ns, rfl, hS, hl, fun _ => rfl⟩, fun base h1 h2 _ => hF base h1 h2⟩
