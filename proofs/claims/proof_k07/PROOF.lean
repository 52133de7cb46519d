import PyProof.Rows.All
import Wide.All
import OpenK.AllK
import Wide.FinOn
import PySem.Challenge.RW_giveback_k07_whole_parts_run_alone
import HandS.ForMost
import HandS.Star
import HandS.Conv
import HandS.Flow
import HandS.Style
import HandS.Zip
import HandS.TupAny
import HandS.IsInst
import HandS.Evl
import KE.DatumMore
import HandS.TupSets
import KE.GoesMore
import KE.GoesZip
import KE.KRevSl
import KE.DatumOrd
import HandS.Iter
import Lean
import KE.KStateDown
import HandS.More
import HandS.WordsExc
import HandS.Defaults
import HandS.Head0
import HandS.Head1
import HandS.Head2
import HandS.HeadEnd
import HandS.HeadHook1
import HandS.HeadHook2
import HandS.HeadNt
set_option Elab.async false
set_option linter.all false
set_option maxRecDepth 100000
set_option maxHeartbeats 4000000
/-! The heap's extensions, the pen, a list that is being made. -/
namespace Gb
open PySem PySem.Spec PyProof.Rows L2
/-! ### extensions -/
def notDk : HO → Prop
  | .dK _ => False
  | _ => True
/-- all but dicts is as it was -/
def Ex (H H' : Hp) : Prop := ∀ b o, H b = some o → notDk o → H' b = some o
theorem Ex.refl {H : Hp} : Ex H H := fun _ _ h _ => h
theorem Ex.trans {H H1 H2 : Hp} (a : Ex H H1) (b : Ex H1 H2) : Ex H H2 := fun x o h n => b x o (a x o h n) n
theorem Ex.new {H : Hp} {p : Addr} {o : HO} (h : H p = none) : Ex H (upd H p o) := fun a u e _ => by
  rw [upd_ne (ne_of_none e h)]
  exact e
theorem Ex.of {H H' : Hp} (e : Same H H') : Ex H H' := fun b o h _ => e b o h
theorem Ex.rd {H H' : Hp} {a : Addr} {u : HO} (e : Ex H H') (h : Rd H a u) (n : notDk u) : Rd H' a u := by
  rcases h with h | ⟨o, h⟩
  · exact .inl (e _ _ h n)
  · exact .inr ⟨o, e _ _ h trivial⟩
theorem Ex.l {K : PySem.W.Frag} {H H' : Hp} {a : Addr} {xs : List V} (e : Ex H H') (h : SqL K H a xs) : SqL K H' a xs := by
  rcases h with h | h
  · exact .inl (e.rd h trivial)
  · exact .inr h
theorem Ex.t {K : PySem.W.Frag} {H H' : Hp} {a : Addr} {xs : List V} (e : Ex H H') (h : SqT K H a xs) : SqT K H' a xs := by
  rcases h with h | h
  · exact .inl (e.rd h trivial)
  · exact .inr h
theorem Ex.back {H H' : Hp} {a : Addr} (e : Ex H H') (h : H' a = none) : ∀ o, H a = some o → ¬ notDk o := fun o q n => by
  rw [e _ _ q n] at h
  cases h
mutual
theorem Dp.ex {K : PySem.W.Frag} {H H' : Hp} (e : Ex H H') : ∀ {v : V} {d : PyData}, Dp K H v d → Dp K H' v d
  | _, _, .non => .non
  | _, _, .bl b => .bl b
  | _, _, .int i => .int i
  | _, _, .str x => .str x
  | _, _, .lst h a => .lst (e.l h) (DpAll.ex e a)
  | _, _, .tup h a => .tup (e.t h) (DpAll.ex e a)
theorem DpAll.ex {K : PySem.W.Frag} {H H' : Hp} (e : Ex H H') : ∀ {vs : List V} {ds : List PyData}, DpAll K H vs ds → DpAll K H' vs ds
  | _, _, .nil => .nil
  | _, _, .cons a b => .cons (Dp.ex e a) (DpAll.ex e b)
end
theorem dpa_len {K : PySem.W.Frag} {H : Hp} : ∀ {vs : List V} {ds : List PyData}, DpAll K H vs ds → vs.length = ds.length
  | _, _, .nil => rfl
  | _, _, .cons _ t => by rw [List.length_cons, List.length_cons, dpa_len t]
theorem dpa_get {K : PySem.W.Frag} {H : Hp} : ∀ {vs : List V} {ds : List PyData} {i : Nat} {v : V}, DpAll K H vs ds → vs[i]? = some v → ∃ d, ds[i]? = some d ∧ Dp K H v d
  | _, _, _, _, .nil, e => by simp at e
  | _, _, 0, _, .cons r _, e => by
    simp at e
    subst e
    exact ⟨_, rfl, r⟩
  | _, _, i + 1, v, .cons _ t, e => by
    obtain ⟨d, h1, h2⟩ := dpa_get (i := i) (v := v) t (by simpa using e)
    exact ⟨d, by simpa using h1, h2⟩
theorem dpa_get' {K : PySem.W.Frag} {H : Hp} : ∀ {vs : List V} {ds : List PyData} {i : Nat} {d : PyData}, DpAll K H vs ds → ds[i]? = some d → ∃ v, vs[i]? = some v ∧ Dp K H v d
  | _, _, _, _, .nil, e => by simp at e
  | _, _, 0, _, .cons r _, e => by
    simp at e
    subst e
    exact ⟨_, rfl, r⟩
  | _, _, i + 1, v, .cons _ t, e => by
    obtain ⟨d, h1, h2⟩ := dpa_get' (i := i) (d := v) t (by simpa using e)
    exact ⟨d, by simpa using h1, h2⟩
theorem dpa_app {K : PySem.W.Frag} {H : Hp} : ∀ {vs ws : List V} {ds es : List PyData}, DpAll K H vs ds → DpAll K H ws es → DpAll K H (vs ++ ws) (ds ++ es)
  | _, _, _, _, .nil, h => h
  | _, _, _, _, .cons a b, h => .cons a (dpa_app b h)
theorem dpa_one {K : PySem.W.Frag} {H : Hp} {v : V} {d : PyData} (h : Dp K H v d) : DpAll K H [v] [d] := .cons h .nil
theorem dpa_take {K : PySem.W.Frag} {H : Hp} : ∀ {vs : List V} {ds : List PyData} (n : Nat), DpAll K H vs ds → DpAll K H (vs.take n) (ds.take n)
  | _, _, 0, _ => .nil
  | _, _, _ + 1, .nil => .nil
  | _, _, n + 1, .cons a b => .cons a (dpa_take n b)
theorem dpa_drop {K : PySem.W.Frag} {H : Hp} : ∀ {vs : List V} {ds : List PyData} (n : Nat), DpAll K H vs ds → DpAll K H (vs.drop n) (ds.drop n)
  | _, _, 0, h => h
  | _, _, _ + 1, .nil => .nil
  | _, _, n + 1, .cons _ b => dpa_drop n b
theorem dpa_erase {K : PySem.W.Frag} {H : Hp} : ∀ {vs : List V} {ds : List PyData} (n : Nat), DpAll K H vs ds → DpAll K H (vs.eraseIdx n) (ds.eraseIdx n)
  | _, _, _, .nil => .nil
  | _, _, 0, .cons _ b => b
  | _, _, n + 1, .cons a b => .cons a (dpa_erase n b)
theorem dpa_set {K : PySem.W.Frag} {H : Hp} {v : V} {d : PyData} (h : Dp K H v d) : ∀ {vs : List V} {ds : List PyData} (n : Nat), DpAll K H vs ds → DpAll K H (vs.set n v) (ds.set n d)
  | _, _, _, .nil => .nil
  | _, _, 0, .cons _ b => .cons h b
  | _, _, n + 1, .cons a b => .cons a (dpa_set h n b)
theorem dp_list {K : PySem.W.Frag} {H : Hp} {v : V} {ds : List PyData} (h : Dp K H v (.list ds)) : ∃ a xs, v = .ref a ∧ SqL K H a xs ∧ DpAll K H xs ds := by
  cases h with
  | lst h a => exact ⟨_, _, rfl, h, a⟩
theorem dp_tuple {K : PySem.W.Frag} {H : Hp} {v : V} {ds : List PyData} (h : Dp K H v (.tuple ds)) : ∃ a xs, v = .ref a ∧ SqT K H a xs ∧ DpAll K H xs ds := by
  cases h with
  | tup h a => exact ⟨_, _, rfl, h, a⟩
theorem dp_int {K : PySem.W.Frag} {H : Hp} {v : V} {i : Int} (h : Dp K H v (.int i)) : v = .int i := by
  cases h
  rfl
theorem dpa_ints {K : PySem.W.Frag} {H : Hp} : ∀ {vs : List V} {ns : List Int}, DpAll K H vs (ns.map PyData.int) → vs = ns.map V.int
  | _, [], .nil => rfl
  | _, n :: ns, .cons a b => by
    rw [dp_int a, dpa_ints b]
    rfl
theorem dpa_of_ints {K : PySem.W.Frag} {H : Hp} : ∀ ns : List Int, DpAll K H (ns.map V.int) (ns.map PyData.int)
  | [] => .nil
  | n :: ns => .cons (.int n) (dpa_of_ints ns)
/-! ### the pen -/
def penD (c : Addr) (t l : Int) : List (Key × V) := [(.inr "cells", .ref c), (.inr "turn", .int t), (.inr "left", .int l)]
/-- a pen at p: its cells at c; so many draws at most so far -/
def Pen (H : Hp) (p c : Addr) (n : Nat) : Prop := ∃ (t l : Int) (xs : List Int), H p = some (.dK (penD c t l)) ∧ H c = some (.lst (xs.map V.int)) ∧ 0 ≤ t ∧ t ≤ n ∧ 0 ≤ l
theorem Pen.mono {H : Hp} {p c : Addr} {n m : Nat} (h : Pen H p c n) (hm : n ≤ m) : Pen H p c m := by
  obtain ⟨t, l, xs, h1, h2, h3, h4, h5⟩ := h
  exact ⟨t, l, xs, h1, h2, h3, by omega, h5⟩
/-- so many draws at most lie between -/
def Go (p c : Addr) (k : Nat) (H H' : Hp) : Prop := Ex H H' ∧ ∀ n, Pen H p c n → Pen H' p c (n + k)
section
variable {p c l q : Addr} {j k n : Nat} {H H0 H1 H2 H' : Hp} {o : HO}
theorem Go.refl : Go p c 0 H H := ⟨Ex.refl, fun _ h => h⟩
theorem Go.trans (a : Go p c j H H1) (b : Go p c k H1 H2) : Go p c (j + k) H H2 := ⟨a.1.trans b.1, fun n h => by
  rw [← Nat.add_assoc]
  exact b.2 _ (a.2 _ h)⟩
theorem Go.mono (a : Go p c j H H1) (h : j ≤ k) : Go p c k H H1 := ⟨a.1, fun n x => (a.2 n x).mono (Nat.add_le_add_left h n)⟩
theorem Go.of (e : Same H H') : Go p c 0 H H' := ⟨Ex.of e, fun n ⟨t, l, xs, h1, h2, h3⟩ => ⟨t, l, xs, e _ _ h1, e _ _ h2, h3⟩⟩
theorem same_new (h : H q = none) : Same H (upd H q o) := fun b x e => by
  rw [upd_ne (ne_of_none e h)]
  exact e
theorem Go.new (h : H q = none) : Go p c 0 H (upd H q o) := Go.of (same_new h)
theorem Pen.ne (h : Pen H p c n) (hl : H l = none) : l ≠ p ∧ l ≠ c := by
  obtain ⟨_, _, _, h1, h2, _⟩ := h
  exact ⟨fun e => (by rw [e, h1] at hl; cases hl), fun e => (by rw [e, h2] at hl; cases hl)⟩
/-! ### a list that is being made at l -/
def del (H : Hp) (l : Addr) : Hp := fun b => if b = l then none else H b
theorem del_same : del H l l = none := by
  unfold del
  rw [if_pos rfl]
theorem del_ne {b : Addr} (h : b ≠ l) : del H l b = H b := by
  unfold del
  rw [if_neg h]
theorem del_upd : del (upd H l o) l = del H l := by
  funext b
  unfold del upd
  split <;> rfl
theorem del_none (h : H l = none) : del H l = H := by
  funext b
  unfold del
  split
  · rename_i e
    rw [e, h]
  · rfl
theorem del_le : Same (del H l) H := fun b o e => by
  by_cases hb : b = l
  · rw [hb, del_same] at e
    cases e
  · rw [del_ne hb] at e
    exact e
theorem del_ex : Ex (del H l) H := Ex.of del_le
theorem Pen.undel (h : Pen (del H l) p c n) : Pen H p c n := by
  obtain ⟨t, x, xs, h1, h2, h3⟩ := h
  exact ⟨t, x, xs, del_le _ _ h1, del_le _ _ h2, h3⟩
theorem Pen.del (h : Pen H p c n) (h1 : l ≠ p) (h2 : l ≠ c) : Pen (del H l) p c n := by
  obtain ⟨t, x, xs, a, b, h3⟩ := h
  exact ⟨t, x, xs, by rw [del_ne h1.symm]; exact a, by rw [del_ne h2.symm]; exact b, h3⟩
theorem Ex.del (e : Ex H H') : Ex (del H l) (del H' l) := fun b o h n => by
  by_cases hb : b = l
  · rw [hb, del_same] at h
    cases h
  · rw [del_ne hb] at h ⊢
    exact e _ _ h n
theorem Go.del (g : Go p c k H H') (h1 : l ≠ p) (h2 : l ≠ c) : Go p c k (del H l) (del H' l) := ⟨g.1.del, fun n h => (g.2 n h.undel).del h1 h2⟩
theorem same_del (e : Same H H') : Same (del H l) (del H' l) := fun b o h => by
  by_cases hb : b = l
  · rw [hb, del_same] at h
    cases h
  · rw [del_ne hb] at h ⊢
    exact e _ _ h
/-- from H0 on so many draws; at l, new since H0, xs -/
structure Loc (p c : Addr) (k : Nat) (H0 H : Hp) (l : Addr) (xs : List V) : Prop where
  fr : H0 l = none
  np : l ≠ p
  nc : l ≠ c
  at_ : H l = some (.lst xs)
  go : Go p c k H0 (del H l)
section
variable {xs ys : List V}
theorem Loc.start (g : Go p c k H0 H) (f : H l = none) (f0 : H0 l = none) (np : l ≠ p) (nc : l ≠ c) : Loc p c k H0 (upd H l (.lst xs)) l xs := ⟨f0, np, nc, upd_same, by
  rw [del_upd, del_none f]
  exact g⟩
theorem Loc.call (L : Loc p c j H0 H l xs) (g : Go p c k H H') : Loc p c (j + k) H0 H' l xs := ⟨L.fr, L.np, L.nc, g.1 _ _ L.at_ trivial, L.go.trans (g.del L.np L.nc)⟩
theorem Loc.pure (L : Loc p c j H0 H l xs) (g : Same H H') : Loc p c j H0 H' l xs := L.call (k := 0) (Go.of g)
theorem Loc.set (L : Loc p c j H0 H l xs) : Loc p c j H0 (upd H l (.lst ys)) l ys := ⟨L.fr, L.np, L.nc, upd_same, by
  rw [del_upd]
  exact L.go⟩
theorem Loc.mono (L : Loc p c j H0 H l xs) (h : j ≤ k) : Loc p c k H0 H l xs := ⟨L.fr, L.np, L.nc, L.at_, L.go.mono h⟩
theorem Loc.done (L : Loc p c j H0 H l xs) : Go p c j H0 H := ⟨L.go.1.trans del_ex, fun n h => (L.go.2 n h).undel⟩
theorem Loc.pen (L : Loc p c j H0 H l xs) (h : Pen H0 p c n) : Pen H p c (n + j) := L.done.2 n h
theorem Loc.sq {K : PySem.W.Frag} (L : Loc p c j H0 H l xs) : SqL K H l xs := SqL.of L.at_
end
/-- the same without a pen -/
structure LocS (H0 H : Hp) (l : Addr) (xs : List V) : Prop where
  fr : H0 l = none
  at_ : H l = some (.lst xs)
  go : Same H0 (del H l)
section
variable {xs ys : List V}
theorem LocS.start (g : Same H0 H) (f : H l = none) : LocS H0 (upd H l (.lst xs)) l xs := ⟨g.free f, upd_same, by
  rw [del_upd, del_none f]
  exact g⟩
theorem LocS.call (L : LocS H0 H l xs) (g : Same H H') : LocS H0 H' l xs := ⟨L.fr, g _ _ L.at_, L.go.trans (same_del g)⟩
theorem LocS.set (L : LocS H0 H l xs) : LocS H0 (upd H l (.lst ys)) l ys := ⟨L.fr, upd_same, by
  rw [del_upd]
  exact L.go⟩
theorem LocS.done (L : LocS H0 H l xs) : Same H0 H := L.go.trans del_le
end
end
end Gb
namespace Gb
open PySem PySem.Spec PyProof.Rows L2
/-- a def of the module under its name; how its arguments bind -/
structure Dn (K : PySem.W.Frag) (mg : Str → Option Value) (x : Str) (st : Stmt) (ps : List Str) : Prop where
  ex : ∃ (f : Addr) (fd : FuncData), Fun K x x st f fd ∧ mg x = some (.ref f) ∧ Binds K fd ps []
/-- a def that may be called by its name -/
structure Cl (P : Program) (w : World) (K : PySem.W.Frag) (mg : Str → Option Value) (base : Heap) (k : Nat) (x : Str) (sp : Sp) : Prop where
  ex : ∃ (f : Addr) (fd : FuncData) (ps : List Str), FnOk P w K mg base CX0 k f fd ps sp ∧ mg x = some (.ref f) ∧ PySem.W.keepIn K (.ref f) = true ∧ Binds K fd ps []
section
variable {P : Program} {w : World} {K : PySem.W.Frag} {mg : Str → Option Value} {base : Heap}
theorem cl_of {x : Str} {st : Stmt} {N ps : List Str} {k : Nat} {sp : Sp} (D : Dn K mg x st ps) (S : FnScope N ps (defScope st)) (len : ∀ vs H Q E, sp vs H Q E → vs.length = ps.length)
    (hbody : ∀ (cdv : Value) (f : Addr) (A : Around) (outer : List Env) (s : Shared) (H : Hp) (vs : List V) (Q : VK) (E : XK), Room k (A.deeper (envOfC x (defScope st) s.heap.objs.size f cdv)) → sp vs H Q E →
      ∃ t, PSs (cxOf CX0 P w K mg base N x (defScope st) f cdv A outer s H E).nox (defBody st) t ∧ t { nx := fun _ H' => Q .non H', rt := Q } (start N vs) H) : Cl P w K mg base (k + 1) x sp := by
  obtain ⟨f, fd, F, hm, b⟩ := D.ex
  exact ⟨f, fd, ps, F.ok S len (fun cdv => hbody cdv f), hm, F.kp, b⟩
end
section
variable {X : Cx} {k j : Nat} {x : Str} {sp : Sp} {p pos : Pos} {e fe : Expr} {es : List Expr} {t : TA} {tf : TE}
theorem pe_c (c : Cl X.prog X.w X.K X.mg X.base k x sp) (hr : Room j X.A) (hk : k ≤ j) (hg : Gl X x) (ha : PA X (e :: es) t)
    (hdb : (x == ("__debug__" : Str)) = false := by decide) (he : starEach (e :: es) X.env = (false, eval e X.env) :: starEach es X.env := by rfl) (hpl : (backTo pos (starEach es X.env)).any (·.1) = false := by rfl) :
    PE X (.Call (.Name x p) (e :: es) [] pos) (tCall sp [] E0 t) := by
  obtain ⟨f, fd, ps, F, hm, kp, b⟩ := c.ex
  exact pe_call F (hr.mono hk) hg hm kp b .nil pass0 ha hdb he hpl
/-- a name of the module as a value -/
theorem pe_gv {v : V} (hg : Gl X x) (h : ∃ u, X.mg x = some u ∧ RelV v u) (hd : (x == ("__debug__" : Str)) = false := by decide) : PE X (.Name x pos) (tC v) := by
  obtain ⟨u, hm, r⟩ := h
  exact pe_glob hg hm r hd
/-- a def, called by its value, whatever expression tells it -/
def tCallE (S : Addr → Sp → Prop) (tf : TE) (t : TA) : TE := fun σ H Q => tf σ H fun v H1 => ∃ f sp, v = .ref f ∧ S f sp ∧ t σ H1 fun vs H2 => sp vs H2 Q E0
theorem pe_callE {S : Addr → Sp → Prop} (A : ∀ f sp, S f sp → ∃ fd ps, FnOk X.prog X.w X.K X.mg X.base CX0 k f fd ps sp ∧ PySem.W.keepIn X.K (.ref f) = true ∧ Binds X.K fd ps []) (hr : Room k X.A) (hf : PE X fe tf) (ha : PA X (e :: es) t)
    (ht : eval (.Call fe (e :: es) [] pos) X.env = (do callWith pos (← eval fe X.env) [] (backTo pos (starEach (e :: es) X.env)) (backToKw pos (keywordEach [] X.env))) := by rfl)
    (he : starEach (e :: es) X.env = (false, eval e X.env) :: starEach es X.env := by rfl) (hpl : (backTo pos (starEach es X.env)).any (·.1) = false := by rfl) : PE X (.Call fe (e :: es) [] pos) (tCallE S tf t) := by
  refine ⟨fun pins s σ H Q I h => ?_⟩
  refine Call_ (thn (hf.run pins s σ H _ I h) fun u s1 ⟨y, H1, I1, ry, f, sp, ey, hS, q⟩ => ?_) ht
  subst ey
  obtain rfl : u = Value.ref f := ry
  obtain ⟨fd, ps, F, kp, b⟩ := A f sp hS
  refine PySem.W.callWith_K (h₀ := X.base) I1.ok.mod.kin kp (thn (ha.run pos pins s1 σ H1 _ I1 q) fun us s2 ⟨vs, H2, I2, r, q2⟩ => ⟨I2.kIn, ?_⟩) he hpl
  exact run_fn F hr b .nil pass0 I2 r (by rw [List.append_nil]; exact q2)
end
/-! ### data with a type -/
section
open PySem.W (Datum Tup T4)
/-- numbers, and lists and tuples of such -/
class Nd (α : Type) [DecidableEq α] [Datum α] : Prop where
  lay : ∀ a : α, (Datum.toD a).canLay0 = true
theorem lay_map {α : Type} [DecidableEq α] [Datum α] [Nd α] : ∀ xs : List α, PyData.canLayAll0 (xs.map Datum.toD) = true
  | [] => by simp only [List.map_nil, PyData.canLayAll0]
  | x :: xs => by
    simp only [List.map_cons, PyData.canLayAll0, Nd.lay x, lay_map xs, Bool.and_self]
instance : Nd Int := ⟨fun _ => by simp only [Datum.toD, PyData.canLay0]⟩
instance : Nd Bool := ⟨fun _ => by simp only [Datum.toD, PyData.canLay0]⟩
instance {α : Type} [DecidableEq α] [Datum α] [Nd α] : Nd (List α) := ⟨fun xs => by
  show PyData.canLay0 (.list (xs.map Datum.toD)) = true
  simp only [PyData.canLay0, lay_map xs]⟩
instance {α : Type} [DecidableEq α] [Datum α] [Nd α] : Nd (Tup α) := ⟨fun t => by
  show PyData.canLay0 (.tuple (t.items.map Datum.toD)) = true
  simp only [PyData.canLay0, lay_map t.items]⟩
instance {α β : Type} [DecidableEq α] [Datum α] [Nd α] [DecidableEq β] [Datum β] [Nd β] : Nd (α × β) := ⟨fun p => by
  show PyData.canLay0 (.tuple [Datum.toD p.1, Datum.toD p.2]) = true
  simp only [PyData.canLay0, PyData.canLayAll0, Nd.lay, Bool.and_self]⟩
instance {α β γ δ : Type} [DecidableEq α] [Datum α] [Nd α] [DecidableEq β] [Datum β] [Nd β] [DecidableEq γ] [Datum γ] [Nd γ] [DecidableEq δ] [Datum δ] [Nd δ] : Nd (T4 α β γ δ) := ⟨fun p => by
  show PyData.canLay0 (.tuple [Datum.toD p.a, Datum.toD p.b, Datum.toD p.c, Datum.toD p.d]) = true
  simp only [PyData.canLay0, PyData.canLayAll0, Nd.lay, Bool.and_self]⟩
variable {α : Type} [DecidableEq α] [Datum α] {K : PySem.W.Frag} {x y v : V} {H H' : Hp} {Q : VK} {a b : α}
/-- v is a -/
abbrev Is (K : PySem.W.Frag) (H : Hp) (v : V) (a : α) : Prop := Dp K H v (Datum.toD a)
abbrev All (K : PySem.W.Frag) (H : Hp) (vs : List V) (xs : List α) : Prop := DpAll K H vs (xs.map Datum.toD)
theorem dat_shaped [Nd α] (hd : Datum.depth α ≤ 64) (a : α) : SeqAt.shaped (Datum.toD a) = true := by
  unfold SeqAt.shaped
  rw [Nd.lay a, decide_eq_true (Nat.le_trans (Datum.depth_le a) hd)]
  rfl
theorem eq_dat [Nd α] (ha : Is K H x a) (hb : Is K H y b) (q : Q (.bl (decide (a = b))) H) (hd : Datum.depth α ≤ 64 := by decide) : rEqD K x y H Q :=
  ⟨_, _, ha, hb, dat_shaped hd a, dat_shaped hd b, by rw [Datum.eqv]; exact q⟩
theorem ne_dat [Nd α] (ha : Is K H x a) (hb : Is K H y b) (q : Q (.bl (!decide (a = b))) H) (hd : Datum.depth α ≤ 64 := by decide) : rNeD K x y H Q :=
  ⟨_, _, ha, hb, dat_shaped hd a, dat_shaped hd b, by rw [Datum.eqv]; exact q⟩
theorem is_list {xs : List α} (h : Is K H v xs) : ∃ l vs, v = .ref l ∧ SqL K H l vs ∧ All K H vs xs := dp_list h
theorem is_tup {t : Tup α} (h : Is K H v t) : ∃ l vs, v = .ref l ∧ SqT K H l vs ∧ All K H vs t.items := dp_tuple h
theorem all_len {vs : List V} {xs : List α} (h : All K H vs xs) : vs.length = xs.length := by
  rw [dpa_len h, List.length_map]
theorem all_get {vs : List V} {xs : List α} {i : Nat} (h : All K H vs xs) (hv : vs[i]? = some v) : ∃ a, xs[i]? = some a ∧ Is K H v a := by
  obtain ⟨d, h1, h2⟩ := dpa_get h hv
  rw [List.getElem?_map] at h1
  cases e : xs[i]? with
  | none =>
    rw [e] at h1
    cases h1
  | some z =>
    rw [e] at h1
    exact ⟨z, rfl, by show Dp K H v (Datum.toD z); rw [Option.some.inj h1]; exact h2⟩
theorem all_get' {vs : List V} {xs : List α} {i : Nat} (h : All K H vs xs) (hx : xs[i]? = some a) : ∃ v, vs[i]? = some v ∧ Is K H v a :=
  dpa_get' h (by rw [List.getElem?_map, hx]; rfl)
theorem all_app {vs ws : List V} {xs ys : List α} (h : All K H vs xs) (h' : All K H ws ys) : All K H (vs ++ ws) (xs ++ ys) := by
  show DpAll K H (vs ++ ws) ((xs ++ ys).map Datum.toD)
  rw [List.map_append]
  exact dpa_app h h'
theorem all_snoc {vs : List V} {xs : List α} (h : All K H vs xs) (h' : Is K H v a) : All K H (vs ++ [v]) (xs ++ [a]) := all_app h (dpa_one h')
theorem all_take {vs : List V} {xs : List α} (n : Nat) (h : All K H vs xs) : All K H (vs.take n) (xs.take n) := by
  show DpAll K H (vs.take n) ((xs.take n).map Datum.toD)
  rw [List.map_take]
  exact dpa_take n h
theorem all_drop {vs : List V} {xs : List α} (n : Nat) (h : All K H vs xs) : All K H (vs.drop n) (xs.drop n) := by
  show DpAll K H (vs.drop n) ((xs.drop n).map Datum.toD)
  rw [List.map_drop]
  exact dpa_drop n h
theorem erase_map {β γ : Type} {g : β → γ} : ∀ (xs : List β) (n : Nat), (xs.eraseIdx n).map g = (xs.map g).eraseIdx n
  | [], _ => rfl
  | _ :: _, 0 => rfl
  | x :: xs, n + 1 => by
    show g x :: (xs.eraseIdx n).map g = g x :: (xs.map g).eraseIdx n
    rw [erase_map xs n]
theorem all_erase {vs : List V} {xs : List α} (n : Nat) (h : All K H vs xs) : All K H (vs.eraseIdx n) (xs.eraseIdx n) := by
  have e : (xs.eraseIdx n).map Datum.toD = (xs.map Datum.toD).eraseIdx n := erase_map xs n
  show DpAll K H (vs.eraseIdx n) ((xs.eraseIdx n).map Datum.toD)
  rw [e]
  exact dpa_erase n h
end
end Gb
namespace Gb
open PySem PySem.Spec PyProof.Rows L2
/-! ### the same rules with the written part as a letter: for what stands in a comprehension's block -/
section
variable {X : Cx} {Kx : PySem.W.Frag} {pos apos cpos : Pos} {e o tgx : Expr} {es : List Expr} {ta to tl : TE} {t : TA}
def rLenK (K : PySem.W.Frag) : List V → Hp → VK → Prop := fun xs H Q => ∃ q ys, xs = [V.ref q] ∧ (SqL K H q ys ∨ SqT K H q ys) ∧ Q (.int ys.length) H
theorem call_lenK (hK : X.K = Kx := by rfl) : CallR X (.builtin "len") (rLenK Kx) := by
  subst hK
  exact call_len_seq
def rListK (K : PySem.W.Frag) : List V → Hp → VK → Prop := fun xs H Q => ∃ q ys, xs = [V.ref q] ∧ (SqL K H q ys ∨ SqT K H q ys) ∧ ∀ l, H l = none → Q (.ref l) (upd H l (.lst ys))
theorem call_listK (hK : X.K = Kx := by rfl) : CallR X (.type "list") (rListK Kx) := by
  subst hK
  exact call_list_of
def rTupK (K : PySem.W.Frag) : List V → Hp → VK → Prop := fun xs H Q => ∃ q ys, xs = [V.ref q] ∧ ((SqL K H q ys ∧ ∀ l, H l = none → Q (.ref l) (upd H l (.tup ys))) ∨ (SqT K H q ys ∧ Q (.ref q) H))
theorem call_tupK (hK : X.K = Kx := by rfl) : CallR X (.type "tuple") (rTupK Kx) := by
  subst hK
  exact call_tuple_of
theorem ix_listK (hK : X.K = Kx := by rfl) : IxR X (rIxL Kx) := by
  subst hK
  exact ix_list
theorem ix_tupK (hK : X.K = Kx := by rfl) : IxR X (rIxT Kx) := by
  subst hK
  exact ix_tup
theorem sl_listK (hK : X.K = Kx := by rfl) : SlR X (rSlL Kx) := by
  subst hK
  exact sl_list
theorem op_eqK (hu : X.A.units + 64 < cLine) (hK : X.K = Kx := by rfl) : OpR X (compareOp .Eq) (rEqD Kx) := by
  subst hK
  exact op_eqD hu
theorem op_neK (hu : X.A.units + 64 < cLine) (hK : X.K = Kx := by rfl) : OpR X (compareOp .NotEq) (rNeD Kx) := by
  subst hK
  exact op_neD hu
theorem op_inK (hK : X.K = Kx := by rfl) : OpR X (compareOp .In) (rIn Kx false) := by
  subst hK
  exact op_in_seq
theorem cr_sumK (hc : X.calm = true) (hK : X.K = Kx := by rfl) : CallR X (.builtin "sum") (rSum Kx) := by
  subst hK
  exact cr_sum hc
theorem cr_maxK (hc : X.calm = true) (hK : X.K = Kx := by rfl) : CallR X (.builtin "max") (rMax Kx) := by
  subst hK
  exact cr_max hc
theorem cr_minK (hc : X.calm = true) (hK : X.K = Kx := by rfl) : CallR X (.builtin "min") (rMin Kx) := by
  subst hK
  exact cr_min hc
theorem cr_allK (hc : X.calm = true) (hK : X.K = Kx := by rfl) : CallR X (.builtin "all") (rAll Kx) := by
  subst hK
  exact cr_all hc
theorem pi_listK (hl : PE X o tl) (hK : X.K = Kx := by rfl) : PI X tgx o (iList Kx tl) := by
  subst hK
  exact pi_list hl
theorem pi_tupK (hl : PE X o tl) (hK : X.K = Kx := by rfl) : PI X tgx o (iTup Kx tl) := by
  subst hK
  exact pi_tup hl
theorem pe_fldK {f : Str} (he : PE X e ta) (hb : attributeBase e f X.env (eval e X.env) = eval e X.env) (hK : X.K = Kx := by rfl) : PE X (.Attribute e f pos) (tFld Kx ta f) := by
  subst hK
  exact pe_fld he hb
theorem pg_tupK {ts : List Expr} {kk : Nat} {tg : TGs} {n : Nat} (hc : X.calm = true) (h : PGs X ts tg) (hK : X.K = Kx := by rfl) (h1 : (assignEach ts X.env).length = n := by rfl) (h2 : (assignEach ts X.env).findIdx? (·.1) = none := by rfl) :
    PG X (.Tuple ts kk pos) (gTup Kx n tg) := by
  subst hK
  exact pg_tup hc h h1 h2
theorem pe_bmK {T : String} {name : Str} {id : String} {r} (pa : PlainAttrs T) (slot : Slot T name id) (hty : typeOf (.builtin id) = pure (.type "method_descriptor")) (hm : MtR X id r) (ho : PE X o to) (ha : PA X (e :: es) t)
    (hK : X.K = Kx := by rfl) (h1 : attributeBase o name X.env (eval o X.env) = eval o X.env := by rfl)
    (h2 : ((backTo cpos (starEach (e :: es) X.env)).all (fun x => !x.1) && (backToKw cpos (keywordEach [] X.env)).all (fun x => x.1.isSome) && decide ((e :: es).length + ([] : List Keyword).length + (if ([] : List Keyword).isEmpty then 0 else 1) < 30)) = true := by rfl)
    (h3 : (apos.endLine == cpos.line) = true := by rfl) (h4 : starEach (e :: es) X.env = (false, eval e X.env) :: starEach es X.env := by rfl) (h5 : (backTo cpos (starEach es X.env)).any (·.1) = false := by rfl) :
    PE X (.Call (.Attribute o name apos) (e :: es) [] cpos) (tBM Kx T r to t) := by
  subst hK
  exact pe_bm pa slot hty hm ho ha h1 h2 h3 h4 h5
end
end Gb
set_option maxRecDepth 100000
set_option maxHeartbeats 4000000
/-! Loops and comprehensions that make a list. -/
namespace Gb
open PySem PySem.Spec PyProof.Rows L2
open PySem.W (Datum Tup T4)
/-- what was new since H -/
def nw (H H' : Hp) : Hp := fun b => if (H b).isSome = true then none else H' b
theorem nw_none {H H' : Hp} {b : Addr} (h : H b = none) : nw H H' b = H' b := by
  unfold nw
  rw [h]
  exact if_neg (by decide)
theorem nw_some {H H' : Hp} {b : Addr} {o : HO} (h : H b = some o) : nw H H' b = none := by
  unfold nw
  rw [h]
  exact if_pos rfl
theorem nw_le {H H' : Hp} : Same (nw H H') H' := fun b o e => by
  cases q : H b with
  | some u =>
    rw [nw_some q] at e
    cases e
  | none =>
    rw [nw_none q] at e
    exact e
theorem nw_del {H H' : Hp} {D : Addr} {o : HO} (h : H D = some o) : Same (nw H H') (del H' D) := fun b u e => by
  have hb : b ≠ D := fun z => by
    rw [z, nw_some h] at e
    cases e
  rw [del_ne hb]
  exact nw_le _ _ e
theorem nw_mono {H H' H2 : Hp} (e : Ex H' H2) : Ex (nw H H') (nw H H2) := fun b o h n => by
  cases q : H b with
  | some u =>
    rw [nw_some q] at h
    cases h
  | none =>
    rw [nw_none q] at h ⊢
    exact e _ _ h n
theorem nw_back {H H1 H' : Hp} (e : Same H H1) : Same (nw H1 H') (nw H H') := fun b o h => by
  cases q : H1 b with
  | some u =>
    rw [nw_some q] at h
    cases h
  | none =>
    rw [nw_none q] at h
    rw [nw_none (e.free q)]
    exact h
/-- steps that keep what stands, so many draws each -/
structure Rel (R : Nat → Hp → Hp → Prop) (bad : Addr → Prop) : Prop where
  refl : ∀ {H}, R 0 H H
  trans : ∀ {j k H H1 H2}, R j H H1 → R k H1 H2 → R (j + k) H H2
  new : ∀ {H q o}, H q = none → R 0 H (upd H q o)
  del : ∀ {k H H' l}, R k H H' → ¬ bad l → R k (del H l) (del H' l)
  undel : ∀ {k H H' l}, R k H (Gb.del H' l) → R k H H'
  ex : ∀ {k H H'}, R k H H' → Ex H H'
theorem rel_go {p c : Addr} : Rel (Go p c) (fun l => l = p ∨ l = c) :=
  ⟨Go.refl, Go.trans, Go.new, fun g nb => g.del (fun e => nb (.inl e)) (fun e => nb (.inr e)), fun g => ⟨g.1.trans del_ex, fun n h => (g.2 n h).undel⟩, fun g => g.1⟩
theorem rel_same : Rel (fun _ => Same) (fun _ => False) :=
  ⟨Same.refl _, Same.trans, same_new, fun g _ => same_del g, fun g => g.trans del_le, Ex.of⟩
section
variable {R : Nat → Hp → Hp → Prop} {bad : Addr → Prop} {K : PySem.W.Frag} {te : TE} {σ : L2.St} {vs : List Nat} {j n k : Nat} {H : Hp} {D : Addr}
theorem yes_of {A B : Hp → Prop} (h : A H) : tYes σ H fun b H3 => if b = true then A H3 else B H3 := by
  show (if true = true then A H else B H)
  rw [if_pos rfl]
  exact h
/-- the new list at D holds items of which Z says what they are -/
structure Made (R : Nat → Hp → Hp → Prop) (Z : Nat → V → Hp → Prop) (H : Hp) (D : Addr) (m k : Nat) (ys : List V) (H' : Hp) : Prop where
  at_ : H' D = some (.lst ys)
  len : ys.length = m
  it : ∀ i y, ys[i]? = some y → Z i y (del H' D)
  go : R k H (del H' D)
theorem made_start {Z : Nat → V → Hp → Prop} (L : Rel R bad) (hD : H D = none) : Made R Z H D 0 0 [] (upd H D (.lst [])) := by
  refine ⟨upd_same, rfl, fun i y e => by simp at e, ?_⟩
  rw [del_upd, del_none hD]
  exact L.refl
theorem made_snoc {Z : Nat → V → Hp → Prop} {m k k' : Nat} {ys : List V} {H' H4 : Hp} {y : V} (zm : ∀ i y H1 H2, Ex H1 H2 → Z i y H1 → Z i y H2) (L : Rel R bad) (nb : ¬ bad D) (M : Made R Z H D m k ys H') (g : R k' H' H4) (hz : Z m y (del H4 D)) :
    H4 D = some (.lst ys) ∧ Made R Z H D (m + 1) (k + k') (ys ++ [y]) (upd H4 D (.lst (ys ++ [y]))) := by
  refine ⟨L.ex g _ _ M.at_ trivial, upd_same, by rw [List.length_append, M.len]; rfl, fun i z e => ?_, ?_⟩
  · rw [del_upd]
    by_cases hi : i < ys.length
    · rw [List.getElem?_append_left hi] at e
      exact zm _ _ _ _ (L.ex (L.del g nb)) (M.it i z e)
    · rw [List.getElem?_append_right (by omega)] at e
      have e0 : i - ys.length = 0 := by
        cases h : i - ys.length with
        | zero => rfl
        | succ q =>
          rw [h] at e
          cases e
      rw [e0] at e
      have ez : y = z := Option.some.inj e
      have ei : i = m := by
        have := M.len
        omega
      rw [← ez, ei]
      exact hz
  · rw [del_upd]
    exact L.trans M.go (L.del g nb)
theorem made_go {Z : Nat → V → Hp → Prop} {m k : Nat} {ys : List V} {H' : Hp} (L : Rel R bad) (M : Made R Z H D m k ys H') : R k H H' := L.undel M.go
theorem made_it {Z : Nat → V → Hp → Prop} {m k : Nat} {ys : List V} {H' : Hp} (zm : ∀ i y H1 H2, Ex H1 H2 → Z i y H1 → Z i y H2) (M : Made R Z H D m k ys H') {i : Nat} {y : V} (e : ys[i]? = some y) : Z i y H' := zm _ _ _ _ del_ex (M.it i y e)
/-- [e for x in range(n)]: each e by k draws -/
theorem lc_rangeG (Z : Nat → V → Hp → Prop) (zm : ∀ i y H1 H2, Ex H1 H2 → Z i y H1 → Z i y H2) (L : Rel R bad) (hD : H D = none) (nb : ¬ bad D) (hn : n ≤ 100000) {lo : Int} {Qd : Hp → Prop}
    (hw : ∀ x, wipe ((wipe σ vs).set j (some x)) vs = wipe σ vs)
    (hs : ∀ i H', i < n → R (k * i) H H' → (∃ zs, H' D = some (.lst zs)) → ∀ Q : VK, (∀ y H4, R k H' H4 → Z i y (del H4 D) → Q y H4) → te ((wipe σ vs).set j (some (.int (lo + (i : Int))))) H' Q)
    (hd : ∀ ys H', H' D = some (.lst ys) → ys.length = n → (∀ i y, ys[i]? = some y → Z i y H') → R (k * n) H H' → (∀ i y, ys[i]? = some y → Z i y (del H' D)) → Qd H') :
    ∃ W : Nat → Nat → Hp → Prop, (∃ m, W 0 m (upd H D (.lst []))) ∧ ∀ i m H, W i m H →
      ((Itr lo n).stop i H ∧ Qd H) ∨ ((Itr lo n).go i H ∧ ∃ Nx : Hp → Prop, (∀ H', Nx H' → ∃ m', m' < m ∧ W (i + 1) m' H') ∧ ∀ x H', (Itr lo n).yld i H x H' → gName j x (wipe σ vs) H' fun σ2 H2 => wipe σ2 vs = wipe σ vs ∧ tYes σ2 H2 fun b H3 =>
        if b = true then te σ2 H3 fun y H4 => ∃ acc, H4 D = some (.lst acc) ∧ acc.length < sizeLine ∧ Nx (upd H4 D (.lst (acc ++ [y]))) else Nx H3) := by
  refine lc_range (lo := lo) (n := n) (fun i H' => ∃ ys, Made R Z H D i (k * i) ys H') ⟨[], made_start L hD⟩ ?_ ?_
  · rintro i H' hi ⟨ys, M⟩
    refine ⟨hw _, yes_of ?_⟩
    refine hs i H' hi (made_go L M) ⟨_, M.at_⟩ _ fun y H4 g hz => ?_
    obtain ⟨h1, h2⟩ := made_snoc zm L nb M g hz
    exact ⟨ys, h1, Nat.lt_of_le_of_lt (by have := M.len; omega : ys.length ≤ 100000) (by decide), ys ++ [y], by rw [Nat.mul_succ]; exact h2⟩
  · rintro H' ⟨ys, M⟩
    exact hd ys H' M.at_ M.len (fun i y e => made_it zm M e) (made_go L M) M.it
/-- [e for x in xs], whatever the target: each e by k draws -/
theorem lc_listG (Z : Nat → V → Hp → Prop) (zm : ∀ i y H1 H2, Ex H1 H2 → Z i y H1 → Z i y H2) (L : Rel R bad) (hD : H D = none) (nb : ¬ bad D) {a : Addr} {xs : List V} {g : TG} {Qd : Hp → Prop} (hx : SqL K H a xs) (hn : xs.length ≤ 100000)
    (hs : ∀ i x H', xs[i]? = some x → R (k * i) H H' → (∃ zs, H' D = some (.lst zs)) → g x (wipe σ vs) H' fun σ2 H2 => wipe σ2 vs = wipe σ vs ∧ H2 = H' ∧ ∀ Q : VK, (∀ y H4, R k H' H4 → Z i y (del H4 D) → Q y H4) → te σ2 H2 Q)
    (gm : ∀ x σ H (A B : L2.St → Hp → Prop), (∀ σ2 H2, A σ2 H2 → B σ2 H2) → g x σ H A → g x σ H B)
    (hd : ∀ ys H', H' D = some (.lst ys) → ys.length = xs.length → (∀ i y, ys[i]? = some y → Z i y H') → R (k * xs.length) H H' → (∀ i y, ys[i]? = some y → Z i y (del H' D)) → Qd H') :
    ∃ W : Nat → Nat → Hp → Prop, (∃ m, W 0 m (upd H D (.lst []))) ∧ ∀ i m H, W i m H →
      ((Itl K a).stop i H ∧ Qd H) ∨ ((Itl K a).go i H ∧ ∃ Nx : Hp → Prop, (∀ H', Nx H' → ∃ m', m' < m ∧ W (i + 1) m' H') ∧ ∀ x H', (Itl K a).yld i H x H' → g x (wipe σ vs) H' fun σ2 H2 => wipe σ2 vs = wipe σ vs ∧ tYes σ2 H2 fun b H3 =>
        if b = true then te σ2 H3 fun y H4 => ∃ acc, H4 D = some (.lst acc) ∧ acc.length < sizeLine ∧ Nx (upd H4 D (.lst (acc ++ [y]))) else Nx H3) := by
  refine lc_list (K := K) (a := a) (xs := xs) (fun i H' => i ≤ xs.length ∧ ∃ ys, Made R Z H D i (k * i) ys H') ⟨Nat.zero_le _, [], made_start L hD⟩ (fun i H' _ ⟨_, ys, M⟩ => (L.ex (made_go L M)).l hx) ?_ ?_
  · rintro i x H' hi ⟨hil, ys, M⟩
    have hlt := (List.getElem?_eq_some_iff.mp hi).1
    refine gm _ _ _ _ _ (fun σ2 H2 h => ?_) (hs i x H' hi (made_go L M) ⟨_, M.at_⟩)
    obtain ⟨h1, h2, h3⟩ := h
    refine ⟨h1, yes_of ?_⟩
    refine h3 _ fun y H4 g hz => ?_
    obtain ⟨q1, q2⟩ := made_snoc zm L nb M g hz
    exact ⟨ys, q1, Nat.lt_of_le_of_lt (by have := M.len; omega : ys.length ≤ 100000) (by decide), by omega, ys ++ [y], by rw [Nat.mul_succ]; exact q2⟩
  · rintro H' ⟨_, ys, M⟩
    exact hd ys H' M.at_ M.len (fun i y e => made_it zm M e) (made_go L M) M.it
end
section
variable {α : Type} [DecidableEq α] [Datum α] {K : PySem.W.Frag}
/-- v is a list that stands by itself, of such items -/
def Ls (K : PySem.W.Frag) (H : Hp) (v : V) (xs : List α) : Prop := ∃ l vs, v = .ref l ∧ H l = some (.lst vs) ∧ All K H vs xs
theorem Ls.is {H : Hp} {v : V} {xs : List α} (h : Ls K H v xs) : Is K H v xs := by
  obtain ⟨l, vs, rfl, h1, h2⟩ := h
  exact .lst (SqL.of h1) h2
theorem Ls.ex {H H' : Hp} {v : V} {xs : List α} (e : Ex H H') (h : Ls K H v xs) : Ls K H' v xs := by
  obtain ⟨l, vs, rfl, h1, h2⟩ := h
  exact ⟨l, vs, rfl, e _ _ h1 trivial, DpAll.ex e h2⟩
theorem all_of {H : Hp} : ∀ {vs : List V} {xs : List α}, vs.length = xs.length → (∀ (i : Nat) (y : V) (a : α), vs[i]? = some y → xs[i]? = some a → Is K H y a) → All K H vs xs
  | [], [], _, _ => .nil
  | [], _ :: _, h, _ => by simp at h
  | _ :: _, [], h, _ => by simp at h
  | v :: vs, x :: xs, h, f => .cons (f 0 v x rfl rfl) (all_of (by simpa using h) fun i y a h1 h2 => f (i + 1) y a h1 h2)
theorem all_perm {H : Hp} {vs ws : List V} (pm : ws.Perm vs) : ∀ {xs : List α}, All K H vs xs → ∃ ys : List α, ys.Perm xs ∧ All K H ws ys := by
  induction pm with
  | nil => exact fun {xs} h => ⟨xs, List.Perm.refl _, h⟩
  | @cons v l1 l2 p ih =>
    intro xs h
    cases xs with
    | nil => cases h
    | cons x xs =>
      cases h with
      | cons h1 h2 =>
        obtain ⟨ys, q1, q2⟩ := ih h2
        exact ⟨x :: ys, q1.cons x, .cons h1 q2⟩
  | @swap v u l =>
    intro xs h
    match xs, h with
    | x :: y :: xs, .cons h1 (.cons h2 h3) => exact ⟨y :: x :: xs, List.Perm.swap _ _ _, .cons h2 (.cons h1 h3)⟩
  | trans p1 p2 ih1 ih2 =>
    intro xs h
    obtain ⟨ys, q1, q2⟩ := ih2 h
    obtain ⟨zs, q3, q4⟩ := ih1 q2
    exact ⟨zs, q3.trans q1, q4⟩
end
end Gb
set_option maxRecDepth 100000
set_option maxHeartbeats 4000000
namespace Gb
open PySem PySem.Spec PyProof.Rows L2
def top (i : Nat) : Stmt := PySem.Challenge.pw_giveback_k07_whole_parts_run_alone.main.body.getD i (.Pass ⟨0, 0, 0, 0⟩)
abbrev s_is_whole : Stmt := top 1
abbrev s_is_between : Stmt := top 2
abbrev s_copied : Stmt := top 3
abbrev s_members_of : Stmt := top 4
abbrev s_filled_like : Stmt := top 5
abbrev s_NoWeb___init__ : Stmt := inClass (top 7) 0
abbrev s_NoStanding___init__ : Stmt := inClass (top 8) 0
abbrev s_NoPost___init__ : Stmt := inClass (top 9) 0
abbrev s_Web___init__ : Stmt := inClass (top 14) 0
abbrev s_Web___len__ : Stmt := inClass (top 14) 1
abbrev s_Web___eq__ : Stmt := inClass (top 14) 2
abbrev s_Web_ties : Stmt := inClass (top 14) 3
abbrev s_Web_cords : Stmt := inClass (top 14) 4
abbrev s_Web_parts : Stmt := inClass (top 14) 5
abbrev s_Web__part_of : Stmt := inClass (top 14) 6
abbrev s_tied_to : Stmt := top 15
abbrev s_need_size : Stmt := top 16
abbrev s_need_ties : Stmt := top 17
abbrev s_is_tie : Stmt := top 18
abbrev s_need_post : Stmt := top 19
abbrev s_need_standing : Stmt := top 20
abbrev s_run_of : Stmt := top 22
abbrev s_following : Stmt := top 23
abbrev s_gains : Stmt := top 24
abbrev s_less : Stmt := top 25
abbrev s__law_pen : Stmt := top 27
abbrev s__law_draw : Stmt := top 28
abbrev s__law_pick : Stmt := top 29
abbrev s__law_great : Stmt := top 30
abbrev s__law_shuffled : Stmt := top 31
abbrev s__law_row_ties : Stmt := top 32
abbrev s__law_doubled : Stmt := top 33
abbrev s__law_arms_ties : Stmt := top 34
abbrev s__law_good_shape : Stmt := top 35
abbrev s__law_flat_shape : Stmt := top 36
abbrev s__law_renamed : Stmt := top 37
abbrev s__law_moved : Stmt := top 38
abbrev s__law_all_web : Stmt := top 39
abbrev s__law_waves_web : Stmt := top 40
abbrev s__law_steep_shape : Stmt := top 41
abbrev s__law_none_web : Stmt := top 42
abbrev s__law_any_web : Stmt := top 43
abbrev s__law_some_web : Stmt := top 44
abbrev s__law_number : Stmt := top 45
abbrev s__law_standing : Stmt := top 46
abbrev s__law_at : Stmt := top 47
abbrev s__law_alone : Stmt := top 48
abbrev s_law : Stmt := top 49
end Gb
set_option maxRecDepth 100000
set_option maxHeartbeats 4000000
namespace Gb
open PySem PySem.Spec PyProof.Rows L2
/-- the built-in names that the text uses are the built-in ones -/
structure Bt (mg : Str → Option Value) : Prop where
  len : mg "len" = none
  abs : mg "abs" = none
  max : mg "max" = none
  min : mg "min" = none
  list : mg "list" = none
  tuple : mg "tuple" = none
  range : mg "range" = none
  isinstance : mg "isinstance" = none
  all : mg "all" = none
  set : mg "set" = none
  sum : mg "sum" = none
  zip : mg "zip" = none
  int : mg "int" = none
section
variable {P : Program} {w : World} {K : PySem.W.Frag} {mg : Str → Option Value} {base : Heap}
theorem pen_cells {c : Addr} {t l : Int} : valV (penD c t l) (.inr "cells") = some (.ref c) := rfl
theorem pen_turn {c : Addr} {t l : Int} : valV (penD c t l) (.inr "turn") = some (.int t) := rfl
theorem pen_left {c : Addr} {t l : Int} : valV (penD c t l) (.inr "left") = some (.int l) := rfl
theorem put_turn {c : Addr} {t l t' : Int} : putK (penD c t l) (.inr "turn") (.int t') = penD c t' l := rfl
theorem put_left {c : Addr} {t l l' : Int} : putK (penD c t l) (.inr "left") (.int l') = penD c t l' := rfl
theorem penD_inj {c c' : Addr} {t l t' l' : Int} (h : penD c t l = penD c' t' l') : t = t' := by
  injection h with _ h2
  injection h2 with h3 _
  injection h3 with _ h5
  injection h5
theorem pen_go {H : Hp} {p c : Addr} {t l t' l' : Int} {xs : List V} (h : H p = some (.dK (penD c t l))) (hc : H c = some (.lst xs)) (h0 : 0 ≤ t') (h1 : t' ≤ t + 1) (h2 : 0 ≤ l') : Go p c 1 H (upd H p (.dK (penD c t' l'))) := by
  refine ⟨fun b o e n => ?_, fun n q => ?_⟩
  · have nb : b ≠ p := fun z => by
      rw [z, h] at e
      cases e
      exact n
    rw [upd_ne nb]
    exact e
  · obtain ⟨t0, l0, ys, a1, a2, a3, a4, a5⟩ := q
    rw [h] at a1
    injection a1 with a1
    injection a1 with a1
    have e := penD_inj a1
    have nc : c ≠ p := fun z => by
      rw [z, h] at a2
      cases a2
    exact ⟨t', l', ys, upd_same, by rw [upd_ne nc]; exact a2, h0, by omega, h2⟩
def primesV : List V := [.int 2147483647, .int 2147483629, .int 2147483587, .int 2147483579, .int 2147483563]
theorem primes_at {i : Int} (h0 : 0 ≤ i) (h1 : i < 5) : ∃ m : Int, atI primesV i = some (.int m) ∧ 0 < m ∧ m ≤ 2147483647 := by
  have h : i = 0 ∨ i = 1 ∨ i = 2 ∨ i = 3 ∨ i = 4 := by omega
  rcases h with rfl | rfl | rfl | rfl | rfl
  · exact ⟨_, rfl, by decide, by decide⟩
  · exact ⟨_, rfl, by decide, by decide⟩
  · exact ⟨_, rfl, by decide, by decide⟩
  · exact ⟨_, rfl, by decide, by decide⟩
  · exact ⟨_, rfl, by decide, by decide⟩
theorem dput_left {H : Hp} {p c : Addr} {t l l' : Int} (h : H p = some (.dK (penD c t l))) : DPut H p (.str "left") (.int l') (upd H p (.dK (penD c t l'))) := by
  have q := DPut.k (k := .inr "left") (v := .int l') h (by show 3 < sizeLine; decide)
  rw [put_left] at q
  exact q
theorem dput_turn {H : Hp} {p c : Addr} {t l t' : Int} (h : H p = some (.dK (penD c t l))) : DPut H p (.str "turn") (.int t') (upd H p (.dK (penD c t' l))) := by
  have q := DPut.k (k := .inr "turn") (v := .int t') h (by show 3 < sizeLine; decide)
  rw [put_turn] at q
  exact q
def spDraw : Sp := fun vs H Q _ => ∃ (p c : Addr) (n : Nat) (many : Int), vs = [.ref p, .int many] ∧ Pen H p c n ∧ n < 2 ^ 60 ∧ 0 < many ∧ many < 1000000 ∧ ∀ r H', 0 ≤ r → r < many → Go p c 1 H H' → Q (.int r) H'
theorem sc__law_draw : FnScope ["pen", "many", "digit", "turn", "cell", "primes", "prime", "drawn"] ["pen", "many"] (defScope s__law_draw) := ⟨rfl, rfl, rfl, by decide +kernel, rfl, by decide +kernel, by decide +kernel⟩
theorem ok__law_draw (D : Dn K mg "_law_draw" s__law_draw ["pen", "many"]) (B : Bt mg) : Cl P w K mg base 1 "_law_draw" spDraw := by
  refine cl_of D sc__law_draw (fun vs H Q E h => ?_) (fun cdv f A outer s H vs Q E hr h => ?_)
  · obtain ⟨p, c, n, many, rfl, _⟩ := h
    rfl
  · obtain ⟨p, c, n, many, rfl, hp, hn, hm0, hm1, q⟩ := h
    have nd := sc__law_draw.nd
    have hu := hu_of hr
    refine ⟨_, (pss_cons (ps_if (pt_cmpR op_gt (pe_dget hu (pv 0) pe_str (fun _ _ => rfl)) pe_int (nomark _))
    (pss_cons (ps_set (i := 2) nd rfl (.inl rfl) (pe_op op_mod (pe_dget hu (pv 0) pe_str (fun _ _ => rfl)) (pv 1)))
    (pss_cons (ps_dput hu (pv 0) pe_str (pe_op op_fdiv (pe_dget hu (pv 0) pe_str (fun _ _ => rfl)) (pv 1)) rfl)
    (pss_one (ps_ret (pv 2)))))
    pss_nil)
    (pss_cons (ps_set (i := 3) nd rfl (.inl rfl) (pe_dget hu (pv 0) pe_str (fun _ _ => rfl)))
    (pss_cons (ps_dput hu (pv 0) pe_str (pe_op op_add (pv 3) pe_int) rfl)
    (pss_cons (ps_set (i := 4) nd rfl (.inl rfl) (pe_op op_add (pe_op op_mul pe_int (pv 3)) pe_int))
    (Evl.pss_cut (ps_if (pt_cmpR (op_neD hr.units) (pe_dget hu (pv 0) pe_str (fun _ _ => rfl)) (pe_lst pa_nil) (nomark _))
    (pss_one (ps_set (i := 4) nd rfl (.inl rfl) (pe_ix ix_list (pe_dget hu (pv 0) pe_str (fun _ _ => rfl)) (pe_op op_mod (pv 3) (pe_callB call_len_seq (by rfl) B.len PySem.boot_len (pa_cons (pe_dget hu (pv 0) pe_str (fun _ _ => rfl)) pa_nil))) (fun _ _ => rfl))))
    pss_nil)
    (Evl.pss_cut (ps_if (PW.pt (pw_and (pt_cmpR op_lt (pv 3) (pe_callB call_len_seq (by rfl) B.len PySem.boot_len (pa_cons (pe_dget hu (pv 0) pe_str (fun _ _ => rfl)) pa_nil)) (nomark _)) (pw_and1 (pt_cmpR op_ge (pe_callB call_abs (by rfl) B.abs (by decide +kernel) (pa_cons (pv 4) pa_nil)) (pe_op op_pow pe_int pe_int) (nomark _)))))
    (pss_cons (ps_dput hu (pv 0) pe_str (pe_op op_fdiv (pe_op op_sub (pe_callB call_abs (by rfl) B.abs (by decide +kernel) (pa_cons (pv 4) pa_nil)) (pe_op op_pow pe_int pe_int)) (pv 1)) rfl)
    (pss_one (ps_ret (pe_op op_mod (pe_op op_sub (pe_callB call_abs (by rfl) B.abs (by decide +kernel) (pa_cons (pv 4) pa_nil)) (pe_op op_pow pe_int pe_int)) (pv 1)))))
    pss_nil)
    (pss_cons (ps_set (i := 5) nd rfl (.inl rfl) (pe_lst (pa_cons pe_int (pa_cons pe_int (pa_cons pe_int (pa_cons pe_int (pa_cons pe_int pa_nil)))))))
    (pss_cons (ps_set (i := 6) nd rfl (.inl rfl) (pe_ix ix_list (pv 5) (pe_op op_mod (pv 3) pe_int) (fun _ _ => rfl)))
    (pss_cons (ps_set (i := 7) nd rfl (.inl rfl) (pe_op op_mod (pe_op op_add (pe_op op_add (pe_op op_mul (pe_op op_mod (pv 4) (pv 6)) pe_int) (pe_op op_mul (pe_op op_mul pe_int (pv 3)) (pv 3))) pe_int) (pv 6)))
    (pss_cons (ps_set (i := 7) nd rfl (.inl rfl) (pe_op op_mod (pe_op op_mul (pv 7) (pe_op op_add (pv 7) pe_int)) (pe_ix ix_list (pv 5) (pe_op op_mod (pe_op op_add (pv 3) pe_int) pe_int) (fun _ _ => rfl))))
    (pss_one (ps_ret (pe_op op_mod (pe_op op_fdiv (pe_op op_mod (pe_op op_mul (pv 7) (pv 7)) pe_int) pe_int) (pv 1)))))))))))))), ?_⟩
    obtain ⟨t, l, xs, h1, h2, h3, h4, h5⟩ := id hp
    have gl : DGet H p (.str "left") (some (.int l)) := DGet.k (k := .inr "left") h1
    have gt : DGet H p (.str "turn") (some (.int t)) := DGet.k (k := .inr "turn") h1
    have gc : DGet H p (.str "cells") (some (.ref c)) := DGet.k (k := .inr "cells") h1
    -- if pen['left'] > 0
    refine ⟨.ref p, rfl, p, .int l, rfl, gl, l, 0, rfl, rfl, _, rfl, ite2 (fun hl => ?_) (fun hl => ?_)⟩
    · refine ⟨.ref p, rfl, p, .int l, rfl, gl, .int many, rfl, l, many, rfl, rfl, hm0, ?_⟩
      refine ⟨.ref p, rfl, p, .int l, rfl, gl, .int many, rfl, l, many, rfl, rfl, ⟨hm0, by omega⟩, .ref p, rfl, p, _, rfl, dput_left h1, ?_⟩
      refine ⟨.int (l % many), rfl, ?_⟩
      exact q _ _ (Int.emod_nonneg _ (by omega)) (Int.emod_lt_of_pos _ hm0) (pen_go h1 h2 h3 (by omega) (Int.ediv_nonneg h5 (by omega)))
    -- turn = pen['turn']; pen['turn'] = turn + 1
    refine ⟨.ref p, rfl, p, .int t, rfl, gt, ?_⟩
    refine ⟨.int t, rfl, t, 1, rfl, rfl, .ref p, rfl, p, _, rfl, dput_turn h1, ?_⟩
    -- cell = 37 * turn + 13
    refine ⟨.int t, rfl, 37, t, rfl, rfl, .inl ⟨by decide, by decide⟩, 37 * t, 13, rfl, rfl, ?_⟩
    have nc : c ≠ p := fun z => by
      rw [z, h1] at h2
      cases h2
    have k1 : (upd H p (.dK (penD c (t + 1) l))) p = some (.dK (penD c (t + 1) l)) := upd_same
    have k2 : (upd H p (.dK (penD c (t + 1) l))) c = some (.lst (xs.map V.int)) := by
      rw [upd_ne nc]
      exact h2
    have g1 : Go p c 1 H (upd H p (.dK (penD c (t + 1) l))) := pen_go h1 h2 (by omega) (by omega) h5
    generalize hH1 : upd H p (.dK (penD c (t + 1) l)) = H1 at k1 k2 g1 ⊢
    have gc1 : DGet H1 p (.str "cells") (some (.ref c)) := DGet.k (k := .inr "cells") k1
    -- if pen['cells'] != []
    refine ⟨fun σ' H' => ∃ cell : Int, σ' = [some (.ref p), some (.int many), none, some (.int t), some (.int cell), none, none, none] ∧ H' p = some (.dK (penD c (t + 1) l)) ∧ H' c = some (.lst (xs.map V.int)) ∧ Go p c 1 H H', ?_, ?_⟩
    · refine ⟨.ref p, rfl, p, .ref c, rfl, gc1, Nat.zero_le _, fun e he => ?_⟩
      have k3 : (upd H1 e (.lst [])) p = some (.dK (penD c (t + 1) l)) := same_new he _ _ k1
      have k4 : (upd H1 e (.lst [])) c = some (.lst (xs.map V.int)) := same_new he _ _ k2
      have g2 : Go p c 1 H (upd H1 e (.lst [])) := g1.trans (k := 0) (Go.new he)
      have gc2 : DGet (upd H1 e (.lst [])) p (.str "cells") (some (.ref c)) := DGet.k (k := .inr "cells") k3
      refine ne_dat (a := xs) (b := ([] : List Int)) (.lst (SqL.of k4) (dpa_of_ints xs)) (.lst (SqL.of upd_same) .nil) ⟨_, rfl, ?_⟩
      by_cases hx : xs = []
      · rw [decide_eq_true hx]
        exact ⟨37 * t + 13, rfl, k3, k4, g2⟩
      · rw [decide_eq_false hx]
        have hpos : (0 : Int) < (xs.map V.int).length := by
          rw [List.length_map]
          have := List.length_pos_iff.mpr hx
          omega
        refine ⟨.ref p, rfl, p, .ref c, rfl, gc2, .int t, rfl, .ref p, rfl, p, .ref c, rfl, gc2, c, _, rfl, .inl (SqL.of k4), t, _, rfl, rfl, hpos, ?_⟩
        have hlt : (t % ((xs.map V.int).length : Int)).toNat < xs.length := by
          have h6 := Int.emod_nonneg t (b := ((xs.map V.int).length : Int)) (by omega)
          have h7 := Int.emod_lt_of_pos t hpos
          rw [List.length_map] at h6 h7 ⊢
          omega
        refine ⟨c, xs.map V.int, _, .int xs[(t % ((xs.map V.int).length : Int)).toNat], rfl, rfl, SqL.of k4, ?_, ?_⟩
        · refine at_of (j := (t % ((xs.map V.int).length : Int)).toNat) ?_ ?_
          · have h6 := Int.emod_nonneg t (b := ((xs.map V.int).length : Int)) (by omega)
            omega
          · rw [List.getElem?_map, List.getElem?_eq_getElem hlt]
            rfl
        · exact ⟨_, rfl, k3, k4, g2⟩
    · rintro σ' H' ⟨cell, rfl, k3, k4, g2⟩
      have gc2 : DGet H' p (.str "cells") (some (.ref c)) := DGet.k (k := .inr "cells") k3
      -- if turn < len(pen['cells']) and abs(cell) >= 10 ** 18
      refine ⟨fun σ2 H2 => σ2 = [some (.ref p), some (.int many), none, some (.int t), some (.int cell), none, none, none] ∧ H2 = H', ?_, ?_⟩
      · refine ⟨.int t, rfl, .ref p, rfl, p, .ref c, rfl, gc2, c, _, rfl, .inl (SqL.of k4), t, _, rfl, rfl, _, rfl, ite2 (fun _ => ?_) (fun _ => ⟨rfl, rfl⟩)⟩
        refine ⟨.int cell, rfl, cell, rfl, 10, 18, rfl, rfl, ⟨by decide, by decide, by decide⟩, _, _, rfl, rfl, _, rfl, ite2 (fun ha => ?_) (fun _ => ⟨rfl, rfl⟩)⟩
        have hge : (10 : Int) ^ (18 : Int).toNat ≤ (if cell < 0 then -cell else cell) := of_decide_eq_true ha
        refine ⟨.int cell, rfl, cell, rfl, 10, 18, rfl, rfl, ⟨by decide, by decide, by decide⟩, _, _, rfl, rfl, .int many, rfl, _, many, rfl, rfl, ⟨hm0, by omega⟩, .ref p, rfl, p, _, rfl, dput_left k3, ?_⟩
        refine ⟨.int cell, rfl, cell, rfl, 10, 18, rfl, rfl, ⟨by decide, by decide, by decide⟩, _, _, rfl, rfl, .int many, rfl, _, many, rfl, rfl, hm0, ?_⟩
        refine q _ _ (Int.emod_nonneg _ (by omega)) (Int.emod_lt_of_pos _ hm0) ?_
        refine ⟨fun b o eb nb => ?_, fun m hpm => ?_⟩
        · have nbp : b ≠ p := fun z => by
            rw [z, h1] at eb
            cases eb
            exact nb
          rw [upd_ne nbp]
          exact g2.1 _ _ eb nb
        · obtain ⟨t0, l0, ys, a1, a2, a3, a4, a5⟩ := g2.2 m hpm
          rw [k3] at a1
          injection a1 with a1
          injection a1 with a1
          have et := penD_inj a1
          have nc' : c ≠ p := nc
          exact ⟨t + 1, _, ys, upd_same, by rw [upd_ne nc']; exact a2, by omega, by omega, Int.ediv_nonneg (by omega) (by omega)⟩
      · rintro σ2 H2 ⟨rfl, rfl⟩
        -- primes = [..]
        refine ⟨by show 5 ≤ sizeLine; decide, fun e he => ?_⟩
        have g3 : Go p c 1 H (upd H2 e (.lst primesV)) := g2.trans (k := 0) (Go.new he)
        have ke : (upd H2 e (.lst primesV)) e = some (.lst primesV) := upd_same
        obtain ⟨m, hm2, hm3, hm4⟩ := primes_at (i := t % 5) (by omega) (by omega)
        obtain ⟨m', hm2', hm3', hm4'⟩ := primes_at (i := (t + 3) % 5) (by omega) (by omega)
        -- prime = primes[turn % 5]
        refine ⟨.ref e, rfl, .int t, rfl, t, 5, rfl, rfl, (by show (0 : Int) < 5; decide), e, primesV, t % 5, .int m, rfl, rfl, SqL.of ke, hm2, ?_⟩
        -- drawn = (cell % prime * 48271 + 40692 * turn * turn + 31) % prime
        refine ⟨.int cell, rfl, .int m, rfl, cell, m, rfl, rfl, hm3, cell % m, 48271, rfl, rfl, .inr ⟨by decide, by decide⟩, .int t, rfl, 40692, t, rfl, rfl, .inl ⟨by decide, by decide⟩, .int t, rfl, 40692 * t, t, rfl, rfl, .inr ⟨by omega, by omega⟩, _, _, rfl, rfl, _, 31, rfl, rfl, .int m, rfl, _, m, rfl, rfl, hm3, ?_⟩
        have hd0 := Int.emod_nonneg (cell % m * 48271 + 40692 * t * t + 31) (b := m) (by omega)
        have hd1 := Int.emod_lt_of_pos (cell % m * 48271 + 40692 * t * t + 31) hm3
        obtain ⟨d, ed⟩ : ∃ d : Int, d = (cell % m * 48271 + 40692 * t * t + 31) % m := ⟨_, rfl⟩
        rw [← ed] at hd0 hd1
        -- drawn = drawn * (drawn + 69621) % primes[(turn + 3) % 5]
        refine ⟨.int d, (by rw [ed]; rfl), .int d, (by rw [ed]; rfl), d, 69621, rfl, rfl, d, d + 69621, rfl, rfl, .inl ⟨by omega, by omega⟩, .ref e, rfl, .int t, rfl, t, 3, rfl, rfl, t + 3, 5, rfl, rfl, (by show (0 : Int) < 5; decide), e, primesV, (t + 3) % 5, .int m', rfl, rfl, SqL.of ke, hm2', _, m', rfl, rfl, hm3', ?_⟩
        have he0 := Int.emod_nonneg (d * (d + 69621)) (b := m') (by omega)
        have he1 := Int.emod_lt_of_pos (d * (d + 69621)) hm3'
        obtain ⟨d', ed'⟩ : ∃ d' : Int, d' = d * (d + 69621) % m' := ⟨_, rfl⟩
        rw [← ed'] at he0 he1
        -- return drawn * drawn % 2147483549 // 64 % many
        refine ⟨.int d', (by rw [ed']; rfl), .int d', (by rw [ed']; rfl), d', d', rfl, rfl, .inl ⟨by omega, by omega⟩, d' * d', 2147483549, rfl, rfl, (by show (0 : Int) < 2147483549; decide), _, 64, rfl, rfl, ⟨by decide, by decide⟩, .int many, rfl, _, many, rfl, rfl, hm0, ?_⟩
        exact q _ _ (Int.emod_nonneg _ (by omega)) (Int.emod_lt_of_pos _ hm0) g3
end
end Gb
set_option maxRecDepth 100000
set_option maxHeartbeats 4000000
namespace Gb
open PySem PySem.Spec PyProof.Rows L2
open PySem.W (Datum Tup T4)
section
variable {P : Program} {w : World} {K : PySem.W.Frag} {mg : Str → Option Value} {base : Heap}
/-! ### pick -/
def spPick (K : PySem.W.Frag) : Sp := fun vs H Q _ => ∃ (p c l : Addr) (n : Nat) (xs : List V), vs = [.ref p, .ref l] ∧ Pen H p c n ∧ n + 1 ≤ 2 ^ 60 ∧ SqL K H l xs ∧ 0 < xs.length ∧ xs.length < 1000 ∧
  ∀ (i : Nat) (v : V) (H' : Hp), xs[i]? = some v → Go p c 1 H H' → Q v H'
theorem sc__law_pick : FnScope ["pen", "some"] ["pen", "some"] (defScope s__law_pick) := ⟨rfl, rfl, rfl, by decide +kernel, rfl, by decide +kernel, by decide +kernel⟩
theorem ok__law_pick (D : Dn K mg "_law_pick" s__law_pick ["pen", "some"]) (B : Bt mg) (c__law_draw : Cl P w K mg base 1 "_law_draw" spDraw) : Cl P w K mg base 2 "_law_pick" (spPick K) := by
  refine cl_of D sc__law_pick (fun vs H Q E h => ?_) (fun cdv f A outer s H vs Q E hr h => ?_)
  · obtain ⟨p, c, l, n, xs, rfl, _⟩ := h
    rfl
  · obtain ⟨p, c, l, n, xs, rfl, hp, hn, hS, h0, h1, q⟩ := h
    have nd := sc__law_pick.nd
    refine ⟨_, (pss_one (ps_ret (pe_ix ix_listK (pv 1) (pe_c c__law_draw hr (by decide) (by rfl) (pa_cons (pv 0) (pa_cons (pe_callB call_lenK (by rfl) B.len PySem.boot_len (pa_cons (pv 1) pa_nil)) pa_nil))) (fun _ _ => rfl)))), ?_⟩
    refine ⟨.ref l, rfl, .ref p, rfl, .ref l, rfl, l, xs, rfl, .inl hS, ⟨p, c, n, _, rfl, hp, by omega, by omega, by omega, fun r H' hr0 hr1 g => ?_⟩⟩
    have hlt : r.toNat < xs.length := by omega
    exact ⟨l, xs, r, xs[r.toNat], rfl, rfl, g.1.l hS, at_of (j := r.toNat) (by omega) (List.getElem?_eq_getElem hlt), q r.toNat _ H' (List.getElem?_eq_getElem hlt) g⟩
/-! ### great -/
def spGreat : Sp := fun vs H Q _ => ∃ (p c : Addr) (n : Nat) (k : Nat), vs = [.ref p, .int (k : Int)] ∧ Pen H p c n ∧ n + k ≤ 2 ^ 60 ∧ k ≤ 1000 ∧ ∀ (r : Nat) H', r < 10 ^ k → Go p c k H H' → Q (.int (r : Int)) H'
theorem sc__law_great : FnScope ["pen", "figures", "found", "k"] ["pen", "figures"] (defScope s__law_great) := ⟨rfl, rfl, rfl, by decide +kernel, rfl, by decide +kernel, by decide +kernel⟩
theorem ok__law_great (D : Dn K mg "_law_great" s__law_great ["pen", "figures"]) (B : Bt mg) (c__law_draw : Cl P w K mg base 1 "_law_draw" spDraw) : Cl P w K mg base 2 "_law_great" spGreat := by
  refine cl_of D sc__law_great (fun vs H Q E h => ?_) (fun cdv f A outer s H vs Q E hr h => ?_)
  · obtain ⟨p, c, n, k, rfl, _⟩ := h
    rfl
  · obtain ⟨p, c, n, k, rfl, hp, hn, hk, q⟩ := h
    have nd := sc__law_great.nd
    refine ⟨_, (pss_cons (ps_set (i := 2) nd rfl (.inl rfl) pe_int)
    (pss_cons (ps_for PassesOwn.never rfl (pi_range1 (by rfl) B.range (pa_cons (pv 1) pa_nil)) (pg_name (i := 3) nd rfl (.inl rfl))
    (pss_one (ps_set (i := 2) nd rfl (.inl rfl) (pe_op op_add (pe_op op_mul pe_int (pv 2)) (pe_c c__law_draw hr (by decide) (by rfl) (pa_cons (pv 0) (pa_cons pe_int pa_nil)))))))
    (pss_one (ps_ret (pv 2))))), ?_⟩
    refine ⟨.int (k : Int), rfl, k, rfl, by omega, by omega, for_range (lo := 0) (n := k) (fun i σ H' => ∃ (r : Nat) (u : Option V), σ = [some (.ref p), some (.int (k : Int)), some (.int (r : Int)), u] ∧ r < 10 ^ i ∧ Go p c i H H')
      ⟨0, none, rfl, by decide, Go.refl⟩ ?_ ?_⟩
    · rintro i σ H' hi ⟨r, u, rfl, hr10, g⟩
      refine ⟨.int (r : Int), rfl, 10, r, rfl, rfl, .inl ⟨by decide, by decide⟩, .ref p, rfl, ⟨p, c, n + i, 10, rfl, g.2 n hp, by omega, by decide, by decide, fun d H2 hd0 hd1 g2 => ?_⟩⟩
      refine ⟨10 * (r : Int), d, rfl, rfl, 10 * r + d.toNat, some (.int (0 + (i : Int))), ?_, ?_, g.trans g2⟩
      · have e : 10 * (r : Int) + d = ((10 * r + d.toNat : Nat) : Int) := by omega
        rw [← e]
        rfl
      · rw [Nat.pow_succ]
        omega
    · rintro σ H' ⟨r, u, rfl, hr10, g⟩
      exact ⟨.int (r : Int), rfl, q r H' hr10 g⟩
/-! ### shuffled -/
def spShuf (K : PySem.W.Frag) : Sp := fun vs H Q _ => ∃ (p c l : Addr) (n : Nat) (xs : List V), vs = [.ref p, .ref l] ∧ Pen H p c n ∧ n + xs.length ≤ 2 ^ 60 ∧ SqL K H l xs ∧ xs.length < 1000 ∧
  ∀ r ys H', H r = none → H' r = some (.lst ys) → ys.Perm xs → Go p c xs.length H H' → Q (.ref r) H'
theorem erase_perm {α : Type} {y : α} : ∀ {zs : List α} {k : Nat}, zs[k]? = some y → (y :: zs.eraseIdx k).Perm zs
  | [], _, h => by simp at h
  | z :: r, 0, h => by
    have e : z = y := Option.some.inj h
    rw [e]
    exact List.Perm.refl _
  | z :: r, k + 1, h => by
    have ih := erase_perm (zs := r) (k := k) h
    show (y :: z :: r.eraseIdx k).Perm (z :: r)
    exact (List.Perm.swap z y _).trans (ih.cons z)
theorem seqIx {r : Int} {m : Nat} (h0 : 0 ≤ r) (h1 : r < m) : seqIndex? r m = some r.toNat := (ixN_seq (by unfold ixN; rw [if_pos h0, if_pos h1])).1
theorem sc__law_shuffled : FnScope ["pen", "some", "left", "k"] ["pen", "some"] (defScope s__law_shuffled) := ⟨rfl, rfl, rfl, by decide +kernel, rfl, by decide +kernel, by decide +kernel⟩
theorem ok__law_shuffled (D : Dn K mg "_law_shuffled" s__law_shuffled ["pen", "some"]) (B : Bt mg) (c__law_draw : Cl P w K mg base 1 "_law_draw" spDraw) : Cl P w K mg base 2 "_law_shuffled" (spShuf K) := by
  refine cl_of D sc__law_shuffled (fun vs H Q E h => ?_) (fun cdv f A outer s H vs Q E hr h => ?_)
  · obtain ⟨p, c, l, n, xs, rfl, _⟩ := h
    rfl
  · obtain ⟨p, c, l, n, xs, rfl, hp, hn, hS, h1, q⟩ := h
    have nd := sc__law_shuffled.nd
    refine ⟨_, (pss_cons (ps_set (i := 2) nd rfl (.inr rfl) (pe_callTy call_listK (by rfl) B.list (by decide +kernel) (pa_cons (pv 1) pa_nil)))
    (pss_one (ps_ret (pe_lc (own := [("k", 3)]) rfl nd (pi_range1 (by rfl) B.range (pa_cons (pe_callB call_lenK (by rfl) B.len PySem.boot_len (pa_cons (pv 2) pa_nil)) pa_nil)) (blkOk_by (N := ["pen", "some", "left", "k"]) (sc := defScope s__law_shuffled) (by decide +kernel)) (fun _ _ _ _ _ => (pg_name (i := 3) nd rfl (.inl rfl))) (fun _ _ _ _ _ => pts_nil) (fun _ _ _ _ _ => (pe_bmK PySem.F.plainAttrs_list PySem.F.slot_list_pop PySem.F.type_list_pop mt_popAt (pv 2) (pa_cons (pe_c c__law_draw hr (by decide) (by rfl) (pa_cons (pv 0) (pa_cons (pe_callB call_lenK (by rfl) B.len PySem.boot_len (pa_cons (pv 2) pa_nil)) pa_nil))) pa_nil))))))), ?_⟩
    refine ⟨.ref l, rfl, l, xs, rfl, .inl hS, fun a ha => ?_⟩
    have na := hp.ne ha
    refine ⟨.ref a, rfl, a, xs, rfl, .inl (SqL.of upd_same), xs.length, rfl, by omega, by omega, fun D hD => ?_⟩
    have naD : D ≠ a := fun e => by
      rw [e, upd_same] at hD
      cases hD
    have hD0 : H D = none := by
      rw [upd_ne naD] at hD
      exact hD
    have nD := hp.ne hD0
    -- two lists: what is left at a, what is taken at D
    refine lc_range (lo := 0) (n := xs.length) (fun i H' => ∃ zs ys : List V, H' a = some (.lst zs) ∧ H' D = some (.lst ys) ∧ (ys ++ zs).Perm xs ∧ ys.length = i ∧ Go p c i H (del (del H' a) D)) ?_ ?_ ?_
    · refine ⟨xs, [], ?_, upd_same, List.Perm.refl _, rfl, ?_⟩
      · rw [upd_ne naD.symm]
        exact upd_same
      · have e : del (del (upd (upd H a (.lst xs)) D (.lst [])) a) D = H := by
          funext b
          by_cases hb : b = D
          · rw [hb, del_same, hD0]
          · rw [del_ne hb]
            by_cases hb2 : b = a
            · rw [hb2, del_same, ha]
            · rw [del_ne hb2, upd_ne hb, upd_ne hb2]
        rw [e]
        exact Go.refl
    · rintro i H' hi ⟨zs, ys, ka, kD, pm, hl, g⟩
      have hlen := pm.length_eq
      rw [List.length_append] at hlen
      have hp' : Pen H' p c (n + i) := ((g.2 n hp).undel).undel
      refine ⟨rfl, .ref a, rfl, .inl ⟨rfl, _, SqL.of ka⟩, .ref p, rfl, .ref a, rfl, a, zs, rfl, .inl (SqL.of ka), ⟨p, c, n + i, (zs.length : Int), rfl, hp', by omega, by omega, by omega, fun r H2 hr0 hr1 g2 => ?_⟩⟩
      have ka2 := g2.1 _ _ ka trivial
      have kD2 := g2.1 _ _ kD trivial
      have hlt : r.toNat < zs.length := by omega
      have hz : zs[r.toNat]? = some zs[r.toNat] := List.getElem?_eq_getElem hlt
      refine ⟨a, zs, r, r.toNat, zs[r.toNat], rfl, rfl, ka2, by omega, by omega, seqIx hr0 hr1, hz, ?_⟩
      refine ⟨ys, by rw [upd_ne naD]; exact kD2, Nat.lt_of_le_of_lt (by omega : ys.length ≤ 1000) (by decide), ?_⟩
      refine ⟨zs.eraseIdx r.toNat, ys ++ [zs[r.toNat]], ?_, upd_same, ?_, by rw [List.length_append, List.length_singleton, hl], ?_⟩
      · rw [upd_ne naD.symm]
        exact upd_same
      · rw [List.append_assoc]
        exact ((erase_perm hz).append_left ys).trans pm
      · have e : del (del (upd (upd H2 a (.lst (zs.eraseIdx r.toNat))) D (.lst (ys ++ [zs[r.toNat]]))) a) D = del (del H2 a) D := by
          funext b
          by_cases hb : b = D
          · rw [hb, del_same, del_same]
          · rw [del_ne hb, del_ne hb]
            by_cases hb2 : b = a
            · rw [hb2, del_same, del_same]
            · rw [del_ne hb2, del_ne hb2, upd_ne hb, upd_ne hb2]
        rw [e]
        exact g.trans ((g2.del na.1 na.2).del nD.1 nD.2)
    · rintro H' ⟨zs, ys, ka, kD, pm, hl, g⟩
      have hlen := pm.length_eq
      rw [List.length_append] at hlen
      have hz : zs = [] := List.length_eq_zero_iff.mp (by omega)
      rw [hz, List.append_nil] at pm
      exact q D ys H' hD0 kD pm ⟨(g.1.trans del_ex).trans del_ex, fun m hm => ((g.2 m hm).undel).undel⟩
end
end Gb
set_option maxRecDepth 100000
set_option maxHeartbeats 4000000
namespace Gb
open PySem PySem.Spec PyProof.Rows L2
open PySem.W (Datum Tup T4)
/-! ### ties -/
abbrev Tie := T4 Int Int Int Int
structure TieOk (m s : Int) (t : Tie) : Prop where
  a0 : 0 ≤ t.a
  ab : t.a < t.b
  bs : t.b < s
  c1 : 1 ≤ t.c
  cm : t.c ≤ m
  d1 : 1 ≤ t.d
  dm : t.d ≤ m
/-- the ties of a web of s posts, at most m cords each way -/
structure TiesOk (m s : Int) (ts : List Tie) : Prop where
  all : ∀ t ∈ ts, TieOk m s t
  nd : (ts.map fun t => (t.a, t.b)).Nodup
def rowT (f n : Int) : List Tie := (List.range (n - 1).toNat).map fun (k : Nat) => ⟨f + (k : Int), f + (k : Int) + 1, 1, 1⟩
def movT (ts : List Tie) (by_ : Int) : List Tie := ts.map fun t => ⟨t.a + by_, t.b + by_, t.c, t.d⟩
def armsT : Int → List Int → List Tie
  | _, [] => []
  | f, n :: r => (⟨0, f, 1, 1⟩ :: rowT f n) ++ armsT (f + n) r
theorem is_t4 {K : PySem.W.Frag} {H : Hp} {t : Addr} {a b c d : Int} (h : H t = some (.tup [.int a, .int b, .int c, .int d])) : Is K H (.ref t) (⟨a, b, c, d⟩ : Tie) :=
  .tup (SqT.of h) (.cons (.int a) (.cons (.int b) (.cons (.int c) (.cons (.int d) .nil))))
theorem t4_is {K : PySem.W.Frag} {H : Hp} {v : V} {t : Tie} (h : Is K H v t) : ∃ a, v = .ref a ∧ SqT K H a [.int t.a, .int t.b, .int t.c, .int t.d] := by
  have h' : Dp K H v (.tuple [.int t.a, .int t.b, .int t.c, .int t.d]) := h
  obtain ⟨a, xs, rfl, h1, h2⟩ := dp_tuple h'
  have h3 : DpAll K H xs ([t.a, t.b, t.c, t.d].map PyData.int) := h2
  rw [dpa_ints h3] at h1
  exact ⟨a, rfl, h1⟩
theorem nw_new {H H' : Hp} {t D : Addr} {o u : HO} (e : Ex H H') (f : H' t = none) (hd : H t = none) (hD : H' D = some u) : nw H (del (upd H' t o) D) t = some o := by
  have nt : t ≠ D := fun z => by
    rw [z, hD] at f
    cases f
  rw [nw_none hd, del_ne nt, upd_same]
section
variable {P : Program} {w : World} {K : PySem.W.Frag} {mg : Str → Option Value} {base : Heap}
/-! ### row_ties -/
def spRow (K : PySem.W.Frag) : Sp := fun vs H Q _ => ∃ f n : Int, vs = [.int f, .int n] ∧ -1000 ≤ n ∧ n ≤ 1000 ∧ ∀ r H', Same H H' → Ls K (nw H H') r (rowT f n) → Q r H'
theorem sc__law_row_ties : FnScope ["first", "size", "k"] ["first", "size"] (defScope s__law_row_ties) := ⟨rfl, rfl, rfl, by decide +kernel, rfl, by decide +kernel, by decide +kernel⟩
theorem ok__law_row_ties (D : Dn K mg "_law_row_ties" s__law_row_ties ["first", "size"]) (B : Bt mg)  : Cl P w K mg base 1 "_law_row_ties" (spRow K) := by
  refine cl_of D sc__law_row_ties (fun vs H Q E h => ?_) (fun cdv f A outer s H vs Q E hr h => ?_)
  · obtain ⟨f, n, rfl, _⟩ := h
    rfl
  · obtain ⟨f, n, rfl, hn0, hn1, q⟩ := h
    have nd := sc__law_row_ties.nd
    refine ⟨_, (pss_one (ps_ret (pe_lc (own := [("k", 2)]) rfl nd (pi_range1 (by rfl) B.range (pa_cons (pe_op op_sub (pv 1) pe_int) pa_nil)) (blkOk_by (N := ["first", "size", "k"]) (sc := defScope s__law_row_ties) (by decide +kernel)) (fun _ _ _ _ _ => (pg_name (i := 2) nd rfl (.inl rfl))) (fun _ _ _ _ _ => pts_nil) (fun _ _ _ _ _ => (pe_tup (pa_cons (pe_op op_add (pv 0) (pv 2)) (pa_cons (pe_op op_add (pe_op op_add (pv 0) (pv 2)) pe_int) (pa_cons pe_int (pa_cons pe_int pa_nil))))))))), ?_⟩
    refine ⟨.int n, rfl, n, 1, rfl, rfl, n - 1, rfl, by omega, by omega, fun D hD => ?_⟩
    have e0 : (n - 1).toNat = (n - 1 - 0).toNat := by omega
    refine lc_rangeG (lo := 0) (n := (n - 1).toNat) (k := 0) (fun i y Hx => Is K (nw H Hx) y (⟨f + (i : Int), f + (i : Int) + 1, 1, 1⟩ : Tie)) (fun i y H1 H2 e h => Dp.ex (nw_mono e) h) rel_same hD id (by omega) (fun _ => rfl) ?_ ?_
    · intro i H' hi sm hDs Q' q'
      obtain ⟨u, hu⟩ := hDs
      refine ⟨.int f, rfl, .int (0 + (i : Int)), rfl, _, _, rfl, rfl, .int f, rfl, .int (0 + (i : Int)), rfl, _, _, rfl, rfl, _, 1, rfl, rfl, by show 4 ≤ sizeLine; decide, fun t ht => ?_⟩
      refine q' _ _ (same_new ht) ?_
      rw [Int.zero_add]
      exact is_t4 (nw_new (Ex.of sm) ht (sm.free ht) hu)
    · intro ys H' hy hl hz sm _
      refine q _ H' sm ⟨D, ys, rfl, by rw [nw_none hD]; exact hy, all_of (by rw [hl]; unfold rowT; rw [List.length_map, List.length_range]) fun i y a h1 h2 => ?_⟩
      unfold rowT at h2
      rw [List.getElem?_map] at h2
      have hlt : i < (n - 1).toNat := by
        have := (List.getElem?_eq_some_iff.mp h1).1
        omega
      rw [List.getElem?_range hlt] at h2
      have e : (⟨f + (i : Int), f + (i : Int) + 1, 1, 1⟩ : Tie) = a := Option.some.inj h2
      rw [← e]
      exact hz i y h1
/-! ### moved -/
def spMov (K : PySem.W.Frag) : Sp := fun vs H Q _ => ∃ (v : V) (ts : List Tie) (b : Int), vs = [v, .int b] ∧ Is K H v ts ∧ ts.length ≤ 1000 ∧ ∀ r H', Same H H' → Ls K (nw H H') r (movT ts b) → Q r H'
theorem sc__law_moved : FnScope ["ties", "by", "one", "two", "there", "back"] ["ties", "by"] (defScope s__law_moved) := ⟨rfl, rfl, rfl, by decide +kernel, rfl, by decide +kernel, by decide +kernel⟩
theorem ok__law_moved (D : Dn K mg "_law_moved" s__law_moved ["ties", "by"]) (B : Bt mg)  : Cl P w K mg base 1 "_law_moved" (spMov K) := by
  refine cl_of D sc__law_moved (fun vs H Q E h => ?_) (fun cdv f A outer s H vs Q E hr h => ?_)
  · obtain ⟨v, ts, b, rfl, _⟩ := h
    rfl
  · obtain ⟨v, ts, b, rfl, hv, hn, q⟩ := h
    obtain ⟨a, xs, rfl, hS, hA⟩ := is_list hv
    have hlen := all_len hA
    have nd := sc__law_moved.nd
    refine ⟨_, (pss_one (ps_ret (pe_lc (own := [("one", 2), ("two", 3), ("there", 4), ("back", 5)]) rfl nd (pi_listK (pv 0)) (blkOk_by (N := ["ties", "by", "one", "two", "there", "back"]) (sc := defScope s__law_moved) (by decide +kernel)) (fun _ _ _ _ _ => (pg_tupK (n := 4) (by rfl) (pgs_cons (pg_name (i := 2) nd rfl (.inl rfl)) (pgs_cons (pg_name (i := 3) nd rfl (.inl rfl)) (pgs_cons (pg_name (i := 4) nd rfl (.inl rfl)) (pgs_cons (pg_name (i := 5) nd rfl (.inl rfl)) pgs_nil)))))) (fun _ _ _ _ _ => pts_nil) (fun _ _ _ _ _ => (pe_tup (pa_cons (pe_op op_add (pv 2) (pv 1)) (pa_cons (pe_op op_add (pv 3) (pv 1)) (pa_cons (pv 4) (pa_cons (pv 5) pa_nil))))))))), ?_⟩
    refine ⟨.ref a, rfl, a, rfl, ⟨xs, hS⟩, fun D hD => ?_⟩
    refine lc_listG (k := 0) (fun i y Hx => ∀ t, ts[i]? = some t → Is K (nw H Hx) y (⟨t.a + b, t.b + b, t.c, t.d⟩ : Tie)) (fun i y H1 H2 e h t ht => Dp.ex (nw_mono e) (h t ht)) rel_same hD id hS (by omega) ?_ ?_ ?_
    · intro i x H' hx sm hDs
      obtain ⟨u, hu⟩ := hDs
      obtain ⟨t, ht, hxt⟩ := all_get hA hx
      obtain ⟨c, rfl, hc⟩ := t4_is (Dp.ex (Ex.of sm) hxt)
      refine ⟨c, _, rfl, hc, rfl, _, _, rfl, _, _, rfl, _, _, rfl, _, _, rfl, rfl, rfl, rfl, fun Q' q' => ?_⟩
      refine ⟨.int t.a, rfl, .int b, rfl, _, _, rfl, rfl, .int t.b, rfl, .int b, rfl, _, _, rfl, rfl, .int t.c, rfl, .int t.d, rfl, by show 4 ≤ sizeLine; decide, fun z hz => ?_⟩
      refine q' _ _ (same_new hz) fun t' ht' => ?_
      have e : t = t' := Option.some.inj (ht.symm.trans ht')
      rw [← e]
      exact is_t4 (nw_new (Ex.of sm) hz (sm.free hz) hu)
    · rintro x σ' H' A' B' hAB ⟨c, zs, e1, e2, e3, v1, r1, e4, v2, r2, e5, v3, r3, e6, v4, r4, e7, e8, h⟩
      exact ⟨c, zs, e1, e2, e3, v1, r1, e4, v2, r2, e5, v3, r3, e6, v4, r4, e7, e8, hAB _ _ h⟩
    · intro ys H' hy hl hz sm _
      refine q _ H' sm ⟨D, ys, rfl, by rw [nw_none hD]; exact hy, all_of (by rw [hl, hlen]; unfold movT; rw [List.length_map]) fun i y a' h1 h2 => ?_⟩
      unfold movT at h2
      rw [List.getElem?_map] at h2
      cases ht : ts[i]? with
      | none =>
        rw [ht] at h2
        cases h2
      | some t =>
        rw [ht] at h2
        have e : (⟨t.a + b, t.b + b, t.c, t.d⟩ : Tie) = a' := Option.some.inj h2
        rw [← e]
        exact hz i y h1 t ht
end
end Gb
set_option maxRecDepth 100000
set_option maxHeartbeats 4000000
namespace Gb
open PySem PySem.Spec PyProof.Rows L2
open PySem.W (Datum Tup T4)
theorem cut_to (xs : List V) (n : Nat) : cutV xs none (some (n : Int)) = xs.take n := by
  unfold cutV
  rw [HT.sIx_none, HT.sIx_nat]
  show (xs.drop 0).take (min n xs.length - 0) = xs.take n
  rw [List.drop_zero, Nat.sub_zero]
  by_cases h : n ≤ xs.length
  · rw [Nat.min_eq_left h]
  · rw [Nat.min_eq_right (by omega), List.take_length, List.take_of_length_le (by omega)]
theorem cut_from (xs : List V) (n : Nat) : cutV xs (some (n : Int)) none = xs.drop n := by
  unfold cutV
  rw [HT.sIx_none, HT.sIx_nat]
  by_cases h : n ≤ xs.length
  · rw [Nat.min_eq_left h]
    exact List.take_of_length_le (by rw [List.length_drop]; omega)
  · rw [Nat.min_eq_right (by omega), List.drop_of_length_le (Nat.le_refl _), List.drop_of_length_le (by omega)]
    exact List.take_nil
/-- one tie of so many, there so many cords one way -/
structure Dbl (ts : List Tie) (at_ : Nat) (times : Int) (ts' : List Tie) : Prop where
  ex : ∃ (t : Tie) (x y : Int), ts[at_]? = some t ∧ ((x = times ∧ y = 1) ∨ (x = 1 ∧ y = times)) ∧ ts' = ts.take at_ ++ [⟨t.a, t.b, x, y⟩] ++ ts.drop (at_ + 1)
section
variable {P : Program} {w : World} {K : PySem.W.Frag} {mg : Str → Option Value} {base : Heap}
def spDbl (K : PySem.W.Frag) : Sp := fun vs H Q _ => ∃ (p c : Addr) (n : Nat) (v : V) (ts : List Tie) (at_ : Nat) (times : Int), vs = [.ref p, v, .int (at_ : Int), .int times] ∧ Pen H p c n ∧ n + 1 ≤ 2 ^ 60 ∧ Is K H v ts ∧ at_ < ts.length ∧ ts.length ≤ 1000 ∧
  ∀ (r : V) (H' : Hp) (ts' : List Tie), Go p c 1 H H' → Ls K H' r ts' → Dbl ts at_ times ts' → Q r H'
theorem sc__law_doubled : FnScope ["pen", "ties", "at", "times", "one", "two", "there", "back", "both"] ["pen", "ties", "at", "times"] (defScope s__law_doubled) := ⟨rfl, rfl, rfl, by decide +kernel, rfl, by decide +kernel, by decide +kernel⟩
theorem ok__law_doubled (D : Dn K mg "_law_doubled" s__law_doubled ["pen", "ties", "at", "times"]) (B : Bt mg) (c__law_pick : Cl P w K mg base 2 "_law_pick" (spPick K)) : Cl P w K mg base 3 "_law_doubled" (spDbl K) := by
  refine cl_of D sc__law_doubled (fun vs H Q E h => ?_) (fun cdv f A outer s H vs Q E hr h => ?_)
  · obtain ⟨p, c, n, v, ts, at_, times, rfl, _⟩ := h
    rfl
  · obtain ⟨p, c, n, v, ts, at_, times, rfl, hp, hn, hv, hat, hlen, q⟩ := h
    obtain ⟨a, xs, rfl, hS, hA⟩ := is_list hv
    have hl := all_len hA
    have nd := sc__law_doubled.nd
    have hlt : at_ < xs.length := by omega
    obtain ⟨t, ht, hxt⟩ := all_get hA (List.getElem?_eq_getElem hlt)
    obtain ⟨b, hb, hcb⟩ := t4_is hxt
    refine ⟨_, (pss_cons (ps_asg (pe_ix ix_listK (pv 1) (pv 2) (fun _ _ => rfl)) (pg_tupK (n := 4) (by rfl) (pgs_cons (pg_name (i := 4) nd rfl (.inl rfl)) (pgs_cons (pg_name (i := 5) nd rfl (.inl rfl)) (pgs_cons (pg_name (i := 6) nd rfl (.inl rfl)) (pgs_cons (pg_name (i := 7) nd rfl (.inl rfl)) pgs_nil))))))
    (pss_cons (ps_set (i := 8) nd rfl (.inl rfl) (pe_c c__law_pick hr (by decide) (by rfl) (pa_cons (pv 0) (pa_cons (pe_lst (pa_cons (pe_tup (pa_cons (pv 3) (pa_cons pe_int pa_nil))) (pa_cons (pe_tup (pa_cons pe_int (pa_cons (pv 3) pa_nil))) pa_nil))) pa_nil))))
    (pss_one (ps_ret (pe_op op_cat (pe_op op_cat (pe_slice sl_listK (pv 1) po_none (po_some (pv 2))) (pe_lst (pa_cons (pe_op op_catT (pe_tup (pa_cons (pv 4) (pa_cons (pv 5) pa_nil))) (pv 8)) pa_nil))) (pe_slice sl_listK (pv 1) (po_some (pe_op op_add (pv 2) pe_int)) po_none)))))), ?_⟩
    -- one, two, there, back = ties[at]
    refine ⟨.ref a, rfl, .int (at_ : Int), rfl, a, xs, (at_ : Int), .ref b, rfl, rfl, hS, at_of rfl (by rw [← hb]; exact List.getElem?_eq_getElem hlt), b, _, rfl, hcb, rfl, _, _, rfl, _, _, rfl, _, _, rfl, _, _, rfl, rfl, ?_⟩
    -- both = pick(pen, [(times, 1), (1, times)])
    refine ⟨.ref p, rfl, .int times, rfl, by show 2 ≤ sizeLine; decide, fun t1 f1 => ?_⟩
    have k1 : (upd H t1 (.tup [.int times, .int 1])) t1 = some (.tup [.int times, .int 1]) := upd_same
    have s1 : Same H (upd H t1 (.tup [.int times, .int 1])) := same_new f1
    generalize upd H t1 (.tup [.int times, .int 1]) = H1 at k1 s1 ⊢
    refine ⟨.int times, rfl, by show 2 ≤ sizeLine; decide, fun t2 f2 => ?_⟩
    have k2 : (upd H1 t2 (.tup [.int 1, .int times])) t2 = some (.tup [.int 1, .int times]) := upd_same
    have s2 : Same H1 (upd H1 t2 (.tup [.int 1, .int times])) := same_new f2
    generalize upd H1 t2 (.tup [.int 1, .int times]) = H2 at k2 s2 ⊢
    refine ⟨by show 2 ≤ sizeLine; decide, fun l f3 => ?_⟩
    have k3 : (upd H2 l (.lst [.ref t1, .ref t2])) l = some (.lst [.ref t1, .ref t2]) := upd_same
    have s3 : Same H2 (upd H2 l (.lst [.ref t1, .ref t2])) := same_new f3
    generalize upd H2 l (.lst [.ref t1, .ref t2]) = H3 at k3 s3 ⊢
    have g3 : Go p c 0 H H3 := Go.of ((s1.trans s2).trans s3)
    refine ⟨p, c, l, n, _, rfl, (g3.2 n hp), by omega, SqL.of k3, (by show 0 < 2; decide), (by show 2 < 1000; decide), fun i v H4 hv4 g4 => ?_⟩
    have k14 : H4 t1 = some (.tup [.int times, .int 1]) := g4.1 _ _ (s3 _ _ (s2 _ _ k1)) trivial
    have k24 : H4 t2 = some (.tup [.int 1, .int times]) := g4.1 _ _ (s3 _ _ k2) trivial
    obtain ⟨z, x, y, rfl, kz, hxy⟩ : ∃ z x y, v = .ref z ∧ H4 z = some (.tup [.int x, .int y]) ∧ ((x = times ∧ y = 1) ∨ (x = 1 ∧ y = times)) := by
      match i, hv4 with
      | 0, e => exact ⟨t1, times, 1, (Option.some.inj e).symm, k14, .inl ⟨rfl, rfl⟩⟩
      | 1, e => exact ⟨t2, 1, times, (Option.some.inj e).symm, k24, .inr ⟨rfl, rfl⟩⟩
    have g : Go p c 1 H H4 := by
      have q0 := g3.trans g4
      rw [Nat.zero_add] at q0
      exact q0
    have hS4 := g.1.l hS
    have hA4 : All K H4 xs ts := DpAll.ex g.1 hA
    clear k14 k24 g4 k1 k2 k3 s1 s2 s3 g3 f1 f2 f3 hv4
    -- ties[:at]
    refine ⟨.ref a, rfl, .int (at_ : Int), rfl, (at_ : Int), rfl, a, xs, rfl, hS4, fun p1 f1 => ?_⟩
    rw [cut_to]
    have k1 : (upd H4 p1 (.lst (xs.take at_))) p1 = some (.lst (xs.take at_)) := upd_same
    have s1 : Same H4 (upd H4 p1 (.lst (xs.take at_))) := same_new f1
    generalize upd H4 p1 (.lst (xs.take at_)) = H5 at k1 s1 ⊢
    -- [(one, two) + both]
    refine ⟨.int t.a, rfl, .int t.b, rfl, by show 2 ≤ sizeLine; decide, fun u f2 => ?_⟩
    have k2 : (upd H5 u (.tup [.int t.a, .int t.b])) u = some (.tup [.int t.a, .int t.b]) := upd_same
    have s2 : Same H5 (upd H5 u (.tup [.int t.a, .int t.b])) := same_new f2
    generalize upd H5 u (.tup [.int t.a, .int t.b]) = H6 at k2 s2 ⊢
    refine ⟨.ref z, rfl, u, z, [.int t.a, .int t.b], [.int x, .int y], rfl, rfl, SqT.of k2, SqT.of (s2 _ _ (s1 _ _ kz)), by simp, (by show 4 ≤ sizeLine; decide), (fun e => by cases e), fun _ u2 f3 => ?_⟩
    have k3 : (upd H6 u2 (.tup ([.int t.a, .int t.b] ++ [.int x, .int y]))) u2 = some (.tup ([.int t.a, .int t.b] ++ [.int x, .int y])) := upd_same
    have s3 : Same H6 (upd H6 u2 (.tup ([.int t.a, .int t.b] ++ [.int x, .int y]))) := same_new f3
    generalize upd H6 u2 (.tup ([.int t.a, .int t.b] ++ [.int x, .int y])) = H7 at k3 s3 ⊢
    refine ⟨by show 1 ≤ sizeLine; decide, fun l2 f4 => ?_⟩
    have k4 : (upd H7 l2 (.lst [.ref u2])) l2 = some (.lst [.ref u2]) := upd_same
    have s4 : Same H7 (upd H7 l2 (.lst [.ref u2])) := same_new f4
    generalize upd H7 l2 (.lst [.ref u2]) = H8 at k4 s4 ⊢
    have kp1 : H8 p1 = some (.lst (xs.take at_)) := s4 _ _ (s3 _ _ (s2 _ _ k1))
    have hsz : (xs.take at_).length ≤ 1000 := by
      rw [List.length_take]
      omega
    refine ⟨p1, l2, _, _, rfl, rfl, kp1, k4, Nat.le_trans (by show (xs.take at_).length + 1 ≤ 1001; omega) (by decide : 1001 ≤ sizeLine), fun p3 f5 => ?_⟩
    have k5 : (upd H8 p3 (.lst (xs.take at_ ++ [.ref u2]))) p3 = some (.lst (xs.take at_ ++ [.ref u2])) := upd_same
    have s5 : Same H8 (upd H8 p3 (.lst (xs.take at_ ++ [.ref u2]))) := same_new f5
    generalize upd H8 p3 (.lst (xs.take at_ ++ [.ref u2])) = H9 at k5 s5 ⊢
    have s49 : Same H4 H9 := s1.trans (s2.trans (s3.trans (s4.trans s5)))
    refine ⟨.ref a, rfl, .int (at_ : Int), rfl, (at_ : Int), 1, rfl, rfl, ((at_ + 1 : Nat) : Int), rfl, a, xs, rfl, (Ex.of s49).l hS4, fun p4 f6 => ?_⟩
    rw [cut_from]
    have k6 : (upd H9 p4 (.lst (xs.drop (at_ + 1)))) p4 = some (.lst (xs.drop (at_ + 1))) := upd_same
    have s6 : Same H9 (upd H9 p4 (.lst (xs.drop (at_ + 1)))) := same_new f6
    generalize upd H9 p4 (.lst (xs.drop (at_ + 1))) = Ha at k6 s6 ⊢
    have hsz2 : (xs.drop (at_ + 1)).length ≤ 1000 := by
      rw [List.length_drop]
      omega
    refine ⟨p3, p4, _, _, rfl, rfl, s6 _ _ k5, k6, Nat.le_trans (by rw [List.length_append, List.length_singleton]; omega : (xs.take at_ ++ [V.ref u2]).length + (xs.drop (at_ + 1)).length ≤ 2001) (by decide : 2001 ≤ sizeLine), fun p5 f7 => ?_⟩
    have k7 : (upd Ha p5 (.lst (xs.take at_ ++ [.ref u2] ++ xs.drop (at_ + 1)))) p5 = some (.lst (xs.take at_ ++ [.ref u2] ++ xs.drop (at_ + 1))) := upd_same
    have s7 : Same Ha (upd Ha p5 (.lst (xs.take at_ ++ [.ref u2] ++ xs.drop (at_ + 1)))) := same_new f7
    generalize upd Ha p5 (.lst (xs.take at_ ++ [.ref u2] ++ xs.drop (at_ + 1))) = Hb at k7 s7 ⊢
    have s4b : Same H4 Hb := s49.trans (s6.trans s7)
    have ku2 : Hb u2 = some (.tup [.int t.a, .int t.b, .int x, .int y]) := s7 _ _ (s6 _ _ (s5 _ _ (s4 _ _ k3)))
    have gb : Go p c 1 H Hb := by
      have q0 := g.trans (Go.of (p := p) (c := c) s4b)
      exact q0
    have hAb : All K Hb xs ts := DpAll.ex (Ex.of s4b) hA4
    exact q _ Hb _ gb ⟨p5, _, rfl, k7, all_app (all_app (all_take at_ hAb) (dpa_one (is_t4 ku2))) (all_drop (at_ + 1) hAb)⟩ ⟨t, x, y, ht, hxy, rfl⟩
end
end Gb
set_option maxRecDepth 100000
set_option maxHeartbeats 4000000
namespace Gb
open PySem PySem.Spec PyProof.Rows L2
open PySem.W (Datum Tup T4)
theorem nw_nest {H H2 H3 : Hp} {l : Addr} {o : HO} (e : Same H H2) (hl : H2 l = some o) : Same (nw H2 H3) (nw H (del H3 l)) := fun b u h => by
  cases q : H2 b with
  | some z =>
    rw [nw_some q] at h
    cases h
  | none =>
    rw [nw_none q] at h
    have nb : b ≠ l := fun z => by
      rw [z, hl] at q
      cases q
    rw [nw_none (e.free q), del_ne nb]
    exact h
theorem rowT_len (f n : Int) : (rowT f n).length = (n - 1).toNat := by
  unfold rowT
  rw [List.length_map, List.length_range]
section
variable {P : Program} {w : World} {K : PySem.W.Frag} {mg : Str → Option Value} {base : Heap}
def spArms (K : PySem.W.Frag) : Sp := fun vs H Q _ => ∃ (v : V) (ls : List Int), vs = [v] ∧ Is K H v ls ∧ ls.length ≤ 10 ∧ (∀ n ∈ ls, 0 ≤ n ∧ n ≤ 100) ∧ ∀ r H', Same H H' → Ls K (nw H H') r (armsT 1 ls) → Q r H'
theorem sc__law_arms_ties : FnScope ["lengths", "found", "fresh", "many"] ["lengths"] (defScope s__law_arms_ties) := ⟨rfl, rfl, rfl, by decide +kernel, rfl, by decide +kernel, by decide +kernel⟩
theorem ok__law_arms_ties (D : Dn K mg "_law_arms_ties" s__law_arms_ties ["lengths"]) (B : Bt mg) (c__law_row_ties : Cl P w K mg base 1 "_law_row_ties" (spRow K)) : Cl P w K mg base 2 "_law_arms_ties" (spArms K) := by
  refine cl_of D sc__law_arms_ties (fun vs H Q E h => ?_) (fun cdv f A outer s H vs Q E hr h => ?_)
  · obtain ⟨v, ls, rfl, _⟩ := h
    rfl
  · obtain ⟨v, ls, rfl, hv, hlen, hb, q⟩ := h
    obtain ⟨a, xs, rfl, hS, hA⟩ := is_list hv
    have hxs : xs = ls.map V.int := dpa_ints hA
    subst hxs
    have nd := sc__law_arms_ties.nd
    refine ⟨_, (pss_cons (ps_par (i := 1) (j := 2) (by rfl) nd rfl rfl (by decide) rfl rfl (pa_cons (pe_lst pa_nil) (pa_cons pe_int pa_nil)) (by rfl))
    (pss_cons (ps_for PassesOwn.never rfl (pi_listK (pv 0)) (pg_name (i := 3) nd rfl (.inl rfl))
    (pss_cons (ps_expr (pe_bmK PySem.F.plainAttrs_list PySem.F.slot_list_append PySem.F.type_list_append mt_append (pv 1) (pa_cons (pe_tup (pa_cons pe_int (pa_cons (pv 2) (pa_cons pe_int (pa_cons pe_int pa_nil))))) pa_nil)))
    (pss_cons (ps_expr (pe_bmK PySem.F.plainAttrs_list PySem.F.slot_list_extend PySem.F.type_list_extend mt_extend (pv 1) (pa_cons (pe_c c__law_row_ties hr (by decide) (by rfl) (pa_cons (pv 2) (pa_cons (pv 3) pa_nil))) pa_nil)))
    (pss_one (ps_set (i := 2) nd rfl (.inl rfl) (pe_op op_add (pv 2) (pv 3)))))))
    (pss_one (ps_ret (pv 1))))), ?_⟩
    refine ⟨Nat.zero_le _, fun l hl => ?_⟩
    refine ⟨.ref l, .int 1, rfl, ?_⟩
    refine ⟨.ref a, rfl, a, rfl, ⟨_, (Ex.new hl).l hS⟩, for_list (K := K) (a := a) (xs := ls.map V.int) (fun i σ H' => ∃ (dn : List Tie) (fresh : Int) (vs : List V) (u : Option V), σ = [some (.ref a), some (.ref l), some (.int fresh), u] ∧ LocS H H' l vs ∧ All K (nw H (del H' l)) vs dn ∧ vs.length ≤ 200 * i ∧ dn ++ armsT fresh (ls.drop i) = armsT 1 ls)
      ⟨[], 1, [], none, rfl, LocS.start (Same.refl H) hl, .nil, Nat.zero_le _, rfl⟩ ?_ ?_ ?_⟩
    · rintro i σ H' _ ⟨dn, fresh, vs, u, rfl, L, _⟩
      exact (Ex.of L.done).l hS
    · rintro i y σ H' hy ⟨dn, fresh, vs, u, rfl, L, hA', hvs, hdn⟩
      rw [List.getElem?_map] at hy
      have hi : i < ls.length := by
        cases e : ls[i]? with
        | none =>
          rw [e] at hy
          cases hy
        | some z => exact (List.getElem?_eq_some_iff.mp e).1
      have hz : ls[i]? = some ls[i] := List.getElem?_eq_getElem hi
      rw [hz] at hy
      obtain rfl : V.int ls[i] = y := Option.some.inj hy
      have hm := hb _ (List.getElem_mem hi)
      have hd : ls.drop i = ls[i] :: ls.drop (i + 1) := List.drop_eq_getElem_cons hi
      rw [hd] at hdn
      -- found.append((0, fresh, 1, 1))
      refine ⟨.ref l, rfl, .inl ⟨rfl, _, SqL.of L.at_⟩, .int fresh, rfl, by show 4 ≤ sizeLine; decide, fun t ht => ?_⟩
      have k1 : (upd H' t (.tup [.int 0, .int fresh, .int 1, .int 1])) t = some (.tup [.int 0, .int fresh, .int 1, .int 1]) := upd_same
      have s1 : Same H' (upd H' t (.tup [.int 0, .int fresh, .int 1, .int 1])) := same_new ht
      generalize upd H' t (.tup [.int 0, .int fresh, .int 1, .int 1]) = H1 at k1 s1 ⊢
      have L1 := L.call s1
      refine ⟨l, vs, .ref t, rfl, rfl, L1.at_, Nat.lt_of_le_of_lt (by omega : vs.length ≤ 3000) (by decide), ?_⟩
      have L2 : LocS H (upd H1 l (.lst (vs ++ [.ref t]))) l (vs ++ [.ref t]) := L1.set
      have ntl : t ≠ l := fun z => by
        rw [z, L.at_] at ht
        cases ht
      have hA1 : All K (nw H (del (upd H1 l (.lst (vs ++ [.ref t]))) l)) (vs ++ [.ref t]) (dn ++ [⟨0, fresh, 1, 1⟩]) := by
        rw [del_upd]
        refine all_snoc (DpAll.ex (nw_mono (Ex.of (same_del s1))) hA') (is_t4 ?_)
        rw [nw_none (L.done.free ht), del_ne ntl]
        exact k1
      generalize upd H1 l (.lst (vs ++ [.ref t])) = H2 at L2 hA1 ⊢
      -- found.extend(row_ties(fresh, many))
      refine ⟨.ref l, rfl, .inl ⟨rfl, _, SqL.of L2.at_⟩, .int fresh, rfl, .int ls[i], rfl, ⟨fresh, ls[i], rfl, by omega, by omega, fun r H3 s3 hr3 => ?_⟩⟩
      obtain ⟨b, zs, rfl, hb3, hz3⟩ := hr3
      have L3 := L2.call s3
      have hz4 := DpAll.ex (Ex.of (nw_nest L2.done L2.at_)) hz3
      have hzl : zs.length = (ls[i] - 1).toNat := by
        rw [all_len hz3, rowT_len]
      refine ⟨l, b, vs ++ [.ref t], zs, rfl, rfl, L3.at_, nw_le _ _ hb3, Nat.le_trans (by rw [List.length_append, List.length_singleton]; omega : (vs ++ [V.ref t]).length + zs.length ≤ 4000) (by decide : 4000 ≤ sizeLine), ?_⟩
      -- fresh = fresh + many
      refine ⟨.int fresh, rfl, .int ls[i], rfl, _, _, rfl, rfl, ?_⟩
      refine ⟨dn ++ [⟨0, fresh, 1, 1⟩] ++ rowT fresh ls[i], fresh + ls[i], vs ++ [.ref t] ++ zs, _, rfl, L3.set, ?_, ?_, ?_⟩
      · rw [del_upd]
        exact all_app (DpAll.ex (nw_mono (Ex.of (same_del s3))) hA1) hz4
      · rw [List.length_append, List.length_append, List.length_singleton]
        omega
      · rw [← hdn]
        show dn ++ [_] ++ rowT fresh ls[i] ++ armsT (fresh + ls[i]) (ls.drop (i + 1)) = dn ++ ((_ :: rowT fresh ls[i]) ++ armsT (fresh + ls[i]) (ls.drop (i + 1)))
        simp only [List.append_assoc, List.cons_append, List.nil_append]
    · rintro σ H' ⟨dn, fresh, vs, u, rfl, L, hA', hvs, hdn⟩
      rw [List.length_map, List.drop_length] at hdn
      have e : dn = armsT 1 ls := by
        rw [← hdn]
        show dn = dn ++ []
        rw [List.append_nil]
      rw [e] at hA'
      refine ⟨.ref l, rfl, q _ H' L.done ⟨l, vs, rfl, ?_, DpAll.ex (nw_mono del_ex) hA'⟩⟩
      rw [nw_none L.fr]
      exact L.at_
end
end Gb
set_option maxRecDepth 100000
set_option maxHeartbeats 4000000
/-! The mathematics of lists of ties. -/
namespace Gb
open PySem PySem.Spec PyProof.Rows L2
open PySem.W (Datum Tup T4)
abbrev pr (t : Tie) : Int × Int := (t.a, t.b)
theorem TieOk.mono {m s m' s' : Int} {t : Tie} (h : TieOk m s t) (hm : m ≤ m') (hs : s ≤ s') : TieOk m' s' t := ⟨h.a0, h.ab, Int.lt_of_lt_of_le h.bs hs, h.c1, Int.le_trans h.cm hm, h.d1, Int.le_trans h.dm hm⟩
theorem TiesOk.mono {m s m' s' : Int} {ts : List Tie} (h : TiesOk m s ts) (hm : m ≤ m') (hs : s ≤ s') : TiesOk m' s' ts := ⟨fun t ht => (h.all t ht).mono hm hs, h.nd⟩
theorem TiesOk.nil {m s : Int} : TiesOk m s [] := ⟨fun t ht => (by cases ht), List.nodup_nil⟩
theorem nd_iff {ts : List Tie} : (ts.map pr).Nodup ↔ ts.Pairwise fun x y => pr x ≠ pr y := List.pairwise_map
theorem TiesOk.perm {m s : Int} {ts us : List Tie} (h : TiesOk m s ts) (p : us.Perm ts) : TiesOk m s us := ⟨fun t ht => h.all t (p.mem_iff.mp ht), ((p.map pr).nodup_iff).mpr h.nd⟩
theorem TiesOk.app {m s : Int} {ts us : List Tie} (h : TiesOk m s ts) (h' : TiesOk m s us) (d : ∀ x ∈ ts, ∀ y ∈ us, pr x ≠ pr y) : TiesOk m s (ts ++ us) := by
  refine ⟨fun t ht => ?_, ?_⟩
  · rcases List.mem_append.mp ht with q | q
    · exact h.all t q
    · exact h'.all t q
  · show ((ts ++ us).map pr).Nodup
    rw [nd_iff, List.pairwise_append]
    exact ⟨nd_iff.mp h.nd, nd_iff.mp h'.nd, d⟩
theorem TiesOk.one {m s : Int} {t : Tie} (h : TieOk m s t) : TiesOk m s [t] := ⟨fun u hu => by
  rw [List.mem_singleton] at hu
  rw [hu]
  exact h, by simp⟩
theorem TiesOk.snoc {m s : Int} {ts : List Tie} {t : Tie} (h : TiesOk m s ts) (ht : TieOk m s t) (d : ∀ x ∈ ts, pr x ≠ pr t) : TiesOk m s (ts ++ [t]) :=
  h.app (.one ht) fun x hx y hy => by
    rw [List.mem_singleton] at hy
    rw [hy]
    exact d x hx
/-- rising by their second posts, from lo to below hi -/
structure Ris (lo hi : Int) (ts : List Tie) : Prop where
  pw : ts.Pairwise fun x y => x.b < y.b
  lo_ : ∀ t ∈ ts, lo ≤ t.b
  hi_ : ∀ t ∈ ts, t.b < hi
theorem Ris.app {lo mi hi : Int} {ts us : List Tie} (h : Ris lo mi ts) (h' : Ris mi hi us) (h1 : lo ≤ mi) (h2 : mi ≤ hi) : Ris lo hi (ts ++ us) := by
  refine ⟨List.pairwise_append.mpr ⟨h.pw, h'.pw, fun x hx y hy => ?_⟩, fun t ht => ?_, fun t ht => ?_⟩
  · have q1 := h.hi_ x hx
    have q2 := h'.lo_ y hy
    omega
  · rcases List.mem_append.mp ht with q | q
    · exact h.lo_ t q
    · have := h'.lo_ t q
      omega
  · rcases List.mem_append.mp ht with q | q
    · have := h.hi_ t q
      omega
    · exact h'.hi_ t q
theorem Ris.ties {m s lo hi : Int} {ts : List Tie} (r : Ris lo hi ts) (h : ∀ t ∈ ts, TieOk m s t) : TiesOk m s ts := by
  refine ⟨h, ?_⟩
  show (ts.map pr).Nodup
  rw [nd_iff]
  refine r.pw.imp fun {x y} q e => ?_
  have e2 : x.b = y.b := congrArg Prod.snd e
  omega
theorem row_ris (f n : Int) : Ris (f + 1) (f + n) (rowT f n) := by
  unfold rowT
  refine ⟨?_, fun t ht => ?_, fun t ht => ?_⟩
  · rw [List.pairwise_map]
    refine List.pairwise_lt_range.imp fun {x y} q => ?_
    show f + (x : Int) + 1 < f + (y : Int) + 1
    omega
  · obtain ⟨k, hk, rfl⟩ := List.mem_map.mp ht
    show f + 1 ≤ f + (k : Int) + 1
    omega
  · obtain ⟨k, hk, rfl⟩ := List.mem_map.mp ht
    have := List.mem_range.mp hk
    show f + (k : Int) + 1 < f + n
    omega
theorem row_tie {f n s : Int} (h0 : 0 ≤ f) (hs : f + n ≤ s) : ∀ t ∈ rowT f n, TieOk 1 s t := fun t ht => by
  unfold rowT at ht
  obtain ⟨k, hk, rfl⟩ := List.mem_map.mp ht
  have := List.mem_range.mp hk
  refine ⟨?_, ?_, ?_, Int.le_refl 1, Int.le_refl 1, Int.le_refl 1, Int.le_refl 1⟩
  · show 0 ≤ f + (k : Int)
    omega
  · show f + (k : Int) < f + (k : Int) + 1
    omega
  · show f + (k : Int) + 1 < s
    omega
theorem row_ties {n s : Int} (hs : n ≤ s) : TiesOk 1 s (rowT 0 n) := (row_ris 0 n).ties (row_tie (by decide) (by omega))
theorem arms_ris : ∀ (ls : List Int) (f : Int), (∀ n ∈ ls, 1 ≤ n) → Ris f (f + ls.sum) (armsT f ls) ∧ 0 ≤ ls.sum
  | [], f, _ => ⟨⟨.nil, fun t ht => (by cases ht), fun t ht => (by cases ht)⟩, by decide⟩
  | n :: r, f, h => by
    have hn := h n List.mem_cons_self
    obtain ⟨ih, hs⟩ := arms_ris r (f + n) fun k hk => h k (List.mem_cons_of_mem _ hk)
    rw [List.sum_cons]
    refine ⟨?_, by omega⟩
    have h1 : Ris f (f + n) (⟨0, f, 1, 1⟩ :: rowT f n) := by
      have q := row_ris f n
      refine ⟨List.pairwise_cons.mpr ⟨fun t ht => ?_, q.pw⟩, fun t ht => ?_, fun t ht => ?_⟩
      · have := q.lo_ t ht
        show f < t.b
        omega
      · rcases List.mem_cons.mp ht with rfl | ht
        · exact Int.le_refl _
        · have := q.lo_ t ht
          omega
      · rcases List.mem_cons.mp ht with rfl | ht
        · show f < f + n
          omega
        · exact q.hi_ t ht
    have h2 : Ris f (f + n + r.sum) ((⟨0, f, 1, 1⟩ :: rowT f n) ++ armsT (f + n) r) := h1.app ih (by omega) (by omega)
    rw [Int.add_assoc] at h2
    exact h2
theorem arms_tie : ∀ (ls : List Int) (f s : Int), 1 ≤ f → (∀ n ∈ ls, 1 ≤ n) → f + ls.sum ≤ s → ∀ t ∈ armsT f ls, TieOk 1 s t
  | [], _, _, _, _, _, t, ht => by cases ht
  | n :: r, f, s, hf, h, hs, t, ht => by
    have hn := h n List.mem_cons_self
    have hr := (arms_ris r (f + n) fun k hk => h k (List.mem_cons_of_mem _ hk)).2
    rw [List.sum_cons] at hs
    rcases List.mem_append.mp ht with q | q
    · rcases List.mem_cons.mp q with rfl | q
      · exact ⟨Int.le_refl 0, by show 0 < f; omega, by show f < s; omega, Int.le_refl 1, Int.le_refl 1, Int.le_refl 1, Int.le_refl 1⟩
      · exact row_tie (by omega) (by omega) t q
    · exact arms_tie r (f + n) s (by omega) (fun k hk => h k (List.mem_cons_of_mem _ hk)) (by omega) t q
theorem arms_ties {ls : List Int} {s : Int} (h : ∀ n ∈ ls, 1 ≤ n) (hs : 1 + ls.sum ≤ s) : TiesOk 1 s (armsT 1 ls) := (arms_ris ls 1 h).1.ties (arms_tie ls 1 s (by decide) h hs)
theorem arms_len : ∀ (ls : List Int) (f : Int), (∀ n ∈ ls, 1 ≤ n) → ((armsT f ls).length : Int) = ls.sum
  | [], _, _ => rfl
  | n :: r, f, h => by
    have hn := h n List.mem_cons_self
    have ih := arms_len r (f + n) fun k hk => h k (List.mem_cons_of_mem _ hk)
    show (((⟨0, f, 1, 1⟩ :: rowT f n) ++ armsT (f + n) r).length : Int) = _
    rw [List.length_append, List.length_cons, rowT_len, List.sum_cons]
    omega
theorem Dbl.split {ts ts' : List Tie} {i : Nat} {times : Int} (d : Dbl ts i times ts') : ∃ (t t' : Tie), ts = ts.take i ++ [t] ++ ts.drop (i + 1) ∧ ts' = ts.take i ++ [t'] ++ ts.drop (i + 1) ∧ t'.a = t.a ∧ t'.b = t.b ∧ ((t'.c = times ∧ t'.d = 1) ∨ (t'.c = 1 ∧ t'.d = times)) := by
  obtain ⟨t, x, y, ht, hxy, rfl⟩ := d.ex
  obtain ⟨hi, rfl⟩ := List.getElem?_eq_some_iff.mp ht
  refine ⟨ts[i], _, ?_, rfl, rfl, rfl, hxy⟩
  rw [List.append_assoc, List.singleton_append, ← List.drop_eq_getElem_cons hi, List.take_append_drop]
theorem Dbl.len {ts ts' : List Tie} {i : Nat} {times : Int} (d : Dbl ts i times ts') : ts'.length = ts.length := by
  obtain ⟨t, t', e1, e2, _⟩ := d.split
  have h1 := congrArg List.length e1
  have h2 := congrArg List.length e2
  rw [List.length_append, List.length_append, List.length_singleton] at h1 h2
  omega
theorem Dbl.ok {m m' s times : Int} {ts ts' : List Tie} {i : Nat} (d : Dbl ts i times ts') (h : TiesOk m s ts) (hm : m ≤ m') (h1 : 1 ≤ times) (h2 : times ≤ m') (h3 : 1 ≤ m') : TiesOk m' s ts' := by
  obtain ⟨t, t', e1, e2, ea, eb, hc⟩ := d.split
  have hmem : t ∈ ts := by
    rw [e1]
    exact List.mem_append_left _ (List.mem_append_right _ (List.mem_singleton.mpr rfl))
  have ht := h.all t hmem
  refine ⟨fun u hu => ?_, ?_⟩
  · rw [e2] at hu
    rcases List.mem_append.mp hu with q | q
    · rcases List.mem_append.mp q with q | q
      · exact (h.all u (List.mem_of_mem_take q)).mono hm (Int.le_refl _)
      · rw [List.mem_singleton] at q
        rw [q]
        refine ⟨by rw [ea]; exact ht.a0, by rw [ea, eb]; exact ht.ab, by rw [eb]; exact ht.bs, ?_, ?_, ?_, ?_⟩
        · rcases hc with ⟨a, b⟩ | ⟨a, b⟩ <;> omega
        · rcases hc with ⟨a, b⟩ | ⟨a, b⟩ <;> omega
        · rcases hc with ⟨a, b⟩ | ⟨a, b⟩ <;> omega
        · rcases hc with ⟨a, b⟩ | ⟨a, b⟩ <;> omega
    · exact (h.all u (List.mem_of_mem_drop q)).mono hm (Int.le_refl _)
  · have e : ts'.map pr = ts.map pr := by
      rw [e2, List.map_append, List.map_append]
      have e3 : ts.map pr = (ts.take i).map pr ++ [pr t] ++ (ts.drop (i + 1)).map pr := by
        have q := congrArg (List.map pr) e1
        rw [List.map_append, List.map_append] at q
        exact q
      rw [e3]
      have ep : pr t' = pr t := by
        show (t'.a, t'.b) = (t.a, t.b)
        rw [ea, eb]
      show (ts.take i).map pr ++ [pr t'] ++ _ = _
      rw [ep]
    show (ts'.map pr).Nodup
    rw [e]
    exact h.nd
theorem mov_tie {m s b : Int} {ts : List Tie} (h : TiesOk m s ts) (hb : 0 ≤ b) : TiesOk m (b + s) (movT ts b) := by
  refine ⟨fun u hu => ?_, ?_⟩
  · obtain ⟨t, ht, rfl⟩ := List.mem_map.mp hu
    have q := h.all t ht
    have q1 := q.a0
    have q2 := q.ab
    have q3 := q.bs
    exact ⟨by show 0 ≤ t.a + b; omega, by show t.a + b < t.b + b; omega, by show t.b + b < b + s; omega, q.c1, q.cm, q.d1, q.dm⟩
  · show ((movT ts b).map pr).Nodup
    rw [nd_iff]
    unfold movT
    rw [List.pairwise_map]
    refine (nd_iff.mp h.nd).imp fun {x y} q e => q ?_
    have e1 : x.a + b = y.a + b := congrArg Prod.fst e
    have e2 : x.b + b = y.b + b := congrArg Prod.snd e
    show (x.a, x.b) = (y.a, y.b)
    rw [show x.a = y.a by omega, show x.b = y.b by omega]
theorem mov_lo {b : Int} {ts : List Tie} {m s : Int} (h : TiesOk m s ts) : ∀ t ∈ movT ts b, b ≤ t.a := fun u hu => by
  obtain ⟨t, ht, rfl⟩ := List.mem_map.mp hu
  have := (h.all t ht).a0
  show b ≤ t.a + b
  omega
/-- two webs beside one another -/
theorem TiesOk.beside {m s s' : Int} {ts us : List Tie} (h : TiesOk m s ts) (h' : TiesOk m s' us) (hs : 0 ≤ s) (hs' : 0 ≤ s') : TiesOk m (s + s') (ts ++ movT us s) :=
  (h.mono (Int.le_refl _) (by omega)).app (mov_tie h' hs) fun x hx y hy e => by
    have e1 : x.a = y.a := congrArg Prod.fst e
    have q1 := (h.all x hx).ab
    have q2 := (h.all x hx).bs
    have q3 := mov_lo h' y hy
    omega
theorem mov_len (ts : List Tie) (b : Int) : (movT ts b).length = ts.length := by
  unfold movT
  rw [List.length_map]
/-! ### renamed -/
def renT (f : Int → Int) (t : Tie) : Tie := if f t.a < f t.b then ⟨f t.a, f t.b, t.c, t.d⟩ else ⟨f t.b, f t.a, t.d, t.c⟩
theorem ren_ties {m s : Int} {ts : List Tie} {f : Int → Int} (h : TiesOk m s ts) (hr : ∀ i, 0 ≤ i → i < s → 0 ≤ f i ∧ f i < s) (hi : ∀ i j, 0 ≤ i → i < s → 0 ≤ j → j < s → f i = f j → i = j) : TiesOk m s (ts.map (renT f)) := by
  refine ⟨fun u hu => ?_, ?_⟩
  · obtain ⟨t, ht, rfl⟩ := List.mem_map.mp hu
    have q := h.all t ht
    have q1 := q.a0
    have q2 := q.ab
    have q3 := q.bs
    have ha := hr t.a (by omega) (by omega)
    have hb := hr t.b (by omega) (by omega)
    unfold renT
    by_cases c : f t.a < f t.b
    · rw [if_pos c]
      exact ⟨ha.1, c, hb.2, q.c1, q.cm, q.d1, q.dm⟩
    · rw [if_neg c]
      have ne : f t.a ≠ f t.b := fun e => by
        have := hi _ _ (by omega) (by omega) (by omega) (by omega) e
        omega
      exact ⟨hb.1, by show f t.b < f t.a; omega, ha.2, q.d1, q.dm, q.c1, q.cm⟩
  · show ((ts.map (renT f)).map pr).Nodup
    rw [nd_iff, List.pairwise_map]
    have hp := nd_iff.mp h.nd
    refine List.Pairwise.imp_of_mem (fun {x y} hx hy q e => q ?_) hp
    have x1 := h.all x hx
    have y1 := h.all y hy
    have xa := x1.a0
    have xb := x1.ab
    have xs := x1.bs
    have ya := y1.a0
    have yb := y1.ab
    have ys := y1.bs
    have key : ∀ i j, 0 ≤ i → i < s → 0 ≤ j → j < s → f i = f j → i = j := hi
    have e1 : (renT f x).a = (renT f y).a := congrArg Prod.fst e
    have e2 : (renT f x).b = (renT f y).b := congrArg Prod.snd e
    show (x.a, x.b) = (y.a, y.b)
    unfold renT at e1 e2
    by_cases c1 : f x.a < f x.b
    · rw [if_pos c1] at e1 e2
      by_cases c2 : f y.a < f y.b
      · rw [if_pos c2] at e1 e2
        rw [key x.a y.a (by omega) (by omega) (by omega) (by omega) e1, key x.b y.b (by omega) (by omega) (by omega) (by omega) e2]
      · rw [if_neg c2] at e1 e2
        have k1 := key x.a y.b (by omega) (by omega) (by omega) (by omega) e1
        have k2 := key x.b y.a (by omega) (by omega) (by omega) (by omega) e2
        omega
    · rw [if_neg c1] at e1 e2
      by_cases c2 : f y.a < f y.b
      · rw [if_pos c2] at e1 e2
        have k1 := key x.b y.a (by omega) (by omega) (by omega) (by omega) e1
        have k2 := key x.a y.b (by omega) (by omega) (by omega) (by omega) e2
        omega
      · rw [if_neg c2] at e1 e2
        rw [key x.b y.b (by omega) (by omega) (by omega) (by omega) e1, key x.a y.a (by omega) (by omega) (by omega) (by omega) e2]
end Gb
set_option maxRecDepth 100000
set_option maxHeartbeats 4000000
namespace Gb
open PySem PySem.Spec PyProof.Rows L2
open PySem.W (Datum Tup T4)
theorem cutIf {c : TT} {tb tr : TS} {D : Ends} {σ : L2.St} {H : Hp} (hc : c σ H fun b H1 => if b = true then tb { D with nx := fun σ' H' => σ' = σ ∧ Same H H' } σ H1 else (σ = σ ∧ Same H H1)) (hr : ∀ H1, Same H H1 → tr D σ H1) : Evl.tCut (tIfS c tb tNext) tr D σ H :=
  ⟨fun σ' H' => σ' = σ ∧ Same H H', hc, fun σ' H' ⟨e, s⟩ => by
    rw [e]
    exact hr H' s⟩
theorem go_same {p c : Addr} {k : Nat} {H H1 H2 : Hp} (g : Go p c k H H1) (s : Same H1 H2) : Go p c k H H2 := g.trans (Go.of (p := p) (c := c) s)
/-- (size, ties) -/
def Web2 (K : PySem.W.Frag) (H : Hp) (r : V) (s : Int) (ts : List Tie) : Prop := ∃ t v, r = .ref t ∧ H t = some (.tup [.int s, v]) ∧ Ls K H v ts
theorem Ls.nw {K : PySem.W.Frag} {H H' : Hp} {v : V} {ts : List Tie} (h : Ls K (nw H H') v ts) : Ls K H' v ts := h.ex (Ex.of nw_le)
theorem eqI {i j : Int} (h : decide (V.int i = V.int j) = true) : i = j := V.int.inj (of_decide_eq_true h)
section
variable {P : Program} {w : World} {K : PySem.W.Frag} {mg : Str → Option Value} {base : Heap}
def spGood (K : PySem.W.Frag) : Sp := fun vs H Q _ => ∃ (p c : Addr) (n : Nat) (most : Int), vs = [.ref p, .int most] ∧ Pen H p c n ∧ n + 10 ≤ 2 ^ 60 ∧ 1 ≤ most ∧ most ≤ 12 ∧
  ∀ (r : V) (H' : Hp) (s : Int) (ts : List Tie), Go p c 10 H H' → Web2 K H' r s ts → 1 ≤ s → s ≤ most → TiesOk 3 s ts → ts.length ≤ 20 → Q r H'
theorem sc__law_good_shape : FnScope ["pen", "most", "road", "size", "last"] ["pen", "most"] (defScope s__law_good_shape) := ⟨rfl, rfl, rfl, by decide +kernel, rfl, by decide +kernel, by decide +kernel⟩
theorem ok__law_good_shape (D : Dn K mg "_law_good_shape" s__law_good_shape ["pen", "most"]) (B : Bt mg) (c__law_draw : Cl P w K mg base 1 "_law_draw" spDraw) (c__law_pick : Cl P w K mg base 2 "_law_pick" (spPick K)) (c__law_row_ties : Cl P w K mg base 1 "_law_row_ties" (spRow K)) (c__law_doubled : Cl P w K mg base 3 "_law_doubled" (spDbl K)) (c__law_arms_ties : Cl P w K mg base 2 "_law_arms_ties" (spArms K)) : Cl P w K mg base 4 "_law_good_shape" (spGood K) := by
  refine cl_of D sc__law_good_shape (fun vs H Q E h => ?_) (fun cdv f A outer s H vs Q E hr h => ?_)
  · obtain ⟨p, c, n, most, rfl, _⟩ := h
    rfl
  · obtain ⟨p, c, n, most, rfl, hp, hn, hm0, hm1, q⟩ := h
    have nd := sc__law_good_shape.nd
    refine ⟨_, (pss_cons (ps_set (i := 2) nd rfl (.inl rfl) (pe_c c__law_draw hr (by decide) (by rfl) (pa_cons (pv 0) (pa_cons pe_int pa_nil))))
    (pss_cons (ps_set (i := 3) nd rfl (.inl rfl) (pe_op op_add pe_int (pe_c c__law_draw hr (by decide) (by rfl) (pa_cons (pv 0) (pa_cons (pv 1) pa_nil)))))
    (Evl.pss_cut (ps_if (PW.pt (pw_and (pt_cmpR op_eq (pv 2) pe_int (nomark _)) (pw_and1 (pt_cmpR op_gt (pv 3) pe_int (nomark _)))))
    (pss_one (ps_ret (pe_tup (pa_cons (pv 3) (pa_cons (pe_c c__law_doubled hr (by decide) (by rfl) (pa_cons (pv 0) (pa_cons (pe_c c__law_row_ties hr (by decide) (by rfl) (pa_cons pe_int (pa_cons (pv 3) pa_nil))) (pa_cons (pe_op op_sub (pv 3) pe_int) (pa_cons pe_int pa_nil))))) pa_nil)))))
    pss_nil)
    (Evl.pss_cut (ps_if (PW.pt (pw_and (pt_cmpR op_eq (pv 2) pe_int (nomark _)) (pw_and1 (pt_cmpR op_gt (pv 1) pe_int (nomark _)))))
    (pss_one (ps_ret (pe_tup (pa_cons pe_int (pa_cons (pe_c c__law_doubled hr (by decide) (by rfl) (pa_cons (pv 0) (pa_cons (pe_lst (pa_cons (pe_tup (pa_cons pe_int (pa_cons pe_int (pa_cons pe_int (pa_cons pe_int pa_nil))))) pa_nil)) (pa_cons pe_int (pa_cons pe_int pa_nil))))) pa_nil)))))
    pss_nil)
    (Evl.pss_cut (ps_if (PW.pt (pw_and (pt_cmpR op_eq (pv 2) pe_int (nomark _)) (pw_and1 (pt_cmpR op_gt (pv 1) pe_int (nomark _)))))
    (pss_one (ps_ret (pe_tup (pa_cons pe_int (pa_cons (pe_c c__law_doubled hr (by decide) (by rfl) (pa_cons (pv 0) (pa_cons (pe_c c__law_row_ties hr (by decide) (by rfl) (pa_cons pe_int (pa_cons pe_int pa_nil))) (pa_cons pe_int (pa_cons pe_int pa_nil))))) pa_nil)))))
    pss_nil)
    (Evl.pss_cut (ps_if (PW.pt (pw_and (pt_cmpR op_inK (pv 2) (pe_tup (pa_cons pe_int (pa_cons pe_int pa_nil))) (by rfl)) (pw_and1 (pt_cmpR op_gt (pv 3) pe_int (nomark _)))))
    (pss_one (ps_ret (pe_tup (pa_cons (pv 3) (pa_cons (pe_c c__law_arms_ties hr (by decide) (by rfl) (pa_cons (pe_lst (pa_cons pe_int (pa_cons pe_int (pa_cons (pe_op op_sub (pv 3) pe_int) pa_nil)))) pa_nil)) pa_nil)))))
    pss_nil)
    (Evl.pss_cut (ps_if (PW.pt (pw_and (pt_cmpR op_eq (pv 2) pe_int (nomark _)) (pw_and1 (pt_cmpR op_gt (pv 1) pe_int (nomark _)))))
    (pss_cons (ps_set (i := 4) nd rfl (.inl rfl) (pe_c c__law_pick hr (by decide) (by rfl) (pa_cons (pv 0) (pa_cons (pe_slice sl_listK (pe_lst (pa_cons pe_int (pa_cons pe_int (pa_cons pe_int (pa_cons pe_int pa_nil))))) po_none (po_some (pe_callB (call_max2 rfl) (by rfl) B.max (by decide +kernel) (pa_cons pe_int (pa_cons (pe_op op_sub (pv 1) pe_int) pa_nil))))) pa_nil))))
    (pss_one (ps_ret (pe_tup (pa_cons (pe_op op_add pe_int (pv 4)) (pa_cons (pe_c c__law_arms_ties hr (by decide) (by rfl) (pa_cons (pe_lst (pa_cons pe_int (pa_cons pe_int (pa_cons (pv 4) pa_nil)))) pa_nil)) pa_nil))))))
    pss_nil)
    (pss_one (ps_ret (pe_tup (pa_cons (pv 3) (pa_cons (pe_c c__law_row_ties hr (by decide) (by rfl) (pa_cons pe_int (pa_cons (pv 3) pa_nil))) pa_nil)))))))))))), ?_⟩
    have fin : ∀ (H4 : Hp) (s : Int) (v : V) (ts' : List Tie) (k : Nat), Go p c k H H4 → k ≤ 10 → Ls K H4 v ts' → 1 ≤ s → s ≤ most → TiesOk 3 s ts' → ts'.length ≤ 20 → ∀ t, H4 t = none → Q (.ref t) (upd H4 t (.tup [.int s, v])) := fun H4 s v ts' k g hk hv h1 h2 h3 h4 t ht =>
      q _ _ s ts' ((go_same g (same_new ht)).mono hk) ⟨t, v, rfl, upd_same, hv.ex (Ex.new ht)⟩ h1 h2 h3 h4
    -- road, size
    refine ⟨.ref p, rfl, ⟨p, c, n, 8, rfl, hp, by omega, by decide, by decide, fun road H1 r0 r1 g1 => ?_⟩⟩
    refine ⟨.ref p, rfl, .int most, rfl, ⟨p, c, n + 1, most, rfl, g1.2 n hp, by omega, by omega, by omega, fun d H2 d0 d1 g2 => ⟨1, d, rfl, rfl, ?_⟩⟩⟩
    have g : Go p c 2 H H2 := g1.trans g2
    obtain ⟨s, es⟩ : ∃ s : Int, s = 1 + d := ⟨_, rfl⟩
    have hs1 : 1 ≤ s := by omega
    have hs2 : s ≤ most := by omega
    show Evl.tCut _ _ _ (_ : L2.St) H2
    have eσ : (((start ["pen", "most", "road", "size", "last"] [.ref p, .int most]).set 2 (some (.int road))).set 3 (some (.int (1 + d)))) = [some (.ref p), some (.int most), some (.int road), some (.int s), none] := by
      rw [es]
      rfl
    rw [eσ]
    clear eσ es d0 d1
    -- an end
    refine cutIf ⟨.int road, rfl, rfl, _, rfl, ite2 (fun e => ⟨.int s, rfl, s, 1, rfl, rfl, _, rfl, ite2 (fun hs => ?_) (fun _ => ⟨rfl, Same.refl _⟩)⟩) (fun _ => ⟨rfl, Same.refl _⟩)⟩ fun H3 s3 => ?_
    · have hs3 : 1 < s := of_decide_eq_true hs
      refine ⟨.int s, rfl, .ref p, rfl, .int s, rfl, ⟨0, s, rfl, by omega, by omega, fun v H4 s4 hv => ?_⟩⟩
      refine ⟨.int s, rfl, s, 2, rfl, rfl, ⟨p, c, n + 2, v, rowT 0 s, (s - 2).toNat, 2, ?_, (go_same g s4).2 n hp, by omega, hv.nw.is, by rw [rowT_len]; omega, by rw [rowT_len]; omega, fun r H5 ts' g5 hr5 d5 => ?_⟩⟩
      · rw [show ((s - 2).toNat : Int) = s - 2 by omega]
        rfl
      · exact ⟨by show 2 ≤ sizeLine; decide, fin H5 s r ts' 3 ((go_same g s4).trans g5) (by decide) hr5 hs1 hs2 (d5.ok (row_ties (Int.le_refl _)) (by decide) (by decide) (by decide) (by decide)) (by rw [d5.len, rowT_len]; omega)⟩
    have g := go_same g s3
    -- the three
    refine cutIf ⟨.int road, rfl, rfl, _, rfl, ite2 (fun e => ⟨.int most, rfl, most, 1, rfl, rfl, _, rfl, ite2 (fun hs => ?_) (fun _ => ⟨rfl, Same.refl _⟩)⟩) (fun _ => ⟨rfl, Same.refl _⟩)⟩ fun H4 s4 => ?_
    · have hs3 : 1 < most := of_decide_eq_true hs
      refine ⟨.ref p, rfl, by show 4 ≤ sizeLine; decide, fun t ht => ?_⟩
      have k1 : (upd H3 t (.tup [.int 0, .int 1, .int 1, .int 1])) t = some (.tup [.int 0, .int 1, .int 1, .int 1]) := upd_same
      have s1 : Same H3 (upd H3 t (.tup [.int 0, .int 1, .int 1, .int 1])) := same_new ht
      generalize upd H3 t (.tup [.int 0, .int 1, .int 1, .int 1]) = H5 at k1 s1 ⊢
      refine ⟨by show 1 ≤ sizeLine; decide, fun l hl => ?_⟩
      have k2 : (upd H5 l (.lst [.ref t])) l = some (.lst [.ref t]) := upd_same
      have s2 : Same H5 (upd H5 l (.lst [.ref t])) := same_new hl
      generalize upd H5 l (.lst [.ref t]) = H6 at k2 s2 ⊢
      have one : Is K H6 (.ref l) ([⟨0, 1, 1, 1⟩] : List Tie) := .lst (SqL.of k2) (dpa_one (is_t4 (s2 _ _ k1)))
      refine ⟨p, c, n + 2, .ref l, [⟨0, 1, 1, 1⟩], 0, 3, rfl, (go_same g (s1.trans s2)).2 n hp, by omega, one, by decide, by decide, fun r H7 ts' g7 hr7 d7 => ?_⟩
      have ok1 : TiesOk 1 2 ([⟨0, 1, 1, 1⟩] : List Tie) := row_ties (n := 2) (Int.le_refl 2)
      exact ⟨by show 2 ≤ sizeLine; decide, fin H7 2 r ts' 3 ((go_same g (s1.trans s2)).trans g7) (by decide) hr7 (by decide) (by omega) (d7.ok ok1 (by decide) (by decide) (by decide) (by decide)) (by rw [d7.len]; decide)⟩
    have g := go_same g s4
    -- the middle
    refine cutIf ⟨.int road, rfl, rfl, _, rfl, ite2 (fun e => ⟨.int most, rfl, most, 3, rfl, rfl, _, rfl, ite2 (fun hs => ?_) (fun _ => ⟨rfl, Same.refl _⟩)⟩) (fun _ => ⟨rfl, Same.refl _⟩)⟩ fun H5 s5 => ?_
    · have hs3 : 3 < most := of_decide_eq_true hs
      refine ⟨.ref p, rfl, ⟨0, 4, rfl, by decide, by decide, fun v H6 s6 hv => ?_⟩⟩
      refine ⟨p, c, n + 2, v, rowT 0 4, 1, 2, rfl, (go_same g s6).2 n hp, by omega, hv.nw.is, by decide, by decide, fun r H7 ts' g7 hr7 d7 => ?_⟩
      exact ⟨by show 2 ≤ sizeLine; decide, fin H7 4 r ts' 3 ((go_same g s6).trans g7) (by decide) hr7 (by decide) (by omega) (d7.ok (row_ties (Int.le_refl 4)) (by decide) (by decide) (by decide) (by decide)) (by rw [d7.len]; decide)⟩
    have g := go_same g s5
    -- a fork
    refine cutIf ⟨.int road, rfl, by show 2 ≤ sizeLine; decide, fun t ht => ⟨t, _, rfl, .inr (SqT.of upd_same), rfl, rfl, _, rfl, ite2 (fun e => ⟨.int s, rfl, s, 3, rfl, rfl, _, rfl, ite2 (fun hs => ?_) (fun _ => ⟨rfl, same_new ht⟩)⟩) (fun _ => ⟨rfl, same_new ht⟩)⟩⟩ fun H6 s6 => ?_
    · have hs3 : 3 < s := of_decide_eq_true hs
      have s1 : Same H5 (upd H5 t (.tup [.int 3, .int 4])) := same_new ht
      refine ⟨.int s, rfl, .int s, rfl, s, 3, rfl, rfl, by show 3 ≤ sizeLine; decide, fun l hl => ?_⟩
      have s2 := s1.trans (same_new (o := .lst [.int 1, .int 1, .int (s - 3)]) hl)
      have one : Is K (upd (upd H5 t (.tup [.int 3, .int 4])) l (.lst [.int 1, .int 1, .int (s - 3)])) (.ref l) ([1, 1, s - 3] : List Int) := .lst (SqL.of upd_same) (dpa_of_ints [1, 1, s - 3])
      have h3 : ∀ k ∈ [1, 1, s - 3], (1 : Int) ≤ k := by
        intro k hk
        simp only [List.mem_cons, List.not_mem_nil, or_false] at hk
        omega
      refine ⟨.ref l, [1, 1, s - 3], rfl, one, (by show 3 ≤ 10; decide), ?_, fun r H7 s7 hr7 => ?_⟩
      · intro k hk
        simp only [List.mem_cons, List.not_mem_nil, or_false] at hk
        omega
      have hsum : ([1, 1, s - 3] : List Int).sum = s - 1 := by
        simp only [List.sum_cons, List.sum_nil]
        omega
      have hl3 := arms_len [1, 1, s - 3] 1 h3
      rw [hsum] at hl3
      exact ⟨by show 2 ≤ sizeLine; decide, fin H7 s r _ 2 (go_same g (s2.trans s7)) (by decide) hr7.nw hs1 hs2 ((arms_ties h3 (by rw [hsum]; omega)).mono (by decide) (Int.le_refl _)) (by omega)⟩
    have g := go_same g s6
    -- arms
    refine cutIf ⟨.int road, rfl, rfl, _, rfl, ite2 (fun e => ⟨.int most, rfl, most, 5, rfl, rfl, _, rfl, ite2 (fun hs => ?_) (fun _ => ⟨rfl, Same.refl _⟩)⟩) (fun _ => ⟨rfl, Same.refl _⟩)⟩ fun H7 s7 => ?_
    · have hs3 : 5 < most := of_decide_eq_true hs
      refine ⟨.ref p, rfl, by show 4 ≤ sizeLine; decide, fun l hl => ?_⟩
      have k1 : (upd H6 l (.lst [.int 2, .int 2, .int 3, .int 4])) l = some (.lst [.int 2, .int 2, .int 3, .int 4]) := upd_same
      have s1 : Same H6 (upd H6 l (.lst [.int 2, .int 2, .int 3, .int 4])) := same_new hl
      generalize upd H6 l (.lst [.int 2, .int 2, .int 3, .int 4]) = H8 at k1 s1 ⊢
      refine ⟨.int most, rfl, most, 4, rfl, rfl, 2, most - 4, rfl, _, rfl, l, [.int 2, .int 2, .int 3, .int 4], rfl, SqL.of k1, fun l2 hl2 => ?_⟩
      obtain ⟨m4, em4⟩ : ∃ m4 : Nat, (if most - 4 > 2 then most - 4 else 2) = (m4 : Int) := ⟨(if most - 4 > 2 then most - 4 else 2).toNat, by split <;> omega⟩
      have hm4 : 2 ≤ m4 ∧ (m4 : Int) ≤ (if most - 4 > 2 then most - 4 else 2) := by
        constructor
        · split at em4 <;> omega
        · omega
      rw [em4, cut_to]
      have k2 : (upd H8 l2 (.lst (([.int 2, .int 2, .int 3, .int 4] : List V).take m4))) l2 = some (.lst (([.int 2, .int 2, .int 3, .int 4] : List V).take m4)) := upd_same
      have s2 : Same H8 (upd H8 l2 (.lst (([.int 2, .int 2, .int 3, .int 4] : List V).take m4))) := same_new hl2
      generalize upd H8 l2 (.lst (([.int 2, .int 2, .int 3, .int 4] : List V).take m4)) = H9 at k2 s2 ⊢
      refine ⟨p, c, l2, n + 2, _, rfl, (go_same g (s1.trans s2)).2 n hp, by omega, SqL.of k2, by rw [List.length_take]; show 0 < min m4 4; omega, by rw [List.length_take]; show min m4 4 < 1000; omega, fun i v Ha hv ga => ?_⟩
      obtain ⟨z, rfl, hz1, hz2⟩ : ∃ z : Int, v = .int z ∧ 2 ≤ z ∧ 4 + z ≤ most := by
        rw [List.getElem?_take] at hv
        split at hv
        · rename_i hi
          match i, hv with
          | 0, e => exact ⟨2, (Option.some.inj e).symm, by decide, by omega⟩
          | 1, e => exact ⟨2, (Option.some.inj e).symm, by decide, by omega⟩
          | 2, e => exact ⟨3, (Option.some.inj e).symm, by decide, by split at em4 <;> omega⟩
          | 3, e => exact ⟨4, (Option.some.inj e).symm, by decide, by split at em4 <;> omega⟩
        · cases hv
      have g8 := (go_same g (s1.trans s2)).trans ga
      refine ⟨.int z, rfl, 4, z, rfl, rfl, .int z, rfl, by show 3 ≤ sizeLine; decide, fun l3 hl3 => ?_⟩
      have k3 : (upd Ha l3 (.lst [.int 1, .int 2, .int z])) l3 = some (.lst [.int 1, .int 2, .int z]) := upd_same
      have s3' : Same Ha (upd Ha l3 (.lst [.int 1, .int 2, .int z])) := same_new hl3
      generalize upd Ha l3 (.lst [.int 1, .int 2, .int z]) = Hb at k3 s3' ⊢
      have one : Is K Hb (.ref l3) ([1, 2, z] : List Int) := .lst (SqL.of k3) (dpa_of_ints [1, 2, z])
      have h3 : ∀ k ∈ [1, 2, z], (1 : Int) ≤ k := by
        intro k hk
        simp only [List.mem_cons, List.not_mem_nil, or_false] at hk
        omega
      refine ⟨.ref l3, [1, 2, z], rfl, one, (by show 3 ≤ 10; decide), ?_, fun r Hc sc hr => ?_⟩
      · intro k hk
        simp only [List.mem_cons, List.not_mem_nil, or_false] at hk
        omega
      have hsum : ([1, 2, z] : List Int).sum = 3 + z := by
        simp only [List.sum_cons, List.sum_nil]
        omega
      have hl3 := arms_len [1, 2, z] 1 h3
      rw [hsum] at hl3
      exact ⟨by show 2 ≤ sizeLine; decide, fin Hc (4 + z) r _ 3 (go_same g8 (s3'.trans sc)) (by decide) hr.nw (by omega) (by omega) ((arms_ties h3 (by rw [hsum]; omega)).mono (by decide) (Int.le_refl _)) (by omega)⟩
    have g := go_same g s7
    -- a row
    refine ⟨.int s, rfl, .int s, rfl, ⟨0, s, rfl, by omega, by omega, fun v H8 s8 hv => ?_⟩⟩
    exact ⟨by show 2 ≤ sizeLine; decide, fin H8 s v _ 2 (go_same g s8) (by decide) hv.nw hs1 hs2 ((row_ties (Int.le_refl _)).mono (by decide) (Int.le_refl _)) (by rw [rowT_len]; omega)⟩
end
end Gb
set_option maxRecDepth 100000
set_option maxHeartbeats 4000000
namespace Gb
open PySem PySem.Spec PyProof.Rows L2
open PySem.W (Datum Tup T4)
theorem ints3 {a b c : Int} {R : Int → Prop} (ha : R a) (hb : R b) (hc : R c) : ∀ k ∈ [a, b, c], R k := by
  intro k hk
  rcases List.mem_cons.mp hk with rfl | hk
  · exact ha
  rcases List.mem_cons.mp hk with rfl | hk
  · exact hb
  rcases List.mem_cons.mp hk with rfl | hk
  · exact hc
  · cases hk
theorem sum3 {a b c : Int} : ([a, b, c] : List Int).sum = a + b + c := by
  simp only [List.sum_cons, List.sum_nil]
  omega
section
variable {P : Program} {w : World} {K : PySem.W.Frag} {mg : Str → Option Value} {base : Heap}
def spFlat (K : PySem.W.Frag) : Sp := fun vs H Q _ => ∃ (p c : Addr) (n : Nat) (most : Int), vs = [.ref p, .int most] ∧ Pen H p c n ∧ n + 10 ≤ 2 ^ 60 ∧ 2 ≤ most ∧ most ≤ 12 ∧
  ∀ (r : V) (H' : Hp) (s : Int) (ts : List Tie), Go p c 10 H H' → Web2 K H' r s ts → 2 ≤ s → s ≤ most → TiesOk 4 s ts → ts.length ≤ 20 → 0 < ts.length → Q r H'
theorem sc__law_flat_shape : FnScope ["pen", "most", "size", "road", "ties", "arms"] ["pen", "most"] (defScope s__law_flat_shape) := ⟨rfl, rfl, rfl, by decide +kernel, rfl, by decide +kernel, by decide +kernel⟩
theorem ok__law_flat_shape (D : Dn K mg "_law_flat_shape" s__law_flat_shape ["pen", "most"]) (B : Bt mg) (c__law_draw : Cl P w K mg base 1 "_law_draw" spDraw) (c__law_pick : Cl P w K mg base 2 "_law_pick" (spPick K)) (c__law_row_ties : Cl P w K mg base 1 "_law_row_ties" (spRow K)) (c__law_doubled : Cl P w K mg base 3 "_law_doubled" (spDbl K)) (c__law_arms_ties : Cl P w K mg base 2 "_law_arms_ties" (spArms K)) : Cl P w K mg base 4 "_law_flat_shape" (spFlat K) := by
  refine cl_of D sc__law_flat_shape (fun vs H Q E h => ?_) (fun cdv f A outer s H vs Q E hr h => ?_)
  · obtain ⟨p, c, n, most, rfl, _⟩ := h
    rfl
  · obtain ⟨p, c, n, most, rfl, hp, hn, hm0, hm1, q⟩ := h
    have nd := sc__law_flat_shape.nd
    refine ⟨_, (pss_cons (ps_par (i := 2) (j := 3) (by rfl) nd rfl rfl (by decide) rfl rfl (pa_cons (pe_op op_add pe_int (pe_c c__law_draw hr (by decide) (by rfl) (pa_cons (pv 0) (pa_cons (pe_op op_sub (pv 1) pe_int) pa_nil)))) (pa_cons (pe_c c__law_draw hr (by decide) (by rfl) (pa_cons (pv 0) (pa_cons pe_int pa_nil))) pa_nil)) (by rfl))
    (Evl.pss_cut (ps_if (PW.pt (pw_and (pt_cmpR op_eq (pv 3) pe_int (nomark _)) (pw_and1 (pt_cmpR op_gt (pv 2) pe_int (nomark _)))))
    (pss_one (ps_ret (pe_tup (pa_cons (pv 2) (pa_cons (pe_op op_cat (pe_c c__law_row_ties hr (by decide) (by rfl) (pa_cons pe_int (pa_cons (pv 2) pa_nil))) (pe_lst (pa_cons (pe_tup (pa_cons pe_int (pa_cons (pe_op op_sub (pv 2) pe_int) (pa_cons pe_int (pa_cons pe_int pa_nil))))) pa_nil))) pa_nil)))))
    pss_nil)
    (Evl.pss_cut (ps_if (PW.pt (pw_and (pt_cmpR op_eq (pv 3) pe_int (nomark _)) (pw_and1 (pt_cmpR op_gt (pv 2) pe_int (nomark _)))))
    (pss_cons (ps_set (i := 4) nd rfl (.inl rfl) (pe_c c__law_doubled hr (by decide) (by rfl) (pa_cons (pv 0) (pa_cons (pe_c c__law_row_ties hr (by decide) (by rfl) (pa_cons pe_int (pa_cons (pv 2) pa_nil))) (pa_cons pe_int (pa_cons pe_int pa_nil))))))
    (pss_one (ps_ret (pe_tup (pa_cons (pv 2) (pa_cons (pe_c c__law_doubled hr (by decide) (by rfl) (pa_cons (pv 0) (pa_cons (pv 4) (pa_cons (pe_op op_sub (pv 2) pe_int) (pa_cons pe_int pa_nil))))) pa_nil))))))
    pss_nil)
    (Evl.pss_cut (ps_if (PW.pt (pw_and (pt_cmpR op_eq (pv 3) pe_int (nomark _)) (pw_and1 (pt_cmpR op_gt (pv 2) pe_int (nomark _)))))
    (pss_one (ps_ret (pe_tup (pa_cons (pv 2) (pa_cons (pe_op op_cat (pe_c c__law_arms_ties hr (by decide) (by rfl) (pa_cons (pe_lst (pa_cons pe_int (pa_cons pe_int (pa_cons (pe_op op_sub (pv 2) pe_int) pa_nil)))) pa_nil)) (pe_lst (pa_cons (pe_tup (pa_cons (pe_ifExp (pt_cmpR op_eq (pv 2) pe_int (nomark _)) pe_int (pe_op op_sub (pv 2) pe_int)) (pa_cons (pe_op op_sub (pv 2) pe_int) (pa_cons pe_int (pa_cons pe_int pa_nil))))) pa_nil))) pa_nil)))))
    pss_nil)
    (Evl.pss_cut (ps_if (PW.pt (pw_and (pt_cmpR op_eq (pv 3) pe_int (nomark _)) (pw_and1 (pt_cmpR op_gt (pv 1) pe_int (nomark _)))))
    (pss_cons (ps_set (i := 5) nd rfl (.inl rfl) (pe_c c__law_pick hr (by decide) (by rfl) (pa_cons (pv 0) (pa_cons (pe_slice sl_listK (pe_lst (pa_cons (pe_lst (pa_cons pe_int (pa_cons pe_int (pa_cons pe_int pa_nil)))) (pa_cons (pe_lst (pa_cons pe_int (pa_cons pe_int (pa_cons pe_int pa_nil)))) (pa_cons (pe_lst (pa_cons pe_int (pa_cons pe_int (pa_cons pe_int pa_nil)))) pa_nil)))) po_none (po_some (pe_op op_sub (pv 1) pe_int))) pa_nil))))
    (pss_one (ps_ret (pe_tup (pa_cons (pe_op op_add pe_int (pe_callB (cr_sumK rfl) (by rfl) B.sum (by decide +kernel) (pa_cons (pv 5) pa_nil))) (pa_cons (pe_c c__law_arms_ties hr (by decide) (by rfl) (pa_cons (pv 5) pa_nil)) pa_nil))))))
    pss_nil)
    (Evl.pss_cut (ps_if (PW.pt (pw_and (pt_cmpR op_eq (pv 3) pe_int (nomark _)) (pw_and1 (pt_cmpR op_gt (pv 1) pe_int (nomark _)))))
    (pss_one (ps_ret (pe_tup (pa_cons pe_int (pa_cons (pe_c c__law_doubled hr (by decide) (by rfl) (pa_cons (pv 0) (pa_cons (pe_c c__law_row_ties hr (by decide) (by rfl) (pa_cons pe_int (pa_cons pe_int pa_nil))) (pa_cons pe_int (pa_cons pe_int pa_nil))))) pa_nil)))))
    pss_nil)
    (Evl.pss_cut (ps_if (PW.pt (pw_and (pt_cmpR op_eq (pv 3) pe_int (nomark _)) (pw_and1 (pt_cmpR op_gt (pv 2) pe_int (nomark _)))))
    (pss_cons (ps_set (i := 4) nd rfl (.inl rfl) (pe_c c__law_arms_ties hr (by decide) (by rfl) (pa_cons (pe_lst (pa_cons pe_int (pa_cons pe_int (pa_cons (pe_op op_sub (pv 2) pe_int) pa_nil)))) pa_nil)))
    (pss_one (ps_ret (pe_tup (pa_cons (pv 2) (pa_cons (pe_c c__law_doubled hr (by decide) (by rfl) (pa_cons (pv 0) (pa_cons (pv 4) (pa_cons (pe_op op_sub (pe_callB call_lenK (by rfl) B.len PySem.boot_len (pa_cons (pv 4) pa_nil)) pe_int) (pa_cons pe_int pa_nil))))) pa_nil))))))
    pss_nil)
    (Evl.pss_cut (ps_if (PW.pt (pw_and (pt_cmpR op_eq (pv 3) pe_int (nomark _)) (pw_and1 (pt_cmpR op_gt (pv 1) pe_int (nomark _)))))
    (pss_one (ps_ret (pe_tup (pa_cons pe_int (pa_cons (pe_c c__law_doubled hr (by decide) (by rfl) (pa_cons (pv 0) (pa_cons (pe_c c__law_row_ties hr (by decide) (by rfl) (pa_cons pe_int (pa_cons pe_int pa_nil))) (pa_cons pe_int (pa_cons pe_int pa_nil))))) pa_nil)))))
    pss_nil)
    (pss_one (ps_ret (pe_tup (pa_cons pe_int (pa_cons (pe_lst (pa_cons (pe_c c__law_pick hr (by decide) (by rfl) (pa_cons (pv 0) (pa_cons (pe_lst (pa_cons (pe_tup (pa_cons pe_int (pa_cons pe_int (pa_cons pe_int (pa_cons pe_int pa_nil))))) (pa_cons (pe_tup (pa_cons pe_int (pa_cons pe_int (pa_cons pe_int (pa_cons pe_int pa_nil))))) (pa_cons (pe_tup (pa_cons pe_int (pa_cons pe_int (pa_cons pe_int (pa_cons pe_int pa_nil))))) pa_nil)))) pa_nil))) pa_nil)) pa_nil))))))))))))), ?_⟩
    have fin : ∀ (H4 : Hp) (s : Int) (v : V) (ts' : List Tie) (k : Nat), Go p c k H H4 → k ≤ 10 → Ls K H4 v ts' → 2 ≤ s → s ≤ most → TiesOk 4 s ts' → ts'.length ≤ 20 → 0 < ts'.length → ∀ t, H4 t = none → Q (.ref t) (upd H4 t (.tup [.int s, v])) := fun H4 s v ts' k g hk hv h1 h2 h3 h4 h5 t ht =>
      q _ _ s ts' ((go_same g (same_new ht)).mono hk) ⟨t, v, rfl, upd_same, hv.ex (Ex.new ht)⟩ h1 h2 h3 h4 h5
    -- size, road
    refine ⟨.ref p, rfl, .int most, rfl, most, 1, rfl, rfl, ⟨p, c, n, most - 1, rfl, hp, by omega, by omega, by omega, fun d H1 d0 d1 g1 => ⟨2, d, rfl, rfl, ?_⟩⟩⟩
    refine ⟨.ref p, rfl, ⟨p, c, n + 1, 9, rfl, g1.2 n hp, by omega, by decide, by decide, fun road H2 r0 r1 g2 => ?_⟩⟩
    have g : Go p c 2 H H2 := g1.trans g2
    obtain ⟨s, es⟩ : ∃ s : Int, s = 2 + d := ⟨_, rfl⟩
    have hs1 : 2 ≤ s := by omega
    have hs2 : s ≤ most := by omega
    refine ⟨.int s, .int road, by rw [es], ?_⟩
    clear es d0 d1
    -- a ring
    refine cutIf ⟨.int road, rfl, rfl, _, rfl, ite2 (fun e => ⟨.int s, rfl, s, 2, rfl, rfl, _, rfl, ite2 (fun hs => ?_) (fun _ => ⟨rfl, Same.refl _⟩)⟩) (fun _ => ⟨rfl, Same.refl _⟩)⟩ fun H3 s3 => ?_
    · have hs3 : 2 < s := of_decide_eq_true hs
      refine ⟨.int s, rfl, .int s, rfl, ⟨0, s, rfl, by omega, by omega, fun v H4 s4 hv => ?_⟩⟩
      obtain ⟨a, zs, rfl, ha, hz⟩ := hv.nw
      refine ⟨.int s, rfl, s, 1, rfl, rfl, by show 4 ≤ sizeLine; decide, fun t ht => ?_⟩
      have k1 : (upd H4 t (.tup [.int 0, .int (s - 1), .int 1, .int 1])) t = some (.tup [.int 0, .int (s - 1), .int 1, .int 1]) := upd_same
      have s1 : Same H4 (upd H4 t (.tup [.int 0, .int (s - 1), .int 1, .int 1])) := same_new ht
      generalize upd H4 t (.tup [.int 0, .int (s - 1), .int 1, .int 1]) = H5 at k1 s1 ⊢
      refine ⟨by show 1 ≤ sizeLine; decide, fun l hl => ?_⟩
      have k2 : (upd H5 l (.lst [.ref t])) l = some (.lst [.ref t]) := upd_same
      have s2 : Same H5 (upd H5 l (.lst [.ref t])) := same_new hl
      generalize upd H5 l (.lst [.ref t]) = H6 at k2 s2 ⊢
      have hzl : zs.length ≤ 20 := by
        rw [all_len hz, rowT_len]
        omega
      refine ⟨a, l, zs, [.ref t], rfl, rfl, s2 _ _ (s1 _ _ ha), k2, Nat.le_trans (by show zs.length + 1 ≤ 21; omega) (by decide : 21 ≤ sizeLine), fun l2 hl2 => ?_⟩
      have k3 : (upd H6 l2 (.lst (zs ++ [.ref t]))) l2 = some (.lst (zs ++ [.ref t])) := upd_same
      have s3' : Same H6 (upd H6 l2 (.lst (zs ++ [.ref t]))) := same_new hl2
      generalize upd H6 l2 (.lst (zs ++ [.ref t])) = H7 at k3 s3' ⊢
      have s47 : Same H4 H7 := s1.trans (s2.trans s3')
      have hr : Ls K H7 (.ref l2) (rowT 0 s ++ [⟨0, s - 1, 1, 1⟩]) := ⟨l2, _, rfl, k3, all_snoc (DpAll.ex (Ex.of s47) hz) (is_t4 (s3' _ _ (s2 _ _ k1)))⟩
      refine ⟨by show 2 ≤ sizeLine; decide, fin H7 s (.ref l2) _ 2 (go_same g (s4.trans s47)) (by decide) hr hs1 hs2 ?_ (by rw [List.length_append, rowT_len]; show (s - 1).toNat + 1 ≤ 20; omega) (by rw [List.length_append]; show 0 < _ + 1; omega)⟩
      refine ((row_ties (Int.le_refl s)).mono (by decide) (Int.le_refl _)).snoc ⟨Int.le_refl 0, by show 0 < s - 1; omega, by show s - 1 < s; omega, Int.le_refl 1, (by show (1 : Int) ≤ 4; decide), Int.le_refl 1, (by show (1 : Int) ≤ 4; decide)⟩ fun x hx e => ?_
      unfold rowT at hx
      obtain ⟨k, hk, rfl⟩ := List.mem_map.mp hx
      have e1 : 0 + (k : Int) = 0 := congrArg Prod.fst e
      have e2 : 0 + (k : Int) + 1 = s - 1 := congrArg Prod.snd e
      omega
    have g := go_same g s3
    -- two ends
    refine cutIf ⟨.int road, rfl, rfl, _, rfl, ite2 (fun e => ⟨.int s, rfl, s, 2, rfl, rfl, _, rfl, ite2 (fun hs => ?_) (fun _ => ⟨rfl, Same.refl _⟩)⟩) (fun _ => ⟨rfl, Same.refl _⟩)⟩ fun H4 s4 => ?_
    · have hs3 : 2 < s := of_decide_eq_true hs
      refine ⟨.ref p, rfl, .int s, rfl, ⟨0, s, rfl, by omega, by omega, fun v H4 s4 hv => ?_⟩⟩
      refine ⟨p, c, n + 2, v, rowT 0 s, 0, 2, rfl, (go_same g s4).2 n hp, by omega, hv.nw.is, by rw [rowT_len]; omega, by rw [rowT_len]; omega, fun r H5 ts5 g5 hr5 d5 => ?_⟩
      have g5' := (go_same g s4).trans g5
      have ok5 : TiesOk 4 s ts5 := d5.ok (row_ties (Int.le_refl s)) (by decide) (by decide) (by decide) (by decide)
      have l5 : ts5.length = (s - 1).toNat := by rw [d5.len, rowT_len]
      refine ⟨.int s, rfl, .ref p, rfl, r, rfl, .int s, rfl, s, 2, rfl, rfl, ⟨p, c, n + 3, r, ts5, (s - 2).toNat, 2, ?_, g5'.2 n hp, by omega, hr5.is, by omega, by omega, fun r6 H6 ts6 g6 hr6 d6 => ?_⟩⟩
      · rw [show ((s - 2).toNat : Int) = s - 2 by omega]
        rfl
      · exact ⟨by show 2 ≤ sizeLine; decide, fin H6 s r6 ts6 4 (g5'.trans g6) (by decide) hr6 hs1 hs2 (d6.ok ok5 (by decide) (by decide) (by decide) (by decide)) (by rw [d6.len]; omega) (by rw [d6.len]; omega)⟩
    have g := go_same g s4
    -- forks at both ends
    refine cutIf ⟨.int road, rfl, rfl, _, rfl, ite2 (fun e => ⟨.int s, rfl, s, 4, rfl, rfl, _, rfl, ite2 (fun hs => ?_) (fun _ => ⟨rfl, Same.refl _⟩)⟩) (fun _ => ⟨rfl, Same.refl _⟩)⟩ fun H5 s5 => ?_
    · have hs3 : 4 < s := of_decide_eq_true hs
      refine ⟨.int s, rfl, .int s, rfl, s, 4, rfl, rfl, by show 3 ≤ sizeLine; decide, fun l hl => ?_⟩
      have k1 : (upd H4 l (.lst [.int 1, .int 1, .int (s - 4)])) l = some (.lst [.int 1, .int 1, .int (s - 4)]) := upd_same
      have s1 : Same H4 (upd H4 l (.lst [.int 1, .int 1, .int (s - 4)])) := same_new hl
      generalize upd H4 l (.lst [.int 1, .int 1, .int (s - 4)]) = H6 at k1 s1 ⊢
      have one : Is K H6 (.ref l) ([1, 1, s - 4] : List Int) := .lst (SqL.of k1) (dpa_of_ints [1, 1, s - 4])
      have h3 : ∀ k ∈ [1, 1, s - 4], (1 : Int) ≤ k := ints3 (by decide) (by decide) (by omega)
      refine ⟨.ref l, [1, 1, s - 4], rfl, one, (by show 3 ≤ 10; decide), ints3 (by decide) (by decide) ⟨by omega, by omega⟩, fun v H7 s7 hv => ?_⟩
      obtain ⟨a, zs, rfl, ha, hz⟩ := hv.nw
      have hsum : ([1, 1, s - 4] : List Int).sum = s - 2 := by
        rw [sum3]
        omega
      have hl3 := arms_len [1, 1, s - 4] 1 h3
      rw [hsum] at hl3
      have hzl := all_len hz
      -- the last tie
      refine ⟨.int s, rfl, rfl, _, rfl, ?_⟩
      obtain ⟨a0, h0a, h0b, hval⟩ : ∃ a0 : Int, 0 ≤ a0 ∧ a0 < s - 1 ∧ ∀ F : V → Prop, F (.int a0) → if decide (V.int s = V.int 5) = true then F (.int 0) else F (.int (s - 3)) := by
        by_cases h5 : s = 5
        · refine ⟨0, by omega, by omega, fun F f => ?_⟩
          rw [if_pos (by rw [h5]; rfl)]
          exact f
        · refine ⟨s - 3, by omega, by omega, fun F f => ?_⟩
          rw [if_neg (fun e => h5 (eqI e))]
          exact f
      have key : ∀ F : V → Hp → Prop, F (.int a0) H7 → (if decide (V.int s = V.int 5) = true then tC (.int 0) [some (.ref p), some (.int most), some (.int s), some (.int road), none, none] H7 F else tOp (rI0 fun i j => .int (i - j)) (tVar 2) (tC (.int 3)) [some (.ref p), some (.int most), some (.int s), some (.int road), none, none] H7 F) := fun F f => by
        have q0 := hval (fun x => F x H7) f
        by_cases h5 : decide (V.int s = V.int 5) = true
        · rw [if_pos h5] at q0 ⊢
          exact q0
        · rw [if_neg h5] at q0 ⊢
          exact ⟨.int s, rfl, s, 3, rfl, rfl, q0⟩
      refine key _ ?_
      refine ⟨.int s, rfl, s, 1, rfl, rfl, by show 4 ≤ sizeLine; decide, fun t ht => ?_⟩
      have k2 : (upd H7 t (.tup [.int a0, .int (s - 1), .int 1, .int 1])) t = some (.tup [.int a0, .int (s - 1), .int 1, .int 1]) := upd_same
      have s2 : Same H7 (upd H7 t (.tup [.int a0, .int (s - 1), .int 1, .int 1])) := same_new ht
      generalize upd H7 t (.tup [.int a0, .int (s - 1), .int 1, .int 1]) = H8 at k2 s2 ⊢
      refine ⟨by show 1 ≤ sizeLine; decide, fun l2 hl2 => ?_⟩
      have k3 : (upd H8 l2 (.lst [.ref t])) l2 = some (.lst [.ref t]) := upd_same
      have s3' : Same H8 (upd H8 l2 (.lst [.ref t])) := same_new hl2
      generalize upd H8 l2 (.lst [.ref t]) = H9 at k3 s3' ⊢
      refine ⟨a, l2, zs, [.ref t], rfl, rfl, s3' _ _ (s2 _ _ ha), k3, Nat.le_trans (by show zs.length + 1 ≤ 21; omega) (by decide : 21 ≤ sizeLine), fun l4 hl4 => ?_⟩
      have k4 : (upd H9 l4 (.lst (zs ++ [.ref t]))) l4 = some (.lst (zs ++ [.ref t])) := upd_same
      have s4' : Same H9 (upd H9 l4 (.lst (zs ++ [.ref t]))) := same_new hl4
      generalize upd H9 l4 (.lst (zs ++ [.ref t])) = Ha at k4 s4' ⊢
      have s7a : Same H7 Ha := s2.trans (s3'.trans s4')
      have hr : Ls K Ha (.ref l4) (armsT 1 [1, 1, s - 4] ++ [⟨a0, s - 1, 1, 1⟩]) := ⟨l4, _, rfl, k4, all_snoc (DpAll.ex (Ex.of s7a) hz) (is_t4 (s4' _ _ (s3' _ _ k2)))⟩
      refine ⟨by show 2 ≤ sizeLine; decide, fin Ha s (.ref l4) _ 2 (go_same g (s1.trans (s7.trans s7a))) (by decide) hr hs1 hs2 ?_ (by rw [List.length_append]; show _ + 1 ≤ 20; omega) (by rw [List.length_append]; show 0 < _ + 1; omega)⟩
      refine ((arms_ties h3 (by rw [hsum]; omega) : TiesOk 1 (s - 1) _).mono (by decide) (by omega)).snoc ⟨h0a, h0b, by show s - 1 < s; omega, Int.le_refl 1, (by show (1 : Int) ≤ 4; decide), Int.le_refl 1, (by show (1 : Int) ≤ 4; decide)⟩ fun x hx e => ?_
      have e2 : x.b = s - 1 := congrArg Prod.snd e
      have := ((arms_ties h3 (s := s - 1) (by rw [hsum]; omega)).all x hx).bs
      omega
    have g := go_same g s5
    -- long arms
    refine cutIf ⟨.int road, rfl, rfl, _, rfl, ite2 (fun e => ⟨.int most, rfl, most, 6, rfl, rfl, _, rfl, ite2 (fun hs => ?_) (fun _ => ⟨rfl, Same.refl _⟩)⟩) (fun _ => ⟨rfl, Same.refl _⟩)⟩ fun H6 s6 => ?_
    · have hs3 : 6 < most := of_decide_eq_true hs
      refine ⟨.ref p, rfl, by show 3 ≤ sizeLine; decide, fun a1 ha1 => ?_⟩
      have k1 : (upd H5 a1 (.lst [.int 2, .int 2, .int 2])) a1 = some (.lst [.int 2, .int 2, .int 2]) := upd_same
      have s1 : Same H5 (upd H5 a1 (.lst [.int 2, .int 2, .int 2])) := same_new ha1
      generalize upd H5 a1 (.lst [.int 2, .int 2, .int 2]) = H7 at k1 s1 ⊢
      refine ⟨by show 3 ≤ sizeLine; decide, fun a2 ha2 => ?_⟩
      have k2 : (upd H7 a2 (.lst [.int 1, .int 3, .int 3])) a2 = some (.lst [.int 1, .int 3, .int 3]) := upd_same
      have s2 : Same H7 (upd H7 a2 (.lst [.int 1, .int 3, .int 3])) := same_new ha2
      generalize upd H7 a2 (.lst [.int 1, .int 3, .int 3]) = H8 at k2 s2 ⊢
      refine ⟨by show 3 ≤ sizeLine; decide, fun a3 ha3 => ?_⟩
      have k3 : (upd H8 a3 (.lst [.int 1, .int 2, .int 5])) a3 = some (.lst [.int 1, .int 2, .int 5]) := upd_same
      have s3' : Same H8 (upd H8 a3 (.lst [.int 1, .int 2, .int 5])) := same_new ha3
      generalize upd H8 a3 (.lst [.int 1, .int 2, .int 5]) = H9 at k3 s3' ⊢
      refine ⟨by show 3 ≤ sizeLine; decide, fun l hl => ?_⟩
      have k4 : (upd H9 l (.lst [.ref a1, .ref a2, .ref a3])) l = some (.lst [.ref a1, .ref a2, .ref a3]) := upd_same
      have s4' : Same H9 (upd H9 l (.lst [.ref a1, .ref a2, .ref a3])) := same_new hl
      generalize upd H9 l (.lst [.ref a1, .ref a2, .ref a3]) = Ha at k4 s4' ⊢
      obtain ⟨m6, em6⟩ : ∃ m6 : Nat, most - 6 = (m6 : Int) := ⟨(most - 6).toNat, by omega⟩
      refine ⟨.int most, rfl, most, 6, rfl, rfl, most - 6, rfl, l, [.ref a1, .ref a2, .ref a3], rfl, SqL.of k4, fun l2 hl2 => ?_⟩
      rw [em6, cut_to]
      have k5 : (upd Ha l2 (.lst (([.ref a1, .ref a2, .ref a3] : List V).take m6))) l2 = some (.lst (([.ref a1, .ref a2, .ref a3] : List V).take m6)) := upd_same
      have s5' : Same Ha (upd Ha l2 (.lst (([.ref a1, .ref a2, .ref a3] : List V).take m6))) := same_new hl2
      generalize upd Ha l2 (.lst (([.ref a1, .ref a2, .ref a3] : List V).take m6)) = Hb at k5 s5' ⊢
      have s5b : Same H5 Hb := s1.trans (s2.trans (s3'.trans (s4'.trans s5')))
      refine ⟨p, c, l2, n + 2, _, rfl, (go_same g s5b).2 n hp, by omega, SqL.of k5, by rw [List.length_take]; show 0 < min m6 3; omega, by rw [List.length_take]; show min m6 3 < 1000; omega, fun i v Hc hv gc => ?_⟩
      obtain ⟨z, x1, x2, x3, rfl, kz, hx, hxs, hxm⟩ : ∃ (z : Addr) (x1 x2 x3 : Int), v = .ref z ∧ Hc z = some (.lst ([x1, x2, x3].map V.int)) ∧ (∀ k ∈ [x1, x2, x3], (1 : Int) ≤ k) ∧ 2 ≤ 1 + (x1 + x2 + x3) ∧ 1 + (x1 + x2 + x3) ≤ most ∧ x1 ≤ 100 ∧ x2 ≤ 100 ∧ x3 ≤ 100 ∧ x1 + x2 + x3 ≤ 20 := by
        rw [List.getElem?_take] at hv
        split at hv
        · rename_i hi
          match i, hv with
          | 0, e => exact ⟨a1, 2, 2, 2, (Option.some.inj e).symm, gc.1 _ _ (s5' _ _ (s4' _ _ (s3' _ _ (s2 _ _ k1)))) trivial, ints3 (by decide) (by decide) (by decide), by decide, by omega, by decide, by decide, by decide, by decide⟩
          | 1, e => exact ⟨a2, 1, 3, 3, (Option.some.inj e).symm, gc.1 _ _ (s5' _ _ (s4' _ _ (s3' _ _ k2))) trivial, ints3 (by decide) (by decide) (by decide), by decide, by omega, by decide, by decide, by decide, by decide⟩
          | 2, e => exact ⟨a3, 1, 2, 5, (Option.some.inj e).symm, gc.1 _ _ (s5' _ _ (s4' _ _ k3)) trivial, ints3 (by decide) (by decide) (by decide), by decide, by omega, by decide, by decide, by decide, by decide⟩
        · cases hv
      have gd := (go_same g s5b).trans gc
      refine ⟨.ref z, rfl, z, [x1, x2, x3], rfl, SqL.of kz, 1, ([x1, x2, x3] : List Int).sum, rfl, rfl, .ref z, rfl, .ref z, [x1, x2, x3], rfl, .lst (SqL.of kz) (dpa_of_ints _), (by show 3 ≤ 10; decide), ints3 ⟨?_, hxm.2.1⟩ ⟨?_, hxm.2.2.1⟩ ⟨?_, hxm.2.2.2.1⟩, fun r Hd sd hr => ?_⟩
      · have := hx x1 (by simp)
        omega
      · have := hx x2 (by simp)
        omega
      · have := hx x3 (by simp)
        omega
      have hl3 := arms_len [x1, x2, x3] 1 hx
      rw [sum3] at hl3 ⊢
      exact ⟨by show 2 ≤ sizeLine; decide, fin Hd (1 + (x1 + x2 + x3)) r _ 3 (go_same gd sd) (by decide) hr.nw hxs hxm.1 ((arms_ties hx (by rw [sum3]; omega)).mono (by decide) (Int.le_refl _)) (by omega) (by omega)⟩
    have g := go_same g s6
    -- a doubled one
    refine cutIf ⟨.int road, rfl, rfl, _, rfl, ite2 (fun e => ⟨.int most, rfl, most, 4, rfl, rfl, _, rfl, ite2 (fun hs => ?_) (fun _ => ⟨rfl, Same.refl _⟩)⟩) (fun _ => ⟨rfl, Same.refl _⟩)⟩ fun H7 s7 => ?_
    · have hs3 : 4 < most := of_decide_eq_true hs
      refine ⟨.ref p, rfl, ⟨0, 5, rfl, by decide, by decide, fun v H7 s7 hv => ?_⟩⟩
      refine ⟨p, c, n + 2, v, rowT 0 5, 1, 2, rfl, (go_same g s7).2 n hp, by omega, hv.nw.is, by decide, by decide, fun r H8 ts' g8 hr8 d8 => ?_⟩
      exact ⟨by show 2 ≤ sizeLine; decide, fin H8 5 r ts' 3 ((go_same g s7).trans g8) (by decide) hr8 (by decide) (by omega) (d8.ok (row_ties (Int.le_refl 5)) (by decide) (by decide) (by decide) (by decide)) (by rw [d8.len]; decide) (by rw [d8.len]; decide)⟩
    have g := go_same g s7
    -- an end and a fork
    refine cutIf ⟨.int road, rfl, rfl, _, rfl, ite2 (fun e => ⟨.int s, rfl, s, 3, rfl, rfl, _, rfl, ite2 (fun hs => ?_) (fun _ => ⟨rfl, Same.refl _⟩)⟩) (fun _ => ⟨rfl, Same.refl _⟩)⟩ fun H8 s8 => ?_
    · have hs3 : 3 < s := of_decide_eq_true hs
      refine ⟨.int s, rfl, s, 3, rfl, rfl, by show 3 ≤ sizeLine; decide, fun l hl => ?_⟩
      have k1 : (upd H7 l (.lst [.int 1, .int 1, .int (s - 3)])) l = some (.lst [.int 1, .int 1, .int (s - 3)]) := upd_same
      have s1 : Same H7 (upd H7 l (.lst [.int 1, .int 1, .int (s - 3)])) := same_new hl
      generalize upd H7 l (.lst [.int 1, .int 1, .int (s - 3)]) = H9 at k1 s1 ⊢
      have one : Is K H9 (.ref l) ([1, 1, s - 3] : List Int) := .lst (SqL.of k1) (dpa_of_ints [1, 1, s - 3])
      have h3 : ∀ k ∈ [1, 1, s - 3], (1 : Int) ≤ k := ints3 (by decide) (by decide) (by omega)
      refine ⟨.ref l, [1, 1, s - 3], rfl, one, (by show 3 ≤ 10; decide), ints3 (by decide) (by decide) ⟨by omega, by omega⟩, fun v Ha sa hv => ?_⟩
      have hsum : ([1, 1, s - 3] : List Int).sum = s - 1 := by
        rw [sum3]
        omega
      have hl3 := arms_len [1, 1, s - 3] 1 h3
      rw [hsum] at hl3
      obtain ⟨a, zs, rfl, ha, hz⟩ := hv.nw
      have hzl := all_len hz
      refine ⟨.int s, rfl, .ref p, rfl, .ref a, rfl, .ref a, rfl, a, zs, rfl, .inl (SqL.of ha), (zs.length : Int), 1, rfl, rfl, ⟨p, c, n + 2, .ref a, armsT 1 [1, 1, s - 3], zs.length - 1, 2, ?_, (go_same g (s1.trans sa)).2 n hp, by omega, .lst (SqL.of ha) hz, by omega, by omega, fun r Hb ts' gb hrb db => ?_⟩⟩
      · rw [show ((zs.length - 1 : Nat) : Int) = (zs.length : Int) - 1 by omega]
        rfl
      · exact ⟨by show 2 ≤ sizeLine; decide, fin Hb s r ts' 3 ((go_same g (s1.trans sa)).trans gb) (by decide) hrb hs1 hs2 (db.ok (arms_ties h3 (by rw [hsum]; omega)) (by decide) (by decide) (by decide) (by decide)) (by rw [db.len]; omega) (by rw [db.len]; omega)⟩
    have g := go_same g s8
    -- the three and one more
    refine cutIf ⟨.int road, rfl, rfl, _, rfl, ite2 (fun e => ⟨.int most, rfl, most, 2, rfl, rfl, _, rfl, ite2 (fun hs => ?_) (fun _ => ⟨rfl, Same.refl _⟩)⟩) (fun _ => ⟨rfl, Same.refl _⟩)⟩ fun H9 s9 => ?_
    · have hs3 : 2 < most := of_decide_eq_true hs
      refine ⟨.ref p, rfl, ⟨0, 3, rfl, by decide, by decide, fun v H7 s7 hv => ?_⟩⟩
      refine ⟨p, c, n + 2, v, rowT 0 3, 1, 3, rfl, (go_same g s7).2 n hp, by omega, hv.nw.is, by decide, by decide, fun r H8 ts' g8 hr8 d8 => ?_⟩
      exact ⟨by show 2 ≤ sizeLine; decide, fin H8 3 r ts' 3 ((go_same g s7).trans g8) (by decide) hr8 (by decide) (by omega) (d8.ok (row_ties (Int.le_refl 3)) (by decide) (by decide) (by decide) (by decide)) (by rw [d8.len]; decide) (by rw [d8.len]; decide)⟩
    have g := go_same g s9
    -- two posts
    refine ⟨.ref p, rfl, by show 4 ≤ sizeLine; decide, fun t1 f1 => ?_⟩
    have k1 : (upd H9 t1 (.tup [.int 0, .int 1, .int 2, .int 2])) t1 = some (.tup [.int 0, .int 1, .int 2, .int 2]) := upd_same
    have s1 : Same H9 (upd H9 t1 (.tup [.int 0, .int 1, .int 2, .int 2])) := same_new f1
    generalize upd H9 t1 (.tup [.int 0, .int 1, .int 2, .int 2]) = Ha at k1 s1 ⊢
    refine ⟨by show 4 ≤ sizeLine; decide, fun t2 f2 => ?_⟩
    have k2 : (upd Ha t2 (.tup [.int 0, .int 1, .int 1, .int 4])) t2 = some (.tup [.int 0, .int 1, .int 1, .int 4]) := upd_same
    have s2 : Same Ha (upd Ha t2 (.tup [.int 0, .int 1, .int 1, .int 4])) := same_new f2
    generalize upd Ha t2 (.tup [.int 0, .int 1, .int 1, .int 4]) = Hb at k2 s2 ⊢
    refine ⟨by show 4 ≤ sizeLine; decide, fun t3 f3 => ?_⟩
    have k3 : (upd Hb t3 (.tup [.int 0, .int 1, .int 4, .int 1])) t3 = some (.tup [.int 0, .int 1, .int 4, .int 1]) := upd_same
    have s3' : Same Hb (upd Hb t3 (.tup [.int 0, .int 1, .int 4, .int 1])) := same_new f3
    generalize upd Hb t3 (.tup [.int 0, .int 1, .int 4, .int 1]) = Hc at k3 s3' ⊢
    refine ⟨by show 3 ≤ sizeLine; decide, fun l hl => ?_⟩
    have k4 : (upd Hc l (.lst [.ref t1, .ref t2, .ref t3])) l = some (.lst [.ref t1, .ref t2, .ref t3]) := upd_same
    have s4' : Same Hc (upd Hc l (.lst [.ref t1, .ref t2, .ref t3])) := same_new hl
    generalize upd Hc l (.lst [.ref t1, .ref t2, .ref t3]) = Hd at k4 s4' ⊢
    have s9d : Same H9 Hd := s1.trans (s2.trans (s3'.trans s4'))
    refine ⟨p, c, l, n + 2, _, rfl, (go_same g s9d).2 n hp, by omega, SqL.of k4, (by show 0 < 3; decide), (by show 3 < 1000; decide), fun i v He hv ge => ?_⟩
    obtain ⟨z, x, y, rfl, kz, hx1, hx4, hy1, hy4⟩ : ∃ (z : Addr) (x y : Int), v = .ref z ∧ He z = some (.tup [.int 0, .int 1, .int x, .int y]) ∧ 1 ≤ x ∧ x ≤ 4 ∧ 1 ≤ y ∧ y ≤ 4 := by
      match i, hv with
      | 0, e => exact ⟨t1, 2, 2, (Option.some.inj e).symm, ge.1 _ _ (s4' _ _ (s3' _ _ (s2 _ _ k1))) trivial, by decide, by decide, by decide, by decide⟩
      | 1, e => exact ⟨t2, 1, 4, (Option.some.inj e).symm, ge.1 _ _ (s4' _ _ (s3' _ _ k2)) trivial, by decide, by decide, by decide, by decide⟩
      | 2, e => exact ⟨t3, 4, 1, (Option.some.inj e).symm, ge.1 _ _ (s4' _ _ k3) trivial, by decide, by decide, by decide, by decide⟩
    have gf := (go_same g s9d).trans ge
    refine ⟨by show 1 ≤ sizeLine; decide, fun l2 hl2 => ?_⟩
    have k5 : (upd He l2 (.lst [.ref z])) l2 = some (.lst [.ref z]) := upd_same
    have s5' : Same He (upd He l2 (.lst [.ref z])) := same_new hl2
    generalize upd He l2 (.lst [.ref z]) = Hf at k5 s5' ⊢
    have hr : Ls K Hf (.ref l2) ([⟨0, 1, x, y⟩] : List Tie) := ⟨l2, _, rfl, k5, dpa_one (is_t4 (s5' _ _ kz))⟩
    exact ⟨by show 2 ≤ sizeLine; decide, fin Hf 2 (.ref l2) _ 3 (go_same gf s5') (by decide) hr (by decide) (by omega) (.one ⟨Int.le_refl 0, (by show (0 : Int) < 1; decide), by show (1 : Int) < 2; decide, hx1, hx4, hy1, hy4⟩) (by show 1 ≤ 20; decide) (by show 0 < 1; decide)⟩
end
end Gb
set_option maxRecDepth 100000
set_option maxHeartbeats 4000000
namespace Gb
open PySem PySem.Spec PyProof.Rows L2
open PySem.W (Datum Tup T4)
/-- the same web, its posts called otherwise, its ties in another order -/
structure Ren (s : Int) (ts ts' : List Tie) : Prop where
  ex : ∃ f : Int → Int, (∀ i, 0 ≤ i → i < s → 0 ≤ f i ∧ f i < s) ∧ (∀ i j, 0 ≤ i → i < s → 0 ≤ j → j < s → f i = f j → i = j) ∧ ts'.Perm (ts.map (renT f))
theorem Ren.ok {m s : Int} {ts ts' : List Tie} (r : Ren s ts ts') (h : TiesOk m s ts) : TiesOk m s ts' := by
  obtain ⟨f, h1, h2, h3⟩ := r.ex
  exact (ren_ties h h1 h2).perm h3
theorem Ren.len {s : Int} {ts ts' : List Tie} (r : Ren s ts ts') : ts'.length = ts.length := by
  obtain ⟨f, h1, h2, h3⟩ := r.ex
  rw [h3.length_eq, List.length_map]
theorem rgV_nd {a b : Int} : (rgV a b).Nodup := by
  unfold rgV
  rw [List.Nodup, List.pairwise_map]
  refine List.pairwise_lt_range.imp fun {x y} q e => ?_
  have := V.int.inj e
  omega
theorem rgV_mem {a b : Int} {v : V} (h : v ∈ rgV a b) : ∃ k : Int, v = .int k ∧ a ≤ k ∧ k < b := by
  unfold rgV at h
  obtain ⟨k, hk, rfl⟩ := List.mem_map.mp h
  have := List.mem_range.mp hk
  exact ⟨_, rfl, by omega, by omega⟩
theorem names_of {s : Int} {ys : List V} (pm : ys.Perm (rgV 0 s)) (hs : 0 ≤ s) : ∃ f : Int → Int, (∀ i, 0 ≤ i → i < s → atI ys i = some (.int (f i))) ∧ (∀ i, 0 ≤ i → i < s → 0 ≤ f i ∧ f i < s) ∧ (∀ i j, 0 ≤ i → i < s → 0 ≤ j → j < s → f i = f j → i = j) := by
  have hl : ys.length = s.toNat := by
    rw [pm.length_eq, rgV_length]
    omega
  have hnd : ys.Nodup := pm.nodup_iff.mpr rgV_nd
  have hex : ∀ i : Int, ∃ k : Int, 0 ≤ i → i < s → ys[i.toNat]? = some (.int k) ∧ 0 ≤ k ∧ k < s := fun i => by
    by_cases hi : 0 ≤ i ∧ i < s
    · have hlt : i.toNat < ys.length := by omega
      obtain ⟨k, hk, h1, h2⟩ := rgV_mem (pm.mem_iff.mp (List.getElem_mem hlt))
      exact ⟨k, fun _ _ => ⟨by rw [List.getElem?_eq_getElem hlt, hk], h1, h2⟩⟩
    · exact ⟨0, fun a b => absurd ⟨a, b⟩ hi⟩
  refine ⟨fun i => (hex i).choose, fun i h0 h1 => ?_, fun i h0 h1 => ((hex i).choose_spec h0 h1).2, fun i j h0 h1 h2 h3 e => ?_⟩
  · exact at_of (j := i.toNat) (by omega) ((hex i).choose_spec h0 h1).1
  · have e1 := ((hex i).choose_spec h0 h1).1
    have e2 := ((hex j).choose_spec h2 h3).1
    have e' : (hex i).choose = (hex j).choose := e
    rw [← e'] at e2
    have := nd_ix hnd e1 e2
    omega
section
variable {P : Program} {w : World} {K : PySem.W.Frag} {mg : Str → Option Value} {base : Heap}
def spRen (K : PySem.W.Frag) : Sp := fun vs H Q _ => ∃ (p c : Addr) (n : Nat) (s m : Int) (v : V) (ts : List Tie), vs = [.ref p, .int s, v] ∧ Pen H p c n ∧ n + 300 ≤ 2 ^ 60 ∧ 1 ≤ s ∧ s ≤ 12 ∧ Is K H v ts ∧ TiesOk m s ts ∧ ts.length ≤ 200 ∧
  ∀ (r : V) (H' : Hp) (ts' : List Tie), Go p c 300 H H' → Ls K H' r ts' → Ren s ts ts' → Q r H'
theorem sc__law_renamed : FnScope ["pen", "size", "ties", "names", "found", "one", "two", "there", "back", "a", "b"] ["pen", "size", "ties"] (defScope s__law_renamed) := ⟨rfl, rfl, rfl, by decide +kernel, rfl, by decide +kernel, by decide +kernel⟩
theorem ok__law_renamed (D : Dn K mg "_law_renamed" s__law_renamed ["pen", "size", "ties"]) (B : Bt mg) (c__law_shuffled : Cl P w K mg base 2 "_law_shuffled" (spShuf K)) : Cl P w K mg base 3 "_law_renamed" (spRen K) := by
  refine cl_of D sc__law_renamed (fun vs H Q E h => ?_) (fun cdv f A outer s H vs Q E hr h => ?_)
  · obtain ⟨p, c, n, s, m, v, ts, rfl, _⟩ := h
    rfl
  · obtain ⟨p, c, n, s, m, v, ts, rfl, hp, hn, hs0, hs1, hv, hts, hlen, q⟩ := h
    obtain ⟨a, xs, rfl, hS, hA⟩ := is_list hv
    have hl := all_len hA
    have nd := sc__law_renamed.nd
    refine ⟨_, (pss_cons (ps_set (i := 3) nd rfl (.inl rfl) (pe_c c__law_shuffled hr (by decide) (by rfl) (pa_cons (pv 0) (pa_cons (pe_listRg rfl (by rfl) B.list (prg_1 (by rfl) B.range (pv 1))) pa_nil))))
    (pss_cons (ps_set (i := 4) nd rfl (.inl rfl) (pe_lst pa_nil))
    (pss_cons (ps_for PassesOwn.never rfl (pi_listK (pv 2)) (pg_tupK (n := 4) (by rfl) (pgs_cons (pg_name (i := 5) nd rfl (.inl rfl)) (pgs_cons (pg_name (i := 6) nd rfl (.inl rfl)) (pgs_cons (pg_name (i := 7) nd rfl (.inl rfl)) (pgs_cons (pg_name (i := 8) nd rfl (.inl rfl)) pgs_nil)))))
    (pss_cons (ps_par (i := 9) (j := 10) (by rfl) nd rfl rfl (by decide) rfl rfl (pa_cons (pe_ix ix_listK (pv 3) (pv 5) (fun _ _ => rfl)) (pa_cons (pe_ix ix_listK (pv 3) (pv 6) (fun _ _ => rfl)) pa_nil)) (by rfl))
    (pss_one (ps_expr (pe_bmK PySem.F.plainAttrs_list PySem.F.slot_list_append PySem.F.type_list_append mt_append (pv 4) (pa_cons (pe_ifExp (pt_cmpR op_lt (pv 9) (pv 10) (nomark _)) (pe_tup (pa_cons (pv 9) (pa_cons (pv 10) (pa_cons (pv 7) (pa_cons (pv 8) pa_nil))))) (pe_tup (pa_cons (pv 10) (pa_cons (pv 9) (pa_cons (pv 8) (pa_cons (pv 7) pa_nil)))))) pa_nil))))))
    (pss_one (ps_ret (pe_c c__law_shuffled hr (by decide) (by rfl) (pa_cons (pv 0) (pa_cons (pv 4) pa_nil)))))))), ?_⟩
    -- names = shuffled(pen, list(range(size)))
    refine ⟨.ref p, rfl, .int s, rfl, s, rfl, RgOk.of_le (by decide) (by omega) (by decide) (by omega), fun z hz => ?_⟩
    have k1 : (upd H z (.lst (rgV 0 s))) z = some (.lst (rgV 0 s)) := upd_same
    have s1 : Same H (upd H z (.lst (rgV 0 s))) := same_new hz
    generalize upd H z (.lst (rgV 0 s)) = H1 at k1 s1 ⊢
    have hrl : (rgV 0 s).length = s.toNat := by
      rw [rgV_length]
      omega
    refine ⟨p, c, z, n, _, rfl, (Go.of (p := p) (c := c) s1).2 n hp, by rw [hrl]; omega, SqL.of k1, by rw [hrl]; omega, fun r ys H2 _ hys pm g2 => ?_⟩
    rw [hrl] at g2
    obtain ⟨f, hf1, hf2, hf3⟩ := names_of pm (by omega)
    have g : Go p c s.toNat H H2 := by
      have q0 := (Go.of (p := p) (c := c) s1).trans g2
      rw [Nat.zero_add] at q0
      exact q0
    -- found = []
    refine ⟨Nat.zero_le _, fun l hl0 => ?_⟩
    have hys2 : SqL K H2 r ys := SqL.of hys
    refine ⟨.ref a, rfl, a, rfl, ⟨xs, (Ex.new hl0).l (g.1.l hS)⟩, for_list (K := K) (a := a) (xs := xs) (fun i σ H' => ∃ (vs : List V) (u5 u6 u7 u8 u9 u10 : Option V), σ = [some (.ref p), some (.int s), some (.ref a), some (.ref r), some (.ref l), u5, u6, u7, u8, u9, u10] ∧ LocS H2 H' l vs ∧ All K (nw H2 (del H' l)) vs ((ts.take i).map (renT f)))
      ⟨[], none, none, none, none, none, none, rfl, LocS.start (Same.refl H2) hl0, .nil⟩ ?_ ?_ ?_⟩
    · rintro i σ H' _ ⟨vs, u5, u6, u7, u8, u9, u10, rfl, L, _⟩
      exact (Ex.of L.done).l (g.1.l hS)
    · rintro i y σ H' hy ⟨vs, u5, u6, u7, u8, u9, u10, rfl, L, hA'⟩
      obtain ⟨t, ht, hyt⟩ := all_get hA hy
      have hti := (List.getElem?_eq_some_iff.mp ht).1
      have htm : t ∈ ts := by
        obtain ⟨h1, h2⟩ := List.getElem?_eq_some_iff.mp ht
        rw [← h2]
        exact List.getElem_mem h1
      have hto := hts.all t htm
      have ta := hto.a0
      have tb := hto.ab
      have tbs := hto.bs
      have e2 : Ex H H' := g.1.trans (Ex.of L.done)
      obtain ⟨b, rfl, hb⟩ := t4_is (Dp.ex e2 hyt)
      have hys' : SqL K H' r ys := (Ex.of L.done).l hys2
      have hvl := all_len hA'
      rw [List.length_map, List.length_take] at hvl
      have htk : (ts.take (i + 1)).map (renT f) = (ts.take i).map (renT f) ++ [renT f t] := by
        rw [List.take_add_one, ht, List.map_append]
        rfl
      refine ⟨b, _, rfl, hb, rfl, _, _, rfl, _, _, rfl, _, _, rfl, _, _, rfl, rfl, ?_⟩
      -- a, b = names[one], names[two]
      refine ⟨.ref r, rfl, .int t.a, rfl, r, ys, t.a, .int (f t.a), rfl, rfl, hys', hf1 t.a (by omega) (by omega), .ref r, rfl, .int t.b, rfl, r, ys, t.b, .int (f t.b), rfl, rfl, hys', hf1 t.b (by omega) (by omega), .int (f t.a), .int (f t.b), rfl, ?_⟩
      refine ⟨.ref l, rfl, .inl ⟨rfl, _, SqL.of L.at_⟩, .int (f t.a), rfl, .int (f t.b), rfl, _, _, rfl, rfl, _, rfl, ite2 (fun hlt => ?_) (fun hlt => ?_)⟩
      · have hlt' : f t.a < f t.b := of_decide_eq_true hlt
        refine ⟨.int (f t.a), rfl, .int (f t.b), rfl, .int t.c, rfl, .int t.d, rfl, by show 4 ≤ sizeLine; decide, fun z hz => ?_⟩
        have k5 : (upd H' z (.tup [.int (f t.a), .int (f t.b), .int t.c, .int t.d])) z = some (.tup [.int (f t.a), .int (f t.b), .int t.c, .int t.d]) := upd_same
        have s5 : Same H' (upd H' z (.tup [.int (f t.a), .int (f t.b), .int t.c, .int t.d])) := same_new hz
        generalize upd H' z (.tup [.int (f t.a), .int (f t.b), .int t.c, .int t.d]) = H5 at k5 s5 ⊢
        have nz : z ≠ l := fun e => by
          rw [e, L.at_] at hz
          cases hz
        have L5 := L.call s5
        refine ⟨l, vs, .ref z, rfl, rfl, L5.at_, Nat.lt_of_le_of_lt (by omega : vs.length ≤ 200) (by decide), vs ++ [.ref z], _, _, _, _, _, _, rfl, L5.set, ?_⟩
        rw [del_upd, htk]
        refine all_snoc (DpAll.ex (nw_mono (Ex.of (same_del s5))) hA') ?_
        unfold renT
        rw [if_pos hlt']
        refine is_t4 ?_
        rw [nw_none (L.done.free hz), del_ne nz]
        exact k5
      · have hlt' : ¬ f t.a < f t.b := fun e => hlt (decide_eq_true e)
        refine ⟨.int (f t.b), rfl, .int (f t.a), rfl, .int t.d, rfl, .int t.c, rfl, by show 4 ≤ sizeLine; decide, fun z hz => ?_⟩
        have k5 : (upd H' z (.tup [.int (f t.b), .int (f t.a), .int t.d, .int t.c])) z = some (.tup [.int (f t.b), .int (f t.a), .int t.d, .int t.c]) := upd_same
        have s5 : Same H' (upd H' z (.tup [.int (f t.b), .int (f t.a), .int t.d, .int t.c])) := same_new hz
        generalize upd H' z (.tup [.int (f t.b), .int (f t.a), .int t.d, .int t.c]) = H5 at k5 s5 ⊢
        have nz : z ≠ l := fun e => by
          rw [e, L.at_] at hz
          cases hz
        have L5 := L.call s5
        refine ⟨l, vs, .ref z, rfl, rfl, L5.at_, Nat.lt_of_le_of_lt (by omega : vs.length ≤ 200) (by decide), vs ++ [.ref z], _, _, _, _, _, _, rfl, L5.set, ?_⟩
        rw [del_upd, htk]
        refine all_snoc (DpAll.ex (nw_mono (Ex.of (same_del s5))) hA') ?_
        unfold renT
        rw [if_neg hlt']
        refine is_t4 ?_
        rw [nw_none (L.done.free hz), del_ne nz]
        exact k5
    · rintro σ H' ⟨vs, u5, u6, u7, u8, u9, u10, rfl, L, hA'⟩
      rw [hl, List.take_length] at hA'
      have hvl := all_len hA'
      rw [List.length_map] at hvl
      have g3 : Go p c s.toNat H H' := go_same g L.done
      refine ⟨.ref p, rfl, .ref l, rfl, ⟨p, c, l, n + s.toNat, vs, rfl, g3.2 n hp, by omega, SqL.of L.at_, by omega, fun r5 zs H5 _ hzs pm5 g5 => ?_⟩⟩
      have hA5 : All K H5 vs (ts.map (renT f)) := DpAll.ex ((Ex.of (nw_le.trans del_le)).trans g5.1) hA'
      obtain ⟨ts', p1, p2⟩ := all_perm pm5 hA5
      exact q _ H5 ts' ((g3.trans g5).mono (by omega)) ⟨r5, zs, rfl, hzs, p2⟩ ⟨f, hf2, hf3, p1⟩
end
end Gb
set_option maxRecDepth 100000
set_option maxHeartbeats 4000000
namespace Gb
open PySem PySem.Spec PyProof.Rows L2
open PySem.W (Datum Tup T4)
theorem int4 {a b c d : Int} {i : Nat} {v : V} (h : ([.int a, .int b, .int c, .int d] : List V)[i]? = some v) {R : Int → Prop} (ha : R a) (hb : R b) (hc : R c) (hd : R d) : ∃ z, v = .int z ∧ R z := by
  match i, h with
  | 0, e => exact ⟨_, (Option.some.inj e).symm, ha⟩
  | 1, e => exact ⟨_, (Option.some.inj e).symm, hb⟩
  | 2, e => exact ⟨_, (Option.some.inj e).symm, hc⟩
  | 3, e => exact ⟨_, (Option.some.inj e).symm, hd⟩
theorem int3 {a b c : Int} {i : Nat} {v : V} (h : ([.int a, .int b, .int c] : List V)[i]? = some v) {R : Int → Prop} (ha : R a) (hb : R b) (hc : R c) : ∃ z, v = .int z ∧ R z := by
  match i, h with
  | 0, e => exact ⟨_, (Option.some.inj e).symm, ha⟩
  | 1, e => exact ⟨_, (Option.some.inj e).symm, hb⟩
  | 2, e => exact ⟨_, (Option.some.inj e).symm, hc⟩
section
variable {P : Program} {w : World} {K : PySem.W.Frag} {mg : Str → Option Value} {base : Heap}
def spWeb (K : PySem.W.Frag) (lo : Int) : Sp := fun vs H Q _ => ∃ (p c : Addr) (n : Nat) (most : Int), vs = [.ref p, .int most] ∧ Pen H p c n ∧ n + 1000 ≤ 2 ^ 60 ∧ lo ≤ most ∧ most ≤ 12 ∧
  ∀ (r : V) (H' : Hp) (s : Int) (ts : List Tie), Go p c 1000 H H' → Web2 K H' r s ts → 1 ≤ s → s ≤ most → TiesOk 9 s ts → ts.length ≤ 200 → Q r H'
theorem sc__law_all_web : FnScope ["pen", "most", "size", "ties", "k", "more", "others"] ["pen", "most"] (defScope s__law_all_web) := ⟨rfl, rfl, rfl, by decide +kernel, rfl, by decide +kernel, by decide +kernel⟩
theorem ok__law_all_web (D : Dn K mg "_law_all_web" s__law_all_web ["pen", "most"]) (B : Bt mg) (c__law_good_shape : Cl P w K mg base 4 "_law_good_shape" (spGood K)) (c__law_pick : Cl P w K mg base 2 "_law_pick" (spPick K)) (c__law_moved : Cl P w K mg base 1 "_law_moved" (spMov K)) (c__law_renamed : Cl P w K mg base 3 "_law_renamed" (spRen K)) : Cl P w K mg base 5 "_law_all_web" (spWeb K 1) := by
  refine cl_of D sc__law_all_web (fun vs H Q E h => ?_) (fun cdv f A outer s H vs Q E hr h => ?_)
  · obtain ⟨p, c, n, most, rfl, _⟩ := h
    rfl
  · obtain ⟨p, c, n, most, rfl, hp, hn, hm0, hm1, q⟩ := h
    have nd := sc__law_all_web.nd
    refine ⟨_, (pss_cons (ps_asg (pe_c c__law_good_shape hr (by decide) (by rfl) (pa_cons (pv 0) (pa_cons (pv 1) pa_nil))) (pg_tupK (n := 2) (by rfl) (pgs_cons (pg_name (i := 2) nd rfl (.inl rfl)) (pgs_cons (pg_name (i := 3) nd rfl (.inl rfl)) pgs_nil))))
    (pss_cons (ps_for PassesOwn.never rfl (pi_range1 (by rfl) B.range (pa_cons (pe_c c__law_pick hr (by decide) (by rfl) (pa_cons (pv 0) (pa_cons (pe_lst (pa_cons pe_int (pa_cons pe_int (pa_cons pe_int (pa_cons pe_int pa_nil))))) pa_nil))) pa_nil)) (pg_name (i := 4) nd rfl (.inl rfl))
    (pss_one (ps_if (pt_cmpR op_lt (pv 2) (pv 1) (nomark _))
    (pss_cons (ps_asg (pe_c c__law_good_shape hr (by decide) (by rfl) (pa_cons (pv 0) (pa_cons (pe_op op_sub (pv 1) (pv 2)) pa_nil))) (pg_tupK (n := 2) (by rfl) (pgs_cons (pg_name (i := 5) nd rfl (.inl rfl)) (pgs_cons (pg_name (i := 6) nd rfl (.inl rfl)) pgs_nil))))
    (pss_one (ps_par (i := 2) (j := 3) (by rfl) nd rfl rfl (by decide) rfl rfl (pa_cons (pe_op op_add (pv 2) (pv 5)) (pa_cons (pe_op op_cat (pv 3) (pe_c c__law_moved hr (by decide) (by rfl) (pa_cons (pv 6) (pa_cons (pv 2) pa_nil)))) pa_nil)) (by rfl))))
    pss_nil)))
    (pss_one (ps_ret (pe_tup (pa_cons (pv 2) (pa_cons (pe_c c__law_renamed hr (by decide) (by rfl) (pa_cons (pv 0) (pa_cons (pv 2) (pa_cons (pv 3) pa_nil)))) pa_nil))))))), ?_⟩
    -- size, ties = good_shape(pen, most)
    refine ⟨.ref p, rfl, .int most, rfl, ⟨p, c, n, most, rfl, hp, by omega, by omega, by omega, fun r H1 s ts g1 hw hs1 hs2 hts hl => ?_⟩⟩
    obtain ⟨t, v, rfl, ht, hv⟩ := hw
    refine ⟨t, _, rfl, SqT.of ht, rfl, _, _, rfl, _, _, rfl, rfl, ?_⟩
    -- for k in range(pick(pen, [0, 0, 1, 2]))
    refine ⟨.ref p, rfl, by show 4 ≤ sizeLine; decide, fun l hl0 => ?_⟩
    have k2 : (upd H1 l (.lst [.int 0, .int 0, .int 1, .int 2])) l = some (.lst [.int 0, .int 0, .int 1, .int 2]) := upd_same
    have s2 : Same H1 (upd H1 l (.lst [.int 0, .int 0, .int 1, .int 2])) := same_new hl0
    generalize upd H1 l (.lst [.int 0, .int 0, .int 1, .int 2]) = H2 at k2 s2 ⊢
    refine ⟨p, c, l, n + 10, _, rfl, (go_same g1 s2).2 n hp, by omega, SqL.of k2, (by show 0 < 4; decide), (by show 4 < 1000; decide), fun i v0 H3 hv0 g3 => ?_⟩
    obtain ⟨z, rfl, hz0, hz2⟩ := int4 hv0 (R := fun z => 0 ≤ z ∧ z ≤ 2) (by decide) (by decide) (by decide) (by decide)
    have g4 : Go p c 11 H H3 := (go_same g1 s2).trans g3
    have hv3 : Ls K H3 v ts := hv.ex ((Ex.of s2).trans g3.1)
    refine ⟨z, rfl, by omega, by omega, for_range (lo := 0) (n := z.toNat) (fun i σ H' => ∃ (s : Int) (v : V) (ts : List Tie) (u4 u5 u6 : Option V), σ = [some (.ref p), some (.int most), some (.int s), some v, u4, u5, u6] ∧ Go p c (11 + i * 10) H H' ∧ Ls K H' v ts ∧ 1 ≤ s ∧ s ≤ most ∧ TiesOk 3 s ts ∧ ts.length ≤ 20 + i * 20)
      ⟨s, v, ts, none, none, none, rfl, g4, hv3, hs1, hs2, hts, hl⟩ ?_ ?_⟩
    · rintro i σ H' hi ⟨s, v, ts, u4, u5, u6, rfl, g, hv, hs1, hs2, hts, hl⟩
      refine ⟨.int s, rfl, .int most, rfl, s, most, rfl, rfl, _, rfl, ite2 (fun hlt => ?_) (fun hlt => ?_)⟩
      · have hlt' : s < most := of_decide_eq_true hlt
        refine ⟨.ref p, rfl, .int most, rfl, .int s, rfl, most, s, rfl, rfl, ⟨p, c, n + (11 + i * 10), most - s, rfl, g.2 n hp, by omega, by omega, by omega, fun r H5 s5 ts5 g5 hw5 hs51 hs52 hts5 hl5 => ?_⟩⟩
        obtain ⟨t5, v5, rfl, ht5, hv5⟩ := hw5
        refine ⟨t5, _, rfl, SqT.of ht5, rfl, _, _, rfl, _, _, rfl, rfl, ?_⟩
        refine ⟨.int s, rfl, .int s5, rfl, s, s5, rfl, rfl, v, rfl, v5, rfl, .int s, rfl, ⟨v5, ts5, s, rfl, hv5.is, by omega, fun r6 H6 s6 hr6 => ?_⟩⟩
        obtain ⟨a, zs, rfl, ha, hz⟩ := (hv.ex (g5.1.trans (Ex.of s6)))
        obtain ⟨b, ys, rfl, hb, hy⟩ := hr6.nw
        have la := all_len hz
        have lb := all_len hy
        rw [mov_len] at lb
        refine ⟨a, b, zs, ys, rfl, rfl, ha, hb, Nat.le_trans (by omega : zs.length + ys.length ≤ 200) (by decide : 200 ≤ sizeLine), fun e he => ?_⟩
        refine ⟨.int (s + s5), .ref e, rfl, s + s5, .ref e, ts ++ movT ts5 s, some (.int (0 + (i : Int))), _, _, rfl, ?_, ?_, by omega, by omega, hts.beside hts5 (by omega) (by omega), by rw [List.length_append, mov_len]; omega⟩
        · have q0 := go_same ((g.trans g5)) (s6.trans (same_new (o := .lst (zs ++ ys)) he))
          exact q0.mono (by omega)
        · exact ⟨e, _, rfl, upd_same, all_app (DpAll.ex (Ex.new he) hz) (DpAll.ex (Ex.new he) hy)⟩
      · exact ⟨s, v, ts, some (.int (0 + (i : Int))), u5, u6, rfl, g.mono (by omega), hv, hs1, hs2, hts, by omega⟩
    · rintro σ H' ⟨s, v, ts, u4, u5, u6, rfl, g, hv, hs1, hs2, hts, hl⟩
      have hz3 : z.toNat ≤ 2 := by omega
      refine ⟨.int s, rfl, .ref p, rfl, .int s, rfl, v, rfl, ⟨p, c, n + (11 + z.toNat * 10), s, 3, v, ts, rfl, g.2 n hp, by omega, hs1, by omega, hv.is, hts, by omega, fun r H5 ts' g5 hr5 hren => ?_⟩⟩
      refine ⟨by show 2 ≤ sizeLine; decide, fun e he => ?_⟩
      exact q _ _ s ts' ((go_same (g.trans g5) (same_new he)).mono (by omega)) ⟨e, r, rfl, upd_same, hr5.ex (Ex.new he)⟩ hs1 hs2 ((hren.ok hts).mono (by decide) (Int.le_refl _)) (by rw [hren.len]; omega)
/-! ### waves_web -/
theorem sc__law_waves_web : FnScope ["pen", "most", "size", "ties"] ["pen", "most"] (defScope s__law_waves_web) := ⟨rfl, rfl, rfl, by decide +kernel, rfl, by decide +kernel, by decide +kernel⟩
theorem ok__law_waves_web (D : Dn K mg "_law_waves_web" s__law_waves_web ["pen", "most"]) (B : Bt mg) (c__law_flat_shape : Cl P w K mg base 4 "_law_flat_shape" (spFlat K)) (c__law_renamed : Cl P w K mg base 3 "_law_renamed" (spRen K)) : Cl P w K mg base 5 "_law_waves_web" (spWeb K 2) := by
  refine cl_of D sc__law_waves_web (fun vs H Q E h => ?_) (fun cdv f A outer s H vs Q E hr h => ?_)
  · obtain ⟨p, c, n, most, rfl, _⟩ := h
    rfl
  · obtain ⟨p, c, n, most, rfl, hp, hn, hm0, hm1, q⟩ := h
    have nd := sc__law_waves_web.nd
    refine ⟨_, (pss_cons (ps_asg (pe_c c__law_flat_shape hr (by decide) (by rfl) (pa_cons (pv 0) (pa_cons (pv 1) pa_nil))) (pg_tupK (n := 2) (by rfl) (pgs_cons (pg_name (i := 2) nd rfl (.inl rfl)) (pgs_cons (pg_name (i := 3) nd rfl (.inl rfl)) pgs_nil))))
    (pss_one (ps_ret (pe_tup (pa_cons (pv 2) (pa_cons (pe_c c__law_renamed hr (by decide) (by rfl) (pa_cons (pv 0) (pa_cons (pv 2) (pa_cons (pv 3) pa_nil)))) pa_nil)))))), ?_⟩
    refine ⟨.ref p, rfl, .int most, rfl, ⟨p, c, n, most, rfl, hp, by omega, by omega, by omega, fun r H1 s ts g1 hw hs1 hs2 hts hl hl0 => ?_⟩⟩
    obtain ⟨t, v, rfl, ht, hv⟩ := hw
    refine ⟨t, _, rfl, SqT.of ht, rfl, _, _, rfl, _, _, rfl, rfl, ?_⟩
    refine ⟨.int s, rfl, .ref p, rfl, .int s, rfl, v, rfl, ⟨p, c, n + 10, s, 4, v, ts, rfl, g1.2 n hp, by omega, by omega, by omega, hv.is, hts, by omega, fun r H5 ts' g5 hr5 hren => ?_⟩⟩
    refine ⟨by show 2 ≤ sizeLine; decide, fun e he => ?_⟩
    exact q _ _ s ts' ((go_same (g1.trans g5) (same_new he)).mono (by omega)) ⟨e, r, rfl, upd_same, hr5.ex (Ex.new he)⟩ (by omega) hs2 ((hren.ok hts).mono (by decide) (Int.le_refl _)) (by rw [hren.len]; omega)
end
end Gb
set_option maxRecDepth 100000
set_option maxHeartbeats 4000000
namespace Gb
open PySem PySem.Spec PyProof.Rows L2
open PySem.W (Datum Tup T4)
theorem cutIfM {M : Hp → Prop} {c : TT} {tb tr : TS} {D : Ends} {σ : L2.St} {H : Hp} (hc : c σ H fun b H1 => if b = true then tb { D with nx := fun σ' H' => σ' = σ ∧ M H' } σ H1 else (σ = σ ∧ M H1)) (hr : ∀ H1, M H1 → tr D σ H1) : Evl.tCut (tIfS c tb tNext) tr D σ H :=
  ⟨fun σ' H' => σ' = σ ∧ M H', hc, fun σ' H' ⟨e, s⟩ => by
    rw [e]
    exact hr H' s⟩
theorem TiesOk.repl {m m' s : Int} {ts : List Tie} {t t' : Tie} {i : Nat} (h : TiesOk m s ts) (ht : ts[i]? = some t) (hm : m ≤ m') (ok : TieOk m' s t') (ea : t'.a = t.a) (eb : t'.b = t.b) : TiesOk m' s (ts.take i ++ [t'] ++ ts.drop (i + 1)) := by
  obtain ⟨hi, rfl⟩ := List.getElem?_eq_some_iff.mp ht
  have e1 : ts = ts.take i ++ [ts[i]] ++ ts.drop (i + 1) := by
    rw [List.append_assoc, List.singleton_append, ← List.drop_eq_getElem_cons hi, List.take_append_drop]
  refine ⟨fun u hu => ?_, ?_⟩
  · rcases List.mem_append.mp hu with q | q
    · rcases List.mem_append.mp q with q | q
      · exact (h.all u (List.mem_of_mem_take q)).mono hm (Int.le_refl _)
      · rw [List.mem_singleton] at q
        rw [q]
        exact ok
    · exact (h.all u (List.mem_of_mem_drop q)).mono hm (Int.le_refl _)
  · have e : (ts.take i ++ [t'] ++ ts.drop (i + 1)).map pr = ts.map pr := by
      have e3 : ts.map pr = (ts.take i).map pr ++ [pr ts[i]] ++ (ts.drop (i + 1)).map pr := by
        have q := congrArg (List.map pr) e1
        rw [List.map_append, List.map_append] at q
        exact q
      rw [e3, List.map_append, List.map_append]
      have ep : pr t' = pr ts[i] := by
        show (t'.a, t'.b) = (ts[i].a, ts[i].b)
        rw [ea, eb]
      show (ts.take i).map pr ++ [pr t'] ++ _ = _
      rw [ep]
    show ((ts.take i ++ [t'] ++ ts.drop (i + 1)).map pr).Nodup
    rw [e]
    exact h.nd
section
variable {P : Program} {w : World} {K : PySem.W.Frag} {mg : Str → Option Value} {base : Heap}
def spSteep (K : PySem.W.Frag) : Sp := fun vs H Q _ => ∃ (p c : Addr) (n : Nat) (most : Int), vs = [.ref p, .int most] ∧ Pen H p c n ∧ n + 20 ≤ 2 ^ 60 ∧ 2 ≤ most ∧ most ≤ 12 ∧
  ∀ (r : V) (H' : Hp) (s : Int) (ts : List Tie), Go p c 20 H H' → Web2 K H' r s ts → 2 ≤ s → s ≤ most → TiesOk 9 s ts → ts.length ≤ 30 → Q r H'
theorem sc__law_steep_shape : FnScope ["pen", "most", "size", "ties", "at", "one", "two", "there", "back"] ["pen", "most"] (defScope s__law_steep_shape) := ⟨rfl, rfl, rfl, by decide +kernel, rfl, by decide +kernel, by decide +kernel⟩
theorem ok__law_steep_shape (D : Dn K mg "_law_steep_shape" s__law_steep_shape ["pen", "most"]) (B : Bt mg) (c__law_draw : Cl P w K mg base 1 "_law_draw" spDraw) (c__law_pick : Cl P w K mg base 2 "_law_pick" (spPick K)) (c__law_flat_shape : Cl P w K mg base 4 "_law_flat_shape" (spFlat K)) : Cl P w K mg base 5 "_law_steep_shape" (spSteep K) := by
  refine cl_of D sc__law_steep_shape (fun vs H Q E h => ?_) (fun cdv f A outer s H vs Q E hr h => ?_)
  · obtain ⟨p, c, n, most, rfl, _⟩ := h
    rfl
  · obtain ⟨p, c, n, most, rfl, hp, hn, hm0, hm1, q⟩ := h
    have nd := sc__law_steep_shape.nd
    refine ⟨_, (Evl.pss_cut (ps_if (PW.pt (pw_or (pt_cmpR op_lt (pv 1) pe_int (nomark _)) (pw_or1 (pt_cmpR op_eq (pe_c c__law_draw hr (by decide) (by rfl) (pa_cons (pv 0) (pa_cons pe_int pa_nil))) pe_int (nomark _)))))
    (pss_one (ps_ret (pe_tup (pa_cons pe_int (pa_cons (pe_lst (pa_cons (pe_tup (pa_cons pe_int (pa_cons pe_int (pa_cons (pe_c c__law_pick hr (by decide) (by rfl) (pa_cons (pv 0) (pa_cons (pe_lst (pa_cons pe_int (pa_cons pe_int (pa_cons pe_int pa_nil)))) pa_nil))) (pa_cons (pe_c c__law_pick hr (by decide) (by rfl) (pa_cons (pv 0) (pa_cons (pe_lst (pa_cons pe_int (pa_cons pe_int (pa_cons pe_int pa_nil)))) pa_nil))) pa_nil))))) pa_nil)) pa_nil)))))
    pss_nil)
    (pss_cons (ps_asg (pe_c c__law_flat_shape hr (by decide) (by rfl) (pa_cons (pv 0) (pa_cons (pe_op op_sub (pv 1) pe_int) pa_nil))) (pg_tupK (n := 2) (by rfl) (pgs_cons (pg_name (i := 2) nd rfl (.inl rfl)) (pgs_cons (pg_name (i := 3) nd rfl (.inl rfl)) pgs_nil))))
    (Evl.pss_cut (ps_if (pt_cmpR op_eq (pe_c c__law_draw hr (by decide) (by rfl) (pa_cons (pv 0) (pa_cons pe_int pa_nil))) pe_int (nomark _))
    (pss_one (ps_ret (pe_tup (pa_cons (pe_op op_add (pv 2) pe_int) (pa_cons (pe_op op_cat (pv 3) (pe_lst (pa_cons (pe_tup (pa_cons (pe_c c__law_draw hr (by decide) (by rfl) (pa_cons (pv 0) (pa_cons (pv 2) pa_nil))) (pa_cons (pv 2) (pa_cons (pe_op op_add pe_int (pe_c c__law_draw hr (by decide) (by rfl) (pa_cons (pv 0) (pa_cons pe_int pa_nil)))) (pa_cons pe_int pa_nil))))) pa_nil))) pa_nil)))))
    pss_nil)
    (pss_cons (ps_set (i := 4) nd rfl (.inl rfl) (pe_c c__law_draw hr (by decide) (by rfl) (pa_cons (pv 0) (pa_cons (pe_callB call_lenK (by rfl) B.len PySem.boot_len (pa_cons (pv 3) pa_nil)) pa_nil))))
    (pss_cons (ps_asg (pe_ix ix_listK (pv 3) (pv 4) (fun _ _ => rfl)) (pg_tupK (n := 4) (by rfl) (pgs_cons (pg_name (i := 5) nd rfl (.inl rfl)) (pgs_cons (pg_name (i := 6) nd rfl (.inl rfl)) (pgs_cons (pg_name (i := 7) nd rfl (.inl rfl)) (pgs_cons (pg_name (i := 8) nd rfl (.inl rfl)) pgs_nil))))))
    (pss_one (ps_ret (pe_tup (pa_cons (pv 2) (pa_cons (pe_op op_cat (pe_op op_cat (pe_slice sl_listK (pv 3) po_none (po_some (pv 4))) (pe_lst (pa_cons (pe_tup (pa_cons (pv 5) (pa_cons (pv 6) (pa_cons (pe_op op_add (pe_op op_add (pv 7) pe_int) (pe_c c__law_draw hr (by decide) (by rfl) (pa_cons (pv 0) (pa_cons pe_int pa_nil)))) (pa_cons (pv 8) pa_nil))))) pa_nil))) (pe_slice sl_listK (pv 3) (po_some (pe_op op_add (pv 4) pe_int)) po_none)) pa_nil)))))))))), ?_⟩
    have fin : ∀ (H4 : Hp) (s : Int) (v : V) (ts' : List Tie) (k : Nat), Go p c k H H4 → k ≤ 20 → Ls K H4 v ts' → 2 ≤ s → s ≤ most → TiesOk 9 s ts' → ts'.length ≤ 30 → ∀ t, H4 t = none → Q (.ref t) (upd H4 t (.tup [.int s, v])) := fun H4 s v ts' k g hk hv h1 h2 h3 h4 t ht =>
      q _ _ s ts' ((go_same g (same_new ht)).mono hk) ⟨t, v, rfl, upd_same, hv.ex (Ex.new ht)⟩ h1 h2 h3 h4
    -- if most < 3 or draw(pen, 4) == 0
    refine cutIfM (M := fun H1 => Go p c 1 H H1 ∧ 3 ≤ most) ?_ fun H1 hM => ?_
    · have two : ∀ (k : Nat) (H1 : Hp), Go p c k H H1 → k ≤ 1 → tSeq (tRet (tTup (tCons (tC (.int 2)) (tCons (tLst (tCons (tTup (tCons (tC (.int 0)) (tCons (tC (.int 1)) (tCons (tCall (spPick K) [] E0 (tCons (tVar 0) (tCons (tLst (tCons (tC (.int 5)) (tCons (tC (.int 9)) (tCons (tC (.int 3)) tNil)))) tNil)))
          (tCons (tCall (spPick K) [] E0 (tCons (tVar 0) (tCons (tLst (tCons (tC (.int 2)) (tCons (tC (.int 9)) (tCons (tC (.int 4)) tNil)))) tNil))) tNil))))) tNil)) tNil)))) tNext { nx := fun σ' H' => σ' = start ["pen", "most", "size", "ties", "at", "one", "two", "there", "back"] [.ref p, .int most] ∧ Go p c 1 H H' ∧ 3 ≤ most, rt := Q } (start ["pen", "most", "size", "ties", "at", "one", "two", "there", "back"] [.ref p, .int most]) H1 := by
        intro k H1 g1 hk
        refine ⟨.ref p, rfl, by show 3 ≤ sizeLine; decide, fun l hl => ?_⟩
        have k2 : (upd H1 l (.lst [.int 5, .int 9, .int 3])) l = some (.lst [.int 5, .int 9, .int 3]) := upd_same
        have s2 : Same H1 (upd H1 l (.lst [.int 5, .int 9, .int 3])) := same_new hl
        generalize upd H1 l (.lst [.int 5, .int 9, .int 3]) = H2 at k2 s2 ⊢
        have g2 := go_same g1 s2
        refine ⟨p, c, l, n + k, _, rfl, g2.2 n hp, by omega, SqL.of k2, (by show 0 < 3; decide), (by show 3 < 1000; decide), fun i v H3 hv g3 => ?_⟩
        obtain ⟨x, rfl, hx1, hx9⟩ := int3 hv (R := fun z => 1 ≤ z ∧ z ≤ 9) (by decide) (by decide) (by decide)
        have g4 := g2.trans g3
        refine ⟨.ref p, rfl, by show 3 ≤ sizeLine; decide, fun l2 hl2 => ?_⟩
        have k4 : (upd H3 l2 (.lst [.int 2, .int 9, .int 4])) l2 = some (.lst [.int 2, .int 9, .int 4]) := upd_same
        have s4 : Same H3 (upd H3 l2 (.lst [.int 2, .int 9, .int 4])) := same_new hl2
        generalize upd H3 l2 (.lst [.int 2, .int 9, .int 4]) = H4 at k4 s4 ⊢
        have g5 := go_same g4 s4
        refine ⟨p, c, l2, n + (k + 1), _, rfl, g5.2 n hp, by omega, SqL.of k4, (by show 0 < 3; decide), (by show 3 < 1000; decide), fun i2 v2 H5 hv2 g6 => ?_⟩
        obtain ⟨y, rfl, hy1, hy9⟩ := int3 hv2 (R := fun z => 1 ≤ z ∧ z ≤ 9) (by decide) (by decide) (by decide)
        have g7 := g5.trans g6
        refine ⟨by show 4 ≤ sizeLine; decide, fun t ht => ?_⟩
        have k6 : (upd H5 t (.tup [.int 0, .int 1, .int x, .int y])) t = some (.tup [.int 0, .int 1, .int x, .int y]) := upd_same
        have s6 : Same H5 (upd H5 t (.tup [.int 0, .int 1, .int x, .int y])) := same_new ht
        generalize upd H5 t (.tup [.int 0, .int 1, .int x, .int y]) = H6 at k6 s6 ⊢
        refine ⟨by show 1 ≤ sizeLine; decide, fun l3 hl3 => ?_⟩
        have k7 : (upd H6 l3 (.lst [.ref t])) l3 = some (.lst [.ref t]) := upd_same
        have s7 : Same H6 (upd H6 l3 (.lst [.ref t])) := same_new hl3
        generalize upd H6 l3 (.lst [.ref t]) = H7 at k7 s7 ⊢
        exact ⟨by show 2 ≤ sizeLine; decide, fin H7 2 (.ref l3) [⟨0, 1, x, y⟩] _ (go_same g7 (s6.trans s7)) (by omega) ⟨l3, _, rfl, k7, dpa_one (is_t4 (s7 _ _ k6))⟩ (by decide) hm0 (.one ⟨Int.le_refl 0, (by show (0 : Int) < 1; decide), by show (1 : Int) < 2; decide, hx1, hx9, hy1, hy9⟩) (by show 1 ≤ 30; decide)⟩
      refine ⟨.int most, rfl, most, 3, rfl, rfl, _, rfl, ite2 (fun h3 => ?_) (fun h3 => ?_)⟩
      · exact iteT (two 0 H Go.refl (by decide))
      · have h3' : 3 ≤ most := by
          have := of_decide_eq_false (Bool.eq_false_iff.mpr h3)
          omega
        refine ⟨.ref p, rfl, ⟨p, c, n, 4, rfl, hp, by omega, by decide, by decide, fun d H1 d0 d1 g1 => ⟨rfl, _, rfl, ite2 (fun e => ?_) (fun e => ?_)⟩⟩⟩
        · exact two 1 H1 g1 (by decide)
        · exact ⟨rfl, g1, h3'⟩
    · obtain ⟨g1, hm3⟩ := hM
      -- size, ties = flat(pen, most - 1)
      refine ⟨.ref p, rfl, .int most, rfl, most, 1, rfl, rfl, ⟨p, c, n + 1, most - 1, rfl, g1.2 n hp, by omega, by omega, by omega, fun r H2 s ts g2 hw hs1 hs2 hts hl hl0 => ?_⟩⟩
      obtain ⟨t0, v, rfl, ht0, hv⟩ := hw
      refine ⟨t0, _, rfl, SqT.of ht0, rfl, _, _, rfl, _, _, rfl, rfl, ?_⟩
      have g3 : Go p c 11 H H2 := g1.trans g2
      -- if draw(pen, 2) == 0
      refine cutIfM (M := fun H3 => Go p c 1 H2 H3) ⟨.ref p, rfl, ⟨p, c, n + 11, 2, rfl, g3.2 n hp, by omega, by decide, by decide, fun d H3 d0 d1 g4 => ⟨rfl, _, rfl, ite2 (fun e => ?_) (fun e => ⟨rfl, g4⟩)⟩⟩⟩ fun H3 g4 => ?_
      · have g5 := g3.trans g4
        refine ⟨.int s, rfl, s, 1, rfl, rfl, v, rfl, .ref p, rfl, .int s, rfl, ⟨p, c, n + 12, s, rfl, g5.2 n hp, by omega, by omega, by omega, fun a H4 a0 a1 g6 => ?_⟩⟩
        have g7 := g5.trans g6
        refine ⟨.int s, rfl, .ref p, rfl, ⟨p, c, n + 13, 2, rfl, g7.2 n hp, by omega, by decide, by decide, fun e2 H5 e0 e1 g8 => ⟨1, e2, rfl, rfl, ?_⟩⟩⟩
        have g9 := g7.trans g8
        refine ⟨by show 4 ≤ sizeLine; decide, fun t ht => ?_⟩
        have k6 : (upd H5 t (.tup [.int a, .int s, .int (1 + e2), .int 1])) t = some (.tup [.int a, .int s, .int (1 + e2), .int 1]) := upd_same
        have s6 : Same H5 (upd H5 t (.tup [.int a, .int s, .int (1 + e2), .int 1])) := same_new ht
        generalize upd H5 t (.tup [.int a, .int s, .int (1 + e2), .int 1]) = H6 at k6 s6 ⊢
        refine ⟨by show 1 ≤ sizeLine; decide, fun l3 hl3 => ?_⟩
        have k7 : (upd H6 l3 (.lst [.ref t])) l3 = some (.lst [.ref t]) := upd_same
        have s7 : Same H6 (upd H6 l3 (.lst [.ref t])) := same_new hl3
        generalize upd H6 l3 (.lst [.ref t]) = H7 at k7 s7 ⊢
        obtain ⟨b, zs, rfl, hb, hz⟩ := hv.ex (((g4.1.trans g6.1).trans g8.1).trans (Ex.of (s6.trans s7)))
        have lz := all_len hz
        refine ⟨b, l3, zs, [.ref t], rfl, rfl, hb, k7, Nat.le_trans (by show zs.length + 1 ≤ 31; omega) (by decide : 31 ≤ sizeLine), fun l4 hl4 => ?_⟩
        have k8 : (upd H7 l4 (.lst (zs ++ [.ref t]))) l4 = some (.lst (zs ++ [.ref t])) := upd_same
        have s8 : Same H7 (upd H7 l4 (.lst (zs ++ [.ref t]))) := same_new hl4
        generalize upd H7 l4 (.lst (zs ++ [.ref t])) = H8 at k8 s8 ⊢
        refine ⟨by show 2 ≤ sizeLine; decide, fin H8 (s + 1) (.ref l4) (ts ++ [⟨a, s, 1 + e2, 1⟩]) _ (go_same g9 (s6.trans (s7.trans s8))) (by omega) ⟨l4, _, rfl, k8, all_snoc (DpAll.ex (Ex.of s8) hz) (is_t4 (s8 _ _ (s7 _ _ k6)))⟩ (by omega) (by omega) ?_ (by rw [List.length_append]; show ts.length + 1 ≤ 30; omega)⟩
        refine (hts.mono (by decide) (by omega)).snoc ⟨a0, a1, by show s < s + 1; omega, by show 1 ≤ 1 + e2; omega, by show 1 + e2 ≤ 9; omega, Int.le_refl 1, (by show (1 : Int) ≤ 9; decide)⟩ fun x hx e => ?_
        have h1 := (hts.all x hx).bs
        have h2 : x.b = s := congrArg Prod.snd e
        omega
      · -- at = draw(pen, len(ties))
        have g5 := g3.trans g4
        obtain ⟨b, zs, rfl, hb, hz⟩ := hv.ex g4.1
        have lz := all_len hz
        refine ⟨.ref p, rfl, .ref b, rfl, b, zs, rfl, .inl (SqL.of hb), ⟨p, c, n + 12, (zs.length : Int), rfl, g5.2 n hp, by omega, by omega, by omega, fun a H4 a0 a1 g6 => ?_⟩⟩
        have g7 := g5.trans g6
        obtain ⟨at_, rfl⟩ : ∃ at_ : Nat, a = (at_ : Int) := ⟨a.toNat, by omega⟩
        have hlt : at_ < zs.length := by omega
        obtain ⟨t, ht, hxt⟩ := all_get hz (List.getElem?_eq_getElem hlt)
        obtain ⟨u, hu, hcu⟩ := t4_is (Dp.ex g6.1 hxt)
        have hb4 := g6.1 _ _ hb trivial
        have hz4 : All K H4 zs ts := DpAll.ex g6.1 hz
        -- one, two, there, back = ties[at]
        refine ⟨.ref b, rfl, .int (at_ : Int), rfl, b, zs, (at_ : Int), .ref u, rfl, rfl, SqL.of hb4, at_of rfl (by rw [← hu]; exact List.getElem?_eq_getElem hlt), u, _, rfl, hcu, rfl, _, _, rfl, _, _, rfl, _, _, rfl, _, _, rfl, rfl, ?_⟩
        have htm : t ∈ ts := by
          obtain ⟨h1, h2⟩ := List.getElem?_eq_some_iff.mp ht
          rw [← h2]
          exact List.getElem_mem h1
        have hto := hts.all t htm
        -- ties[:at]
        refine ⟨.int s, rfl, .ref b, rfl, .int (at_ : Int), rfl, (at_ : Int), rfl, b, zs, rfl, SqL.of hb4, fun p1 f1 => ?_⟩
        rw [cut_to]
        have k5 : (upd H4 p1 (.lst (zs.take at_))) p1 = some (.lst (zs.take at_)) := upd_same
        have s5 : Same H4 (upd H4 p1 (.lst (zs.take at_))) := same_new f1
        generalize upd H4 p1 (.lst (zs.take at_)) = H5 at k5 s5 ⊢
        refine ⟨.int t.a, rfl, .int t.b, rfl, .int t.c, rfl, t.c, 1, rfl, rfl, .ref p, rfl, ⟨p, c, n + 13, 3, rfl, (go_same g7 s5).2 n hp, by omega, by decide, by decide, fun e2 H6 e0 e1 g8 => ⟨t.c + 1, e2, rfl, rfl, ?_⟩⟩⟩
        have g9 := (go_same g7 s5).trans g8
        refine ⟨.int t.d, rfl, by show 4 ≤ sizeLine; decide, fun z hz0 => ?_⟩
        have k7 : (upd H6 z (.tup [.int t.a, .int t.b, .int (t.c + 1 + e2), .int t.d])) z = some (.tup [.int t.a, .int t.b, .int (t.c + 1 + e2), .int t.d]) := upd_same
        have s7 : Same H6 (upd H6 z (.tup [.int t.a, .int t.b, .int (t.c + 1 + e2), .int t.d])) := same_new hz0
        generalize upd H6 z (.tup [.int t.a, .int t.b, .int (t.c + 1 + e2), .int t.d]) = H7 at k7 s7 ⊢
        refine ⟨by show 1 ≤ sizeLine; decide, fun l2 f4 => ?_⟩
        have k8 : (upd H7 l2 (.lst [.ref z])) l2 = some (.lst [.ref z]) := upd_same
        have s8 : Same H7 (upd H7 l2 (.lst [.ref z])) := same_new f4
        generalize upd H7 l2 (.lst [.ref z]) = H8 at k8 s8 ⊢
        have kp1 : H8 p1 = some (.lst (zs.take at_)) := s8 _ _ (s7 _ _ (g8.1 _ _ k5 trivial))
        have hsz : (zs.take at_).length ≤ 1000 := by
          rw [List.length_take]
          omega
        refine ⟨p1, l2, _, _, rfl, rfl, kp1, k8, Nat.le_trans (by show (zs.take at_).length + 1 ≤ 1001; omega) (by decide : 1001 ≤ sizeLine), fun p3 f5 => ?_⟩
        have k9 : (upd H8 p3 (.lst (zs.take at_ ++ [.ref z]))) p3 = some (.lst (zs.take at_ ++ [.ref z])) := upd_same
        have s9 : Same H8 (upd H8 p3 (.lst (zs.take at_ ++ [.ref z]))) := same_new f5
        generalize upd H8 p3 (.lst (zs.take at_ ++ [.ref z])) = H9 at k9 s9 ⊢
        have e49 : Ex H4 H9 := ((Ex.of s5).trans g8.1).trans (Ex.of (s7.trans (s8.trans s9)))
        refine ⟨.ref b, rfl, .int (at_ : Int), rfl, (at_ : Int), 1, rfl, rfl, ((at_ + 1 : Nat) : Int), rfl, b, zs, rfl, e49.l (SqL.of hb4), fun p4 f6 => ?_⟩
        rw [cut_from]
        have ka : (upd H9 p4 (.lst (zs.drop (at_ + 1)))) p4 = some (.lst (zs.drop (at_ + 1))) := upd_same
        have sa : Same H9 (upd H9 p4 (.lst (zs.drop (at_ + 1)))) := same_new f6
        generalize upd H9 p4 (.lst (zs.drop (at_ + 1))) = Ha at ka sa ⊢
        have hsz2 : (zs.drop (at_ + 1)).length ≤ 1000 := by
          rw [List.length_drop]
          omega
        refine ⟨p3, p4, _, _, rfl, rfl, sa _ _ k9, ka, Nat.le_trans (by rw [List.length_append, List.length_singleton]; omega : (zs.take at_ ++ [V.ref z]).length + (zs.drop (at_ + 1)).length ≤ 2001) (by decide : 2001 ≤ sizeLine), fun p5 f7 => ?_⟩
        have kb : (upd Ha p5 (.lst (zs.take at_ ++ [.ref z] ++ zs.drop (at_ + 1)))) p5 = some (.lst (zs.take at_ ++ [.ref z] ++ zs.drop (at_ + 1))) := upd_same
        have sb : Same Ha (upd Ha p5 (.lst (zs.take at_ ++ [.ref z] ++ zs.drop (at_ + 1)))) := same_new f7
        generalize upd Ha p5 (.lst (zs.take at_ ++ [.ref z] ++ zs.drop (at_ + 1))) = Hb at kb sb ⊢
        have e4b : Ex H4 Hb := e49.trans (Ex.of (sa.trans sb))
        have hAb : All K Hb zs ts := DpAll.ex e4b hz4
        have kz : Hb z = some (.tup [.int t.a, .int t.b, .int (t.c + 1 + e2), .int t.d]) := sb _ _ (sa _ _ (s9 _ _ (s8 _ _ k7)))
        refine ⟨by show 2 ≤ sizeLine; decide, fin Hb s (.ref p5) _ _ (go_same g9 (s7.trans (s8.trans (s9.trans (sa.trans sb))))) (by omega) ⟨p5, _, rfl, kb, all_app (all_app (all_take at_ hAb) (show All K Hb [V.ref z] [(⟨t.a, t.b, t.c + 1 + e2, t.d⟩ : Tie)] from dpa_one (is_t4 kz))) (all_drop (at_ + 1) hAb)⟩ hs1 (by omega) (hts.repl (t' := ⟨t.a, t.b, t.c + 1 + e2, t.d⟩) ht (by decide) ⟨hto.a0, hto.ab, hto.bs, ?_, ?_, hto.d1, ?_⟩ rfl rfl) ?_⟩
        · have := hto.c1
          show 1 ≤ t.c + 1 + e2
          omega
        · have := hto.cm
          show t.c + 1 + e2 ≤ 9
          omega
        · have := hto.dm
          show t.d ≤ 9
          omega
        · rw [List.length_append, List.length_append, List.length_take, List.length_drop, List.length_singleton]
          omega
/-! ### none_web -/
theorem sc__law_none_web : FnScope ["pen", "most", "size", "ties"] ["pen", "most"] (defScope s__law_none_web) := ⟨rfl, rfl, rfl, by decide +kernel, rfl, by decide +kernel, by decide +kernel⟩
theorem ok__law_none_web (D : Dn K mg "_law_none_web" s__law_none_web ["pen", "most"]) (B : Bt mg) (c__law_steep_shape : Cl P w K mg base 5 "_law_steep_shape" (spSteep K)) (c__law_renamed : Cl P w K mg base 3 "_law_renamed" (spRen K)) : Cl P w K mg base 6 "_law_none_web" (spWeb K 2) := by
  refine cl_of D sc__law_none_web (fun vs H Q E h => ?_) (fun cdv f A outer s H vs Q E hr h => ?_)
  · obtain ⟨p, c, n, most, rfl, _⟩ := h
    rfl
  · obtain ⟨p, c, n, most, rfl, hp, hn, hm0, hm1, q⟩ := h
    have nd := sc__law_none_web.nd
    refine ⟨_, (pss_cons (ps_asg (pe_c c__law_steep_shape hr (by decide) (by rfl) (pa_cons (pv 0) (pa_cons (pv 1) pa_nil))) (pg_tupK (n := 2) (by rfl) (pgs_cons (pg_name (i := 2) nd rfl (.inl rfl)) (pgs_cons (pg_name (i := 3) nd rfl (.inl rfl)) pgs_nil))))
    (pss_one (ps_ret (pe_tup (pa_cons (pv 2) (pa_cons (pe_c c__law_renamed hr (by decide) (by rfl) (pa_cons (pv 0) (pa_cons (pv 2) (pa_cons (pv 3) pa_nil)))) pa_nil)))))), ?_⟩
    refine ⟨.ref p, rfl, .int most, rfl, ⟨p, c, n, most, rfl, hp, by omega, by omega, by omega, fun r H1 s ts g1 hw hs1 hs2 hts hl => ?_⟩⟩
    obtain ⟨t, v, rfl, ht, hv⟩ := hw
    refine ⟨t, _, rfl, SqT.of ht, rfl, _, _, rfl, _, _, rfl, rfl, ?_⟩
    refine ⟨.int s, rfl, .ref p, rfl, .int s, rfl, v, rfl, ⟨p, c, n + 20, s, 9, v, ts, rfl, g1.2 n hp, by omega, by omega, by omega, hv.is, hts, by omega, fun r H5 ts' g5 hr5 hren => ?_⟩⟩
    refine ⟨by show 2 ≤ sizeLine; decide, fun e he => ?_⟩
    exact q _ _ s ts' ((go_same (g1.trans g5) (same_new he)).mono (by omega)) ⟨e, r, rfl, upd_same, hr5.ex (Ex.new he)⟩ (by omega) hs2 (hren.ok hts) (by rw [hren.len]; omega)
end
end Gb
set_option maxRecDepth 100000
set_option maxHeartbeats 4000000
namespace Gb
open PySem PySem.Spec PyProof.Rows L2
open PySem.W (Datum Tup T4)
theorem int7 {a b c d e f g : Int} {i : Nat} {v : V} (h : ([.int a, .int b, .int c, .int d, .int e, .int f, .int g] : List V)[i]? = some v) {R : Int → Prop} (ha : R a) (hb : R b) (hc : R c) (hd : R d) (he : R e) (hf : R f) (hg : R g) : ∃ z, v = .int z ∧ R z := by
  match i, h with
  | 0, e => exact ⟨_, (Option.some.inj e).symm, ha⟩
  | 1, e => exact ⟨_, (Option.some.inj e).symm, hb⟩
  | 2, e => exact ⟨_, (Option.some.inj e).symm, hc⟩
  | 3, e => exact ⟨_, (Option.some.inj e).symm, hd⟩
  | 4, e => exact ⟨_, (Option.some.inj e).symm, he⟩
  | 5, e => exact ⟨_, (Option.some.inj e).symm, hf⟩
  | 6, e => exact ⟨_, (Option.some.inj e).symm, hg⟩
/-- the ties so far of a web whose posts are gone through: all with first posts below i, those of i with second posts below i + 1 + j -/
structure AnyAt (K : PySem.W.Frag) (p c : Addr) (H : Hp) (l : Addr) (s : Int) (i j : Nat) (H' : Hp) (vs : List V) (ts : List Tie) : Prop where
  loc : Loc p c (1 + 48 * i + 4 * j) H H' l vs
  all : All K (del H' l) vs ts
  ok : TiesOk 9 s ts
  lt : ∀ t ∈ ts, t.a < i ∨ (t.a = i ∧ t.b < i + 1 + j)
  len : ts.length ≤ 12 * i + j
section
variable {P : Program} {w : World} {K : PySem.W.Frag} {mg : Str → Option Value} {base : Heap}
theorem sc__law_any_web : FnScope ["pen", "most", "size", "ties", "sparse", "one", "two", "cords", "k"] ["pen", "most"] (defScope s__law_any_web) := ⟨rfl, rfl, rfl, by decide +kernel, rfl, by decide +kernel, by decide +kernel⟩
theorem ok__law_any_web (D : Dn K mg "_law_any_web" s__law_any_web ["pen", "most"]) (B : Bt mg) (c__law_draw : Cl P w K mg base 1 "_law_draw" spDraw) (c__law_pick : Cl P w K mg base 2 "_law_pick" (spPick K)) (c__law_shuffled : Cl P w K mg base 2 "_law_shuffled" (spShuf K)) : Cl P w K mg base 3 "_law_any_web" (spWeb K 1) := by
  refine cl_of D sc__law_any_web (fun vs H Q E h => ?_) (fun cdv f A outer s H vs Q E hr h => ?_)
  · obtain ⟨p, c, n, most, rfl, _⟩ := h
    rfl
  · obtain ⟨p, c, n, most, rfl, hp, hn, hm0, hm1, q⟩ := h
    have nd := sc__law_any_web.nd
    refine ⟨_, (pss_cons (ps_par (i := 2) (j := 3) (by rfl) nd rfl rfl (by decide) rfl rfl (pa_cons (pe_op op_add pe_int (pe_c c__law_draw hr (by decide) (by rfl) (pa_cons (pv 0) (pa_cons (pv 1) pa_nil)))) (pa_cons (pe_lst pa_nil) pa_nil)) (by rfl))
    (pss_cons (ps_set (i := 4) nd rfl (.inl rfl) (pe_op op_add pe_int (pe_c c__law_draw hr (by decide) (by rfl) (pa_cons (pv 0) (pa_cons pe_int pa_nil)))))
    (pss_cons (ps_for PassesOwn.never rfl (pi_range1 (by rfl) B.range (pa_cons (pv 2) pa_nil)) (pg_name (i := 5) nd rfl (.inl rfl))
    (pss_one (ps_for PassesOwn.never rfl (pi_range2 (by rfl) B.range (pa_cons (pe_op op_add (pv 5) pe_int) (pa_cons (pv 2) pa_nil))) (pg_name (i := 6) nd rfl (.inl rfl))
    (pss_one (ps_if (PW.pt (pw_and (pt_cmpR op_eq (pe_c c__law_draw hr (by decide) (by rfl) (pa_cons (pv 0) (pa_cons (pv 4) pa_nil))) pe_int (nomark _)) (pw_and1 (pt_cmpR op_eq (pe_c c__law_draw hr (by decide) (by rfl) (pa_cons (pv 0) (pa_cons pe_int pa_nil))) pe_int (nomark _)))))
    (pss_cons (ps_setLc (i := 7) (own := [("k", 8)]) rfl nd rfl rfl (sw_true rfl rfl rfl (by decide +kernel)) (pi_range1 (by rfl) B.range (pa_cons pe_int pa_nil)) (blkOk_by (N := ["pen", "most", "size", "ties", "sparse", "one", "two", "cords", "k"]) (sc := defScope s__law_any_web) (by decide +kernel)) (fun _ _ _ _ _ => (pg_name (i := 8) nd rfl (.inl rfl))) (fun _ _ _ _ _ => pts_nil) (fun _ _ _ _ _ => (pe_c c__law_pick hr (by decide) (by rfl) (pa_cons (pv 0) (pa_cons (pe_lst (pa_cons pe_int (pa_cons pe_int (pa_cons pe_int (pa_cons pe_int (pa_cons pe_int (pa_cons pe_int (pa_cons pe_int pa_nil)))))))) pa_nil)))))
    (pss_one (ps_expr (pe_bmK PySem.F.plainAttrs_list PySem.F.slot_list_append PySem.F.type_list_append mt_append (pv 3) (pa_cons (pe_tup (pa_cons (pv 5) (pa_cons (pv 6) (pa_cons (pe_ix ix_listK (pv 7) pe_int (fun _ _ => rfl)) (pa_cons (pe_ix ix_listK (pv 7) pe_int (fun _ _ => rfl)) pa_nil))))) pa_nil)))))
    pss_nil)))))
    (pss_one (ps_ret (pe_tup (pa_cons (pv 2) (pa_cons (pe_c c__law_shuffled hr (by decide) (by rfl) (pa_cons (pv 0) (pa_cons (pv 3) pa_nil))) pa_nil)))))))), ?_⟩
    -- size, ties = 1 + draw(pen, most), []
    refine ⟨.ref p, rfl, .int most, rfl, ⟨p, c, n, most, rfl, hp, by omega, by omega, by omega, fun d H1 d0 d1 g1 => ⟨1, d, rfl, rfl, ?_⟩⟩⟩
    refine ⟨Nat.zero_le _, fun l hl => ?_⟩
    obtain ⟨s, es⟩ : ∃ s : Int, s = 1 + d := ⟨_, rfl⟩
    refine ⟨.int s, .ref l, by rw [es], ?_⟩
    have hs1 : 1 ≤ s := by omega
    have hs2 : s ≤ most := by omega
    clear es d0 d1
    have np := (g1.2 n hp).ne hl
    have hp1 := g1.2 n hp
    have L1 : Loc p c 0 H1 (upd H1 l (.lst [])) l [] := Loc.start Go.refl hl hl np.1 np.2
    -- sparse = 1 + draw(pen, 6)
    refine ⟨.ref p, rfl, ⟨p, c, n + 1 + 0, 6, rfl, L1.pen hp1, by omega, by decide, by decide, fun d H2 d0 d1 g2 => ⟨1, d, rfl, rfl, ?_⟩⟩⟩
    obtain ⟨sp, hsp⟩ : ∃ sp : Int, 1 + d = sp := ⟨_, rfl⟩
    have hsp1 : 1 ≤ sp ∧ sp ≤ 6 := by omega
    have L2 : Loc p c 1 H1 H2 l [] := L1.call g2
    -- for one in range(size)
    refine ⟨.int s, rfl, s, rfl, by omega, by omega, for_range (lo := 0) (n := s.toNat) (fun i σ H' => ∃ (vs : List V) (ts : List Tie) (u5 u6 u7 u8 : Option V), σ = [some (.ref p), some (.int most), some (.int s), some (.ref l), some (.int sp), u5, u6, u7, u8] ∧ AnyAt K p c H1 l s i 0 H' vs ts)
      ⟨[], [], none, none, none, none, by rw [← hsp]; rfl, L2, .nil, .nil, fun t ht => (by cases ht), Nat.zero_le _⟩ ?_ ?_⟩
    · rintro i σ H' hi ⟨vs, ts, u5, u6, u7, u8, rfl, A⟩
      -- for two in range(one + 1, size)
      refine ⟨.int (0 + (i : Int)), rfl, 0 + (i : Int), 1, rfl, rfl, .int s, rfl, 0 + (i : Int) + 1, s, rfl, ⟨by omega, by omega, by omega, by omega⟩, for_range (lo := 0 + (i : Int) + 1) (n := (s - (0 + (i : Int) + 1)).toNat) (fun j σ H' => ∃ (vs : List V) (ts : List Tie) (u6 u7 u8 : Option V), σ = [some (.ref p), some (.int most), some (.int s), some (.ref l), some (.int sp), some (.int (0 + (i : Int))), u6, u7, u8] ∧ AnyAt K p c H1 l s i j H' vs ts)
        ⟨vs, ts, u6, u7, u8, rfl, A⟩ ?_ ?_⟩
      · rintro j σ H' hj ⟨vs, ts, u6, u7, u8, rfl, A⟩
        have hvl := all_len A.all
        have hil : i ≤ 11 := by omega
        have hjl : j ≤ 11 := by omega
        have hlen := A.len
        have pen1 : Pen H' p c (n + 1 + (1 + 48 * i + 4 * j)) := A.loc.pen hp1
        -- what holds where nothing is tied
        have skip : ∀ (H2 : Hp) (k : Nat), Go p c k H' H2 → k ≤ 4 → AnyAt K p c H1 l s i (j + 1) H2 vs ts := fun H2 k g hk =>
          ⟨(A.loc.call g).mono (by omega), DpAll.ex (Ex.del g.1) A.all, A.ok, fun t ht => by
            rcases A.lt t ht with h | ⟨h1, h2⟩
            · exact .inl h
            · exact .inr ⟨h1, by omega⟩, by omega⟩
        refine ⟨.ref p, rfl, .int sp, rfl, ⟨p, c, _, sp, rfl, pen1, by omega, by omega, by omega, fun d2 H2 _ _ g2 => ⟨rfl, _, rfl, ite2 (fun _ => ?_) (fun _ => ⟨vs, ts, _, _, _, rfl, skip H2 1 g2 (by decide)⟩)⟩⟩⟩
        refine ⟨.ref p, rfl, ⟨p, c, _, 2, rfl, g2.2 _ pen1, by omega, by decide, by decide, fun d3 H3 _ _ g3 => ⟨rfl, _, rfl, ite2 (fun _ => ?_) (fun _ => ⟨vs, ts, _, _, _, rfl, skip H3 2 (g2.trans g3) (by decide)⟩)⟩⟩⟩
        have g23 : Go p c 2 H' H3 := g2.trans g3
        have L3 := A.loc.call g23
        have pen3 : Pen H3 p c (n + 1 + (1 + 48 * i + 4 * j + 2)) := L3.pen hp1
        -- cords = [pick(pen, [1, 1, 1, 1, 2, 3, 9]) for k in range(2)]
        refine ⟨2, rfl, by decide, by decide, fun D hD => ?_⟩
        have nD := pen3.ne hD
        refine lc_rangeG (lo := 0) (n := 2) (k := 1) (fun _ y _ => ∃ z : Int, y = .int z ∧ 1 ≤ z ∧ z ≤ 9) (fun _ _ _ _ _ h => h) rel_go hD (fun e => e.elim nD.1 nD.2) (by decide) (fun _ => rfl) ?_ ?_
        · intro k H4 hk g4 _ Q' q'
          refine ⟨.ref p, rfl, by show 7 ≤ sizeLine; decide, fun e he => ?_⟩
          have k5 : (upd H4 e (.lst [.int 1, .int 1, .int 1, .int 1, .int 2, .int 3, .int 9])) e = some (.lst [.int 1, .int 1, .int 1, .int 1, .int 2, .int 3, .int 9]) := upd_same
          have s5 : Same H4 (upd H4 e (.lst [.int 1, .int 1, .int 1, .int 1, .int 2, .int 3, .int 9])) := same_new he
          generalize upd H4 e (.lst [.int 1, .int 1, .int 1, .int 1, .int 2, .int 3, .int 9]) = H5 at k5 s5 ⊢
          refine ⟨p, c, e, n + 1 + (1 + 48 * i + 4 * j + 2) + 1 * k, _, rfl, (go_same g4 s5).2 _ pen3, by omega, SqL.of k5, (by show 0 < 7; decide), (by show 7 < 1000; decide), fun i2 v2 H6 hv2 g6 => ?_⟩
          obtain ⟨z, rfl, hz⟩ := int7 hv2 (R := fun z => 1 ≤ z ∧ z ≤ 9) (by decide) (by decide) (by decide) (by decide) (by decide) (by decide) (by decide)
          have g5 : Go p c 1 H4 H6 := by
            have q0 := (Go.of (p := p) (c := c) s5).trans g6
            rw [Nat.zero_add] at q0
            exact q0
          exact q' _ H6 g5 ⟨z, rfl, hz⟩
        · intro ys H4 hy hyl hz g4 _
          obtain ⟨z0, z1, rfl, hz01, hz09, hz11, hz19⟩ : ∃ z0 z1 : Int, ys = [.int z0, .int z1] ∧ 1 ≤ z0 ∧ z0 ≤ 9 ∧ 1 ≤ z1 ∧ z1 ≤ 9 := by
            match ys, hyl with
            | [y0, y1], _ =>
              obtain ⟨z0, rfl, h1, h2⟩ := hz 0 y0 rfl
              obtain ⟨z1, rfl, h3, h4⟩ := hz 1 y1 rfl
              exact ⟨z0, z1, rfl, h1, h2, h3, h4⟩
          have L4 := L3.call g4
          have g24 := g23.trans g4
          -- ties.append((one, two, cords[0], cords[1]))
          refine ⟨.ref l, rfl, .inl ⟨rfl, _, SqL.of L4.at_⟩, .int (0 + (i : Int)), rfl, .int (0 + (i : Int) + 1 + (j : Int)), rfl, .ref D, rfl, D, _, 0, .int z0, rfl, rfl, SqL.of hy, rfl, .ref D, rfl, D, _, 1, .int z1, rfl, rfl, SqL.of hy, rfl, by show 4 ≤ sizeLine; decide, fun t ht => ?_⟩
          have ntl : t ≠ l := fun e => by
            rw [e, L4.at_] at ht
            cases ht
          have k5 : (upd H4 t (.tup [.int (0 + (i : Int)), .int (0 + (i : Int) + 1 + (j : Int)), .int z0, .int z1])) t = some (.tup [.int (0 + (i : Int)), .int (0 + (i : Int) + 1 + (j : Int)), .int z0, .int z1]) := upd_same
          have s5 : Same H4 (upd H4 t (.tup [.int (0 + (i : Int)), .int (0 + (i : Int) + 1 + (j : Int)), .int z0, .int z1])) := same_new ht
          generalize upd H4 t (.tup [.int (0 + (i : Int)), .int (0 + (i : Int) + 1 + (j : Int)), .int z0, .int z1]) = H5 at k5 s5 ⊢
          have L5 := L4.pure s5
          refine ⟨l, vs, .ref t, rfl, rfl, L5.at_, Nat.lt_of_le_of_lt (by omega : vs.length ≤ 1000) (by decide), vs ++ [.ref t], ts ++ [⟨0 + (i : Int), 0 + (i : Int) + 1 + (j : Int), z0, z1⟩], _, _, _, rfl, ?_⟩
          refine ⟨(L5.set (ys := vs ++ [.ref t])).mono (by omega), ?_, ?_, ?_, ?_⟩
          · rw [del_upd]
            refine all_snoc (DpAll.ex (Ex.del (g24.1.trans (Ex.of s5))) A.all) (is_t4 ?_)
            rw [del_ne ntl]
            exact k5
          · refine A.ok.snoc ⟨by show 0 ≤ 0 + (i : Int); omega, by show 0 + (i : Int) < 0 + (i : Int) + 1 + (j : Int); omega, by show 0 + (i : Int) + 1 + (j : Int) < s; omega, hz01, hz09, hz11, hz19⟩ fun x hx e => ?_
            have e1 : x.a = 0 + (i : Int) := congrArg Prod.fst e
            have e2 : x.b = 0 + (i : Int) + 1 + (j : Int) := congrArg Prod.snd e
            rcases A.lt x hx with h | ⟨h1, h2⟩
            · omega
            · omega
          · intro x hx
            rcases List.mem_append.mp hx with hx | hx
            · rcases A.lt x hx with h | ⟨h1, h2⟩
              · exact .inl h
              · exact .inr ⟨h1, by omega⟩
            · rw [List.mem_singleton] at hx
              rw [hx]
              exact .inr ⟨by show 0 + (i : Int) = (i : Int); omega, by show 0 + (i : Int) + 1 + (j : Int) < (i : Int) + 1 + ((j + 1 : Nat) : Int); omega⟩
          · rw [List.length_append]
            show ts.length + 1 ≤ _
            omega
      · rintro σ H' ⟨vs, ts, u6, u7, u8, rfl, A⟩
        have hlen := A.len
        refine ⟨vs, ts, _, _, _, _, rfl, A.loc.mono (by omega), A.all, A.ok, fun t ht => .inl ?_, by omega⟩
        have hb := (A.ok.all t ht).bs
        rcases A.lt t ht with h | ⟨h1, h2⟩
        · omega
        · omega
    · rintro σ H' ⟨vs, ts, u5, u6, u7, u8, rfl, A⟩
      have hvl := all_len A.all
      have hlen := A.len
      have hs12 : s.toNat ≤ 12 := by omega
      have pen1 : Pen H' p c (n + 1 + (1 + 48 * s.toNat + 4 * 0)) := A.loc.pen hp1
      refine ⟨.int s, rfl, .ref p, rfl, .ref l, rfl, ⟨p, c, l, _, vs, rfl, pen1, by omega, SqL.of A.loc.at_, by omega, fun r5 zs H5 _ hzs pm5 g5 => ?_⟩⟩
      have hA5 : All K H5 vs ts := DpAll.ex (del_ex.trans g5.1) A.all
      obtain ⟨ts', p1, p2⟩ := all_perm pm5 hA5
      refine ⟨by show 2 ≤ sizeLine; decide, fun e he => ?_⟩
      exact q _ _ s ts' ((go_same ((g1.trans A.loc.done).trans g5) (same_new he)).mono (by omega)) ⟨e, .ref r5, rfl, upd_same, Ls.ex (Ex.new he) ⟨r5, zs, rfl, hzs, p2⟩⟩ hs1 hs2 (A.ok.perm p1) (by rw [p1.length_eq]; omega)
end
end Gb
set_option maxRecDepth 100000
set_option maxHeartbeats 4000000
namespace Gb
open PySem PySem.Spec PyProof.Rows L2
open PySem.W (Datum Tup T4)
section
variable {P : Program} {w : World} {K : PySem.W.Frag} {mg : Str → Option Value} {base : Heap}
def spSome (K : PySem.W.Frag) : Sp := fun vs H Q _ => ∃ (p c : Addr) (n : Nat) (most : Int), vs = [.ref p, .int most] ∧ Pen H p c n ∧ n + 2000 ≤ 2 ^ 60 ∧ 2 ≤ most ∧ most ≤ 12 ∧
  ∀ (r : V) (H' : Hp) (s : Int) (ts : List Tie), Go p c 2000 H H' → Web2 K H' r s ts → 1 ≤ s → s ≤ most → TiesOk 9 s ts → ts.length ≤ 200 → Q r H'
theorem sc__law_some_web : FnScope ["pen", "most", "road", "size", "ties", "more", "others"] ["pen", "most"] (defScope s__law_some_web) := ⟨rfl, rfl, rfl, by decide +kernel, rfl, by decide +kernel, by decide +kernel⟩
theorem ok__law_some_web (D : Dn K mg "_law_some_web" s__law_some_web ["pen", "most"]) (B : Bt mg) (c__law_draw : Cl P w K mg base 1 "_law_draw" spDraw) (c__law_pick : Cl P w K mg base 2 "_law_pick" (spPick K)) (c__law_good_shape : Cl P w K mg base 4 "_law_good_shape" (spGood K)) (c__law_flat_shape : Cl P w K mg base 4 "_law_flat_shape" (spFlat K)) (c__law_steep_shape : Cl P w K mg base 5 "_law_steep_shape" (spSteep K)) (c__law_moved : Cl P w K mg base 1 "_law_moved" (spMov K)) (c__law_renamed : Cl P w K mg base 3 "_law_renamed" (spRen K)) (c__law_all_web : Cl P w K mg base 5 "_law_all_web" (spWeb K 1)) (c__law_waves_web : Cl P w K mg base 5 "_law_waves_web" (spWeb K 2)) (c__law_none_web : Cl P w K mg base 6 "_law_none_web" (spWeb K 2)) (c__law_any_web : Cl P w K mg base 3 "_law_any_web" (spWeb K 1)) : Cl P w K mg base 7 "_law_some_web" (spSome K) := by
  refine cl_of D sc__law_some_web (fun vs H Q E h => ?_) (fun cdv f A outer s H vs Q E hr h => ?_)
  · obtain ⟨p, c, n, most, rfl, _⟩ := h
    rfl
  · obtain ⟨p, c, n, most, rfl, hp, hn, hm0, hm1, q⟩ := h
    have nd := sc__law_some_web.nd
    obtain ⟨fG, fdG, psG, FG, mG, kG, bG⟩ := id c__law_good_shape.ex
    obtain ⟨fF, fdF, psF, FF, mF, kF, bF⟩ := id c__law_flat_shape.ex
    obtain ⟨fS, fdS, psS, FS, mS, kS, bS⟩ := id c__law_steep_shape.ex
    have v__law_good_shape : ∃ u, mg "_law_good_shape" = some u ∧ RelV (.ref fG) u := ⟨_, mG, rfl⟩
    have v__law_flat_shape : ∃ u, mg "_law_flat_shape" = some u ∧ RelV (.ref fF) u := ⟨_, mF, rfl⟩
    have v__law_steep_shape : ∃ u, mg "_law_steep_shape" = some u ∧ RelV (.ref fS) u := ⟨_, mS, rfl⟩
    have hE : ∀ f sp, ((f = fG ∧ sp = spGood K) ∨ (f = fF ∧ sp = spFlat K) ∨ (f = fS ∧ sp = spSteep K)) → ∃ fd ps, FnOk P w K mg base CX0 6 f fd ps sp ∧ PySem.W.keepIn K (.ref f) = true ∧ Binds K fd ps [] := by
      rintro f sp (⟨rfl, rfl⟩ | ⟨rfl, rfl⟩ | ⟨rfl, rfl⟩)
      · exact ⟨fdG, psG, FG.mono (by decide), kG, bG⟩
      · exact ⟨fdF, psF, FF.mono (by decide), kF, bF⟩
      · exact ⟨fdS, psS, FS.mono (by decide), kS, bS⟩
    refine ⟨_, (pss_cons (ps_set (i := 2) nd rfl (.inl rfl) (pe_c c__law_draw hr (by decide) (by rfl) (pa_cons (pv 0) (pa_cons pe_int pa_nil))))
    (Evl.pss_cut (ps_if (pt_cmpR op_eq (pv 2) pe_int (nomark _))
    (pss_one (ps_ret (pe_c c__law_all_web hr (by decide) (by rfl) (pa_cons (pv 0) (pa_cons (pv 1) pa_nil)))))
    pss_nil)
    (Evl.pss_cut (ps_if (pt_cmpR op_eq (pv 2) pe_int (nomark _))
    (pss_one (ps_ret (pe_c c__law_waves_web hr (by decide) (by rfl) (pa_cons (pv 0) (pa_cons (pv 1) pa_nil)))))
    pss_nil)
    (Evl.pss_cut (ps_if (pt_cmpR op_eq (pv 2) pe_int (nomark _))
    (pss_one (ps_ret (pe_c c__law_none_web hr (by decide) (by rfl) (pa_cons (pv 0) (pa_cons (pv 1) pa_nil)))))
    pss_nil)
    (Evl.pss_cut (ps_if (PW.pt (pw_and (pt_cmpR op_eq (pv 2) pe_int (nomark _)) (pw_and1 (pt_cmpR op_gt (pv 1) pe_int (nomark _)))))
    (pss_cons (ps_asg (pe_callE hE hr (pe_c c__law_pick hr (by decide) (by rfl) (pa_cons (pv 0) (pa_cons (pe_lst (pa_cons (pe_gv (by rfl) v__law_good_shape) (pa_cons (pe_gv (by rfl) v__law_flat_shape) (pa_cons (pe_gv (by rfl) v__law_steep_shape) pa_nil)))) pa_nil))) (pa_cons (pv 0) (pa_cons (pe_op op_sub (pv 1) pe_int) pa_nil))) (pg_tupK (n := 2) (by rfl) (pgs_cons (pg_name (i := 3) nd rfl (.inl rfl)) (pgs_cons (pg_name (i := 4) nd rfl (.inl rfl)) pgs_nil))))
    (pss_cons (ps_asg (pe_c c__law_good_shape hr (by decide) (by rfl) (pa_cons (pv 0) (pa_cons (pe_op op_sub (pv 1) (pv 3)) pa_nil))) (pg_tupK (n := 2) (by rfl) (pgs_cons (pg_name (i := 5) nd rfl (.inl rfl)) (pgs_cons (pg_name (i := 6) nd rfl (.inl rfl)) pgs_nil))))
    (pss_one (ps_ret (pe_tup (pa_cons (pe_op op_add (pv 3) (pv 5)) (pa_cons (pe_c c__law_renamed hr (by decide) (by rfl) (pa_cons (pv 0) (pa_cons (pe_op op_add (pv 3) (pv 5)) (pa_cons (pe_op op_cat (pv 4) (pe_c c__law_moved hr (by decide) (by rfl) (pa_cons (pv 6) (pa_cons (pv 3) pa_nil)))) pa_nil)))) pa_nil)))))))
    pss_nil)
    (pss_one (ps_ret (pe_c c__law_any_web hr (by decide) (by rfl) (pa_cons (pv 0) (pa_cons (pv 1) pa_nil)))))))))), ?_⟩
    refine ⟨.ref p, rfl, ⟨p, c, n, 5, rfl, hp, by omega, by decide, by decide, fun road H1 _ _ g1 => ?_⟩⟩
    have hp1 := g1.2 n hp
    have big : ∀ (lo : Int), lo ≤ most → ∀ H2, Same H1 H2 → spWeb K lo [.ref p, .int most] H2 Q E0 := fun lo hlo H2 s2 =>
      ⟨p, c, n + 1, most, rfl, (Go.of (p := p) (c := c) s2).2 _ hp1, by omega, hlo, hm1, fun r H' s ts g hw h1 h2 h3 h4 => q r H' s ts (((go_same g1 s2).trans g).mono (by decide)) hw h1 h2 h3 h4⟩
    refine cutIf ⟨.int road, rfl, rfl, _, rfl, ite2 (fun e => ⟨.ref p, rfl, .int most, rfl, big 1 (by omega) _ (Same.refl _)⟩) (fun _ => ⟨rfl, Same.refl _⟩)⟩ fun H2 s2 => ?_
    refine cutIf ⟨.int road, rfl, rfl, _, rfl, ite2 (fun e => ⟨.ref p, rfl, .int most, rfl, big 2 hm0 _ s2⟩) (fun _ => ⟨rfl, Same.refl _⟩)⟩ fun H3 s3 => ?_
    refine cutIf ⟨.int road, rfl, rfl, _, rfl, ite2 (fun e => ⟨.ref p, rfl, .int most, rfl, big 2 hm0 _ (s2.trans s3)⟩) (fun _ => ⟨rfl, Same.refl _⟩)⟩ fun H4 s4 => ?_
    have s14 := s2.trans (s3.trans s4)
    refine cutIf ⟨.int road, rfl, rfl, _, rfl, ite2 (fun e => ⟨.int most, rfl, most, 4, rfl, rfl, _, rfl, ite2 (fun hs => ?_) (fun _ => ⟨rfl, Same.refl _⟩)⟩) (fun _ => ⟨rfl, Same.refl _⟩)⟩ fun H5 s5 => ?_
    · have hm4 : 4 < most := of_decide_eq_true hs
      have g4 := go_same g1 s14
      refine ⟨.ref p, rfl, by show 3 ≤ sizeLine; decide, fun l hl => ?_⟩
      have k5 : (upd H4 l (.lst [.ref fG, .ref fF, .ref fS])) l = some (.lst [.ref fG, .ref fF, .ref fS]) := upd_same
      have s5 : Same H4 (upd H4 l (.lst [.ref fG, .ref fF, .ref fS])) := same_new hl
      generalize upd H4 l (.lst [.ref fG, .ref fF, .ref fS]) = H5 at k5 s5 ⊢
      have g5 := go_same g4 s5
      refine ⟨p, c, l, n + 1, _, rfl, g5.2 n hp, by omega, SqL.of k5, (by show 0 < 3; decide), (by show 3 < 1000; decide), fun i v H6 hv g6 => ?_⟩
      have g7 := g5.trans g6
      have hp7 := g7.2 n hp
      have key : ∃ f sp, v = .ref f ∧ ((f = fG ∧ sp = spGood K) ∨ (f = fF ∧ sp = spFlat K) ∨ (f = fS ∧ sp = spSteep K)) ∧ ∀ Q' : VK, (∀ (r : V) (H' : Hp) (s : Int) (ts : List Tie), Go p c 20 H6 H' → Web2 K H' r s ts → 1 ≤ s → s ≤ most - 2 → TiesOk 9 s ts → ts.length ≤ 30 → Q' r H') → sp [.ref p, .int (most - 2)] H6 Q' E0 := by
        match i, hv with
        | 0, e => exact ⟨fG, _, (Option.some.inj e).symm, .inl ⟨rfl, rfl⟩, fun Q' k => ⟨p, c, _, most - 2, rfl, hp7, by omega, by omega, by omega, fun r H' s ts g hw h1 h2 h3 h4 => k r H' s ts (g.mono (by decide)) hw h1 h2 (h3.mono (by decide) (Int.le_refl _)) (by omega)⟩⟩
        | 1, e => exact ⟨fF, _, (Option.some.inj e).symm, .inr (.inl ⟨rfl, rfl⟩), fun Q' k => ⟨p, c, _, most - 2, rfl, hp7, by omega, by omega, by omega, fun r H' s ts g hw h1 h2 h3 h4 _ => k r H' s ts (g.mono (by decide)) hw (by omega) h2 (h3.mono (by decide) (Int.le_refl _)) (by omega)⟩⟩
        | 2, e => exact ⟨fS, _, (Option.some.inj e).symm, .inr (.inr ⟨rfl, rfl⟩), fun Q' k => ⟨p, c, _, most - 2, rfl, hp7, by omega, by omega, by omega, fun r H' s ts g hw h1 h2 h3 h4 => k r H' s ts g hw (by omega) h2 h3 h4⟩⟩
      obtain ⟨f, sp, rfl, hS, hsp⟩ := key
      refine ⟨f, sp, rfl, hS, .ref p, rfl, .int most, rfl, most, 2, rfl, rfl, hsp _ fun r H7 s ts g8 hw hs1 hs2 hts hl3 => ?_⟩
      have g9 := g7.trans g8
      obtain ⟨t, v, rfl, ht, hv⟩ := hw
      refine ⟨t, _, rfl, SqT.of ht, rfl, _, _, rfl, _, _, rfl, rfl, ?_⟩
      -- more, others = good_shape(pen, most - size)
      refine ⟨.ref p, rfl, .int most, rfl, .int s, rfl, most, s, rfl, rfl, ⟨p, c, _, most - s, rfl, g9.2 n hp, by omega, by omega, by omega, fun r2 H8 s2' ts2 g10 hw2 hs21 hs22 hts2 hl2 => ?_⟩⟩
      have ga := g9.trans g10
      obtain ⟨t2, v2, rfl, ht2, hv2⟩ := hw2
      refine ⟨t2, _, rfl, SqT.of ht2, rfl, _, _, rfl, _, _, rfl, rfl, ?_⟩
      refine ⟨.int s, rfl, .int s2', rfl, s, s2', rfl, rfl, .ref p, rfl, .int s, rfl, .int s2', rfl, s, s2', rfl, rfl, v, rfl, v2, rfl, .int s, rfl, ⟨v2, ts2, s, rfl, hv2.is, by omega, fun r6 H9 s9 hr6 => ?_⟩⟩
      obtain ⟨a, zs, rfl, ha, hz⟩ := (hv.ex (g10.1.trans (Ex.of s9)))
      obtain ⟨b, ys, rfl, hb, hy⟩ := hr6.nw
      have la := all_len hz
      have lb := all_len hy
      rw [mov_len] at lb
      refine ⟨a, b, zs, ys, rfl, rfl, ha, hb, Nat.le_trans (by omega : zs.length + ys.length ≤ 200) (by decide : 200 ≤ sizeLine), fun e he => ?_⟩
      have gb : Go p c _ H (upd H9 e (.lst (zs ++ ys))) := go_same ga (s9.trans (same_new he))
      have hok : TiesOk 9 (s + s2') (ts ++ movT ts2 s) := hts.beside (hts2.mono (by decide) (Int.le_refl _)) (by omega) (by omega)
      refine ⟨p, c, _, s + s2', 9, .ref e, ts ++ movT ts2 s, rfl, gb.2 n hp, by omega, by omega, by omega, .lst (SqL.of upd_same) (all_app (DpAll.ex (Ex.new he) hz) (DpAll.ex (Ex.new he) hy)), hok, by rw [List.length_append, mov_len]; omega, fun r7 Ha ts' gc hr7 hren => ?_⟩
      refine ⟨by show 2 ≤ sizeLine; decide, fun e2 he2 => ?_⟩
      exact q _ _ (s + s2') ts' ((go_same (gb.trans gc) (same_new he2)).mono (by omega)) ⟨e2, r7, rfl, upd_same, hr7.ex (Ex.new he2)⟩ (by omega) (by omega) (hren.ok hok) (by rw [hren.len, List.length_append, mov_len]; omega)
    exact ⟨.ref p, rfl, .int most, rfl, big 1 (by omega) _ (s14.trans s5)⟩
/-! ### numbers and standings -/
def spNum (K : PySem.W.Frag) : Sp := fun vs H Q _ => ∃ (p c : Addr) (n far : Nat), vs = [.ref p, .int (far : Int)] ∧ Pen H p c n ∧ n + 110 ≤ 2 ^ 60 ∧ 2 ≤ far ∧ far ≤ 60 ∧
  ∀ (r : Int) (H' : Hp), Go p c 110 H H' → -(10 ^ far) < r → r < 10 ^ far → Q (.int r) H'
theorem sc__law_number : FnScope ["pen", "far", "found"] ["pen", "far"] (defScope s__law_number) := ⟨rfl, rfl, rfl, by decide +kernel, rfl, by decide +kernel, by decide +kernel⟩
theorem ok__law_number (D : Dn K mg "_law_number" s__law_number ["pen", "far"]) (B : Bt mg) (c__law_draw : Cl P w K mg base 1 "_law_draw" spDraw) (c__law_pick : Cl P w K mg base 2 "_law_pick" (spPick K)) (c__law_great : Cl P w K mg base 2 "_law_great" spGreat) : Cl P w K mg base 3 "_law_number" (spNum K) := by
  refine cl_of D sc__law_number (fun vs H Q E h => ?_) (fun cdv f A outer s H vs Q E hr h => ?_)
  · obtain ⟨p, c, n, far, rfl, _⟩ := h
    rfl
  · obtain ⟨p, c, n, far, rfl, hp, hn, hf0, hf1, q⟩ := h
    have nd := sc__law_number.nd
    refine ⟨_, (pss_cons (ps_set (i := 2) nd rfl (.inl rfl) (pe_c c__law_great hr (by decide) (by rfl) (pa_cons (pv 0) (pa_cons (pe_ix ix_listK (pe_lst (pa_cons pe_int (pa_cons pe_int (pa_cons pe_int (pa_cons pe_int (pa_cons (pv 1) pa_nil)))))) (pe_c c__law_draw hr (by decide) (by rfl) (pa_cons (pv 0) (pa_cons pe_int pa_nil))) (fun _ _ => rfl)) pa_nil))))
    (pss_one (ps_ret (pe_op op_mul (pv 2) (pe_c c__law_pick hr (by decide) (by rfl) (pa_cons (pv 0) (pa_cons (pe_lst (pa_cons pe_int (pa_cons (pe_un un_neg pe_int) (pa_cons pe_int (pa_cons pe_int pa_nil))))) pa_nil))))))), ?_⟩
    refine ⟨.ref p, rfl, .int (far : Int), rfl, by show 5 ≤ sizeLine; decide, fun l hl => ?_⟩
    have k1 : (upd H l (.lst [.int 1, .int 1, .int 1, .int 2, .int (far : Int)])) l = some (.lst [.int 1, .int 1, .int 1, .int 2, .int (far : Int)]) := upd_same
    have s1 : Same H (upd H l (.lst [.int 1, .int 1, .int 1, .int 2, .int (far : Int)])) := same_new hl
    generalize upd H l (.lst [.int 1, .int 1, .int 1, .int 2, .int (far : Int)]) = H1 at k1 s1 ⊢
    have g1 : Go p c 0 H H1 := Go.of s1
    refine ⟨.ref p, rfl, ⟨p, c, n, 5, rfl, g1.2 n hp, by omega, by decide, by decide, fun d H2 d0 d1 g2 => ?_⟩⟩
    have g3 := g1.trans g2
    obtain ⟨k, hk1, hk2⟩ : ∃ k : Nat, atI ([.int 1, .int 1, .int 1, .int 2, .int (far : Int)] : List V) d = some (.int (k : Int)) ∧ k ≤ far := by
      have h : d = 0 ∨ d = 1 ∨ d = 2 ∨ d = 3 ∨ d = 4 := by omega
      rcases h with rfl | rfl | rfl | rfl | rfl
      · exact ⟨1, rfl, by omega⟩
      · exact ⟨1, rfl, by omega⟩
      · exact ⟨1, rfl, by omega⟩
      · exact ⟨2, rfl, hf0⟩
      · exact ⟨far, rfl, Nat.le_refl _⟩
    refine ⟨l, _, d, .int (k : Int), rfl, rfl, SqL.of (g2.1 _ _ k1 trivial), hk1, ?_⟩
    refine ⟨p, c, _, k, rfl, g3.2 n hp, by omega, by omega, fun r H3 hr g4 => ?_⟩
    have g5 := g3.trans g4
    refine ⟨.int (r : Int), rfl, .ref p, rfl, ⟨1, rfl, by show 4 ≤ sizeLine; decide, fun l2 hl2 => ?_⟩⟩
    have k4 : (upd H3 l2 (.lst [.int 1, .int (-1), .int 1, .int 0])) l2 = some (.lst [.int 1, .int (-1), .int 1, .int 0]) := upd_same
    have s4 : Same H3 (upd H3 l2 (.lst [.int 1, .int (-1), .int 1, .int 0])) := same_new hl2
    generalize upd H3 l2 (.lst [.int 1, .int (-1), .int 1, .int 0]) = H4 at k4 s4 ⊢
    have g6 := go_same g5 s4
    refine ⟨p, c, l2, _, _, rfl, g6.2 n hp, by omega, SqL.of k4, (by show 0 < 4; decide), (by show 4 < 1000; decide), fun i v H5 hv g7 => ?_⟩
    obtain ⟨z, rfl, hz⟩ := int4 hv (R := fun z => z = 1 ∨ z = -1 ∨ z = 0) (.inl rfl) (.inr (.inl rfl)) (.inl rfl) (.inr (.inr rfl))
    have hpow : (10 : Nat) ^ k ≤ 10 ^ far := Nat.pow_le_pow_right (by decide) hk2
    have hrf : (r : Int) < 10 ^ far := by
      have e : ((10 ^ far : Nat) : Int) = (10 : Int) ^ far := by
        rw [Int.natCast_pow]
        rfl
      omega
    refine ⟨(r : Int), z, rfl, rfl, .inr ⟨by omega, by omega⟩, q _ H5 ((g6.trans g7).mono (by omega)) ?_ ?_⟩
    · rcases hz with rfl | rfl | rfl <;> omega
    · rcases hz with rfl | rfl | rfl <;> omega
end
end Gb
set_option maxRecDepth 100000
set_option maxHeartbeats 4000000
namespace Gb
open PySem PySem.Spec PyProof.Rows L2
open PySem.W (Datum Tup T4)
/-- a row of numbers at an address, a standing -/
def rowH (ns : List Int) : HO := .tup (ns.map V.int)
structure StAt (H : Hp) (v : V) (o n : List Int) : Prop where
  ex : ∃ t a b, v = .ref t ∧ H t = some (.tup [.ref a, .ref b]) ∧ H a = some (rowH o) ∧ H b = some (rowH n)
theorem StAt.same {H H' : Hp} {v : V} {o n : List Int} (e : Ex H H') (h : StAt H v o n) : StAt H' v o n := by
  obtain ⟨t, a, b, rfl, h1, h2, h3⟩ := h.ex
  exact ⟨t, a, b, rfl, e _ _ h1 trivial, e _ _ h2 trivial, e _ _ h3 trivial⟩
section
variable {P : Program} {w : World} {K : PySem.W.Frag} {mg : Str → Option Value} {base : Heap}
def spStand (K : PySem.W.Frag) : Sp := fun vs H Q _ => ∃ (p c : Addr) (m far : Nat) (s : Int), vs = [.ref p, .int s, .int (far : Int)] ∧ Pen H p c m ∧ m + 3000 ≤ 2 ^ 60 ∧ 1 ≤ s ∧ s ≤ 12 ∧ 2 ≤ far ∧ far ≤ 60 ∧
  ∀ (r : V) (H' : Hp) (o n : List Int), Go p c 3000 H H' → StAt H' r o n → (o.length : Int) = s → (n.length : Int) = s → (∀ k ∈ o ++ n, -(10 ^ far) < k ∧ k < 10 ^ far) → Q r H'
theorem sc__law_standing : FnScope ["pen", "size", "far", "k", "post"] ["pen", "size", "far"] (defScope s__law_standing) := ⟨rfl, rfl, rfl, by decide +kernel, rfl, by decide +kernel, by decide +kernel⟩
theorem ok__law_standing (D : Dn K mg "_law_standing" s__law_standing ["pen", "size", "far"]) (B : Bt mg) (c__law_number : Cl P w K mg base 3 "_law_number" (spNum K)) : Cl P w K mg base 4 "_law_standing" (spStand K) := by
  refine cl_of D sc__law_standing (fun vs H Q E h => ?_) (fun cdv f A outer s H vs Q E hr h => ?_)
  · obtain ⟨p, c, m, far, s, rfl, _⟩ := h
    rfl
  · obtain ⟨p, c, m, far, s, rfl, hp, hn, hs0, hs1, hf0, hf1, q⟩ := h
    have nd := sc__law_standing.nd
    refine ⟨_, (pss_one (ps_ret (pe_callTy call_tupK (by rfl) B.tuple (by decide +kernel) (pa_cons (pe_lc (own := [("k", 3)]) rfl nd (pi_range1 (by rfl) B.range (pa_cons pe_int pa_nil)) (blkOk_by (N := ["pen", "size", "far", "k", "post"]) (sc := defScope s__law_standing) (by decide +kernel)) (fun _ _ _ _ _ => (pg_name (i := 3) nd rfl (.inl rfl))) (fun _ _ _ _ _ => pts_nil) (fun _ _ _ _ _ => (pe_callTy call_tupK (by rfl) B.tuple (by decide +kernel) (pa_cons (pe_lc (own := [("post", 4)]) rfl nd (pi_range1 (by rfl) B.range (pa_cons (pv 1) pa_nil)) (blkOk_by (N := ["pen", "size", "far", "k", "post"]) (sc := (relS _ (defScope s__law_standing))) (by decide +kernel)) (fun _ _ _ _ _ => (pg_name (i := 4) nd rfl (.inl rfl))) (fun _ _ _ _ _ => pts_nil) (fun _ _ _ _ _ => (pe_c c__law_number hr (by decide) (by rfl) (pa_cons (pv 0) (pa_cons (pv 2) pa_nil))))) pa_nil)))) pa_nil)))), ?_⟩
    refine ⟨2, rfl, by decide, by decide, fun D hD => ?_⟩
    have nD := hp.ne hD
    refine lc_rangeG (lo := 0) (n := 2) (k := 1400) (fun _ y Hx => ∃ (a : Addr) (ns : List Int), y = .ref a ∧ Hx a = some (rowH ns) ∧ (ns.length : Int) = s ∧ ∀ k ∈ ns, -(10 ^ far) < k ∧ k < 10 ^ far) ?_ rel_go hD (fun e => e.elim nD.1 nD.2) (by decide) (fun _ => rfl) ?_ ?_
    · rintro i y H1 H2 e ⟨a, ns, rfl, h1, h2, h3⟩
      exact ⟨a, ns, rfl, e _ _ h1 trivial, h2, h3⟩
    · intro i H1 hi g1 hDs Q' q'
      have hp1 := g1.2 _ hp
      refine ⟨.int s, rfl, s, rfl, by omega, by omega, fun D2 hD2 => ?_⟩
      have nD2 := hp1.ne hD2
      refine lc_rangeG (lo := 0) (n := s.toNat) (k := 110) (fun _ y _ => ∃ z : Int, y = .int z ∧ -(10 ^ far) < z ∧ z < 10 ^ far) (fun _ _ _ _ _ h => h) rel_go hD2 (fun e => e.elim nD2.1 nD2.2) (by omega) (fun _ => rfl) ?_ ?_
      · intro j H2 hj g2 _ Q2 q2
        exact ⟨.ref p, rfl, .int (far : Int), rfl, ⟨p, c, _, far, rfl, g2.2 _ hp1, by omega, hf0, hf1, fun z H3 g3 h1 h2 => q2 _ H3 g3 ⟨z, rfl, h1, h2⟩⟩⟩
      · intro ys H2 hy hyl hz g2 _
        obtain ⟨ns, rfl, hns⟩ : ∃ ns : List Int, ys = ns.map V.int ∧ ∀ k ∈ ns, -(10 ^ far) < k ∧ k < 10 ^ far := by
          have : ∀ ys : List V, (∀ (i : Nat) (y : V), ys[i]? = some y → ∃ z : Int, y = .int z ∧ -(10 ^ far) < z ∧ z < 10 ^ far) → ∃ ns : List Int, ys = ns.map V.int ∧ ∀ k ∈ ns, -(10 ^ far) < k ∧ k < 10 ^ far := by
            intro ys
            induction ys with
            | nil => exact fun _ => ⟨[], rfl, fun k hk => by cases hk⟩
            | cons y r ih =>
              intro h
              obtain ⟨z, rfl, h1, h2⟩ := h 0 y rfl
              obtain ⟨ns, rfl, h3⟩ := ih fun i y e => h (i + 1) y e
              refine ⟨z :: ns, rfl, fun k hk => ?_⟩
              rcases List.mem_cons.mp hk with rfl | hk
              · exact ⟨h1, h2⟩
              · exact h3 k hk
          exact this ys hz
        rw [List.length_map] at hyl
        refine ⟨D2, _, rfl, .inl ⟨SqL.of hy, fun t ht => ?_⟩⟩
        obtain ⟨u, hu⟩ := hDs
        have ntD : t ≠ D := fun e => by
          rw [e, g2.1 _ _ hu trivial] at ht
          cases ht
        refine q' _ _ ((g2.trans (k := 0) (Go.new ht)).mono (by omega)) ⟨t, ns, rfl, ?_, by omega, hns⟩
        rw [del_ne ntD]
        exact upd_same
    · intro ys H1 hy hyl hz g1 _
      match ys, hyl with
      | [y0, y1], _ =>
        obtain ⟨a, o, rfl, ha, hol, ho⟩ := hz 0 y0 rfl
        obtain ⟨b, nn, rfl, hb, hnl, hnn⟩ := hz 1 y1 rfl
        refine ⟨D, _, rfl, .inl ⟨SqL.of hy, fun t ht => ?_⟩⟩
        have k2 : (upd H1 t (.tup [.ref a, .ref b])) t = some (.tup [.ref a, .ref b]) := upd_same
        have s2 : Same H1 (upd H1 t (.tup [.ref a, .ref b])) := same_new ht
        generalize upd H1 t (.tup [.ref a, .ref b]) = H2 at k2 s2 ⊢
        refine q _ H2 o nn ((go_same g1 s2).mono (by decide)) ⟨t, a, b, rfl, k2, s2 _ _ ha, s2 _ _ hb⟩ hol hnl fun k hk => ?_
        rcases List.mem_append.mp hk with h | h
        · exact ho k h
        · exact hnn k h
end
end Gb
set_option maxRecDepth 100000
set_option maxHeartbeats 4000000
/-! Rules that the layer has not. -/
namespace Gb
open PySem PySem.Spec PyProof.Rows L2
theorem nd_len {α : Type} [DecidableEq α] : ∀ {l m : List α}, l.Nodup → (∀ x ∈ l, x ∈ m) → l.length ≤ m.length
  | [], _, _, _ => Nat.zero_le _
  | a :: l, m, hn, hs => by
    obtain ⟨h1, h2⟩ := List.nodup_cons.mp hn
    have ha := hs a List.mem_cons_self
    have ih := nd_len (l := l) (m := m.erase a) h2 fun x hx => by
      have hne : x ≠ a := fun e => h1 (e ▸ hx)
      exact (List.mem_erase_of_ne hne).mpr (hs x (List.mem_cons_of_mem _ hx))
    have := List.length_erase_of_mem ha
    have hpos := List.length_pos_of_mem ha
    rw [List.length_cons]
    omega
section
variable {X : Cx} {Kx : PySem.W.Frag} {a b c d e : Expr} {ta tb tc td te : TE} {p p2 q pos : Pos}
/-- len(set(xs)), xs a list of unlike tuples of ints, fewer than 64 -/
def tLenSetT (K : PySem.W.Frag) (ta : TE) : TE := fun σ H Q => ta σ H fun x H1 => ∃ (l : Addr) (ks : List (Addr × List Int)), x = .ref l ∧ SqL K H1 l (ks.map fun z => V.ref z.1) ∧ (∀ z ∈ ks, SqT K H1 z.1 (z.2.map V.int)) ∧ ks.length < 64 ∧ (ks.map (·.2)).Nodup ∧ Q (.int ks.length) H1
theorem pe_lenSetT (hc : X.calm = true) (hu : X.A.units + 64 < cLine) (hg : Gl X "len") (hm : X.mg "len" = none) (hg2 : Gl X "set") (hm2 : X.mg "set" = none) (ha : PE X a ta) (hK : X.K = Kx := by rfl)
    (na : starEach [a] X.env = (false, eval a X.env) :: starEach [] X.env := by rfl) : PE X (.Call (.Name "len" p) [.Call (.Name "set" p2) [a] [] q] [] pos) (tLenSetT Kx ta) := by
  subst hK
  refine ⟨fun pins s σ H Q I h => ?_⟩
  refine Call_ (ld_blt I hg hm boot_len ?_)
  refine PyProof.Rows.callWith_builtin1 (PyProof.Rows.args_cons ?_ rfl) rfl rfl
  refine Call_ (ld_blt I hg2 hm2 boot_set ?_)
  refine PyProof.Rows.callWith_type1 (PyProof.Rows.args_cons (thn (ha.run pins s σ H _ I h) fun v s1 ⟨x, H1, I1, r1, q1⟩ => PyProof.Rows.args_nil ?_) na) na rfl
  obtain ⟨l, ks, rfl, hl, hk, hf, hnd, q1⟩ := q1
  cases r1
  obtain ⟨its, rv, pl, hz⟩ := I1.list hl
  refine call_set_tups (P := X.prog) (w := X.w) ks (I1.ok.hd hc) pl.isList (by simpa using refs_of_vals rv) (fun z hz => I1.isT (hk z hz)) hf (by omega) fun h' tk L es ep t R g k => ?_
  refine PyProof.Rows.args_nil ?_
  have hL : L.length = ks.length := by
    have e1 : (L.map (·.2)).length ≤ (ks.map (·.2)).length := nd_len R.nd fun x hx => by
      obtain ⟨z, hz, rfl⟩ := List.mem_map.mp hx
      have q0 := g.sub z hz
      rw [List.take_length] at q0
      exact List.mem_map.mpr ⟨z, q0, rfl⟩
    have e2 : (ks.map (·.2)).length ≤ (L.map (·.2)).length := nd_len hnd fun x hx => by
      obtain ⟨z, hz, rfl⟩ := List.mem_map.mp hx
      exact g.all z (by rw [List.take_length]; exact hz)
    rw [List.length_map, List.length_map] at e1 e2
    omega
  obtain ⟨o, ho, hex, hd⟩ := R.ob
  have hsz : es.size = ks.length := (SetTR.size (s := { s1 with heap := h', toks := tk }) R).trans hL
  have I2 : Inv X pins σ H1 { s1 with heap := h', toks := tk } := I1.kept k
  exact call_len_set ho hex hd (SetTR.fits (s := { s1 with heap := h', toks := tk }) R) (by rw [hsz]; omega) ⟨.int ks.length, H1, I2.tok _, ⟨_, by rw [hsz]⟩, q1⟩
/-- a < b < c < d -/
def tChain3 (r1 r2 r3 : R2) (ta tb tc td : TE) : TE := fun σ H Q => ta σ H fun x H1 => tb σ H1 fun y H2 => r1 x y H2 fun z H3 => ∃ k, z = .bl k ∧
  (if k = true then tc σ H3 fun u H4 => r2 y u H4 fun z2 H5 => ∃ k2, z2 = .bl k2 ∧ (if k2 = true then td σ H5 fun v H6 => r3 u v H6 Q else Q (.bl false) H5) else Q (.bl false) H3)
theorem pe_chain3 {o1 o2 o3 : CmpOp} {r1 r2 r3 : R2} (h1 : OpR X (compareOp o1) r1) (h2 : OpR X (compareOp o2) r2) (h3 : OpR X (compareOp o3) r3) (ha : PE X a ta) (hb : PE X b tb) (hc : PE X c tc) (hd : PE X d td)
    (hm : lastMarks [o1, o2, o3] [b, c, d] = false := by with_unfolding_all rfl) : PE X (.Compare a [o1, o2, o3] [b, c, d] pos) (tChain3 r1 r2 r3 ta tb tc td) := by
  refine ⟨fun pins s σ H Q I h => ?_⟩
  refine Compare_chain (thn (ha.run pins s σ H _ I h) fun v s1 ⟨x, H1, I1, rx, q1⟩ => chain_link (thn (hb.run pins s1 σ H1 _ I1 q1) fun u s2 ⟨y, H2, I2, ry, q2⟩ =>
    thn (h1 pins s2 σ H2 x y v u _ I2 rx ry q2) fun d1 s3 ⟨z, H3, I3, r3', k, ez, q3⟩ => ?_)) hm
  subst ez
  cases r3'
  refine wpAny_truthy_bool ?_
  cases k with
  | false => exact ite_ff ⟨.bl false, H3, I3, rfl, q3⟩
  | true =>
    refine ite_tt (chain_link (thn (hc.run pins s3 σ H3 _ I3 q3) fun w' s4 ⟨z', H4, I4, r4, q4⟩ => thn (h2 pins s4 σ H4 y z' u w' _ I4 ry r4 q4) fun d2 s5 ⟨z2, H5, I5, r5, k2, e2, q5⟩ => ?_))
    subst e2
    cases r5
    refine wpAny_truthy_bool ?_
    cases k2 with
    | false => exact ite_ff ⟨.bl false, H5, I5, rfl, q5⟩
    | true => exact ite_tt (chain_last (thn (hd.run pins s5 σ H5 _ I5 q5) fun w2 s6 ⟨z3, H6, I6, r6, q6⟩ => h3 pins s6 σ H6 z' z3 w' w2 Q I6 r4 r6 q6))
/-- the callee runs, one builtin deeper -/
theorem run_fn1 {k : Nat} {f : Addr} {fd : FuncData} {ps : List Str} {sp : Sp} {pins : List (Addr × Obj)} {σ : L2.St} {H : Hp} {s : Shared} {Q : VK} {us : List Value} {vs : List V} (F : FnOk X.prog X.w X.K X.mg X.base CX0 k f fd ps sp) (hr : Room (k + 1) X.A) (hb : Binds X.K fd ps [])
    (I : Inv X pins σ H s) (r : Vals vs us) (h : sp vs H Q E0) : wpAny (model X.prog X.w) X.A.in1 (call (.ref f) us) (EP X pins σ Q) X.xe s := by
  have hl : (us ++ []).length = ps.length := by
    rw [List.append_nil, ← r.length]
    exact F.len _ _ _ _ h
  have hB := hb s us I.kIn hl
  rw [List.append_nil] at hB
  refine wpAny_call (codeAny_mono (F.run X.A.in1 X.stack s H ⟨us, []⟩ us vs Q E0 hr.in1 I.env0.in1 hB r h) fun r s' hq => ?_)
  cases r with
  | error e => exact (show False from hq).elim
  | ok fl =>
    cases fl with
    | ret u => exact I.after hq
    | next => exact False.elim hq
    | brk => exact False.elim hq
    | cont => exact False.elim hq
/-- len(o), o of a class with its own __len__ -/
def rLenO (C : Addr) (sp : Sp) : List V → Hp → VK → Prop := fun xs H Q => ∃ x dx fs, xs = [V.ref x] ∧ H x = some (.ins C dx fs) ∧ sp [V.ref x] H (fun v H' => ∃ n : Nat, v = .int n ∧ n < 2 ^ 60 ∧ Q (.int n) H') E0
theorem call_lenO {C f : Addr} {k : Nat} {fd : FuncData} {ps : List Str} {sp : Sp} (hM : Meth X.K C "__len__" f) (F : FnOk X.prog X.w X.K X.mg X.base CX0 k f fd ps sp) (hr : Room (k + 1) X.A) (hb : Binds X.K fd ps []) : CallR X (.builtin "len") (rLenO C sp) := by
  intro pins s σ H xs us Q I r h
  obtain ⟨x, dx, fs, rfl, hx, h⟩ := h
  rw [Vals.ref1 r]
  obtain ⟨mA, O, _⟩ := ins_get I.hok hx
  obtain ⟨od, J, _⟩ := O.look
  obtain ⟨m, hF⟩ := I.fr
  refine PySem.W.len_K hF I.ok.mod.kin J hM.at_ hM.fn ?_
  refine wpAny_mono (run_fn1 (us := [.ref x]) (vs := [.ref x]) F hr hb I (.cons rfl .nil) h) (fun w s' z => ?_) fun _ _ y => y
  obtain ⟨v, H', I', rv, n, rfl, hn, q⟩ := z
  obtain ⟨t, rfl⟩ := rv
  exact ⟨⟨by omega, by omega⟩, ⟨.int n, H', I'.tok _, ⟨_, rfl⟩, q⟩⟩
/-- xs[i] += v -/
def rGetN (K : PySem.W.Frag) : V → V → Hp → VK → Prop := fun x y H Q => ∃ (l : Addr) (xs : List V) (j : Nat) (z : V), x = .ref l ∧ y = .int (j : Int) ∧ SqL K H l xs ∧ xs[j]? = some z ∧ Q z H
theorem pget_list (hK : X.K = Kx := by rfl) : PGet X (rGetN Kx) := by
  subst hK
  intro pins s σ H x y v u Q I rx ry h
  obtain ⟨l, xs, j, z, rfl, rfl, hq, he, q⟩ := h
  cases rx
  obtain ⟨t, rfl⟩ := ry
  obtain ⟨its, r, pl, hz⟩ := I.list hq
  obtain ⟨w, ew, rw'⟩ := r.get he
  have hj := (List.getElem?_eq_some_iff.mp he).1
  have hn := line63
  have fin : EP X pins σ Q w s := ⟨z, H, I, rw', q⟩
  exact wpAny_getItem_list pl.isList (by omega) (by omega) (by simpa using ew) fin
theorem ps_augIx {o i e : Expr} {to ti te : TE} {tpos ppos : Pos} (ho : PE X o to) (hi : PE X i ti) (he : PE X e te) (hK : X.K = Kx := by rfl)
    (h1 : ∀ ov iv new, augStore i ov iv new = (do holding [new, ov, iv] (setItem ov iv new); release [new, ov, iv] []; pure .next) := by intros; rfl) :
    PS X (.AugAssign (.Subscript o i tpos) .Add e ppos) (tAugS to ti te (rGetN Kx) (ipI fun i j => i + j) rSetL) := by
  subst hK
  exact ps_augS ho hi pget_list he ip_add set_list h1
end
end Gb
set_option maxRecDepth 100000
set_option maxHeartbeats 4000000
/-! zip of a list and a tuple; a tuple backwards; the greatest and the least of a tuple. -/
namespace Gb
open PySem PySem.Spec PyProof.Rows L2
/-- the list at a and the tuple at b as they stand at each turn, the items in new pairs -/
def ItLT (K : PySem.W.Frag) (a b : Addr) : It :=
  ⟨fun i H => ∃ (xs ys : List V) (x y : V), SqL K H a xs ∧ SqT K H b ys ∧ xs[i]? = some x ∧ ys[i]? = some y,
    fun i H v H' => ∃ T x y, v = .ref T ∧ H T = none ∧ H' = upd H T (.tup [x, y]) ∧ (∀ xs, SqL K H a xs → xs[i]? = some x) ∧ ∀ ys, SqT K H b ys → ys[i]? = some y,
    fun i H => ∃ xs ys : List V, SqL K H a xs ∧ SqT K H b ys ∧ i ≤ xs.length ∧ i ≤ ys.length ∧ (i = xs.length ∨ i = ys.length)⟩
theorem turn_zipLT {P : Program} {w : World} {K : PySem.W.Frag} {elts : List Expr} {kk : Nat} {tpos : Pos} {a b z TI TO i1 i2 : Addr} (S : ZipSep2 z TI TO i1 i2 [i1, a] [i2, b]) (na : a ≠ i1) (nb : b ≠ i2) :
    Turn P w K (.Tuple elts kk tpos) (ItLT K a b) [z, TI, TO, i1, i2] z (fun i h => IsZip h z TI TO .none ∧ IsTupOf2 h TI (.ref i1) (.ref i2) ∧ (∃ x y, IsTupOf2 h TO x y) ∧ h.IsListIter i1 a i ∧ h.IsTupleIter i2 b i) where
  mem := List.mem_cons_self
  obj := by
    rintro i h ⟨hz, hTI, ⟨x, y, hTO⟩, ⟨o1, e1, c1, d1⟩, ⟨o2, e2, c2, d2⟩⟩ c hc
    simp only [List.mem_cons, List.not_mem_nil, or_false] at hc
    rcases hc with rfl | rfl | rfl | rfl | rfl
    · exact ⟨_, hz, fun v q => nomatch q⟩
    · exact ⟨_, hTI, fun v q => nomatch q⟩
    · exact ⟨_, hTO, fun v q => nomatch q⟩
    · exact ⟨o1, e1, fun v q => by rw [d1] at q; cases q⟩
    · exact ⟨o2, e2, fun v q => by rw [d2] at q; cases q⟩
  keep := by
    rintro i h h' ⟨hz, hTI, ⟨x, y, hTO⟩, h1, h2⟩ k
    exact ⟨k z (by simp) _ hz, k TI (by simp) _ hTI, ⟨x, y, k TO (by simp) _ hTO⟩, h1.at fun o q => k i1 (by simp) o q, h2.at fun o q => k i2 (by simp) o q⟩
  item := by
    rintro X rfl rfl rfl hc i pins s σ H E I hf ⟨hz, hTI, ⟨x0, y0, hTO⟩, h1, h2⟩ ⟨xs, ys, x, y, hqx, hqy, hx, hy⟩
    obtain ⟨its, rv, p, _⟩ := I.list hqx
    obtain ⟨its2, rv2, p2, _⟩ := I.tuple hqy
    obtain ⟨u, hu, ru⟩ := rv.get hx
    obtain ⟨u2, hu2, ru2⟩ := rv2.get hy
    have hzl : z < s.heap.objs.size := Heap.lt_size hz
    have hh : X.A.in1.handled = none := I.ok.hd hc
    have l1 : i < its.toArray.size := by
      have := (List.getElem?_eq_some_iff.mp hu).1
      rw [List.size_toArray]
      exact this
    have l2 : i < its2.toArray.size := by
      have := (List.getElem?_eq_some_iff.mp hu2).1
      rw [List.size_toArray]
      exact this
    refine wpAny_pyNext_zipD2_item S (Draws.list hh i1 a na its.toArray) (Draws.tuple hh i2 b nb its2.toArray) hz hTI hTO ⟨h1, p.isList⟩ ⟨h2, p2⟩ l1 l2 fun x1 x2 h' tk e1 e2 z' TO' st1 st2 hT hsz hk => ?_
    have ex1 : x1 = u := by
      have q : its[i]? = some x1 := by simpa using e1
      rw [hu] at q
      exact (Option.some.inj q).symm
    have ex2 : x2 = u2 := by
      have q : its2[i]? = some x2 := by simpa using e2
      rw [hu2] at q
      exact (Option.some.inj q).symm
    subst ex1 ex2
    refine ⟨_, rfl, wpAny_letOwnedTupleGo_zip (s := { s with heap := h', toks := tk }) z' fun h'' z'' sb => ?_⟩
    have hT2 : h''.get? s.heap.objs.size = some { cls := .type "tuple", data := .seq #[x1, x2] } := (sb.2 _ (Nat.ne_of_gt hzl)).trans hT
    have nt : ObjOk X.prog X.w (upd H s.heap.objs.size (.tup [x, y])) h'' s.heap.objs.size (.tup [x, y]) := ⟨by show 2 ≤ sizeLine; decide, [x1, x2], .cons ru (.cons ru2 .nil), ⟨_, hT2, rfl, _, rfl⟩⟩
    have J : Inv X pins σ (upd H s.heap.objs.size (.tup [x, y])) { s with heap := h'', toks := tk } :=
      I.turnedNew (t' := tk) (ch := [z, TI, TO, i1, i2]) (fun c o hb q => (sb.2 c fun q' => hb (by simp [q'])).trans (hk c o (fun q' => hb (by simp [q'])) (fun q' => hb (by simp [q'])) (fun q' => hb (by simp [q'])) (fun q' => hb (by simp [q'])) q)) hf (Nat.le_refl _) nt
    have hn : H s.heap.objs.size = none := I.hok.fresh (Nat.le_refl _)
    refine ⟨.ref s.heap.objs.size, _, J, rfl, ⟨_, x, y, rfl, hn, rfl, fun l hl => by rw [I.list_inj hl hqx]; exact hx, fun l hl => by rw [I.tuple_inj hl hqy]; exact hy⟩, ⟨z'', ?_, ⟨x1, x2, (sb.2 _ S.TOz).trans TO'⟩, ?_, ?_⟩, fun c hcm => ?_⟩
    · exact (sb.2 _ S.TIz).trans (hk _ _ S.TIz S.TITO S.TIi1 S.TIi2 hTI)
    · exact st1.1.at fun o q => (sb.2 _ S.zi1.symm).trans q
    · exact st2.1.at fun o q => (sb.2 _ S.zi2.symm).trans q
    · have hlt : c < s.heap.objs.size := by
        have q := (hf c hcm)
        obtain ⟨o1, e1', _⟩ := h1
        obtain ⟨o2, e2', _⟩ := h2
        simp only [List.mem_cons, List.not_mem_nil, or_false] at hcm
        rcases hcm with rfl | rfl | rfl | rfl | rfl
        · exact hzl
        · exact Heap.lt_size hTI
        · exact Heap.lt_size hTO
        · exact Heap.lt_size e1'
        · exact Heap.lt_size e2'
      rw [upd_ne (Nat.ne_of_lt hlt)]
      exact (hf c hcm).1
  done := by
    rintro X rfl rfl rfl hc i pins s σ H E I hf ⟨hz, hTI, ⟨x0, y0, hTO⟩, h1, h2⟩ ⟨xs, ys, hqx, hqy, le1, le2, hend⟩
    obtain ⟨its, rv, p, _⟩ := I.list hqx
    obtain ⟨its2, rv2, p2, _⟩ := I.tuple hqy
    have l1 : its.toArray.size = xs.length := by rw [List.size_toArray, rv.length]
    have l2 : its2.toArray.size = ys.length := by rw [List.size_toArray, rv2.length]
    have hh : X.A.in1.handled = none := I.ok.hd hc
    refine wpAny_pyNext_zipD2_end S (Draws.list hh i1 a na its.toArray) (Draws.tuple hh i2 b nb its2.toArray) hz hTI hTO ⟨h1, p.isList⟩ ⟨h2, p2⟩ (by omega) (by omega) (by omega) fun h' tk hk => ⟨rfl, ?_⟩
    exact I.turnedL (t' := tk) (ch := [z, TI, TO, i1, i2]) (fun c o hb q => hk c o (fun q' => hb (by simp [q'])) (fun q' => hb (by simp [q'])) (fun q' => hb (by simp [q'])) (fun q' => hb (by simp [q'])) q) hf
  self := fun A i s Q E st h => wpAny_pyIter_zip st.1 h
theorem zip_apart {n a b : Nat} (la : a < n) (lb : b < n) : ZipSep2 (n + 4) (n + 2) (n + 3) n (n + 1) [n, a] [n + 1, b] := by
  have nm : ∀ {x u v : Nat}, x ≠ u → x ≠ v → x ∉ [u, v] := fun h1 h2 h => by
    rcases List.mem_cons.mp h with e | h
    · exact h1 e
    · exact h2 (List.mem_singleton.mp h)
  have ne : ∀ {i j : Nat}, i ≠ j → n + i ≠ n + j := fun h e => h (Nat.add_left_cancel e)
  have n0 : ∀ {i : Nat}, i ≠ 0 → n + i ≠ n := fun h e => h (Nat.add_left_cancel (k := 0) (e.trans (Nat.add_zero n).symm))
  have ga : ∀ i, n + i ≠ a := fun i e => Nat.lt_irrefl a (Nat.lt_of_lt_of_le la (e ▸ Nat.le_add_right n i))
  have gb : ∀ i, n + i ≠ b := fun i e => Nat.lt_irrefl b (Nat.lt_of_lt_of_le lb (e ▸ Nat.le_add_right n i))
  have n0' : ∀ {i : Nat}, i ≠ 0 → n ≠ n + i := fun h => Ne.symm (n0 h)
  have ga0 : n ≠ a := ga 0
  have gb0 : n ≠ b := gb 0
  constructor <;> first | exact List.mem_cons_self | exact ne (by decide) | exact n0 (by decide) | exact n0' (by decide) | exact nm (n0 (by decide)) (ga _) | exact nm (ne (by decide)) (gb _) | exact nm (n0' (by decide)) gb0 | exact nm (n0 (by decide)) (ga 1)
def iZipLT (K : PySem.W.Frag) (ta : TA) : TI := fun σ H R => ta σ H fun vs H1 => ∃ a b xs ys, vs = [.ref a, .ref b] ∧ SqL K H1 a xs ∧ SqT K H1 b ys ∧ R (ItLT K a b) H1
theorem pi_zipLT {X : Cx} {Kx : PySem.W.Frag} {e e2 : Expr} {ta : TA} {p pos tpos : Pos} {elts : List Expr} {kk : Nat} (hg : Gl X "zip") (hm : X.mg "zip" = none) (ha : PA X [e, e2] ta) (hK : X.K = Kx := by rfl)
    (hs : starEach [e, e2] X.env = (false, eval e X.env) :: starEach [e2] X.env := by rfl) (hpl : (backTo pos (starEach [e2] X.env)).any (·.1) = false := by rfl) :
    PI X (.Tuple elts kk tpos) (.Call (.Name "zip" p) [e, e2] [] pos) (iZipLT Kx ta) := by
  subst hK
  refine ⟨fun pins s σ H R I h => ?_⟩
  refine Call_ (ld_blt I hg hm PyProof.Rows.boot_zip (PyProof.Rows.callWith_type1 (thn (ha.run pos pins s σ H _ I h) fun us s1 ⟨vs, H1, I1, r1, q1⟩ => ?_) hs hpl))
  obtain ⟨a, b, xs, ys, ex, hqx, hqy, q⟩ := q1
  subst ex
  obtain ⟨u1, u2, rfl, r, r'⟩ := Vals.two r1
  obtain rfl : u1 = Value.ref a := r
  obtain rfl : u2 = Value.ref b := r'
  · skip
    obtain ⟨its, rv, p1, _⟩ := I1.list hqx
    obtain ⟨its2, rv2, p2, _⟩ := I1.tuple hqy
    obtain ⟨o2, ho2, _⟩ := id p2
    have la : a < s1.heap.objs.size := p1.lt
    have lb : b < s1.heap.objs.size := Heap.lt_size ho2
    refine zip_begins2 (begins_list a its.toArray) (begins_tuple b its2.toArray) p1.isList p2 fun h' hz hTI hTO h1 h2 hsz hk => wpAny_pyIter_zip hz ?_
    have I2 : Inv X pins σ H1 { s1 with heap := h' } := I1.kept (t' := s1.toks) hk
    have S : ZipSep2 (s1.heap.objs.size + 4) (s1.heap.objs.size + 2) (s1.heap.objs.size + 3) s1.heap.objs.size (s1.heap.objs.size + 1) [s1.heap.objs.size, a] [s1.heap.objs.size + 1, b] := zip_apart la lb
    refine ⟨s1.heap.objs.size + 4, [s1.heap.objs.size + 4, s1.heap.objs.size + 2, s1.heap.objs.size + 3, s1.heap.objs.size, s1.heap.objs.size + 1], _, _, H1, rfl, I2, turn_zipLT S (Nat.ne_of_lt la) (Nat.ne_of_lt (Nat.lt_succ_of_lt lb)), ⟨hz, hTI, ⟨_, _, hTO⟩, ⟨_, h1, rfl, rfl⟩, ⟨_, h2, rfl, rfl⟩⟩, fun c hcm => ?_, q⟩
    have hle : s1.heap.objs.size ≤ c := by
      simp only [List.mem_cons, List.not_mem_nil, or_false] at hcm
      rcases hcm with e | e | e | e | e <;> rw [e]
      · exact Nat.le_add_right _ _
      · exact Nat.le_add_right _ _
      · exact Nat.le_add_right _ _
      · exact Nat.le_refl _
      · exact Nat.le_add_right _ _
    exact I1.fpOk hle (I1.hok.fresh hle)
/-- over a list and a tuple of one length that stand still -/
theorem lc_zipLT {K : PySem.W.Frag} {a b : Addr} {xs ys : List V} {g : TG} {te : TE} {vs : List Nat} {σ : L2.St} {H1 : Hp} {D : Addr} {Qd : Hp → Prop} (hl : xs.length = ys.length) (Pv : Nat → Hp → Prop) (h0 : Pv 0 (upd H1 D (.lst [])))
    (hq : ∀ i H, Pv i H → SqL K H a xs ∧ SqT K H b ys)
    (hs : ∀ (i : Nat) (x y : V) (T : Addr) (H : Hp), xs[i]? = some x → ys[i]? = some y → Pv i H → H T = none → g (.ref T) (wipe σ vs) (upd H T (.tup [x, y])) fun σ2 H2 => wipe σ2 vs = wipe σ vs ∧ tYes σ2 H2 fun b H3 =>
      if b = true then te σ2 H3 fun y H4 => ∃ acc, H4 D = some (.lst acc) ∧ acc.length < sizeLine ∧ Pv (i + 1) (upd H4 D (.lst (acc ++ [y]))) else Pv (i + 1) H3) (hd : ∀ H, Pv xs.length H → Qd H) :
    ∃ W : Nat → Nat → Hp → Prop, (∃ m, W 0 m (upd H1 D (.lst []))) ∧ ∀ i m H, W i m H →
      ((ItLT K a b).stop i H ∧ Qd H) ∨ ((ItLT K a b).go i H ∧ ∃ Nx : Hp → Prop, (∀ H', Nx H' → ∃ m', m' < m ∧ W (i + 1) m' H') ∧ ∀ x H', (ItLT K a b).yld i H x H' → g x (wipe σ vs) H' fun σ2 H2 => wipe σ2 vs = wipe σ vs ∧ tYes σ2 H2 fun b H3 =>
        if b = true then te σ2 H3 fun y H4 => ∃ acc, H4 D = some (.lst acc) ∧ acc.length < sizeLine ∧ Nx (upd H4 D (.lst (acc ++ [y]))) else Nx H3) := by
  refine ⟨fun i m H => m = xs.length - i ∧ i ≤ xs.length ∧ Pv i H, ⟨xs.length, by simp, Nat.zero_le _, h0⟩, ?_⟩
  rintro i m H ⟨rfl, hi, pv⟩
  obtain ⟨qa, qb⟩ := hq i H pv
  by_cases hlt : i < xs.length
  · have hlt2 : i < ys.length := by omega
    refine .inr ⟨⟨xs, ys, xs[i], ys[i], qa, qb, List.getElem?_eq_getElem hlt, List.getElem?_eq_getElem hlt2⟩, Pv (i + 1), fun H' p' => ⟨xs.length - (i + 1), by omega, rfl, hlt, p'⟩, fun v H' hy => ?_⟩
    obtain ⟨T, x, y, rfl, hT, rfl, e1, e2⟩ := hy
    exact hs i x y T H (e1 xs qa) (e2 ys qb) pv hT
  · have e : i = xs.length := by omega
    subst e
    exact .inl ⟨⟨xs, ys, qa, qb, Nat.le_refl _, by omega, .inl rfl⟩, hd H pv⟩
end Gb
set_option maxRecDepth 100000
set_option maxHeartbeats 4000000
namespace Gb
open PySem PySem.Spec PyProof.Rows L2
open PySem.W (Datum Tup T4)
section
variable {X : Cx} {Kx : PySem.W.Frag}
theorem call_isiA (hK : X.K = Kx := by rfl) : CallR X (.builtin "isinstance") (rIsi Kx) := by
  subst hK
  exact call_isi
theorem call_isiTA (hK : X.K = Kx := by rfl) : CallR X (.builtin "isinstance") (rIsiT Kx) := by
  subst hK
  exact call_isiT
end
theorem vle {a b : Int} (h : a ≤ b) : V.bl (decide (a ≤ b)) = V.bl true := by rw [decide_eq_true h]
theorem vlt {a b : Int} (h : a < b) : V.bl (decide (a < b)) = V.bl true := by rw [decide_eq_true h]
theorem qle {Q : VK} {H : Hp} {a b : Int} (h : a ≤ b) (q : Q (.bl true) H) : Q (.bl (decide (a ≤ b))) H := by
  rw [decide_eq_true h]
  exact q
theorem qlt {Q : VK} {H : Hp} {a b : Int} (h : a < b) (q : Q (.bl true) H) : Q (.bl (decide (a < b))) H := by
  rw [decide_eq_true h]
  exact q
/-- [e for x in xs], xs a tuple: as lc_listG -/
theorem lc_tupG {R : Nat → Hp → Hp → Prop} {bad : Addr → Prop} {σ : L2.St} {H : Hp} {D : Addr} {vs : List Nat} {te : TE} {k : Nat} {K : PySem.W.Frag} (Z : Nat → V → Hp → Prop) (zm : ∀ i y H1 H2, Ex H1 H2 → Z i y H1 → Z i y H2) (L : Rel R bad) (hD : H D = none) (nb : ¬ bad D) {a : Addr} {xs : List V} {g : TG} {Qd : Hp → Prop} (hx : SqT K H a xs) (hn : xs.length ≤ 100000)
    (hs : ∀ i x H', xs[i]? = some x → R (k * i) H H' → (∃ zs, H' D = some (.lst zs)) → g x (wipe σ vs) H' fun σ2 H2 => wipe σ2 vs = wipe σ vs ∧ H2 = H' ∧ ∀ Q : VK, (∀ y H4, R k H' H4 → Z i y (del H4 D) → Q y H4) → te σ2 H2 Q)
    (gm : ∀ x σ H (A B : L2.St → Hp → Prop), (∀ σ2 H2, A σ2 H2 → B σ2 H2) → g x σ H A → g x σ H B)
    (hd : ∀ ys H', H' D = some (.lst ys) → ys.length = xs.length → (∀ i y, ys[i]? = some y → Z i y H') → R (k * xs.length) H H' → (∀ i y, ys[i]? = some y → Z i y (del H' D)) → Qd H') :
    ∃ W : Nat → Nat → Hp → Prop, (∃ m, W 0 m (upd H D (.lst []))) ∧ ∀ i m H, W i m H →
      ((Itt K a).stop i H ∧ Qd H) ∨ ((Itt K a).go i H ∧ ∃ Nx : Hp → Prop, (∀ H', Nx H' → ∃ m', m' < m ∧ W (i + 1) m' H') ∧ ∀ x H', (Itt K a).yld i H x H' → g x (wipe σ vs) H' fun σ2 H2 => wipe σ2 vs = wipe σ vs ∧ tYes σ2 H2 fun b H3 =>
        if b = true then te σ2 H3 fun y H4 => ∃ acc, H4 D = some (.lst acc) ∧ acc.length < sizeLine ∧ Nx (upd H4 D (.lst (acc ++ [y]))) else Nx H3) := by
  refine lc_tup (K := K) (a := a) (xs := xs) (fun i H' => i ≤ xs.length ∧ ∃ ys, Made R Z H D i (k * i) ys H') ⟨Nat.zero_le _, [], made_start L hD⟩ (fun i H' _ ⟨_, ys, M⟩ => (L.ex (made_go L M)).t hx) ?_ ?_
  · rintro i x H' hi ⟨hil, ys, M⟩
    have hlt := (List.getElem?_eq_some_iff.mp hi).1
    refine gm _ _ _ _ _ (fun σ2 H2 h => ?_) (hs i x H' hi (made_go L M) ⟨_, M.at_⟩)
    obtain ⟨h1, h2, h3⟩ := h
    refine ⟨h1, yes_of ?_⟩
    refine h3 _ fun y H4 g hz => ?_
    obtain ⟨q1, q2⟩ := made_snoc zm L nb M g hz
    exact ⟨ys, q1, Nat.lt_of_le_of_lt (by have := M.len; omega : ys.length ≤ 100000) (by decide), by omega, ys ++ [y], by rw [Nat.mul_succ]; exact q2⟩
  · rintro H' ⟨_, ys, M⟩
    exact hd ys H' M.at_ M.len (fun i y e => made_it zm M e) (made_go L M) M.it
theorem tie4 {a b c d : Int} {i : Nat} {v : V} (h : ([.int a, .int b, .int c, .int d] : List V)[i]? = some v) : ∃ z, v = .int z := by
  match i, h with
  | 0, h => exact ⟨a, (Option.some.inj h).symm⟩
  | 1, h => exact ⟨b, (Option.some.inj h).symm⟩
  | 2, h => exact ⟨c, (Option.some.inj h).symm⟩
  | 3, h => exact ⟨d, (Option.some.inj h).symm⟩
/-- a list of trues -/
theorem all_true : ∀ {ys : List V}, (∀ (i : Nat) (y : V), ys[i]? = some y → y = .bl true) → ∃ bs : List Bool, ys = bs.map V.bl ∧ bs.all id = true
  | [], _ => ⟨[], rfl, rfl⟩
  | y :: ys, h => by
    obtain ⟨bs, rfl, h2⟩ := all_true (ys := ys) fun i z e => h (i + 1) z e
    have e := h 0 y rfl
    subst e
    exact ⟨true :: bs, rfl, by rw [List.all_cons, h2]; rfl⟩
theorem tyx_t {K : PySem.W.Frag} {H : Hp} {a : Addr} {xs : List V} (h : SqT K H a xs) : TyX K H (.ref a) (.type "tuple") := by
  rcases h with (h | ⟨o, h⟩) | ⟨o, its, n, h, c, _⟩
  · exact .base (.tup h)
  · exact .fTuple h
  · exact .kTuple h c
theorem tyx_l {K : PySem.W.Frag} {H : Hp} {a : Addr} {xs : List V} (h : SqL K H a xs) : TyX K H (.ref a) (.type "list") := by
  rcases h with (h | ⟨o, h⟩) | ⟨o, its, n, h, c, _⟩
  · exact .base (.lst h)
  · exact .base (.frz h)
  · exact .kList h c
section
variable {P : Program} {w : World} {K : PySem.W.Frag} {mg : Str → Option Value} {base : Heap}
def spPen (K : PySem.W.Frag) : Sp := fun vs H Q _ => ∃ (a : Addr) (ns : List Int), vs = [.ref a] ∧ SqL K H a (ns.map V.int) ∧ ∀ p c H', Pen H' p c 0 → Same H H' → Q (.ref p) H'
theorem sc__law_pen : FnScope ["script"] ["script"] (defScope s__law_pen) := ⟨rfl, rfl, rfl, by decide +kernel, rfl, by decide +kernel, by decide +kernel⟩
theorem ok__law_pen (D : Dn K mg "_law_pen" s__law_pen ["script"]) (B : Bt mg)  : Cl P w K mg base 1 "_law_pen" (spPen K) := by
  refine cl_of D sc__law_pen (fun vs H Q E h => ?_) (fun cdv f A outer s H vs Q E hr h => ?_)
  · obtain ⟨a, ns, rfl, _⟩ := h
    rfl
  · obtain ⟨a, ns, rfl, hs, q⟩ := h
    have nd := sc__law_pen.nd
    refine ⟨_, (pss_one (ps_ret (pe_disp (pps_cons pe_str (pe_callTy call_listK (by rfl) B.list (by decide +kernel) (pa_cons (pe_slice sl_listK (pv 0) po_none (po_some pe_int)) pa_nil)) (pps_cons pe_str pe_int (pps_cons pe_str pe_int pps_nil))) (by rfl) (by rfl) (fun z => by cases z) (by decide)))), ?_⟩
    intro p hp
    have k1 : (upd H p (.dK [])) p = some (.dK []) := upd_same
    have s1 : Same H (upd H p (.dK [])) := same_new hp
    generalize upd H p (.dK []) = H1 at k1 s1 ⊢
    refine ⟨.ref a, rfl, 63, rfl, a, _, rfl, Ex.l (Ex.of s1) hs, fun l hl => ?_⟩
    have k2 : (upd H1 l (.lst (cutV (ns.map V.int) none (some 63)))) l = some (.lst (cutV (ns.map V.int) none (some 63))) := upd_same
    have s2 : Same H1 (upd H1 l (.lst (cutV (ns.map V.int) none (some 63)))) := same_new hl
    generalize upd H1 l (.lst (cutV (ns.map V.int) none (some 63))) = H2 at k2 s2 ⊢
    refine ⟨l, _, rfl, .inl (SqL.of k2), fun c hc => ?_⟩
    have k3 : (upd H2 c (.lst (cutV (ns.map V.int) none (some 63)))) c = some (.lst (cutV (ns.map V.int) none (some 63))) := upd_same
    have s3 : Same H2 (upd H2 c (.lst (cutV (ns.map V.int) none (some 63)))) := same_new hc
    generalize upd H2 c (.lst (cutV (ns.map V.int) none (some 63))) = H3 at k3 s3 ⊢
    have kp := s3 _ _ (s2 _ _ k1)
    have e63 : cutV (ns.map V.int) none (some 63) = (ns.take 63).map V.int := by
      rw [show (63 : Int) = ((63 : Nat) : Int) from rfl, cut_to, List.map_take]
    refine ⟨kp, [(.inr "cells", .ref c), (.inr "turn", .int 0), (.inr "left", .int 0)], rfl, Nat.le_of_lt (Nat.lt_of_sub_ne_zero (by intro z; cases z)), ?_⟩
    refine q p c _ ⟨0, 0, ns.take 63, upd_same, ?_, by omega, by omega, by omega⟩ ?_
    · rw [upd_ne (fun e => by rw [e, kp] at k3; cases k3), k3, e63]
    · exact fun b o e => by
        have nb : b ≠ p := fun z => by
          rw [z, hp] at e
          cases e
        rw [upd_ne nb]
        exact s3 _ _ (s2 _ _ (s1 _ _ e))
def spWhole : Sp := fun vs H Q _ => ∃ z : Int, vs = [.int z] ∧ Q (.bl true) H
theorem sc_is_whole : FnScope ["thing"] ["thing"] (defScope s_is_whole) := ⟨rfl, rfl, rfl, by decide +kernel, rfl, by decide +kernel, by decide +kernel⟩
theorem ok_is_whole (D : Dn K mg "is_whole" s_is_whole ["thing"]) (B : Bt mg) (Bb : mg "bool" = none) : Cl P w K mg base 1 "is_whole" spWhole := by
  refine cl_of D sc_is_whole (fun vs H Q E h => ?_) (fun cdv f A outer s H vs Q E hr h => ?_)
  · obtain ⟨z, rfl, _⟩ := h
    rfl
  · obtain ⟨z, rfl, q⟩ := h
    have nd := sc_is_whole.nd
    refine ⟨_, (pss_one (ps_ret (pe_and (pe_callB call_isiA (by rfl) B.isinstance (by decide +kernel) (pa_cons (pv 0) (pa_cons (pe_bltn (v := .ty "int") (u := .type "int") (by rfl) B.int (by decide +kernel) rfl) pa_nil))) (pe_one (pe_not (pe_callB call_isiA (by rfl) B.isinstance (by decide +kernel) (pa_cons (pv 0) (pa_cons (pe_bltn (v := .ty "bool") (u := .type "bool") (by rfl) Bb (by decide +kernel) rfl) pa_nil)))))))), ?_⟩
    exact ⟨.int z, rfl, _, _, .type "int", .type "int", true, rfl, .ty "int", .base (.int z), kit_ty (by decide +kernel), true, rfl, .int z, rfl, _, _, .type "int", .type "bool", false, rfl, .ty "bool", .base (.int z), kit_ty (by decide +kernel), false, rfl, q⟩
def spBetween : Sp := fun vs H Q _ => ∃ z lo hi : Int, vs = [.int z, .int lo, .int hi] ∧ lo ≤ z ∧ z ≤ hi ∧ Q (.bl true) H
theorem sc_is_between : FnScope ["thing", "low", "high"] ["thing", "low", "high"] (defScope s_is_between) := ⟨rfl, rfl, rfl, by decide +kernel, rfl, by decide +kernel, by decide +kernel⟩
theorem ok_is_between (D : Dn K mg "is_between" s_is_between ["thing", "low", "high"]) (B : Bt mg) (c_is_whole : Cl P w K mg base 1 "is_whole" spWhole) : Cl P w K mg base 2 "is_between" spBetween := by
  refine cl_of D sc_is_between (fun vs H Q E h => ?_) (fun cdv f A outer s H vs Q E hr h => ?_)
  · obtain ⟨z, lo, hi, rfl, _⟩ := h
    rfl
  · obtain ⟨z, lo, hi, rfl, h1, h2, q⟩ := h
    have nd := sc_is_between.nd
    refine ⟨_, (pss_one (ps_ret (pe_and (pe_c c_is_whole hr (by decide) (by rfl) (pa_cons (pv 0) pa_nil)) (pe_one (pe_chain op_le op_le (pv 1) (pv 0) (pv 2)))))), ?_⟩
    refine ⟨.int z, rfl, z, rfl, true, rfl, ?_⟩
    exact ⟨.int lo, rfl, .int z, rfl, lo, z, rfl, rfl, true, vle h1, .int hi, rfl, z, hi, rfl, rfl, qle h2 q⟩
def spNeedSize : Sp := fun vs H Q _ => ∃ s : Int, vs = [.int s] ∧ 1 ≤ s ∧ s ≤ 12 ∧ Q .non H
theorem sc_need_size : FnScope ["size"] ["size"] (defScope s_need_size) := ⟨rfl, rfl, rfl, by decide +kernel, rfl, by decide +kernel, by decide +kernel⟩
theorem ok_need_size (D : Dn K mg "need_size" s_need_size ["size"]) (B : Bt mg) (c_is_between : Cl P w K mg base 2 "is_between" spBetween) (v_MOST_POSTS : ∃ u, mg "MOST_POSTS" = some u ∧ RelV (.int 12) u) : Cl P w K mg base 3 "need_size" spNeedSize := by
  refine cl_of D sc_need_size (fun vs H Q E h => ?_) (fun cdv f A outer s H vs Q E hr h => ?_)
  · obtain ⟨z, rfl, _⟩ := h
    rfl
  · obtain ⟨z, rfl, h1, h2, q⟩ := h
    have nd := sc_need_size.nd
    refine ⟨_, (pss_one (ps_if (pt_not (pt_val (pe_c c_is_between hr (by decide) (by rfl) (pa_cons (pv 0) (pa_cons pe_int (pa_cons (pe_gv (by rfl) v_MOST_POSTS) pa_nil))))))
    (pss_one ps_never)
    pss_nil)), ?_⟩
    exact ⟨.int z, rfl, z, 1, 12, rfl, h1, h2, true, rfl, q⟩
/-! ### is_tie -/
def spIsTie (K : PySem.W.Frag) : Sp := fun vs H Q _ => ∃ (s : Int) (x : V) (t : Tie), vs = [.int s, x] ∧ Is K H x t ∧ TieOk 9 s t ∧ ∀ H', Same H H' → Q (.bl true) H'
theorem sc_is_tie : FnScope ["size", "thing", "one", "other", "there", "back", "number"] ["size", "thing"] (defScope s_is_tie) := ⟨rfl, rfl, rfl, by decide +kernel, rfl, by decide +kernel, by decide +kernel⟩
theorem ok_is_tie (D : Dn K mg "is_tie" s_is_tie ["size", "thing"]) (B : Bt mg) (Bb : mg "bool" = none) (c_is_whole : Cl P w K mg base 1 "is_whole" spWhole) (v_MOST_CORDS : ∃ u, mg "MOST_CORDS" = some u ∧ RelV (.int 9) u) : Cl P w K mg base 2 "is_tie" (spIsTie K) := by
  refine cl_of D sc_is_tie (fun vs H Q E h => ?_) (fun cdv f A outer s H vs Q E hr h => ?_)
  · obtain ⟨s, x, t, rfl, _⟩ := h
    rfl
  · obtain ⟨s, x, t, rfl, hx, ok, q⟩ := h
    obtain ⟨a, rfl, hT⟩ := t4_is hx
    have nd := sc_is_tie.nd
    refine ⟨_, (pss_cons (ps_if (PW.pt (pw_or (pt_not (pt_val (pe_callB call_isiA (by rfl) B.isinstance (by decide +kernel) (pa_cons (pv 1) (pa_cons (pe_bltn (v := .ty "tuple") (u := .type "tuple") (by rfl) B.tuple (by decide +kernel) rfl) pa_nil))))) (pw_or (pt_cmpR op_ne (pe_callB call_lenK (by rfl) B.len PySem.boot_len (pa_cons (pv 1) pa_nil)) pe_int (nomark _)) (pw_or1 (pt_not (pt_val (pe_callB (cr_allK rfl) (by rfl) B.all (by decide +kernel) (pa_cons (pe_lc (own := [("number", 6)]) rfl nd (pi_tupK (pv 1)) (blkOk_by (N := ["size", "thing", "one", "other", "there", "back", "number"]) (sc := defScope s_is_tie) (by decide +kernel)) (fun _ _ _ _ _ => (pg_name (i := 6) nd rfl (.inl rfl))) (fun _ _ _ _ _ => pts_nil) (fun _ _ _ _ _ => (pe_c c_is_whole hr (by decide) (by rfl) (pa_cons (pv 6) pa_nil)))) pa_nil))))))))
    (pss_one (ps_ret pe_bl))
    pss_nil)
    (pss_cons (ps_asg (pv 1) (pg_tupK (n := 4) (by rfl) (pgs_cons (pg_name (i := 2) nd rfl (.inl rfl)) (pgs_cons (pg_name (i := 3) nd rfl (.inl rfl)) (pgs_cons (pg_name (i := 4) nd rfl (.inl rfl)) (pgs_cons (pg_name (i := 5) nd rfl (.inl rfl)) pgs_nil))))))
    (pss_one (ps_ret (pe_and (pe_chain3 op_le op_lt op_lt pe_int (pv 2) (pv 3) (pv 0)) (pe_and (pe_chain op_le op_le pe_int (pv 4) (pe_gv (by rfl) v_MOST_CORDS)) (pe_one (pe_chain op_le op_le pe_int (pv 5) (pe_gv (by rfl) v_MOST_CORDS))))))))), ?_⟩
    refine ⟨.ref a, rfl, _, _, .type "tuple", .type "tuple", true, rfl, .ty "tuple", tyx_t hT, kit_ty (by decide +kernel), true, rfl, ?_⟩
    refine ⟨.ref a, rfl, _, _, rfl, .inr hT, rfl, false, rfl, ?_⟩
    refine ⟨.ref a, rfl, a, rfl, ⟨_, hT⟩, fun D hD => ?_⟩
    refine lc_tupG (k := 0) (fun _ y _ => y = .bl true) (fun _ _ _ _ _ h => h) rel_same hD id hT (by show 4 ≤ 100000; decide) ?_ ?_ ?_
    · intro i x H' hx sm hDs
      obtain ⟨z, rfl⟩ := tie4 hx
      exact ⟨rfl, rfl, fun Q' q' => ⟨.int z, rfl, z, rfl, q' _ _ (fun _ _ h => h) rfl⟩⟩
    · exact fun x σ H A B h hA => h _ _ hA
    · intro ys H' hy hl hz sm _
      obtain ⟨bs, rfl, hb⟩ := all_true hz
      refine ⟨D, bs, rfl, SqL.of hy, true, by rw [hb], ?_⟩
      refine ⟨.ref a, rfl, a, _, rfl, Ex.t (Ex.of sm) hT, rfl, _, _, rfl, _, _, rfl, _, _, rfl, _, _, rfl, rfl, ?_⟩
      exact ⟨.int t.a, rfl, 0, t.a, rfl, rfl, true, vle ok.a0, .int t.b, rfl, t.a, t.b, rfl, rfl, true, vlt ok.ab, .int s, rfl, t.b, s, rfl, rfl, true, vlt ok.bs,
        .int t.c, rfl, 1, t.c, rfl, rfl, true, vle ok.c1, t.c, 9, rfl, rfl, true, vle ok.cm, .int t.d, rfl, 1, t.d, rfl, rfl, true, vle ok.d1, t.d, 9, rfl, rfl, qle ok.dm (q _ sm)⟩
theorem pairs_of {K : PySem.W.Frag} {H : Hp} : ∀ {ys : List V} {ts : List Tie}, ys.length = ts.length → (∀ (i : Nat) (y : V), ys[i]? = some y → ∃ p, y = .ref p ∧ ∀ t, ts[i]? = some t → H p = some (.tup [.int t.a, .int t.b])) →
    ∃ ks : List (Addr × List Int), ys = ks.map (fun z => V.ref z.1) ∧ ks.map (·.2) = ts.map (fun t => [t.a, t.b]) ∧ (∀ z ∈ ks, SqT K H z.1 (z.2.map V.int))
  | [], [], _, _ => ⟨[], rfl, rfl, fun z hz => by cases hz⟩
  | [], _ :: _, h, _ => by simp at h
  | _ :: _, [], h, _ => by simp at h
  | y :: ys, t :: ts, h, f => by
    obtain ⟨ks, rfl, h2, h3⟩ := pairs_of (K := K) (ys := ys) (ts := ts) (by simpa using h) fun i z e => f (i + 1) z e
    obtain ⟨p, rfl, hp⟩ := f 0 y rfl
    refine ⟨(p, [t.a, t.b]) :: ks, rfl, by rw [List.map_cons, List.map_cons, h2], fun z hz => ?_⟩
    rcases List.mem_cons.mp hz with rfl | hz
    · exact SqT.of (hp t rfl)
    · exact h3 z hz
theorem pairs_nd {ts : List Tie} (h : (ts.map fun t => (t.a, t.b)).Nodup) : (ts.map fun t => [t.a, t.b]).Nodup := by
  have h' := List.pairwise_map.mp h
  refine List.pairwise_map.mpr (h'.imp fun {x y} hne e => hne ?_)
  have e1 : x.a = y.a := by injection e
  have e2 : x.b = y.b := by
    injection e with _ e
    injection e
  rw [e1, e2]
/-! ### need_ties -/
def spNeedTies (K : PySem.W.Frag) : Sp := fun vs H Q _ => ∃ (s : Int) (x : V) (ts : List Tie), vs = [.int s, x] ∧ Is K H x ts ∧ TiesOk 9 s ts ∧ ts.length ≤ 63 ∧ ∀ H', Same H H' → Q .non H'
theorem sc_need_ties : FnScope ["size", "ties", "tie"] ["size", "ties"] (defScope s_need_ties) := ⟨rfl, rfl, rfl, by decide +kernel, rfl, by decide +kernel, by decide +kernel⟩
theorem ok_need_ties (D : Dn K mg "need_ties" s_need_ties ["size", "ties"]) (B : Bt mg) (c_is_tie : Cl P w K mg base 2 "is_tie" (spIsTie K)) : Cl P w K mg base 3 "need_ties" (spNeedTies K) := by
  refine cl_of D sc_need_ties (fun vs H Q E h => ?_) (fun cdv f A outer s H vs Q E hr h => ?_)
  · obtain ⟨s, x, t, rfl, _⟩ := h
    rfl
  · obtain ⟨s, x, ts, rfl, hx, ok, hn, q⟩ := h
    obtain ⟨a, vs, rfl, hS, hA⟩ := is_list hx
    have hlen := all_len hA
    have nd := sc_need_ties.nd
    refine ⟨_, (pss_cons (ps_if (pt_not (pt_val (pe_callB call_isiTA (by rfl) B.isinstance (by decide +kernel) (pa_cons (pv 1) (pa_cons (pe_tup (pa_cons (pe_bltn (v := .ty "list") (u := .type "list") (by rfl) B.list (by decide +kernel) rfl) (pa_cons (pe_bltn (v := .ty "tuple") (u := .type "tuple") (by rfl) B.tuple (by decide +kernel) rfl) pa_nil))) pa_nil)))))
    (pss_one ps_never)
    pss_nil)
    (pss_cons (ps_if (pt_not (pt_val (pe_callB (cr_allK rfl) (by rfl) B.all (by decide +kernel) (pa_cons (pe_lc (own := [("tie", 2)]) rfl nd (pi_listK (pv 1)) (blkOk_by (N := ["size", "ties", "tie"]) (sc := defScope s_need_ties) (by decide +kernel)) (fun _ _ _ _ _ => (pg_name (i := 2) nd rfl (.inl rfl))) (fun _ _ _ _ _ => pts_nil) (fun _ _ _ _ _ => (pe_c c_is_tie hr (by decide) (by rfl) (pa_cons (pv 0) (pa_cons (pv 2) pa_nil))))) pa_nil))))
    (pss_one ps_never)
    pss_nil)
    (pss_one (ps_if (pt_cmpR op_lt (pe_lenSetT rfl hr.units (by rfl) B.len (by rfl) B.set (pe_lc (own := [("tie", 2)]) rfl nd (pi_listK (pv 1)) (blkOk_by (N := ["size", "ties", "tie"]) (sc := defScope s_need_ties) (by decide +kernel)) (fun _ _ _ _ _ => (pg_name (i := 2) nd rfl (.inl rfl))) (fun _ _ _ _ _ => pts_nil) (fun _ _ _ _ _ => (pe_tup (pa_cons (pe_ix ix_tupK (pv 2) pe_int (fun _ _ => rfl)) (pa_cons (pe_ix ix_tupK (pv 2) pe_int (fun _ _ => rfl)) pa_nil)))))) (pe_callB call_lenK (by rfl) B.len PySem.boot_len (pa_cons (pv 1) pa_nil)) (nomark _))
    (pss_one ps_never)
    pss_nil)))), ?_⟩
    refine ⟨.ref a, rfl, by show 2 ≤ sizeLine; decide, fun p hp => ?_⟩
    have k1 : (upd H p (.tup [.ty "list", .ty "tuple"])) p = some (.tup [.ty "list", .ty "tuple"]) := upd_same
    have s1 : Same H (upd H p (.tup [.ty "list", .ty "tuple"])) := same_new hp
    generalize upd H p (.tup [.ty "list", .ty "tuple"]) = H1 at k1 s1 ⊢
    have hS1 := Ex.l (Ex.of s1) hS
    refine ⟨_, p, _, .type "list", [.type "list", .type "tuple"], true, rfl, k1, .cons (.ty _) (.cons (.ty _) .nil), tyx_l hS1, kitAny_cons (b := true) (kit_ty (by decide +kernel)) (fun e => nomatch e) (fun _ => rfl), true, rfl, ?_⟩
    refine ⟨.ref a, rfl, a, rfl, ⟨_, hS1⟩, fun D hD => ?_⟩
    refine lc_listG (k := 0) (fun _ y _ => y = .bl true) (fun _ _ _ _ _ h => h) rel_same hD id hS1 (by omega) ?_ ?_ ?_
    · intro i x H' hx sm hDs
      obtain ⟨t, ht, hxt⟩ := all_get hA hx
      exact ⟨rfl, rfl, fun Q' q' => ⟨.int s, rfl, x, rfl, s, x, t, rfl, Dp.ex (Ex.of (s1.trans sm)) hxt, ok.all t (List.mem_of_getElem? ht), fun H'' sm' => q' _ _ sm' rfl⟩⟩
    · exact fun x σ H A B h hA => h _ _ hA
    · intro ys H2 hy hl hz sm2 _
      obtain ⟨bs, rfl, hb⟩ := all_true hz
      refine ⟨D, bs, rfl, SqL.of hy, true, by rw [hb], ?_⟩
      have s2 : Same H H2 := s1.trans sm2
      have hS2 := Ex.l (Ex.of s2) hS
      have hA2 := DpAll.ex (Ex.of s2) hA
      refine ⟨.ref a, rfl, a, rfl, ⟨_, hS2⟩, fun D2 hD2 => ?_⟩
      refine lc_listG (k := 0) (fun i y Hx => ∃ p, y = .ref p ∧ ∀ t, ts[i]? = some t → Hx p = some (.tup [.int t.a, .int t.b])) (fun i y Ha Hb e h => ?_) rel_same hD2 id hS2 (by omega) ?_ ?_ ?_
      · obtain ⟨p, rfl, h⟩ := h
        exact ⟨p, rfl, fun t ht => e _ _ (h t ht) trivial⟩
      · intro i x H' hx sm hDs
        obtain ⟨t, ht, hxt⟩ := all_get hA2 hx
        obtain ⟨c, rfl, hc⟩ := t4_is (Dp.ex (Ex.of sm) hxt)
        refine ⟨rfl, rfl, fun Q' q' => ⟨.ref c, rfl, c, _, 0, .int t.a, rfl, rfl, hc, rfl, .ref c, rfl, c, _, 1, .int t.b, rfl, rfl, hc, rfl, by show 2 ≤ sizeLine; decide, fun z hz => q' _ _ (same_new hz) ⟨z, rfl, fun t' ht' => ?_⟩⟩⟩
        have e : t = t' := Option.some.inj (ht.symm.trans ht')
        obtain ⟨u, hu⟩ := hDs
        rw [← e, del_ne (fun e => by rw [e, hu] at hz; cases hz)]
        exact upd_same
      · exact fun x σ H A B h hA => h _ _ hA
      · intro ys H3 hy hl hz sm3 _
        obtain ⟨ks, rfl, h2, h3⟩ := pairs_of (K := K) (hl.trans hlen) hz
        have hkl : ks.length = ts.length := by
          have := congrArg List.length h2
          rw [List.length_map, List.length_map] at this
          exact this
        refine ⟨D2, ks, rfl, SqL.of hy, h3, by omega, by rw [h2]; exact pairs_nd ok.nd, ?_⟩
        refine ⟨.ref a, rfl, a, _, rfl, .inl (Ex.l (Ex.of sm3) hS2), ks.length, vs.length, rfl, rfl, false, ?_, q _ (s2.trans sm3)⟩
        have hnl : ¬ ((ks.length : Nat) : Int) < ((vs.length : Nat) : Int) := by omega
        show V.bl (decide (((ks.length : Nat) : Int) < ((vs.length : Nat) : Int))) = V.bl false
        rw [decide_eq_false hnl]
end
end Gb
set_option maxRecDepth 100000
set_option maxHeartbeats 4000000
/-! t[::-1], t a tuple. -/
namespace Gb
open PySem PySem.Spec PyProof.Rows L2 HT
section
variable {prog : Program} {w : World} {A : Around} {E : Value → Shared → Prop} {s : Shared}
theorem rev_applied {sl : Addr} {vl vu vs : Value} {n : Nat} {Q : Int × Int × Nat → Shared → Prop} (hs : s.heap.IsSliceOf sl vl vu vs) (pl : IsPart vl none) (pu : IsPart vu none) (ps : IsPart vs (some (-1)))
    (h : Q ((n : Int) - 1, -1, n) s) : wpAny (model prog w) A (Builtin.Slice.sliceApplied (.ref sl) (pure (n : Int))) Q E s := by
  obtain ⟨os, hos, hcs, hds⟩ := id hs
  unfold Builtin.Slice.sliceApplied Builtin.Slice.sliceFields
  refine wpAny_bind (wpAny_bind (wpAny_field hos hds (x := vl) rfl (wpAny_bind (wpAny_field hos hds (x := vu) rfl (wpAny_bind (wpAny_field hos hds (x := vs) rfl (wpAny_pure ?_)))))))
  refine wpAny_bind (slicePart_ ps ?_)
  show wpAny _ _ (if ((-1 : Int) == 0) = true then _ else _) _ _ s
  rw [if_neg (by decide)]
  refine wpAny_bind (slicePart_ pl (wpAny_bind (slicePart_ pu (wpAny_bind (wpAny_pure ?_)))))
  show wpAny _ _ (match Builtin.Slice.sliceAdjust none none (-1) (n : Int) with | (lo, hi) => pure (lo, (-1 : Int), Builtin.Slice.slicePlaces lo hi (-1))) _ _ s
  have e : Builtin.Slice.sliceAdjust none none (-1) (n : Int) = ((n : Int) - 1, -1) := rfl
  rw [e]
  show wpAny _ _ (pure ((n : Int) - 1, (-1 : Int), Builtin.Slice.slicePlaces ((n : Int) - 1) (-1) (-1))) _ _ s
  have e2 : Builtin.Slice.slicePlaces ((n : Int) - 1) (-1) (-1) = n := by
    unfold Builtin.Slice.slicePlaces
    rw [if_neg (by decide)]
    have e3 : (- (-1) : Int) = 1 := by decide
    rw [e3, Int.ediv_one]
    split <;> omega
  rw [e2]
  exact wpAny_pure h
theorem rev_pick (xs : Array Value) : ((List.range xs.size).filterMap fun (m : Nat) => xs[(((xs.size : Int) - 1) + (m : Int) * -1).toNat]?).toArray = xs.toList.reverse.toArray := by
  have e : (fun (m : Nat) => xs[(((xs.size : Int) - 1) + (m : Int) * -1).toNat]?) = (fun j => xs[j]?) ∘ fun m => xs.size - 1 - m := by
    funext m
    show _ = xs[xs.size - 1 - m]?
    have : (((xs.size : Int) - 1) + (m : Int) * -1).toNat = xs.size - 1 - m := by omega
    rw [this]
  rw [e, ← List.filterMap_map, PySem.W.krv_range, List.filterMap_reverse, PySem.W.krv_all]
theorem getItem_tuple_rev {t sl : Addr} {items : Array Value} {vl vu vs : Value} {Q : Value → Shared → Prop} (ht : IsTup s.heap t items) (hs : s.heap.IsSliceOf sl vl vu vs) (pl : IsPart vl none) (pu : IsPart vu none) (ps : IsPart vs (some (-1)))
    (h : Q (.ref s.heap.objs.size) { s with heap := s.heap.push { cls := .type "tuple", data := .seq items.toList.reverse.toArray } })
    (hsz : items.size ≤ sizeLine) : wpAny (model prog w) A (getItem (.ref t) (.ref sl)) Q E s := by
  have htake : sizeOk (.seq items.toList.reverse.toArray) := by
    show items.toList.reverse.toArray.size ≤ sizeLine
    rw [List.size_toArray, List.length_reverse, Array.length_toList]
    exact hsz
  obtain ⟨os, hos, hcs, hds⟩ := id hs
  have hTs : s.TypeIs (.ref sl) "slice" := ⟨os, hos, hcs⟩
  unfold getItem
  try with_reducible refine wpAny_holding ?_
  first | refine wpAny_bind (wpAny_pure ?_) | skip
  refine wpAny_bind (wpAny_sequenceKey ht.typeIs (by decide) ?_)
  refine wpAny_bind (wpAny_callSpecial?_slot (name := Str.ofString "__getitem__") ht.typeIs PyProof.Rows.slot_tuple_getitem
    (wpAny_call_entry PyProof.Rows.slot_tuple_getitem ht.typeIs entry_tuple_getitem ?_ (args_tuple_getitem _ _)))
  show wpAny _ _ (Builtin.Tuple.tupleItemsOf (.ref t) >>= _) _ _ s
  refine wpAny_bind (tupleItemsOf_ ht ?_)
  refine wpAny_bind (wpAny_typeOf hTs ?_)
  rw [if_pos (by decide)]
  refine wpAny_bind (rev_applied hs pl pu ps ?_)
  have hno : ¬ ((((items.size : Int) - 1) == 0 && (-1 : Int) == 1 && items.size == items.size) = true) := by
    rw [show ((-1 : Int) == 1) = false from rfl, Bool.and_false, Bool.false_and]
    exact Bool.false_ne_true
  show wpAny _ _ (if (((items.size : Int) - 1) == 0 && (-1 : Int) == 1 && items.size == items.size) = true then _ else _) _ _ s
  rw [if_neg hno, rev_pick]
  first
    | exact wpAny_bind (m := Builtin.Tuple.tupleExact _) (wpAny_newObj_type (wpAny_pure ⟨_, rfl, wpAny_pure h⟩) htake)
    | exact wpAny_bind (m := Builtin.Tuple.tupleExact _) (wpAny_newObj_type (wpAny_bind (wpAny_pure (wpAny_pure ⟨_, rfl, wpAny_pure h⟩))) htake)
    | exact wpAny_bind (wpAny_bind (m := Builtin.Tuple.tupleExact _) (wpAny_newObj_type (wpAny_pure (wpAny_pure ⟨_, rfl, wpAny_pure h⟩)) htake))
    | exact wpAny_bind (wpAny_bind (m := Builtin.Tuple.tupleExact _) (wpAny_newObj_type (wpAny_pure ⟨_, rfl, wpAny_pure h⟩) htake))
end
section
variable {X : Cx} {Kx : PySem.W.Frag}
def tRevT (K : PySem.W.Frag) (te : TE) : TE := fun σ H Q => te σ H fun x H1 => ∃ a xs, x = .ref a ∧ SqT K H1 a xs ∧ ∀ q, H1 q = none → Q (.ref q) (upd H1 q (.tup xs.reverse))
theorem pe_revT {e : Expr} {te : TE} {k : Nat} {p1 p2 p3 pos : Pos} (he : PE X e te) (hK : X.K = Kx := by rfl) : PE X (.Subscript e (.Slice none none (some (.UnaryOp .USub (.Constant (.int 1) k p1) p2)) p3) pos) (tRevT Kx te) := by
  subst hK
  refine ⟨fun pins s σ H Q I h => ?_⟩
  refine Subscript_ (thn (he.run pins s σ H _ I h) fun v s1 ⟨x, H1, I1, r1, q1⟩ => ?_)
  obtain ⟨a, xs, ex, hx, q⟩ := q1
  subst ex
  cases r1
  have hst : PO X (some (.UnaryOp .USub (.Constant (.int 1) k p1) p2)) (tPart (tUn (rU fun i => .int (-i)) (tC (.int 1)))) := po_some (pe_un un_neg pe_int)
  refine wpAny_Slice (thn (po_none.run pins s1 σ H1 (fun o H2 => o = none ∧ H2 = H1) I1 ⟨rfl, rfl⟩) fun vl s2 ⟨l, H2, I2, pl, el, e2⟩ => ?_)
  subst el e2
  refine thn (po_none.run pins s2 σ H2 (fun o H3 => o = none ∧ H3 = H2) I2 ⟨rfl, rfl⟩) fun vu s3 ⟨u, H3, I3, pu, eu, e3⟩ => ?_
  subst eu e3
  refine thn (hst.run pins s3 σ H3 (fun o H4 => o = some (-1) ∧ H4 = H3) I3 ⟨1, rfl, -1, rfl, rfl, rfl⟩) fun vs s4 ⟨o, H4, I4, ps, eo, e4⟩ => ?_
  subst eo e4
  have I5 : Inv X pins σ H4 { s4 with heap := s4.heap.push { cls := .type "slice", data := .fields #[vl, vu, vs] } } := I4.kept (t' := s4.toks) fun b ob q => Heap.get?_push_of_some _ q
  obtain ⟨its, r, ht, hz⟩ := I5.tuple hx
  have hlen := r.length
  show wpAny (model X.prog X.w) X.A (subscriptTail e (.Slice none none (some (.UnaryOp .USub (.Constant (.int 1) k p1) p2)) p3) (.ref a) (.ref s4.heap.objs.size)) (EP X pins σ Q) X.xe { s4 with heap := s4.heap.push { cls := .type "slice", data := .fields #[vl, vu, vs] } }
  refine tail_any (ops := [.ref a, .ref s4.heap.objs.size]) ht.typeIs (PyProof.Rows.slot_tuple_getitem.lookup) ?_ (by with_unfolding_all rfl)
  refine getItem_tuple_rev ht (Heap.IsSliceOf.new _ vl vu vs) pl pu ps ?_ (by rw [List.size_toArray]; omega)
  refine ⟨.ref _, _, I5.laid (t' := s4.toks) (o := .tup xs.reverse) (fun b ob q => Heap.get?_push_of_some _ q) (Nat.le_refl _) ?_, rfl, q _ (I5.hok.fresh (Nat.le_refl _))⟩
  exact ⟨by rw [List.length_reverse]; exact hz, _, r.reverse, IsTup.new _ _⟩
end
end Gb
set_option maxRecDepth 100000
set_option maxHeartbeats 4000000
namespace Gb
open PySem PySem.Spec PyProof.Rows L2
open PySem.W (Datum Tup T4)
def rowV (M : Nat → Nat → Int) (s i : Nat) : List V := (List.range s).map fun j => V.int (M i j)
theorem rowV_len {M : Nat → Nat → Int} {s i : Nat} : (rowV M s i).length = s := by
  unfold rowV
  rw [List.length_map, List.length_range]
theorem rowV_get {M : Nat → Nat → Int} {s i j : Nat} (h : j < s) : (rowV M s i)[j]? = some (.int (M i j)) := by
  unfold rowV
  rw [List.getElem?_map, List.getElem?_range h]
  rfl
/-- there and back of the ties -/
def setM (M : Nat → Nat → Int) (i j : Nat) (x : Int) : Nat → Nat → Int := fun a b => if a = i ∧ b = j then x else M a b
def tieM (M : Nat → Nat → Int) (t : Tie) : Nat → Nat → Int := setM (setM M t.a.toNat t.b.toNat t.c) t.b.toNat t.a.toNat t.d
def matOf (ts : List Tie) : Nat → Nat → Int := ts.foldl tieM fun _ _ => 0
theorem rowV_set {M : Nat → Nat → Int} {s i j : Nat} {x : Int} : (rowV M s i).set j (.int x) = rowV (setM M i j x) s i := by
  apply List.ext_getElem?
  intro k
  rw [List.getElem?_set, rowV_len]
  by_cases hk : k < s
  · rw [rowV_get hk, rowV_get hk]
    by_cases e : j = k
    · subst e
      rw [if_pos rfl, if_pos hk]
      show _ = some (V.int (if i = i ∧ j = j then x else M i j))
      rw [if_pos ⟨rfl, rfl⟩]
    · rw [if_neg e]
      show _ = some (V.int (if i = i ∧ k = j then x else M i k))
      rw [if_neg (fun h => e h.2.symm)]
  · have h1 : (rowV M s i)[k]? = none := List.getElem?_eq_none (by rw [rowV_len]; omega)
    have h2 : (rowV (setM M i j x) s i)[k]? = none := List.getElem?_eq_none (by rw [rowV_len]; omega)
    rw [h1, h2]
    split
    · rw [if_neg (by omega)]
    · rfl
theorem rowV_other {M : Nat → Nat → Int} {s i j k : Nat} {x : Int} (h : k ≠ i) : rowV (setM M i j x) s k = rowV M s k := by
  unfold rowV
  apply List.map_congr_left
  intro b _
  show V.int (if k = i ∧ b = j then x else M k b) = _
  rw [if_neg (fun e => h e.1)]
theorem rowV_zero {s i : Nat} : rowV (fun _ _ => 0) s i = (List.replicate s [V.int 0]).flatten := by
  unfold rowV
  apply List.ext_getElem?
  intro k
  have e : ∀ n : Nat, (List.replicate n [V.int 0]).flatten = List.replicate n (V.int 0) := by
    intro n
    induction n with
    | zero => rfl
    | succ n ih =>
      rw [List.replicate_succ, List.flatten_cons, ih]
      rfl
  rw [e, List.getElem?_map, List.getElem?_replicate]
  by_cases hk : k < s
  · rw [List.getElem?_range hk, if_pos hk]
    rfl
  · rw [if_neg hk, List.getElem?_eq_none (by rw [List.length_range]; omega)]
    rfl
theorem ixN_nat {n i : Nat} (h : i < n) : ixN n (i : Int) = some i := by
  unfold ixN
  rw [if_pos (by omega), if_pos (by omega), Int.toNat_natCast]
theorem atI_nat {xs : List V} {i : Nat} {v : V} (h : xs[i]? = some v) : atI xs (i : Int) = some v := by
  unfold atI
  rw [ixN_nat (List.getElem?_eq_some_iff.mp h).1]
  exact h
/-- a list of lists of its own -/
structure Rows (H0 H : Hp) (D : Addr) (rs : List Addr) (R : Nat → List V) : Prop where
  fD : H0 D = none
  at_ : H D = some (.lst (rs.map V.ref))
  nd : rs.Nodup
  nD : D ∉ rs
  fr : ∀ a ∈ rs, H0 a = none
  it : ∀ i a, rs[i]? = some a → H a = some (.lst (R i))
  ol : Same H0 H
section
variable {H0 H H' : Hp} {D : Addr} {rs : List Addr} {R : Nat → List V}
theorem Rows.start (h : H0 D = none) : Rows H0 (upd H0 D (.lst [])) D [] R := ⟨h, upd_same, List.Pairwise.nil, (fun h => by cases h), (fun a h => by cases h), (fun i a h => by cases h), same_new h⟩
theorem Rows.same (A : Rows H0 H D rs R) (e : Same H H') : Rows H0 H' D rs R := ⟨A.fD, e _ _ A.at_, A.nd, A.nD, A.fr, fun i a h => e _ _ (A.it i a h), A.ol.trans e⟩
theorem Rows.snoc (A : Rows H0 H D rs R) {l : Addr} {z : List V} (h : H l = none) (hz : R rs.length = z) : Rows H0 (upd (upd H l (.lst z)) D (.lst (rs.map V.ref ++ [.ref l]))) D (rs ++ [l]) R := by
  have hlD : l ≠ D := fun e => by
    rw [e, A.at_] at h
    cases h
  have hl0 : H0 l = none := A.ol.free h
  have nl : l ∉ rs := fun hm => by
    obtain ⟨i, hi⟩ := List.getElem?_of_mem hm
    rw [A.it i l hi] at h
    cases h
  have ne : ∀ a ∈ rs, a ≠ D := fun a ha e => A.nD (e ▸ ha)
  refine ⟨A.fD, ?_, ?_, ?_, ?_, ?_, ?_⟩
  · rw [upd_same, List.map_append]
    rfl
  · exact List.nodup_append.mpr ⟨A.nd, List.pairwise_singleton _ _, fun a ha b hb => by
      rw [List.mem_singleton.mp hb]
      exact fun e => nl (e ▸ ha)⟩
  · intro hm
    rcases List.mem_append.mp hm with hm | hm
    · exact A.nD hm
    · exact hlD (List.mem_singleton.mp hm).symm
  · intro a ha
    rcases List.mem_append.mp ha with ha | ha
    · exact A.fr a ha
    · rw [List.mem_singleton.mp ha]
      exact hl0
  · intro i a hi
    by_cases hlt : i < rs.length
    · rw [List.getElem?_append_left hlt] at hi
      have ha := List.mem_of_getElem? hi
      have nal : a ≠ l := fun e => nl (e ▸ ha)
      rw [upd_ne (ne a ha), upd_ne nal]
      exact A.it i a hi
    · rw [List.getElem?_append_right (by omega)] at hi
      have h0 : i - rs.length = 0 := by
        cases e : i - rs.length with
        | zero => rfl
        | succ n =>
          rw [e] at hi
          cases hi
      rw [h0] at hi
      have ea : l = a := Option.some.inj hi
      have ei : i = rs.length := by omega
      rw [← ea, upd_ne hlD, upd_same, ei, hz]
  · intro b o e
    have h1 : b ≠ D := fun q => by
      rw [q, A.fD] at e
      cases e
    have h2 : b ≠ l := fun q => by
      rw [q, hl0] at e
      cases e
    rw [upd_ne h1, upd_ne h2]
    exact A.ol _ _ e
theorem Rows.set (A : Rows H0 H D rs R) {i : Nat} {a : Addr} {z : List V} {R' : Nat → List V} (h : rs[i]? = some a) (hz : R' i = z) (ho : ∀ k, k ≠ i → R' k = R k) : Rows H0 (upd H a (.lst z)) D rs R' := by
  have ha := List.mem_of_getElem? h
  have hil := (List.getElem?_eq_some_iff.mp h).1
  refine ⟨A.fD, ?_, A.nd, A.nD, A.fr, ?_, ?_⟩
  · rw [upd_ne (fun e => A.nD (by rw [e]; exact ha))]
    exact A.at_
  · intro k b hk
    by_cases e : k = i
    · subst e
      have eb : a = b := Option.some.inj (h.symm.trans hk)
      rw [← eb, upd_same, hz]
    · have hkl := (List.getElem?_eq_some_iff.mp hk).1
      have nb : b ≠ a := fun q => by
        have := (List.getElem_inj (h₀ := hkl) (h₁ := hil) A.nd).mp (by
          have q1 := (List.getElem?_eq_some_iff.mp hk).2
          have q2 := (List.getElem?_eq_some_iff.mp h).2
          rw [q1, q2, q])
        exact e this
      rw [upd_ne nb, ho k e]
      exact A.it k b hk
  · intro b o e
    rw [upd_ne (fun q => by rw [q, A.fr a ha] at e; cases e)]
    exact A.ol _ _ e
end
end Gb
set_option maxRecDepth 100000
set_option maxHeartbeats 4000000
namespace Gb
open PySem PySem.Spec PyProof.Rows L2
open PySem.W (Datum Tup T4)
/-! ### a class of the module -/
structure DnM (K : PySem.W.Frag) (C : Addr) (m qual : Str) (st : Stmt) (ps : List Str) : Prop where
  ex : ∃ (f : Addr) (fd : FuncData), Fun K m qual st f fd ∧ Meth K C m f ∧ Binds K fd ps []
structure DnI (K : PySem.W.Frag) (C : Addr) (qual : Str) (st : Stmt) (ps : List Str) : Prop where
  ex : ∃ (f : Addr) (fd : FuncData), Fun K "__init__" qual st f fd ∧ Mk K C f ∧ Binds K fd ps []
structure ClM (P : Program) (w : World) (K : PySem.W.Frag) (mg : Str → Option Value) (base : Heap) (k : Nat) (C : Addr) (m : Str) (sp : Sp) : Prop where
  cls : Cls K C
  ex : ∃ (f : Addr) (fd : FuncData) (ps : List Str), FnOk P w K mg base CX0 k f fd ps sp ∧ Meth K C m f ∧ Binds K fd ps []
structure ClI (P : Program) (w : World) (K : PySem.W.Frag) (mg : Str → Option Value) (base : Heap) (k : Nat) (C : Addr) (x : Str) (sp : Sp) : Prop where
  at_ : mg x = some (.ref C)
  ex : ∃ (f : Addr) (fd : FuncData) (ps : List Str), FnOk P w K mg base CX0 k f fd ps sp ∧ Mk K C f ∧ Binds K fd ps []
section
variable {P : Program} {w : World} {K : PySem.W.Frag} {mg : Str → Option Value} {base : Heap}
theorem clm_of {C : Addr} {m qual : Str} {st : Stmt} {N ps : List Str} {k : Nat} {sp : Sp} (D : DnM K C m qual st ps) (c : Cls K C) (S : FnScope N ps (defScope st)) (len : ∀ vs H Q E, sp vs H Q E → vs.length = ps.length)
    (hbody : ∀ (cdv : Value) (f : Addr) (A : Around) (outer : List Env) (s : Shared) (H : Hp) (vs : List V) (Q : VK) (E : XK), Room k (A.deeper (envOfC qual (defScope st) s.heap.objs.size f cdv)) → sp vs H Q E →
      ∃ t, PSs (cxOf CX0 P w K mg base N qual (defScope st) f cdv A outer s H E).nox (defBody st) t ∧ t { nx := fun _ H' => Q .non H', rt := Q } (start N vs) H) : ClM P w K mg base (k + 1) C m sp := by
  obtain ⟨f, fd, F, M, b⟩ := D.ex
  exact ⟨c, f, fd, ps, F.ok S len (fun cdv => hbody cdv f), M, b⟩
theorem cli_of {C : Addr} {x qual : Str} {st : Stmt} {N ps : List Str} {k : Nat} {sp : Sp} (D : DnI K C qual st ps) (hm : mg x = some (.ref C)) (S : FnScope N ps (defScope st)) (len : ∀ vs H Q E, sp vs H Q E → vs.length = ps.length)
    (hbody : ∀ (cdv : Value) (f : Addr) (A : Around) (outer : List Env) (s : Shared) (H : Hp) (vs : List V) (Q : VK) (E : XK), Room k (A.deeper (envOfC qual (defScope st) s.heap.objs.size f cdv)) → sp vs H Q E →
      ∃ t, PSs (cxOf CX0 P w K mg base N qual (defScope st) f cdv A outer s H E).nox (defBody st) t ∧ t { nx := fun _ H' => Q .non H', rt := Q } (start N vs) H) : ClI P w K mg base (k + 1) C x sp := by
  obtain ⟨f, fd, F, M, b⟩ := D.ex
  exact ⟨hm, f, fd, ps, F.ok S len (fun cdv => hbody cdv f), M, b⟩
end
section
variable {X : Cx} {k j : Nat} {x m : Str} {C : Addr} {sp : Sp} {p pos apos : Pos} {e o : Expr} {es : List Expr} {ta : TE} {t : TA}
theorem pe_mk (c : ClI X.prog X.w X.K X.mg X.base k C x sp) (hr : Room j X.A) (hk : k + 1 ≤ j) (hg : Gl X x) (ha : PA X (e :: es) t)
    (hdb : (x == ("__debug__" : Str)) = false := by decide) (he : starEach (e :: es) X.env = (false, eval e X.env) :: starEach es X.env := by rfl) (hpl : (backTo pos (starEach es X.env)).any (·.1) = false := by rfl) :
    PE X (.Call (.Name x p) (e :: es) [] pos) (tMake C sp [] E0 t) := by
  obtain ⟨f, fd, ps, F, M, b⟩ := c.ex
  exact pe_make M F (hr.mono hk) hg c.at_ b .nil pass0 ha hdb he hpl
theorem pe_mt0 {pl : Sem Bool} (c : ClM X.prog X.w X.K X.mg X.base k C m sp) (hr : Room j X.A) (hk : k ≤ j) (he : PE X o ta)
    (ht : eval (.Call (.Attribute o m apos) [] [] pos) X.env = (do
      let ov ← eval o X.env
      standAt apos.atName
      let (f, first) ← holding [ov] (getMethod ov m pl)
      callWith pos f first (backTo pos (starEach [] X.env)) (backToKw pos (keywordEach [] X.env))) := by rfl) :
    PE X (.Call (.Attribute o m apos) [] [] pos) (tMeth C m sp [] E0 ta tNil) := by
  obtain ⟨f, fd, ps, F, M, b⟩ := c.ex
  exact pe_meth0 he c.cls M F (hr.mono hk) b .nil pass0 ht
theorem call_lenM (c : ClM X.prog X.w X.K X.mg X.base k C "__len__" sp) (hr : Room j X.A) (hk : k + 1 ≤ j) : CallR X (.builtin "len") (rLenO C sp) := by
  obtain ⟨f, fd, ps, F, M, b⟩ := c.ex
  exact call_lenO M F (hr.mono hk) b
end
/-! ### webs -/
theorem refs_all : ∀ {ys : List V}, (∀ (i : Nat) (y : V), ys[i]? = some y → ∃ p, y = .ref p) → ∃ ps : List Addr, ys = ps.map V.ref
  | [], _ => ⟨[], rfl⟩
  | y :: ys, h => by
    obtain ⟨ps, rfl⟩ := refs_all (ys := ys) fun i z e => h (i + 1) z e
    obtain ⟨p, rfl⟩ := h 0 y rfl
    exact ⟨p :: ps, rfl⟩
structure WebAt (C : Addr) (H : Hp) (wa : Addr) (s : Nat) (M : Nat → Nat → Int) : Prop where
  s1 : 1 ≤ s
  s12 : s ≤ 12
  ex : ∃ (dx r : Addr) (rs : List Addr), H wa = some (.ins C dx [("_rows", .ref r)]) ∧ H r = some (.tup (rs.map V.ref)) ∧ rs.length = s ∧ ∀ i a, rs[i]? = some a → H a = some (.tup (rowV M s i))
theorem WebAt.mono {C : Addr} {H H' : Hp} {wa : Addr} {s : Nat} {M : Nat → Nat → Int} (e : Same H H') (h : WebAt C H wa s M) : WebAt C H' wa s M := by
  obtain ⟨h1, h2, dx, r, rs, a, b, c, d⟩ := h
  exact ⟨h1, h2, dx, r, rs, e _ _ a, e _ _ b, c, fun i x q => e _ _ (d i x q)⟩
/-- the class as the module has it -/
structure Wb (K : PySem.W.Frag) (mg : Str → Option Value) (C : Addr) : Prop where
  cls : Cls K C
  noat : NoAttr K C "_rows"
  at_ : mg "Web" = some (.ref C)
section
variable {P : Program} {w : World} {K : PySem.W.Frag} {mg : Str → Option Value} {base : Heap}
def spLen (C : Addr) : Sp := fun vs H Q _ => ∃ (x : Addr) (s : Nat) (M : Nat → Nat → Int), vs = [.ref x] ∧ WebAt C H x s M ∧ Q (.int s) H
theorem sc_Web___len__ : FnScope ["self"] ["self"] (defScope s_Web___len__) := ⟨rfl, rfl, rfl, by decide +kernel, rfl, by decide +kernel, by decide +kernel⟩
theorem ok_len {C : Addr} (D : DnM K C "__len__" "Web.__len__" s_Web___len__ ["self"]) (B : Bt mg) (W : Wb K mg C) : ClM P w K mg base 1 C "__len__" (spLen C) := by
  refine clm_of D W.cls sc_Web___len__ (fun vs H Q E h => ?_) (fun cdv f A outer s H vs Q E hr h => ?_)
  · obtain ⟨x, s, M, rfl, _⟩ := h
    rfl
  · obtain ⟨x, s, M, rfl, hW, q⟩ := h
    obtain ⟨_, _, dx, r, rs, h1, h2, h3, h4⟩ := hW
    have nd := sc_Web___len__.nd
    refine ⟨_, (pss_one (ps_ret (pe_callB call_lenK (by rfl) B.len PySem.boot_len (pa_cons (pe_fldK (pv 0) rfl) pa_nil)))), ?_⟩
    refine ⟨.ref x, rfl, x, C, dx, _, .ref r, rfl, h1, W.cls, W.noat, rfl, r, _, rfl, .inr (SqT.of h2), ?_⟩
    rw [List.length_map, h3]
    exact q
def spInit (K : PySem.W.Frag) (C : Addr) : Sp := fun vs H Q _ => ∃ (x dx : Addr) (s : Nat) (v : V) (ts : List Tie), vs = [.ref x, .int (s : Int), v] ∧ H x = some (.ins C dx []) ∧ Is K H v ts ∧ TiesOk 9 s ts ∧ ts.length ≤ 63 ∧ 1 ≤ s ∧ s ≤ 12 ∧
  ∀ H', (∀ b o, b ≠ x → H b = some o → H' b = some o) → WebAt C H' x s (matOf ts) → Q .non H'
theorem sc_Web___init__ : FnScope ["self", "size", "ties", "rows", "one", "other", "there", "back", "_", "row"] ["self", "size", "ties"] (defScope s_Web___init__) := ⟨rfl, rfl, rfl, by decide +kernel, rfl, by decide +kernel, by decide +kernel⟩
theorem ok_init {C : Addr} (D : DnI K C "Web.__init__" s_Web___init__ ["self", "size", "ties"]) (B : Bt mg) (W : Wb K mg C) (c_need_size : Cl P w K mg base 3 "need_size" spNeedSize) (c_need_ties : Cl P w K mg base 3 "need_ties" (spNeedTies K)) : ClI P w K mg base 4 C "Web" (spInit K C) := by
  refine cli_of D W.at_ sc_Web___init__ (fun vs H Q E h => ?_) (fun cdv f A outer s H vs Q E hr h => ?_)
  · obtain ⟨x, dx, s, v, ts, rfl, _⟩ := h
    rfl
  · obtain ⟨x, dx, s, v, ts, rfl, hx, hv, ok, hn, hs1, hs12, q⟩ := h
    have nd := sc_Web___init__.nd
    refine ⟨_, (pss_cons (ps_expr (pe_c c_need_size hr (by decide) (by rfl) (pa_cons (pv 1) pa_nil)))
    (pss_cons (ps_expr (pe_c c_need_ties hr (by decide) (by rfl) (pa_cons (pv 1) (pa_cons (pv 2) pa_nil))))
    (pss_cons (ps_setLc (i := 3) (own := [("_", 8)]) rfl nd rfl rfl (sw_true rfl rfl rfl (by decide +kernel)) (pi_range1 (by rfl) B.range (pa_cons (pv 1) pa_nil)) (blkOk_by (N := ["self", "size", "ties", "rows", "one", "other", "there", "back", "_", "row"]) (sc := defScope s_Web___init__) (by decide +kernel)) (fun _ _ _ _ _ => (pg_name (i := 8) nd rfl (.inl rfl))) (fun _ _ _ _ _ => pts_nil) (fun _ _ _ _ _ => (pe_op op_rep (pe_lst (pa_cons pe_int pa_nil)) (pv 1))))
    (pss_cons (ps_for PassesOwn.never rfl (pi_listK (pv 2)) (pg_tupK (n := 4) (by rfl) (pgs_cons (pg_name (i := 4) nd rfl (.inl rfl)) (pgs_cons (pg_name (i := 5) nd rfl (.inl rfl)) (pgs_cons (pg_name (i := 6) nd rfl (.inl rfl)) (pgs_cons (pg_name (i := 7) nd rfl (.inl rfl)) pgs_nil)))))
    (pss_cons (ps_asg (pv 6) (pg_sub (pe_ix ix_listK (pv 3) (pv 4) (fun _ _ => rfl)) (pv 5) set_list))
    (pss_one (ps_asg (pv 7) (pg_sub (pe_ix ix_listK (pv 3) (pv 5) (fun _ _ => rfl)) (pv 4) set_list)))))
    (pss_one (ps_fld (pv 0) (pe_callTy call_tupK (by rfl) B.tuple (by decide +kernel) (pa_cons (pe_lc (own := [("row", 9)]) rfl nd (pi_listK (pv 3)) (blkOk_by (N := ["self", "size", "ties", "rows", "one", "other", "there", "back", "_", "row"]) (sc := defScope s_Web___init__) (by decide +kernel)) (fun _ _ _ _ _ => (pg_name (i := 9) nd rfl (.inl rfl))) (fun _ _ _ _ _ => pts_nil) (fun _ _ _ _ _ => (pe_callTy call_tupK (by rfl) B.tuple (by decide +kernel) (pa_cons (pv 9) pa_nil)))) pa_nil)) rfl)))))), ?_⟩
    obtain ⟨a, vs, rfl, hS, hA⟩ := is_list hv
    have hlen := all_len hA
    refine ⟨.int s, rfl, s, rfl, by omega, by omega, ?_⟩
    refine ⟨.int s, rfl, .ref a, rfl, s, .ref a, ts, rfl, hv, ok, hn, fun H1 sm1 => ?_⟩
    have hS1 := Ex.l (Ex.of sm1) hS
    have hA1 := DpAll.ex (Ex.of sm1) hA
    refine ⟨.int s, rfl, s, rfl, by omega, by omega, fun D1 hD1 => ?_⟩
    refine lc_range (lo := 0) (n := s) (fun i H' => ∃ rs, Rows H1 H' D1 rs (rowV (fun _ _ => 0) s) ∧ rs.length = i) ⟨[], Rows.start hD1, rfl⟩ ?_ ?_
    · rintro i H2 hi ⟨rs, A, hl⟩
      refine ⟨rfl, yes_of ?_⟩
      refine ⟨by show 1 ≤ sizeLine; decide, fun t ht => ?_⟩
      have k3 : (upd H2 t (.lst [.int 0])) t = some (.lst [.int 0]) := upd_same
      have s3 : Same H2 (upd H2 t (.lst [.int 0])) := same_new ht
      generalize upd H2 t (.lst [.int 0]) = H3 at k3 s3 ⊢
      refine ⟨.int s, rfl, t, s, [.int 0], rfl, rfl, k3, by omega, by omega, ?_, fun p hp => ?_⟩
      · show 1 * (s : Int).toNat ≤ sizeLine
        exact Nat.le_trans (by omega : 1 * (s : Int).toNat ≤ 12) (by decide)
      · have A3 := A.same s3
        rw [Int.toNat_natCast]
        refine ⟨rs.map V.ref, ?_, ?_, rs ++ [p], A3.snoc hp rowV_zero, by rw [List.length_append, hl]; rfl⟩
        · rw [upd_ne (fun e => by rw [← e, A3.at_] at hp; cases hp)]
          exact A3.at_
        · rw [List.length_map, hl]
          exact Nat.lt_of_lt_of_le hi (Nat.le_trans hs12 (by decide))
    · rintro H2 ⟨rs, A, hl⟩
      refine ⟨.ref a, rfl, a, rfl, ⟨_, Ex.l (Ex.of A.ol) hS1⟩, for_list (K := K) (a := a) (xs := vs) (fun i σ H' => ∃ (M : Nat → Nat → Int) (u4 u5 u6 u7 u8 u9 : Option V), σ = [some (.ref x), some (.int s), some (.ref a), some (.ref D1), u4, u5, u6, u7, u8, u9] ∧ Rows H1 H' D1 rs (rowV M s) ∧ M = (ts.take i).foldl tieM fun _ _ => 0)
        ⟨fun _ _ => 0, _, _, _, _, _, _, rfl, A, rfl⟩ ?_ ?_ ?_⟩
      · rintro i σ H' _ ⟨M, u4, u5, u6, u7, u8, u9, rfl, A', _⟩
        exact Ex.l (Ex.of A'.ol) hS1
      · rintro i y σ H' hy ⟨M, u4, u5, u6, u7, u8, u9, rfl, A', hM⟩
        obtain ⟨t, ht, hyt⟩ := all_get hA1 hy
        obtain ⟨c, rfl, hc⟩ := t4_is (Dp.ex (Ex.of A'.ol) hyt)
        have okt := ok.all t (List.mem_of_getElem? ht)
        have ht' : (ts.take (i + 1)) = ts.take i ++ [t] := by
          rw [List.take_add_one, ht]
          rfl
        obtain ⟨na, hna⟩ := Int.eq_ofNat_of_zero_le okt.a0
        obtain ⟨nb, hnb⟩ := Int.eq_ofNat_of_zero_le (Int.le_of_lt (Int.lt_of_le_of_lt okt.a0 okt.ab))
        have hbs : nb < s := by
          have := okt.bs
          omega
        have hab : na < nb := by
          have := okt.ab
          omega
        have ga : rs[na]? = some (rs[na]'(by omega)) := List.getElem?_eq_getElem _
        have gb : rs[nb]? = some (rs[nb]'(by omega)) := List.getElem?_eq_getElem _
        have B1 := A'.set (R' := rowV (setM M na nb t.c) s) ga rowV_set.symm (fun k hk => rowV_other hk)
        have B2 := B1.set (R' := rowV (setM (setM M na nb t.c) nb na t.d) s) gb rowV_set.symm (fun k hk => rowV_other hk)
        have e1 : ∀ (n : Nat) (u : Addr), rs[n]? = some u → atI (rs.map V.ref) (n : Int) = some (.ref u) := fun n u h => atI_nat (by rw [List.getElem?_map, h]; rfl)
        refine ⟨c, _, rfl, hc, rfl, _, _, rfl, _, _, rfl, _, _, rfl, _, _, rfl, rfl, ?_⟩
        rw [hna, hnb]
        refine ⟨.int t.c, rfl, .ref D1, rfl, .int (na : Int), rfl, D1, _, (na : Int), _, rfl, rfl, SqL.of A'.at_, e1 _ _ ga, .int (nb : Int), rfl, _, _, (nb : Int), nb, rfl, rfl, A'.it _ _ ga, by rw [rowV_len]; exact ixN_nat hbs, ?_⟩
        refine ⟨.int t.d, rfl, .ref D1, rfl, .int (nb : Int), rfl, D1, _, (nb : Int), _, rfl, rfl, SqL.of B1.at_, e1 _ _ gb, .int (na : Int), rfl, _, _, (na : Int), na, rfl, rfl, B1.it _ _ gb, by rw [rowV_len]; exact ixN_nat (by omega), ?_⟩
        refine ⟨setM (setM M na nb t.c) nb na t.d, _, _, _, _, _, _, rfl, B2, ?_⟩
        rw [ht', List.foldl_append, ← hM]
        show _ = setM (setM M t.a.toNat t.b.toNat t.c) t.b.toNat t.a.toNat t.d
        rw [hna, hnb, Int.toNat_natCast, Int.toNat_natCast]
      · rintro σ H3 ⟨M, u4, u5, u6, u7, u8, u9, rfl, A3, hM⟩
        have hM' : M = matOf ts := by
          rw [hM, hlen, List.take_length]
          rfl
        subst hM'
        refine ⟨.ref D1, rfl, D1, rfl, ⟨_, SqL.of A3.at_⟩, fun D2 hD2 => ?_⟩
        refine lc_listG (k := 0) (fun i y Hx => ∃ p, y = .ref p ∧ Hx p = some (.tup (rowV (matOf ts) s i))) (fun i y Ha Hb e h => ?_) rel_same hD2 id (SqL.of A3.at_) (by rw [List.length_map]; omega) ?_ ?_ ?_
        · obtain ⟨p, rfl, h⟩ := h
          exact ⟨p, rfl, e _ _ h trivial⟩
        · intro i y H' hy sm hDs
          rw [List.getElem?_map] at hy
          obtain ⟨p, hp, rfl⟩ : ∃ p, rs[i]? = some p ∧ V.ref p = y := by
            cases e : rs[i]? with
            | none =>
              rw [e] at hy
              cases hy
            | some p =>
              rw [e] at hy
              exact ⟨p, rfl, Option.some.inj hy⟩
          refine ⟨rfl, rfl, fun Q' q' => ⟨.ref p, rfl, p, _, rfl, .inl ⟨SqL.of (sm _ _ (A3.it i p hp)), fun z hz => q' _ _ (same_new hz) ⟨z, rfl, ?_⟩⟩⟩⟩
          obtain ⟨u, hu⟩ := hDs
          rw [del_ne (fun e => by rw [e, hu] at hz; cases hz)]
          exact upd_same
        · exact fun x σ H A B h hA => h _ _ hA
        · intro ys H4 hy hyl hz sm4 _
          obtain ⟨ps, rfl⟩ : ∃ ps : List Addr, ys = ps.map V.ref := refs_all fun i y e => let ⟨p, h, _⟩ := hz i y e; ⟨p, h⟩
          rw [List.length_map, List.length_map] at hyl
          refine ⟨D2, _, rfl, .inl ⟨SqL.of hy, fun T hT => ?_⟩⟩
          have k5 : (upd H4 T (.tup (ps.map V.ref))) T = some (.tup (ps.map V.ref)) := upd_same
          have s5 : Same H4 (upd H4 T (.tup (ps.map V.ref))) := same_new hT
          generalize upd H4 T (.tup (ps.map V.ref)) = H5 at k5 s5 ⊢
          have hx5 : H5 x = some (.ins C dx []) := s5 _ _ (sm4 _ _ (A3.ol _ _ (sm1 _ _ hx)))
          refine ⟨.ref x, rfl, x, C, dx, [], rfl, hx5, W.cls, W.noat, by show 0 < 1000; decide, ?_⟩
          have nTx : T ≠ x := fun e => by
            rw [e] at hT
            rw [sm4 _ _ (A3.ol _ _ (sm1 _ _ hx))] at hT
            cases hT
          refine q _ (fun b o nb e => ?_) ⟨hs1, hs12, dx, T, ps, upd_same, ?_, by omega, fun i p hp => ?_⟩
          · rw [upd_ne nb]
            exact s5 _ _ (sm4 _ _ (A3.ol _ _ (sm1 _ _ e)))
          · rw [upd_ne nTx]
            exact k5
          · obtain ⟨p', e, hp'⟩ := hz i (.ref p) (by rw [List.getElem?_map, hp]; rfl)
            cases e
            rw [upd_ne (fun e => by rw [e] at hp'; rw [sm4 _ _ (A3.ol _ _ (sm1 _ _ hx))] at hp'; cases hp')]
            exact s5 _ _ hp'
end
end Gb
set_option maxRecDepth 100000
set_option maxHeartbeats 4000000
namespace Gb
open PySem PySem.Spec PyProof.Rows L2
open PySem.W (Datum Tup T4)
theorem rngB {lo : Int} {n : Nat} {Body : V → Hp → (Hp → Prop) → Prop} {Qd : Hp → Prop} {H0 : Hp} (Pv : Nat → Hp → Prop) (h0 : Pv 0 H0) (hs : ∀ i H, i < n → Pv i H → Body (.int (lo + (i : Int))) H (Pv (i + 1))) (hd : ∀ H, Pv n H → Qd H) :
    ∃ W : Nat → Nat → Hp → Prop, (∃ m, W 0 m H0) ∧ ∀ i m H, W i m H →
      ((Itr lo n).stop i H ∧ Qd H) ∨ ((Itr lo n).go i H ∧ ∃ Nx : Hp → Prop, (∀ H', Nx H' → ∃ m', m' < m ∧ W (i + 1) m' H') ∧ ∀ x H', (Itr lo n).yld i H x H' → Body x H' Nx) := by
  refine ⟨fun i m H => m = n - i ∧ i ≤ n ∧ Pv i H, ⟨n, by simp, Nat.zero_le _, h0⟩, ?_⟩
  rintro i m H ⟨rfl, hi, p⟩
  by_cases hlt : i < n
  · refine .inr ⟨hlt, Pv (i + 1), fun H' p' => ⟨n - (i + 1), by omega, rfl, hlt, p'⟩, fun x H' y => ?_⟩
    obtain ⟨e, y⟩ := y
    subst e y
    exact hs i _ hlt p
  · have e : i = n := by omega
    subst e
    exact .inl ⟨Nat.le_refl _, hd H p⟩
/-- a list of things of its own -/
structure Acc (H0 H : Hp) (D : Addr) (cs : List HO) : Prop where
  fD : H0 D = none
  ex : ∃ ads : List Addr, H D = some (.lst (ads.map V.ref)) ∧ ads.length = cs.length ∧ (∀ a ∈ ads, H0 a = none ∧ a ≠ D) ∧ ∀ (k : Nat) (a : Addr) (o : HO), ads[k]? = some a → cs[k]? = some o → H a = some o
  ol : Same H0 H
section
variable {H0 H H' : Hp} {D : Addr} {cs : List HO}
theorem Acc.start (h : H0 D = none) : Acc H0 (upd H0 D (.lst [])) D [] := ⟨h, ⟨[], upd_same, rfl, (fun a h => by cases h), (fun k a o h => by cases h)⟩, same_new h⟩
theorem Acc.same (A : Acc H0 H D cs) (e : Same H H') : Acc H0 H' D cs := by
  obtain ⟨h1, ⟨ads, a, b, c, d⟩, h2⟩ := A
  exact ⟨h1, ⟨ads, e _ _ a, b, c, fun k x o p q => e _ _ (d k x o p q)⟩, h2.trans e⟩
theorem Acc.snoc (A : Acc H0 H D cs) {t : Addr} {o : HO} (ht : H t = none) : ∃ acc, upd H t o D = some (.lst acc) ∧ acc.length = cs.length ∧ Acc H0 (upd (upd H t o) D (.lst (acc ++ [.ref t]))) D (cs ++ [o]) := by
  obtain ⟨h1, ⟨ads, a, b, c, d⟩, h2⟩ := A
  have ntD : D ≠ t := fun e => by
    rw [← e, a] at ht
    cases ht
  have ht0 : H0 t = none := h2.free ht
  refine ⟨ads.map V.ref, by rw [upd_ne ntD]; exact a, by rw [List.length_map, b], h1, ⟨ads ++ [t], ?_, ?_, ?_, ?_⟩, ?_⟩
  · rw [upd_same, List.map_append]
    rfl
  · rw [List.length_append, List.length_append, b]
    rfl
  · intro x hx
    rcases List.mem_append.mp hx with hx | hx
    · exact c x hx
    · rw [List.mem_singleton.mp hx]
      exact ⟨ht0, Ne.symm ntD⟩
  · intro k x u hk hu
    by_cases hlt : k < ads.length
    · rw [List.getElem?_append_left hlt] at hk
      rw [List.getElem?_append_left (by omega)] at hu
      have e := d k x u hk hu
      have n1 : x ≠ t := fun z => by
        rw [z, ht] at e
        cases e
      rw [upd_ne (c x (List.mem_of_getElem? hk)).2, upd_ne n1]
      exact e
    · rw [List.getElem?_append_right (by omega)] at hk hu
      have h0 : k - ads.length = 0 := by
        cases e : k - ads.length with
        | zero => rfl
        | succ n =>
          rw [e] at hk
          cases hk
      rw [h0] at hk
      rw [show k - cs.length = 0 by omega] at hu
      have e1 : t = x := Option.some.inj hk
      have e2 : o = u := Option.some.inj hu
      rw [← e1, ← e2, upd_ne (Ne.symm ntD), upd_same]
  · intro x u e
    have n1 : x ≠ D := fun z => by
      rw [z, h1] at e
      cases e
    have n2 : x ≠ t := fun z => by
      rw [z, ht0] at e
      cases e
    rw [upd_ne n1, upd_ne n2]
    exact h2 _ _ e
end
theorem vltf {a b : Int} (h : ¬ a < b) : V.bl (decide (a < b)) = V.bl false := by rw [decide_eq_false h]
def pairHO (p : Nat × Nat) : HO := .tup [.int p.1, .int p.2]
def tieHO (t : Tie) : HO := .tup [.int t.a, .int t.b, .int t.c, .int t.d]
section
variable {P : Program} {w : World} {K : PySem.W.Frag} {mg : Str → Option Value} {base : Heap}
def pairsOf (s : Nat) : List (Nat × Nat) := (List.range s).flatMap fun i => (List.range (s - (i + 1))).map fun d => (i, i + 1 + d)
def tieAt (M : Nat → Nat → Int) (p : Nat × Nat) : Option Tie := if M p.1 p.2 > 0 then some ⟨p.1, p.2, M p.1 p.2, M p.2 p.1⟩ else none
def tiesOf (M : Nat → Nat → Int) (s : Nat) : List Tie := (pairsOf s).filterMap (tieAt M)
def preP (s i : Nat) : List (Nat × Nat) := (List.range i).flatMap fun i => (List.range (s - (i + 1))).map fun d => (i, i + 1 + d)
theorem preP_succ {s i : Nat} : preP s (i + 1) = preP s i ++ (List.range (s - (i + 1))).map fun d => (i, i + 1 + d) := by
  unfold preP
  rw [List.range_succ, List.flatMap_append]
  simp
theorem mem_pairs {s : Nat} {p : Nat × Nat} (h : p ∈ pairsOf s) : p.1 < p.2 ∧ p.2 < s := by
  unfold pairsOf at h
  obtain ⟨i, hi, h⟩ := List.mem_flatMap.mp h
  obtain ⟨d, hd, rfl⟩ := List.mem_map.mp h
  have h1 := List.mem_range.mp hi
  have h2 := List.mem_range.mp hd
  exact ⟨by show i < i + 1 + d; omega, by show i + 1 + d < s; omega⟩
theorem preP_len {s : Nat} : ∀ i, (preP s i).length ≤ s * i
  | 0 => Nat.zero_le _
  | i + 1 => by
    have := preP_len (s := s) i
    rw [preP_succ, List.length_append, List.length_map, List.length_range, Nat.mul_succ]
    omega
theorem tieAt_ok {M : Nat → Nat → Int} {p : Nat × Nat} {t : Tie} (h : tieAt M p = some t) : t = ⟨p.1, p.2, M p.1 p.2, M p.2 p.1⟩ := by
  unfold tieAt at h
  split at h
  · exact (Option.some.inj h).symm
  · cases h
theorem ls_acc {K : PySem.W.Frag} {H H' : Hp} {D : Addr} {ts : List Tie} (A : Acc H H' D (ts.map tieHO)) : Ls K (nw H H') (.ref D) ts := by
  obtain ⟨h1, ⟨ads, a, b, c, d⟩, h2⟩ := A
  refine ⟨D, ads.map V.ref, rfl, by rw [nw_none h1]; exact a, all_of (by rw [List.length_map, b, List.length_map]) fun i y t hy ht => ?_⟩
  rw [List.getElem?_map] at hy
  cases e : ads[i]? with
  | none =>
    rw [e] at hy
    cases hy
  | some x =>
    rw [e] at hy
    have ey : V.ref x = y := Option.some.inj hy
    rw [← ey]
    exact is_t4 (by rw [nw_none (c x (List.mem_of_getElem? e)).1]; exact d i x (tieHO t) e (by rw [List.getElem?_map, ht]; rfl))
def spTies (K : PySem.W.Frag) (C : Addr) : Sp := fun vs H Q _ => ∃ (x : Addr) (s : Nat) (M : Nat → Nat → Int), vs = [.ref x] ∧ WebAt C H x s M ∧ ∀ r H', Same H H' → Ls K (nw H H') r (tiesOf M s) → Q r H'
theorem sc_Web_ties : FnScope ["self", "rows", "size", "pairs", "one", "other"] ["self"] (defScope s_Web_ties) := ⟨rfl, rfl, rfl, by decide +kernel, rfl, by decide +kernel, by decide +kernel⟩
theorem ok_ties {C : Addr} (D : DnM K C "ties" "Web.ties" s_Web_ties ["self"]) (B : Bt mg) (W : Wb K mg C) : ClM P w K mg base 1 C "ties" (spTies K C) := by
  refine clm_of D W.cls sc_Web_ties (fun vs H Q E h => ?_) (fun cdv f A outer s H vs Q E hr h => ?_)
  · obtain ⟨x, s, M, rfl, _⟩ := h
    rfl
  · obtain ⟨x, s, M, rfl, hW, q⟩ := h
    obtain ⟨hs1, hs12, dx, r, rs, h1, h2, h3, h4⟩ := hW
    have nd := sc_Web_ties.nd
    refine ⟨_, (pss_cons (ps_set (i := 1) nd rfl (.inr rfl) (pe_fldK (pv 0) rfl))
    (pss_cons (ps_set (i := 2) nd rfl (.inr rfl) (pe_callB call_lenK (by rfl) B.len PySem.boot_len (pa_cons (pv 1) pa_nil)))
    (pss_cons (ps_setLc2 (i := 3) (own := [("one", 4), ("other", 5)]) (vs1 := [5]) rfl nd rfl rfl (sw_true rfl rfl rfl (by decide +kernel)) (pi_range1 (by rfl) B.range (pa_cons (pv 2) pa_nil)) (blkOk_by (N := ["self", "rows", "size", "pairs", "one", "other"]) (sc := defScope s_Web_ties) (by decide +kernel)) (by decide) (fun _ _ _ _ _ => (pg_name (i := 4) nd rfl (.inl rfl))) (fun _ _ _ _ _ => pts_nil) (fun _ _ _ _ _ => (pi_range2 (by rfl) B.range (pa_cons (pe_op op_add (pv 4) pe_int) (pa_cons (pv 2) pa_nil)))) (fun _ _ _ _ _ => (pg_name (i := 5) nd rfl (.inl rfl))) (fun _ _ _ _ _ => pts_nil) (fun _ _ _ _ _ => (pe_tup (pa_cons (pv 4) (pa_cons (pv 5) pa_nil)))))
    (pss_one (ps_ret (pe_lc (own := [("one", 4), ("other", 5)]) rfl nd (pi_listK (pv 3)) (blkOk_by (N := ["self", "rows", "size", "pairs", "one", "other"]) (sc := defScope s_Web_ties) (by decide +kernel)) (fun _ _ _ _ _ => (pg_tupK (n := 2) (by rfl) (pgs_cons (pg_name (i := 4) nd rfl (.inl rfl)) (pgs_cons (pg_name (i := 5) nd rfl (.inl rfl)) pgs_nil)))) (fun _ _ _ _ _ => (pts_one (pt_cmpR op_gt (pe_ix ix_tupK (pe_ix ix_tupK (pv 1) (pv 4) (fun _ _ => rfl)) (pv 5) (fun _ _ => rfl)) pe_int (nomark _)))) (fun _ _ _ _ _ => (pe_tup (pa_cons (pv 4) (pa_cons (pv 5) (pa_cons (pe_ix ix_tupK (pe_ix ix_tupK (pv 1) (pv 4) (fun _ _ => rfl)) (pv 5) (fun _ _ => rfl)) (pa_cons (pe_ix ix_tupK (pe_ix ix_tupK (pv 1) (pv 5) (fun _ _ => rfl)) (pv 4) (fun _ _ => rfl)) pa_nil)))))))))))), ?_⟩
    refine ⟨.ref x, rfl, x, C, dx, _, .ref r, rfl, h1, W.cls, W.noat, rfl, ?_⟩
    refine ⟨.ref r, rfl, r, _, rfl, .inr (SqT.of h2), ?_⟩
    rw [List.length_map, h3]
    refine ⟨.int s, rfl, s, rfl, by omega, by omega, fun D hD => ?_⟩
    refine rngB (lo := 0) (n := s) (fun i H' => Acc H H' D ((preP s i).map pairHO)) (Acc.start hD) ?_ ?_
    · intro i H1 hi A1
      refine ⟨rfl, yes_of ?_⟩
      refine ⟨.int (0 + (i : Int)), rfl, 0 + (i : Int), 1, rfl, rfl, .int s, rfl, 0 + (i : Int) + 1, s, rfl, ⟨by omega, by omega, by omega, by omega⟩, ?_⟩
      have en : ((s : Int) - (0 + (i : Int) + 1)).toNat = s - (i + 1) := by omega
      rw [en]
      refine rngB (lo := 0 + (i : Int) + 1) (n := s - (i + 1)) (fun j H' => Acc H H' D ((preP s i ++ (List.range j).map fun d => (i, i + 1 + d)).map pairHO)) (by rw [List.range_zero, List.map_nil, List.append_nil]; exact A1) ?_ ?_
      · intro j H2 hj A2
        refine ⟨rfl, yes_of ?_⟩
        refine ⟨.int (0 + (i : Int)), rfl, .int (0 + (i : Int) + 1 + (j : Int)), rfl, by show 2 ≤ sizeLine; decide, fun t ht => ?_⟩
        obtain ⟨acc, e1, e2, A3⟩ := A2.snoc (o := .tup [.int (0 + (i : Int)), .int (0 + (i : Int) + 1 + (j : Int))]) ht
        refine ⟨acc, e1, ?_, ?_⟩
        · rw [e2, List.length_map, List.length_append, List.length_map, List.length_range]
          have q1 := preP_len (s := s) i
          have q2 : s * i ≤ 12 * 12 := Nat.mul_le_mul hs12 (by omega)
          exact Nat.lt_of_le_of_lt (by omega : _ ≤ 1000) (by decide)
        · have e3 : (HO.tup [.int (0 + (i : Int)), .int (0 + (i : Int) + 1 + (j : Int))]) = pairHO (i, i + 1 + j) := by
            show _ = HO.tup [.int ((i : Nat) : Int), .int (((i + 1 + j : Nat)) : Int)]
            rw [Int.zero_add]
            rfl
          have e4 : (preP s i ++ (List.range (j + 1)).map fun d => (i, i + 1 + d)).map pairHO = (preP s i ++ (List.range j).map fun d => (i, i + 1 + d)).map pairHO ++ [pairHO (i, i + 1 + j)] := by
            simp only [List.range_succ, List.map_append, List.map_cons, List.map_nil, List.append_assoc]
          show Acc H _ D ((preP s i ++ (List.range (j + 1)).map fun d => (i, i + 1 + d)).map pairHO)
          rw [e4, ← e3]
          exact A3
      · intro H2 A2
        rw [preP_succ]
        exact A2
    · intro H1 A1
      have hps : preP s s = pairsOf s := rfl
      rw [hps] at A1
      obtain ⟨fD, ⟨ads, a1, b1, c1, d1⟩, ol1⟩ := A1
      rw [List.length_map] at b1
      refine ⟨.ref D, rfl, D, rfl, ⟨_, SqL.of a1⟩, fun D2 hD2 => ?_⟩
      refine lc_list (K := K) (a := D) (xs := ads.map V.ref) (fun i H' => Acc H1 H' D2 ((((pairsOf s).take i).filterMap (tieAt M)).map tieHO)) (Acc.start hD2) (fun i H' _ A => SqL.of (A.ol _ _ a1)) ?_ ?_
      · intro i y H' hy A
        rw [List.getElem?_map] at hy
        cases e : ads[i]? with
        | none =>
          rw [e] at hy
          cases hy
        | some c =>
          rw [e] at hy
          have ey : V.ref c = y := Option.some.inj hy
          subst ey
          have hil := (List.getElem?_eq_some_iff.mp e).1
          have hp : (pairsOf s)[i]? = some ((pairsOf s)[i]'(by omega)) := List.getElem?_eq_getElem _
          generalize (pairsOf s)[i]'(by omega) = pr at hp
          obtain ⟨hp1, hp2⟩ := mem_pairs (List.mem_of_getElem? hp)
          have hc : H' c = some (.tup [.int pr.1, .int pr.2]) := A.ol _ _ (d1 i c (pairHO pr) e (by rw [List.getElem?_map, hp]; rfl))
          have ht' : ((pairsOf s).take (i + 1)) = (pairsOf s).take i ++ [pr] := by
            rw [List.take_add_one, hp]
            rfl
          have sH : Same H H' := ol1.trans A.ol
          have g1 : rs[pr.1]? = some (rs[pr.1]'(by omega)) := List.getElem?_eq_getElem _
          have g2 : rs[pr.2]? = some (rs[pr.2]'(by omega)) := List.getElem?_eq_getElem _
          have e1 : ∀ (n : Nat) (u : Addr), rs[n]? = some u → atI (rs.map V.ref) (n : Int) = some (.ref u) := fun n u h => atI_nat (by rw [List.getElem?_map, h]; rfl)
          refine ⟨c, _, rfl, SqT.of hc, rfl, _, _, rfl, _, _, rfl, rfl, rfl, ?_⟩
          by_cases hM : 0 < M pr.1 pr.2
          · have et : tieAt M pr = some ⟨pr.1, pr.2, M pr.1 pr.2, M pr.2 pr.1⟩ := by
              unfold tieAt
              rw [if_pos hM]
            refine ⟨.ref r, rfl, .int pr.1, rfl, r, _, pr.1, _, rfl, rfl, SqT.of (sH _ _ h2), e1 _ _ g1, .int pr.2, rfl, _, _, pr.2, _, rfl, rfl, SqT.of (sH _ _ (h4 _ _ g1)), atI_nat (rowV_get hp2), M pr.1 pr.2, 0, rfl, rfl, true, vlt hM, ?_⟩
            refine ⟨.int pr.1, rfl, .int pr.2, rfl, .ref r, rfl, .int pr.1, rfl, r, _, pr.1, _, rfl, rfl, SqT.of (sH _ _ h2), e1 _ _ g1, .int pr.2, rfl, _, _, pr.2, _, rfl, rfl, SqT.of (sH _ _ (h4 _ _ g1)), atI_nat (rowV_get hp2),
              .ref r, rfl, .int pr.2, rfl, r, _, pr.2, _, rfl, rfl, SqT.of (sH _ _ h2), e1 _ _ g2, .int pr.1, rfl, _, _, pr.1, _, rfl, rfl, SqT.of (sH _ _ (h4 _ _ g2)), atI_nat (rowV_get (by omega)), by show 4 ≤ sizeLine; decide, fun t ht => ?_⟩
            obtain ⟨acc, q1, q2, A3⟩ := A.snoc (o := tieHO ⟨pr.1, pr.2, M pr.1 pr.2, M pr.2 pr.1⟩) ht
            refine ⟨acc, q1, ?_, ?_⟩
            · have z1 : ((pairsOf s).take i).length ≤ i := by
                rw [List.length_take]
                omega
              have z2 := List.length_filterMap_le (tieAt M) ((pairsOf s).take i)
              have z3 : (pairsOf s).length ≤ s * s := preP_len s
              have z4 : s * s ≤ 12 * 12 := Nat.mul_le_mul hs12 hs12
              rw [q2, List.length_map]
              exact Nat.lt_of_le_of_lt (by omega : _ ≤ 1000) (by decide)
            · show Acc H1 _ D2 ((((pairsOf s).take (i + 1)).filterMap (tieAt M)).map tieHO)
              rw [ht', List.filterMap_append, List.map_append]
              have z : [pr].filterMap (tieAt M) = [⟨pr.1, pr.2, M pr.1 pr.2, M pr.2 pr.1⟩] := by
                rw [List.filterMap_cons, et]
                rfl
              rw [z]
              exact A3
          · have et : tieAt M pr = none := by
              unfold tieAt
              rw [if_neg hM]
            refine ⟨.ref r, rfl, .int pr.1, rfl, r, _, pr.1, _, rfl, rfl, SqT.of (sH _ _ h2), e1 _ _ g1, .int pr.2, rfl, _, _, pr.2, _, rfl, rfl, SqT.of (sH _ _ (h4 _ _ g1)), atI_nat (rowV_get hp2), M pr.1 pr.2, 0, rfl, rfl, false, vltf hM, ?_⟩
            show Acc H1 H' D2 ((((pairsOf s).take (i + 1)).filterMap (tieAt M)).map tieHO)
            rw [ht', List.filterMap_append]
            have z : [pr].filterMap (tieAt M) = [] := by
              rw [List.filterMap_cons, et]
              rfl
            rw [z, List.append_nil]
            exact A
      · intro H2 A2
        rw [List.length_map, b1, List.take_length] at A2
        have A3 : Acc H H2 D2 ((tiesOf M s).map tieHO) := ⟨ol1.free A2.fD, let ⟨ads, a, b, c, d⟩ := A2.ex; ⟨ads, a, b, fun x hx => ⟨ol1.free (c x hx).1, (c x hx).2⟩, d⟩, ol1.trans A2.ol⟩
        exact q _ H2 A3.ol (ls_acc A3)
end
end Gb
set_option maxRecDepth 100000
set_option maxHeartbeats 4000000
namespace Gb
open PySem PySem.Spec PyProof.Rows L2
open PySem.W (Datum Tup T4)
section
variable {P : Program} {w : World} {K : PySem.W.Frag} {mg : Str → Option Value} {base : Heap}
theorem upd_self {H : Hp} {l : Addr} {o : HO} (h : H l = some o) : upd H l o = H := by
  funext b
  by_cases e : b = l
  · subst e
    rw [upd_same, h]
  · rw [upd_ne e]
theorem upd_upd {H : Hp} {l : Addr} {o u : HO} : upd (upd H l o) l u = upd H l u := by
  funext b
  by_cases e : b = l
  · subst e
    rw [upd_same, upd_same]
  · rw [upd_ne e, upd_ne e, upd_ne e]
/-! ### gains -/
def up (i : Int) : Int := if i > 0 then i else 0
def addAt (xs : List Int) (i : Nat) (d : Int) : List Int := xs.set i (xs.getD i 0 + d)
def gainT (ns : List Int) (acc : List Int) (t : Tie) : List Int :=
  addAt (addAt acc t.b.toNat (t.c * up (ns.getD t.a.toNat 0))) t.a.toNat (t.d * up (ns.getD t.b.toNat 0))
def gainsOf (ts : List Tie) (s : Nat) (ns : List Int) : List Int := ts.foldl (gainT ns) (List.replicate s 0)
def spGains (C : Addr) : Sp := fun vs H Q _ => ∃ (x a : Addr) (s : Nat) (M : Nat → Nat → Int) (ns : List Int), vs = [.ref x, .ref a] ∧ WebAt C H x s M ∧ (∀ i j, 0 ≤ M i j ∧ M i j ≤ 9) ∧ H a = some (rowH ns) ∧ ns.length = s ∧
  ∀ l H', Same H H' → H l = none → H' l = some (.lst ((gainsOf (tiesOf M s) s ns).map V.int)) → Q (.ref l) H'
theorem sc_gains : FnScope ["web", "numbers", "gained", "one", "other", "there", "back"] ["web", "numbers"] (defScope s_gains) := ⟨rfl, rfl, rfl, by decide +kernel, rfl, by decide +kernel, by decide +kernel⟩
theorem ok_gains (D : Dn K mg "gains" s_gains ["web", "numbers"]) (B : Bt mg) {C : Addr} (m_len : ClM P w K mg base 1 C "__len__" (spLen C)) (m_ties : ClM P w K mg base 1 C "ties" (spTies K C)) : Cl P w K mg base 3 "gains" (spGains C) := by
  refine cl_of D sc_gains (fun vs H Q E h => ?_) (fun cdv f A outer s H vs Q E hr h => ?_)
  · obtain ⟨x, a, s, M, ns, rfl, _⟩ := h
    rfl
  · obtain ⟨x, a, s, M, ns, rfl, hW, hM, ha, hl, q⟩ := h
    have nd := sc_gains.nd
    refine ⟨_, (pss_cons (ps_set (i := 2) nd rfl (.inl rfl) (pe_op op_rep (pe_lst (pa_cons pe_int pa_nil)) (pe_callB (call_lenM m_len hr (by decide)) (by rfl) B.len PySem.boot_len (pa_cons (pv 0) pa_nil))))
    (pss_cons (ps_for PassesOwn.never rfl (pi_listK (pe_mt0 m_ties hr (by decide) (pv 0))) (pg_tupK (n := 4) (by rfl) (pgs_cons (pg_name (i := 3) nd rfl (.inl rfl)) (pgs_cons (pg_name (i := 4) nd rfl (.inl rfl)) (pgs_cons (pg_name (i := 5) nd rfl (.inl rfl)) (pgs_cons (pg_name (i := 6) nd rfl (.inl rfl)) pgs_nil)))))
    (pss_cons (ps_augIx (pv 2) (pv 4) (pe_op op_mul (pv 5) (pe_callB (call_max2 rfl) (by rfl) B.max (by decide +kernel) (pa_cons pe_int (pa_cons (pe_ix ix_tupK (pv 1) (pv 3) (fun _ _ => rfl)) pa_nil)))))
    (pss_one (ps_augIx (pv 2) (pv 3) (pe_op op_mul (pv 6) (pe_callB (call_max2 rfl) (by rfl) B.max (by decide +kernel) (pa_cons pe_int (pa_cons (pe_ix ix_tupK (pv 1) (pv 4) (fun _ _ => rfl)) pa_nil))))))))
    (pss_one (ps_ret (pv 2))))), ?_⟩
    refine ⟨by show 1 ≤ sizeLine; decide, fun t0 ht0 => ?_⟩
    have k1 : (upd H t0 (.lst [.int 0])) t0 = some (.lst [.int 0]) := upd_same
    have s1 : Same H (upd H t0 (.lst [.int 0])) := same_new ht0
    generalize upd H t0 (.lst [.int 0]) = H1 at k1 s1 ⊢
    have hW1 := hW.mono s1
    have hs12 := hW.s12
    obtain ⟨_, _, dx, rr, rs, w1, _⟩ := hW1
    have hW1 := hW.mono s1
    refine ⟨.ref x, rfl, x, dx, _, rfl, w1, x, s, M, rfl, hW1, s, rfl, Nat.lt_of_le_of_lt hs12 (by decide), ?_⟩
    refine ⟨t0, s, [.int 0], rfl, rfl, k1, by omega, by omega, ?_, fun l hl1 => ?_⟩
    · show 1 * (s : Int).toNat ≤ sizeLine
      exact Nat.le_trans (by omega : 1 * (s : Int).toNat ≤ 12) (by decide)
    rw [Int.toNat_natCast]
    have ez : (List.replicate s [V.int 0]).flatten = (List.replicate s (0 : Int)).map V.int := by
      rw [← rowV_zero (i := 0)]
      unfold rowV
      apply List.ext_getElem?
      intro k
      rw [List.getElem?_map, List.getElem?_map, List.getElem?_replicate]
      by_cases hk : k < s
      · rw [List.getElem?_range hk, if_pos hk]
        rfl
      · rw [if_neg hk, List.getElem?_eq_none (by rw [List.length_range]; omega)]
        rfl
    rw [ez]
    have k2 : (upd H1 l (.lst ((List.replicate s (0 : Int)).map V.int))) l = some (.lst ((List.replicate s (0 : Int)).map V.int)) := upd_same
    have s2 : Same H1 (upd H1 l (.lst ((List.replicate s (0 : Int)).map V.int))) := same_new hl1
    generalize upd H1 l (.lst ((List.replicate s (0 : Int)).map V.int)) = H2 at k2 s2 ⊢
    have sH2 : Same H H2 := s1.trans s2
    refine ⟨.ref x, rfl, x, dx, _, rfl, s2 _ _ w1, rfl, x, s, M, rfl, hW.mono sH2, fun r H3 s3 hL => ?_⟩
    obtain ⟨tl, vs, rfl, g1, hA⟩ := hL
    have k3 := s3 _ _ k2
    have ha3 : H3 a = some (rowH ns) := s3 _ _ (sH2 _ _ ha)
    have hla : l ≠ a := fun e => by
      have := s1 _ _ ha
      rw [← e, hl1] at this
      cases this
    have ev : ∀ o : HO, Same (nw H2 H3) (upd H3 l o) := fun o b u e => by
      have nb : b ≠ l := fun z => by
        rw [z, nw_some k2] at e
        cases e
      rw [upd_ne nb]
      exact nw_le b u e
    have hlen := all_len hA
    have hmem : ∀ t ∈ tiesOf M s, ∃ i j : Nat, i < j ∧ j < s ∧ t = ⟨i, j, M i j, M j i⟩ := fun t ht => by
      obtain ⟨p, hp, e⟩ := List.mem_filterMap.mp ht
      obtain ⟨h1, h2⟩ := mem_pairs hp
      exact ⟨p.1, p.2, h1, h2, tieAt_ok e⟩
    refine ⟨tl, rfl, ⟨_, SqL.of (nw_le _ _ g1)⟩, for_list (K := K) (a := tl) (xs := vs) (fun i σ H' => ∃ (acc : List Int) (u3 u4 u5 u6 : Option V), σ = [some (.ref x), some (.ref a), some (.ref l), u3, u4, u5, u6] ∧ H' = upd H3 l (.lst (acc.map V.int)) ∧ acc.length = s ∧ acc = ((tiesOf M s).take i).foldl (gainT ns) (List.replicate s 0))
      ⟨_, _, _, _, _, rfl, (upd_self k3).symm, List.length_replicate, rfl⟩ ?_ ?_ ?_⟩
    · rintro i σ H' _ ⟨acc, u3, u4, u5, u6, rfl, rfl, _⟩
      exact SqL.of (ev _ _ _ g1)
    · rintro i y σ H' hy ⟨acc, u3, u4, u5, u6, rfl, rfl, hal, hacc⟩
      obtain ⟨t, ht, hyt⟩ := all_get hA hy
      obtain ⟨c, rfl, hc⟩ := t4_is (Dp.ex (Ex.of (ev (.lst (acc.map V.int)))) hyt)
      obtain ⟨i1, j1, hij, hjs, et⟩ := hmem t (List.mem_of_getElem? ht)
      have ht' : ((tiesOf M s).take (i + 1)) = (tiesOf M s).take i ++ [t] := by
        rw [List.take_add_one, ht]
        rfl
      subst et
      have nat : ∀ (xs : List Int) (n : Nat), n < xs.length → xs[n]? = some (xs.getD n 0) := fun xs n h => by
        rw [List.getElem?_eq_getElem h, List.getD_eq_getElem?_getD, List.getElem?_eq_getElem h]
        rfl
      have natV : ∀ (xs : List Int) (n : Nat), n < xs.length → (xs.map V.int)[n]? = some (.int (xs.getD n 0)) := fun xs n h => by
        rw [List.getElem?_map, nat xs n h]
        rfl
      have c64 : ∀ (i j : Nat) (z : Int), CMul (M i j) z := fun i j z => .inl ⟨by have := hM i j; omega, by have := hM i j; omega⟩
      refine ⟨c, _, rfl, hc, rfl, _, _, rfl, _, _, rfl, _, _, rfl, _, _, rfl, rfl, ?_⟩
      have haU : ∀ o : HO, upd H3 l o a = some (rowH ns) := fun o => by
        rw [upd_ne (Ne.symm hla)]
        exact ha3
      refine ⟨.ref l, rfl, .int (j1 : Int), rfl, l, _, j1, _, rfl, rfl, SqL.of upd_same, natV acc j1 (by omega), ?_⟩
      refine ⟨.int (M i1 j1), rfl, .ref a, rfl, .int (i1 : Int), rfl, a, _, (i1 : Int), _, rfl, rfl, SqT.of (haU _), atI_nat (natV ns i1 (by omega)), 0, _, rfl, M i1 j1, _, rfl, rfl, c64 _ _ _, _, _, rfl, rfl, l, _, (j1 : Int), j1, rfl, rfl, upd_same, by rw [List.length_map]; exact ixN_nat (by omega), ?_⟩
      rw [upd_upd, ← List.map_set]
      generalize hB : acc.set j1 (acc.getD j1 0 + M i1 j1 * (if ns.getD i1 0 > 0 then ns.getD i1 0 else 0)) = acc1
      have hB' : addAt acc j1 (M i1 j1 * up (ns.getD i1 0)) = acc1 := hB
      have hl1' : acc1.length = s := by
        rw [← hB, List.length_set]
        exact hal
      refine ⟨.ref l, rfl, .int (i1 : Int), rfl, l, _, i1, _, rfl, rfl, SqL.of upd_same, natV acc1 i1 (by omega), ?_⟩
      refine ⟨.int (M j1 i1), rfl, .ref a, rfl, .int (j1 : Int), rfl, a, _, (j1 : Int), _, rfl, rfl, SqT.of (haU _), atI_nat (natV ns j1 (by omega)), 0, _, rfl, M j1 i1, _, rfl, rfl, c64 _ _ _, _, _, rfl, rfl, l, _, (i1 : Int), i1, rfl, rfl, upd_same, by rw [List.length_map]; exact ixN_nat (by omega), ?_⟩
      rw [upd_upd, ← List.map_set]
      refine ⟨_, _, _, _, _, rfl, rfl, by rw [List.length_set]; exact hl1', ?_⟩
      rw [ht', List.foldl_append, ← hacc]
      show _ = gainT ns acc ⟨(i1 : Int), (j1 : Int), M i1 j1, M j1 i1⟩
      unfold gainT
      rw [Int.toNat_natCast, Int.toNat_natCast, hB']
      rfl
    · rintro σ H' ⟨acc, u3, u4, u5, u6, rfl, rfl, hal, hacc⟩
      rw [hlen, List.take_length] at hacc
      refine ⟨.ref l, rfl, q l _ (fun b o e => ?_) (s1.free hl1) (by rw [upd_same, hacc]; rfl)⟩
      have nb : b ≠ l := fun z => by
        rw [z, s1.free hl1] at e
        cases e
      rw [upd_ne nb]
      exact s3 _ _ (sH2 _ _ e)
/-! ### less -/
def spLess (C : Addr) : Sp := fun vs H Q _ => ∃ (l a : Addr) (ms ns : List Int), vs = [.ref l, .ref a] ∧ H l = some (.lst (ms.map V.int)) ∧ H a = some (rowH ns) ∧ ms.length = ns.length ∧ ns.length ≤ 12 ∧
  ∀ p H', Same H H' → H p = none → H' p = some (rowH (List.zipWith (· - ·) ms ns)) → Q (.ref p) H'
theorem sc_less : FnScope ["numbers", "others", "number", "other"] ["numbers", "others"] (defScope s_less) := ⟨rfl, rfl, rfl, by decide +kernel, rfl, by decide +kernel, by decide +kernel⟩
theorem ok_less (D : Dn K mg "less" s_less ["numbers", "others"]) (B : Bt mg) {C : Addr} : Cl P w K mg base 1 "less" (spLess C) := by
  refine cl_of D sc_less (fun vs H Q E h => ?_) (fun cdv f A outer s H vs Q E hr h => ?_)
  · obtain ⟨l, a, ms, ns, rfl, _⟩ := h
    rfl
  · obtain ⟨l, a, ms, ns, rfl, hl, ha, he, hn, q⟩ := h
    have nd := sc_less.nd
    refine ⟨_, (pss_one (ps_ret (pe_callTy call_tupK (by rfl) B.tuple (by decide +kernel) (pa_cons (pe_lc (own := [("number", 2), ("other", 3)]) rfl nd (pi_zipLT (by rfl) B.zip (pa_cons (pv 0) (pa_cons (pv 1) pa_nil))) (blkOk_by (N := ["numbers", "others", "number", "other"]) (sc := defScope s_less) (by decide +kernel)) (fun _ _ _ _ _ => (pg_tupK (n := 2) (by rfl) (pgs_cons (pg_name (i := 2) nd rfl (.inl rfl)) (pgs_cons (pg_name (i := 3) nd rfl (.inl rfl)) pgs_nil)))) (fun _ _ _ _ _ => pts_nil) (fun _ _ _ _ _ => (pe_op op_sub (pv 2) (pv 3)))) pa_nil)))), ?_⟩
    refine ⟨.ref l, rfl, .ref a, rfl, l, a, _, _, rfl, SqL.of hl, SqT.of ha, fun D hD => ?_⟩
    refine lc_zipLT (xs := ms.map V.int) (ys := ns.map V.int) (by rw [List.length_map, List.length_map, he]) (fun i H' => LocS H H' D (((List.zipWith (· - ·) ms ns).take i).map V.int)) (LocS.start (Same.refl H) hD) (fun i H' L => ⟨SqL.of (L.done _ _ hl), SqT.of (L.done _ _ ha)⟩) ?_ ?_
    · intro i x y T H' hx hy L hT
      rw [List.getElem?_map] at hx hy
      cases ex : ms[i]? with
      | none =>
        rw [ex] at hx
        cases hx
      | some m =>
        cases ey : ns[i]? with
        | none =>
          rw [ey] at hy
          cases hy
        | some n =>
          rw [ex] at hx
          rw [ey] at hy
          obtain rfl : V.int m = x := Option.some.inj hx
          obtain rfl : V.int n = y := Option.some.inj hy
          have ez : (List.zipWith (· - ·) ms ns)[i]? = some (m - n) := by
            rw [List.getElem?_zipWith, ex, ey]
          have et : (List.zipWith (· - ·) ms ns).take (i + 1) = (List.zipWith (· - ·) ms ns).take i ++ [m - n] := by
            rw [List.take_add_one, ez]
            rfl
          have L1 := L.call (same_new (o := .tup [.int m, .int n]) hT)
          refine ⟨T, _, rfl, SqT.of upd_same, rfl, _, _, rfl, _, _, rfl, rfl, rfl, yes_of ?_⟩
          refine ⟨.int m, rfl, .int n, rfl, m, n, rfl, rfl, _, L1.at_, ?_, ?_⟩
          · rw [List.length_map, List.length_take, List.length_zipWith]
            exact Nat.lt_of_le_of_lt (by omega : _ ≤ 12) (by decide)
          · rw [et, List.map_append]
            exact L1.set
    · intro H' L
      rw [List.length_map, List.take_of_length_le (by rw [List.length_zipWith]; omega)] at L
      refine ⟨D, _, rfl, .inl ⟨SqL.of L.at_, fun p hp => q p _ (L.done.trans (same_new hp)) (L.done.free hp) upd_same⟩⟩
end
end Gb
set_option maxRecDepth 100000
set_option maxHeartbeats 4000000
namespace Gb
open PySem PySem.Spec PyProof.Rows L2
open PySem.W (Datum Tup T4)
theorem tupB {K : PySem.W.Frag} {a : Addr} {xs : List V} {Body : V → Hp → (Hp → Prop) → Prop} {Qd : Hp → Prop} {H0 : Hp} (Pv : Nat → Hp → Prop) (h0 : Pv 0 H0) (hq : ∀ i H, Pv i H → SqT K H a xs) (hs : ∀ i x H, xs[i]? = some x → Pv i H → Body x H (Pv (i + 1))) (hd : ∀ H, Pv xs.length H → Qd H) :
    ∃ W : Nat → Nat → Hp → Prop, (∃ m, W 0 m H0) ∧ ∀ i m H, W i m H →
      ((Itt K a).stop i H ∧ Qd H) ∨ ((Itt K a).go i H ∧ ∃ Nx : Hp → Prop, (∀ H', Nx H' → ∃ m', m' < m ∧ W (i + 1) m' H') ∧ ∀ x H', (Itt K a).yld i H x H' → Body x H' Nx) := by
  refine ⟨fun i m H => m = xs.length - i ∧ i ≤ xs.length ∧ Pv i H, ⟨xs.length, by simp, Nat.zero_le _, h0⟩, ?_⟩
  rintro i m H ⟨rfl, hi, p⟩
  have q := hq i H p
  by_cases hlt : i < xs.length
  · have e := List.getElem?_eq_getElem hlt
    refine .inr ⟨⟨xs, xs[i], q, e⟩, Pv (i + 1), fun H' p' => ⟨xs.length - (i + 1), by omega, rfl, hlt, p'⟩, fun x H' y => ?_⟩
    obtain ⟨rfl, y⟩ := y
    exact hs i x _ (y xs q) p
  · have e : i = xs.length := by omega
    subst e
    exact .inl ⟨⟨xs, q, Nat.le_refl _⟩, hd H p⟩
theorem addAt_len {xs : List Int} {i : Nat} {d : Int} : (addAt xs i d).length = xs.length := by
  unfold addAt
  rw [List.length_set]
theorem gains_len {ts : List Tie} {s : Nat} {ns : List Int} : (gainsOf ts s ns).length = s := by
  unfold gainsOf
  have : ∀ (ts : List Tie) (acc : List Int), (ts.foldl (gainT ns) acc).length = acc.length := by
    intro ts
    induction ts with
    | nil => exact fun _ => rfl
    | cons t ts ih =>
      intro acc
      rw [List.foldl_cons, ih]
      unfold gainT
      rw [addAt_len, addAt_len]
  rw [this, List.length_replicate]
def stepF (M : Nat → Nat → Int) (s : Nat) (p : List Int × List Int) : List Int × List Int := (p.2, List.zipWith (· - ·) (gainsOf (tiesOf M s) s p.2) p.1)
def stepB (M : Nat → Nat → Int) (s : Nat) (p : List Int × List Int) : List Int × List Int := (List.zipWith (· - ·) (gainsOf (tiesOf M s) s p.1) p.2, p.1)
def runF (M : Nat → Nat → Int) (s : Nat) (p : List Int × List Int) : Nat → List Int × List Int
  | 0 => p
  | k + 1 => stepF M s (runF M s p k)
/-- a web that may be asked, a standing of it -/
structure Ask (C : Addr) (H : Hp) (x : Addr) (s : Nat) (M : Nat → Nat → Int) (v : V) (p : List Int × List Int) : Prop where
  web : WebAt C H x s M
  cord : ∀ i j, 0 ≤ M i j ∧ M i j ≤ 9
  st : StAt H v p.1 p.2
  l1 : p.1.length = s
  l2 : p.2.length = s
theorem Ask.same {C : Addr} {H H' : Hp} {x : Addr} {s : Nat} {M : Nat → Nat → Int} {v : V} {p : List Int × List Int} (A : Ask C H x s M v p) (e : Same H H') : Ask C H' x s M v p := ⟨A.web.mono e, A.cord, A.st.same (Ex.of e), A.l1, A.l2⟩
theorem Ask.F {C : Addr} {H H' : Hp} {x : Addr} {s : Nat} {M : Nat → Nat → Int} {v r : V} {p : List Int × List Int} (A : Ask C H x s M v p) (e : Same H H') (h : StAt H' r (stepF M s p).1 (stepF M s p).2) : Ask C H' x s M r (stepF M s p) :=
  ⟨A.web.mono e, A.cord, h, A.l2, by show (List.zipWith _ _ _).length = s; rw [List.length_zipWith, gains_len, A.l1]; exact Nat.min_self s⟩
theorem Ask.B {C : Addr} {H H' : Hp} {x : Addr} {s : Nat} {M : Nat → Nat → Int} {v r : V} {p : List Int × List Int} (A : Ask C H x s M v p) (e : Same H H') (h : StAt H' r (stepB M s p).1 (stepB M s p).2) : Ask C H' x s M r (stepB M s p) :=
  ⟨A.web.mono e, A.cord, h, by show (List.zipWith _ _ _).length = s; rw [List.length_zipWith, gains_len, A.l2]; exact Nat.min_self s, A.l1⟩
theorem StAt.lst {H : Hp} {l : Addr} {zs ys : List V} {v : V} {o n : List Int} (h : StAt H v o n) (hl : H l = some (.lst zs)) : StAt (upd H l (.lst ys)) v o n := by
  obtain ⟨t, a, b, rfl, h1, h2, h3⟩ := h
  have ne : ∀ {x : Addr} {xs : List V}, H x = some (.tup xs) → x ≠ l := fun hx e => by
    rw [e, hl] at hx
    cases hx
  exact ⟨t, a, b, rfl, by rw [upd_ne (ne h1)]; exact h1, by rw [upd_ne (ne h2)]; exact h2, by rw [upd_ne (ne h3)]; exact h3⟩
theorem WebAt.lst {C : Addr} {H : Hp} {wa : Addr} {s : Nat} {M : Nat → Nat → Int} {l : Addr} {zs ys : List V} (h : WebAt C H wa s M) (hl : H l = some (.lst zs)) : WebAt C (upd H l (.lst ys)) wa s M := by
  obtain ⟨g1, g2, dx, r, rs, h1, h2, h3, h4⟩ := h
  have ne : ∀ {x : Addr} {xs : List V}, H x = some (.tup xs) → x ≠ l := fun hx e => by
    rw [e, hl] at hx
    cases hx
  have nw : wa ≠ l := fun e => by
    rw [e, hl] at h1
    cases h1
  exact ⟨g1, g2, dx, r, rs, by rw [upd_ne nw]; exact h1, by rw [upd_ne (ne h2)]; exact h2, h3, fun i a e => by rw [upd_ne (ne (h4 i a e))]; exact h4 i a e⟩
theorem Ask.lst {C : Addr} {H : Hp} {x : Addr} {s : Nat} {M : Nat → Nat → Int} {l : Addr} {zs ys : List V} {v : V} {p : List Int × List Int} (A : Ask C H x s M v p) (hl : H l = some (.lst zs)) : Ask C (upd H l (.lst ys)) x s M v p := ⟨A.web.lst hl, A.cord, A.st.lst hl, A.l1, A.l2⟩
def Small (p : List Int × List Int) : Prop := ∀ k ∈ p.1 ++ p.2, -(10 ^ 30) ≤ k ∧ k ≤ 10 ^ 30
section
variable {P : Program} {w : World} {K : PySem.W.Frag} {mg : Str → Option Value} {base : Heap}
def spNeedSt (C : Addr) : Sp := fun vs H Q _ => ∃ (x : Addr) (s : Nat) (M : Nat → Nat → Int) (v : V) (p : List Int × List Int), vs = [.ref x, v] ∧ Ask C H x s M v p ∧ Small p ∧ ∀ H', Same H H' → Q .non H'
theorem sc_need_standing : FnScope ["web", "standing", "row", "number"] ["web", "standing"] (defScope s_need_standing) := ⟨rfl, rfl, rfl, by decide +kernel, rfl, by decide +kernel, by decide +kernel⟩
theorem ok_need_standing (D : Dn K mg "need_standing" s_need_standing ["web", "standing"]) (B : Bt mg) {C : Addr} (c_is_between : Cl P w K mg base 2 "is_between" spBetween) (m_len : ClM P w K mg base 1 C "__len__" (spLen C)) (v_GREATEST : ∃ u, mg "GREATEST" = some u ∧ RelV (.int (10 ^ 30)) u) : Cl P w K mg base 3 "need_standing" (spNeedSt C) := by
  refine cl_of D sc_need_standing (fun vs H Q E h => ?_) (fun cdv f A outer s H vs Q E hr h => ?_)
  · obtain ⟨x, s, M, v, p, rfl, _⟩ := h
    rfl
  · obtain ⟨x, s, M, v, p, rfl, hA, hS, q⟩ := h
    have nd := sc_need_standing.nd
    obtain ⟨t, a, b, rfl, ht, ha, hb⟩ := hA.st.ex
    refine ⟨_, (pss_cons (ps_if (PW.pt (pw_or (pt_not (pt_val (pe_callB call_isiA (by rfl) B.isinstance (by decide +kernel) (pa_cons (pv 1) (pa_cons (pe_bltn (v := .ty "tuple") (u := .type "tuple") (by rfl) B.tuple (by decide +kernel) rfl) pa_nil))))) (pw_or1 (pt_cmpR op_ne (pe_callB call_lenK (by rfl) B.len PySem.boot_len (pa_cons (pv 1) pa_nil)) pe_int (nomark _)))))
    (pss_one ps_never)
    pss_nil)
    (pss_cons (ps_if (pt_not (pt_val (pe_callB (cr_allK rfl) (by rfl) B.all (by decide +kernel) (pa_cons (pe_lc (own := [("row", 2)]) rfl nd (pi_tupK (pv 1)) (blkOk_by (N := ["web", "standing", "row", "number"]) (sc := defScope s_need_standing) (by decide +kernel)) (fun _ _ _ _ _ => (pg_name (i := 2) nd rfl (.inl rfl))) (fun _ _ _ _ _ => pts_nil) (fun _ _ _ _ _ => (pe_and (pe_callB call_isiA (by rfl) B.isinstance (by decide +kernel) (pa_cons (pv 2) (pa_cons (pe_bltn (v := .ty "tuple") (u := .type "tuple") (by rfl) B.tuple (by decide +kernel) rfl) pa_nil))) (pe_one (pe_cmpR op_eq (pe_callB call_lenK (by rfl) B.len PySem.boot_len (pa_cons (pv 2) pa_nil)) (pe_callB (call_lenM m_len hr (by decide)) (by rfl) B.len PySem.boot_len (pa_cons (pv 0) pa_nil)) (nomark _)))))) pa_nil))))
    (pss_one ps_never)
    pss_nil)
    (pss_one (ps_if (pt_not (pt_val (pe_callB (cr_allK rfl) (by rfl) B.all (by decide +kernel) (pa_cons (pe_lc2 (own := [("row", 2), ("number", 3)]) (vs1 := [3]) rfl nd (pi_tupK (pv 1)) (blkOk_by (N := ["web", "standing", "row", "number"]) (sc := defScope s_need_standing) (by decide +kernel)) (by decide) (fun _ _ _ _ _ => (pg_name (i := 2) nd rfl (.inl rfl))) (fun _ _ _ _ _ => pts_nil) (fun _ _ _ _ _ => (pi_tupK (pv 2))) (fun _ _ _ _ _ => (pg_name (i := 3) nd rfl (.inl rfl))) (fun _ _ _ _ _ => pts_nil) (fun _ _ _ _ _ => (pe_c c_is_between hr (by decide) (by rfl) (pa_cons (pv 3) (pa_cons (pe_un un_neg (pe_gv (by rfl) v_GREATEST)) (pa_cons (pe_gv (by rfl) v_GREATEST) pa_nil)))))) pa_nil))))
    (pss_one ps_never)
    pss_nil)))), ?_⟩
    obtain ⟨_, hs12, dx, rr, rs, hx, _⟩ := id hA.web
    have hrow : ∀ (i : Nat) (y : V) (H' : Hp), ([.ref a, .ref b] : List V)[i]? = some y → Same H H' → ∃ (u : Addr) (ns : List Int), y = .ref u ∧ H' u = some (rowH ns) ∧ ns.length = s ∧ ∀ k ∈ ns, -(10 ^ 30) ≤ k ∧ k ≤ 10 ^ 30 := by
      intro i y H' hy e
      match i, hy with
      | 0, hy => exact ⟨a, p.1, (Option.some.inj hy).symm, e _ _ ha, hA.l1, fun k hk => hS k (List.mem_append_left _ hk)⟩
      | 1, hy => exact ⟨b, p.2, (Option.some.inj hy).symm, e _ _ hb, hA.l2, fun k hk => hS k (List.mem_append_right _ hk)⟩
    refine ⟨.ref t, rfl, _, _, .type "tuple", .type "tuple", true, rfl, .ty "tuple", .base (.tup ht), kit_ty (by decide +kernel), true, rfl, ?_⟩
    refine ⟨.ref t, rfl, _, _, rfl, .inr (SqT.of ht), rfl, false, rfl, ?_⟩
    refine ⟨.ref t, rfl, t, rfl, ⟨_, SqT.of ht⟩, fun D1 hD1 => ?_⟩
    refine lc_tupG (k := 0) (fun _ y _ => y = .bl true) (fun _ _ _ _ _ h => h) rel_same hD1 id (SqT.of ht) (by show 2 ≤ 100000; decide) ?_ ?_ ?_
    · intro i y H' hy sm hDs
      obtain ⟨u, ns, rfl, hu, hl, _⟩ := hrow i y H' hy sm
      refine ⟨rfl, rfl, fun Q' q' => ⟨.ref u, rfl, _, _, .type "tuple", .type "tuple", true, rfl, .ty "tuple", .base (.tup hu), kit_ty (by decide +kernel), true, rfl, .ref u, rfl, _, _, rfl, .inr (SqT.of hu), .ref x, rfl, x, dx, _, rfl, sm _ _ hx, x, s, M, rfl, hA.web.mono sm, s, rfl, Nat.lt_of_le_of_lt hs12 (by decide), rfl, ?_⟩⟩
      have e : V.bl (decide (V.int ((ns.map V.int).length : Int) = V.int (s : Int))) = .bl true := by
        rw [List.length_map, hl, decide_eq_true rfl]
      exact q' _ _ (fun _ _ h => h) e
    · exact fun x σ H A B h hA => h _ _ hA
    · intro ys H2 hy hl hz sm2 _
      obtain ⟨bs, rfl, hb'⟩ := all_true hz
      refine ⟨D1, bs, rfl, SqL.of hy, true, by rw [hb'], ?_⟩
      refine ⟨.ref t, rfl, t, rfl, ⟨_, SqT.of (sm2 _ _ ht)⟩, fun D2 hD2 => ?_⟩
      refine tupB (xs := [.ref a, .ref b]) (fun i H' => ∃ ys, LocS H2 H' D2 ys ∧ (∀ (i : Nat) (y : V), ys[i]? = some y → y = .bl true) ∧ ys.length ≤ 12 * i) ⟨[], LocS.start (Same.refl H2) hD2, (fun i y e => by cases e), Nat.zero_le _⟩ (fun i H' ⟨ys, L, _⟩ => SqT.of (L.done _ _ (sm2 _ _ ht))) ?_ ?_
      · rintro i y H' hy ⟨ys, L, hyt, hyl⟩
        have hi2 : i < 2 := (List.getElem?_eq_some_iff.mp hy).1
        obtain ⟨u, ns, rfl, hu, hl, hk⟩ := hrow i y H' hy (sm2.trans L.done)
        refine ⟨rfl, yes_of ?_⟩
        refine ⟨.ref u, rfl, u, rfl, ⟨_, SqT.of hu⟩, ?_⟩
        have hu2 : H2 u = some (rowH ns) := by
          obtain ⟨u', ns', e, hu', _⟩ := hrow i (.ref u) H2 hy sm2
          cases e
          have := L.done _ _ hu'
          rw [hu] at this
          rw [hu', ← this]
        refine tupB (xs := ns.map V.int) (fun j H'' => ∃ ys, LocS H2 H'' D2 ys ∧ (∀ (i : Nat) (y : V), ys[i]? = some y → y = .bl true) ∧ ys.length ≤ 12 * i + j) ⟨ys, L, hyt, hyl⟩ (fun j H'' ⟨ys, L, _⟩ => SqT.of (L.done _ _ hu2)) ?_ ?_
        · rintro j z H3 hz3 ⟨ys3, L3, hyt3, hyl3⟩
          rw [List.getElem?_map] at hz3
          have hj : j < ns.length := by
            cases e : ns[j]? with
            | none =>
              rw [e] at hz3
              cases hz3
            | some _ => exact (List.getElem?_eq_some_iff.mp e).1
          rw [List.getElem?_eq_getElem hj] at hz3
          obtain rfl : V.int ns[j] = z := Option.some.inj hz3
          obtain ⟨h1, h2⟩ := hk _ (List.getElem_mem hj)
          refine ⟨rfl, yes_of ?_⟩
          refine ⟨.int ns[j], rfl, 10 ^ 30, rfl, ns[j], -(10 ^ 30), 10 ^ 30, rfl, h1, h2, ys3, L3.at_, ?_, ys3 ++ [.bl true], L3.set, ?_, ?_⟩
          · exact Nat.lt_of_le_of_lt (by omega : ys3.length ≤ 1000) (by decide)
          · intro k y e
            by_cases hk' : k < ys3.length
            · rw [List.getElem?_append_left hk'] at e
              exact hyt3 k y e
            · rw [List.getElem?_append_right (by omega)] at e
              have := List.mem_of_getElem? e
              exact List.mem_singleton.mp this
          · rw [List.length_append]
            show ys3.length + 1 ≤ _
            omega
        · rintro H3 ⟨ys3, L3, hyt3, hyl3⟩
          rw [List.length_map, hl] at hyl3
          exact ⟨ys3, L3, hyt3, by omega⟩
      · rintro H3 ⟨ys3, L3, hyt3, hyl3⟩
        obtain ⟨bs3, rfl, hb3⟩ := all_true hyt3
        exact ⟨D2, bs3, rfl, SqL.of L3.at_, true, by rw [hb3], q _ (sm2.trans L3.done)⟩
def spFol (C : Addr) : Sp := fun vs H Q _ => ∃ (x : Addr) (s : Nat) (M : Nat → Nat → Int) (v : V) (p : List Int × List Int), vs = [.ref x, v] ∧ Ask C H x s M v p ∧ ∀ r H', Same H H' → StAt H' r (stepF M s p).1 (stepF M s p).2 → Q r H'
theorem sc_following : FnScope ["web", "standing", "old", "now"] ["web", "standing"] (defScope s_following) := ⟨rfl, rfl, rfl, by decide +kernel, rfl, by decide +kernel, by decide +kernel⟩
theorem ok_following (D : Dn K mg "following" s_following ["web", "standing"]) (B : Bt mg) {C : Addr} (c_gains : Cl P w K mg base 3 "gains" (spGains C)) (c_less : Cl P w K mg base 1 "less" (spLess C)) : Cl P w K mg base 4 "following" (spFol C) := by
  refine cl_of D sc_following (fun vs H Q E h => ?_) (fun cdv f A outer s H vs Q E hr h => ?_)
  · obtain ⟨x, s, M, v, p, rfl, _⟩ := h
    rfl
  · obtain ⟨x, s, M, v, p, rfl, hA, q⟩ := h
    have nd := sc_following.nd
    obtain ⟨t, a, b, rfl, ht, ha, hb⟩ := hA.st.ex
    refine ⟨_, (pss_cons (ps_asg (pv 1) (pg_tupK (n := 2) (by rfl) (pgs_cons (pg_name (i := 2) nd rfl (.inl rfl)) (pgs_cons (pg_name (i := 3) nd rfl (.inl rfl)) pgs_nil))))
    (pss_one (ps_ret (pe_tup (pa_cons (pv 3) (pa_cons (pe_c c_less hr (by decide) (by rfl) (pa_cons (pe_c c_gains hr (by decide) (by rfl) (pa_cons (pv 0) (pa_cons (pv 3) pa_nil))) (pa_cons (pv 2) pa_nil))) pa_nil)))))), ?_⟩
    refine ⟨.ref t, rfl, t, _, rfl, SqT.of ht, rfl, _, _, rfl, _, _, rfl, rfl, ?_⟩
    refine ⟨.ref b, rfl, .ref x, rfl, .ref b, rfl, x, b, s, M, p.2, rfl, hA.web, hA.cord, hb, hA.l2, fun l H1 s1 hl0 hl1 => ?_⟩
    refine ⟨.ref a, rfl, l, a, _, p.1, rfl, hl1, s1 _ _ ha, by rw [gains_len, hA.l1], by rw [hA.l1]; exact hA.web.s12, fun d H2 s2 hd0 hd1 => ?_⟩
    refine ⟨by show 2 ≤ sizeLine; decide, fun z hz => ?_⟩
    have k3 : (upd H2 z (.tup [.ref b, .ref d])) z = some (.tup [.ref b, .ref d]) := upd_same
    have s3 : Same H2 (upd H2 z (.tup [.ref b, .ref d])) := same_new hz
    generalize upd H2 z (.tup [.ref b, .ref d]) = H3 at k3 s3 ⊢
    exact q _ H3 ((s1.trans s2).trans s3) ⟨z, b, d, rfl, k3, s3 _ _ (s2 _ _ (s1 _ _ hb)), s3 _ _ hd1⟩
def spRun (C : Addr) : Sp := fun vs H Q _ => ∃ (x : Addr) (s : Nat) (M : Nat → Nat → Int) (v : V) (p : List Int × List Int) (n : Nat), vs = [.ref x, v, .int (n : Int)] ∧ n ≤ 1000 ∧ Ask C H x s M v p ∧ Small p ∧
  ∀ l H' rv, Same H H' → H l = none → H' l = some (.lst rv) → rv.length = n + 1 → (∀ k r, rv[k]? = some r → Ask C H' x s M r (runF M s p k)) → Q (.ref l) H'
theorem sc_run_of : FnScope ["web", "standing", "beats", "run", "_"] ["web", "standing", "beats"] (defScope s_run_of) := ⟨rfl, rfl, rfl, by decide +kernel, rfl, by decide +kernel, by decide +kernel⟩
theorem ok_run_of (D : Dn K mg "run_of" s_run_of ["web", "standing", "beats"]) (B : Bt mg) {C : Addr} (c_need_standing : Cl P w K mg base 3 "need_standing" (spNeedSt C)) (c_following : Cl P w K mg base 4 "following" (spFol C)) : Cl P w K mg base 5 "run_of" (spRun C) := by
  refine cl_of D sc_run_of (fun vs H Q E h => ?_) (fun cdv f A outer s H vs Q E hr h => ?_)
  · obtain ⟨x, s, M, v, p, n, rfl, _⟩ := h
    rfl
  · obtain ⟨x, s, M, v, p, n, rfl, hn, hA, hS, q⟩ := h
    have nd := sc_run_of.nd
    refine ⟨_, (pss_cons (ps_expr (pe_c c_need_standing hr (by decide) (by rfl) (pa_cons (pv 0) (pa_cons (pv 1) pa_nil))))
    (pss_cons (ps_set (i := 3) nd rfl (.inl rfl) (pe_lst (pa_cons (pv 1) pa_nil)))
    (pss_cons (ps_for PassesOwn.never rfl (pi_range1 (by rfl) B.range (pa_cons (pv 2) pa_nil)) (pg_name (i := 4) nd rfl (.inl rfl))
    (pss_one (ps_expr (pe_bmK PySem.F.plainAttrs_list PySem.F.slot_list_append PySem.F.type_list_append mt_append (pv 3) (pa_cons (pe_c c_following hr (by decide) (by rfl) (pa_cons (pv 0) (pa_cons (pe_ix ix_listK (pv 3) (pe_un un_neg pe_int) (fun _ _ => rfl)) pa_nil))) pa_nil)))))
    (pss_one (ps_ret (pv 3)))))), ?_⟩
    refine ⟨.ref x, rfl, v, rfl, x, s, M, v, p, rfl, hA, hS, fun H0 s0 => ?_⟩
    refine ⟨v, rfl, by show 1 ≤ sizeLine; decide, fun l hl => ?_⟩
    have hA0 := hA.same s0
    have eN : ((n : Int)).toNat = n := Int.toNat_natCast n
    refine ⟨.int n, rfl, n, rfl, by omega, by omega, ?_⟩
    rw [eN]
    refine for_range (lo := 0) (n := n) (fun i σ H' => ∃ (rv : List V) (u : Option V), σ = [some (.ref x), some v, some (.int n), some (.ref l), u] ∧ LocS H H' l rv ∧ rv.length = i + 1 ∧ ∀ k r, rv[k]? = some r → Ask C H' x s M r (runF M s p k))
      ⟨[v], _, rfl, ⟨s0.free hl, upd_same, by rw [del_upd, del_none hl]; exact s0⟩, rfl, ?_⟩ ?_ ?_
    · intro k r e
      match k, e with
      | 0, e =>
        obtain rfl : v = r := Option.some.inj e
        exact hA0.same (same_new hl)
    · rintro i σ H1 hi ⟨rv, u, rfl, L, hrl, hAk⟩
      have hlast : rv[i]? = some (rv[i]'(by omega)) := List.getElem?_eq_getElem _
      generalize rv[i]'(by omega) = r at hlast
      have hAr := hAk i r hlast
      have ixl : atI rv (-1) = some r := by
        unfold atI ixN
        rw [if_neg (by decide), if_pos (by omega)]
        show rv[(-1 + (rv.length : Int)).toNat]? = some r
        rw [show (-1 + (rv.length : Int)).toNat = i by omega]
        exact hlast
      refine ⟨.ref l, rfl, .inl ⟨rfl, _, SqL.of L.at_⟩, .ref x, rfl, .ref l, rfl, 1, rfl, l, rv, -1, r, rfl, rfl, SqL.of L.at_, ixl, x, s, M, r, _, rfl, hAr, fun r' H2 s2 hst => ?_⟩
      have L2 := L.call s2
      have hAn : Ask C H2 x s M r' (runF M s p (i + 1)) := hAr.F s2 hst
      refine ⟨l, rv, r', rfl, rfl, L2.at_, Nat.lt_of_le_of_lt (by omega : rv.length ≤ 100000) (by decide), ?_⟩
      refine ⟨rv ++ [r'], _, rfl, L2.set, by rw [List.length_append, hrl]; rfl, fun k z e => ?_⟩
      by_cases hk : k < rv.length
      · rw [List.getElem?_append_left hk] at e
        exact ((hAk k z e).same s2).lst L2.at_
      · rw [List.getElem?_append_right (by omega)] at e
        have hz : z = r' := List.mem_singleton.mp (List.mem_of_getElem? e)
        have h0 : k - rv.length < 1 := (List.getElem?_eq_some_iff.mp e).1
        rw [hz, show k = i + 1 by omega]
        exact hAn.lst L2.at_
    · rintro σ H1 ⟨rv, u, rfl, L, hrl, hAk⟩
      exact ⟨.ref l, rfl, q l H1 rv L.done (s0.free hl) L.at_ hrl hAk⟩
end
end Gb
set_option maxRecDepth 100000
set_option maxHeartbeats 4000000
/-! max(t), min(t), t a tuple of ints. -/
namespace Gb
open PySem PySem.Spec PyProof.Rows L2
theorem maxOf_int (x : Int) (xs : List Int) : PySem.W.maxOf x xs ∈ x :: xs ∧ ∀ y ∈ x :: xs, y ≤ PySem.W.maxOf x xs := by
  unfold PySem.W.maxOf
  induction xs generalizing x with
  | nil => exact ⟨List.mem_cons_self, fun y hy => by rw [List.mem_singleton.mp hy]; exact Int.le_refl _⟩
  | cons z zs ih =>
    rw [List.foldl_cons]
    have hlt : PySem.W.DatumOrd.lt x z = decide (x < z) := rfl
    obtain ⟨h1, h2⟩ := ih (if PySem.W.DatumOrd.lt x z = true then z else x)
    generalize hm : List.foldl _ _ zs = m at h1 h2
    rw [hlt] at h1 h2
    by_cases h : x < z
    · rw [decide_eq_true h, if_pos rfl] at h1 h2
      refine ⟨List.mem_cons_of_mem _ h1, fun y hy => ?_⟩
      rcases List.mem_cons.mp hy with rfl | hy
      · exact Int.le_trans (Int.le_of_lt h) (h2 z List.mem_cons_self)
      · exact h2 y hy
    · rw [decide_eq_false h, if_neg Bool.false_ne_true] at h1 h2
      refine ⟨?_, fun y hy => ?_⟩
      · rcases List.mem_cons.mp h1 with h1 | h1
        · rw [h1]
          exact List.mem_cons_self
        · exact List.mem_cons_of_mem _ (List.mem_cons_of_mem _ h1)
      · rcases List.mem_cons.mp hy with rfl | hy
        · exact h2 _ List.mem_cons_self
        · rcases List.mem_cons.mp hy with rfl | hy
          · exact Int.le_trans (Int.not_lt.mp h) (h2 x List.mem_cons_self)
          · exact h2 y (List.mem_cons_of_mem _ hy)
theorem minOf_int (x : Int) (xs : List Int) : PySem.W.minOf x xs ∈ x :: xs ∧ ∀ y ∈ x :: xs, PySem.W.minOf x xs ≤ y := by
  unfold PySem.W.minOf
  induction xs generalizing x with
  | nil => exact ⟨List.mem_cons_self, fun y hy => by rw [List.mem_singleton.mp hy]; exact Int.le_refl _⟩
  | cons z zs ih =>
    rw [List.foldl_cons]
    have hlt : PySem.W.DatumOrd.lt z x = decide (z < x) := rfl
    obtain ⟨h1, h2⟩ := ih (if PySem.W.DatumOrd.lt z x = true then z else x)
    generalize hm : List.foldl _ _ zs = m at h1 h2
    rw [hlt] at h1 h2
    by_cases h : z < x
    · rw [decide_eq_true h, if_pos rfl] at h1 h2
      refine ⟨List.mem_cons_of_mem _ h1, fun y hy => ?_⟩
      rcases List.mem_cons.mp hy with rfl | hy
      · exact Int.le_trans (h2 z List.mem_cons_self) (Int.le_of_lt h)
      · exact h2 y hy
    · rw [decide_eq_false h, if_neg Bool.false_ne_true] at h1 h2
      refine ⟨?_, fun y hy => ?_⟩
      · rcases List.mem_cons.mp h1 with h1 | h1
        · rw [h1]
          exact List.mem_cons_self
        · exact List.mem_cons_of_mem _ (List.mem_cons_of_mem _ h1)
      · rcases List.mem_cons.mp hy with rfl | hy
        · exact h2 _ List.mem_cons_self
        · rcases List.mem_cons.mp hy with rfl | hy
          · exact Int.le_trans (h2 x List.mem_cons_self) (Int.not_lt.mp h)
          · exact h2 y (List.mem_cons_of_mem _ hy)
section
variable {X : Cx} {Kx : PySem.W.Frag}
theorem val_int {h' : Heap} {ns : List Int} {its : List Value} {i : Nat} {v : Value} {m : Int} (rv : Vals (ns.map V.int) its) (hv : its[i]? = some v) (hh : PySem.W.Holds h' v m) : ∃ t, v = .int m t := by
  have hl := rv.length
  have hi : i < ns.length := by
    have := (List.getElem?_eq_some_iff.mp hv).1
    rw [List.length_map] at hl
    omega
  obtain ⟨w, ew, rw'⟩ := rv.get (i := i) (x := .int ns[i]) (by rw [List.getElem?_map, List.getElem?_eq_getElem hi]; rfl)
  rw [hv] at ew
  obtain rfl : v = w := Option.some.inj ew
  obtain ⟨t, rfl⟩ := rw'
  obtain ⟨ads, hr⟩ := hh
  cases hr
  exact ⟨_, rfl⟩
def rMaxT (K : PySem.W.Frag) : List V → Hp → VK → Prop := fun vs H Q => ∃ (a : Addr) (ns : List Int), vs = [V.ref a] ∧ SqT K H a (ns.map V.int) ∧ 0 < ns.length ∧ ∀ m, m ∈ ns → (∀ y, y ∈ ns → y ≤ m) → Q (.int m) H
def rMinT (K : PySem.W.Frag) : List V → Hp → VK → Prop := fun vs H Q => ∃ (a : Addr) (ns : List Int), vs = [V.ref a] ∧ SqT K H a (ns.map V.int) ∧ 0 < ns.length ∧ ∀ m, m ∈ ns → (∀ y, y ∈ ns → m ≤ y) → Q (.int m) H
theorem call_maxT (hc : X.calm = true) (hu : X.A.units + 64 < cLine) (hK : X.K = Kx := by rfl) : CallR X (.builtin "max") (rMaxT Kx) := by
  subst hK
  intro pins s σ H vs us Q I r h
  obtain ⟨a, ns, rfl, hs, hne, q⟩ := h
  rw [Vals.ref1 r]
  obtain ⟨its, rv, p, _⟩ := I.tuple hs
  cases ns with
  | nil => exact absurd hne (by simp)
  | cons x xs =>
    obtain ⟨ads, rd⟩ := Dp.readsAll I ((x :: xs).map PyData.int) _ _ (dpa_of_ints (x :: xs)) rv
    refine PySem.W.max_tuple_datum (α := Int) (x := x) (xs := xs) (I.ok.hd hc) p ⟨ads, rd⟩ (by show X.A.units + 1 + _ < _; exact Nat.lt_of_le_of_lt (Nat.add_le_add_left (by decide : 1 + PySem.W.Datum.depth Int ≤ 64) _) hu) fun i v h' tk hv hh hk => ?_
    obtain ⟨t, rfl⟩ := val_int rv (by simpa using hv) hh
    obtain ⟨h1, h2⟩ := maxOf_int x xs
    exact ⟨.int _, H, I.kept (t' := tk) hk, ⟨_, rfl⟩, q _ h1 h2⟩
theorem call_minT (hc : X.calm = true) (hu : X.A.units + 64 < cLine) (hK : X.K = Kx := by rfl) : CallR X (.builtin "min") (rMinT Kx) := by
  subst hK
  intro pins s σ H vs us Q I r h
  obtain ⟨a, ns, rfl, hs, hne, q⟩ := h
  rw [Vals.ref1 r]
  obtain ⟨its, rv, p, _⟩ := I.tuple hs
  cases ns with
  | nil => exact absurd hne (by simp)
  | cons x xs =>
    obtain ⟨ads, rd⟩ := Dp.readsAll I ((x :: xs).map PyData.int) _ _ (dpa_of_ints (x :: xs)) rv
    refine PySem.W.min_tuple_datum (α := Int) (x := x) (xs := xs) (I.ok.hd hc) p ⟨ads, rd⟩ (by show X.A.units + 1 + _ < _; exact Nat.lt_of_le_of_lt (Nat.add_le_add_left (by decide : 1 + PySem.W.Datum.depth Int ≤ 64) _) hu) fun i v h' tk hv hh hk => ?_
    obtain ⟨t, rfl⟩ := val_int rv (by simpa using hv) hh
    obtain ⟨h1, h2⟩ := minOf_int x xs
    exact ⟨.int _, H, I.kept (t' := tk) hk, ⟨_, rfl⟩, q _ h1 h2⟩
end
end Gb
set_option maxRecDepth 100000
set_option maxHeartbeats 4000000
namespace Gb
open PySem PySem.Spec PyProof.Rows L2
open PySem.W (Datum Tup T4)
/-- the for over a range, left by a break or at its end with the same known -/
theorem for_rangeK {lo : Int} {n : Nat} {g : TG} {tb : TS} {D : Ends} {σ : L2.St} {H : Hp} (Bk : L2.St → Hp → Prop) (Pv : Nat → L2.St → Hp → Prop) (h0 : Pv 0 σ H)
    (hs : ∀ (NX : L2.St → Hp → Prop), (∀ σ H, Bk σ H → NX σ H) → ∀ i σ H, i < n → Pv i σ H → g (.int (lo + i)) σ H fun σ2 H2 => tb { D with nx := Pv (i + 1), ct := Pv (i + 1), bk := NX } σ2 H2) (hp : ∀ σ H, Pv n σ H → Bk σ H) (hd : ∀ σ H, Bk σ H → D.nx σ H) :
    ∃ W : Nat → Nat → L2.St → Hp → Prop, (∃ m, W 0 m σ H) ∧ ∀ i m σ H, W i m σ H →
      ((Itr lo n).stop i H ∧ D.nx σ H) ∨ ((Itr lo n).go i H ∧ ∃ N : L2.St → Hp → Prop, (∀ σ' H', N σ' H' → ∃ m', m' < m ∧ W (i + 1) m' σ' H') ∧ ∀ x H', (Itr lo n).yld i H x H' → g x σ H' fun σ2 H2 => tb { D with nx := N, ct := N, bk := D.nx } σ2 H2) :=
  for_range Pv h0 (hs D.nx hd) fun σ H h => hd _ _ (hp _ _ h)
theorem for_rangeCK {lo c : Int} {n : Nat} {g : TG} {tb : TS} {D : Ends} {σ : L2.St} {H : Hp} (Bk : L2.St → Hp → Prop) (Pv : Nat → L2.St → Hp → Prop) (h0 : Pv 0 σ H)
    (hs : ∀ (NX : L2.St → Hp → Prop), (∀ σ H, Bk σ H → NX σ H) → ∀ i σ H, i < n → Pv i σ H → g (.int (lo + (i : Nat) * c)) σ H fun σ2 H2 => tb { D with nx := Pv (i + 1), ct := Pv (i + 1), bk := NX } σ2 H2) (hp : ∀ σ H, Pv n σ H → Bk σ H) (hd : ∀ σ H, Bk σ H → D.nx σ H) :
    ∃ W : Nat → Nat → L2.St → Hp → Prop, (∃ m, W 0 m σ H) ∧ ∀ i m σ H, W i m σ H →
      ((Itc lo c n).stop i H ∧ D.nx σ H) ∨ ((Itc lo c n).go i H ∧ ∃ N : L2.St → Hp → Prop, (∀ σ' H', N σ' H' → ∃ m', m' < m ∧ W (i + 1) m' σ' H') ∧ ∀ x H', (Itc lo c n).yld i H x H' → g x σ H' fun σ2 H2 => tb { D with nx := N, ct := N, bk := D.nx } σ2 H2) :=
  for_rangeC Pv h0 (hs D.nx hd) fun σ H h => hd _ _ (hp _ _ h)
/-! ### what is equal -/
def stD (p : List Int × List Int) : Tup (Tup Int) := ⟨[⟨p.1⟩, ⟨p.2⟩]⟩
theorem row_is {K : PySem.W.Frag} {H : Hp} {a : Addr} {ns : List Int} (h : H a = some (rowH ns)) : Is K H (.ref a) (⟨ns⟩ : Tup Int) := .tup (SqT.of h) (dpa_of_ints ns)
theorem st_is {K : PySem.W.Frag} {H : Hp} {v : V} {p : List Int × List Int} (h : StAt H v p.1 p.2) : Is K H v (stD p) := by
  obtain ⟨t, a, b, rfl, h1, h2, h3⟩ := h
  exact .tup (SqT.of h1) (.cons (row_is h2) (.cons (row_is h3) .nil))
/-! ### to and fro -/
theorem zip_back {g : List Int} : ∀ {o : List Int}, g.length = o.length → List.zipWith (· - ·) g (List.zipWith (· - ·) g o) = o := by
  induction g with
  | nil =>
    intro o h
    cases o with
    | nil => rfl
    | cons _ _ => simp at h
  | cons x g ih =>
    intro o h
    cases o with
    | nil => simp at h
    | cons y o =>
      rw [List.zipWith_cons_cons, List.zipWith_cons_cons, ih (by simpa using h)]
      have : x - (x - y) = y := by omega
      rw [this]
theorem back_for {M : Nat → Nat → Int} {s : Nat} {p : List Int × List Int} (h : p.1.length = s) : stepB M s (stepF M s p) = p := by
  unfold stepB stepF
  show (List.zipWith _ _ _, p.2) = p
  rw [zip_back (by rw [gains_len, h])]
def swp (p : List Int × List Int) : List Int × List Int := (p.2, p.1)
theorem back_swp {M : Nat → Nat → Int} {s : Nat} {p : List Int × List Int} : stepB M s (swp p) = swp (stepF M s p) := rfl
theorem run_len {M : Nat → Nat → Int} {s : Nat} {p : List Int × List Int} (h1 : p.1.length = s) (h2 : p.2.length = s) : ∀ k, (runF M s p k).1.length = s ∧ (runF M s p k).2.length = s
  | 0 => ⟨h1, h2⟩
  | k + 1 => by
    obtain ⟨a, b⟩ := run_len (M := M) h1 h2 k
    refine ⟨b, ?_⟩
    show (List.zipWith _ _ _).length = s
    rw [List.length_zipWith, gains_len, a]
    exact Nat.min_self s
/-! ### webs of ties -/
theorem setM_le {M : Nat → Nat → Int} {i j : Nat} {x : Int} (h : ∀ i j, 0 ≤ M i j ∧ M i j ≤ 9) (hx : 0 ≤ x ∧ x ≤ 9) : ∀ a b, 0 ≤ setM M i j x a b ∧ setM M i j x a b ≤ 9 := fun a b => by
  unfold setM
  split
  · exact hx
  · exact h a b
theorem mat_le {s : Int} : ∀ {ts : List Tie}, (∀ t ∈ ts, TieOk 9 s t) → ∀ i j, 0 ≤ matOf ts i j ∧ matOf ts i j ≤ 9 := by
  have gen : ∀ (ts : List Tie) (M : Nat → Nat → Int), (∀ i j, 0 ≤ M i j ∧ M i j ≤ 9) → (∀ t ∈ ts, TieOk 9 s t) → ∀ i j, 0 ≤ ts.foldl tieM M i j ∧ ts.foldl tieM M i j ≤ 9 := by
    intro ts
    induction ts with
    | nil => exact fun M h _ => h
    | cons t ts ih =>
      intro M h hok
      have o := hok t List.mem_cons_self
      rw [List.foldl_cons]
      exact ih _ (setM_le (setM_le h ⟨by have := o.c1; omega, o.cm⟩) ⟨by have := o.d1; omega, o.dm⟩) fun t' h' => hok t' (List.mem_cons_of_mem _ h')
  exact fun {ts} h => gen ts _ (fun _ _ => ⟨by decide, by decide⟩) h
theorem ties_len {s : Nat} {ts : List Tie} (h : TiesOk 9 (s : Int) ts) : ts.length ≤ (pairsOf s).length := by
  have h1 := nd_len (l := ts.map fun t => (t.a, t.b)) (m := (pairsOf s).map fun p => ((p.1 : Int), (p.2 : Int))) h.nd fun x hx => by
    obtain ⟨t, ht, rfl⟩ := List.mem_map.mp hx
    have o := h.all t ht
    obtain ⟨na, hna⟩ := Int.eq_ofNat_of_zero_le o.a0
    obtain ⟨nb, hnb⟩ := Int.eq_ofNat_of_zero_le (Int.le_of_lt (Int.lt_of_le_of_lt o.a0 o.ab))
    have h1 := o.ab
    have h2 := o.bs
    refine List.mem_map.mpr ⟨(na, nb), ?_, by rw [hna, hnb]⟩
    unfold pairsOf
    refine List.mem_flatMap.mpr ⟨na, List.mem_range.mpr (by omega), List.mem_map.mpr ⟨nb - (na + 1), List.mem_range.mpr (by omega), ?_⟩⟩
    rw [show na + 1 + (nb - (na + 1)) = nb by omega]
  rw [List.length_map, List.length_map] at h1
  exact h1
theorem pairs_8 : ∀ {s : Nat}, s ≤ 8 → (pairsOf s).length ≤ 63 := by
  intro s h
  match s, h with
  | 0, _ => decide
  | 1, _ => decide
  | 2, _ => decide
  | 3, _ => decide
  | 4, _ => decide
  | 5, _ => decide
  | 6, _ => decide
  | 7, _ => decide
  | 8, _ => decide
theorem StAt.ex' {H H' : Hp} {v : V} {o n : List Int} (e : Ex H H') (h : StAt H v o n) : StAt H' v o n := h.same e
theorem WebAt.ex' {C : Addr} {H H' : Hp} {wa : Addr} {s : Nat} {M : Nat → Nat → Int} (e : Ex H H') (h : WebAt C H wa s M) : WebAt C H' wa s M := by
  obtain ⟨h1, h2, dx, r, rs, a, b, c, d⟩ := h
  exact ⟨h1, h2, dx, r, rs, e _ _ a trivial, e _ _ b trivial, c, fun i x q => e _ _ (d i x q) trivial⟩
end Gb
set_option maxRecDepth 100000
set_option maxHeartbeats 4000000
/-! Parts of a web: need_post, cords, tied_to, _part_of, parts. -/
namespace Gb
open PySem PySem.Spec PyProof.Rows L2
open PySem.W (Datum Tup T4)
section
variable {X : Cx} {Kx : PySem.W.Frag} {k j : Nat} {x m : Str} {C : Addr} {sp : Sp} {p pos apos : Pos} {e o : Expr} {es : List Expr} {ta : TE} {t : TA}
theorem pe_mt {pl : Sem Bool} (c : ClM X.prog X.w X.K X.mg X.base k C m sp) (hr : Room j X.A) (hk : k ≤ j) (he : PE X o ta) (ha : PA X (e :: es) t)
    (hst : starEach (e :: es) X.env = (false, eval e X.env) :: starEach es X.env := by rfl) (hpl : (backTo pos (starEach es X.env)).any (·.1) = false := by rfl)
    (ht : eval (.Call (.Attribute o m apos) (e :: es) [] pos) X.env = (do
      let ov ← eval o X.env
      standAt apos.atName
      let (f, first) ← holding [ov] (getMethod ov m pl)
      callWith pos f first (backTo pos (starEach (e :: es) X.env)) (backToKw pos (keywordEach [] X.env))) := by rfl) :
    PE X (.Call (.Attribute o m apos) (e :: es) [] pos) (tMeth C m sp [] E0 ta t) := by
  obtain ⟨f, fd, ps, F, M, b⟩ := c.ex
  exact pe_meth he c.cls M F (hr.mono hk) b .nil pass0 ha hst hpl ht
theorem op_notInK (hK : X.K = Kx := by rfl) : OpR X (compareOp .NotIn) (rIn Kx true) := by
  subst hK
  exact op_notIn_seq
theorem cr_anyK (hc : X.calm = true) (hK : X.K = Kx := by rfl) : CallR X (.builtin "any") (rAny Kx) := by
  subst hK
  exact cr_any hc
end
def natV (L : List Nat) : List V := L.map fun (i : Nat) => V.int (i : Int)
theorem natV_get {L : List Nat} {i : Nat} {y : V} (h : (natV L)[i]? = some y) : ∃ m, L[i]? = some m ∧ y = .int (m : Nat) := by
  unfold natV at h
  rw [List.getElem?_map] at h
  cases e : L[i]? with
  | none =>
    rw [e] at h
    cases h
  | some m =>
    rw [e] at h
    exact ⟨m, rfl, (Option.some.inj h).symm⟩
theorem natV_flat : ∀ L : List Nat, (natV L).all flatV = true
  | [] => rfl
  | _ :: L => natV_flat L
theorem eqV_nat {a b : Nat} : eqV (.int (a : Int)) (.int (b : Int)) = decide (a = b) := by
  show ((a : Int) == (b : Int)) = decide (a = b)
  by_cases h : a = b
  · subst h
    simp
  · rw [decide_eq_false h]
    exact beq_eq_false_iff_ne.mpr fun e => h (Int.ofNat.inj e)
theorem inV_nat {i : Nat} : ∀ {L : List Nat}, inV (.int (i : Int)) (natV L) = decide (i ∈ L)
  | [] => rfl
  | a :: L => by
    show (eqV (.int (a : Int)) (.int (i : Int)) || inV (.int (i : Int)) (natV L)) = _
    rw [inV_nat, eqV_nat]
    by_cases h : a = i
    · subst h
      simp
    · rw [decide_eq_false h, Bool.false_or]
      congr 1
      exact propext ⟨fun h' => List.mem_cons_of_mem _ h', fun h' => (List.mem_cons.mp h').elim (fun e => absurd e.symm h) id⟩
/-- the posts that a post is tied to -/
def nbr (M : Nat → Nat → Int) (s i : Nat) : List Nat := (List.range s).filter fun j => decide (0 < M i j)
theorem mem_nbr {M : Nat → Nat → Int} {s i j : Nat} : j ∈ nbr M s i ↔ j < s ∧ 0 < M i j := by
  unfold nbr
  rw [List.mem_filter, List.mem_range, decide_eq_true_iff]
def slotNat (σ : L2.St) (i : Nat) : Nat := match σ[i]? with
  | some (some (V.int a)) => a.toNat
  | _ => 0
inductive Reach (M : Nat → Nat → Int) (s p : Nat) : Nat → Prop where
  | here : Reach M s p p
  | step {i j : Nat} (h : Reach M s p i) (hj : j ∈ nbr M s i) : Reach M s p j
structure PartOf (M : Nat → Nat → Int) (s p : Nat) (L : List Nat) : Prop where
  up : L.Pairwise (· < ·)
  iff_ : ∀ j, j ∈ L ↔ Reach M s p j
section
variable {P : Program} {w : World} {K : PySem.W.Frag} {mg : Str → Option Value} {base : Heap}
def spNeedPost (C : Addr) : Sp := fun vs H Q _ => ∃ (x : Addr) (s i : Nat) (M : Nat → Nat → Int), vs = [.ref x, .int (i : Int)] ∧ WebAt C H x s M ∧ i < s ∧ Q .non H
theorem sc_need_post : FnScope ["web", "post"] ["web", "post"] (defScope s_need_post) := ⟨rfl, rfl, rfl, by decide +kernel, rfl, by decide +kernel, by decide +kernel⟩
theorem ok_need_post (D : Dn K mg "need_post" s_need_post ["web", "post"]) (B : Bt mg) {C : Addr} (c_is_between : Cl P w K mg base 2 "is_between" spBetween) (m_len : ClM P w K mg base 1 C "__len__" (spLen C)) : Cl P w K mg base 3 "need_post" (spNeedPost C) := by
  refine cl_of D sc_need_post (fun vs H Q E h => ?_) (fun cdv f A outer s H vs Q E hr h => ?_)
  · obtain ⟨x, s, i, M, rfl, _⟩ := h
    rfl
  · obtain ⟨x, s, i, M, rfl, hW, hi, q⟩ := h
    have nd := sc_need_post.nd
    obtain ⟨_, hs12, dx, rr, rs, hx, _⟩ := id hW
    refine ⟨_, (pss_one (ps_if (pt_not (pt_val (pe_c c_is_between hr (by decide) (by rfl) (pa_cons (pv 1) (pa_cons pe_int (pa_cons (pe_op op_sub (pe_callB (call_lenM m_len hr (by decide)) (by rfl) B.len PySem.boot_len (pa_cons (pv 0) pa_nil)) pe_int) pa_nil))))))
    (pss_one ps_never)
    pss_nil)), ?_⟩
    exact ⟨.int i, rfl, .ref x, rfl, x, dx, _, rfl, hx, x, s, M, rfl, hW, s, rfl, Nat.lt_of_le_of_lt hs12 (by decide), s, 1, rfl, rfl, i, 0, (s : Int) - 1, rfl, by omega, by omega, true, rfl, q⟩
def spCords (C : Addr) : Sp := fun vs H Q _ => ∃ (x : Addr) (s i j : Nat) (M : Nat → Nat → Int), vs = [.ref x, .int (i : Int), .int (j : Int)] ∧ WebAt C H x s M ∧ i < s ∧ j < s ∧ Q (.int (M i j)) H
theorem sc_Web_cords : FnScope ["self", "one", "other"] ["self", "one", "other"] (defScope s_Web_cords) := ⟨rfl, rfl, rfl, by decide +kernel, rfl, by decide +kernel, by decide +kernel⟩
theorem ok_cords {C : Addr} (D : DnM K C "cords" "Web.cords" s_Web_cords ["self", "one", "other"]) (B : Bt mg) (W : Wb K mg C) (c_need_post : Cl P w K mg base 3 "need_post" (spNeedPost C)) : ClM P w K mg base 4 C "cords" (spCords C) := by
  refine clm_of D W.cls sc_Web_cords (fun vs H Q E h => ?_) (fun cdv f A outer s H vs Q E hr h => ?_)
  · obtain ⟨x, s, i, j, M, rfl, _⟩ := h
    rfl
  · obtain ⟨x, s, i, j, M, rfl, hW, hi, hj, q⟩ := h
    obtain ⟨_, _, dx, r, rs, h1, h2, h3, h4⟩ := id hW
    have nd := sc_Web_cords.nd
    refine ⟨_, (pss_cons (ps_expr (pe_c c_need_post hr (by decide) (by rfl) (pa_cons (pv 0) (pa_cons (pv 1) pa_nil))))
    (pss_cons (ps_expr (pe_c c_need_post hr (by decide) (by rfl) (pa_cons (pv 0) (pa_cons (pv 2) pa_nil))))
    (pss_one (ps_ret (pe_ix ix_tupK (pe_ix ix_tupK (pe_fldK (pv 0) rfl) (pv 1) (fun _ _ => rfl)) (pv 2) (fun _ _ => rfl)))))), ?_⟩
    have g1 : rs[i]? = some (rs[i]'(by omega)) := List.getElem?_eq_getElem _
    have e1 : atI (rs.map V.ref) (i : Int) = some (.ref (rs[i]'(by omega))) := atI_nat (by rw [List.getElem?_map, g1]; rfl)
    exact ⟨.ref x, rfl, .int i, rfl, x, s, i, M, rfl, hW, hi, .ref x, rfl, .int j, rfl, x, s, j, M, rfl, hW, hj,
      .ref x, rfl, x, C, dx, _, .ref r, rfl, h1, W.cls, W.noat, rfl, .int i, rfl, r, _, i, _, rfl, rfl, SqT.of h2, e1, .int j, rfl, _, _, j, _, rfl, rfl, SqT.of (h4 _ _ g1), atI_nat (rowV_get hj), q⟩
def spTied (C : Addr) : Sp := fun vs H Q _ => ∃ (x : Addr) (s i : Nat) (M : Nat → Nat → Int), vs = [.ref x, .int (i : Int)] ∧ WebAt C H x s M ∧ i < s ∧ ∀ l H', Same H H' → H l = none → H' l = some (.lst (natV (nbr M s i))) → Q (.ref l) H'
theorem sc_tied_to : FnScope ["web", "post", "other"] ["web", "post"] (defScope s_tied_to) := ⟨rfl, rfl, rfl, by decide +kernel, rfl, by decide +kernel, by decide +kernel⟩
theorem ok_tied_to (D : Dn K mg "tied_to" s_tied_to ["web", "post"]) (B : Bt mg) {C : Addr} (m_cords : ClM P w K mg base 4 C "cords" (spCords C)) (m_len : ClM P w K mg base 1 C "__len__" (spLen C)) : Cl P w K mg base 5 "tied_to" (spTied C) := by
  refine cl_of D sc_tied_to (fun vs H Q E h => ?_) (fun cdv f A outer s H vs Q E hr h => ?_)
  · obtain ⟨x, s, i, M, rfl, _⟩ := h
    rfl
  · obtain ⟨x, s, i, M, rfl, hW, hi, q⟩ := h
    have nd := sc_tied_to.nd
    obtain ⟨_, hs12, dx, rr, rs, hx, _⟩ := id hW
    refine ⟨_, (pss_one (ps_ret (pe_lc (own := [("other", 2)]) rfl nd (pi_range1 (by rfl) B.range (pa_cons (pe_callB (call_lenM m_len hr (by decide)) (by rfl) B.len PySem.boot_len (pa_cons (pv 0) pa_nil)) pa_nil)) (blkOk_by (N := ["web", "post", "other"]) (sc := defScope s_tied_to) (by decide +kernel)) (fun _ _ _ _ _ => (pg_name (i := 2) nd rfl (.inl rfl))) (fun _ _ _ _ _ => (pts_one (pt_cmpR op_gt (pe_mt m_cords hr (by decide) (pv 0) (pa_cons (pv 1) (pa_cons (pv 2) pa_nil))) pe_int (nomark _)))) (fun _ _ _ _ _ => (pv 2))))), ?_⟩
    have hsI : ((s : Nat) : Int).toNat = s := Int.toNat_natCast s
    refine ⟨.ref x, rfl, x, dx, _, rfl, hx, x, s, M, rfl, hW, s, rfl, Nat.lt_of_le_of_lt hs12 (by decide), s, rfl, by omega, by omega, fun D hD => ?_⟩
    rw [hsI]
    refine lc_range (lo := 0) (n := s) (fun k H' => LocS H H' D (natV ((List.range k).filter fun j => decide (0 < M i j)))) (LocS.start (Same.refl H) hD) ?_ ?_
    · intro k H' hk L
      have ek : V.int (0 + (k : Int)) = .int (k : Int) := by rw [Int.zero_add]
      have evs : ([.ref x, .int (i : Int), .int (0 + (k : Int))] : List V) = [.ref x, .int (i : Int), .int (k : Int)] := by rw [ek]
      by_cases hm : 0 < M i k
      · refine ⟨rfl, .ref x, rfl, x, dx, _, rfl, L.done _ _ hx, rfl, .int i, rfl, .int (0 + (k : Int)), rfl, x, s, i, k, M, evs, hW.mono L.done, hi, hk, M i k, 0, rfl, rfl, true, vlt hm, ?_⟩
        refine ⟨.int (0 + (k : Int)), rfl, _, L.at_, ?_, ?_⟩
        · unfold natV
          rw [List.length_map]
          have := List.length_filter_le (fun j => decide (0 < M i j)) (List.range k)
          rw [List.length_range] at this
          exact Nat.lt_of_le_of_lt (by omega : _ ≤ 12) (by decide)
        · have e : natV ((List.range (k + 1)).filter fun j => decide (0 < M i j)) = natV ((List.range k).filter fun j => decide (0 < M i j)) ++ [.int (0 + (k : Int))] := by
            unfold natV
            rw [List.range_succ, List.filter_append, List.map_append, ek, List.filter_cons, decide_eq_true hm]
            rfl
          rw [e]
          exact L.set
      · refine ⟨rfl, .ref x, rfl, x, dx, _, rfl, L.done _ _ hx, rfl, .int i, rfl, .int (0 + (k : Int)), rfl, x, s, i, k, M, evs, hW.mono L.done, hi, hk, M i k, 0, rfl, rfl, false, vltf hm, ?_⟩
        have e : natV ((List.range (k + 1)).filter fun j => decide (0 < M i j)) = natV ((List.range k).filter fun j => decide (0 < M i j)) := by
          unfold natV
          rw [List.range_succ, List.filter_append, List.filter_cons, decide_eq_false hm]
          simp
        show LocS H H' D _
        rw [e]
        exact L
    · intro H' L
      exact q D H' L.done hD L.at_
def spPart (C : Addr) : Sp := fun vs H Q _ => ∃ (x : Addr) (s i : Nat) (M : Nat → Nat → Int), vs = [.ref x, .int (i : Int)] ∧ WebAt C H x s M ∧ i < s ∧ ∀ l H' L, Same H H' → H l = none → H' l = some (.lst (natV L)) → PartOf M s i L → Q (.ref l) H'
theorem sc_Web__part_of : FnScope ["self", "post", "reached", "at", "ahead", "other"] ["self", "post"] (defScope s_Web__part_of) := ⟨rfl, rfl, rfl, by decide +kernel, rfl, by decide +kernel, by decide +kernel⟩
theorem ok_part_of {C : Addr} (D : DnM K C "_part_of" "Web._part_of" s_Web__part_of ["self", "post"]) (B : Bt mg) (Bs : mg "sorted" = none) (W : Wb K mg C) (c_tied_to : Cl P w K mg base 5 "tied_to" (spTied C)) : ClM P w K mg base 6 C "_part_of" (spPart C) := by
  refine clm_of D W.cls sc_Web__part_of (fun vs H Q E h => ?_) (fun cdv f A outer s H vs Q E hr h => ?_)
  · obtain ⟨x, s, i, M, rfl, _⟩ := h
    rfl
  · obtain ⟨x, s, i, M, rfl, hW, hi, q⟩ := h
    have nd := sc_Web__part_of.nd
    refine ⟨_, (pss_cons (ps_set (i := 2) nd rfl (.inr rfl) (pe_lst (pa_cons (pv 1) pa_nil)))
    (pss_cons (ps_set (i := 3) nd rfl (.inl rfl) pe_int)
    (pss_cons (ps_while PassesOwn.never (pt_cmpR op_lt (pv 3) (pe_callB call_lenK (by rfl) B.len PySem.boot_len (pa_cons (pv 2) pa_nil)) (nomark _))
    (pss_cons (ps_setLc (i := 4) (own := [("other", 5)]) rfl nd rfl rfl (sw_true rfl rfl rfl (by decide +kernel)) (pi_listK (pe_c c_tied_to hr (by decide) (by rfl) (pa_cons (pv 0) (pa_cons (pe_ix ix_listK (pv 2) (pv 3) (fun _ _ => rfl)) pa_nil)))) (blkOk_by (N := ["self", "post", "reached", "at", "ahead", "other"]) (sc := defScope s_Web__part_of) (by decide +kernel)) (fun _ _ _ _ _ => (pg_name (i := 5) nd rfl (.inl rfl))) (fun _ _ _ _ _ => (pts_one (pt_cmpR op_notInK (pv 5) (pv 2) (by rfl)))) (fun _ _ _ _ _ => (pv 5)))
    (pss_cons (ps_expr (pe_bmK PySem.F.plainAttrs_list PySem.F.slot_list_extend PySem.F.type_list_extend mt_extend (pv 2) (pa_cons (pv 4) pa_nil)))
    (pss_one (ps_aug (i := 3) nd rfl (.inl rfl) pe_int ip_add)))))
    (pss_one (ps_ret (pe_callB cr_sorted (by rfl) Bs (by decide +kernel) (pa_cons (pv 2) pa_nil))))))), ?_⟩
    refine ⟨.int i, rfl, by show 1 ≤ sizeLine; decide, fun l hl => ?_⟩
    have nd_le : ∀ R : List Nat, R.Nodup → (∀ j ∈ R, j < s) → R.length ≤ s := fun R h1 h2 => by
      have := nd_len (m := List.range s) h1 fun j hj => List.mem_range.mpr (h2 j hj)
      rw [List.length_range] at this
      exact this
    have hs12 := hW.s12
    refine while_by (fun σ H' => ∃ (R : List Nat) (a : Nat) (u4 u5 : Option V), σ = [some (.ref x), some (.int (i : Int)), some (.ref l), some (.int (a : Int)), u4, u5] ∧ LocS H H' l (natV R) ∧ R.Nodup ∧ (∀ j ∈ R, Reach M s i j ∧ j < s) ∧ i ∈ R ∧ a ≤ R.length ∧ ∀ k r, k < a → R[k]? = some r → ∀ j ∈ nbr M s r, j ∈ R)
      (fun σ _ => s + 1 - slotNat σ 3)
      ⟨[i], 0, _, _, rfl, LocS.start (Same.refl H) hl, List.pairwise_singleton _ _, (fun j hj => by rw [List.mem_singleton.mp hj]; exact ⟨.here, hi⟩), List.mem_cons_self, Nat.zero_le _, (fun k r hk => absurd hk (Nat.not_lt_zero k))⟩ ?_ ?_
    · rintro σ H1 ⟨R, a, u4, u5, rfl, L, hnd, hre, hiR, hal, hcl⟩
      have hRl : (natV R).length = R.length := List.length_map ..
      have hRs := nd_le R hnd fun j hj => (hre j hj).2
      by_cases ha : a < R.length
      · have hac : (a : Int) < ((natV R).length : Int) := by omega
        refine ⟨.int a, rfl, .ref l, rfl, l, natV R, rfl, .inl (SqL.of L.at_), a, ((natV R).length : Int), rfl, rfl, true, vlt hac, ?_⟩
        have hr0 : R[a]? = some (R[a]'ha) := List.getElem?_eq_getElem ha
        generalize R[a]'ha = r at hr0
        have hrm := List.mem_of_getElem? hr0
        have ixr : atI (natV R) (a : Int) = some (.int (r : Nat)) := atI_nat (by unfold natV; rw [List.getElem?_map, hr0]; rfl)
        refine ⟨.ref x, rfl, .ref l, rfl, .int a, rfl, l, natV R, a, .int (r : Nat), rfl, rfl, SqL.of L.at_, ixr, x, s, r, M, rfl, hW.mono L.done, (hre r hrm).2, fun l2 H2 s2 hl20 hl2 => ?_⟩
        refine ⟨l2, rfl, ⟨_, SqL.of hl2⟩, fun D0 hD => ?_⟩
        have hl2' : H2 l = some (.lst (natV R)) := s2 _ _ L.at_
        refine lc_list (K := K) (a := l2) (xs := natV (nbr M s r)) (fun k H3 => LocS H2 H3 D0 (natV (((nbr M s r).take k).filter fun j => !decide (j ∈ R)))) (LocS.start (Same.refl H2) hD) (fun k H3 _ L3 => SqL.of (L3.done _ _ hl2)) ?_ ?_
        · intro k y H3 hy L3
          obtain ⟨m, hm, rfl⟩ := natV_get hy
          have ht' : (nbr M s r).take (k + 1) = (nbr M s r).take k ++ [m] := by
            rw [List.take_add_one, hm]
            rfl
          have hlen : ((nbr M s r).take k).length ≤ s := by
            have h1 := List.length_filter_le (fun j => decide (0 < M r j)) (List.range s)
            rw [List.length_range] at h1
            have h2 : (nbr M s r).length ≤ s := h1
            rw [List.length_take]
            omega
          by_cases hmR : m ∈ R
          · refine ⟨rfl, .int (m : Nat), rfl, .ref l, rfl, l, natV R, rfl, .inl (SqL.of (L3.done _ _ hl2')), rfl, natV_flat R, false, ?_, ?_⟩
            · show V.bl (!inV (.int (m : Nat)) (natV R)) = _
              rw [inV_nat, decide_eq_true hmR]
              rfl
            · show LocS H2 H3 D0 _
              rw [ht', List.filter_append, List.filter_cons, decide_eq_true hmR]
              simpa using L3
          · refine ⟨rfl, .int (m : Nat), rfl, .ref l, rfl, l, natV R, rfl, .inl (SqL.of (L3.done _ _ hl2')), rfl, natV_flat R, true, ?_, ?_⟩
            · show V.bl (!inV (.int (m : Nat)) (natV R)) = _
              rw [inV_nat, decide_eq_false hmR]
              rfl
            · refine ⟨.int (m : Nat), rfl, _, L3.at_, ?_, ?_⟩
              · unfold natV
                rw [List.length_map]
                have := List.length_filter_le (fun j => !decide (j ∈ R)) ((nbr M s r).take k)
                exact Nat.lt_of_le_of_lt (by omega : _ ≤ 12) (by decide)
              · have e : natV (((nbr M s r).take (k + 1)).filter fun j => !decide (j ∈ R)) = natV (((nbr M s r).take k).filter fun j => !decide (j ∈ R)) ++ [.int (m : Nat)] := by
                  unfold natV
                  rw [ht', List.filter_append, List.map_append, List.filter_cons, decide_eq_false hmR]
                  rfl
                rw [e]
                exact L3.set
        · intro H3 L3
          have hfull : (nbr M s r).take (natV (nbr M s r)).length = nbr M s r := by
            unfold natV
            rw [List.length_map, List.take_length]
          rw [hfull] at L3
          have hAl : ((nbr M s r).filter fun j => !decide (j ∈ R)).length ≤ s := by
            have h0 := List.length_filter_le (fun j => !decide (j ∈ R)) (nbr M s r)
            have h1 := List.length_filter_le (fun j => decide (0 < M r j)) (List.range s)
            rw [List.length_range] at h1
            have h2 : (nbr M s r).length ≤ s := h1
            omega
          have hAn : ((nbr M s r).filter fun j => !decide (j ∈ R)).Nodup := (List.nodup_range.filter _).filter _
          have hAm : ∀ j, j ∈ ((nbr M s r).filter fun j => !decide (j ∈ R)) ↔ j ∈ nbr M s r ∧ j ∉ R := fun j => by
            rw [List.mem_filter]
            simp
          generalize ((nbr M s r).filter fun j => !decide (j ∈ R)) = Ah at L3 hAl hAn hAm
          have hl3 : H3 l = some (.lst (natV R)) := L3.done _ _ hl2'
          have hne : D0 ≠ l := fun e => by
            rw [e, hl2'] at hD
            cases hD
          refine ⟨.ref l, rfl, .inl ⟨rfl, _, SqL.of hl3⟩, .ref D0, rfl, l, D0, natV R, natV Ah, rfl, rfl, hl3, L3.at_, ?_, ?_⟩
          · unfold natV
            rw [List.length_map, List.length_map]
            exact Nat.le_trans (by omega : _ ≤ 24) (by decide)
          have eapp : natV R ++ natV Ah = natV (R ++ Ah) := (List.map_append ..).symm
          rw [eapp]
          have s13 : Same H1 H3 := s2.trans L3.done
          refine ⟨.int a, rfl, a, 1, rfl, rfl, ⟨R ++ Ah, a + 1, _, _, by show _ = [_, _, _, some (V.int ((a + 1 : Nat) : Int)), _, _]; rw [Int.natCast_add]; rfl, ?_, ?_, ?_, ?_, ?_, ?_⟩, ?_⟩
          · exact (L.call s13).set
          · exact List.nodup_append.mpr ⟨hnd, hAn, fun u hu w hw e => ((hAm w).mp hw).2 (e ▸ hu)⟩
          · intro j hj
            rcases List.mem_append.mp hj with hj | hj
            · exact hre j hj
            · have hjn := ((hAm j).mp hj).1
              exact ⟨.step (hre r hrm).1 hjn, (mem_nbr.mp hjn).1⟩
          · exact List.mem_append_left _ hiR
          · rw [List.length_append]
            omega
          · intro k r' hk hr' j hj
            by_cases hka : k < a
            · rw [List.getElem?_append_left (by omega)] at hr'
              exact List.mem_append_left _ (hcl k r' hka hr' j hj)
            · have hke : k = a := by omega
              subst hke
              rw [List.getElem?_append_left ha, hr0] at hr'
              obtain rfl : r = r' := Option.some.inj hr'
              by_cases hjR : j ∈ R
              · exact List.mem_append_left _ hjR
              · exact List.mem_append_right _ ((hAm j).mpr ⟨hj, hjR⟩)
          · show s + 1 - ((a : Int) + 1).toNat < s + 1 - (a : Int).toNat
            omega
      · have hac : ¬ (a : Int) < ((natV R).length : Int) := by omega
        refine ⟨.int a, rfl, .ref l, rfl, l, natV R, rfl, .inl (SqL.of L.at_), a, ((natV R).length : Int), rfl, rfl, false, vltf hac, ?_⟩
        have eR : natV R = (R.map fun (n : Nat) => (n : Int)).map V.int := by
          unfold natV
          rw [List.map_map]
          rfl
        refine ⟨.ref l, rfl, l, R.map fun (n : Nat) => (n : Int), rfl, SqL.of (by rw [← eR]; exact L.at_), by rw [List.length_map]; omega, fun ns' p hpm hpw hp => ?_⟩
        have hmem : ∀ z, z ∈ ns' ↔ ∃ n ∈ R, ((n : Nat) : Int) = z := fun z => by
          rw [hpm.mem_iff, List.mem_map]
        have hnn : ∀ z ∈ ns', ((z.toNat : Nat) : Int) = z := fun z hz => by
          obtain ⟨n, _, rfl⟩ := (hmem z).mp hz
          rw [Int.toNat_natCast]
        have eL : natV (ns'.map Int.toNat) = ns'.map V.int := by
          unfold natV
          rw [List.map_map]
          exact List.map_congr_left fun z hz => by show V.int ((z.toNat : Nat) : Int) = V.int z; rw [hnn z hz]
        have hnd' : ns'.Nodup := hpm.nodup_iff.mpr (List.pairwise_map.mpr (hnd.imp fun h e => h (Int.ofNat.inj e)))
        have hcl' : ∀ j, Reach M s i j → j ∈ R := fun j hj => by
          induction hj with
          | here => exact hiR
          | step _ hj ih =>
            obtain ⟨k, hk⟩ := List.getElem?_of_mem ih
            have hkl := (List.getElem?_eq_some_iff.mp hk).1
            exact hcl k _ (by omega) hk _ hj
        refine q p _ (ns'.map Int.toNat) (L.done.trans (same_new hp)) (L.done.free hp) (by rw [upd_same, eL]) ⟨?_, fun j => ?_⟩
        · refine List.pairwise_map.mpr ?_
          have both := List.Pairwise.and hpw hnd'
          refine both.imp_of_mem fun {u w} hu hw h => ?_
          have := hnn u hu
          have := hnn w hw
          have hne : u ≠ w := h.2
          have := h.1
          omega
        · constructor
          · intro hj
            obtain ⟨z, hz, rfl⟩ := List.mem_map.mp hj
            obtain ⟨n, hn, rfl⟩ := (hmem z).mp hz
            rw [Int.toNat_natCast]
            exact (hre n hn).1
          · intro hj
            exact List.mem_map.mpr ⟨(j : Int), (hmem _).mpr ⟨j, hcl' j hj, rfl⟩, Int.toNat_natCast j⟩
    · rintro σ H1 Q1 Q2 hQ ⟨v, e, v2, e2, q1, ys, e3, hs, i1, j1, e4, e5, k1, e6, hq⟩
      exact ⟨v, e, v2, e2, q1, ys, e3, hs, i1, j1, e4, e5, k1, e6, hQ _ _ hq⟩
end
end Gb
set_option maxRecDepth 100000
set_option maxHeartbeats 4000000
/-! Web.parts. -/
namespace Gb
open PySem PySem.Spec PyProof.Rows L2
open PySem.W (Datum Tup T4)
theorem all_bl : ∀ {ys : List V}, (∀ (i : Nat) (y : V), ys[i]? = some y → ∃ b, y = V.bl b) → ∃ bs : List Bool, ys = bs.map V.bl
  | [], _ => ⟨[], rfl⟩
  | y :: ys, h => by
    obtain ⟨bs, rfl⟩ := all_bl (ys := ys) fun i z e => h (i + 1) z e
    obtain ⟨b, rfl⟩ := h 0 y rfl
    exact ⟨b :: bs, rfl⟩
theorem ys_mapN {L : List Nat} {g : Nat → Int} : ∀ {ys : List V}, ys.length = L.length → (∀ (i : Nat) (y : V), ys[i]? = some y → ∀ m, L[i]? = some m → y = .int (g m)) → ys = (L.map g).map V.int := by
  induction L with
  | nil =>
    intro ys h _
    exact List.eq_nil_of_length_eq_zero h
  | cons n ns ih =>
    intro ys h f
    cases ys with
    | nil => simp at h
    | cons y ys =>
      rw [f 0 y rfl n rfl, ih (ys := ys) (by simpa using h) fun i z e m hm => f (i + 1) z e m hm]
      rfl
/-- the parts, by their first posts -/
structure Parts (M : Nat → Nat → Int) (s : Nat) (Ls : List (List Nat)) : Prop where
  part : ∀ L ∈ Ls, ∃ p, p < s ∧ PartOf M s p L
section
variable {P : Program} {w : World} {K : PySem.W.Frag} {mg : Str → Option Value} {base : Heap}
def spParts (C : Addr) : Sp := fun vs H Q _ => ∃ (x : Addr) (s : Nat) (M : Nat → Nat → Int), vs = [.ref x] ∧ WebAt C H x s M ∧ ∀ l H' (as_ : List Addr) (Ls : List (List Nat)), Same H H' → H l = none → H' l = some (.lst (as_.map V.ref)) → as_.length = Ls.length → (∀ (k : Nat) (a : Addr) (L : List Nat), as_[k]? = some a → Ls[k]? = some L → H' a = some (.lst (natV L))) → Ls.length ≤ s → Parts M s Ls → Q (.ref l) H'
theorem sc_Web_parts : FnScope ["self", "found", "post", "part"] ["self"] (defScope s_Web_parts) := ⟨rfl, rfl, rfl, by decide +kernel, rfl, by decide +kernel, by decide +kernel⟩
theorem ok_parts {C : Addr} (D : DnM K C "parts" "Web.parts" s_Web_parts ["self"]) (B : Bt mg) (Ba : mg "any" = none) (W : Wb K mg C) (m__part_of : ClM P w K mg base 6 C "_part_of" (spPart C)) : ClM P w K mg base 7 C "parts" (spParts C) := by
  refine clm_of D W.cls sc_Web_parts (fun vs H Q E h => ?_) (fun cdv f A outer s H vs Q E hr h => ?_)
  · obtain ⟨x, s, M, rfl, _⟩ := h
    rfl
  · obtain ⟨x, s, M, rfl, hW, q⟩ := h
    obtain ⟨hs1, hs12, dx, r, rs, h1, h2, h3, h4⟩ := id hW
    have nd := sc_Web_parts.nd
    refine ⟨_, (pss_cons (ps_set (i := 1) nd rfl (.inl rfl) (pe_lst pa_nil))
    (pss_cons (ps_for PassesOwn.never rfl (pi_range1 (by rfl) B.range (pa_cons (pe_callB call_lenK (by rfl) B.len PySem.boot_len (pa_cons (pe_fldK (pv 0) rfl) pa_nil)) pa_nil)) (pg_name (i := 2) nd rfl (.inr rfl))
    (pss_one (ps_if (pt_not (pt_val (pe_callB (cr_anyK rfl) (by rfl) Ba (by decide +kernel) (pa_cons (pe_lc (own := [("part", 3)]) rfl nd (pi_listK (pv 1)) (blkOk_by (N := ["self", "found", "post", "part"]) (sc := defScope s_Web_parts) (by decide +kernel)) (fun _ _ _ _ _ => (pg_name (i := 3) nd rfl (.inl rfl))) (fun _ _ _ _ _ => pts_nil) (fun _ _ _ _ _ => (pe_cmpR op_inK (pv 2) (pv 3) (by rfl)))) pa_nil))))
    (pss_one (ps_expr (pe_bmK PySem.F.plainAttrs_list PySem.F.slot_list_append PySem.F.type_list_append mt_append (pv 1) (pa_cons (pe_mt m__part_of hr (by decide) (pv 0) (pa_cons (pv 2) pa_nil)) pa_nil))))
    pss_nil)))
    (pss_one (ps_ret (pv 1))))), ?_⟩
    refine ⟨Nat.zero_le _, fun l hl => ?_⟩
    have s0 : Same H (upd H l (.lst [])) := same_new hl
    refine ⟨.ref x, rfl, x, C, dx, _, .ref r, rfl, s0 _ _ h1, W.cls, W.noat, rfl, r, _, rfl, .inr (SqT.of (s0 _ _ h2)), ?_⟩
    rw [List.length_map, h3]
    refine ⟨s, rfl, by omega, by omega, ?_⟩
    rw [Int.toNat_natCast]
    refine for_range (lo := 0) (n := s) (fun i σ H' => ∃ (Ls : List (List Nat)) (u2 u3 : Option V), σ = [some (.ref x), some (.ref l), u2, u3] ∧ Acc H H' l (Ls.map fun L => HO.lst (natV L)) ∧ (∀ L ∈ Ls, ∃ p, p < s ∧ PartOf M s p L) ∧ Ls.length ≤ i) ⟨[], _, _, rfl, Acc.start hl, (fun L h => by cases h), Nat.le_refl _⟩ ?_ ?_
    · rintro i σ H1 hi ⟨Ls, u2, u3, rfl, A1, hP, hLi⟩
      obtain ⟨fD, ⟨ads, a1, b1, c1, d1⟩, ol1⟩ := id A1
      rw [List.length_map] at b1
      refine ⟨.ref l, rfl, l, rfl, ⟨_, SqL.of a1⟩, fun D0 hD => ?_⟩
      refine lc_listG (k := 0) (fun _ y _ => ∃ b, y = V.bl b) (fun _ _ _ _ _ h => h) rel_same hD id (SqL.of a1) (by rw [List.length_map]; omega) ?_ ?_ ?_
      · intro k y H' hy sm _
        rw [List.getElem?_map] at hy
        cases e : ads[k]? with
        | none =>
          rw [e] at hy
          cases hy
        | some z =>
          rw [e] at hy
          obtain rfl : V.ref z = y := Option.some.inj hy
          have hk := (List.getElem?_eq_some_iff.mp e).1
          have hz := sm _ _ (d1 k z _ e (by rw [List.getElem?_map, List.getElem?_eq_getElem (by omega : k < Ls.length)]; rfl))
          exact ⟨rfl, rfl, fun Q' q' => ⟨.int (0 + (i : Int)), rfl, .ref z, rfl, z, natV Ls[k], rfl, .inl (SqL.of hz), rfl, natV_flat _, q' _ _ (fun _ _ h => h) ⟨_, rfl⟩⟩⟩
      · exact fun x σ H A B h hA => h _ _ hA
      · intro ys H2 hy hyl hz sm2 _
        obtain ⟨bs, rfl⟩ := all_bl hz
        have A2 := A1.same sm2
        refine ⟨D0, bs, rfl, SqL.of hy, bs.any id, rfl, ?_⟩
        cases bs.any id with
        | true => exact ⟨Ls, _, _, rfl, A2, hP, by omega⟩
        | false =>
          have al2 : H2 l = some (.lst (ads.map V.ref)) := sm2 _ _ a1
          have s2 : Same H H2 := A2.ol
          have evs : ([.ref x, .int (0 + (i : Int))] : List V) = [.ref x, .int (i : Int)] := by rw [Int.zero_add]
          refine ⟨.ref l, rfl, .inl ⟨rfl, _, SqL.of al2⟩, .ref x, rfl, x, dx, _, rfl, s2 _ _ h1, rfl, .int (0 + (i : Int)), rfl, x, s, i, M, evs, hW.mono s2, hi, fun l2 H3 L s3 hl20 hl2 hPL => ?_⟩
          have al3 := s3 _ _ al2
          have hne : l2 ≠ l := fun e => by
            rw [e, al2] at hl20
            cases hl20
          refine ⟨l, _, .ref l2, rfl, rfl, al3, ?_, Ls ++ [L], _, _, rfl, ?_, ?_, ?_⟩
          · rw [List.length_map]
            exact Nat.lt_of_le_of_lt (by omega : _ ≤ 12) (by decide)
          · have A3 := A2.same s3
            refine ⟨A3.fD, ⟨ads ++ [l2], ?_, ?_, ?_, ?_⟩, ?_⟩
            · rw [upd_same, List.map_append]
              rfl
            · rw [List.length_append, List.length_map, List.length_append, b1]
              rfl
            · intro z hz
              rcases List.mem_append.mp hz with hz | hz
              · exact c1 z hz
              · rw [List.mem_singleton.mp hz]
                exact ⟨s2.free hl20, hne⟩
            · intro k z o hk ho
              rw [List.map_append] at ho
              by_cases hlt : k < ads.length
              · rw [List.getElem?_append_left hlt] at hk
                rw [List.getElem?_append_left (by rw [List.length_map]; omega)] at ho
                rw [upd_ne (c1 z (List.mem_of_getElem? hk)).2]
                exact s3 _ _ (sm2 _ _ (d1 k z o hk ho))
              · rw [List.getElem?_append_right (by omega)] at hk
                rw [List.getElem?_append_right (by rw [List.length_map]; omega), List.length_map] at ho
                have h0 : k - ads.length = 0 := by
                  have := (List.getElem?_eq_some_iff.mp hk).1
                  have e1 : [l2].length = 1 := rfl
                  omega
                rw [h0] at hk
                rw [show k - Ls.length = 0 by omega] at ho
                have e1 : l2 = z := Option.some.inj hk
                have e2 : HO.lst (natV L) = o := Option.some.inj ho
                rw [← e1, ← e2, upd_ne hne]
                exact hl2
            · intro z o e
              rw [upd_ne (fun q => by rw [q, fD] at e; cases e)]
              exact A3.ol _ _ e
          · intro L' hL'
            rcases List.mem_append.mp hL' with h | h
            · exact hP L' h
            · rw [List.mem_singleton.mp h]
              exact ⟨i, hi, hPL⟩
          · rw [List.length_append]
            show Ls.length + 1 ≤ i + 1
            omega
    · rintro σ H1 ⟨Ls, u2, u3, rfl, A1, hP, hLi⟩
      obtain ⟨fD, ⟨ads, a1, b1, c1, d1⟩, ol1⟩ := A1
      rw [List.length_map] at b1
      exact ⟨.ref l, rfl, q l H1 ads Ls ol1 hl a1 b1 (fun k z L hk hL => d1 k z _ hk (by rw [List.getElem?_map, hL]; rfl)) hLi ⟨hP⟩⟩
def spAt : Sp := fun vs H Q _ => ∃ (v : V) (l : Addr) (L : List Nat) (p : List Int × List Int), vs = [v, .ref l] ∧ StAt H v p.1 p.2 ∧ H l = some (.lst (natV L)) ∧ L.length ≤ 12 ∧ (∀ j ∈ L, j < p.1.length ∧ j < p.2.length) ∧ ∀ r H', Same H H' → StAt H' r (L.map fun j => p.1.getD j 0) (L.map fun j => p.2.getD j 0) → Q r H'
theorem sc__law_at : FnScope ["standing", "posts", "row", "post"] ["standing", "posts"] (defScope s__law_at) := ⟨rfl, rfl, rfl, by decide +kernel, rfl, by decide +kernel, by decide +kernel⟩
theorem ok__law_at (D : Dn K mg "_law_at" s__law_at ["standing", "posts"]) (B : Bt mg)  : Cl P w K mg base 1 "_law_at" spAt := by
  refine cl_of D sc__law_at (fun vs H Q E h => ?_) (fun cdv f A outer s H vs Q E hr h => ?_)
  · obtain ⟨v, l, L, p, rfl, _⟩ := h
    rfl
  · obtain ⟨v, l, L, p, rfl, hst, hl, hL, hlt, q⟩ := h
    obtain ⟨t, a, b, rfl, ht, ha, hb⟩ := hst.ex
    have nd := sc__law_at.nd
    refine ⟨_, (pss_one (ps_ret (pe_callTy call_tupK (by rfl) B.tuple (by decide +kernel) (pa_cons (pe_lc (own := [("row", 2)]) rfl nd (pi_tupK (pv 0)) (blkOk_by (N := ["standing", "posts", "row", "post"]) (sc := defScope s__law_at) (by decide +kernel)) (fun _ _ _ _ _ => (pg_name (i := 2) nd rfl (.inr rfl))) (fun _ _ _ _ _ => pts_nil) (fun _ _ _ _ _ => (pe_callTy call_tupK (by rfl) B.tuple (by decide +kernel) (pa_cons (pe_lc (own := [("post", 3)]) rfl nd (pi_listK (pv 1)) (blkOk_by (N := ["standing", "posts", "row", "post"]) (sc := (relS _ (defScope s__law_at))) (by decide +kernel)) (fun _ _ _ _ _ => (pg_name (i := 3) nd rfl (.inl rfl))) (fun _ _ _ _ _ => pts_nil) (fun _ _ _ _ _ => (pe_ix ix_tupK (pv 2) (pv 3) (fun _ _ => rfl)))) pa_nil)))) pa_nil)))), ?_⟩
    refine ⟨.ref t, rfl, t, rfl, ⟨_, SqT.of ht⟩, fun D hD => ?_⟩
    refine lc_tupG (k := 0) (fun i y Hx => ∃ u, y = .ref u ∧ ∀ ns, [p.1, p.2][i]? = some ns → Hx u = some (rowH (L.map fun j => ns.getD j 0))) (fun i y Ha Hb e h => ?_) rel_same hD id (SqT.of ht) (by show 2 ≤ 100000; decide) ?_ ?_ ?_
    · obtain ⟨u, rfl, h⟩ := h
      exact ⟨u, rfl, fun ns hns => e _ _ (h ns hns) trivial⟩
    · intro i y H' hy sm hDs
      obtain ⟨u, ns, rfl, hu, hns, hin⟩ : ∃ (u : Addr) (ns : List Int), y = .ref u ∧ H' u = some (rowH ns) ∧ [p.1, p.2][i]? = some ns ∧ ∀ j ∈ L, j < ns.length := by
        match i, hy with
        | 0, hy => exact ⟨a, p.1, (Option.some.inj hy).symm, sm _ _ ha, rfl, fun j hj => (hlt j hj).1⟩
        | 1, hy => exact ⟨b, p.2, (Option.some.inj hy).symm, sm _ _ hb, rfl, fun j hj => (hlt j hj).2⟩
      refine ⟨rfl, rfl, fun Q' q' => ?_⟩
      refine ⟨.ref l, rfl, l, rfl, ⟨_, SqL.of (sm _ _ hl)⟩, fun D2 hD2 => ?_⟩
      refine lc_listG (k := 0) (fun i y _ => ∀ m, L[i]? = some m → y = .int (ns.getD m 0)) (fun _ _ _ _ _ h => h) rel_same hD2 id (SqL.of (sm _ _ hl)) (by unfold natV; rw [List.length_map]; omega) ?_ ?_ ?_
      · intro j z H2 hz sm2 _
        obtain ⟨m, hm, rfl⟩ := natV_get hz
        have hml := hin m (List.mem_of_getElem? hm)
        have ev : (ns.map V.int)[m]? = some (.int (ns.getD m 0)) := by
          rw [List.getElem?_map, List.getElem?_eq_getElem hml, List.getD_eq_getElem?_getD, List.getElem?_eq_getElem hml]
          rfl
        refine ⟨rfl, rfl, fun Q2 q2 => ⟨.ref u, rfl, .int (m : Nat), rfl, u, _, (m : Nat), _, rfl, rfl, SqT.of (sm2 _ _ hu), atI_nat ev, q2 _ _ (fun _ _ h => h) fun m' hm' => ?_⟩⟩
        rw [Option.some.inj (hm.symm.trans hm')]
      · exact fun x σ H A B h hA => h _ _ hA
      · intro ys H2 hy2 hyl hz sm2 _
        have ey := ys_mapN (g := fun j => ns.getD j 0) (hyl.trans (List.length_map ..)) hz
        subst ey
        refine ⟨D2, _, rfl, .inl ⟨SqL.of hy2, fun z hz0 => q' _ _ (Same.trans sm2 (same_new hz0)) ⟨z, rfl, fun ns' hns' => ?_⟩⟩⟩
        rw [← Option.some.inj (hns.symm.trans hns')]
        obtain ⟨w0, hw0⟩ := hDs
        have hDH2 : H2 D = some (.lst w0) := sm2 _ _ hw0
        rw [del_ne (fun e => by rw [e, hDH2] at hz0; cases hz0)]
        exact upd_same
    · exact fun x σ H A B h hA => h _ _ hA
    · intro ys H2 hy hyl hz sm _
      match ys, hyl with
      | [y0, y1], _ =>
        obtain ⟨w0, rfl, e0⟩ := hz 0 y0 rfl
        obtain ⟨w1, rfl, e1⟩ := hz 1 y1 rfl
        refine ⟨D, _, rfl, .inl ⟨SqL.of hy, fun z hz0 => ?_⟩⟩
        have k3 : (upd H2 z (.tup [.ref w0, .ref w1])) z = some (.tup [.ref w0, .ref w1]) := upd_same
        have s3 : Same H2 (upd H2 z (.tup [.ref w0, .ref w1])) := same_new hz0
        generalize upd H2 z (.tup [.ref w0, .ref w1]) = H3 at k3 s3 ⊢
        exact q _ H3 (sm.trans s3) ⟨z, w0, w1, rfl, k3, s3 _ _ (e0 _ rfl), s3 _ _ (e1 _ rfl)⟩
end
end Gb
set_option maxRecDepth 100000
set_option maxHeartbeats 4000000
/-! A web's ties as told and as given: the one is a permutation of the other; gains as sums over ties. -/
namespace Gb
open PySem PySem.Spec PyProof.Rows L2
open PySem.W (Datum Tup T4)
theorem tieM_off {M : Nat → Nat → Int} {t : Tie} {i j : Nat} (h1 : ¬ (t.a.toNat = i ∧ t.b.toNat = j)) (h2 : ¬ (t.b.toNat = i ∧ t.a.toNat = j)) : tieM M t i j = M i j := by
  unfold tieM setM
  rw [if_neg (fun e => h2 ⟨e.1.symm, e.2.symm⟩), if_neg (fun e => h1 ⟨e.1.symm, e.2.symm⟩)]
theorem mat_off {i j : Nat} : ∀ {ts : List Tie} {M : Nat → Nat → Int}, (∀ t ∈ ts, ¬ (t.a.toNat = i ∧ t.b.toNat = j) ∧ ¬ (t.b.toNat = i ∧ t.a.toNat = j)) → ts.foldl tieM M i j = M i j
  | [], _, _ => rfl
  | t :: ts, M, h => by
    rw [List.foldl_cons, mat_off fun t' h' => h t' (List.mem_cons_of_mem _ h')]
    exact tieM_off (h t List.mem_cons_self).1 (h t List.mem_cons_self).2
/-- what stands there for a tie -/
theorem mat_on {s : Int} {ts : List Tie} (ok : TiesOk 9 s ts) {t : Tie} (ht : t ∈ ts) : matOf ts t.a.toNat t.b.toNat = t.c ∧ matOf ts t.b.toNat t.a.toNat = t.d := by
  obtain ⟨l1, l2, rfl⟩ := List.append_of_mem ht
  have o := ok.all t ht
  have hnd := ok.nd
  rw [List.map_append, List.map_cons] at hnd
  have h2 := (List.nodup_append.mp hnd).2.1
  have hnot : ∀ t' ∈ l2, (t'.a, t'.b) ≠ (t.a, t.b) := fun t' h' e => by
    have := (List.nodup_cons.mp h2).1
    exact this (e ▸ List.mem_map.mpr ⟨t', h', rfl⟩)
  have off : ∀ t' ∈ l2, ¬ (t'.a.toNat = t.a.toNat ∧ t'.b.toNat = t.b.toNat) ∧ ¬ (t'.b.toNat = t.a.toNat ∧ t'.a.toNat = t.b.toNat) := fun t' h' => by
    have o' := ok.all t' (List.mem_append_right _ (List.mem_cons_of_mem _ h'))
    have a1 := o.a0
    have a2 := o.ab
    have b1 := o'.a0
    have b2 := o'.ab
    refine ⟨fun e => hnot t' h' ?_, fun e => ?_⟩
    · have e1 : t'.a = t.a := by omega
      have e2 : t'.b = t.b := by omega
      rw [e1, e2]
    · omega
  have off' : ∀ t' ∈ l2, ¬ (t'.a.toNat = t.b.toNat ∧ t'.b.toNat = t.a.toNat) ∧ ¬ (t'.b.toNat = t.b.toNat ∧ t'.a.toNat = t.a.toNat) := fun t' h' => ⟨fun e => (off t' h').2 ⟨e.2, e.1⟩, fun e => (off t' h').1 ⟨e.2, e.1⟩⟩
  have hab : t.a.toNat ≠ t.b.toNat := by
    have a1 := o.a0
    have a2 := o.ab
    omega
  unfold matOf
  rw [List.foldl_append, List.foldl_cons, mat_off off, mat_off off']
  unfold tieM setM
  refine ⟨?_, ?_⟩
  · rw [if_neg (fun e => hab e.1), if_pos ⟨rfl, rfl⟩]
  · rw [if_pos ⟨rfl, rfl⟩]
theorem mat_none {s : Int} {ts : List Tie} (ok : TiesOk 9 s ts) {i j : Nat} (hij : i < j) (h : ∀ t ∈ ts, ¬ (t.a = (i : Int) ∧ t.b = (j : Int))) : matOf ts i j = 0 := by
  unfold matOf
  refine mat_off fun t ht => ?_
  have o := ok.all t ht
  have a1 := o.a0
  have a2 := o.ab
  exact ⟨fun e => h t ht ⟨by omega, by omega⟩, fun e => by omega⟩
theorem pairs_nodup {s : Nat} : (pairsOf s).Nodup := by
  have gen : ∀ i, (preP s i).Nodup ∧ ∀ p ∈ preP s i, p.1 < i := by
    intro i
    induction i with
    | zero => exact ⟨List.Pairwise.nil, fun p hp => by cases hp⟩
    | succ i ih =>
      rw [preP_succ]
      refine ⟨List.nodup_append.mpr ⟨ih.1, ?_, ?_⟩, ?_⟩
      · refine List.pairwise_map.mpr (List.nodup_range.imp fun {u w} h e => h ?_)
        have := congrArg Prod.snd e
        have : i + 1 + u = i + 1 + w := this
        omega
      · intro p hp p' hp' e
        obtain ⟨d, _, rfl⟩ := List.mem_map.mp hp'
        have := ih.2 p hp
        rw [e] at this
        exact Nat.lt_irrefl i this
      · intro p hp
        rcases List.mem_append.mp hp with hp | hp
        · exact Nat.lt_succ_of_lt (ih.2 p hp)
        · obtain ⟨d, _, rfl⟩ := List.mem_map.mp hp
          exact Nat.lt_succ_self i
  exact (gen s).1
theorem in_pairs {s i j : Nat} (h1 : i < j) (h2 : j < s) : (i, j) ∈ pairsOf s := by
  unfold pairsOf
  refine List.mem_flatMap.mpr ⟨i, List.mem_range.mpr (by omega), List.mem_map.mpr ⟨j - (i + 1), List.mem_range.mpr (by omega), ?_⟩⟩
  rw [show i + 1 + (j - (i + 1)) = j by omega]
theorem mem_tiesOf {s : Nat} {ts : List Tie} (ok : TiesOk 9 (s : Int) ts) (t : Tie) : t ∈ tiesOf (matOf ts) s ↔ t ∈ ts := by
  constructor
  · intro h
    obtain ⟨p, hp, e⟩ := List.mem_filterMap.mp h
    obtain ⟨h1, h2⟩ := mem_pairs hp
    have et := tieAt_ok e
    have hpos : matOf ts p.1 p.2 > 0 := by
      unfold tieAt at e
      split at e
      · assumption
      · cases e
    have hex : ∃ t' ∈ ts, t'.a = (p.1 : Int) ∧ t'.b = (p.2 : Int) := Classical.byContradiction fun hno => by
      have := mat_none ok h1 fun t' ht' e' => hno ⟨t', ht', e'⟩
      omega
    obtain ⟨t', ht', ea, eb⟩ := hex
    have on := mat_on ok ht'
    rw [ea, eb, Int.toNat_natCast, Int.toNat_natCast] at on
    have : t = t' := by
      rw [et, on.1, on.2, ← ea, ← eb]
    rw [this]
    exact ht'
  · intro h
    have o := ok.all t h
    have on := mat_on ok h
    have a1 := o.a0
    have a2 := o.ab
    have a3 := o.bs
    have c1 := o.c1
    refine List.mem_filterMap.mpr ⟨(t.a.toNat, t.b.toNat), in_pairs (by omega) (by omega), ?_⟩
    unfold tieAt
    show (if matOf ts t.a.toNat t.b.toNat > 0 then some (⟨(t.a.toNat : Int), (t.b.toNat : Int), matOf ts t.a.toNat t.b.toNat, matOf ts t.b.toNat t.a.toNat⟩ : Tie) else none) = some t
    rw [on.1, on.2, if_pos (by omega), Int.toNat_of_nonneg a1, Int.toNat_of_nonneg (by omega)]
theorem tiesOf_nodup {M : Nat → Nat → Int} {s : Nat} : (tiesOf M s).Nodup := by
  have gen : ∀ l : List (Nat × Nat), l.Nodup → (l.filterMap (tieAt M)).Nodup := by
    intro l
    induction l with
    | nil => exact fun _ => List.Pairwise.nil
    | cons p l ih =>
      intro h
      obtain ⟨h1, h2⟩ := List.nodup_cons.mp h
      rw [List.filterMap_cons]
      cases e : tieAt M p with
      | none => exact ih h2
      | some t =>
        refine List.nodup_cons.mpr ⟨fun hm => ?_, ih h2⟩
        obtain ⟨p', hp', e'⟩ := List.mem_filterMap.mp hm
        have q1 := tieAt_ok e
        have q2 := tieAt_ok e'
        have q3 : (⟨(p.1 : Int), (p.2 : Int), M p.1 p.2, M p.2 p.1⟩ : Tie) = ⟨(p'.1 : Int), (p'.2 : Int), M p'.1 p'.2, M p'.2 p'.1⟩ := q1.symm.trans q2
        have r1 : p.1 = p'.1 := by
          have := congrArg (fun t : Tie => t.a) q3
          exact Int.ofNat.inj this
        have r2 : p.2 = p'.2 := by
          have := congrArg (fun t : Tie => t.b) q3
          exact Int.ofNat.inj this
        exact h1 (by rw [show p = p' from Prod.ext r1 r2]; exact hp')
  exact gen _ pairs_nodup
theorem ties_nodup {s : Int} {ts : List Tie} (ok : TiesOk 9 s ts) : ts.Nodup := (List.pairwise_map.mp ok.nd).imp fun h e => h (by rw [e])
theorem perm_of {α : Type} [DecidableEq α] : ∀ {l m : List α}, l.Nodup → m.Nodup → (∀ x, x ∈ l ↔ x ∈ m) → l.Perm m
  | [], m, _, _, h => by
    cases m with
    | nil => exact List.Perm.nil
    | cons y _ => exact absurd ((h y).mpr List.mem_cons_self) (by simp)
  | x :: l, m, h1, h2, h => by
    obtain ⟨n1, n2⟩ := List.nodup_cons.mp h1
    have hx := (h x).mp List.mem_cons_self
    have ih := perm_of (l := l) (m := m.erase x) n2 (h2.erase x) fun y => by
      rw [h2.mem_erase_iff]
      constructor
      · intro hy
        exact ⟨fun e => n1 (e ▸ hy), (h y).mp (List.mem_cons_of_mem _ hy)⟩
      · intro hy
        exact (List.mem_cons.mp ((h y).mpr hy.2)).elim (fun e => absurd e hy.1) id
    exact (ih.cons x).trans (List.perm_cons_erase hx).symm
theorem tiesOf_perm {s : Nat} {ts : List Tie} (ok : TiesOk 9 (s : Int) ts) : (tiesOf (matOf ts) s).Perm ts := perm_of tiesOf_nodup (ties_nodup ok) fun t => mem_tiesOf ok t
/-- what a tie brings to post j -/
def ct (ns : List Int) (j : Nat) (t : Tie) : Int := (if t.b.toNat = j then t.c * up (ns.getD t.a.toNat 0) else 0) + (if t.a.toNat = j then t.d * up (ns.getD t.b.toNat 0) else 0)
theorem addAt_get {xs : List Int} {i j : Nat} {d : Int} (h : j < xs.length) : (addAt xs i d).getD j 0 = xs.getD j 0 + (if i = j then d else 0) := by
  unfold addAt
  rw [List.getD_eq_getElem?_getD, List.getElem?_set]
  by_cases e : i = j
  · subst e
    rw [if_pos rfl, if_pos h, if_pos rfl]
    rfl
  · rw [if_neg e, if_neg e, Int.add_zero, ← List.getD_eq_getElem?_getD]
theorem gains_sum {ts : List Tie} {s j : Nat} {ns : List Int} (h : j < s) : (gainsOf ts s ns).getD j 0 = (ts.map (ct ns j)).sum := by
  have gen : ∀ (ts : List Tie) (acc : List Int), j < acc.length → (ts.foldl (gainT ns) acc).getD j 0 = acc.getD j 0 + (ts.map (ct ns j)).sum := by
    intro ts
    induction ts with
    | nil =>
      intro acc _
      show _ = acc.getD j 0 + 0
      rw [Int.add_zero]
      rfl
    | cons t ts ih =>
      intro acc ha
      rw [List.foldl_cons, ih _ (by unfold gainT; rw [addAt_len, addAt_len]; exact ha), List.map_cons, List.sum_cons]
      unfold gainT
      rw [addAt_get (by rw [addAt_len]; exact ha), addAt_get ha]
      unfold ct
      omega
  unfold gainsOf
  rw [gen ts _ (by rw [List.length_replicate]; exact h)]
  have z : (List.replicate s (0 : Int)).getD j 0 = 0 := by
    rw [List.getD_eq_getElem?_getD, List.getElem?_replicate]
    split <;> rfl
  rw [z, Int.zero_add]
end Gb
set_option maxRecDepth 100000
set_option maxHeartbeats 4000000
namespace Gb
open PySem PySem.Spec PyProof.Rows L2
open PySem.W (Datum Tup T4)
def kvL : List Nat → Nat → List (Key × V)
  | [], _ => []
  | a :: L, k => (Sum.inl (a : Int), V.int (k : Int)) :: kvL L (k + 1)
def kvHO (kv : Key × V) : HO := .tup [kV kv.1, kv.2]
theorem kvL_len : ∀ {L : List Nat} {k : Nat}, (kvL L k).length = L.length
  | [], _ => rfl
  | _ :: L, k => by
    show (kvL L (k + 1)).length + 1 = L.length + 1
    rw [kvL_len]
theorem kvL_get : ∀ {L : List Nat} {k i a : Nat}, L[i]? = some a → (kvL L k)[i]? = some (Sum.inl (a : Int), V.int ((k + i : Nat) : Int))
  | [], _, _, _, h => by simp at h
  | b :: L, k, 0, a, h => by
    have e : b = a := Option.some.inj h
    rw [e]
    rfl
  | b :: L, k, i + 1, a, h => by
    show (kvL L (k + 1))[i]? = _
    rw [kvL_get (L := L) h, show k + 1 + i = k + (i + 1) by omega]
theorem valV_merge {a : Nat} : ∀ {L : List Nat} {k : Nat} {acc : List (Key × V)}, L.Nodup → valV (mergeK acc (kvL L k)) (Sum.inl (a : Int)) = if a ∈ L then some (V.int ((k + L.idxOf a : Nat) : Int)) else valV acc (Sum.inl (a : Int))
  | [], _, _, _ => by
    rw [if_neg (by simp)]
    rfl
  | b :: L, k, acc, h => by
    obtain ⟨h1, h2⟩ := List.nodup_cons.mp h
    show valV (mergeK (putK acc (Sum.inl (b : Int)) (V.int (k : Int))) (kvL L (k + 1))) (Sum.inl (a : Int)) = _
    rw [valV_merge h2, valV_put]
    have hne : a ≠ b → (Sum.inl (a : Int) : Key) ≠ Sum.inl (b : Int) := fun e e' => e (Int.ofNat.inj (Sum.inl.inj e'))
    by_cases e : a = b
    · subst e
      rw [if_neg h1, if_pos rfl, if_pos List.mem_cons_self, List.idxOf_cons_self]
      rfl
    · by_cases hm : a ∈ L
      · have hi : (b :: L).idxOf a = L.idxOf a + 1 := by
          rw [List.idxOf_cons, beq_eq_false_iff_ne.mpr (fun e' => e e'.symm)]
          rfl
        rw [if_pos hm, if_pos (List.mem_cons_of_mem _ hm), hi, show k + 1 + L.idxOf a = k + (L.idxOf a + 1) by omega]
      · rw [if_neg hm, if_neg (hne e), if_neg (fun h' => (List.mem_cons.mp h').elim e hm)]
theorem valV_kvL {L : List Nat} {a : Nat} (h : L.Nodup) : valV (mergeK [] (kvL L 0)) (Sum.inl (a : Int)) = if a ∈ L then some (V.int ((0 + L.idxOf a : Nat) : Int)) else none := valV_merge h
theorem paired_of {α β : Type} {R : α → β → Prop} : ∀ {as_ : List α} {bs : List β}, as_.length = bs.length → (∀ (k : Nat) (a : α) (b : β), as_[k]? = some a → bs[k]? = some b → R a b) → Paired R as_ bs
  | [], [], _, _ => .nil
  | [], _ :: _, h, _ => by simp at h
  | _ :: _, [], h, _ => by simp at h
  | a :: as_, b :: bs, h, f => .cons (f 0 a b rfl rfl) (paired_of (by simpa using h) fun k x y hx hy => f (k + 1) x y hx hy)
section
variable {P : Program} {w : World} {K : PySem.W.Frag} {mg : Str → Option Value} {base : Heap}
def aloneAt (L : List Nat) (t : Tie) : Option Tie := if t.a.toNat ∈ L then some ⟨(L.idxOf t.a.toNat : Nat), (L.idxOf t.b.toNat : Nat), t.c, t.d⟩ else none
def spAlone (K : PySem.W.Frag) : Sp := fun vs H Q _ => ∃ (l : Addr) (L : List Nat) (v : V) (s : Int) (ts : List Tie), vs = [.ref l, v] ∧ H l = some (.lst (natV L)) ∧ L.length ≤ 12 ∧ L.Nodup ∧ Is K H v ts ∧ ts.length ≤ 200 ∧ TiesOk 9 s ts ∧ (∀ t ∈ ts, t.a.toNat ∈ L → t.b.toNat ∈ L) ∧ ∀ r H', Same H H' → Ls K (nw H H') r (ts.filterMap (aloneAt L)) → Q r H'
theorem sc__law_alone : FnScope ["posts", "ties", "names", "one", "two", "there", "back", "k"] ["posts", "ties"] (defScope s__law_alone) := ⟨rfl, rfl, rfl, by decide +kernel, rfl, by decide +kernel, by decide +kernel⟩
theorem ok__law_alone (D : Dn K mg "_law_alone" s__law_alone ["posts", "ties"]) (B : Bt mg) (Bd : mg "dict" = none) : Cl P w K mg base 1 "_law_alone" (spAlone K) := by
  refine cl_of D sc__law_alone (fun vs H Q E h => ?_) (fun cdv f A outer s H vs Q E hr h => ?_)
  · obtain ⟨l, L, v, s, ts, rfl, _⟩ := h
    rfl
  · obtain ⟨l, L, v, s, ts, rfl, hl, hL, hnd, hv, htl, ok, hcl, q⟩ := h
    have nd := sc__law_alone.nd
    refine ⟨_, (pss_cons (ps_set (i := 2) nd rfl (.inr rfl) (pe_callTy (call_dictP rfl) (by rfl) Bd (by decide +kernel) (pa_cons (pe_lc (own := [("k", 7)]) rfl nd (pi_range1 (by rfl) B.range (pa_cons (pe_callB call_lenK (by rfl) B.len PySem.boot_len (pa_cons (pv 0) pa_nil)) pa_nil)) (blkOk_by (N := ["posts", "ties", "names", "one", "two", "there", "back", "k"]) (sc := defScope s__law_alone) (by decide +kernel)) (fun _ _ _ _ _ => (pg_name (i := 7) nd rfl (.inl rfl))) (fun _ _ _ _ _ => pts_nil) (fun _ _ _ _ _ => (pe_tup (pa_cons (pe_ix ix_listK (pv 0) (pv 7) (fun _ _ => rfl)) (pa_cons (pv 7) pa_nil))))) pa_nil)))
    (pss_one (ps_ret (pe_lc (own := [("one", 3), ("two", 4), ("there", 5), ("back", 6)]) rfl nd (pi_listK (pv 1)) (blkOk_by (N := ["posts", "ties", "names", "one", "two", "there", "back", "k"]) (sc := defScope s__law_alone) (by decide +kernel)) (fun _ _ _ _ _ => (pg_tupK (n := 4) (by rfl) (pgs_cons (pg_name (i := 3) nd rfl (.inl rfl)) (pgs_cons (pg_name (i := 4) nd rfl (.inl rfl)) (pgs_cons (pg_name (i := 5) nd rfl (.inl rfl)) (pgs_cons (pg_name (i := 6) nd rfl (.inl rfl)) pgs_nil)))))) (fun _ _ _ _ _ => (pts_one (pt_cmp (pc_din (hu_of hr) (pv 3) (pv 2))))) (fun _ _ _ _ _ => (pe_tup (pa_cons (pe_dget (hu_of hr) (pv 2) (pv 3) (fun _ _ => rfl)) (pa_cons (pe_dget (hu_of hr) (pv 2) (pv 4) (fun _ _ => rfl)) (pa_cons (pv 5) (pa_cons (pv 6) pa_nil)))))))))), ?_⟩
    obtain ⟨av, vs, rfl, hS, hA⟩ := is_list hv
    have hlen := all_len hA
    have hnl : (natV L).length = L.length := List.length_map ..
    refine ⟨.ref l, rfl, l, natV L, rfl, .inl (SqL.of hl), ((natV L).length : Int), rfl, by omega, by omega, fun D0 hD => ?_⟩
    rw [hnl, Int.toNat_natCast]
    refine lc_range (lo := 0) (n := L.length) (fun k H' => Acc H H' D0 ((kvL L 0).take k |>.map kvHO)) (Acc.start hD) ?_ ?_
    · intro k H' hk A
      have e0 : L[k]? = some L[k] := List.getElem?_eq_getElem hk
      have ix : atI (natV L) (0 + (k : Int)) = some (.int (L[k] : Nat)) := by
        rw [Int.zero_add]
        exact atI_nat (by unfold natV; rw [List.getElem?_map, e0]; rfl)
      refine ⟨rfl, yes_of ?_⟩
      refine ⟨.ref l, rfl, .int (0 + (k : Int)), rfl, l, natV L, 0 + (k : Int), .int (L[k] : Nat), rfl, rfl, SqL.of (A.ol _ _ hl), ix, .int (0 + (k : Int)), rfl, by show 2 ≤ sizeLine; decide, fun z hz => ?_⟩
      obtain ⟨acc, q1, q2, A3⟩ := A.snoc (o := .tup [.int (L[k] : Nat), .int (0 + (k : Int))]) hz
      refine ⟨acc, q1, ?_, ?_⟩
      · rw [q2, List.length_map, List.length_take, kvL_len]
        exact Nat.lt_of_le_of_lt (by omega : _ ≤ 12) (by decide)
      · have eg : (kvL L 0)[k]? = some (Sum.inl ((L[k] : Nat) : Int), V.int (0 + (k : Nat) : Int)) := by
          rw [kvL_get e0]
          rfl
        show Acc H _ D0 (((kvL L 0).take (k + 1)).map kvHO)
        rw [List.take_add_one, eg]
        show Acc H _ D0 (((kvL L 0).take k ++ [(Sum.inl ((L[k] : Nat) : Int), V.int (0 + (k : Nat) : Int))]).map kvHO)
        rw [List.map_append]
        exact A3
    · intro H1 A1
      rw [List.take_of_length_le (by rw [kvL_len]; exact Nat.le_refl _)] at A1
      obtain ⟨fD, ⟨ads, a1, b1, c1, d1⟩, ol1⟩ := A1
      refine ⟨D0, ads, kvL L 0, rfl, SqL.of a1, paired_of (b1.trans (List.length_map ..)) (fun k a kv hk hkv => SqT.of (d1 k a _ hk (by rw [List.getElem?_map, hkv]; rfl))), fun pd hpd => ?_⟩
      have k2 : (upd H1 pd (.dK (mergeK [] (kvL L 0)))) pd = some (.dK (mergeK [] (kvL L 0))) := upd_same
      have s2 : Same H1 (upd H1 pd (.dK (mergeK [] (kvL L 0)))) := same_new hpd
      generalize upd H1 pd (.dK (mergeK [] (kvL L 0))) = H2 at k2 s2 ⊢
      have s02 : Same H H2 := ol1.trans s2
      have dget : ∀ (H' : Hp) (a : Nat), Same H2 H' → a ∈ L → DGet H' pd (.int (a : Int)) (some (.int (L.idxOf a : Nat))) := fun H' a e ha => by
        have q := DGet.k (k := .inl (a : Int)) (e _ _ k2)
        rw [valV_kvL hnd, if_pos ha, Nat.zero_add] at q
        exact q
      have dnone : ∀ (H' : Hp) (a : Nat), Same H2 H' → a ∉ L → DGet H' pd (.int (a : Int)) none := fun H' a e ha => by
        have q := DGet.k (k := .inl (a : Int)) (e _ _ k2)
        rw [valV_kvL hnd, if_neg ha] at q
        exact q
      refine ⟨.ref av, rfl, av, rfl, ⟨_, Ex.l (Ex.of s02) hS⟩, fun D2 hD2 => ?_⟩
      refine lc_list (K := K) (a := av) (xs := vs) (fun k H' => Acc H2 H' D2 (((ts.take k).filterMap (aloneAt L)).map tieHO)) (Acc.start hD2) (fun k H' _ A => Ex.l (Ex.of (s02.trans A.ol)) hS) ?_ ?_
      · intro k y H' hy A
        obtain ⟨t, ht, hyt⟩ := all_get hA hy
        obtain ⟨c, rfl, hc⟩ := t4_is (Dp.ex (Ex.of (s02.trans A.ol)) hyt)
        have htm := List.mem_of_getElem? ht
        have o := ok.all t htm
        have o1 := o.a0
        have o2 := o.ab
        obtain ⟨na, hna⟩ := Int.eq_ofNat_of_zero_le o1
        obtain ⟨nb, hnb⟩ := Int.eq_ofNat_of_zero_le (by omega : 0 ≤ t.b)
        have ea : t.a.toNat = na := by omega
        have eb : t.b.toNat = nb := by omega
        have ht' : ts.take (k + 1) = ts.take k ++ [t] := by
          rw [List.take_add_one, ht]
          rfl
        refine ⟨c, _, rfl, hc, rfl, _, _, rfl, _, _, rfl, _, _, rfl, _, _, rfl, rfl, rfl, ?_⟩
        rw [hna, hnb]
        by_cases hin : na ∈ L
        · have hbin : nb ∈ L := eb ▸ hcl t htm (ea.symm ▸ hin)
          refine ⟨.int (na : Int), rfl, .ref pd, rfl, pd, _, rfl, dget H' na A.ol hin, true, rfl, ?_⟩
          refine ⟨.ref pd, rfl, .int (na : Int), rfl, pd, _, rfl, dget H' na A.ol hin, .ref pd, rfl, .int (nb : Int), rfl, pd, _, rfl, dget H' nb A.ol hbin, .int t.c, rfl, .int t.d, rfl, by show 4 ≤ sizeLine; decide, fun z hz => ?_⟩
          have ez : aloneAt L t = some ⟨(L.idxOf na : Nat), (L.idxOf nb : Nat), t.c, t.d⟩ := by
            unfold aloneAt
            rw [ea, eb, if_pos hin]
          obtain ⟨acc, q1, q2, A3⟩ := A.snoc (o := tieHO ⟨(L.idxOf na : Nat), (L.idxOf nb : Nat), t.c, t.d⟩) hz
          refine ⟨acc, q1, ?_, ?_⟩
          · rw [q2, List.length_map]
            have h1 := List.length_filterMap_le (aloneAt L) (ts.take k)
            rw [List.length_take] at h1
            exact Nat.lt_of_le_of_lt (by omega : _ ≤ 200) (by decide)
          · show Acc H2 _ D2 (((ts.take (k + 1)).filterMap (aloneAt L)).map tieHO)
            rw [ht', List.filterMap_append, List.map_append]
            have z1 : [t].filterMap (aloneAt L) = [⟨(L.idxOf na : Nat), (L.idxOf nb : Nat), t.c, t.d⟩] := by
              rw [List.filterMap_cons, ez]
              rfl
            rw [z1]
            exact A3
        · refine ⟨.int (na : Int), rfl, .ref pd, rfl, pd, _, rfl, dnone H' na A.ol hin, false, rfl, ?_⟩
          show Acc H2 _ D2 (((ts.take (k + 1)).filterMap (aloneAt L)).map tieHO)
          have ez : aloneAt L t = none := by
            unfold aloneAt
            rw [ea, if_neg hin]
          have z1 : [t].filterMap (aloneAt L) = [] := by
            rw [List.filterMap_cons, ez]
            rfl
          rw [ht', List.filterMap_append, z1, List.append_nil]
          exact A
      · intro H3 A
        rw [hlen, List.take_length] at A
        have A3 : Acc H H3 D2 ((ts.filterMap (aloneAt L)).map tieHO) := ⟨s02.free A.fD, let ⟨ads, a, b, c, d⟩ := A.ex; ⟨ads, a, b, fun x hx => ⟨s02.free (c x hx).1, (c x hx).2⟩, d⟩, s02.trans A.ol⟩
        exact q _ H3 A3.ol (ls_acc A3)
end
end Gb
set_option maxRecDepth 100000
set_option maxHeartbeats 4000000
/-! A part alone: its ties, its beat. -/
namespace Gb
open PySem PySem.Spec PyProof.Rows L2
open PySem.W (Datum Tup T4)
def rst (L : List Nat) (ns : List Int) : List Int := L.map fun j => ns.getD j 0
def rstP (L : List Nat) (p : List Int × List Int) : List Int × List Int := (rst L p.1, rst L p.2)
theorem rst_get {L : List Nat} {ns : List Int} {k : Nat} (h : k < L.length) : (rst L ns).getD k 0 = ns.getD L[k] 0 := by
  unfold rst
  rw [List.getD_eq_getElem?_getD, List.getElem?_map, List.getElem?_eq_getElem h]
  rfl
/-- a part, and whether a tie's posts are of it -/
structure Shut (ts : List Tie) (L : List Nat) : Prop where
  nd : L.Nodup
  up : L.Pairwise (· < ·)
  shut : ∀ t ∈ ts, (t.a.toNat ∈ L ↔ t.b.toNat ∈ L)
theorem shut_of {s p : Nat} {ts : List Tie} {L : List Nat} (ok : TiesOk 9 (s : Int) ts) (h : PartOf (matOf ts) s p L) : Shut ts L := by
  refine ⟨h.up.imp fun {u w} (q : u < w) => Nat.ne_of_lt q, h.up, fun t ht => ?_⟩
  have o := ok.all t ht
  have on := mat_on ok ht
  have a0 := o.a0
  have a1 := o.ab
  have a2 := o.bs
  have c1 := o.c1
  have d1 := o.d1
  constructor
  · intro hm
    exact (h.iff_ _).mpr (.step ((h.iff_ _).mp hm) (mem_nbr.mpr ⟨by omega, by rw [on.1]; omega⟩))
  · intro hm
    exact (h.iff_ _).mpr (.step ((h.iff_ _).mp hm) (mem_nbr.mpr ⟨by omega, by rw [on.2]; omega⟩))
theorem idx_get {L : List Nat} {a : Nat} (h : a ∈ L) : ∃ hl : L.idxOf a < L.length, L[L.idxOf a] = a := ⟨List.idxOf_lt_length_of_mem h, List.getElem_idxOf _⟩
theorem idx_iff {L : List Nat} (hn : L.Nodup) {a k : Nat} (h : a ∈ L) (hk : k < L.length) : L.idxOf a = k ↔ a = L[k] := by
  obtain ⟨hl, e⟩ := idx_get h
  constructor
  · intro q
    subst q
    exact e.symm
  · intro q
    exact (List.getElem_inj (h₀ := hl) (h₁ := hk) hn).mp (e.trans q)
theorem idx_lt {L : List Nat} (hu : L.Pairwise (· < ·)) {a b : Nat} (ha : a ∈ L) (hb : b ∈ L) (h : a < b) : L.idxOf a < L.idxOf b := by
  obtain ⟨h1, e1⟩ := idx_get ha
  obtain ⟨h2, e2⟩ := idx_get hb
  rcases Nat.lt_trichotomy (L.idxOf a) (L.idxOf b) with q | q | q
  · exact q
  · exfalso
    have : L[L.idxOf a] = L[L.idxOf b] := by
      congr 1
    omega
  · exfalso
    have := List.pairwise_iff_getElem.mp hu _ _ h2 h1 q
    omega
theorem alone_ok {s : Int} {ts : List Tie} {L : List Nat} (ok : TiesOk 9 s ts) (S : Shut ts L) : TiesOk 9 (L.length : Int) (ts.filterMap (aloneAt L)) := by
  have one : ∀ t t', t ∈ ts → aloneAt L t = some t' → t.a.toNat ∈ L ∧ t.b.toNat ∈ L ∧ t' = ⟨(L.idxOf t.a.toNat : Nat), (L.idxOf t.b.toNat : Nat), t.c, t.d⟩ := fun t t' ht e => by
    unfold aloneAt at e
    split at e
    · rename_i hm
      exact ⟨hm, (S.shut t ht).mp hm, (Option.some.inj e).symm⟩
    · cases e
  refine ⟨fun t' ht' => ?_, ?_⟩
  · obtain ⟨t, ht, e⟩ := List.mem_filterMap.mp ht'
    obtain ⟨m1, m2, rfl⟩ := one t t' ht e
    have o := ok.all t ht
    have a0 := o.a0
    have a1 := o.ab
    have q1 := idx_lt S.up m1 m2 (by omega)
    obtain ⟨q2, _⟩ := idx_get m2
    exact ⟨by show (0 : Int) ≤ (_ : Nat); omega, by show ((_ : Nat) : Int) < ((_ : Nat) : Int); omega, by show ((_ : Nat) : Int) < ((_ : Nat) : Int); omega, o.c1, o.cm, o.d1, o.dm⟩
  · have gen : ∀ l : List Tie, (∀ t ∈ l, t ∈ ts) → (l.map fun t => (t.a, t.b)).Nodup → ((l.filterMap (aloneAt L)).map fun t => (t.a, t.b)).Nodup := by
      intro l
      induction l with
      | nil => exact fun _ _ => List.Pairwise.nil
      | cons t l ih =>
        intro hs hn
        obtain ⟨n1, n2⟩ := List.nodup_cons.mp hn
        have ih' := ih (fun t' h => hs t' (List.mem_cons_of_mem _ h)) n2
        rw [List.filterMap_cons]
        cases e : aloneAt L t with
        | none => exact ih'
        | some t' =>
          refine List.nodup_cons.mpr ⟨fun hm => ?_, ih'⟩
          obtain ⟨u', hu', eu⟩ := List.mem_map.mp hm
          obtain ⟨u, hu, e2⟩ := List.mem_filterMap.mp hu'
          have hut := hs u (List.mem_cons_of_mem _ hu)
          have htt := hs t List.mem_cons_self
          obtain ⟨m1, m2, rfl⟩ := one t t' htt e
          obtain ⟨m3, m4, rfl⟩ := one u u' hut e2
          have x1 : L.idxOf u.a.toNat = L.idxOf t.a.toNat := Int.ofNat.inj (congrArg Prod.fst eu)
          have x2 : L.idxOf u.b.toNat = L.idxOf t.b.toNat := Int.ofNat.inj (congrArg Prod.snd eu)
          have y1 : u.a.toNat = t.a.toNat := by
            obtain ⟨h, q⟩ := idx_get m1
            exact ((idx_iff S.nd m3 h).mp x1).trans q
          have y2 : u.b.toNat = t.b.toNat := by
            obtain ⟨h, q⟩ := idx_get m2
            exact ((idx_iff S.nd m4 h).mp x2).trans q
          have ou := ok.all u hut
          have ot := ok.all t htt
          have z1 := ou.a0
          have z2 := ou.ab
          have z3 := ot.a0
          have z4 := ot.ab
          refine n1 (List.mem_map.mpr ⟨u, hu, ?_⟩)
          have w1 : u.a = t.a := by omega
          have w2 : u.b = t.b := by omega
          rw [w1, w2]
    exact gen ts (fun _ h => h) ok.nd
theorem ct_alone {ts : List Tie} {L : List Nat} {ns : List Int} {k : Nat} (S : Shut ts L) (hk : k < L.length) : ∀ {l : List Tie}, (∀ t ∈ l, t ∈ ts) → ((l.filterMap (aloneAt L)).map (ct (rst L ns) k)).sum = (l.map (ct ns L[k])).sum
  | [], _ => rfl
  | t :: l, h => by
    have ih := ct_alone (ns := ns) S hk (l := l) fun t' h' => h t' (List.mem_cons_of_mem _ h')
    have ht := h t List.mem_cons_self
    rw [List.filterMap_cons, List.map_cons, List.sum_cons]
    by_cases hm : t.a.toNat ∈ L
    · have hb := (S.shut t ht).mp hm
      have e : aloneAt L t = some ⟨(L.idxOf t.a.toNat : Nat), (L.idxOf t.b.toNat : Nat), t.c, t.d⟩ := by
        unfold aloneAt
        rw [if_pos hm]
      rw [e]
      show (((⟨(L.idxOf t.a.toNat : Nat), (L.idxOf t.b.toNat : Nat), t.c, t.d⟩ : Tie) :: l.filterMap (aloneAt L)).map (ct (rst L ns) k)).sum = _
      rw [List.map_cons, List.sum_cons, ih]
      congr 1
      obtain ⟨h1, q1⟩ := idx_get hm
      obtain ⟨h2, q2⟩ := idx_get hb
      have g1 := rst_get (ns := ns) h1
      have g2 := rst_get (ns := ns) h2
      rw [q1] at g1
      rw [q2] at g2
      unfold ct
      show (if ((L.idxOf t.b.toNat : Nat) : Int).toNat = k then t.c * up ((rst L ns).getD ((L.idxOf t.a.toNat : Nat) : Int).toNat 0) else 0) + (if ((L.idxOf t.a.toNat : Nat) : Int).toNat = k then t.d * up ((rst L ns).getD ((L.idxOf t.b.toNat : Nat) : Int).toNat 0) else 0) = _
      rw [Int.toNat_natCast, Int.toNat_natCast, g1, g2]
      have i1 := idx_iff S.nd hm hk
      have i2 := idx_iff S.nd hb hk
      simp only [i1, i2]
    · have hb : t.b.toNat ∉ L := fun h' => hm ((S.shut t ht).mpr h')
      have e : aloneAt L t = none := by
        unfold aloneAt
        rw [if_neg hm]
      rw [e]
      have z : ct ns L[k] t = 0 := by
        unfold ct
        rw [if_neg (fun q => hb (by rw [q]; exact List.getElem_mem hk)), if_neg (fun q => hm (by rw [q]; exact List.getElem_mem hk))]
        rfl
      rw [z, Int.zero_add]
      exact ih
theorem sum_perm {l m : List Int} (h : l.Perm m) : l.sum = m.sum := by
  induction h with
  | nil => rfl
  | cons x _ ih => rw [List.sum_cons, List.sum_cons, ih]
  | swap x y l =>
    rw [List.sum_cons, List.sum_cons, List.sum_cons, List.sum_cons]
    omega
  | trans _ _ i1 i2 => exact i1.trans i2
/-- the gains of a part alone -/
theorem gains_alone {s : Nat} {ts : List Tie} {L : List Nat} {ns : List Int} (ok : TiesOk 9 (s : Int) ts) (S : Shut ts L) (hL : ∀ j ∈ L, j < s) {k : Nat} (hk : k < L.length) :
    (gainsOf (tiesOf (matOf (ts.filterMap (aloneAt L))) L.length) L.length (rst L ns)).getD k 0 = (gainsOf (tiesOf (matOf ts) s) s ns).getD L[k] 0 := by
  rw [gains_sum hk, gains_sum (hL _ (List.getElem_mem hk)), sum_perm ((tiesOf_perm (alone_ok ok S)).map _), sum_perm ((tiesOf_perm ok).map _)]
  exact ct_alone S hk fun _ h => h
theorem list_eq {a b : List Int} (h : a.length = b.length) (f : ∀ k, k < a.length → a.getD k 0 = b.getD k 0) : a = b := by
  apply List.ext_getElem h
  intro k h1 h2
  have := f k h1
  rw [List.getD_eq_getElem?_getD, List.getD_eq_getElem?_getD, List.getElem?_eq_getElem h1, List.getElem?_eq_getElem h2] at this
  exact this
theorem sub_get' : ∀ {a b : List Int} {i : Nat}, a.length = b.length → (List.zipWith (· - ·) a b).getD i 0 = a.getD i 0 - b.getD i 0
  | [], [], _, _ => rfl
  | [], _ :: _, _, h => by simp at h
  | _ :: _, [], _, h => by simp at h
  | _ :: _, _ :: _, 0, _ => rfl
  | x :: a, y :: b, i + 1, h => by
    have := sub_get' (a := a) (b := b) (i := i) (by simpa using h)
    simpa using this
theorem rst_len {L : List Nat} {ns : List Int} : (rst L ns).length = L.length := List.length_map ..
/-- a part's beat alone -/
theorem stepF_alone {s : Nat} {ts : List Tie} {L : List Nat} {p : List Int × List Int} (ok : TiesOk 9 (s : Int) ts) (S : Shut ts L) (hL : ∀ j ∈ L, j < s) (h1 : p.1.length = s) :
    stepF (matOf (ts.filterMap (aloneAt L))) L.length (rstP L p) = rstP L (stepF (matOf ts) s p) := by
  show (rst L p.2, List.zipWith (· - ·) (gainsOf _ _ (rst L p.2)) (rst L p.1)) = (rst L p.2, rst L (List.zipWith (· - ·) (gainsOf _ _ p.2) p.1))
  congr 1
  refine list_eq (by rw [List.length_zipWith, gains_len, rst_len, rst_len]; exact Nat.min_self _) fun k hk => ?_
  rw [List.length_zipWith, gains_len, rst_len, Nat.min_self] at hk
  rw [sub_get' (by rw [gains_len, rst_len]), gains_alone ok S hL hk, rst_get hk, rst_get hk, sub_get' (by rw [gains_len, h1])]
theorem runF_alone {s : Nat} {ts : List Tie} {L : List Nat} {p : List Int × List Int} (ok : TiesOk 9 (s : Int) ts) (S : Shut ts L) (hL : ∀ j ∈ L, j < s) (h1 : p.1.length = s) (h2 : p.2.length = s) :
    ∀ k, runF (matOf (ts.filterMap (aloneAt L))) L.length (rstP L p) k = rstP L (runF (matOf ts) s p k)
  | 0 => rfl
  | k + 1 => by
    show stepF _ _ (runF _ _ (rstP L p) k) = rstP L (stepF _ _ (runF _ _ p k))
    rw [runF_alone ok S hL h1 h2 k, stepF_alone ok S hL (run_len h1 h2 k).1]
end Gb
set_option maxRecDepth 100000
set_option maxHeartbeats 4000000
namespace Gb
open PySem PySem.Spec PyProof.Rows L2
open PySem.W (Datum Tup T4)
/-- the numbers of h at the posts, of t elsewhere -/
def mix (h : List Int) (L : List Nat) (t : List Int) : List Int := L.foldl (fun t j => t.set j (h.getD j 0)) t
theorem mix_len {h : List Int} : ∀ {L : List Nat} {t : List Int}, (mix h L t).length = t.length
  | [], _ => rfl
  | j :: L, t => by
    show (mix h L (t.set j (h.getD j 0))).length = _
    rw [mix_len, List.length_set]
theorem mix_get {h : List Int} {i : Nat} : ∀ {L : List Nat} {t : List Int}, i < t.length → (mix h L t).getD i 0 = if i ∈ L then h.getD i 0 else t.getD i 0
  | [], t, _ => by
    rw [if_neg (by simp)]
    rfl
  | j :: L, t, hi => by
    show (mix h L (t.set j (h.getD j 0))).getD i 0 = _
    rw [mix_get (by rw [List.length_set]; exact hi)]
    by_cases hm : i ∈ L
    · rw [if_pos hm, if_pos (List.mem_cons_of_mem _ hm)]
    · rw [if_neg hm]
      by_cases e : j = i
      · subst e
        rw [if_pos List.mem_cons_self, List.getD_eq_getElem?_getD, List.getElem?_set, if_pos rfl, if_pos hi]
        rfl
      · rw [if_neg (fun h' => (List.mem_cons.mp h').elim (fun e' => e e'.symm) hm), List.getD_eq_getElem?_getD, List.getElem?_set, if_neg e, ← List.getD_eq_getElem?_getD]
theorem mix_rst {h t : List Int} {L : List Nat} (hl : ∀ j ∈ L, j < t.length) : rst L (mix h L t) = rst L h := by
  unfold rst
  exact List.map_congr_left fun j hj => by rw [mix_get (hl j hj), if_pos hj]
theorem mix_take {h t : List Int} {L : List Nat} {k j : Nat} (hk : L[k]? = some j) : mix h (L.take (k + 1)) t = (mix h (L.take k) t).set j (h.getD j 0) := by
  unfold mix
  rw [List.take_add_one, hk, List.foldl_append]
  rfl
theorem mix_small {h t : List Int} {L : List Nat} {B : Int} (hh : ∀ k ∈ h, -B ≤ k ∧ k ≤ B) (ht : ∀ k ∈ t, -B ≤ k ∧ k ≤ B) (hL : ∀ j ∈ L, j < h.length) : ∀ k ∈ mix h L t, -B ≤ k ∧ k ≤ B := by
  have gen : ∀ (L : List Nat) (t : List Int), (∀ j ∈ L, j < h.length) → (∀ k ∈ t, -B ≤ k ∧ k ≤ B) → ∀ k ∈ mix h L t, -B ≤ k ∧ k ≤ B := by
    intro L
    induction L with
    | nil => exact fun t _ h => h
    | cons j L ih =>
      intro t hL ht
      refine ih (t.set j (h.getD j 0)) (fun i hi => hL i (List.mem_cons_of_mem _ hi)) fun k hk => ?_
      rcases List.mem_or_eq_of_mem_set hk with hk | rfl
      · exact ht k hk
      · have hj := hL j List.mem_cons_self
        rw [List.getD_eq_getElem?_getD, List.getElem?_eq_getElem hj]
        exact hh _ (List.getElem_mem hj)
  exact gen L t hL ht
theorem rst_small {h : List Int} {L : List Nat} {B : Int} (hh : ∀ k ∈ h, -B ≤ k ∧ k ≤ B) (hL : ∀ j ∈ L, j < h.length) : ∀ k ∈ rst L h, -B ≤ k ∧ k ≤ B := fun k hk => by
  obtain ⟨j, hj, rfl⟩ := List.mem_map.mp hk
  have hj' := hL j hj
  rw [List.getD_eq_getElem?_getD, List.getElem?_eq_getElem hj']
  exact hh _ (List.getElem_mem hj')
theorem pairs_28 {s : Nat} (h : s ≤ 8) : (pairsOf s).length ≤ 28 := by
  match s, h with
  | 0, _ => decide
  | 1, _ => decide
  | 2, _ => decide
  | 3, _ => decide
  | 4, _ => decide
  | 5, _ => decide
  | 6, _ => decide
  | 7, _ => decide
  | 8, _ => decide
/-- one post alone is back behind four beats -/
theorem four {M : Nat → Nat → Int} {a b : Int} : runF M 1 ([a], [b]) 4 = ([a], [b]) := by
  have e : tiesOf M 1 = [] := rfl
  have st : ∀ x y : Int, stepF M 1 ([x], [y]) = ([y], [0 - x]) := fun x y => by
    show ([y], List.zipWith (· - ·) (gainsOf (tiesOf M 1) 1 [y]) [x]) = _
    rw [e]
    rfl
  show stepF M 1 (stepF M 1 (stepF M 1 (stepF M 1 ([a], [b])))) = _
  rw [st, st, st, st]
  have h1 : 0 - (0 - a) = a := by omega
  have h2 : 0 - (0 - b) = b := by omega
  rw [h1, h2]
theorem part_lt {M : Nat → Nat → Int} {s p j : Nat} (hp : p < s) (h : Reach M s p j) : j < s := by
  cases h with
  | here => exact hp
  | step _ hj => exact (mem_nbr.mp hj).1
theorem Ask.ex' {C : Addr} {H H' : Hp} {x : Addr} {s : Nat} {M : Nat → Nat → Int} {v : V} {p : List Int × List Int} (A : Ask C H x s M v p) (e : Ex H H') : Ask C H' x s M v p := ⟨A.web.ex' e, A.cord, A.st.same e, A.l1, A.l2⟩
theorem Ask.to {C : Addr} {H H' : Hp} {x : Addr} {s : Nat} {M : Nat → Nat → Int} {v r : V} {p p' : List Int × List Int} (A : Ask C H x s M v p) (e : Ex H H') (h : StAt H' r p'.1 p'.2) (h1 : p'.1.length = s) (h2 : p'.2.length = s) : Ask C H' x s M r p' := ⟨A.web.ex' e, A.cord, h, h1, h2⟩
/-- two rows -/
def two (u w : List Int) (i : Nat) : List V := if i = 0 then u.map V.int else if i = 1 then w.map V.int else []
/-- a list of standings -/
theorem list_is {K : PySem.W.Frag} {H : Hp} {l : Addr} {rv : List V} {n : Nat} {f : Nat → List Int × List Int} (hl : H l = some (.lst rv)) (hn : rv.length = n) (h : ∀ k r, rv[k]? = some r → StAt H r (f k).1 (f k).2) : Is K H (.ref l) ((List.range n).map fun k => stD (f k)) := by
  refine .lst (SqL.of hl) (all_of (by rw [List.length_map, List.length_range, hn]) fun i y a hy ha => ?_)
  rw [List.getElem?_map] at ha
  have hi : i < n := by
    have := (List.getElem?_eq_some_iff.mp hy).1
    omega
  rw [List.getElem?_range hi] at ha
  rw [← Option.some.inj ha]
  exact st_is (h i y hy)
theorem StAt.offD {H : Hp} {D : Addr} {zs : List V} {v : V} {o n : List Int} (h : StAt H v o n) (hD : H D = some (.lst zs)) : StAt (del H D) v o n := by
  obtain ⟨t, a, b, rfl, h1, h2, h3⟩ := h
  have ne : ∀ {x : Addr} {xs : List V}, H x = some (.tup xs) → x ≠ D := fun hx e => by
    rw [e, hD] at hx
    cases hx
  exact ⟨t, a, b, rfl, by rw [del_ne (ne h1)]; exact h1, by rw [del_ne (ne h2)]; exact h2, by rw [del_ne (ne h3)]; exact h3⟩
theorem one_of {L : List Nat} (h : L.length = 1) {p : List Int × List Int} : ∃ a b, rstP L p = ([a], [b]) := by
  match L, h with
  | [j], _ => exact ⟨_, _, rfl⟩
end Gb
set_option maxRecDepth 100000
set_option maxHeartbeats 4000000
namespace Gb
open PySem PySem.Spec PyProof.Rows L2
open PySem.W (Datum Tup T4)
section
variable {P : Program} {w : World} {K : PySem.W.Frag} {mg : Str → Option Value} {base : Heap}
def spLaw (K : PySem.W.Frag) : Sp := fun vs H Q _ => ∃ (a : Addr) (ns : List Int), vs = [.ref a] ∧ SqL K H a (ns.map V.int) ∧ ns.length ≤ 63 ∧ ∀ H', Q (.bl true) H'
theorem sc_law : FnScope ["script", "pen", "turn", "size", "ties", "more", "others", "web", "here", "beats", "told", "posts", "there", "row", "post", "mixed", "small", "line", "one"] ["script"] (defScope s_law) := ⟨rfl, rfl, rfl, by decide +kernel, rfl, by decide +kernel, by decide +kernel⟩
theorem ok_law {f : Addr} {fd : FuncData} (F : Fun K "law" "law" s_law f fd) (B : Bt mg) {C : Addr} (W : Wb K mg C) (c__law_pen : Cl P w K mg base 1 "_law_pen" (spPen K)) (c__law_some_web : Cl P w K mg base 7 "_law_some_web" (spSome K)) (c__law_renamed : Cl P w K mg base 3 "_law_renamed" (spRen K)) (c__law_moved : Cl P w K mg base 1 "_law_moved" (spMov K)) (c_Web : ClI P w K mg base 4 C "Web" (spInit K C)) (c__law_standing : Cl P w K mg base 4 "_law_standing" (spStand K)) (c__law_draw : Cl P w K mg base 1 "_law_draw" spDraw) (c_run_of : Cl P w K mg base 5 "run_of" (spRun C)) (m_parts : ClM P w K mg base 7 C "parts" (spParts C)) (c__law_alone : Cl P w K mg base 1 "_law_alone" (spAlone K)) (c__law_at : Cl P w K mg base 1 "_law_at" spAt) : FnOk P w K mg base CX0 8 f fd ["script"] (spLaw K) := by
  refine F.ok sc_law (fun vs H Q E h => ?_) (fun cdv A outer s H vs Q E hr h => ?_)
  · obtain ⟨a, ns, rfl, _⟩ := h
    rfl
  · obtain ⟨a, ns, rfl, hS, hn, q⟩ := h
    have nd := sc_law.nd
    refine ⟨_, (pss_cons (ps_set (i := 1) nd rfl (.inl rfl) (pe_c c__law_pen hr (by decide) (by rfl) (pa_cons (pv 0) pa_nil)))
    (pss_cons (ps_for PassesOwn.never rfl (pi_range1 (by rfl) B.range (pa_cons pe_int pa_nil)) (pg_name (i := 2) nd rfl (.inl rfl))
    (pss_cons (ps_asg (pe_c c__law_some_web hr (by decide) (by rfl) (pa_cons (pv 1) (pa_cons pe_int pa_nil))) (pg_tupK (n := 2) (by rfl) (pgs_cons (pg_name (i := 3) nd rfl (.inl rfl)) (pgs_cons (pg_name (i := 4) nd rfl (.inl rfl)) pgs_nil))))
    (pss_cons (ps_asg (pe_c c__law_some_web hr (by decide) (by rfl) (pa_cons (pv 1) (pa_cons pe_int pa_nil))) (pg_tupK (n := 2) (by rfl) (pgs_cons (pg_name (i := 5) nd rfl (.inl rfl)) (pgs_cons (pg_name (i := 6) nd rfl (.inl rfl)) pgs_nil))))
    (pss_cons (ps_par (i := 3) (j := 4) (by rfl) nd rfl rfl (by decide) rfl rfl (pa_cons (pe_op op_add (pv 3) (pv 5)) (pa_cons (pe_c c__law_renamed hr (by decide) (by rfl) (pa_cons (pv 1) (pa_cons (pe_op op_add (pv 3) (pv 5)) (pa_cons (pe_op op_cat (pv 4) (pe_c c__law_moved hr (by decide) (by rfl) (pa_cons (pv 6) (pa_cons (pv 3) pa_nil)))) pa_nil)))) pa_nil)) (by rfl))
    (pss_cons (ps_par3 (i := 7) (j := 8) (l := 9) (by rfl) nd rfl rfl rfl (by decide) (by decide) (by decide) rfl rfl rfl (pa_cons (pe_mk c_Web hr (by decide) (by rfl) (pa_cons (pv 3) (pa_cons (pv 4) pa_nil))) (pa_cons (pe_c c__law_standing hr (by decide) (by rfl) (pa_cons (pv 1) (pa_cons (pv 3) (pa_cons pe_int pa_nil)))) (pa_cons (pe_c c__law_draw hr (by decide) (by rfl) (pa_cons (pv 1) (pa_cons pe_int pa_nil))) pa_nil))) (by rfl))
    (pss_cons (ps_set (i := 10) nd rfl (.inl rfl) (pe_c c_run_of hr (by decide) (by rfl) (pa_cons (pv 7) (pa_cons (pv 8) (pa_cons (pv 9) pa_nil)))))
    (pss_one (ps_for PassesOwn.never rfl (pi_listK (pe_mt0 m_parts hr (by decide) (pv 7))) (pg_name (i := 11) nd rfl (.inr rfl))
    (pss_cons (ps_set (i := 12) nd rfl (.inl rfl) (pe_c c__law_standing hr (by decide) (by rfl) (pa_cons (pv 1) (pa_cons (pv 3) (pa_cons pe_int pa_nil)))))
    (pss_cons (ps_setLc (i := 13) (own := [("line", 17)]) rfl nd rfl rfl (sw_true rfl rfl rfl (by decide +kernel)) (pi_tupK (pv 12)) (blkOk_by (N := ["script", "pen", "turn", "size", "ties", "more", "others", "web", "here", "beats", "told", "posts", "there", "row", "post", "mixed", "small", "line", "one"]) (sc := defScope s_law) (by decide +kernel)) (fun _ _ _ _ _ => (pg_name (i := 17) nd rfl (.inl rfl))) (fun _ _ _ _ _ => pts_nil) (fun _ _ _ _ _ => (pe_callTy call_listK (by rfl) B.list (by decide +kernel) (pa_cons (pv 17) pa_nil))))
    (pss_cons (ps_for PassesOwn.never rfl (pi_listK (pv 11)) (pg_name (i := 14) nd rfl (.inl rfl))
    (pss_one (ps_asg (pe_tup (pa_cons (pe_ix ix_tupK (pe_ix ix_tupK (pv 8) pe_int (fun _ _ => rfl)) (pv 14) (fun _ _ => rfl)) (pa_cons (pe_ix ix_tupK (pe_ix ix_tupK (pv 8) pe_int (fun _ _ => rfl)) (pv 14) (fun _ _ => rfl)) pa_nil))) (pg_tupK (n := 2) (by rfl) (pgs_cons (pg_sub (pe_ix ix_listK (pv 13) pe_int (fun _ _ => rfl)) (pv 14) set_list) (pgs_cons (pg_sub (pe_ix ix_listK (pv 13) pe_int (fun _ _ => rfl)) (pv 14) set_list) pgs_nil))))))
    (pss_cons (ps_set (i := 15) nd rfl (.inl rfl) (pe_c c_run_of hr (by decide) (by rfl) (pa_cons (pv 7) (pa_cons (pe_tup (pa_cons (pe_callTy call_tupK (by rfl) B.tuple (by decide +kernel) (pa_cons (pe_ix ix_listK (pv 13) pe_int (fun _ _ => rfl)) pa_nil)) (pa_cons (pe_callTy call_tupK (by rfl) B.tuple (by decide +kernel) (pa_cons (pe_ix ix_listK (pv 13) pe_int (fun _ _ => rfl)) pa_nil)) pa_nil))) (pa_cons (pv 9) pa_nil)))))
    (pss_cons (ps_set (i := 16) nd rfl (.inl rfl) (pe_c c_run_of hr (by decide) (by rfl) (pa_cons (pe_mk c_Web hr (by decide) (by rfl) (pa_cons (pe_callB call_lenK (by rfl) B.len PySem.boot_len (pa_cons (pv 11) pa_nil)) (pa_cons (pe_c c__law_alone hr (by decide) (by rfl) (pa_cons (pv 11) (pa_cons (pv 4) pa_nil))) pa_nil))) (pa_cons (pe_c c__law_at hr (by decide) (by rfl) (pa_cons (pv 8) (pa_cons (pv 11) pa_nil))) (pa_cons (pv 9) pa_nil)))))
    (pss_cons (ps_if (PW.pt (pw_or (pt_cmpR (op_neK hr.units) (pe_lc (own := [("one", 18)]) rfl nd (pi_listK (pv 10)) (blkOk_by (N := ["script", "pen", "turn", "size", "ties", "more", "others", "web", "here", "beats", "told", "posts", "there", "row", "post", "mixed", "small", "line", "one"]) (sc := defScope s_law) (by decide +kernel)) (fun _ _ _ _ _ => (pg_name (i := 18) nd rfl (.inl rfl))) (fun _ _ _ _ _ => pts_nil) (fun _ _ _ _ _ => (pe_c c__law_at hr (by decide) (by rfl) (pa_cons (pv 18) (pa_cons (pv 11) pa_nil))))) (pv 16) (nomark _)) (pw_or1 (pt_cmpR (op_neK hr.units) (pe_lc (own := [("one", 18)]) rfl nd (pi_listK (pv 15)) (blkOk_by (N := ["script", "pen", "turn", "size", "ties", "more", "others", "web", "here", "beats", "told", "posts", "there", "row", "post", "mixed", "small", "line", "one"]) (sc := defScope s_law) (by decide +kernel)) (fun _ _ _ _ _ => (pg_name (i := 18) nd rfl (.inl rfl))) (fun _ _ _ _ _ => pts_nil) (fun _ _ _ _ _ => (pe_c c__law_at hr (by decide) (by rfl) (pa_cons (pv 18) (pa_cons (pv 11) pa_nil))))) (pv 16) (nomark _)))))
    (pss_one (ps_ret pe_bl))
    pss_nil)
    (pss_one (ps_if (PW.pt (pw_and (pt_cmpR op_eq (pe_callB call_lenK (by rfl) B.len PySem.boot_len (pa_cons (pv 11) pa_nil)) pe_int (nomark _)) (pw_and (pt_cmpR op_gt (pv 9) pe_int (nomark _)) (pw_and1 (pt_cmpR (op_neK hr.units) (pe_c c__law_at hr (by decide) (by rfl) (pa_cons (pe_ix ix_listK (pv 10) pe_int (fun _ _ => rfl)) (pa_cons (pv 11) pa_nil))) (pe_c c__law_at hr (by decide) (by rfl) (pa_cons (pv 8) (pa_cons (pv 11) pa_nil))) (nomark _))))))
    (pss_one (ps_ret pe_bl))
    pss_nil))))))))))))))))
    (pss_one (ps_ret pe_bl)))), ?_⟩
    refine ⟨.ref a, rfl, a, ns, rfl, hS, fun p c H0 hp0 s0 => ?_⟩
    refine ⟨6, rfl, by decide, by decide, ?_⟩
    refine for_range (lo := 0) (n := (6 : Int).toNat) (fun i σ H' => ∃ u2 u3 u4 u5 u6 u7 u8 u9 u10 u11 u12 u13 u14 u15 u16 u17 u18, σ = [some (.ref a), some (.ref p), u2, u3, u4, u5, u6, u7, u8, u9, u10, u11, u12, u13, u14, u15, u16, u17, u18] ∧ Pen H' p c (50000 * i)) ⟨_, _, _, _, _, _, _, _, _, _, _, _, _, _, _, _, _, rfl, hp0⟩ ?_ ?_
    · rintro i σ H1 hi ⟨u2, u3, u4, u5, u6, u7, u8, u9, u10, u11, u12, u13, u14, u15, u16, u17, u18, rfl, hp1⟩
      have hi6 : i < 6 := hi
      refine ⟨.ref p, rfl, p, c, _, 8, rfl, hp1, by omega, by decide, by decide, fun r H2 sa ts g2 hw hs1 hs8 hok hts => ?_⟩
      obtain ⟨t, v, rfl, ht, hv⟩ := hw
      refine ⟨t, _, rfl, SqT.of ht, rfl, _, _, rfl, _, _, rfl, rfl, ?_⟩
      have hp2 := g2.2 _ hp1
      refine ⟨.ref p, rfl, p, c, _, 4, rfl, hp2, by omega, by decide, by decide, fun r2 H3 sb ts2 g3 hw2 hs21 hs24 hok2 hts2 => ?_⟩
      obtain ⟨t2, v2, rfl, ht2, hv2⟩ := hw2
      refine ⟨t2, _, rfl, SqT.of ht2, rfl, _, _, rfl, _, _, rfl, rfl, ?_⟩
      have hp3 := g3.2 _ hp2
      obtain ⟨na, rfl⟩ := Int.eq_ofNat_of_zero_le (Int.le_trans (by decide : (0 : Int) ≤ 1) hs1)
      obtain ⟨nb, rfl⟩ := Int.eq_ofNat_of_zero_le (Int.le_trans (by decide : (0 : Int) ≤ 1) hs21)
      have tl1 : ts.length ≤ 28 := Nat.le_trans (ties_len hok) (pairs_28 (by omega))
      have tl2 : ts2.length ≤ 28 := Nat.le_trans (ties_len hok2) (pairs_28 (by omega))
      refine ⟨.int na, rfl, .int nb, rfl, na, nb, rfl, rfl, .ref p, rfl, .int na, rfl, .int nb, rfl, na, nb, rfl, rfl, v, rfl, v2, rfl, .int na, rfl, ⟨v2, ts2, na, rfl, hv2.is, by omega, fun r6 H4 s4 hr6 => ?_⟩⟩
      obtain ⟨la, zs, rfl, ha, hz⟩ := hv.ex (g3.1.trans (Ex.of s4))
      obtain ⟨lb, ys, rfl, hb, hy⟩ := hr6.nw
      have ll1 := all_len hz
      have ll2 := all_len hy
      rw [mov_len] at ll2
      refine ⟨la, lb, zs, ys, rfl, rfl, ha, hb, Nat.le_trans (by omega : zs.length + ys.length ≤ 200) (by decide : 200 ≤ sizeLine), fun e he => ?_⟩
      have sx : Same H3 (upd H4 e (.lst (zs ++ ys))) := s4.trans (same_new he)
      have hp4 := (Go.of (p := p) (c := c) sx).2 _ hp3
      have hokc : TiesOk 9 ((na : Int) + (nb : Int)) (ts ++ movT ts2 na) := hok.beside (hok2.mono (by decide) (Int.le_refl _)) (by omega) (by omega)
      refine ⟨p, c, _, (na : Int) + (nb : Int), 9, .ref e, ts ++ movT ts2 na, rfl, hp4, by omega, by omega, by omega, .lst (SqL.of upd_same) (all_app (DpAll.ex (Ex.new he) hz) (DpAll.ex (Ex.new he) hy)), hokc, by rw [List.length_append, mov_len]; omega, fun r7 H5 ts' g5 hr7 hren => ?_⟩
      obtain ⟨s, hse⟩ : ∃ s : Nat, (na : Int) + (nb : Int) = (s : Int) := ⟨na + nb, by omega⟩
      have hok' := hren.ok hokc
      have tl : ts'.length ≤ 56 := by
        rw [hren.len, List.length_append, mov_len]
        omega
      have hp5 := g5.2 _ hp4
      refine ⟨.int (s : Int), r7, by show [V.int ((na : Int) + (nb : Int)), r7] = [V.int (s : Int), r7]; rw [hse], ?_⟩
      rw [hse] at hok'
      have hs1' : 1 ≤ s := by omega
      have hs12 : s ≤ 12 := by omega
      have hs1I : (1 : Int) ≤ (s : Int) := by omega
      refine ⟨.int s, rfl, r7, rfl, fun x dx hx hdx hne => ?_⟩
      have exn : Ex H5 (upd (upd H5 dx (.own x)) x (.ins C dx [])) := (Ex.new hdx).trans (Ex.new (by rw [upd_ne (Ne.symm hne)]; exact hx))
      refine ⟨x, dx, s, r7, ts', rfl, upd_same, Dp.ex exn hr7.is, hok', by omega, hs1', hs12, fun H6 hold hW => ⟨rfl, ?_⟩⟩
      have s6 : Same H5 H6 := fun b o e => by
        have n1 : b ≠ x := fun z => by
          rw [z, hx] at e
          cases e
        have n2 : b ≠ dx := fun z => by
          rw [z, hdx] at e
          cases e
        exact hold b o n1 (by rw [upd_ne n1, upd_ne n2]; exact e)
      have hM := mat_le hok'.all
      have hp6 := (Go.of (p := p) (c := c) s6).2 _ hp5
      refine ⟨.ref p, rfl, .int s, rfl, p, c, _, 30, s, rfl, hp6, by omega, hs1I, by omega, by decide, by decide, fun rh H7 o n g7 hst ho hn' hsm => ?_⟩
      have hp7 := g7.2 _ hp6
      refine ⟨.ref p, rfl, p, c, _, 17, rfl, hp7, by omega, by decide, by decide, fun d H8 hd0 hd1 g8 => ?_⟩
      have hp8 := g8.2 _ hp7
      obtain ⟨b, rfl⟩ := Int.eq_ofNat_of_zero_le hd0
      refine ⟨.ref x, rh, .int (b : Int), rfl, ?_⟩
      have A8 : Ask C H8 x s (matOf ts') rh (o, n) := ⟨(hW.ex' g7.1).ex' g8.1, hM, hst.same g8.1, by show o.length = s; omega, by show n.length = s; omega⟩
      have l1 : o.length = s := A8.l1
      have l2 : n.length = s := A8.l2
      have sm1 : ∀ k ∈ o, -(10 ^ 30) ≤ k ∧ k ≤ 10 ^ 30 := fun k hk => by
        have := hsm k (List.mem_append_left _ hk)
        omega
      have sm2 : ∀ k ∈ n, -(10 ^ 30) ≤ k ∧ k ≤ 10 ^ 30 := fun k hk => by
        have := hsm k (List.mem_append_right _ hk)
        omega
      have small : Small (o, n) := fun k hk => (List.mem_append.mp hk).elim (sm1 k) (sm2 k)
      refine ⟨.ref x, rfl, rh, rfl, .int b, rfl, x, s, matOf ts', rh, (o, n), b, rfl, by omega, A8, small, fun lt H9 rv s9 hlt0 hlt hrl hrun => ?_⟩
      have A9 := A8.same s9
      have hp9 := (Go.of (p := p) (c := c) s9).2 _ hp8
      have hr9 : Ls K H9 r7 ts' := (((hr7.ex (Ex.of s6)).ex g7.1).ex g8.1).ex (Ex.of s9)
      obtain ⟨dx9, xr9, xrs9, hx9, _⟩ := A9.web.ex
      refine ⟨.ref x, rfl, x, dx9, _, rfl, hx9, rfl, x, s, matOf ts', rfl, A9.web, fun lp H10 pas Ls0 s10 hlp0 hlp hpl hpc hLs hParts => ?_⟩
      have hp10 := (Go.of (p := p) (c := c) s10).2 _ hp9
      refine ⟨lp, rfl, ⟨_, SqL.of hlp⟩, for_list (K := K) (a := lp) (xs := pas.map V.ref) (fun k σ H' => ∃ u11 u12 u13 u14 u15 u16 u17 u18, σ = [some (.ref a), some (.ref p), some (.int (0 + (i : Int))), some (.int s), some r7, some (.int (nb : Int)), some v2, some (.ref x), some rh, some (.int b), some (.ref lt), u11, u12, u13, u14, u15, u16, u17, u18] ∧ Ex H10 H' ∧ ∃ m, Pen H' p c m ∧ m ≤ 50000 * i + 8000 + 3000 * k) ⟨_, _, _, _, _, _, _, _, rfl, Ex.refl, _, hp10, by omega⟩ ?_ ?_ ?_⟩
      · rintro k σ H' _ ⟨u11, u12, u13, u14, u15, u16, u17, u18, rfl, ex, _⟩
        exact ex.l (SqL.of hlp)
      · rintro k y σ H11 hy ⟨u11, u12, u13, u14, u15, u16, u17, u18, rfl, ex, m, hpm, hmb⟩
        obtain ⟨pl, hpk, rfl⟩ : ∃ pl, pas[k]? = some pl ∧ V.ref pl = y := by
          rw [List.getElem?_map] at hy
          cases e : pas[k]? with
          | none =>
            rw [e] at hy
            cases hy
          | some z =>
            rw [e] at hy
            exact ⟨z, rfl, Option.some.inj hy⟩
        have hkl := (List.getElem?_eq_some_iff.mp hpk).1
        have hk12 : k < 12 := by omega
        have hLk : Ls0[k]? = some (Ls0[k]'(by omega)) := List.getElem?_eq_getElem _
        generalize Ls0[k]'(by omega) = L at hLk
        have hL10 := hpc k pl L hpk hLk
        obtain ⟨p0, hp0s, hPart⟩ := hParts.part L (List.mem_of_getElem? hLk)
        have S := shut_of hok' hPart
        have hLs' : ∀ j ∈ L, j < s := fun j hj => part_lt hp0s ((hPart.iff_ j).mp hj)
        have hLlen : L.length ≤ 12 := by
          have := nd_len (m := List.range s) S.nd fun j hj => List.mem_range.mpr (hLs' j hj)
          rw [List.length_range] at this
          omega
        have hL1 : 1 ≤ L.length := List.length_pos_of_mem ((hPart.iff_ p0).mpr .here)
        refine ⟨.ref p, rfl, .int s, rfl, p, c, m, 30, s, rfl, hpm, by omega, hs1I, by omega, by decide, by decide, fun rt H12 o2 n2 g12 hst2 ho2 hn2 hsm2 => ?_⟩
        have hp12 := g12.2 _ hpm
        have exA : Ex H9 H12 := ((Ex.of s10).trans ex).trans g12.1
        have A12 := A9.ex' exA
        obtain ⟨t12, a12, b12, rfl, ht12, ha12, hb12⟩ := hst2.ex
        have hpl12 : H12 pl = some (.lst (natV L)) := (ex.trans g12.1) _ _ hL10 trivial
        have m1 : o2.length = s := by omega
        have m2 : n2.length = s := by omega
        -- row = [list(line) for line in there]
        refine ⟨.ref t12, rfl, t12, rfl, ⟨_, SqT.of ht12⟩, fun D hD => ?_⟩
        refine lc_tup (K := K) (a := t12) (xs := [.ref a12, .ref b12]) (fun k H' => ∃ rs, Rows H12 H' D rs (two o2 n2) ∧ rs.length = k) ⟨[], Rows.start hD, rfl⟩ (fun k H' _ ⟨rs, A, _⟩ => SqT.of (A.ol _ _ ht12)) ?_ ?_
        · rintro kk y H' hy ⟨rs, A, hrs⟩
          obtain ⟨u, ns1, rfl, hu, hR⟩ : ∃ (u : Addr) (ns1 : List Int), y = .ref u ∧ H' u = some (rowH ns1) ∧ two o2 n2 kk = ns1.map V.int := by
            match kk, hy with
            | 0, hy => exact ⟨a12, o2, (Option.some.inj hy).symm, A.ol _ _ ha12, rfl⟩
            | 1, hy => exact ⟨b12, n2, (Option.some.inj hy).symm, A.ol _ _ hb12, rfl⟩
          refine ⟨rfl, yes_of ?_⟩
          refine ⟨.ref u, rfl, u, _, rfl, .inr (SqT.of hu), fun l hl => ?_⟩
          refine ⟨rs.map V.ref, ?_, ?_, rs ++ [l], A.snoc hl (by rw [hrs]; exact hR), by rw [List.length_append, hrs]; rfl⟩
          · rw [upd_ne (fun e => by rw [← e, A.at_] at hl; cases hl)]
            exact A.at_
          · rw [List.length_map, hrs]
            have : kk < 2 := (List.getElem?_eq_some_iff.mp hy).1
            exact Nat.lt_of_lt_of_le this (by decide)
        rintro H13 ⟨rs, AR, hrs⟩
        match rs, hrs with
        | [ra, rb], _ =>
          obtain ⟨th, ah, bh, erh, hth, hah, hbh⟩ := A12.st.ex
          have hth' : H12 th = some (.tup [.ref ah, .ref bh]) := hth
          have hah' : H12 ah = some (rowH o) := hah
          have hbh' : H12 bh = some (rowH n) := hbh
          refine ⟨.ref pl, rfl, pl, rfl, ⟨_, SqL.of (AR.ol _ _ hpl12)⟩, for_list (K := K) (a := pl) (xs := natV L) (fun j σ H' => ∃ w14 w15 w16 w17 w18, σ = [some (.ref a), some (.ref p), some (.int (0 + (i : Int))), some (.int s), some r7, some (.int (nb : Int)), some v2, some (.ref x), some rh, some (.int b), some (.ref lt), some (.ref pl), some (.ref t12), some (.ref D), w14, w15, w16, w17, w18] ∧ Rows H12 H' D [ra, rb] (two (mix o (L.take j) o2) (mix n (L.take j) n2))) ⟨_, _, _, _, _, rfl, AR⟩ ?_ ?_ ?_⟩
          · rintro j σ H' _ ⟨w14, w15, w16, w17, w18, rfl, A⟩
            exact SqL.of (A.ol _ _ hpl12)
          · rintro j y σ H' hy ⟨w14, w15, w16, w17, w18, rfl, A⟩
            obtain ⟨jn, hjn, rfl⟩ := natV_get hy
            have hjs := hLs' jn (List.mem_of_getElem? hjn)
            have gv : ∀ (xs : List Int), xs.length = s → (xs.map V.int)[jn]? = some (.int (xs.getD jn 0)) := fun xs hx => by
              rw [List.getElem?_map, List.getD_eq_getElem?_getD, List.getElem?_eq_getElem (by omega)]
              rfl
            refine ⟨rh, rfl, ?_⟩
            rw [erh]
            refine ⟨th, _, 0, .ref ah, rfl, rfl, SqT.of (A.ol _ _ hth'), rfl, .int (jn : Nat), rfl, ah, _, (jn : Nat), _, rfl, rfl, SqT.of (A.ol _ _ hah'), atI_nat (gv o l1), ?_⟩
            refine ⟨.ref th, rfl, th, _, 1, .ref bh, rfl, rfl, SqT.of (A.ol _ _ hth'), rfl, .int (jn : Nat), rfl, bh, _, (jn : Nat), _, rfl, rfl, SqT.of (A.ol _ _ hbh'), atI_nat (gv n l2), by show 2 ≤ sizeLine; decide, fun z hz => ?_⟩
            have k2' : (upd H' z (.tup [.int (o.getD jn 0), .int (n.getD jn 0)])) z = some (.tup [.int (o.getD jn 0), .int (n.getD jn 0)]) := upd_same
            have s2' : Same H' (upd H' z (.tup [.int (o.getD jn 0), .int (n.getD jn 0)])) := same_new hz
            generalize upd H' z (.tup [.int (o.getD jn 0), .int (n.getD jn 0)]) = H2' at k2' s2' ⊢
            have A2 := A.same s2'
            have B1 := A2.set (i := 0) (a := ra) (R' := two ((mix o (L.take j) o2).set jn (o.getD jn 0)) (mix n (L.take j) n2)) rfl (show _ = ((mix o (L.take j) o2).map V.int).set jn (.int (o.getD jn 0)) from List.map_set) (fun k hk => by
              unfold two
              rw [if_neg hk, if_neg hk])
            have B2 := B1.set (i := 1) (a := rb) (R' := two ((mix o (L.take j) o2).set jn (o.getD jn 0)) ((mix n (L.take j) n2).set jn (n.getD jn 0))) rfl (show _ = ((mix n (L.take j) n2).map V.int).set jn (.int (n.getD jn 0)) from List.map_set) (fun k hk => by
              unfold two
              rw [if_neg hk, if_neg hk])
            have f0 : ixN ((mix o (L.take j) o2).map V.int).length (jn : Int) = some jn := ixN_nat (by rw [List.length_map, mix_len]; omega)
            have f1 : ixN ((mix n (L.take j) n2).map V.int).length (jn : Int) = some jn := ixN_nat (by rw [List.length_map, mix_len]; omega)
            refine ⟨z, _, rfl, SqT.of k2', rfl, _, _, rfl, .ref D, rfl, D, _, 0, .ref ra, rfl, rfl, SqL.of A2.at_, rfl, .int (jn : Nat), rfl, ra, _, (jn : Nat), jn, rfl, rfl, A2.it 0 ra rfl, f0, ?_⟩
            refine ⟨_, _, rfl, .ref D, rfl, D, _, 1, .ref rb, rfl, rfl, SqL.of B1.at_, rfl, .int (jn : Nat), rfl, rb, _, (jn : Nat), jn, rfl, rfl, B1.it 1 rb rfl, f1, rfl, ?_⟩
            refine ⟨_, _, _, _, _, rfl, ?_⟩
            rw [mix_take hjn, mix_take hjn]
            exact B2
          · rintro σ H14 ⟨w14, w15, w16, w17, w18, rfl, A14⟩
            have s14 : Same H12 H14 := A14.ol
            rw [show (natV L).length = L.length from List.length_map .., List.take_length] at A14
            have hLo : ∀ j ∈ L, j < o.length := fun j hj => by rw [l1]; exact hLs' j hj
            have hLn : ∀ j ∈ L, j < n.length := fun j hj => by rw [l2]; exact hLs' j hj
            have sm3 : ∀ k ∈ o2, -(10 ^ 30) ≤ k ∧ k ≤ 10 ^ 30 := fun k hk => by
              have := hsm2 k (List.mem_append_left _ hk)
              omega
            have sm4 : ∀ k ∈ n2, -(10 ^ 30) ≤ k ∧ k ≤ 10 ^ 30 := fun k hk => by
              have := hsm2 k (List.mem_append_right _ hk)
              omega
            -- mixed
            refine ⟨.ref x, rfl, .ref D, rfl, D, _, 0, .ref ra, rfl, rfl, SqL.of A14.at_, rfl, ra, _, rfl, .inl ⟨SqL.of (A14.it 0 ra rfl), fun q1 hq1 => ?_⟩⟩
            have e0 : two (mix o L o2) (mix n L n2) 0 = (mix o L o2).map V.int := rfl
            rw [e0]
            have k15 : (upd H14 q1 (.tup ((mix o L o2).map V.int))) q1 = some (.tup ((mix o L o2).map V.int)) := upd_same
            have s15 : Same H14 (upd H14 q1 (.tup ((mix o L o2).map V.int))) := same_new hq1
            generalize upd H14 q1 (.tup ((mix o L o2).map V.int)) = H15 at k15 s15 ⊢
            have A15 := A14.same s15
            refine ⟨.ref D, rfl, D, _, 1, .ref rb, rfl, rfl, SqL.of A15.at_, rfl, rb, _, rfl, .inl ⟨SqL.of (A15.it 1 rb rfl), fun q2 hq2 => ?_⟩⟩
            have e1 : two (mix o L o2) (mix n L n2) 1 = (mix n L n2).map V.int := rfl
            rw [e1]
            have k16 : (upd H15 q2 (.tup ((mix n L n2).map V.int))) q2 = some (.tup ((mix n L n2).map V.int)) := upd_same
            have s16 : Same H15 (upd H15 q2 (.tup ((mix n L n2).map V.int))) := same_new hq2
            generalize upd H15 q2 (.tup ((mix n L n2).map V.int)) = H16 at k16 s16 ⊢
            refine ⟨by show 2 ≤ sizeLine; decide, fun z hz => ?_⟩
            have k17 : (upd H16 z (.tup [.ref q1, .ref q2])) z = some (.tup [.ref q1, .ref q2]) := upd_same
            have s17 : Same H16 (upd H16 z (.tup [.ref q1, .ref q2])) := same_new hz
            generalize upd H16 z (.tup [.ref q1, .ref q2]) = H17 at k17 s17 ⊢
            have s1217 : Same H12 H17 := ((s14.trans s15).trans s16).trans s17
            have A17 := A12.same s1217
            have Am : Ask C H17 x s (matOf ts') (.ref z) (mix o L o2, mix n L n2) := A17.to Ex.refl ⟨z, q1, q2, rfl, k17, s17 _ _ (s16 _ _ k15), s17 _ _ k16⟩ (by show (mix o L o2).length = s; rw [mix_len, m1]) (by show (mix n L n2).length = s; rw [mix_len, m2])
            have smallX : Small (mix o L o2, mix n L n2) := fun k hk => (List.mem_append.mp hk).elim (mix_small sm1 sm3 hLo k) (mix_small sm2 sm4 hLn k)
            refine ⟨.int b, rfl, x, s, matOf ts', .ref z, (mix o L o2, mix n L n2), b, rfl, by omega, Am, smallX, fun lm H18 rm s18 hlm0 hlm hrml hrunm => ?_⟩
            have s1218 : Same H12 H18 := s1217.trans s18
            have hpl18 : H18 pl = some (.lst (natV L)) := s1218 _ _ hpl12
            have hr18 : Ls K H18 r7 ts' := (hr9.ex exA).ex (Ex.of s1218)
            -- small
            refine ⟨.ref pl, rfl, pl, natV L, rfl, .inl (SqL.of hpl18), .ref pl, rfl, r7, rfl, pl, L, r7, s, ts', rfl, hpl18, hLlen, S.nd, hr18.is, by omega, hok', fun t ht => (S.shut t ht).mp, fun rl H19 s19 hrls => ?_⟩
            intro x2 dx2 hx2 hdx2 hne2
            have ex2 : Ex H19 (upd (upd H19 dx2 (.own x2)) x2 (.ins C dx2 [])) := (Ex.new hdx2).trans (Ex.new (by rw [upd_ne (Ne.symm hne2)]; exact hx2))
            have okA := alone_ok hok' S
            refine ⟨x2, dx2, L.length, rl, ts'.filterMap (aloneAt L), by rw [show (natV L).length = L.length from List.length_map ..]; rfl, upd_same, Dp.ex ex2 hrls.nw.is, okA, Nat.le_trans (List.length_filterMap_le _ _) (by omega), hL1, hLlen, fun H20 hold2 hW2 => ⟨rfl, ?_⟩⟩
            have s20 : Same H19 H20 := fun b o e => by
              have n1 : b ≠ x2 := fun z => by
                rw [z, hx2] at e
                cases e
              have n2 : b ≠ dx2 := fun z => by
                rw [z, hdx2] at e
                cases e
              exact hold2 b o n1 (by rw [upd_ne n1, upd_ne n2]; exact e)
            have s1220 : Same H12 H20 := (s1218.trans s19).trans s20
            have A20 := A12.same s1220
            have hbnd : ∀ j ∈ L, j < o.length ∧ j < n.length := fun j hj => ⟨hLo j hj, hLn j hj⟩
            refine ⟨rh, rfl, .ref pl, rfl, rh, pl, L, (o, n), rfl, A20.st, s1220 _ _ hpl12, hLlen, hbnd, fun rr H21 s21 st21 => ?_⟩
            have Asm : Ask C H21 x2 L.length (matOf (ts'.filterMap (aloneAt L))) rr (rstP L (o, n)) := ⟨hW2.mono s21, mat_le okA.all, st21, rst_len, rst_len⟩
            have smallR : Small (rstP L (o, n)) := fun k hk => (List.mem_append.mp hk).elim (rst_small sm1 hLo k) (rst_small sm2 hLn k)
            refine ⟨.int b, rfl, x2, L.length, matOf (ts'.filterMap (aloneAt L)), rr, rstP L (o, n), b, rfl, by omega, Asm, smallR, fun ls H22 rsm s22 hls0 hls hrsl hruns => ?_⟩
            have s1222 : Same H12 H22 := (s1220.trans s21).trans s22
            have hlt22 : H22 lt = some (.lst rv) := s1222 _ _ (exA _ _ hlt trivial)
            have s1822 : Same H18 H22 := ((s19.trans s20).trans s21).trans s22
            have hpl22 : H22 pl = some (.lst (natV L)) := s1222 _ _ hpl12
            have fr : ∀ k, runF (matOf (ts'.filterMap (aloneAt L))) L.length (rstP L (o, n)) k = rstP L (runF (matOf ts') s (o, n) k) := runF_alone hok' S hLs' l1 l2
            have fx : ∀ k, runF (matOf (ts'.filterMap (aloneAt L))) L.length (rstP L (o, n)) k = rstP L (runF (matOf ts') s (mix o L o2, mix n L n2) k) := fun k => by
              have e : rstP L (mix o L o2, mix n L n2) = rstP L (o, n) := by
                show (rst L (mix o L o2), rst L (mix n L n2)) = (rst L o, rst L n)
                rw [mix_rst (fun j hj => by rw [m1]; exact hLs' j hj), mix_rst (fun j hj => by rw [m2]; exact hLs' j hj)]
              rw [← e]
              exact runF_alone hok' S hLs' Am.l1 Am.l2 k
            -- the two comparisons
            refine ⟨.ref lt, rfl, lt, rfl, ⟨_, SqL.of hlt22⟩, fun D3 hD3 => ?_⟩
            refine lc_listG (k := 0) (fun k y Hx => StAt Hx y (rstP L (runF (matOf ts') s (o, n) k)).1 (rstP L (runF (matOf ts') s (o, n) k)).2) (fun k y Ha Hb e h => h.same e) rel_same hD3 id (SqL.of hlt22) (by omega) ?_ ?_ ?_
            · intro k' y' H' hy' sm hDs
              have Ak := (((hrun k' y' hy').ex' exA).same s1222).same sm
              refine ⟨rfl, rfl, fun Q' q' => ⟨y', rfl, .ref pl, rfl, y', pl, L, _, rfl, Ak.st, sm _ _ hpl22, hLlen, fun j hj => ⟨by rw [Ak.l1]; exact hLs' j hj, by rw [Ak.l2]; exact hLs' j hj⟩, fun r' H'' sm' st' => q' _ _ sm' ?_⟩⟩
              obtain ⟨w0, hw0⟩ := hDs
              exact StAt.offD st' (sm' _ _ hw0)
            · exact fun x σ H A B h hA => h _ _ hA
            intro ys3 H23 hy3 hyl3 hz3 sm23 _
            refine ⟨.ref ls, rfl, ?_⟩
            have eq1 : ((List.range (b + 1)).map fun k => stD (rstP L (runF (matOf ts') s (o, n) k))) = (List.range (b + 1)).map fun k => stD (runF (matOf (ts'.filterMap (aloneAt L))) L.length (rstP L (o, n)) k) := List.map_congr_left fun k _ => by rw [fr]
            refine ne_dat (α := List (Tup (Tup Int))) (list_is (f := fun k => rstP L (runF (matOf ts') s (o, n) k)) hy3 (hyl3.trans hrl) fun k r h => hz3 k r h) (list_is (f := fun k => runF (matOf (ts'.filterMap (aloneAt L))) L.length (rstP L (o, n)) k) (sm23 _ _ hls) hrsl fun k r h => ((hruns k r h).same sm23).st) ⟨false, by rw [decide_eq_true eq1]; rfl, ?_⟩
            have hlm23 : H23 lm = some (.lst rm) := sm23 _ _ (s1822 _ _ hlm)
            refine ⟨.ref lm, rfl, lm, rfl, ⟨_, SqL.of hlm23⟩, fun D4 hD4 => ?_⟩
            refine lc_listG (k := 0) (fun k y Hx => StAt Hx y (rstP L (runF (matOf ts') s (mix o L o2, mix n L n2) k)).1 (rstP L (runF (matOf ts') s (mix o L o2, mix n L n2) k)).2) (fun k y Ha Hb e h => h.same e) rel_same hD4 id (SqL.of hlm23) (by omega) ?_ ?_ ?_
            · intro k' y' H' hy' sm hDs
              have Ak := (((hrunm k' y' hy').same s1822).same sm23).same sm
              refine ⟨rfl, rfl, fun Q' q' => ⟨y', rfl, .ref pl, rfl, y', pl, L, _, rfl, Ak.st, sm _ _ (sm23 _ _ hpl22), hLlen, fun j hj => ⟨by rw [Ak.l1]; exact hLs' j hj, by rw [Ak.l2]; exact hLs' j hj⟩, fun r' H'' sm' st' => q' _ _ sm' ?_⟩⟩
              obtain ⟨w0, hw0⟩ := hDs
              exact StAt.offD st' (sm' _ _ hw0)
            · exact fun x σ H A B h hA => h _ _ hA
            intro ys4 H24 hy4 hyl4 hz4 sm24 _
            refine ⟨.ref ls, rfl, ?_⟩
            have eq2 : ((List.range (b + 1)).map fun k => stD (rstP L (runF (matOf ts') s (mix o L o2, mix n L n2) k))) = (List.range (b + 1)).map fun k => stD (runF (matOf (ts'.filterMap (aloneAt L))) L.length (rstP L (o, n)) k) := List.map_congr_left fun k _ => by rw [fx]
            have s2224 : Same H22 H24 := sm23.trans sm24
            refine ne_dat (α := List (Tup (Tup Int))) (list_is (f := fun k => rstP L (runF (matOf ts') s (mix o L o2, mix n L n2) k)) hy4 (hyl4.trans hrml) fun k r h => hz4 k r h) (list_is (f := fun k => runF (matOf (ts'.filterMap (aloneAt L))) L.length (rstP L (o, n)) k) (s2224 _ _ hls) hrsl fun k r h => ((hruns k r h).same s2224).st) ⟨false, by rw [decide_eq_true eq2]; rfl, ?_⟩
            have s1224 : Same H12 H24 := s1222.trans s2224
            have ex1024 : Ex H10 H24 := (ex.trans g12.1).trans (Ex.of s1224)
            have hpE : ∀ H', Same H24 H' → ∃ m', Pen H' p c m' ∧ m' ≤ 50000 * i + 8000 + 3000 * (k + 1) := fun H' e => ⟨_, (Go.of (p := p) (c := c) (s1224.trans e)).2 _ hp12, by omega⟩
            -- one post alone
            have hpl24 : H24 pl = some (.lst (natV L)) := s1224 _ _ hpl12
            have nlen : (natV L).length = L.length := List.length_map ..
            by_cases h1 : L.length = 1
            · refine ⟨.ref pl, rfl, pl, natV L, rfl, .inl (SqL.of hpl24), rfl, true, by show V.bl (decide (V.int ((natV L).length : Int) = V.int 1)) = V.bl true; rw [nlen, h1]; rfl, ?_⟩
              by_cases h3 : 3 < b
              · refine ⟨.int b, rfl, b, 3, rfl, rfl, true, vlt (by omega), ?_⟩
                have g4 : rv[4]? = some (rv[4]'(by omega)) := List.getElem?_eq_getElem _
                generalize rv[4]'(by omega) = r4 at g4
                have A4 := ((hrun 4 r4 g4).ex' exA).same s1224
                refine ⟨.ref lt, rfl, lt, rv, 4, r4, rfl, rfl, SqL.of (s2224 _ _ hlt22), atI_nat (i := 4) g4, .ref pl, rfl, r4, pl, L, _, rfl, A4.st, hpl24, hLlen, fun j hj => ⟨by rw [A4.l1]; exact hLs' j hj, by rw [A4.l2]; exact hLs' j hj⟩, fun q5 H25 s25 st25 => ?_⟩
                refine ⟨rh, rfl, .ref pl, rfl, rh, pl, L, (o, n), rfl, ((A12.same s1224).same s25).st, s25 _ _ hpl24, hLlen, hbnd, fun q6 H26 s26 st26 => ?_⟩
                have eq4 : stD (rstP L (runF (matOf ts') s (o, n) 4)) = stD (rstP L (o, n)) := by
                  obtain ⟨x0, y0, e⟩ := one_of h1 (p := (o, n))
                  rw [← fr, e, h1, four]
                refine ne_dat (st_is (p := rstP L (runF (matOf ts') s (o, n) 4)) (st25.same (Ex.of s26))) (st_is (p := rstP L (o, n)) st26) ⟨false, by rw [decide_eq_true eq4]; rfl, ?_⟩
                exact ⟨_, _, _, _, _, _, _, _, rfl, ex1024.trans (Ex.of (s25.trans s26)), hpE _ (s25.trans s26)⟩
              · refine ⟨.int b, rfl, b, 3, rfl, rfl, false, vltf (by omega), ?_⟩
                exact ⟨_, _, _, _, _, _, _, _, rfl, ex1024, hpE _ (Same.refl _)⟩
            · refine ⟨.ref pl, rfl, pl, natV L, rfl, .inl (SqL.of hpl24), rfl, false, by show V.bl (decide (V.int ((natV L).length : Int) = V.int 1)) = V.bl false; rw [nlen, decide_eq_false (fun e => h1 (by have := V.int.inj e; omega))], ?_⟩
              exact ⟨_, _, _, _, _, _, _, _, rfl, ex1024, hpE _ (Same.refl _)⟩
      · rintro σ H' ⟨u11, u12, u13, u14, u15, u16, u17, u18, rfl, ex, m, hpm, hmb⟩
        rw [List.length_map] at hmb
        exact ⟨_, _, _, _, _, _, _, _, _, _, _, _, _, _, _, _, _, rfl, hpm.mono (by omega)⟩
    · rintro σ H1 ⟨u2, u3, u4, u5, u6, u7, u8, u9, u10, u11, u12, u13, u14, u15, u16, u17, u18, rfl, hp1⟩
      exact q H1
end
end Gb
set_option maxRecDepth 100000
set_option maxHeartbeats 0
namespace Hd
open PySem PySem.Spec PyProof.Rows L2 Gb
def d_is_whole : He.DefD := ⟨("is_whole", none), "is_whole", "is_whole", defArgs s_is_whole, defBody s_is_whole, defScope s_is_whole, [], []⟩
def d_is_between : He.DefD := ⟨("is_between", none), "is_between", "is_between", defArgs s_is_between, defBody s_is_between, defScope s_is_between, [], []⟩
def d_copied : He.DefD := ⟨("copied", none), "copied", "copied", defArgs s_copied, defBody s_copied, defScope s_copied, [], []⟩
def d_members_of : He.DefD := ⟨("members_of", none), "members_of", "members_of", defArgs s_members_of, defBody s_members_of, defScope s_members_of, [], []⟩
def d_filled_like : He.DefD := ⟨("filled_like", none), "filled_like", "filled_like", defArgs s_filled_like, defBody s_filled_like, defScope s_filled_like, [], []⟩
def d_tied_to : He.DefD := ⟨("tied_to", none), "tied_to", "tied_to", defArgs s_tied_to, defBody s_tied_to, defScope s_tied_to, [], []⟩
def d_need_size : He.DefD := ⟨("need_size", none), "need_size", "need_size", defArgs s_need_size, defBody s_need_size, defScope s_need_size, [], []⟩
def d_need_ties : He.DefD := ⟨("need_ties", none), "need_ties", "need_ties", defArgs s_need_ties, defBody s_need_ties, defScope s_need_ties, [], []⟩
def d_is_tie : He.DefD := ⟨("is_tie", none), "is_tie", "is_tie", defArgs s_is_tie, defBody s_is_tie, defScope s_is_tie, [], []⟩
def d_need_post : He.DefD := ⟨("need_post", none), "need_post", "need_post", defArgs s_need_post, defBody s_need_post, defScope s_need_post, [], []⟩
def d_need_standing : He.DefD := ⟨("need_standing", none), "need_standing", "need_standing", defArgs s_need_standing, defBody s_need_standing, defScope s_need_standing, [], []⟩
def d_run_of : He.DefD := ⟨("run_of", none), "run_of", "run_of", defArgs s_run_of, defBody s_run_of, defScope s_run_of, [], []⟩
def d_following : He.DefD := ⟨("following", none), "following", "following", defArgs s_following, defBody s_following, defScope s_following, [], []⟩
def d_gains : He.DefD := ⟨("gains", none), "gains", "gains", defArgs s_gains, defBody s_gains, defScope s_gains, [], []⟩
def d_less : He.DefD := ⟨("less", none), "less", "less", defArgs s_less, defBody s_less, defScope s_less, [], []⟩
def d__law_pen : He.DefD := ⟨("_law_pen", none), "_law_pen", "_law_pen", defArgs s__law_pen, defBody s__law_pen, defScope s__law_pen, [], []⟩
def d__law_draw : He.DefD := ⟨("_law_draw", none), "_law_draw", "_law_draw", defArgs s__law_draw, defBody s__law_draw, defScope s__law_draw, [], []⟩
def d__law_pick : He.DefD := ⟨("_law_pick", none), "_law_pick", "_law_pick", defArgs s__law_pick, defBody s__law_pick, defScope s__law_pick, [], []⟩
def d__law_great : He.DefD := ⟨("_law_great", none), "_law_great", "_law_great", defArgs s__law_great, defBody s__law_great, defScope s__law_great, [], []⟩
def d__law_shuffled : He.DefD := ⟨("_law_shuffled", none), "_law_shuffled", "_law_shuffled", defArgs s__law_shuffled, defBody s__law_shuffled, defScope s__law_shuffled, [], []⟩
def d__law_row_ties : He.DefD := ⟨("_law_row_ties", none), "_law_row_ties", "_law_row_ties", defArgs s__law_row_ties, defBody s__law_row_ties, defScope s__law_row_ties, [], []⟩
def d__law_doubled : He.DefD := ⟨("_law_doubled", none), "_law_doubled", "_law_doubled", defArgs s__law_doubled, defBody s__law_doubled, defScope s__law_doubled, [], []⟩
def d__law_arms_ties : He.DefD := ⟨("_law_arms_ties", none), "_law_arms_ties", "_law_arms_ties", defArgs s__law_arms_ties, defBody s__law_arms_ties, defScope s__law_arms_ties, [], []⟩
def d__law_good_shape : He.DefD := ⟨("_law_good_shape", none), "_law_good_shape", "_law_good_shape", defArgs s__law_good_shape, defBody s__law_good_shape, defScope s__law_good_shape, [], []⟩
def d__law_flat_shape : He.DefD := ⟨("_law_flat_shape", none), "_law_flat_shape", "_law_flat_shape", defArgs s__law_flat_shape, defBody s__law_flat_shape, defScope s__law_flat_shape, [], []⟩
def d__law_renamed : He.DefD := ⟨("_law_renamed", none), "_law_renamed", "_law_renamed", defArgs s__law_renamed, defBody s__law_renamed, defScope s__law_renamed, [], []⟩
def d__law_moved : He.DefD := ⟨("_law_moved", none), "_law_moved", "_law_moved", defArgs s__law_moved, defBody s__law_moved, defScope s__law_moved, [], []⟩
def d__law_all_web : He.DefD := ⟨("_law_all_web", none), "_law_all_web", "_law_all_web", defArgs s__law_all_web, defBody s__law_all_web, defScope s__law_all_web, [], []⟩
def d__law_waves_web : He.DefD := ⟨("_law_waves_web", none), "_law_waves_web", "_law_waves_web", defArgs s__law_waves_web, defBody s__law_waves_web, defScope s__law_waves_web, [], []⟩
def d__law_steep_shape : He.DefD := ⟨("_law_steep_shape", none), "_law_steep_shape", "_law_steep_shape", defArgs s__law_steep_shape, defBody s__law_steep_shape, defScope s__law_steep_shape, [], []⟩
def d__law_none_web : He.DefD := ⟨("_law_none_web", none), "_law_none_web", "_law_none_web", defArgs s__law_none_web, defBody s__law_none_web, defScope s__law_none_web, [], []⟩
def d__law_any_web : He.DefD := ⟨("_law_any_web", none), "_law_any_web", "_law_any_web", defArgs s__law_any_web, defBody s__law_any_web, defScope s__law_any_web, [], []⟩
def d__law_some_web : He.DefD := ⟨("_law_some_web", none), "_law_some_web", "_law_some_web", defArgs s__law_some_web, defBody s__law_some_web, defScope s__law_some_web, [], []⟩
def d__law_number : He.DefD := ⟨("_law_number", none), "_law_number", "_law_number", defArgs s__law_number, defBody s__law_number, defScope s__law_number, [], []⟩
def d__law_standing : He.DefD := ⟨("_law_standing", none), "_law_standing", "_law_standing", defArgs s__law_standing, defBody s__law_standing, defScope s__law_standing, [], []⟩
def d__law_at : He.DefD := ⟨("_law_at", none), "_law_at", "_law_at", defArgs s__law_at, defBody s__law_at, defScope s__law_at, [], []⟩
def d__law_alone : He.DefD := ⟨("_law_alone", none), "_law_alone", "_law_alone", defArgs s__law_alone, defBody s__law_alone, defScope s__law_alone, [], []⟩
def d_law : He.DefD := ⟨("law", none), "law", "law", defArgs s_law, defBody s_law, defScope s_law, [], []⟩
def d_NoWeb___init__ : He.DefD := ⟨("NoWeb", some "__init__"), "__init__", "NoWeb.__init__", defArgs s_NoWeb___init__, defBody s_NoWeb___init__, defScope s_NoWeb___init__, [], []⟩
def d_NoStanding___init__ : He.DefD := ⟨("NoStanding", some "__init__"), "__init__", "NoStanding.__init__", defArgs s_NoStanding___init__, defBody s_NoStanding___init__, defScope s_NoStanding___init__, [], []⟩
def d_NoPost___init__ : He.DefD := ⟨("NoPost", some "__init__"), "__init__", "NoPost.__init__", defArgs s_NoPost___init__, defBody s_NoPost___init__, defScope s_NoPost___init__, [], []⟩
def d_Web___init__ : He.DefD := ⟨("Web", some "__init__"), "__init__", "Web.__init__", defArgs s_Web___init__, defBody s_Web___init__, defScope s_Web___init__, [], []⟩
def d_Web___len__ : He.DefD := ⟨("Web", some "__len__"), "__len__", "Web.__len__", defArgs s_Web___len__, defBody s_Web___len__, defScope s_Web___len__, [], []⟩
def d_Web___eq__ : He.DefD := ⟨("Web", some "__eq__"), "__eq__", "Web.__eq__", defArgs s_Web___eq__, defBody s_Web___eq__, defScope s_Web___eq__, [], []⟩
def d_Web_ties : He.DefD := ⟨("Web", some "ties"), "ties", "Web.ties", defArgs s_Web_ties, defBody s_Web_ties, defScope s_Web_ties, [], []⟩
def d_Web_cords : He.DefD := ⟨("Web", some "cords"), "cords", "Web.cords", defArgs s_Web_cords, defBody s_Web_cords, defScope s_Web_cords, [], []⟩
def d_Web_parts : He.DefD := ⟨("Web", some "parts"), "parts", "Web.parts", defArgs s_Web_parts, defBody s_Web_parts, defScope s_Web_parts, [], []⟩
def d_Web__part_of : He.DefD := ⟨("Web", some "_part_of"), "_part_of", "Web._part_of", defArgs s_Web__part_of, defBody s_Web__part_of, defScope s_Web__part_of, [], []⟩
def fn : List He.DefD := [d_is_whole, d_is_between, d_copied, d_members_of, d_filled_like, d_tied_to, d_need_size, d_need_ties, d_is_tie, d_need_post, d_need_standing, d_run_of, d_following, d_gains, d_less, d__law_pen, d__law_draw, d__law_pick, d__law_great, d__law_shuffled, d__law_row_ties, d__law_doubled, d__law_arms_ties, d__law_good_shape, d__law_flat_shape, d__law_renamed, d__law_moved, d__law_all_web, d__law_waves_web, d__law_steep_shape, d__law_none_web, d__law_any_web, d__law_some_web, d__law_number, d__law_standing, d__law_at, d__law_alone, d_law, d_NoWeb___init__, d_NoStanding___init__, d_NoPost___init__, d_Web___init__, d_Web___len__, d_Web___eq__, d_Web_ties, d_Web_cords, d_Web_parts, d_Web__part_of]
def fa : List He.Fa := [.glo "is_whole", .glo "is_between", .glo "copied", .glo "members_of", .glo "filled_like", .glo "tied_to", .glo "need_size", .glo "need_ties", .glo "is_tie", .glo "need_post", .glo "need_standing", .glo "run_of", .glo "following", .glo "gains", .glo "less", .glo "_law_pen", .glo "_law_draw", .glo "_law_pick", .glo "_law_great", .glo "_law_shuffled", .glo "_law_row_ties", .glo "_law_doubled", .glo "_law_arms_ties", .glo "_law_good_shape", .glo "_law_flat_shape", .glo "_law_renamed", .glo "_law_moved", .glo "_law_all_web", .glo "_law_waves_web", .glo "_law_steep_shape", .glo "_law_none_web", .glo "_law_any_web", .glo "_law_some_web", .glo "_law_number", .glo "_law_standing", .glo "_law_at", .glo "_law_alone", .glo "law", .glo "NoWeb", .glo "NoStanding", .glo "NoPost", .glo "Web", .free "len", .free "abs", .free "max", .free "min", .free "list", .free "tuple", .free "range", .free "isinstance", .free "all", .free "any", .free "set", .free "sum", .free "zip", .free "int", .free "sorted", .free "bool", .free "dict", .free "ValueError", .free "KeyError", .int "MOST_POSTS" (12), .int "MOST_CORDS" (9), .int "GREATEST" (1000000000000000000000000000000), .cls "Web", .mkr "Web", .meth "Web" "__len__", .meth "Web" "__eq__", .meth "Web" "ties", .meth "Web" "cords", .meth "Web" "parts", .meth "Web" "_part_of", .noat "Web" "_rows"]
abbrev R : PySem.W.OpenRow := PySem.W.OpenLaw.row PySem.Challenge.rw_giveback_k07_whole_parts_run_alone
abbrev hk : PySem.W.Hook := He.hookD 4 fa fn
def ob (s : PySem.W.SharedT) : He.AlD := He.obsDG 4 fa fn (HandSHeadRun.getT s)
theorem ob_eq (s : PySem.W.SharedT) : ob s = hk.obs s.abs := He.obsDG_eq (HandSHeadRun.getT_eq s)
def loose : List PySem.Str := (["is_whole", "is_between", "copied", "members_of", "filled_like", "NoWeb", "NoStanding", "NoPost", "MOST_POSTS", "MOST_CORDS", "GREATEST", "Web", "tied_to", "need_size", "need_ties", "is_tie", "need_post", "need_standing", "run_of", "following", "gains", "less", "_law_pen", "_law_draw", "_law_pick", "_law_great", "_law_shuffled", "_law_row_ties", "_law_doubled", "_law_arms_ties"] : List PySem.Str) ++ (["_law_good_shape", "_law_flat_shape", "_law_renamed", "_law_moved", "_law_all_web", "_law_waves_web", "_law_steep_shape", "_law_none_web", "_law_any_web", "_law_some_web", "_law_number", "_law_standing", "_law_at", "_law_alone"] : List PySem.Str)
theorem run (w : World) : HandSHeadRun.RunEq R (PySem.W.view R.prog [49]) hk ob 6000 loose w := by
  intro os
  kernel_rfl
theorem facts {P : Program} {w : World} {K : PySem.W.Frag} {h : Heap} {mg : Str → Option Value} {f : Addr} (X : K.In h) (G : h.Ns mainGlobals mg) (hfa : mg ("law" : Str) = some (.ref f)) (c : He.SaysD fa fn K) :
    ∃ fd : FuncData, (∀ (s : Shared) (v : Value), BindsTo s fd ⟨[v], []⟩ [("script", v)]) ∧ ∀ base : Heap, K.In base → base.Ns mainGlobals mg → FnOk P w K mg base CX0 8 f fd ["script"] (spLaw K) := by
  have B : Bt mg := ⟨He.free_ok X G (c.fact 42 (f := .free "len") rfl), He.free_ok X G (c.fact 43 (f := .free "abs") rfl), He.free_ok X G (c.fact 44 (f := .free "max") rfl), He.free_ok X G (c.fact 45 (f := .free "min") rfl), He.free_ok X G (c.fact 46 (f := .free "list") rfl), He.free_ok X G (c.fact 47 (f := .free "tuple") rfl), He.free_ok X G (c.fact 48 (f := .free "range") rfl), He.free_ok X G (c.fact 49 (f := .free "isinstance") rfl), He.free_ok X G (c.fact 50 (f := .free "all") rfl), He.free_ok X G (c.fact 52 (f := .free "set") rfl), He.free_ok X G (c.fact 53 (f := .free "sum") rfl), He.free_ok X G (c.fact 54 (f := .free "zip") rfl), He.free_ok X G (c.fact 55 (f := .free "int") rfl)⟩
  have Bb : mg "bool" = none := He.free_ok X G (c.fact 57 (f := .free "bool") rfl)
  have Ba : mg "any" = none := He.free_ok X G (c.fact 51 (f := .free "any") rfl)
  have Bs : mg "sorted" = none := He.free_ok X G (c.fact 56 (f := .free "sorted") rfl)
  have Bd : mg "dict" = none := He.free_ok X G (c.fact 58 (f := .free "dict") rfl)
  have W : Wb K mg (He.ga K "Web") := ⟨He.cls_ok (c.fact 64 (f := .cls "Web") rfl), He.noat_ok (c.fact 72 (f := .noat "Web" "_rows") rfl), He.glo_ok X G (c.fact 41 (f := .glo "Web") rfl)⟩
  have v_MOST_POSTS : ∃ u, mg "MOST_POSTS" = some u ∧ RelV (.int 12) u := by
    obtain ⟨t, h⟩ := He.int_ok X G (c.fact 61 (f := .int "MOST_POSTS" 12) rfl)
    exact ⟨_, h, ⟨t, rfl⟩⟩
  have v_MOST_CORDS : ∃ u, mg "MOST_CORDS" = some u ∧ RelV (.int 9) u := by
    obtain ⟨t, h⟩ := He.int_ok X G (c.fact 62 (f := .int "MOST_CORDS" 9) rfl)
    exact ⟨_, h, ⟨t, rfl⟩⟩
  have v_GREATEST : ∃ u, mg "GREATEST" = some u ∧ RelV (.int (10 ^ 30)) u := by
    have e30 : (10 : Int) ^ 30 = 1000000000000000000000000000000 := by decide +kernel
    rw [e30]
    obtain ⟨t, h⟩ := He.int_ok X G (c.fact 63 (f := .int "GREATEST" 1000000000000000000000000000000) rfl)
    exact ⟨_, h, ⟨t, rfl⟩⟩
  have dn__law_draw : Dn K mg "_law_draw" s__law_draw ["pen", "many"] := by
    obtain ⟨fd, F⟩ := c.def_ 16 (d := d__law_draw) rfl
    have F2 : Fun K "_law_draw" "_law_draw" s__law_draw _ fd := He5.fun_of F
    exact ⟨_, fd, F2, He.glo_ok X G (c.fact 16 (f := .glo "_law_draw") rfl), F2.binds fun _ _ _ _ _ _ us hl => match us, hl with | [_, _], _ => rfl⟩
  have dn__law_pick : Dn K mg "_law_pick" s__law_pick ["pen", "some"] := by
    obtain ⟨fd, F⟩ := c.def_ 17 (d := d__law_pick) rfl
    have F2 : Fun K "_law_pick" "_law_pick" s__law_pick _ fd := He5.fun_of F
    exact ⟨_, fd, F2, He.glo_ok X G (c.fact 17 (f := .glo "_law_pick") rfl), F2.binds fun _ _ _ _ _ _ us hl => match us, hl with | [_, _], _ => rfl⟩
  have dn__law_great : Dn K mg "_law_great" s__law_great ["pen", "figures"] := by
    obtain ⟨fd, F⟩ := c.def_ 18 (d := d__law_great) rfl
    have F2 : Fun K "_law_great" "_law_great" s__law_great _ fd := He5.fun_of F
    exact ⟨_, fd, F2, He.glo_ok X G (c.fact 18 (f := .glo "_law_great") rfl), F2.binds fun _ _ _ _ _ _ us hl => match us, hl with | [_, _], _ => rfl⟩
  have dn__law_shuffled : Dn K mg "_law_shuffled" s__law_shuffled ["pen", "some"] := by
    obtain ⟨fd, F⟩ := c.def_ 19 (d := d__law_shuffled) rfl
    have F2 : Fun K "_law_shuffled" "_law_shuffled" s__law_shuffled _ fd := He5.fun_of F
    exact ⟨_, fd, F2, He.glo_ok X G (c.fact 19 (f := .glo "_law_shuffled") rfl), F2.binds fun _ _ _ _ _ _ us hl => match us, hl with | [_, _], _ => rfl⟩
  have dn__law_row_ties : Dn K mg "_law_row_ties" s__law_row_ties ["first", "size"] := by
    obtain ⟨fd, F⟩ := c.def_ 20 (d := d__law_row_ties) rfl
    have F2 : Fun K "_law_row_ties" "_law_row_ties" s__law_row_ties _ fd := He5.fun_of F
    exact ⟨_, fd, F2, He.glo_ok X G (c.fact 20 (f := .glo "_law_row_ties") rfl), F2.binds fun _ _ _ _ _ _ us hl => match us, hl with | [_, _], _ => rfl⟩
  have dn__law_moved : Dn K mg "_law_moved" s__law_moved ["ties", "by"] := by
    obtain ⟨fd, F⟩ := c.def_ 26 (d := d__law_moved) rfl
    have F2 : Fun K "_law_moved" "_law_moved" s__law_moved _ fd := He5.fun_of F
    exact ⟨_, fd, F2, He.glo_ok X G (c.fact 26 (f := .glo "_law_moved") rfl), F2.binds fun _ _ _ _ _ _ us hl => match us, hl with | [_, _], _ => rfl⟩
  have dn__law_doubled : Dn K mg "_law_doubled" s__law_doubled ["pen", "ties", "at", "times"] := by
    obtain ⟨fd, F⟩ := c.def_ 21 (d := d__law_doubled) rfl
    have F2 : Fun K "_law_doubled" "_law_doubled" s__law_doubled _ fd := He5.fun_of F
    exact ⟨_, fd, F2, He.glo_ok X G (c.fact 21 (f := .glo "_law_doubled") rfl), F2.binds fun _ _ _ _ _ _ us hl => match us, hl with | [_, _, _, _], _ => rfl⟩
  have dn__law_arms_ties : Dn K mg "_law_arms_ties" s__law_arms_ties ["lengths"] := by
    obtain ⟨fd, F⟩ := c.def_ 22 (d := d__law_arms_ties) rfl
    have F2 : Fun K "_law_arms_ties" "_law_arms_ties" s__law_arms_ties _ fd := He5.fun_of F
    exact ⟨_, fd, F2, He.glo_ok X G (c.fact 22 (f := .glo "_law_arms_ties") rfl), F2.binds fun _ _ _ _ _ _ us hl => match us, hl with | [_], _ => rfl⟩
  have dn__law_good_shape : Dn K mg "_law_good_shape" s__law_good_shape ["pen", "most"] := by
    obtain ⟨fd, F⟩ := c.def_ 23 (d := d__law_good_shape) rfl
    have F2 : Fun K "_law_good_shape" "_law_good_shape" s__law_good_shape _ fd := He5.fun_of F
    exact ⟨_, fd, F2, He.glo_ok X G (c.fact 23 (f := .glo "_law_good_shape") rfl), F2.binds fun _ _ _ _ _ _ us hl => match us, hl with | [_, _], _ => rfl⟩
  have dn__law_flat_shape : Dn K mg "_law_flat_shape" s__law_flat_shape ["pen", "most"] := by
    obtain ⟨fd, F⟩ := c.def_ 24 (d := d__law_flat_shape) rfl
    have F2 : Fun K "_law_flat_shape" "_law_flat_shape" s__law_flat_shape _ fd := He5.fun_of F
    exact ⟨_, fd, F2, He.glo_ok X G (c.fact 24 (f := .glo "_law_flat_shape") rfl), F2.binds fun _ _ _ _ _ _ us hl => match us, hl with | [_, _], _ => rfl⟩
  have dn__law_renamed : Dn K mg "_law_renamed" s__law_renamed ["pen", "size", "ties"] := by
    obtain ⟨fd, F⟩ := c.def_ 25 (d := d__law_renamed) rfl
    have F2 : Fun K "_law_renamed" "_law_renamed" s__law_renamed _ fd := He5.fun_of F
    exact ⟨_, fd, F2, He.glo_ok X G (c.fact 25 (f := .glo "_law_renamed") rfl), F2.binds fun _ _ _ _ _ _ us hl => match us, hl with | [_, _, _], _ => rfl⟩
  have dn__law_all_web : Dn K mg "_law_all_web" s__law_all_web ["pen", "most"] := by
    obtain ⟨fd, F⟩ := c.def_ 27 (d := d__law_all_web) rfl
    have F2 : Fun K "_law_all_web" "_law_all_web" s__law_all_web _ fd := He5.fun_of F
    exact ⟨_, fd, F2, He.glo_ok X G (c.fact 27 (f := .glo "_law_all_web") rfl), F2.binds fun _ _ _ _ _ _ us hl => match us, hl with | [_, _], _ => rfl⟩
  have dn__law_waves_web : Dn K mg "_law_waves_web" s__law_waves_web ["pen", "most"] := by
    obtain ⟨fd, F⟩ := c.def_ 28 (d := d__law_waves_web) rfl
    have F2 : Fun K "_law_waves_web" "_law_waves_web" s__law_waves_web _ fd := He5.fun_of F
    exact ⟨_, fd, F2, He.glo_ok X G (c.fact 28 (f := .glo "_law_waves_web") rfl), F2.binds fun _ _ _ _ _ _ us hl => match us, hl with | [_, _], _ => rfl⟩
  have dn__law_steep_shape : Dn K mg "_law_steep_shape" s__law_steep_shape ["pen", "most"] := by
    obtain ⟨fd, F⟩ := c.def_ 29 (d := d__law_steep_shape) rfl
    have F2 : Fun K "_law_steep_shape" "_law_steep_shape" s__law_steep_shape _ fd := He5.fun_of F
    exact ⟨_, fd, F2, He.glo_ok X G (c.fact 29 (f := .glo "_law_steep_shape") rfl), F2.binds fun _ _ _ _ _ _ us hl => match us, hl with | [_, _], _ => rfl⟩
  have dn__law_none_web : Dn K mg "_law_none_web" s__law_none_web ["pen", "most"] := by
    obtain ⟨fd, F⟩ := c.def_ 30 (d := d__law_none_web) rfl
    have F2 : Fun K "_law_none_web" "_law_none_web" s__law_none_web _ fd := He5.fun_of F
    exact ⟨_, fd, F2, He.glo_ok X G (c.fact 30 (f := .glo "_law_none_web") rfl), F2.binds fun _ _ _ _ _ _ us hl => match us, hl with | [_, _], _ => rfl⟩
  have dn__law_any_web : Dn K mg "_law_any_web" s__law_any_web ["pen", "most"] := by
    obtain ⟨fd, F⟩ := c.def_ 31 (d := d__law_any_web) rfl
    have F2 : Fun K "_law_any_web" "_law_any_web" s__law_any_web _ fd := He5.fun_of F
    exact ⟨_, fd, F2, He.glo_ok X G (c.fact 31 (f := .glo "_law_any_web") rfl), F2.binds fun _ _ _ _ _ _ us hl => match us, hl with | [_, _], _ => rfl⟩
  have dn__law_some_web : Dn K mg "_law_some_web" s__law_some_web ["pen", "most"] := by
    obtain ⟨fd, F⟩ := c.def_ 32 (d := d__law_some_web) rfl
    have F2 : Fun K "_law_some_web" "_law_some_web" s__law_some_web _ fd := He5.fun_of F
    exact ⟨_, fd, F2, He.glo_ok X G (c.fact 32 (f := .glo "_law_some_web") rfl), F2.binds fun _ _ _ _ _ _ us hl => match us, hl with | [_, _], _ => rfl⟩
  have dn__law_number : Dn K mg "_law_number" s__law_number ["pen", "far"] := by
    obtain ⟨fd, F⟩ := c.def_ 33 (d := d__law_number) rfl
    have F2 : Fun K "_law_number" "_law_number" s__law_number _ fd := He5.fun_of F
    exact ⟨_, fd, F2, He.glo_ok X G (c.fact 33 (f := .glo "_law_number") rfl), F2.binds fun _ _ _ _ _ _ us hl => match us, hl with | [_, _], _ => rfl⟩
  have dn__law_standing : Dn K mg "_law_standing" s__law_standing ["pen", "size", "far"] := by
    obtain ⟨fd, F⟩ := c.def_ 34 (d := d__law_standing) rfl
    have F2 : Fun K "_law_standing" "_law_standing" s__law_standing _ fd := He5.fun_of F
    exact ⟨_, fd, F2, He.glo_ok X G (c.fact 34 (f := .glo "_law_standing") rfl), F2.binds fun _ _ _ _ _ _ us hl => match us, hl with | [_, _, _], _ => rfl⟩
  have dn__law_pen : Dn K mg "_law_pen" s__law_pen ["script"] := by
    obtain ⟨fd, F⟩ := c.def_ 15 (d := d__law_pen) rfl
    have F2 : Fun K "_law_pen" "_law_pen" s__law_pen _ fd := He5.fun_of F
    exact ⟨_, fd, F2, He.glo_ok X G (c.fact 15 (f := .glo "_law_pen") rfl), F2.binds fun _ _ _ _ _ _ us hl => match us, hl with | [_], _ => rfl⟩
  have dn_is_whole : Dn K mg "is_whole" s_is_whole ["thing"] := by
    obtain ⟨fd, F⟩ := c.def_ 0 (d := d_is_whole) rfl
    have F2 : Fun K "is_whole" "is_whole" s_is_whole _ fd := He5.fun_of F
    exact ⟨_, fd, F2, He.glo_ok X G (c.fact 0 (f := .glo "is_whole") rfl), F2.binds fun _ _ _ _ _ _ us hl => match us, hl with | [_], _ => rfl⟩
  have dn_is_between : Dn K mg "is_between" s_is_between ["thing", "low", "high"] := by
    obtain ⟨fd, F⟩ := c.def_ 1 (d := d_is_between) rfl
    have F2 : Fun K "is_between" "is_between" s_is_between _ fd := He5.fun_of F
    exact ⟨_, fd, F2, He.glo_ok X G (c.fact 1 (f := .glo "is_between") rfl), F2.binds fun _ _ _ _ _ _ us hl => match us, hl with | [_, _, _], _ => rfl⟩
  have dn_need_size : Dn K mg "need_size" s_need_size ["size"] := by
    obtain ⟨fd, F⟩ := c.def_ 6 (d := d_need_size) rfl
    have F2 : Fun K "need_size" "need_size" s_need_size _ fd := He5.fun_of F
    exact ⟨_, fd, F2, He.glo_ok X G (c.fact 6 (f := .glo "need_size") rfl), F2.binds fun _ _ _ _ _ _ us hl => match us, hl with | [_], _ => rfl⟩
  have dn_is_tie : Dn K mg "is_tie" s_is_tie ["size", "thing"] := by
    obtain ⟨fd, F⟩ := c.def_ 8 (d := d_is_tie) rfl
    have F2 : Fun K "is_tie" "is_tie" s_is_tie _ fd := He5.fun_of F
    exact ⟨_, fd, F2, He.glo_ok X G (c.fact 8 (f := .glo "is_tie") rfl), F2.binds fun _ _ _ _ _ _ us hl => match us, hl with | [_, _], _ => rfl⟩
  have dn_need_ties : Dn K mg "need_ties" s_need_ties ["size", "ties"] := by
    obtain ⟨fd, F⟩ := c.def_ 7 (d := d_need_ties) rfl
    have F2 : Fun K "need_ties" "need_ties" s_need_ties _ fd := He5.fun_of F
    exact ⟨_, fd, F2, He.glo_ok X G (c.fact 7 (f := .glo "need_ties") rfl), F2.binds fun _ _ _ _ _ _ us hl => match us, hl with | [_, _], _ => rfl⟩
  have dm___len__ : DnM K (He.ga K "Web") "__len__" "Web.__len__" s_Web___len__ ["self"] := by
    obtain ⟨fd, F⟩ := c.def_ 42 (d := d_Web___len__) rfl
    have F2 : Fun K "__len__" "Web.__len__" s_Web___len__ _ fd := He5.fun_of F
    exact ⟨_, fd, F2, He.meth_ok (c.fact 66 (f := .meth "Web" "__len__") rfl), F2.binds fun _ _ _ _ _ _ us hl => match us, hl with | [_], _ => rfl⟩
  have dm___init__ : DnI K (He.ga K "Web") "Web.__init__" s_Web___init__ ["self", "size", "ties"] := by
    obtain ⟨fd, F⟩ := c.def_ 41 (d := d_Web___init__) rfl
    have F2 : Fun K "__init__" "Web.__init__" s_Web___init__ _ fd := He5.fun_of F
    exact ⟨_, fd, F2, He.mkr_ok (c.fact 65 (f := .mkr "Web") rfl), F2.binds fun _ _ _ _ _ _ us hl => match us, hl with | [_, _, _], _ => rfl⟩
  have dm_ties : DnM K (He.ga K "Web") "ties" "Web.ties" s_Web_ties ["self"] := by
    obtain ⟨fd, F⟩ := c.def_ 44 (d := d_Web_ties) rfl
    have F2 : Fun K "ties" "Web.ties" s_Web_ties _ fd := He5.fun_of F
    exact ⟨_, fd, F2, He.meth_ok (c.fact 68 (f := .meth "Web" "ties") rfl), F2.binds fun _ _ _ _ _ _ us hl => match us, hl with | [_], _ => rfl⟩
  have dn_gains : Dn K mg "gains" s_gains ["web", "numbers"] := by
    obtain ⟨fd, F⟩ := c.def_ 13 (d := d_gains) rfl
    have F2 : Fun K "gains" "gains" s_gains _ fd := He5.fun_of F
    exact ⟨_, fd, F2, He.glo_ok X G (c.fact 13 (f := .glo "gains") rfl), F2.binds fun _ _ _ _ _ _ us hl => match us, hl with | [_, _], _ => rfl⟩
  have dn_less : Dn K mg "less" s_less ["numbers", "others"] := by
    obtain ⟨fd, F⟩ := c.def_ 14 (d := d_less) rfl
    have F2 : Fun K "less" "less" s_less _ fd := He5.fun_of F
    exact ⟨_, fd, F2, He.glo_ok X G (c.fact 14 (f := .glo "less") rfl), F2.binds fun _ _ _ _ _ _ us hl => match us, hl with | [_, _], _ => rfl⟩
  have dn_need_standing : Dn K mg "need_standing" s_need_standing ["web", "standing"] := by
    obtain ⟨fd, F⟩ := c.def_ 10 (d := d_need_standing) rfl
    have F2 : Fun K "need_standing" "need_standing" s_need_standing _ fd := He5.fun_of F
    exact ⟨_, fd, F2, He.glo_ok X G (c.fact 10 (f := .glo "need_standing") rfl), F2.binds fun _ _ _ _ _ _ us hl => match us, hl with | [_, _], _ => rfl⟩
  have dn_following : Dn K mg "following" s_following ["web", "standing"] := by
    obtain ⟨fd, F⟩ := c.def_ 12 (d := d_following) rfl
    have F2 : Fun K "following" "following" s_following _ fd := He5.fun_of F
    exact ⟨_, fd, F2, He.glo_ok X G (c.fact 12 (f := .glo "following") rfl), F2.binds fun _ _ _ _ _ _ us hl => match us, hl with | [_, _], _ => rfl⟩
  have dn_run_of : Dn K mg "run_of" s_run_of ["web", "standing", "beats"] := by
    obtain ⟨fd, F⟩ := c.def_ 11 (d := d_run_of) rfl
    have F2 : Fun K "run_of" "run_of" s_run_of _ fd := He5.fun_of F
    exact ⟨_, fd, F2, He.glo_ok X G (c.fact 11 (f := .glo "run_of") rfl), F2.binds fun _ _ _ _ _ _ us hl => match us, hl with | [_, _, _], _ => rfl⟩
  have dn_need_post : Dn K mg "need_post" s_need_post ["web", "post"] := by
    obtain ⟨fd, F⟩ := c.def_ 9 (d := d_need_post) rfl
    have F2 : Fun K "need_post" "need_post" s_need_post _ fd := He5.fun_of F
    exact ⟨_, fd, F2, He.glo_ok X G (c.fact 9 (f := .glo "need_post") rfl), F2.binds fun _ _ _ _ _ _ us hl => match us, hl with | [_, _], _ => rfl⟩
  have dm_cords : DnM K (He.ga K "Web") "cords" "Web.cords" s_Web_cords ["self", "one", "other"] := by
    obtain ⟨fd, F⟩ := c.def_ 45 (d := d_Web_cords) rfl
    have F2 : Fun K "cords" "Web.cords" s_Web_cords _ fd := He5.fun_of F
    exact ⟨_, fd, F2, He.meth_ok (c.fact 69 (f := .meth "Web" "cords") rfl), F2.binds fun _ _ _ _ _ _ us hl => match us, hl with | [_, _, _], _ => rfl⟩
  have dn_tied_to : Dn K mg "tied_to" s_tied_to ["web", "post"] := by
    obtain ⟨fd, F⟩ := c.def_ 5 (d := d_tied_to) rfl
    have F2 : Fun K "tied_to" "tied_to" s_tied_to _ fd := He5.fun_of F
    exact ⟨_, fd, F2, He.glo_ok X G (c.fact 5 (f := .glo "tied_to") rfl), F2.binds fun _ _ _ _ _ _ us hl => match us, hl with | [_, _], _ => rfl⟩
  have dm__part_of : DnM K (He.ga K "Web") "_part_of" "Web._part_of" s_Web__part_of ["self", "post"] := by
    obtain ⟨fd, F⟩ := c.def_ 47 (d := d_Web__part_of) rfl
    have F2 : Fun K "_part_of" "Web._part_of" s_Web__part_of _ fd := He5.fun_of F
    exact ⟨_, fd, F2, He.meth_ok (c.fact 71 (f := .meth "Web" "_part_of") rfl), F2.binds fun _ _ _ _ _ _ us hl => match us, hl with | [_, _], _ => rfl⟩
  have dm_parts : DnM K (He.ga K "Web") "parts" "Web.parts" s_Web_parts ["self"] := by
    obtain ⟨fd, F⟩ := c.def_ 46 (d := d_Web_parts) rfl
    have F2 : Fun K "parts" "Web.parts" s_Web_parts _ fd := He5.fun_of F
    exact ⟨_, fd, F2, He.meth_ok (c.fact 70 (f := .meth "Web" "parts") rfl), F2.binds fun _ _ _ _ _ _ us hl => match us, hl with | [_], _ => rfl⟩
  have dn__law_at : Dn K mg "_law_at" s__law_at ["standing", "posts"] := by
    obtain ⟨fd, F⟩ := c.def_ 35 (d := d__law_at) rfl
    have F2 : Fun K "_law_at" "_law_at" s__law_at _ fd := He5.fun_of F
    exact ⟨_, fd, F2, He.glo_ok X G (c.fact 35 (f := .glo "_law_at") rfl), F2.binds fun _ _ _ _ _ _ us hl => match us, hl with | [_, _], _ => rfl⟩
  have dn__law_alone : Dn K mg "_law_alone" s__law_alone ["posts", "ties"] := by
    obtain ⟨fd, F⟩ := c.def_ 36 (d := d__law_alone) rfl
    have F2 : Fun K "_law_alone" "_law_alone" s__law_alone _ fd := He5.fun_of F
    exact ⟨_, fd, F2, He.glo_ok X G (c.fact 36 (f := .glo "_law_alone") rfl), F2.binds fun _ _ _ _ _ _ us hl => match us, hl with | [_, _], _ => rfl⟩
  obtain ⟨fd, F⟩ := c.def_ 37 (d := d_law) rfl
  have e := hfa.symm.trans (He.glo_ok X G (c.fact 37 (f := .glo "law") rfl))
  cases e
  have b := FunD.bindsA (ps := ["script"]) F fun _ _ _ _ _ _ us hl => match us, hl with | [_], _ => rfl
  refine ⟨fd, fun s v => b s [v] rfl, fun base _ _ => ?_⟩
  have c__law_draw := ok__law_draw (P := P) (w := w) (K := K) (mg := mg) (base := base) (D := dn__law_draw) (B := B)
  have c__law_pick := ok__law_pick (P := P) (w := w) (K := K) (mg := mg) (base := base) (D := dn__law_pick) (B := B) (c__law_draw := c__law_draw)
  have c__law_great := ok__law_great (P := P) (w := w) (K := K) (mg := mg) (base := base) (D := dn__law_great) (B := B) (c__law_draw := c__law_draw)
  have c__law_shuffled := ok__law_shuffled (P := P) (w := w) (K := K) (mg := mg) (base := base) (D := dn__law_shuffled) (B := B) (c__law_draw := c__law_draw)
  have c__law_row_ties := ok__law_row_ties (P := P) (w := w) (K := K) (mg := mg) (base := base) (D := dn__law_row_ties) (B := B)
  have c__law_moved := ok__law_moved (P := P) (w := w) (K := K) (mg := mg) (base := base) (D := dn__law_moved) (B := B)
  have c__law_doubled := ok__law_doubled (P := P) (w := w) (K := K) (mg := mg) (base := base) (D := dn__law_doubled) (B := B) (c__law_pick := c__law_pick)
  have c__law_arms_ties := ok__law_arms_ties (P := P) (w := w) (K := K) (mg := mg) (base := base) (D := dn__law_arms_ties) (B := B) (c__law_row_ties := c__law_row_ties)
  have c__law_good_shape := ok__law_good_shape (P := P) (w := w) (K := K) (mg := mg) (base := base) (D := dn__law_good_shape) (B := B) (c__law_draw := c__law_draw) (c__law_pick := c__law_pick) (c__law_row_ties := c__law_row_ties) (c__law_doubled := c__law_doubled) (c__law_arms_ties := c__law_arms_ties)
  have c__law_flat_shape := ok__law_flat_shape (P := P) (w := w) (K := K) (mg := mg) (base := base) (D := dn__law_flat_shape) (B := B) (c__law_draw := c__law_draw) (c__law_pick := c__law_pick) (c__law_row_ties := c__law_row_ties) (c__law_doubled := c__law_doubled) (c__law_arms_ties := c__law_arms_ties)
  have c__law_renamed := ok__law_renamed (P := P) (w := w) (K := K) (mg := mg) (base := base) (D := dn__law_renamed) (B := B) (c__law_shuffled := c__law_shuffled)
  have c__law_all_web := ok__law_all_web (P := P) (w := w) (K := K) (mg := mg) (base := base) (D := dn__law_all_web) (B := B) (c__law_good_shape := c__law_good_shape) (c__law_pick := c__law_pick) (c__law_moved := c__law_moved) (c__law_renamed := c__law_renamed)
  have c__law_waves_web := ok__law_waves_web (P := P) (w := w) (K := K) (mg := mg) (base := base) (D := dn__law_waves_web) (B := B) (c__law_flat_shape := c__law_flat_shape) (c__law_renamed := c__law_renamed)
  have c__law_steep_shape := ok__law_steep_shape (P := P) (w := w) (K := K) (mg := mg) (base := base) (D := dn__law_steep_shape) (B := B) (c__law_draw := c__law_draw) (c__law_pick := c__law_pick) (c__law_flat_shape := c__law_flat_shape)
  have c__law_none_web := ok__law_none_web (P := P) (w := w) (K := K) (mg := mg) (base := base) (D := dn__law_none_web) (B := B) (c__law_steep_shape := c__law_steep_shape) (c__law_renamed := c__law_renamed)
  have c__law_any_web := ok__law_any_web (P := P) (w := w) (K := K) (mg := mg) (base := base) (D := dn__law_any_web) (B := B) (c__law_draw := c__law_draw) (c__law_pick := c__law_pick) (c__law_shuffled := c__law_shuffled)
  have c__law_some_web := ok__law_some_web (P := P) (w := w) (K := K) (mg := mg) (base := base) (D := dn__law_some_web) (B := B) (c__law_draw := c__law_draw) (c__law_pick := c__law_pick) (c__law_good_shape := c__law_good_shape) (c__law_flat_shape := c__law_flat_shape) (c__law_steep_shape := c__law_steep_shape) (c__law_moved := c__law_moved) (c__law_renamed := c__law_renamed) (c__law_all_web := c__law_all_web) (c__law_waves_web := c__law_waves_web) (c__law_none_web := c__law_none_web) (c__law_any_web := c__law_any_web)
  have c__law_number := ok__law_number (P := P) (w := w) (K := K) (mg := mg) (base := base) (D := dn__law_number) (B := B) (c__law_draw := c__law_draw) (c__law_pick := c__law_pick) (c__law_great := c__law_great)
  have c__law_standing := ok__law_standing (P := P) (w := w) (K := K) (mg := mg) (base := base) (D := dn__law_standing) (B := B) (c__law_number := c__law_number)
  have c__law_pen := ok__law_pen (P := P) (w := w) (K := K) (mg := mg) (base := base) (D := dn__law_pen) (B := B)
  have c_is_whole := ok_is_whole (P := P) (w := w) (K := K) (mg := mg) (base := base) (D := dn_is_whole) (B := B) (Bb := Bb)
  have c_is_between := ok_is_between (P := P) (w := w) (K := K) (mg := mg) (base := base) (D := dn_is_between) (B := B) (c_is_whole := c_is_whole)
  have c_need_size := ok_need_size (P := P) (w := w) (K := K) (mg := mg) (base := base) (D := dn_need_size) (B := B) (c_is_between := c_is_between) (v_MOST_POSTS := v_MOST_POSTS)
  have c_is_tie := ok_is_tie (P := P) (w := w) (K := K) (mg := mg) (base := base) (D := dn_is_tie) (B := B) (Bb := Bb) (c_is_whole := c_is_whole) (v_MOST_CORDS := v_MOST_CORDS)
  have c_need_ties := ok_need_ties (P := P) (w := w) (K := K) (mg := mg) (base := base) (D := dn_need_ties) (B := B) (c_is_tie := c_is_tie)
  have m_len := ok_len (P := P) (w := w) (K := K) (mg := mg) (base := base) (D := dm___len__) (B := B) (W := W) (C := He.ga K "Web")
  have c_Web := ok_init (P := P) (w := w) (K := K) (mg := mg) (base := base) (D := dm___init__) (B := B) (W := W) (c_need_size := c_need_size) (c_need_ties := c_need_ties) (C := He.ga K "Web")
  have m_ties := ok_ties (P := P) (w := w) (K := K) (mg := mg) (base := base) (D := dm_ties) (B := B) (W := W) (C := He.ga K "Web")
  have c_gains := ok_gains (P := P) (w := w) (K := K) (mg := mg) (base := base) (D := dn_gains) (B := B) (m_len := m_len) (m_ties := m_ties) (C := He.ga K "Web")
  have c_less := ok_less (P := P) (w := w) (K := K) (mg := mg) (base := base) (D := dn_less) (B := B) (C := He.ga K "Web")
  have c_need_standing := ok_need_standing (P := P) (w := w) (K := K) (mg := mg) (base := base) (D := dn_need_standing) (B := B) (c_is_between := c_is_between) (m_len := m_len) (v_GREATEST := v_GREATEST) (C := He.ga K "Web")
  have c_following := ok_following (P := P) (w := w) (K := K) (mg := mg) (base := base) (D := dn_following) (B := B) (c_gains := c_gains) (c_less := c_less) (C := He.ga K "Web")
  have c_run_of := ok_run_of (P := P) (w := w) (K := K) (mg := mg) (base := base) (D := dn_run_of) (B := B) (c_need_standing := c_need_standing) (c_following := c_following) (C := He.ga K "Web")
  have c_need_post := ok_need_post (P := P) (w := w) (K := K) (mg := mg) (base := base) (D := dn_need_post) (B := B) (c_is_between := c_is_between) (m_len := m_len) (C := He.ga K "Web")
  have m_cords := ok_cords (P := P) (w := w) (K := K) (mg := mg) (base := base) (D := dm_cords) (B := B) (W := W) (c_need_post := c_need_post) (C := He.ga K "Web")
  have c_tied_to := ok_tied_to (P := P) (w := w) (K := K) (mg := mg) (base := base) (D := dn_tied_to) (B := B) (m_cords := m_cords) (m_len := m_len) (C := He.ga K "Web")
  have m__part_of := ok_part_of (P := P) (w := w) (K := K) (mg := mg) (base := base) (D := dm__part_of) (B := B) (Bs := Bs) (W := W) (c_tied_to := c_tied_to) (C := He.ga K "Web")
  have m_parts := ok_parts (P := P) (w := w) (K := K) (mg := mg) (base := base) (D := dm_parts) (B := B) (Ba := Ba) (W := W) (m__part_of := m__part_of) (C := He.ga K "Web")
  have c__law_at := ok__law_at (P := P) (w := w) (K := K) (mg := mg) (base := base) (D := dn__law_at) (B := B)
  have c__law_alone := ok__law_alone (P := P) (w := w) (K := K) (mg := mg) (base := base) (D := dn__law_alone) (B := B) (Bd := Bd)
  exact ok_law (He5.fun_of F) (B := B) (W := W) (c__law_pen := c__law_pen) (c__law_some_web := c__law_some_web) (c__law_renamed := c__law_renamed) (c__law_moved := c__law_moved) (c_Web := c_Web) (c__law_standing := c__law_standing) (c__law_draw := c__law_draw) (c_run_of := c_run_of) (m_parts := m_parts) (c__law_alone := c__law_alone) (c__law_at := c__law_at)
end Hd
open PySem PySem.W PySem.Calls PyProof.Rows
theorem PySem.Challenge.cw_giveback_k07_whole_parts_run_alone_holds : PySem.Challenge.rw_giveback_k07_whole_parts_run_alone.Holds := by
  w_on; o_law
  refine HandSHeadRun.head_any (r := OpenLaw.row PySem.Challenge.rw_giveback_k07_whole_parts_run_alone) (q := view (OpenLaw.row PySem.Challenge.rw_giveback_k07_whole_parts_run_alone).prog [49]) (H := Hd.hk) (ob := Hd.ob) (M := 6000) (loose := Hd.loose) (d := HandSHeadRun.topDef (OpenLaw.row PySem.Challenge.rw_giveback_k07_whole_parts_run_alone).prog 49) (kwd := []) Hd.ob_eq
    (by kernel_rfl) (fun s => by kernel_rfl) Hd.run (by kernel_rfl) (by kernel_rfl) (by kernel_rfl) (by rfl) (by first | assumption | decide +kernel) (by decide +kernel) ⟨rfl, rfl, rfl, rfl, rfl, by decide +kernel⟩ ?hw ?hc
  case hw => w_witness2
  case hc =>
    refine L2.walk_ofE (l := PySem.Challenge.rw_giveback_k07_whole_parts_run_alone) (n := 63) (k := 8) (x := "script") (CX := L2.CX0) rfl (by decide) (by kernel_rfl) ⟨rfl, by decide, by decide⟩ ?F (fun _ _ _ _ z => z)
    intro w mg fa h Y G hmg0
    obtain ⟨K, KX, c⟩ := Y
    have hmg : mg ("law" : PySem.Str) = some (.ref fa) := by
      have e : (HandSHeadRun.topDef (OpenLaw.row PySem.Challenge.rw_giveback_k07_whole_parts_run_alone).prog 49).name = ("law" : PySem.Str) := by kernel_rfl
      rw [← e]
      exact hmg0
    obtain ⟨fd, hb, hF⟩ := Hd.facts (P := (PySem.Challenge.rw_giveback_k07_whole_parts_run_alone).prog) (w := w) KX G hmg c
    exact ⟨K, fd, Gb.spLaw K, KX, hb, fun H a ns hl _ hS => ⟨a, ns, rfl, hS, hl, fun _ => rfl⟩, hF⟩
