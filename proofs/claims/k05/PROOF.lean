import PyProof.Rows.All
import Wide.All
import OpenK.AllK
import Wide.FinOn
import HandS.Base
import HandS.Call
import HandS.List
import HandS.Words
import HandS.WordsList
import HandS.WordsDict
import HandS.Comp
import HandS.Dict
import HandS.Iter
import HandS.Ends
import HandS.IsInst
import HandS.Deep
import HandS.Style
import HandS.Flow
import HandS.TupAny
import HandS.SortInts
import HandS.EndTab
import KE.SortData
import HandS.AnyAll
import KE.GoesEnum
import HandS.Nested
import KE.DataCmp
import KE.KRevSl
import HandS.Star
import HandS.CallLocal
import HandS.Text
import PySem.Challenge.RW_wherewritten_k05_syntax_and_scopes
import KE.KNest
set_option Elab.async false
set_option linter.all false
set_option maxRecDepth 100000
set_option maxHeartbeats 4000000
namespace Com
open PySem PySem.Spec PyProof.Rows L2
/-! data that are tuples all the way down -/
mutual
inductive Dt (H : Hp) : V → PyData → Prop
  | non : Dt H .non .none
  | bl (b : Bool) : Dt H (.bl b) (.bool b)
  | int (i : Int) : Dt H (.int i) (.int i)
  | str (x : Str) : Dt H (.str x) (.str x)
  | tup {a : Addr} {xs : List V} {ds : List PyData} : H a = some (.tup xs) → DtAll H xs ds → Dt H (.ref a) (.tuple ds)
inductive DtAll (H : Hp) : List V → List PyData → Prop
  | nil : DtAll H [] []
  | cons {v : V} {vs : List V} {d : PyData} {ds : List PyData} : Dt H v d → DtAll H vs ds → DtAll H (v :: vs) (d :: ds)
end
/-- the tuples stand -/
def Tk (H H' : Hp) : Prop := ∀ a xs, H a = some (.tup xs) → H' a = some (.tup xs)
theorem Tk.refl (H : Hp) : Tk H H := fun _ _ h => h
theorem Tk.trans {H1 H2 H3 : Hp} (a : Tk H1 H2) (b : Tk H2 H3) : Tk H1 H3 := fun c xs h => b c xs (a c xs h)
theorem Tk.upd {H : Hp} {a : Addr} {o : HO} (h : ∀ xs, H a ≠ some (.tup xs)) : Tk H (upd H a o) := fun b xs e => by
  have : b ≠ a := fun z => h xs (z ▸ e)
  rw [upd_ne this]
  exact e
theorem Tk.new {H : Hp} {a : Addr} {o : HO} (h : H a = none) : Tk H (L2.upd H a o) := Tk.upd fun xs e => by rw [h] at e; cases e
mutual
theorem Dt.mono {H H' : Hp} (k : Tk H H') : ∀ (d : PyData) (v : V), Dt H v d → Dt H' v d
  | .none, _, h => by cases h; exact .non
  | .bool _, _, h => by cases h; exact .bl _
  | .int _, _, h => by cases h; exact .int _
  | .str _, _, h => by cases h; exact .str _
  | .list _, _, h => by cases h
  | .tuple ds, _, h => by
    cases h with
    | tup e q => exact .tup (k _ _ e) (DtAll.mono k ds _ q)
  | .dict _, _, h => by cases h
theorem DtAll.mono {H H' : Hp} (k : Tk H H') : ∀ (ds : List PyData) (vs : List V), DtAll H vs ds → DtAll H' vs ds
  | [], _, h => by cases h; exact .nil
  | d :: ds, _, h => by
    cases h with
    | cons h1 h2 => exact .cons (Dt.mono k d _ h1) (DtAll.mono k ds _ h2)
end
theorem Dt.tk {H H' : Hp} {v : V} {d : PyData} (h : Dt H v d) (k : Tk H H') : Dt H' v d := Dt.mono k d v h
theorem DtAll.tk {H H' : Hp} {v : List V} {d : List PyData} (h : DtAll H v d) (k : Tk H H') : DtAll H' v d := DtAll.mono k d v h
mutual
theorem Dt.toDp {K : PySem.W.Frag} {H : Hp} : ∀ (d : PyData) (v : V), Dt H v d → Dp K H v d
  | .none, _, h => by cases h; exact .non
  | .bool _, _, h => by cases h; exact .bl _
  | .int _, _, h => by cases h; exact .int _
  | .str _, _, h => by cases h; exact .str _
  | .list _, _, h => by cases h
  | .tuple ds, _, h => by
    cases h with
    | tup e q => exact .tup (SqT.of e) (DtAll.toDp ds _ q)
  | .dict _, _, h => by cases h
theorem DtAll.toDp {K : PySem.W.Frag} {H : Hp} : ∀ (ds : List PyData) (vs : List V), DtAll H vs ds → DpAll K H vs ds
  | [], _, h => by cases h; exact .nil
  | d :: ds, _, h => by
    cases h with
    | cons h1 h2 => exact .cons (Dt.toDp d _ h1) (DtAll.toDp ds _ h2)
end
theorem Dt.dp {K : PySem.W.Frag} {H : Hp} {v : V} {d : PyData} (h : Dt H v d) : Dp K H v d := Dt.toDp d v h
theorem DtAll.dp {K : PySem.W.Frag} {H : Hp} {v : List V} {d : List PyData} (h : DtAll H v d) : DpAll K H v d := DtAll.toDp d v h
theorem DtAll.len {H : Hp} : ∀ {vs : List V} {ds : List PyData}, DtAll H vs ds → vs.length = ds.length
  | _, _, .nil => rfl
  | _, _, .cons _ h => congrArg (· + 1) h.len
theorem DtAll.get {H : Hp} : ∀ {vs : List V} {ds : List PyData} {i : Nat} {x : V}, DtAll H vs ds → vs[i]? = some x → ∃ d, ds[i]? = some d ∧ Dt H x d
  | _, _, _, _, .nil, e => by simp at e
  | _, _, 0, _, .cons h _, e => by
    simp at e
    subst e
    exact ⟨_, rfl, h⟩
  | _, _, i + 1, _, .cons _ t, e => by
    have e' := e
    simp only [List.getElem?_cons_succ] at e'
    obtain ⟨d, h1, h2⟩ := DtAll.get t e'
    exact ⟨d, by simpa using h1, h2⟩
theorem DtAll.at {H : Hp} {vs : List V} {ds : List PyData} {i : Nat} {d : PyData} (h : DtAll H vs ds) (e : ds[i]? = some d) : ∃ x, vs[i]? = some x ∧ Dt H x d := by
  have hi := (List.getElem?_eq_some_iff.mp e).1
  have hv : i < vs.length := by rw [h.len]; exact hi
  obtain ⟨d', e', q⟩ := h.get (List.getElem?_eq_getElem hv)
  rw [e] at e'
  cases e'
  exact ⟨_, List.getElem?_eq_getElem hv, q⟩
theorem DtAll.get_map {H : Hp} {α : Type} {f : α → PyData} {l : List α} {vs : List V} {i : Nat} {x : V} (h : DtAll H vs (l.map f)) (e : vs[i]? = some x) : ∃ a, l[i]? = some a ∧ Dt H x (f a) := by
  obtain ⟨d, h1, h2⟩ := h.get e
  rw [List.getElem?_map] at h1
  cases q : l[i]? with
  | none => rw [q] at h1; cases h1
  | some a =>
    rw [q] at h1
    cases h1
    exact ⟨a, rfl, h2⟩
theorem DtAll.app {H : Hp} : ∀ {vs ws : List V} {ds es : List PyData}, DtAll H vs ds → DtAll H ws es → DtAll H (vs ++ ws) (ds ++ es)
  | _, _, _, _, .nil, s => s
  | _, _, _, _, .cons r t, s => .cons r (t.app s)
theorem DtAll.one {H : Hp} {v : V} {d : PyData} (h : Dt H v d) : DtAll H [v] [d] := .cons h .nil
theorem Dt.intE {H : Hp} {v : V} {i : Int} (h : Dt H v (.int i)) : v = .int i := by cases h; rfl
theorem Dt.strE {H : Hp} {v : V} {x : Str} (h : Dt H v (.str x)) : v = .str x := by cases h; rfl
theorem Dt.nonE {H : Hp} {v : V} (h : Dt H v .none) : v = .non := by cases h; rfl
theorem Dt.blE {H : Hp} {v : V} {b : Bool} (h : Dt H v (.bool b)) : v = .bl b := by cases h; rfl
theorem Dt.tupE {H : Hp} {v : V} {ds : List PyData} (h : Dt H v (.tuple ds)) : ∃ a xs, v = .ref a ∧ H a = some (.tup xs) ∧ DtAll H xs ds := by
  cases h with
  | tup e q => exact ⟨_, _, rfl, e, q⟩
theorem DtAll.consE {H : Hp} {vs : List V} {d : PyData} {ds : List PyData} (h : DtAll H vs (d :: ds)) : ∃ x r, vs = x :: r ∧ Dt H x d ∧ DtAll H r ds := by
  cases h with
  | cons h1 h2 => exact ⟨_, _, rfl, h1, h2⟩
theorem DtAll.nilE {H : Hp} {vs : List V} (h : DtAll H vs []) : vs = [] := by cases h; rfl
/-! == of data without truth values is their being one -/
mutual
def pl : PyData → Bool
  | .none | .int _ | .str _ => true
  | .bool _ | .dict _ => false
  | .list xs | .tuple xs => plAll xs
def plAll : List PyData → Bool
  | [] => true
  | x :: xs => pl x && plAll xs
end
mutual
theorem eqv_pl : ∀ (d e : PyData), pl d = true → pl e = true → (PyData.eqv d e = true ↔ d = e)
  | .none, e, _, h => by cases e <;> simp [PyData.eqv, pl] at h ⊢
  | .int i, e, _, h => by cases e <;> simp [PyData.eqv, pl] at h ⊢
  | .str i, e, _, h => by cases e <;> simp [PyData.eqv, pl] at h ⊢
  | .bool b, _, h, _ => by simp [pl] at h
  | .dict b, _, h, _ => by simp [pl] at h
  | .list xs, e, h, h' => by
    cases e with
    | list ys =>
      have q := eqvAll_pl xs ys (by simpa [pl] using h) (by simpa [pl] using h')
      simp only [PyData.eqv, PyData.list.injEq]
      exact q
    | _ => simp [PyData.eqv]
  | .tuple xs, e, h, h' => by
    cases e with
    | tuple ys =>
      have q := eqvAll_pl xs ys (by simpa [pl] using h) (by simpa [pl] using h')
      simp only [PyData.eqv, PyData.tuple.injEq]
      exact q
    | _ => simp [PyData.eqv]
theorem eqvAll_pl : ∀ (d e : List PyData), plAll d = true → plAll e = true → (PyData.eqvAll d e = true ↔ d = e)
  | [], e, _, _ => by cases e <;> simp [PyData.eqvAll]
  | x :: xs, [], _, _ => by simp [PyData.eqvAll]
  | x :: xs, y :: ys, h, h' => by
    simp only [plAll, Bool.and_eq_true] at h h'
    simp only [PyData.eqvAll, Bool.and_eq_true, List.cons.injEq]
    rw [eqv_pl x y h.1 h'.1, eqvAll_pl xs ys h.2 h'.2]
end
theorem any_pl {ds : List PyData} {d : PyData} (h : plAll ds = true) (hd : pl d = true) : (ds.any fun z => PyData.eqv z d) = true ↔ d ∈ ds := by
  induction ds with
  | nil => simp
  | cons x xs ih =>
    simp only [plAll, Bool.and_eq_true] at h
    rw [List.any_cons, Bool.or_eq_true, ih h.2, eqv_pl x d h.1 hd, List.mem_cons]
    constructor
    · rintro (q | q)
      · exact .inl q.symm
      · exact .inr q
    · rintro (q | q)
      · exact .inl q.symm
      · exact .inr q
/-! in, not in, of a tuple of data -/
section
variable {X : Cx}
def rInT (K : PySem.W.Frag) : R2 := fun x y H Q => ∃ d ds, Dp K H x d ∧ Dp K H y (.tuple ds) ∧ SeqAt.shaped d = true ∧ SeqAt.shaped (.tuple ds) = true ∧ Q (.bl (ds.any fun z => PyData.eqv z d)) H
def rNotInT (K : PySem.W.Frag) : R2 := fun x y H Q => ∃ d ds, Dp K H x d ∧ Dp K H y (.tuple ds) ∧ SeqAt.shaped d = true ∧ SeqAt.shaped (.tuple ds) = true ∧ Q (.bl (!ds.any fun z => PyData.eqv z d)) H
theorem room_in {A : Around} {d : PyData} {ds : List PyData} (sd : SeqAt.shaped d = true) (hu : A.units + 65 < cLine) : A.units + 1 + min (PyData.depthAll ds) d.depth < cLine := by
  have h : d.depth ≤ 64 := by
    have q : (d.canLay0 && decide (d.depth ≤ 64)) = true := sd
    rw [Bool.and_eq_true] at q
    exact of_decide_eq_true q.2
  have := Nat.min_le_right (PyData.depthAll ds) d.depth
  omega
theorem op_inT (hu : X.A.units + 65 < cLine) : OpR X (compareOp .In) (rInT X.K) := by
  intro pins s σ H x y v u Q I rx ry h
  obtain ⟨d, ds, hd, he, sd, se, q⟩ := h
  obtain ⟨as, r1⟩ := Dp.reads I d x v hd rx
  obtain ⟨bs, r2⟩ := Dp.reads I (.tuple ds) y u he ry
  exact SeqAt.in_tuple_reads r2 r1 (SeqAt.canLay_of_shaped se) (SeqAt.canLay_of_shaped sd) (room_in sd hu) ⟨.bl _, H, I, rfl, q⟩
theorem op_notInT (hu : X.A.units + 65 < cLine) : OpR X (compareOp .NotIn) (rNotInT X.K) := by
  intro pins s σ H x y v u Q I rx ry h
  obtain ⟨d, ds, hd, he, sd, se, q⟩ := h
  obtain ⟨as, r1⟩ := Dp.reads I d x v hd rx
  obtain ⟨bs, r2⟩ := Dp.reads I (.tuple ds) y u he ry
  exact SeqAt.notIn_tuple_reads r2 r1 (SeqAt.canLay_of_shaped se) (SeqAt.canLay_of_shaped sd) (room_in sd hu) ⟨.bl _, H, I, rfl, q⟩
theorem units65 {k : Nat} {A : Around} (r : Room k A) : A.units + 65 < cLine := by have := r.un; omega
end
end Com
set_option Elab.async false
set_option linter.all false
set_option maxRecDepth 100000
set_option maxHeartbeats 4000000
namespace Com
open PySem PySem.Spec PyProof.Rows L2
theorem b_len : bootBuiltins "len" = some (.builtin "len") := by decide +kernel
theorem b_abs : bootBuiltins "abs" = some (.builtin "abs") := by decide +kernel
theorem b_int : bootBuiltins "int" = some (.type "int") := by decide +kernel
theorem b_bool : bootBuiltins "bool" = some (.type "bool") := by decide +kernel
theorem b_str : bootBuiltins "str" = some (.type "str") := by decide +kernel
theorem b_tuple : bootBuiltins "tuple" = some (.type "tuple") := by decide +kernel
theorem b_list : bootBuiltins "list" = some (.type "list") := by decide +kernel
theorem b_dict : bootBuiltins "dict" = some (.type "dict") := by decide +kernel
theorem b_range : bootBuiltins "range" = some (.type "range") := by decide +kernel
theorem b_enumerate : bootBuiltins "enumerate" = some (.type "enumerate") := by decide +kernel
theorem b_isinstance : bootBuiltins "isinstance" = some (.builtin "isinstance") := by decide +kernel
theorem b_sorted : bootBuiltins "sorted" = some (.builtin "sorted") := by decide +kernel
theorem b_any : bootBuiltins "any" = some (.builtin "any") := by decide +kernel
theorem b_all : bootBuiltins "all" = some (.builtin "all") := by decide +kernel
theorem b_max : bootBuiltins "max" = some (.builtin "max") := by decide +kernel
theorem b_min : bootBuiltins "min" = some (.builtin "min") := by decide +kernel
/-! defs by name -/
structure Dfn (K : PySem.W.Frag) (mg : Str → Option Value) (x : Str) (st : Stmt) (f : Addr) (fd : FuncData) (ps : List Str) : Prop where
  fn : Fun K x x st f fd
  mgf : mg x = some (.ref f)
  b : Binds K fd ps []
def Cal (P : Program) (w : World) (K : PySem.W.Frag) (mg : Str → Option Value) (base : Heap) (k : Nat) (x : Str) (sp : Sp) : Prop :=
  ∃ (f : Addr) (fd : FuncData) (ps : List Str), FnOk P w K mg base CX0 k f fd ps sp ∧ mg x = some (.ref f) ∧ PySem.W.keepIn K (.ref f) = true ∧ Binds K fd ps []
section
variable {P : Program} {w : World} {K : PySem.W.Frag} {mg : Str → Option Value} {base : Heap}
theorem Cal.mono {j k : Nat} {x : Str} {sp : Sp} (c : Cal P w K mg base j x sp) (h : j ≤ k) : Cal P w K mg base k x sp := by
  obtain ⟨f, fd, ps, F, r⟩ := c
  exact ⟨f, fd, ps, F.mono h, r⟩
theorem Cal.imp {k : Nat} {x : Str} {sp sp' : Sp} (c : Cal P w K mg base k x sp) (h : ∀ vs H Q E, sp' vs H Q E → sp vs H Q E) : Cal P w K mg base k x sp' := by
  obtain ⟨f, fd, ps, F, r⟩ := c
  exact ⟨f, fd, ps, F.imp h, r⟩
theorem cal_mk {x : Str} {st : Stmt} {f : Addr} {fd : FuncData} {N ps : List Str} {k : Nat} {sp : Sp} (F : Dfn K mg x st f fd ps) (S : FnScope N ps (defScope st)) (len : ∀ vs H Q E, sp vs H Q E → vs.length = ps.length)
    (hbody : ∀ (cdv : Value) (A : Around) (outer : List Env) (s : Shared) (H : Hp) (vs : List V) (Q : VK) (E : XK), Room k (A.deeper (envOfC x (defScope st) s.heap.objs.size f cdv)) → sp vs H Q E →
      ∃ t, PSs (cxOf CX0 P w K mg base N x (defScope st) f cdv A outer s H E).nox (defBody st) t ∧ t { nx := fun _ H' => Q .non H', rt := Q } (start N vs) H) : Cal P w K mg base (k + 1) x sp :=
  ⟨f, fd, ps, F.fn.ok S len hbody, F.mgf, F.fn.kp, F.b⟩
end
section
variable {X : Cx} {k j : Nat} {x : Str} {sp : Sp} {p pos : Pos} {e : Expr} {es : List Expr} {t : TA}
theorem pe_c (c : Cal X.prog X.w X.K X.mg X.base k x sp) (hr : Room j X.A) (hk : k ≤ j) (hg : Gl X x) (ha : PA X (e :: es) t)
    (hdb : (x == ("__debug__" : Str)) = false := by decide) (he : starEach (e :: es) X.env = (false, eval e X.env) :: starEach es X.env := by rfl) (hpl : (backTo pos (starEach es X.env)).any (·.1) = false := by rfl) :
    PE X (.Call (.Name x p) (e :: es) [] pos) (tCall sp [] E0 t) := by
  obtain ⟨f, fd, ps, F, hm, kp, b⟩ := c
  exact pe_call F (hr.mono hk) hg hm kp b .nil pass0 ha hdb he hpl
end
/-! sorted of a list of data -/
section
variable {X : Cx}
def rSortedD (K : PySem.W.Frag) : List V → Hp → VK → Prop := fun xs H Q => ∃ (a : Addr) (vs : List V) (ds : List PyData), xs = [.ref a] ∧ SqL K H a vs ∧ DpAll K H vs ds ∧ PySem.W.AllAlike ds ∧ PySem.W.Sortable ds ∧ (∀ d ∈ ds, d.depth ≤ 8) ∧
  ∀ p, H p = none → Q (.ref p) (upd H p (.lst (((vs.zip ds).mergeSort (PySem.W.dataLe false Prod.snd)).map Prod.fst)))
theorem each_zip {h : Heap} : ∀ {vs : List V} {us : List Value} {ds : List PyData}, Vals vs us → vs.length = ds.length → PySem.W.EachIs (fun (v : Value) (b : V × PyData) => RelV b.1 v) us (vs.zip ds)
  | _, _, [], .nil, _ => .nil
  | _, _, d :: ds, .cons r t, e => .cons r (each_zip (h := h) t (by simpa using e))
theorem each_zip_reads {h : Heap} : ∀ {vs : List V} {us : List Value} {ds : List PyData} {as : List Addr}, vs.length = ds.length → ReadsAll h us ds as → PySem.W.EachIs (fun (v : Value) (b : V × PyData) => ∃ as, Reads h v b.2 as) us (vs.zip ds)
  | [], _, [], _, _, r => by cases r; exact .nil
  | v :: vs, _, d :: ds, _, e, r => by
    cases r with
    | cons h1 h2 => exact .cons ⟨_, h1⟩ (each_zip_reads (by simpa using e) h2)
theorem vals_of_each : ∀ {out : List Value} {bs : List (V × PyData)}, PySem.W.EachIs (fun (v : Value) (b : V × PyData) => RelV b.1 v) out bs → Vals (bs.map Prod.fst) out
  | _, _, .nil => .nil
  | _, _, .cons h t => .cons h (vals_of_each t)
theorem zip_snd {vs : List V} {ds : List PyData} (e : vs.length = ds.length) : (vs.zip ds).map Prod.snd = ds := by
  rw [List.map_snd_zip]
  omega
theorem DpAll_len {K : PySem.W.Frag} {H : Hp} : ∀ {vs : List V} {ds : List PyData}, DpAll K H vs ds → vs.length = ds.length
  | _, _, .nil => rfl
  | _, _, .cons _ h => congrArg (· + 1) (DpAll_len h)
theorem call_sortedD (hu : X.A.units + 65 < cLine) : CallR X (.builtin "sorted") (rSortedD X.K) := by
  intro pins s σ H xs us Q I r h
  obtain ⟨a, vs, ds, rfl, hl, hd, hal, hk, hdp, q⟩ := h
  obtain ⟨u, rfl, ru⟩ := vals1 r
  cases (show u = Value.ref a from ru)
  obtain ⟨its, rv, pl, hlen⟩ := I.list hl
  obtain ⟨as, rd⟩ := Dp.readsAll I ds vs its hd rv
  have el := DpAll_len hd
  have es := zip_snd el
  refine PySem.W.sorted_data (R := fun (v : Value) (b : V × PyData) => RelV b.1 v) (enc := Prod.snd) (bs := vs.zip ds) (vs := its) pl.isList (each_zip (h := s.heap) rv el) (each_zip_reads el rd) (by rw [es]; exact hal) (by rw [es]; exact hk) (by rw [List.length_zip]; omega) (fun b hb => ?_) fun out ho eo => ?_
  · have hb2 : b.2 ∈ ds := by
      rw [← es]
      exact List.mem_map.mpr ⟨b, hb, rfl⟩
    have := hdp _ hb2
    omega
  · obtain ⟨ep, he'⟩ := PyProof.Rows.sortedAll_at s.heap its (List.toArray out)
    refine ⟨.ref _, upd H (s.heap.objs.size + 1) (.lst (((vs.zip ds).mergeSort (PySem.W.dataLe false Prod.snd)).map Prod.fst)), I.laid (t' := s.toks) (fun _ _ => PyProof.Rows.sortedAll_old) (Nat.le_succ _) ⟨?_, out, ep, vals_of_each eo, he'⟩, rfl, q _ (I.hok.fresh (Nat.le_succ _))⟩
    rw [List.length_map, List.length_mergeSort, List.length_zip]
    omega
end
/-! sorted lists told by what they are made of -/
theorem DtAll.of_pairs {H : Hp} {α : Type} {f : α → PyData} : ∀ {zs : List (V × α)}, (∀ z ∈ zs, Dt H z.1 (f z.2)) → DtAll H (zs.map Prod.fst) ((zs.map Prod.snd).map f)
  | [], _ => .nil
  | z :: zs, h => .cons (h z List.mem_cons_self) (DtAll.of_pairs fun y hy => h y (List.mem_cons_of_mem _ hy))
theorem DtAll.pairs {H : Hp} {α : Type} {f : α → PyData} : ∀ {vs : List V} {l : List α}, DtAll H vs (l.map f) → ∀ z ∈ vs.zip l, Dt H z.1 (f z.2)
  | [], _, _, z, hz => by simp at hz
  | v :: vs, [], h, z, hz => by simp at hz
  | v :: vs, a :: l, h, z, hz => by
    have h' : DtAll H (v :: vs) (f a :: l.map f) := h
    cases h' with
    | cons h1 h2 =>
      rw [List.zip_cons_cons] at hz
      rcases List.mem_cons.mp hz with e | hz
      · rw [e]; exact h1
      · exact DtAll.pairs h2 z hz
theorem zip_map_r {α β γ : Type} (f : β → γ) : ∀ (vs : List α) (l : List β), vs.zip (l.map f) = (vs.zip l).map fun p => (p.1, f p.2)
  | [], _ => by simp
  | _ :: _, [] => by simp
  | v :: vs, a :: l => by simp [zip_map_r f vs l]
/-- the list of an encoded list, sorted, stands for the sorted list -/
theorem sorted_enc {H : Hp} {α : Type} {f : α → PyData} {vs : List V} {l : List α} (h : DtAll H vs (l.map f)) :
    DtAll H (((vs.zip (l.map f)).mergeSort (PySem.W.dataLe false Prod.snd)).map Prod.fst) ((l.mergeSort (PySem.W.dataLe false f)).map f) := by
  have el : vs.length = l.length := by rw [h.len, List.length_map]
  rw [zip_map_r]
  rw [← PySem.W.sort_maps (r := PySem.W.dataLe false fun p : V × α => f p.2) (s := PySem.W.dataLe false Prod.snd) (fun p : V × α => (p.1, f p.2)) (fun _ _ _ _ => rfl), List.map_map]
  have e2 : (l.mergeSort (PySem.W.dataLe false f)) = ((vs.zip l).mergeSort (PySem.W.dataLe false fun p : V × α => f p.2)).map Prod.snd := by
    rw [PySem.W.sort_maps (r := PySem.W.dataLe false fun p : V × α => f p.2) (s := PySem.W.dataLe false f) Prod.snd (fun _ _ _ _ => rfl), List.map_snd_zip (by omega)]
  rw [e2]
  exact DtAll.of_pairs fun z hz => DtAll.pairs h z (by rw [List.mem_mergeSort] at hz; exact hz)
/-- lists of whole numbers -/
def natV (l : List Nat) : List V := l.map fun n => .int (n : Nat)
theorem nat_dt (H : Hp) : ∀ l : List Nat, DtAll H (natV l) (l.map fun n => .int (n : Nat))
  | [] => .nil
  | n :: l => .cons (.int _) (nat_dt H l)
theorem dt_nat {H : Hp} : ∀ {l : List Nat} {vs : List V}, DtAll H vs (l.map fun n => PyData.int (n : Nat)) → vs = natV l
  | [], _, h => by cases h; rfl
  | n :: l, _, h => by
    have h' : DtAll H _ (PyData.int (n : Nat) :: l.map fun n => PyData.int (n : Nat)) := h
    cases h' with
    | cons h1 h2 =>
      rw [h1.intE, dt_nat h2]
      rfl
theorem natV_get {l : List Nat} {i : Nat} {v : V} (h : (natV l)[i]? = some v) : ∃ n, l[i]? = some n ∧ v = .int (n : Nat) := by
  unfold natV at h
  rw [List.getElem?_map] at h
  cases e : l[i]? with
  | none => rw [e] at h; cases h
  | some n => rw [e] at h; exact ⟨n, rfl, (Option.some.inj h).symm⟩
theorem natV_at {l : List Nat} {i n : Nat} (h : l[i]? = some n) : (natV l)[i]? = some (.int (n : Nat)) := by
  unfold natV
  rw [List.getElem?_map, h]
  rfl
theorem natV_app (l m : List Nat) : natV (l ++ m) = natV l ++ natV m := List.map_append
theorem natV_len (l : List Nat) : (natV l).length = l.length := List.length_map _
/-! rules with the written part named: for comprehensions' blocks, too -/
section
variable {X : Cx} (K : PySem.W.Frag)
theorem ixT (h : X.K = K) : IxR X (rIxT K) := h ▸ ix_tup
theorem ixL (h : X.K = K) : IxR X (rIxL K) := h ▸ ix_list
theorem ixQ (h : X.K = K) : IxR X (rIx K) := h ▸ ix_seq
theorem opInT (h : X.K = K) (hu : X.A.units + 65 < cLine) : OpR X (compareOp .In) (rInT K) := h ▸ op_inT hu
theorem opNotInT (h : X.K = K) (hu : X.A.units + 65 < cLine) : OpR X (compareOp .NotIn) (rNotInT K) := h ▸ op_notInT hu
theorem opInD (h : X.K = K) (hu : X.A.units + 65 < cLine) : OpR X (compareOp .In) (rInD K) := h ▸ op_inD hu
theorem opNotInD (h : X.K = K) (hu : X.A.units + 65 < cLine) : OpR X (compareOp .NotIn) (rNotInD K) := h ▸ op_notInD hu
theorem opEqD (h : X.K = K) (hu : X.A.units + 64 < cLine) : OpR X (compareOp .Eq) (rEqD K) := h ▸ op_eqD hu
theorem opNeD (h : X.K = K) (hu : X.A.units + 64 < cLine) : OpR X (compareOp .NotEq) (rNeD K) := h ▸ op_neD hu
theorem opCatT (h : X.K = K) : OpR X (binaryOp .Add) (rCatT K) := h ▸ op_catT
def rLen (K : PySem.W.Frag) : List V → Hp → VK → Prop := fun xs H Q => ∃ p ys, xs = [.ref p] ∧ (SqL K H p ys ∨ SqT K H p ys) ∧ Q (.int ys.length) H
theorem cLen (h : X.K = K) : CallR X (.builtin "len") (rLen K) := h ▸ call_len_seq
def rListOf (K : PySem.W.Frag) : List V → Hp → VK → Prop := fun xs H Q => ∃ p ys, xs = [.ref p] ∧ (SqL K H p ys ∨ SqT K H p ys) ∧ ∀ l, H l = none → Q (.ref l) (upd H l (.lst ys))
theorem cList (h : X.K = K) : CallR X (.type "list") (rListOf K) := h ▸ call_list_of
def rTupOf (K : PySem.W.Frag) : List V → Hp → VK → Prop := fun xs H Q => ∃ p ys, xs = [.ref p] ∧ ((SqL K H p ys ∧ ∀ l, H l = none → Q (.ref l) (upd H l (.tup ys))) ∨ (SqT K H p ys ∧ Q (.ref p) H))
theorem cTup (h : X.K = K) : CallR X (.type "tuple") (rTupOf K) := h ▸ call_tuple_of
theorem cSort (h : X.K = K) (hu : X.A.units + 65 < cLine) : CallR X (.builtin "sorted") (rSortedD K) := h ▸ call_sortedD hu
theorem cIsi (h : X.K = K) : CallR X (.builtin "isinstance") (rIsi K) := h ▸ call_isi
theorem slT (h : X.K = K) : SlR X (rSlT K) := h ▸ sl_tup
theorem slA (h : X.K = K) : SlR X (rSlA K) := h ▸ sl_tupA
end
/-! small lemmas -/
def Sq (K : PySem.W.Frag) (H : Hp) (a : Addr) (xs : List V) : Prop := SqL K H a xs ∨ SqT K H a xs
theorem ixq {K : PySem.W.Frag} {H : Hp} {a : Addr} {xs : List V} {i : Int} {v : V} {Q : VK} (h : Sq K H a xs) (e : atI xs i = some v) (q : Q v H) : rIx K (.ref a) (.int i) H Q :=
  h.elim (fun h => .inl ⟨a, xs, i, v, rfl, rfl, h, e, q⟩) fun h => .inr (.inl ⟨a, xs, i, v, rfl, rfl, h, e, q⟩)
theorem atN {xs : List V} {i : Nat} {v : V} (h : xs[i]? = some v) : atI xs (i : Int) = some v := atI_nat h
theorem same_upd {H : Hp} {p : Addr} {o : HO} (h : H p = none) : Same H (upd H p o) := fun b x e => by rw [upd_ne (ne_of_none e h)]; exact e
theorem same_tk {H H' : Hp} (h : Same H H') : Tk H H' := fun a xs e => h a _ e
theorem same_sqT {K : PySem.W.Frag} {H H' : Hp} {a : Addr} {xs : List V} (e : Same H H') (h : SqT K H a xs) : SqT K H' a xs := by
  rcases h with h | h
  · rcases h with h | ⟨o, h⟩
    · exact .inl (.inl (e _ _ h))
    · exact .inl (.inr ⟨o, e _ _ h⟩)
  · exact .inr h
theorem same_sq {K : PySem.W.Frag} {H H' : Hp} {a : Addr} {xs : List V} (e : Same H H') (h : Sq K H a xs) : Sq K H' a xs := h.elim (fun h => .inl (e.seq h)) fun h => .inr (same_sqT e h)
end Com
set_option Elab.async false
set_option linter.all false
set_option maxRecDepth 100000
set_option maxHeartbeats 4000000
namespace GenT
open PySem PySem.Spec PyProof.Rows L2 GxR
/-- the element as a test of what the name x holds; the globals and the built-ins may be read -/
def EltB (X : Cx) (scope : Scope) (x : Str) (elt : Expr) (ok : Value → Prop) (pb : Value → Bool) : Prop :=
  ∀ (cenv : Env) (A' : Around) (E' : Value → Shared → Prop) (u : Value) (s₂ : Shared) (m₂ : Str → Option Value), cenv.scope = scope → cenv.globals = mainGlobals → cenv.builtins = builtinsNs → A'.handled = none → L2.Mod X.K X.mg X.base →
    (∀ b o, X.base.get? b = some o → s₂.heap.get? b = some o) → ok u → s₂.heap.Ns cenv.locals m₂ → m₂ x = some u →
    wpAny (model X.prog X.w) A' (eval elt cenv) (fun y s₃ => y = .bool (pb u) ∧ Keeps s₂ s₃) E' s₂
/-- the test at place j -/
def trV (pb : Value → Bool) (l : List Value) (j : Nat) : Bool := match l[j]? with
  | some b => pb b
  | none => false
theorem trV_some {pb : Value → Bool} {l : List Value} {j : Nat} {b : Value} (h : l[j]? = some b) : trV pb l j = pb b := by
  unfold trV
  rw [h]
theorem any_trV (l : List Value) (pb : Value → Bool) : (List.range l.length).any (trV pb l) = l.any pb := by
  rw [Bool.eq_iff_iff, List.any_eq_true, List.any_eq_true]
  constructor
  · intro ⟨j, hj, h⟩
    have hj' := List.mem_range.mp hj
    rw [trV_some (List.getElem?_eq_getElem hj')] at h
    exact ⟨l[j], List.getElem_mem hj', h⟩
  · intro ⟨b, hb, h⟩
    obtain ⟨j, hj, e⟩ := List.getElem_of_mem hb
    refine ⟨j, List.mem_range.mpr hj, ?_⟩
    rw [trV_some (List.getElem?_eq_getElem hj), e]
    exact h
theorem all_trV (l : List Value) (pb : Value → Bool) : (List.range l.length).all (trV pb l) = l.all pb := by
  rw [Bool.eq_iff_iff, List.all_eq_true, List.all_eq_true]
  constructor
  · intro h b hb
    obtain ⟨j, hj, e⟩ := List.getElem_of_mem hb
    have q := h j (List.mem_range.mpr hj)
    rw [trV_some (List.getElem?_eq_getElem hj), e] at q
    exact q
  · intro h j hj
    have hj' := List.mem_range.mp hj
    rw [trV_some (List.getElem?_eq_getElem hj')]
    exact h _ (List.getElem_mem hj')
/-- the generator g over the items, ready to be walked -/
def ReadyV (X : Cx) (pins : List (Addr × Obj)) (σ : L2.St) (H1 : Hp) (P : Addr) (l : List Value) (pb : Value → Bool) (g : Addr) (s5 : Shared) : Prop :=
  ∃ (fp wr : List Addr) (G : Array GenState → Array GenState → Prop) (F : Nat → Value → Prop) (St : Nat → Shared → Prop),
    WalksS X.prog X.w X.A.in1 g fp wr G l.length F St ∧ St 0 s5 ∧
    TruthOf X.prog X.w X.A.in1 F (trV pb l) ∧
    ∀ s', Moved wr G s5 s' → ∃ H2, Tabbed P H1 H2 ∧ Inv X pins σ H2 s'
/-- how a source is walked: the iterator is one new object -/
def Src (X : Cx) (H1 : Hp) (s1 : Shared) (u : Value) (l : List Value) : Prop :=
  ∀ (Q : Value → Shared → Prop), (∀ (o : Obj) (fp : List Addr) (St : Nat → Heap → Prop), (∀ b ∈ fp, b = s1.heap.objs.size ∨ ∃ ob, s1.heap.get? b = some ob ∧ ob.data ≠ .fields #[] ∧ H1 b ≠ some (.tbl #[]) ∧ ∀ ps, H1 b ≠ some (.tbl ps)) →
      (∀ A' : Around, A'.handled = none → Walks X.prog X.w A' s1.heap.objs.size fp [s1.heap.objs.size] l.length (fun i v => ∃ v', l[i]? = some v' ∧ v = v') St) → St 0 (s1.heap.push o) →
      Q (.ref s1.heap.objs.size) { s1 with heap := s1.heap.push o }) → ∀ E, wpAny (model X.prog X.w) X.A (pyIter u) Q E s1
section
variable {X : Cx} {pins : List (Addr × Obj)} {σ : L2.St} {H : Hp} {s : Shared}
theorem gen_src {c P : Addr} {elt iter : Expr} {x : Str} {px gpos : Pos} {scope : Scope} {pb : Value → Bool} {ok : Value → Prop} {te : TE} {k : Nat} {Q' : Value → Shared → Prop} {B : V → Hp → Prop} {R : V → List Value → Hp → Prop}
    (hB : ∀ (v : V) (H1 : Hp), B v H1 → TabG H1 P ∧ ∀ (u : Value) (s1 : Shared), RelV v u → Inv X pins σ H1 s1 → ∃ l : List Value, (∀ z ∈ l, ok z) ∧ Src X H1 s1 u l ∧ R v l H1)
    (hr : Room k X.A) (TB : TabB X.base X.mg c P) (hcode : X.env.code = .ref c) (S : GenS X.env scope x) (hi : PE X iter te) (hel : EltB X scope x elt ok pb)
    (hs : ∀ v, genFold iter X.env v = pure v) (I : Inv X pins σ H s)
    (h : te σ H B)
    (hQ : ∀ v l H1 g s5, R v l H1 → ReadyV X pins σ H1 P l pb g s5 → Q' (.ref g) s5) :
    wpAny (model X.prog X.w) X.A (eval (.GeneratorExp elt [⟨.Name x px, iter, [], 0⟩] scope gpos) X.env) Q' X.xe s := by
  refine wpAny_GeneratorExp_walksQ hr.hd S.co (closure_ok S.free) S.cell S.dot S.loc S.kind (by have := hr.dp; omega) ?_ hs
  refine thn (hi.run pins s σ H _ I h) fun xv s1 ⟨v, H1, I1, r1, q1⟩ => ?_
  obtain ⟨⟨ps, hP, ht⟩, q1⟩ := hB v H1 q1
  obtain ⟨l, hok, hsrc, q1⟩ := q1 xv s1 r1 I1
  refine hsrc _ (fun o fp0 St hfp W hst => ?_) _
  have hPs : s1.heap.get? P = some { cls := .none, data := .fields ps } := I1.hok P _ hP
  have hPlt : P < s1.heap.objs.size := Heap.lt_size hPs
  have hP2 : (s1.heap.push o).get? P = some { cls := .none, data := .fields ps } := Heap.get?_push_of_some _ hPs
  have cd : PySem.W.CodeHd (s1.heap.push o) c P := TB.code.keeps fun b u e => Heap.get?_push_of_some _ (I1.bk b u e)
  have lim2 : (s1.heap.push o).NoLimit := I1.nolimit.push o
  have cont : ∀ (code : Value) (h3 : Heap) (tk : Nat) (ps' : Array Value), Heap.ExtBut P (s1.heap.push o) h3 → (s1.heap.push o).objs.size ≤ h3.objs.size → h3.get? P = some { cls := .none, data := .fields ps' } → (∃ more, ps' = ps ++ more) → TriplesOk ps'.toList →
      wpAny (model X.prog X.w) X.A (builtinsFor X.env.globals X.env.builtins) (fun bi s₄ =>
        ∃ Ia fp wr n₀ Pf St₀ pz F, Value.ref s1.heap.objs.size = .ref Ia ∧ (∀ A' : Around, A'.handled = none → Walks X.prog X.w A' Ia fp wr n₀ Pf St₀) ∧ St₀ 0 s₄.heap ∧ (∀ b ∈ fp, b < s₄.heap.objs.size) ∧ s₄.heap.NoLimit ∧ cStatics ∉ wr ∧
          (∀ href : Heap, (∀ b o, s₄.heap.get? b = some o → href.get? b = some o) →
            QuietGen X.prog X.w (genEnv scope (cloFrom X.env.cells scope.names []) s₄.heap.objs.size code bi X.env) x [] elt (List.range s₄.heap.objs.size) wr Pf pz F href) ∧
          (∀ a h₅ tk gs, gs.bare = true → s₄.heap.objs.size < a → h₅.objs.size = a + 1 → (∀ b o, s₄.heap.get? b = some o → h₅.get? b = some o) →
            WalksS X.prog X.w X.A.in4 a (a :: s₄.heap.objs.size :: List.range s₄.heap.objs.size) (s₄.heap.objs.size :: wr) (GenOnlyQ s₄.gens.size) (passing pz n₀ 0).length
              (fun j y => ∃ i, (passing pz n₀ 0)[j]? = some i ∧ F i y) (GenAt X.prog X.w X.A.in4 a s₄.gens.size s₄.heap.objs.size (List.range s₄.heap.objs.size) wr pz n₀ F) →
            GenAt X.prog X.w X.A.in4 a s₄.gens.size s₄.heap.objs.size (List.range s₄.heap.objs.size) wr pz n₀ F 0 { s₄ with gens := s₄.gens.push gs, toks := tk, heap := h₅ } →
            Q' (.ref a) { s₄ with gens := s₄.gens.push gs, toks := tk, heap := h₅ })) X.xe { s1 with heap := h3, toks := tk } := by
    intro code h3 tk ps' hx hsz hP3 hmore ht3
    obtain ⟨bm, ob, e1, e2, e3, e4, e5, e6, e7, e8⟩ := TB.bm
    have hcP : cStatics ≠ P := fun e => by
      obtain ⟨_, hns, _⟩ := I1.nolimit
      obtain ⟨o', es, ep, ho, hd, _⟩ := hns
      rw [e, hPs] at ho
      cases ho
      cases hd
    have hcl : cStatics < s1.heap.objs.size := let ⟨_, hns, _⟩ := I1.nolimit; hns.lt
    have sz2 : (s1.heap.push o).objs.size = s1.heap.objs.size + 1 := Heap.size_push ..
    have keep3 : ∀ b u, b ≠ P → s1.heap.get? b = some u → h3.get? b = some u := fun b u hb e => hx b u hb (Heap.get?_push_of_some _ e)
    refine wpAny_builtinsFor (m := X.mg) (by rw [I1.ok.glob]; exact ((I1.mod.glob.keeps I1.bk).push o).extBut hx TB.gP) e1 e2 (keep3 _ _ e4 (I1.bk _ _ e5)) e6 e7 e8 ?_
    have hfpP : ∀ b ∈ fp0, b ≠ P := fun b hb z => by
      rcases hfp b hb with e | ⟨ob', q1', q2', _, q4'⟩
      · exact Nat.ne_of_lt hPlt (z.symm.trans e)
      · exact q4' ps (z ▸ hP)
    refine ⟨s1.heap.objs.size, fp0, [s1.heap.objs.size], l.length, (fun i v => ∃ v', l[i]? = some v' ∧ v = v'), St, (fun _ => true), (fun i y => ∃ cc, l[i]? = some cc ∧ y = .bool (pb cc)), rfl, W, ?_, ?_, lim2.extBut hx hcP, ?_, ?_, ?_⟩
    · refine (W X.A hr.hd).frame _ _ _ hst fun b hb u e => hx b u (hfpP b hb) e
    · intro b hb
      show b < h3.objs.size
      have hlt3 : s1.heap.objs.size < h3.objs.size := by omega
      rcases hfp b hb with z | ⟨ob', q1', _⟩
      · rw [z]
        exact hlt3
      · exact Nat.lt_trans (Heap.lt_size q1') hlt3
    · intro z
      rcases List.mem_cons.mp z with z | z
      · exact Nat.ne_of_lt hcl z
      · cases z
    · intro href hhref
      refine ⟨fun A' E' i v s₂ m₂ hA hPv hn hm hk => ?_, fun A' E' i v s₂ m₂ hA hPv hp hn hm hk => ?_⟩
      · simp only [List.forIn_nil]
        exact wpAny_pure ⟨rfl, keeps_refl _⟩
      · obtain ⟨cc, hcc, rfl⟩ := hPv
        have hb2 : ∀ b o', X.base.get? b = some o' → s₂.heap.get? b = some o' := fun b o' e => by
          have e1' := I1.bk b o' e
          have hlt := Heap.lt_size e1'
          have hbP : b ≠ P := fun z => by
            have z2 := (I1.bs b o' e).2
            rw [z, hP] at z2
            cases z2
          have e3' : h3.get? b = some o' := keep3 b o' hbP e1'
          have hl3 : b < h3.objs.size := Heap.lt_size e3'
          refine hk b (List.mem_range.mpr hl3) (fun z => ?_) o' (hhref b o' e3')
          rcases List.mem_cons.mp z with z | z
          · rw [z] at hlt
            exact Nat.lt_irrefl _ hlt
          · cases z
        exact wpAny_mono (hel _ A' E' v s₂ m₂ rfl I1.ok.glob rfl hA I1.mod hb2 (hok v (List.mem_of_getElem? hcc)) hn hm) (fun y s3 r => ⟨⟨v, hcc, r.1⟩, r.2⟩) fun _ _ e => e
    · intro g h5 tk5 gs hgb hag hsz5 hk5 W5 hat
      simp only [GxR.passing_true, List.length_range] at W5
      refine hQ v l H1 g _ q1 ⟨_, _, _, _, _, W5.in4_1, hat, ?_, fun s' hm => ?_⟩
      · intro j y sj Qj Ej hy hQj
        obtain ⟨i, hij, cc, hcc, rfl⟩ := hy
        obtain ⟨hj, ej⟩ := List.getElem?_eq_some_iff.mp hij
        rw [List.getElem_range] at ej
        subst ej
        have hQ2 : Qj (trV pb l j) sj := hQj
        rw [trV_some hcc] at hQ2
        exact wpAny_truthy_bool hQ2
      · obtain ⟨more, em⟩ := hmore
        have nwr : ∀ b u, s1.heap.get? b = some u → b ∉ h3.objs.size :: [s1.heap.objs.size] := fun b u e hb => by
          have hl := Heap.lt_size e
          rcases List.mem_cons.mp hb with z | z
          · rw [z] at hl
            have h9 : (h3.objs.size : Nat) < s1.heap.objs.size := hl
            omega
          · rcases List.mem_cons.mp z with z | z
            · rw [z] at hl
              exact Nat.lt_irrefl _ hl
            · cases z
        have J := inv_tab (more := more) (h' := s'.heap) (g' := s'.gens) (d' := s'.drawn) (t' := s'.toks) I1 hP (fun b u hb e => hm.heap b u (nwr b u e) (hk5 b u (keep3 b u hb e)))
          (by rw [← em]; exact hm.heap P _ (nwr P _ hPs) (hk5 P _ hP3)) (AllBare.movedS (I1.bare.push hgb) hm)
        rw [sh_eta s1 s' hm.os] at J
        refine ⟨upd H1 P (.tbl (ps ++ more)), ⟨⟨ps ++ more, upd_same, by rw [← em]; exact ht3⟩, fun b hb => upd_ne hb⟩, J⟩
  refine ⟨lim2, ?_⟩
  cases hf : codeAmong gpos ps.toList with
  | none =>
    refine wpAny_genexprCodeX hcode (cd.code hP2 ht) (cd.tab hP2) hf fun c' h' tk hx hge hlt hco' _ htab' _ => ?_
    obtain ⟨o1, vs, f1, tf, fl, tg, inF, tx, tt, op, _, _, _, _, _, _, _, _, _, htr, _⟩ := hco'
    exact cont _ h' tk _ hx (Nat.le_trans hge (Nat.le_of_lt hlt)) htab'.2 ⟨_, rfl⟩ htr
  | some cv =>
    refine wpAny_genexprCode_hit hcode (cd.code hP2 ht) hf ?_
    exact cont cv (s1.heap.push o) s1.toks ps (Heap.ExtBut.refl _ _) (Nat.le_refl _) hP2 ⟨#[], by simp⟩ ht
/-- a tracked tuple as a source -/
theorem src_tup {H1 : Hp} {s1 : Shared} {a : Addr} {xs : List V} (I1 : Inv X pins σ H1 s1) (h : H1 a = some (.tup xs)) : ∃ l : List Value, Vals xs l ∧ Src X H1 s1 (.ref a) l := by
  obtain ⟨_, its, rv, o, e1, e2, n, e3⟩ := (show ObjOk X.prog X.w H1 s1.heap a (.tup xs) from I1.hok a _ h)
  refine ⟨its, rv, fun Q hQ E => ?_⟩
  have hlt : a < s1.heap.objs.size := Heap.lt_size e1
  have hT : s1.heap.IsTuple a its.toArray := ⟨o, e1, e2, n, e3⟩
  refine wpAny_pyIter_tuple hT (hQ _ [s1.heap.objs.size, a] (fun i h => h.IsTupleIter s1.heap.objs.size a i ∧ h.IsTuple a its.toArray) ?_ ?_ ?_)
  · intro b hb
    rcases List.mem_cons.mp hb with z | z
    · exact .inl z
    · rcases List.mem_cons.mp z with z | z
      · subst z
        refine .inr ⟨o, e1, fun q => ?_, fun q => ?_, fun ps q => ?_⟩
        · rw [e3] at q
          cases q
        · rw [h] at q
          cases q
        · rw [h] at q
          cases q
      · cases z
  · intro A' hA
    have W := Walks.tuple (prog := X.prog) (w := X.w) hA s1.heap.objs.size a (Nat.ne_of_lt hlt) its.toArray
    have e5 : its.toArray.size = its.length := by simp
    have e6 : (fun (i : Nat) (v : Value) => its.toArray[i]? = some v) = (fun i v => ∃ v', its[i]? = some v' ∧ v = v') := by
      funext i v
      apply propext
      constructor
      · intro q
        exact ⟨v, by simpa using q, rfl⟩
      · rintro ⟨v', q, rfl⟩
        simpa using q
    rw [e5, e6] at W
    exact W
  · exact ⟨⟨_, Heap.get?_push_size _ rfl, rfl, rfl⟩, _, Heap.get?_push_of_some _ e1, e2, n, e3⟩
/-- any(test for x in e), e a tuple; behind it the def's table may have grown. pv: the test on values -/
def tAnyT (P : Addr) (okv : V → Prop) (pv : V → Bool) (te : TE) : TE := fun σ H Q => te σ H fun v H1 => TabG H1 P ∧ ∃ (a : Addr) (xs : List V), v = .ref a ∧ H1 a = some (.tup xs) ∧ (∀ x ∈ xs, okv x) ∧ ∀ H2, Tabbed P H1 H2 → Q (.bl (xs.any pv)) H2
theorem any_vals {pv : V → Bool} {pb : Value → Bool} {okv : V → Prop} (hp : ∀ x u, okv x → RelV x u → pb u = pv x) : ∀ {xs : List V} {us : List Value}, Vals xs us → (∀ x ∈ xs, okv x) → us.any pb = xs.any pv
  | _, _, .nil, _ => rfl
  | _, _, .cons r t, h => by
    rw [List.any_cons, List.any_cons, any_vals hp t (fun x hx => h x (List.mem_cons_of_mem _ hx)), hp _ _ (h _ List.mem_cons_self) r]
theorem ok_vals {okv : V → Prop} {ok : Value → Prop} (hp : ∀ x u, okv x → RelV x u → ok u) : ∀ {xs : List V} {us : List Value}, Vals xs us → (∀ x ∈ xs, okv x) → ∀ z ∈ us, ok z
  | _, _, .nil, _, z, hz => by cases hz
  | _, _, .cons r t, h, z, hz => by
    rcases List.mem_cons.mp hz with e | hz
    · rw [e]
      exact hp _ _ (h _ List.mem_cons_self) r
    · exact ok_vals hp t (fun x hx => h x (List.mem_cons_of_mem _ hx)) z hz
theorem pe_anyT {c P : Addr} {elt iter : Expr} {x : Str} {px p pos gpos : Pos} {scope : Scope} {pb : Value → Bool} {ok : Value → Prop} {okv : V → Prop} {pv : V → Bool} {te : TE} {k : Nat}
    (hr : Room k X.A) (hg : Gl X "any") (hm : X.mg "any" = none) (TB : TabB X.base X.mg c P) (hcode : X.env.code = .ref c) (S : GenS X.env scope x) (hi : PE X iter te) (hel : EltB X scope x elt ok pb)
    (hp : ∀ x u, okv x → RelV x u → pb u = pv x) (hp2 : ∀ x u, okv x → RelV x u → ok u)
    (hs : ∀ v, genFold iter X.env v = pure v)
    (he : starEach [.GeneratorExp elt [⟨.Name x px, iter, [], 0⟩] scope gpos] X.env = (false, eval (.GeneratorExp elt [⟨.Name x px, iter, [], 0⟩] scope gpos) X.env) :: starEach [] X.env := by rfl) :
    PE X (.Call (.Name "any" p) [.GeneratorExp elt [⟨.Name x px, iter, [], 0⟩] scope gpos] [] pos) (tAnyT P okv pv te) := by
  refine ⟨fun pins s σ H Q I h => ?_⟩
  refine wpAny_Call_Name_kw (ld_blt I hg hm boot_any ?_)
  refine PyProof.Rows.callWith_builtin1 ?_ he (by rfl)
  rw [he]
  show wpAny _ _ (spliced ((false, eval (.GeneratorExp elt [⟨.Name x px, iter, [], 0⟩] scope gpos) X.env) :: backTo pos (starEach [] X.env))) _ _ s
  refine Calls.spliced_cons (gen_src (te := te) (R := fun v l H1 => ∀ H2, Tabbed P H1 H2 → Q (.bl (l.any pb)) H2) (hB := ?_) hr TB hcode S hi hel hs I h fun v l H1 g s5 hR hG => ?_)
  · rintro v H1 ⟨hT, a, xs, rfl, ha, hok, hq⟩
    refine ⟨hT, fun u s1 ru I1 => ?_⟩
    cases (show u = Value.ref a from ru)
    obtain ⟨l, rv, hsrc⟩ := src_tup I1 ha
    refine ⟨l, ok_vals hp2 rv hok, hsrc, fun H2 hTb => ?_⟩
    rw [any_vals hp rv hok]
    exact hq H2 hTb
  obtain ⟨fp, wr, G, F, St, W, hst, htr, hI⟩ := hG
  refine Calls.spliced_nil ?_
  refine call_any_walkS (W.self 0 _ _ _ hst ⟨g, fp, wr, G, _, F, St, _, rfl, W, hst, htr, fun s' hmv => ?_⟩)
  obtain ⟨H2, hT, J⟩ := hI s' hmv
  refine ⟨.bl _, H2, J, rfl, ?_⟩
  rw [any_trV l pb]
  exact hR H2 hT
end
/-- isinstance(x, bool) of an int, a text, a truth value, None -/
def isB : Value → Bool
  | .bool _ => true
  | _ => false
def Flat (u : Value) : Prop := (∃ n t, u = .int n t) ∨ (∃ y t, u = .str y t) ∨ ∃ b, u = .bool b
theorem elt_isb {X : Cx} {scope : Scope} {x : Str} {p1 p2 p3 p4 : Pos} (hk : scope.kind = .function) (hl : scope.names.lookup x = some .local) (hi : scope.names.lookup ("isinstance" : Str) = some .globalImplicit) (hb : scope.names.lookup ("bool" : Str) = some .globalImplicit)
    (mi : X.mg "isinstance" = none) (mb : X.mg "bool" = none) (vi : bootBuiltins "isinstance" = some (.builtin "isinstance")) (vb : bootBuiltins "bool" = some (.type "bool")) (hd : (x == ("__debug__" : Str)) = false := by decide) :
    EltB X scope x (.Call (.Name "isinstance" p1) [.Name x p2, .Name "bool" p3] [] p4) Flat isB := by
  intro cenv A' E' u s₂ m₂ hs hg hbn hA M hkp hok hn hm
  obtain ⟨mbn, h1, h2⟩ := M.blt
  have kB : ∀ {s : Shared}, s.heap = s₂.heap → X.K.In s.heap := fun e => by rw [e]; exact M.kin.keeps hkp
  refine wpAny_Call_Name_kw (Calls.Name_function_global (by rw [hs]; exact hk) (show cenv.scope.names.lookup ("isinstance" : Str) = some .globalImplicit by rw [hs]; exact hi)
    (Calls.loadGlobal_builtin (by rw [hg]; exact M.glob.keeps hkp) mi (by rw [hbn]; exact h1.keeps hkp) ((h2 _ (by decide)).trans vi) ?_))
  refine PyProof.Rows.callWith_builtin1 ?_ (by rfl) (by rfl)
  refine Calls.spliced_cons (wpAny_Name (wpAny_loadName_local (by rw [hs]; exact hk) (show cenv.scope.names.lookup x = some .local by rw [hs]; exact hl) hn hm ?_) hd)
  refine Calls.spliced_cons (Calls.Name_function_global (by rw [hs]; exact hk) (show cenv.scope.names.lookup ("bool" : Str) = some .globalImplicit by rw [hs]; exact hb)
    (Calls.loadGlobal_builtin (by rw [hg]; exact M.glob.keeps hkp) mb (by rw [hbn]; exact h1.keeps hkp) ((h2 _ (by decide)).trans vb) ?_))
  refine Calls.spliced_nil ?_
  rcases hok with ⟨n, t, rfl⟩ | ⟨y, t, rfl⟩ | ⟨b, rfl⟩
  · exact PySem.W.kia_one PySem.W.kitx_int (M.kin.keeps hkp) trivial (kit_ty (a := "int") (b := "bool") (r := false) (by decide +kernel)) (fun z => nomatch z) fun tk => ⟨rfl, keeps_tok _ _⟩
  · exact PySem.W.kia_one PySem.W.kitx_str (M.kin.keeps hkp) trivial (kit_ty (a := "str") (b := "bool") (r := false) (by decide +kernel)) (fun z => nomatch z) fun tk => ⟨rfl, keeps_tok _ _⟩
  · exact PySem.W.kia_one PySem.W.kitx_bool (M.kin.keeps hkp) trivial (kit_ty (a := "bool") (b := "bool") (r := true) (by decide +kernel)) (fun z => nomatch z) fun tk => ⟨rfl, keeps_tok _ _⟩
end GenT
set_option Elab.async false
set_option linter.all false
set_option maxRecDepth 100000
set_option maxHeartbeats 4000000
namespace EnumT
open PySem PySem.Spec PyProof.Rows L2
theorem meets_enumerate_newB1 {v : Value} {o : Obj} {H : Heap → Prop} (B : Begins v o H) (nb : ∀ s : Shared, H s.heap → ∃ a, v = .ref a) :
    Meets (Builtin.«enumerate.__new__» ⟨[.type "enumerate", v], []⟩) (fun _ R s => H s.heap ∧
      R (.ok (.ret (.ref (s.heap.push o).objs.size))) { s with heap := (s.heap.push o).push { cls := .type "enumerate", data := .fields #[.none, .bool false, .ref s.heap.objs.size, rawInt 0, .none, .none] } }) :=
  .of_wp fun prog w A R s h => by
    obtain ⟨hp, g, d, tk, os⟩ := s; obtain ⟨h1, h⟩ := h
    have hsub := sub_enumerate
    have q1 : ∀ {A' : Around} {E : Value → Shared → Prop} {Q : Value → Shared → Prop}, Q (.ref hp.objs.size) ⟨hp.push o, g, d, tk, os⟩ → wpAny (model prog w) A' (pyIter v) Q E ⟨hp, g, d, tk, os⟩ :=
      fun q => B.iter prog w _ _ ⟨hp, g, d, tk, os⟩ _ h1 q
    wp_walk using q1
    refine wpAny_stack_any fun st => wpAny_pure ?_
    split
    · rename_i c _ _ _ _ _
      cases (c == Value.type "enumerate")
      · wp_walk using q1
        exact ⟨_, rfl, h⟩
      · wp_walk using q1
        exact ⟨_, rfl, h⟩
    · wp_walk using q1
      exact ⟨_, rfl, h⟩
theorem call_enumerate_tuple {prog : Program} {w : World} {A : Around} {E : Value → Shared → Prop} {s : Shared} {l : Addr} {items : Array Value} {Q : Value → Shared → Prop} (hL : s.heap.IsTuple l items)
    (h : ∀ h', IsEnum h' (s.heap.objs.size + 1) s.heap.objs.size 0 .none → h'.IsTupleIter s.heap.objs.size l 0 → h'.objs.size = s.heap.objs.size + 2 →
      (∀ b o, s.heap.get? b = some o → h'.get? b = some o) → Q (.ref (s.heap.objs.size + 1)) { s with heap := h' }) :
    wpAny (model prog w) A (call (.type "enumerate") [.ref l]) Q E s := by
  refine callType_new F.called_enumerate (by decide) (F.typeCall_enumerate_1 _) (F.newCall_enumerate_1 _) (fun obj => F.args_object_init_2 obj _) F.entry_enumerate_new
    (meets_enumerate_newB1 (begins_tuple l items) (fun _ _ => ⟨l, rfl⟩)) ⟨hL, ?_⟩
  have hz : (s.heap.push { cls := .type "tuple_iterator", data := .fields #[.ref l, .int 0 0] }).objs.size = s.heap.objs.size + 1 := Heap.size_push ..
  show _ ∧ _
  rw [hz]
  have he : IsEnum ((s.heap.push { cls := .type "tuple_iterator", data := .fields #[.ref l, .int 0 0] }).push
      { cls := .type "enumerate", data := .fields #[.none, .bool false, .ref s.heap.objs.size, rawInt 0, .none, .none] }) (s.heap.objs.size + 1) s.heap.objs.size 0 .none := by
    have := Heap.get?_push_size (s.heap.push { cls := .type "tuple_iterator", data := .fields #[.ref l, .int 0 0] })
      (o := { cls := .type "enumerate", data := .fields #[.none, .bool false, .ref s.heap.objs.size, rawInt 0, .none, .none] }) rfl
    rw [hz] at this; exact this
  refine ⟨⟨_, he, rfl⟩, h _ he ⟨_, Heap.get?_push_of_some _ (Heap.get?_push_size _ rfl), rfl, rfl⟩ (by rw [Heap.size_push, hz]) fun b o x => Heap.get?_push_of_some _ (Heap.get?_push_of_some _ x)⟩
/-- the tuple at a, each item in a new pair -/
def Itet (K : PySem.W.Frag) (a : Addr) : It :=
  ⟨fun i H => ∃ (xs : List V) (x : V), SqT K H a xs ∧ xs[i]? = some x, fun i H v H' => ∃ T x, v = .ref T ∧ H T = none ∧ H' = upd H T (.tup [.int (i : Nat), x]) ∧ ∀ xs, SqT K H a xs → xs[i]? = some x, fun i H => ∃ xs : List V, SqT K H a xs ∧ xs.length = i⟩
theorem turn_enumT {P : Program} {w : World} {K : PySem.W.Frag} {elts : List Expr} {kk : Nat} {tpos : Pos} (a e it : Addr) (hae : a ≠ e) (hai : a ≠ it) :
    Turn P w K (.Tuple elts kk tpos) (Itet K a) [e, it] e (fun i h => (∃ old, IsEnum h e it ((i : Nat) : Int) old) ∧ h.IsTupleIter it a i ∧ e ≠ it) where
  mem := by simp
  obj := fun i h st b hb => by
    obtain ⟨⟨old, he⟩, ⟨o, ho, hc, hd⟩, _⟩ := st
    have e' : b = e ∨ b = it := by simpa using hb
    rcases e' with z | z
    · rw [z]; exact ⟨_, he, fun v q => nomatch q⟩
    · rw [z]; exact ⟨o, ho, fun v q => by rw [hd] at q; cases q⟩
  keep := fun i h h' st k => let ⟨⟨old, he⟩, hi, hne⟩ := st; ⟨⟨old, k e (by simp) _ he⟩, hi.at fun o q => k it (by simp) o q, hne⟩
  item := by
    intro X hP hw hK hc i pins s σ H E I hf st hg
    subst hP hw hK
    obtain ⟨⟨old, he⟩, hit, hne⟩ := st
    obtain ⟨xs, x, hq, hx⟩ := hg
    obtain ⟨its, rv, ⟨oT, hoT, hcT, nT, hdT⟩, hz⟩ := I.tuple hq
    obtain ⟨u, hu, ru⟩ := rv.get hx
    have hIT : s.heap.IsTuple a its.toArray := ⟨oT, hoT, hcT, nT, hdT⟩
    have hel : e < s.heap.objs.size := Heap.lt_size he
    have hil : it < s.heap.objs.size := by obtain ⟨_, q, _⟩ := hit; exact Heap.lt_size q
    have hii : i < its.toArray.size := by
      have := (List.getElem?_eq_some_iff.mp hu).1
      simpa using this
    have hef : e ∉ [it, a] := fun z => by
      rcases List.mem_cons.mp z with z | z
      · exact hne z
      · rcases List.mem_cons.mp z with z | z
        · exact hae z.symm
        · cases z
    refine wpAny_pyNext_enum_itemC (Draws.tuple (A := X.A.in1) (I.ok.hd hc) it a hai its.toArray) he ⟨hit, hIT⟩ hii hne hef fun x' h' tk hx' ho st' hT hsz hk => ?_
    have ex' : x' = u := by
      have q : its.toArray[i]? = some x' := hx'
      have q2 : its.toArray[i]? = some u := by simpa using hu
      exact Option.some.inj (q.symm.trans q2)
    subst ex'
    refine ⟨_, rfl, wpAny_letOwnedTupleGo_enum (s := { s with heap := h', toks := tk + 1 }) ho fun h'' he' sb => ?_⟩
    have hT2 : h''.get? s.heap.objs.size = some { cls := .type "tuple", data := .seq #[.int i tk, x'] } := (sb.2 _ (Nat.ne_of_gt hel)).trans hT
    have new : ObjOk X.prog X.w (upd H s.heap.objs.size (.tup [.int (i : Nat), x])) h'' s.heap.objs.size (.tup [.int (i : Nat), x]) :=
      ⟨by show 2 ≤ sizeLine; decide, [.int i tk, x'], .cons ⟨_, rfl⟩ (.cons ru .nil), ⟨_, hT2, rfl, _, rfl⟩⟩
    have I1 : Inv X pins σ (upd H s.heap.objs.size (.tup [.int (i : Nat), x])) { s with heap := h'', toks := tk + 1 } :=
      I.turnedNew (ch := [e, it]) (fun b ob hb q => (sb.2 b (fun z => hb (by simp [z]))).trans (hk b ob (fun z => hb (by simp [z])) (fun z => hb (by simp [z])) q)) hf (Nat.le_refl _) new
    refine ⟨.ref s.heap.objs.size, _, I1, rfl, ⟨_, x, rfl, I.hok.fresh (Nat.le_refl _), rfl, fun ys hy => by rw [I.tuple_inj hy hq]; exact hx⟩, ⟨⟨x', ?_⟩, st'.1.at fun o q => (sb.2 it (Ne.symm hne)).trans q, hne⟩, fun b hb => ?_⟩
    · have e1 : ((i + 1 : Nat) : Int) = (i : Int) + 1 := by omega
      rw [e1]; exact he'
    · have hb' : b < s.heap.objs.size := by
        have e' : b = e ∨ b = it := by simpa using hb
        rcases e' with z | z
        · rw [z]; exact hel
        · rw [z]; exact hil
      rw [upd_ne (Nat.ne_of_lt hb')]
      exact (hf b hb).1
  done := by
    intro X hP hw hK hc i pins s σ H E I hf st hg
    subst hP hw hK
    obtain ⟨⟨old, he⟩, hit, hne⟩ := st
    obtain ⟨xs, hq, hx⟩ := hg
    obtain ⟨its, rv, ⟨oT, hoT, hcT, nT, hdT⟩, hz⟩ := I.tuple hq
    have hIT : s.heap.IsTuple a its.toArray := ⟨oT, hoT, hcT, nT, hdT⟩
    obtain ⟨f0, f1, f2, f3, f4, f5⟩ := hf it (by simp)
    have hl := rv.length
    have hsz : i = its.toArray.size := by
      rw [List.size_toArray]
      omega
    subst hsz
    exact wpAny_pyNext_enum_endD (Draws.tuple (A := X.A.in1) (I.ok.hd hc) it a hai its.toArray) he ⟨hit, hIT⟩ fun h' eb => ⟨rfl, I.turned (t' := s.toks) (fun b o hb q => eb b o hb q) f0 f1 f3 f4 f5⟩
  self := fun A i s Q E st hQ => by
    obtain ⟨⟨old, he⟩, _⟩ := st
    exact wpAny_pyIter_enum he hQ
/-- enumerate of a list or of a tuple -/
def iEnumQ (K : PySem.W.Frag) (ta : TA) : TI := fun σ H R => ta σ H fun vs H1 => ∃ a xs, vs = [.ref a] ∧ ((SqL K H1 a xs ∧ R (Ite K a) H1) ∨ (SqT K H1 a xs ∧ R (Itet K a) H1))
theorem pi_enumQ {X : Cx} {e : Expr} {ta : TA} {p pos tpos : Pos} {elts : List Expr} {kk : Nat} (hg : Gl X "enumerate") (hm : X.mg "enumerate" = none) (ha : PA X [e] ta) (hs : starEach [e] X.env = [(false, eval e X.env)] := by rfl) :
    PI X (.Tuple elts kk tpos) (.Call (.Name "enumerate" p) [e] [] pos) (iEnumQ X.K ta) := by
  refine ⟨fun pins s σ H R I h => ?_⟩
  refine Call_ (ld_blt I hg hm boot_enumerate (PyProof.Rows.callWith_type1 (thn (ha.run pos pins s σ H _ I h) fun us s1 ⟨vs, H1, I1, r1, q1⟩ => ?_) hs rfl))
  obtain ⟨a, xs, ex, hq⟩ := q1
  subst ex
  cases r1 with
  | cons r rr =>
    cases rr
    cases r
    have fin : ∀ b, b = s1.heap.objs.size + 1 ∨ b = s1.heap.objs.size → FpOk X pins H1 b := fun b e' => by
      have hle : s1.heap.objs.size ≤ b := by
        rcases e' with z | z
        · rw [z]; exact Nat.le_add_right _ _
        · rw [z]; exact Nat.le_refl _
      exact I1.fpOk hle (I1.hok.fresh hle)
    rcases hq with ⟨hq, q⟩ | ⟨hq, q⟩
    · obtain ⟨its, rv, p', hz⟩ := I1.list hq
      refine call_enumerate_list p'.isList fun h' he hit hsz hk => wpAny_pyIter_enum he ?_
      have I2 : Inv X pins σ H1 { s1 with heap := h' } := I1.kept (t' := s1.toks) hk
      refine ⟨s1.heap.objs.size + 1, [s1.heap.objs.size + 1, s1.heap.objs.size], _, _, H1, rfl, I2, turn_enum a (s1.heap.objs.size + 1) s1.heap.objs.size, ⟨⟨.none, he⟩, hit, Nat.succ_ne_self _⟩, fun b hb => fin b (by simpa using hb), q⟩
    · obtain ⟨its, rv, ⟨oT, hoT, hcT, nT, hdT⟩, hz⟩ := I1.tuple hq
      have hal : a < s1.heap.objs.size := Heap.lt_size hoT
      refine call_enumerate_tuple ⟨oT, hoT, hcT, nT, hdT⟩ fun h' he hit hsz hk => wpAny_pyIter_enum he ?_
      have I2 : Inv X pins σ H1 { s1 with heap := h' } := I1.kept (t' := s1.toks) hk
      refine ⟨s1.heap.objs.size + 1, [s1.heap.objs.size + 1, s1.heap.objs.size], _, _, H1, rfl, I2, turn_enumT a (s1.heap.objs.size + 1) s1.heap.objs.size (Nat.ne_of_lt (Nat.lt_succ_of_lt hal)) (Nat.ne_of_lt hal), ⟨⟨.none, he⟩, hit, Nat.succ_ne_self _⟩, fun b hb => fin b (by simpa using hb), q⟩
/-- a loop over it; the list or tuple stands while the loop runs -/
theorem for_enumQ {K : PySem.W.Frag} {a : Addr} {xs : List V} {g : TG} {tb : TS} {D : Ends} {σ : L2.St} {H : Hp} {H0 : Hp} (hS : SqL K H0 a xs ∨ SqT K H0 a xs) (s0 : ∀ b o, H0 b = some o → H b = some o) (Pv : Nat → L2.St → Hp → Prop) (h0 : Pv 0 σ H)
    (hl : ∀ i σ' H', Pv i σ' H' → ∀ b o, H0 b = some o → H' b = some o)
    (hs : ∀ i x σ' H' T, xs[i]? = some x → Pv i σ' H' → H' T = none → g (.ref T) σ' (upd H' T (.tup [.int (i : Nat), x])) fun σ2 H2 => tb { D with nx := Pv (i + 1), ct := Pv (i + 1), bk := D.nx } σ2 H2) (hd : ∀ σ' H', Pv xs.length σ' H' → D.nx σ' H') :
    (SqL K H a xs ∧ ∃ W : Nat → Nat → L2.St → Hp → Prop, (∃ m, W 0 m σ H) ∧ ∀ i m σ H, W i m σ H →
      ((Ite K a).stop i H ∧ D.nx σ H) ∨ ((Ite K a).go i H ∧ ∃ N : L2.St → Hp → Prop, (∀ σ' H', N σ' H' → ∃ m', m' < m ∧ W (i + 1) m' σ' H') ∧ ∀ x H', (Ite K a).yld i H x H' → g x σ H' fun σ2 H2 => tb { D with nx := N, ct := N, bk := D.nx } σ2 H2)) ∨
    (SqT K H a xs ∧ ∃ W : Nat → Nat → L2.St → Hp → Prop, (∃ m, W 0 m σ H) ∧ ∀ i m σ H, W i m σ H →
      ((Itet K a).stop i H ∧ D.nx σ H) ∨ ((Itet K a).go i H ∧ ∃ N : L2.St → Hp → Prop, (∀ σ' H', N σ' H' → ∃ m', m' < m ∧ W (i + 1) m' σ' H') ∧ ∀ x H', (Itet K a).yld i H x H' → g x σ H' fun σ2 H2 => tb { D with nx := N, ct := N, bk := D.nx } σ2 H2)) := by
  have cl : ∀ {H' : Hp}, (∀ b o, H0 b = some o → H' b = some o) → SqL K H0 a xs → SqL K H' a xs := fun k L => by
    rcases L with (L | ⟨o, L⟩) | L
    · exact .inl (.inl (k _ _ L))
    · exact .inl (.inr ⟨o, k _ _ L⟩)
    · exact .inr L
  have ct : ∀ {H' : Hp}, (∀ b o, H0 b = some o → H' b = some o) → SqT K H0 a xs → SqT K H' a xs := fun k L => by
    rcases L with (L | ⟨o, L⟩) | L
    · exact .inl (.inl (k _ _ L))
    · exact .inl (.inr ⟨o, k _ _ L⟩)
    · exact .inr L
  rcases hS with L | T
  · refine .inl ⟨cl s0 L, fun i m σ' H' => m = xs.length - i ∧ i ≤ xs.length ∧ Pv i σ' H', ⟨xs.length, by simp, Nat.zero_le _, h0⟩, ?_⟩
    rintro i m σ' H' ⟨rfl, hi, p⟩
    have q := cl (hl i σ' H' p) L
    by_cases hlt : i < xs.length
    · refine .inr ⟨⟨xs, xs[i], q, by simp [hlt]⟩, Pv (i + 1), fun σ2 H2 p' => ⟨xs.length - (i + 1), by omega, rfl, hlt, p'⟩, fun x H2 y => ?_⟩
      obtain ⟨T, x0, rfl, nT, rfl, y⟩ := y
      exact hs i x0 σ' H' T (y xs q) p nT
    · have e : i = xs.length := by omega
      subst e
      exact .inl ⟨⟨xs, q, Nat.le_refl _⟩, hd σ' H' p⟩
  · refine .inr ⟨ct s0 T, fun i m σ' H' => m = xs.length - i ∧ i ≤ xs.length ∧ Pv i σ' H', ⟨xs.length, by simp, Nat.zero_le _, h0⟩, ?_⟩
    rintro i m σ' H' ⟨rfl, hi, p⟩
    have q := ct (hl i σ' H' p) T
    by_cases hlt : i < xs.length
    · refine .inr ⟨⟨xs, xs[i], q, by simp [hlt]⟩, Pv (i + 1), fun σ2 H2 p' => ⟨xs.length - (i + 1), by omega, rfl, hlt, p'⟩, fun x H2 y => ?_⟩
      obtain ⟨T, x0, rfl, nT, rfl, y⟩ := y
      exact hs i x0 σ' H' T (y xs q) p nT
    · have e : i = xs.length := by omega
      subst e
      exact .inl ⟨⟨xs, q, rfl⟩, hd σ' H' p⟩
end EnumT
set_option Elab.async false
set_option linter.all false
set_option maxRecDepth 100000
set_option maxHeartbeats 4000000
namespace RuleX
open PySem PySem.Spec PyProof.Rows L2 Com HT
/-! a tuple from its end -/
section
variable {prog : Program} {w : World} {A : Around} {E : Value → Shared → Prop} {s : Shared}
theorem adjust_rev (n : Nat) : Builtin.Slice.sliceAdjust none none (-1) (n : Int) = ((n : Int) - 1, -1) := by
  unfold Builtin.Slice.sliceAdjust
  rfl
theorem places_rev (n : Nat) : Builtin.Slice.slicePlaces ((n : Int) - 1) (-1) (-1) = n := by
  unfold Builtin.Slice.slicePlaces
  have h1 : ¬ ((-1 : Int) > 0) := by omega
  have h2 : (- -1 : Int) = 1 := by omega
  simp only [h1, if_false, h2, Int.ediv_one]
  split <;> omega
theorem applied_rev {sl : Addr} {t : Tok} {n : Nat} {Q : Int × Int × Nat → Shared → Prop} (hs : s.heap.IsSliceOf sl .none .none (.int (-1) t))
    (h : Q ((n : Int) - 1, -1, n) s) : wpAny (model prog w) A (Builtin.Slice.sliceApplied (.ref sl) (pure (n : Int))) Q E s := by
  obtain ⟨os, hos, hcs, hds⟩ := id hs
  unfold Builtin.Slice.sliceApplied Builtin.Slice.sliceFields
  refine wpAny_bind (wpAny_bind (wpAny_field hos hds (x := .none) rfl (wpAny_bind (wpAny_field hos hds (x := .none) rfl (wpAny_bind (wpAny_field hos hds (x := .int (-1) t) rfl (wpAny_pure ?_)))))))
  refine wpAny_bind (slicePart_int ?_)
  show wpAny _ _ (if ((-1 : Int) == 0) = true then _ else _) _ _ s
  rw [if_neg (by decide)]
  refine wpAny_bind (slicePart_none (wpAny_bind (slicePart_none (wpAny_bind (wpAny_pure ?_)))))
  show wpAny _ _ (match Builtin.Slice.sliceAdjust none none (-1) (n : Int) with | (lo, hi) => pure (lo, (-1 : Int), Builtin.Slice.slicePlaces lo hi (-1))) _ _ s
  rw [adjust_rev n]
  show wpAny _ _ (pure ((n : Int) - 1, (-1 : Int), Builtin.Slice.slicePlaces ((n : Int) - 1) (-1) (-1))) _ _ s
  rw [places_rev]
  exact wpAny_pure h
theorem pick_rev (xs : Array Value) : ((List.range xs.size).filterMap fun (m : Nat) => xs[(((xs.size : Int) - 1) + (m : Int) * -1).toNat]?).toArray = xs.toList.reverse.toArray := by
  congr 1
  have e : ∀ m ∈ List.range xs.size, xs[(((xs.size : Int) - 1) + (m : Int) * -1).toNat]? = xs[xs.size - 1 - m]? := fun m hm => by
    have h := List.mem_range.mp hm
    have : (((xs.size : Int) - 1) + (m : Int) * -1).toNat = xs.size - 1 - m := by omega
    rw [this]
  have fc : ∀ (l : List Nat) (f g : Nat → Option Value), (∀ m ∈ l, f m = g m) → l.filterMap f = l.filterMap g := fun l f g h => by
    induction l with
    | nil => rfl
    | cons a r ih => rw [List.filterMap_cons, List.filterMap_cons, h a List.mem_cons_self, ih fun m hm => h m (List.mem_cons_of_mem _ hm)]
  rw [fc _ _ _ e]
  have e2 : (List.range xs.size).filterMap (fun m => xs[xs.size - 1 - m]?) = ((List.range xs.size).map (fun k => xs.size - 1 - k)).filterMap (xs[·]?) := by rw [List.filterMap_map]; rfl
  rw [e2, PySem.W.krv_range, List.filterMap_reverse, PySem.W.krv_all]
theorem getItem_tuple_rev {t sl : Addr} {tk : Tok} {items : Array Value} {Q : Value → Shared → Prop} (ht : IsTup s.heap t items) (hs : s.heap.IsSliceOf sl .none .none (.int (-1) tk))
    (h : Q (.ref s.heap.objs.size) { s with heap := s.heap.push { cls := .type "tuple", data := .seq items.toList.reverse.toArray } })
    (hsz : items.size ≤ sizeLine) : wpAny (model prog w) A (getItem (.ref t) (.ref sl)) Q E s := by
  have htake : sizeOk (.seq items.toList.reverse.toArray) := by
    show items.toList.reverse.toArray.size ≤ sizeLine
    rw [List.size_toArray, List.length_reverse, Array.length_toList]
    exact hsz
  obtain ⟨os, hos, hcs, hds⟩ := id hs
  have hTs : s.TypeIs (.ref sl) "slice" := ⟨os, hos, hcs⟩
  unfold getItem
  try with_reducible refine wpAny_holding ?_
  first | refine wpAny_bind (wpAny_pure ?_) | skip
  refine wpAny_bind (wpAny_sequenceKey ht.typeIs (by decide) ?_)
  refine wpAny_bind (wpAny_callSpecial?_slot (name := Str.ofString "__getitem__") ht.typeIs PyProof.Rows.slot_tuple_getitem
    (wpAny_call_entry PyProof.Rows.slot_tuple_getitem ht.typeIs entry_tuple_getitem ?_ (args_tuple_getitem _ _)))
  show wpAny _ _ (Builtin.Tuple.tupleItemsOf (.ref t) >>= _) _ _ s
  refine wpAny_bind (tupleItemsOf_ ht ?_)
  refine wpAny_bind (wpAny_typeOf hTs ?_)
  rw [if_pos (by decide)]
  refine wpAny_bind (applied_rev hs ?_)
  have hno : ¬ ((((items.size : Int) - 1) == 0 && (-1 : Int) == 1 && items.size == items.size) = true) := by
    intro q
    rw [Bool.and_eq_true, Bool.and_eq_true] at q
    exact absurd q.1.2 (by decide)
  show wpAny _ _ (if (((items.size : Int) - 1) == 0 && (-1 : Int) == 1 && items.size == items.size) = true then _ else _) _ _ s
  rw [if_neg hno, pick_rev]
  first
    | exact wpAny_bind (m := Builtin.Tuple.tupleExact _) (wpAny_newObj_type (wpAny_pure ⟨_, rfl, wpAny_pure h⟩) htake)
    | exact wpAny_bind (m := Builtin.Tuple.tupleExact _) (wpAny_newObj_type (wpAny_bind (wpAny_pure (wpAny_pure ⟨_, rfl, wpAny_pure h⟩))) htake)
    | exact wpAny_bind (wpAny_bind (m := Builtin.Tuple.tupleExact _) (wpAny_newObj_type (wpAny_pure (wpAny_pure ⟨_, rfl, wpAny_pure h⟩)) htake))
    | exact wpAny_bind (wpAny_bind (m := Builtin.Tuple.tupleExact _) (wpAny_newObj_type (wpAny_pure ⟨_, rfl, wpAny_pure h⟩) htake))
end
section
variable {X : Cx} {K : PySem.W.Frag}
def tRevT (K : PySem.W.Frag) (te : TE) : TE := fun σ H Q => te σ H fun x H1 => ∃ a xs, x = .ref a ∧ SqT K H1 a xs ∧ ∀ p, H1 p = none → Q (.ref p) (upd H1 p (.tup xs.reverse))
theorem pe_revT {e : Expr} {te : TE} {k : Nat} {p1 p2 p3 pos : Pos} (hK : X.K = K) (he : PE X e te) : PE X (.Subscript e (.Slice none none (some (.UnaryOp .USub (.Constant (.int 1) k p1) p2)) p3) pos) (tRevT K te) := by
  subst hK
  refine ⟨fun pins s σ H Q I h => ?_⟩
  refine Subscript_ (thn (he.run pins s σ H _ I h) fun v s1 ⟨x, H1, I1, r1, q1⟩ => ?_)
  obtain ⟨a, xs, ex, hx, q⟩ := q1
  subst ex
  cases r1
  have hst : PO X (some (.UnaryOp .USub (.Constant (.int 1) k p1) p2)) (tPart (tUn (rU fun i => .int (-i)) (tC (.int 1)))) := po_some (pe_un un_neg pe_int)
  refine wpAny_Slice (thn (po_none.run pins s1 σ H1 (fun o H2 => o = none ∧ H2 = H1) I1 ⟨rfl, rfl⟩) fun vl s2 ⟨l, H2, I2, pl, el, e2⟩ => ?_)
  subst el e2
  refine thn (po_none.run pins s2 σ H2 (fun o H3 => o = none ∧ H3 = H2) I2 ⟨rfl, rfl⟩) fun vu s3 ⟨u, H3, I3, pu, eu, e3⟩ => ?_
  subst eu e3
  refine thn (hst.run pins s3 σ H3 (fun o H4 => o = some (-1) ∧ H4 = H3) I3 ⟨1, rfl, -1, rfl, rfl, rfl⟩) fun vs s4 ⟨o, H4, I4, ps, eo, e4⟩ => ?_
  subst eo e4
  have I5 : Inv X pins σ H4 { s4 with heap := s4.heap.push { cls := .type "slice", data := .fields #[vl, vu, vs] } } := I4.kept (t' := s4.toks) fun b ob q => Heap.get?_push_of_some _ q
  obtain ⟨its, r, ht, hz⟩ := I5.tuple hx
  cases pl
  cases pu
  cases ps with
  | int i tk =>
    show wpAny (model X.prog X.w) X.A (subscriptTail e (.Slice none none (some (.UnaryOp .USub (.Constant (.int 1) k p1) p2)) p3) (.ref a) (.ref s4.heap.objs.size)) (EP X pins σ Q) X.xe _
    refine tail_any (ops := [.ref a, .ref s4.heap.objs.size]) ht.typeIs (PyProof.Rows.slot_tuple_getitem.lookup) ?_ (by with_unfolding_all rfl)
    refine getItem_tuple_rev ht (Heap.IsSliceOf.new _ _ _ _) ?_ (by rw [List.size_toArray, ← r.length]; exact hz)
    refine ⟨.ref _, _, I5.laid (t' := s4.toks) (o := .tup xs.reverse) (fun b ob q => Heap.get?_push_of_some _ q) (Nat.le_refl _) ?_, rfl, q _ (I5.hok.fresh (Nat.le_refl _))⟩
    exact ⟨by rw [List.length_reverse]; exact hz, _, r.reverse, IsTup.new _ _⟩
/-! xs.extend(t) -/
theorem extT_meets (l : Addr) (items : Array Value) (n : Nat) (b : Addr) (items2 : Array Value) (n2 : Nat) (dd : Option Addr) (sl : Array (Option Value)) (hs0 : ¬(!items.isEmpty && Builtin.List.listTooLong (items.size + items2.size)) = true) (hs1 : items.size ≤ sizeLine) (hs2 : items.size + items2.size ≤ sizeLine + 1) :
    Meets (Builtin.«list.extend» ⟨[.ref l, .ref b], []⟩) (fun _ R s => s.heap.get? l = some { cls := .type "list", dict := none, data := .seq items n, slots := #[] } ∧ s.heap.get? b = some { cls := .type "tuple", dict := dd, data := .seq items2 n2, slots := sl } ∧ R (.ok (.ret Value.none)) { s with heap := s.heap.update l (Obj.mapSeq fun x => x ++ items2), toks := s.toks }) :=
  .of_wp fun prog w A R s h => by
    obtain ⟨hp, g, d, tk, os⟩ := s; obtain ⟨hl, hb, h⟩ := h; have f1 := AutoSeq1.idx_int; have f2 := AutoSeq1.sub_tuple_tuple; have f3 := AutoSeq1.sub_list_list; have f4 := AutoSeq1.sub_tuple_list; have f5 := AutoSeq1.sub_list_tuple
    have hz' : (items ++ items2).size ≤ sizeLine + 1 := by rw [Array.size_append]; exact hs2
    wp_walk using (wpAny_updateSeq hl rfl (hz := hs1) (_hz' := hz')), wpAny_loadPart' hl, wpAny_loadPart' hb; exact ⟨_, rfl, h⟩
def rExtT (K : PySem.W.Frag) : V → List V → Hp → VK → Prop := fun x vs H Q => ∃ l b xs zs, x = .ref l ∧ vs = [.ref b] ∧ H l = some (.lst xs) ∧ H b = some (.tup zs) ∧ xs.length + zs.length ≤ sizeLine ∧ Q .non (upd H l (.lst (xs ++ zs)))
theorem mt_extT : MtM X "list.extend" (rExtT K) := by
  intro pins s σ H x vs v us Q I rx rv h
  obtain ⟨l, b, xs, zs, rfl, rfl, hH, hB, hz, q⟩ := h
  cases rx
  obtain ⟨u, rfl, ru⟩ := rv.one
  cases ru
  obtain ⟨z, its, n, r, hl, e⟩ := I.lstM hH
  obtain ⟨z2, its2, r2, hb⟩ := (show ObjOk X.prog X.w H s.heap b (.tup zs) from I.hok b _ hB)
  have hl2 := r2.length
  obtain ⟨⟨cls2, dd2, data2, sl2⟩, ho2, hc2, n2, hd2⟩ := id hb
  simp only at hc2 hd2
  subst hc2 hd2
  have hsz : its.toArray.size + its2.toArray.size ≤ sizeLine := by rw [List.size_toArray, List.size_toArray]; omega
  have hlong : ¬ (!its.toArray.isEmpty && Builtin.List.listTooLong (its.toArray.size + its2.toArray.size)) = true := by
    rw [notLongL hsz, Bool.and_false]
    exact Bool.false_ne_true
  refine call_meets F.slot_list_extend ⟨_, e, rfl⟩ F.entry_list_extend (F.args_list_extend_2 _ _)
    (extT_meets l its.toArray n b its2.toArray n2 dd2 sl2 hlong (by rw [List.size_toArray]; omega) (by omega)) ⟨e, ho2, ?_⟩
  refine ⟨.non, _, I.lset (its' := its ++ its2) hH e (by simp) (r.append r2) ?_, rfl, q⟩
  rw [List.length_append]
  omega
/-! a < b of data -/
def rLtD (K : PySem.W.Frag) : R2 := fun x y H Q => ∃ d e, Dp K H x d ∧ Dp K H y e ∧ PySem.W.alike d e = true ∧ d ≠ .none ∧ d.depth ≤ 8 ∧ Q (.bl (PySem.W.dataLt d e)) H
theorem op_ltD (hK : X.K = K) (hu : X.A.units + 64 < cLine) : OpR X (compareOp .Lt) (rLtD K) := by
  subst hK
  intro pins s σ H x y v u Q I rx ry h
  obtain ⟨d, e, hd, he, ha, hn, hdp, q⟩ := h
  obtain ⟨as, r1⟩ := Dp.reads I d x v hd rx
  obtain ⟨bs, r2⟩ := Dp.reads I e y u he ry
  exact PySem.W.lt_data r1 r2 ha hn (by omega) ⟨.bl _, H, I, rfl, q⟩
end
end RuleX
set_option Elab.async false
set_option linter.all false
set_option maxRecDepth 100000
set_option maxHeartbeats 4000000
/-! lambdas of parameters that capture names, handed to a def that calls them at any depth: the lambda's object and its cells are put into the base of what runs meanwhile -/
namespace LamY
open PySem PySem.Spec PyProof.Rows L2 LamX NdefX Com
abbrev nfOf (q : Str) (params : Arguments) (scope : Scope) (cl : List (Str × Addr)) (c' : Addr) : NF := ⟨"<lambda>", q, params, [], scope, cl, c'⟩
structure LamAt (base : Heap) (f c' : Addr) (q : Str) (params : Arguments) (body : Expr) (scope : Scope) (cl : List (Str × Addr)) (fr : List Str) (ws : List (Option V)) : Prop where
  ob : ∃ pm ctv : Value, base.get? f = some (PySem.W.kla_obj "<lambda>" q params body scope cl pm c' ctv)
  cells : CellsAt cl fr ws base (fun _ => none)
theorem funFrames_re {base base' h : Heap} : ∀ {l : List Env}, h.FunFrames base l → (∀ b ∈ frs l, base'.get? b = none) → h.FunFrames base' l
  | [], _, _ => trivial
  | env :: r, ⟨hk, ⟨L, o, hf, hn, ho, hd⟩, hr⟩, hne => ⟨hk, ⟨L, o, hf, hne L (by unfold frs; rw [List.filterMap_cons, hf]; exact List.mem_cons_self), ho, hd⟩, funFrames_re hr fun b hb => hne b (by
      unfold frs
      rw [List.filterMap_cons, hf]
      exact List.mem_cons_of_mem _ hb)⟩
section
variable {X : Cx} {f c' : Addr} {i k : Nat} {qn a x : Str} {params : Arguments} {body : Expr} {scope : Scope} {cl : List (Str × Addr)} {fr N : List Str} {ws : List (Option V)} {tb : TE} {t : TA} {e : Expr} {es : List Expr} {p1 p2 : Pos}
def tLamC (i : Nat) (f c' : Addr) (q : Str) (N : List Str) (ws : List (Option V)) (tb : TE) (t : TA) : TE := fun σ H Q => σ[i]? = some (some (.ref f)) ∧ t σ H fun vs H1 => ∃ v, vs = [v] ∧ H1 c' = some (CodeO c' q) ∧ tb (startF N [v] ws) H1 Q
/-- a(e): the local a holds the lambda -/
theorem pe_lcall (L : LamAt X.base f c' qn params body scope cl fr ws) (S : NScope N [x] fr scope) (hb : ∀ (pm cv ctv u : Value), bindArgs (PySem.W.kla_fn "<lambda>" qn params body scope cl pm cv ctv) ⟨[u], []⟩ = pure [(x, u)])
    (hr : Room (k + 1) X.A)
    (hbody : ∀ (A : Around) (outer : List Env) (s : Shared) (H : Hp), Room k (A.deeper (envF (nfOf qn params scope cl c') f s.heap.objs.size)) → PE (ncx CX0 X.prog X.w X.K X.mg X.base N (nfOf qn params scope cl c') f A outer s H E0) body tb)
    (hN : X.N[i]? = some a) (hv : Vis X.env.scope a) (ha : PA X (e :: es) t)
    (hd : (a == ("__debug__" : Str)) = false := by decide) (hcd : (a == ("__classdict__" : Str)) = false := by decide)
    (he : starEach (e :: es) X.env = (false, eval e X.env) :: starEach es X.env := by rfl) (hpl : (backTo p2 (starEach es X.env)).any (·.1) = false := by rfl) :
    PE X (.Call (.Name a p1) (e :: es) [] p2) (tLamC i f c' qn N ws tb t) := by
  refine ⟨fun pins s σ H Q I h => ?_⟩
  obtain ⟨hs, ht⟩ := h
  obtain ⟨pm, ctv, hob⟩ := L.ob
  refine wpAny_Call_Name_kw (thn ((pe_var (pos := p1) hN hv hd hcd).run pins s σ H (fun v H1 => v = .ref f ∧ H1 = H) I ⟨.ref f, hs, rfl, rfl⟩) fun u s1 ⟨v, H1, I1, r1, q1⟩ => ?_)
  obtain ⟨ev, eH⟩ := q1
  subst ev
  rw [eH] at I1
  obtain rfl : u = Value.ref f := r1
  have fa : ∀ {s : Shared} {σ : L2.St} {H : Hp}, Inv X pins σ H s → PySem.W.FnAt f s.heap := fun I => ⟨_, _, _, _, I.bk _ _ hob⟩
  refine PySem.W.callWith_F (first := []) (fa I1) (thn (ha.run p2 pins s1 σ H _ I1 ht) fun us s2 ⟨vs, H2, I2, r, v, ev, hc, q⟩ => ⟨fa I2, ?_⟩) he hpl
  subst ev
  obtain ⟨u, rfl, ru⟩ := vals1 r
  show wpAny _ _ (call (.ref f) [u]) _ _ _
  obtain ⟨⟨oc, cvs, tk, hoc, hdc, hvc⟩, _, _⟩ := I2.hok c' _ hc
  have lim : s2.heap.NoLimit := I2.nolimit
  have rc : codeAny (model X.prog X.w) X.A (.call (.ref f) ⟨[u], []⟩) (CR CX0 X.stack X.prog X.w H2 s2 Q E0) s2 := by
    refine PySem.W.kla_callFunE hr.depth (I2.bk _ _ hob) rfl S.co S.gen rfl ⟨c', oc, cvs, tk, rfl, hoc, hdc, hvc⟩ ?_
    rw [hb]
    refine wpAny_pure (wpAny_newFunctionEnv S.nocell (fun y hy => by rw [List.mem_singleton.mp hy]; exact S.par x List.mem_cons_self) (fun h₁ hns hsb => ⟨lim.fresh _ hsb, ?_⟩) S.kind)
    show codeAny _ _ (.expr body (envF (nfOf qn params scope cl c') f s2.heap.objs.size)) _ _
    have kp : ∀ b o, s2.heap.get? b = some o → h₁.get? b = some o := fun b o e => hsb.extBut b o (Nat.ne_of_lt (Heap.lt_size e)) (Heap.get?_push_of_some _ e)
    have C : CellsAt cl fr ws s2.heap H2 := by
      have back : ∀ {c : Addr} {v : Option Value}, X.base.IsCell c v → s2.heap.IsCell c v ∧ H2 c = none := fun ⟨o, ho, hd⟩ => ⟨⟨o, I2.bk _ _ ho, hd⟩, (I2.bs _ _ ho).2⟩
      refine ⟨L.cells.len, fun y c e => ?_, L.cells.inj, fun i y e => ?_⟩
      · obtain ⟨_, v, hv⟩ := L.cells.all y c e
        exact ⟨(back hv).2, v, (back hv).1⟩
      · obtain ⟨c, h1, h2⟩ := L.cells.has i y e
        refine ⟨c, h1, fun v hv => ?_⟩
        obtain ⟨u, r1, r2⟩ := h2 v hv
        exact ⟨u, r1, (back r2).1⟩
    have J : Inv (ncx CX0 X.prog X.w X.K X.mg X.base N (nfOf qn params scope cl c') f X.A X.stack s2 H2 E0) [] (startF N [v] ws) H2 { s2 with heap := h₁, toks := s2.toks + [(x, u)].length } :=
      inv_startN (ps := [x]) (us := [u]) S hr.hd I2.env0 rfl (.cons ru .nil) C hns kp
    refine PySem.W.kla_codeExpr (wpAny_mono ((hbody _ _ s2 H2 (hr.deeper _)).run [] _ _ H2 Q J q) (fun v s' hq => ?_) fun e s' hq => hq)
    obtain ⟨w', H', J', rv, q⟩ := hq
    exact ⟨w', H', J'.os, J'.bare, J'.base, J'.hok, rv, q⟩
  refine wpAny_call (codeAny_mono rc fun r s' hq => ?_)
  cases r with
  | error e => exact (show False from hq).elim
  | ok fl =>
    cases fl with
    | ret u => exact I2.after hq
    | next => exact False.elim hq
    | brk => exact False.elim hq
    | cont => exact False.elim hq
end
/-- the base with the lambda's object and its cells -/
theorem lam_base {pins : List (Addr × Obj)} {σ : L2.St} {H : Hp} {s : Shared} {js : List Nat} {pm ctv : Value} (I : Inv X pins σ H s) (hfn : ∀ y, X.fn y = true) (hstk : X.stack = X.env :: X.outer) (cp : Caps X cl fr js)
    (hf : s.heap.get? f = some (PySem.W.kla_obj "<lambda>" qn params body scope cl pm c' ctv)) (hH : H f = none) (hfr : f ∉ frs X.stack) :
    ∃ base' : Heap, (∀ b o, X.base.get? b = some o → base'.get? b = some o) ∧ LamAt base' f c' qn params body scope cl fr (js.map (slotAt σ)) ∧ Env0 X.prog X.w X.K X.mg base' X.A X.stack s H := by
  classical
  have C := cells_of I cp
  have e0 := I.env0
  let keep : Addr → Prop := fun b => b = f ∨ (∃ y, cl.lookup y = some b) ∨ ∃ o, X.base.get? b = some o
  let hid : List Addr := (List.range s.heap.objs.size).filter fun b => !decide (keep b)
  have nh : ∀ {b}, keep b → b ∉ hid := fun {b} k hm => by
    have := (List.mem_filter.mp hm).2
    rw [decide_eq_true k] at this
    cases this
  have vis : ∀ {b o}, (PySem.W.hideAll s.heap hid).get? b = some o → keep b := fun {b o} e => by
    by_cases k : keep b
    · exact k
    · have hb : b ∈ hid := List.mem_filter.mpr ⟨List.mem_range.mpr (Heap.lt_size (PySem.W.of_hideAll _ e)), by rw [decide_eq_false k]; rfl⟩
      rw [PySem.W.hideAll_none _ hb] at e
      cases e
  have kb : ∀ b o, X.base.get? b = some o → (PySem.W.hideAll s.heap hid).get? b = some o := fun b o e => PySem.W.hideAll_get _ (I.bk b o e) (nh (.inr (.inr ⟨o, e⟩)))
  have cellH : ∀ {y c} {v : Option Value}, cl.lookup y = some c → s.heap.IsCell c v → (PySem.W.hideAll s.heap hid).IsCell c v := fun {y c v} e ⟨o, ho, hd⟩ => ⟨o, PySem.W.hideAll_get _ ho (nh (.inr (.inl ⟨y, e⟩))), hd⟩
  refine ⟨PySem.W.hideAll s.heap hid, kb, ⟨⟨pm, ctv, PySem.W.hideAll_get _ hf (nh (.inl rfl))⟩, ⟨C.len, fun y c e => ?_, C.inj, fun i y e => ?_⟩⟩, ?_⟩
  · obtain ⟨_, v, hv⟩ := C.all y c e
    exact ⟨rfl, v, cellH e hv⟩
  · obtain ⟨c, h1, h2⟩ := C.has i y e
    refine ⟨c, h1, fun v hv => ?_⟩
    obtain ⟨u, r1, r2⟩ := h2 v hv
    exact ⟨u, r1, cellH h1 r2⟩
  · have M := I.ok.mod
    refine ⟨e0.frames, ⟨M.kin.keeps kb, M.glob.keeps kb, ?_, M.nolimit.keeps kb⟩, fun b o e => ⟨PySem.W.of_hideAll _ e, ?_⟩, by rw [PySem.W.hideAll_size]; exact Nat.le_refl _, funFrames_re e0.funs fun b hb => ?_, e0.frf, e0.hok, e0.bare⟩
    · obtain ⟨mb, h1, h2⟩ := M.blt
      exact ⟨mb, h1.keeps kb, h2⟩
    · rcases vis e with k | ⟨y, k⟩ | ⟨o', k⟩
      · rw [k]; exact hH
      · exact (C.all y b k).1
      · exact (I.bs b o' k).2
    · cases e : (PySem.W.hideAll s.heap hid).get? b with
      | none => rfl
      | some o =>
        exfalso
        rcases vis e with k | ⟨y, k⟩ | ⟨o', k⟩
        · rw [k] at hb
          exact hfr hb
        · have ck := cp.sub y b k
          rw [hstk] at hb
          unfold frs at hb
          rw [List.filterMap_cons] at hb
          have nl := I.cne y b ck
          have low := I.ok.cab y b (hfn y) ck
          have inO : b ∈ X.fs → False := fun hm => by
            obtain ⟨_, o2, ho2, _⟩ := I.ok.funs.mem hm
            exact absurd (Heap.lt_size ho2) (Nat.not_lt.mpr low)
          rcases I.ok.stk with z | ⟨_, z⟩
          · rw [hstk] at z
            exact absurd (congrArg List.length z) (by rw [List.length_cons]; omega)
          · rw [z] at hb
            rcases List.mem_cons.mp hb with hb | hb
            · exact nl hb
            · exact inO hb
        · have := (e0.funs.mem hb).1
          rw [k] at this
          cases this
section
variable {X : Cx} {k j : Nat} {x y1 y2 : Str} {g c P : Addr} {fdg : FuncData} {params : Arguments} {body : Expr} {scope : Scope} {fr : List Str} {js : List Nat} {T : List (Addr × Str)} {t1 : TE} {e1 : Expr} {p lpos pos : Pos} {sp : Addr → List (Option V) → V → Hp → VK → Prop}
def tLamA (T : List (Addr × Str)) (q : Str) (js : List Nat) (sp : Addr → List (Option V) → V → Hp → VK → Prop) (t1 : TE) : TE := fun σ H Q => t1 σ H fun v H1 => Tabs T H1 ∧ ∀ c' H2, ExtN H1 H2 → Tabs T H2 → H2 c' = some (CodeO c' q) → sp c' (js.map (slotAt σ)) v H2 Q
/-- x(e, lambda ..: ..) -/
theorem pe_lamarg (hg : Gl X x) (hm : X.mg x = some (.ref g)) (hk : PySem.W.keepIn X.K (.ref g) = true) (hb : Binds X.K fdg [y1, y2] []) (hr : Room k X.A)
    (hM : ∀ (base' : Heap) (f c' : Addr) (cl : List (Str × Addr)) (ws : List (Option V)), X.K.In base' → base'.Ns mainGlobals X.mg → (∀ b o, X.base.get? b = some o → base'.get? b = some o) → LamAt base' f c' (X.env.qual ++ "<lambda>") params body scope cl fr ws →
      FnOk X.prog X.w X.K X.mg base' CX0 k g fdg [y1, y2] (fun vs H Q _ => ∃ v, vs = [v, .ref f] ∧ H c' = some (CodeO c' (X.env.qual ++ "<lambda>")) ∧ sp c' ws v H Q))
    (TB : TabB X.base X.mg c P) (hcode : X.env.code = .ref c) (hmT : (P, X.env.qual ++ "<lambda>") ∈ T) (hu : ∀ p ∈ T, p.1 = P → p.2 = X.env.qual ++ "<lambda>") (hdef : defaultsOf params X.env = ([], []))
    (hfree : ∀ y ∈ scope.names, y.2 = .free → X.env.scope.names.lookup y.1 = some .cell ∨ X.env.scope.names.lookup y.1 = some .free) (hfr : ∀ y ∈ fr, (y, NameKind.free) ∈ scope.names) (hjs : js.map (fun j => X.N[j]?) = fr.map some)
    (hfn : ∀ y, X.fn y = true) (hstk : X.stack = X.env :: X.outer) (h1 : PE X e1 t1)
    (hdb : (x == ("__debug__" : Str)) = false := by decide)
    (he : starEach [e1, .Lambda params body scope lpos] X.env = (false, eval e1 X.env) :: starEach [.Lambda params body scope lpos] X.env := by rfl) (hpl : (backTo pos (starEach [.Lambda params body scope lpos] X.env)).any (·.1) = false := by rfl) :
    PE X (.Call (.Name x p) [e1, .Lambda params body scope lpos] [] pos) (tLamA T (X.env.qual ++ "<lambda>") js sp t1) := by
  refine ⟨fun pins s σ H Q I h => ?_⟩
  refine wpAny_Call_Name_kw (ld_glob I hg hm ?_ hdb)
  have he2 : starEach [.Lambda params body scope lpos] X.env = (false, eval (.Lambda params body scope lpos) X.env) :: starEach [] X.env := by rfl
  refine PySem.W.callWith_K (h₀ := X.base) I.ok.mod.kin hk ?_ he hpl
  rw [he, he2]
  show wpAny _ _ (spliced ((false, eval e1 X.env) :: backTo pos ((false, eval (.Lambda params body scope lpos) X.env) :: starEach [] X.env))) _ _ s
  refine Calls.spliced_cons (thn (h1.run pins s σ H _ I h) fun u1 s1 ⟨v, H1, I1, r1, hT, q⟩ => ?_)
  show wpAny _ _ (spliced ((false, eval (.Lambda params body scope lpos) X.env) :: backTo pos (starEach [] X.env))) _ _ s1
  have hfree' : ∀ y ∈ scope.names, y.2 = .free → ∃ c, X.env.cells.lookup y.1 = some c := fun y hy e => (hfree y hy e).elim (fun z => I.ok.has _ (.inl z)) fun z => I.ok.has _ (.inr z)
  refine Calls.spliced_cons (lam_make2 I1 TB hcode hmT hu hT hdef hfree' fun f c' pm ctv H2 s' I2 eN T2 hf hfn2 hfr2 hco => ?_)
  refine Calls.spliced_nil ⟨I2.kIn, ?_⟩
  have cp : Caps X (cloFrom X.env.cells scope.names []) fr js := Caps.made I2.ok hfree hfr hjs
  obtain ⟨base', kb, L, e0⟩ := lam_base I2 hfn hstk cp hf hfn2 hfr2
  have F := hM base' f c' _ _ e0.mod.kin e0.mod.glob kb L
  have rv : Vals [v, V.ref f] [u1, Value.ref f] := .cons r1 (.cons rfl .nil)
  refine wpAny_call (codeAny_mono (F.run X.A X.stack s' H2 ⟨[u1, .ref f], []⟩ [u1, .ref f] [v, .ref f] Q E0 hr e0 ?_ rv ⟨v, rfl, hco, q c' H2 eN T2 hco⟩) fun r s2 hq => ?_)
  · exact hb s' [u1, .ref f] I2.kIn rfl
  cases r with
  | error e => exact (show False from hq).elim
  | ok fl =>
    cases fl with
    | ret u => exact I2.after hq
    | next => exact False.elim hq
    | brk => exact False.elim hq
    | cont => exact False.elim hq
end
end LamY
set_option Elab.async false
set_option linter.all false
set_option maxRecDepth 100000
set_option maxHeartbeats 4000000
namespace W5
open PySem PySem.Spec PyProof.Rows L2 Com
abbrev Sc := Str × Int × Int
def scD (x : Sc) : PyData := .tuple [.str x.1, .int x.2.1, .int x.2.2]
def setD (s : List Sc) : PyData := .tuple (s.map scD)
def ltN (x y : Str) : Prop := x.cps.toList < y.cps.toList
instance (x y : Str) : Decidable (ltN x y) := inferInstanceAs (Decidable (x.cps.toList < y.cps.toList))
def ltS (x y : Sc) : Prop := ltN x.1 y.1 ∨ (x.1 = y.1 ∧ (x.2.1 < y.2.1 ∨ (x.2.1 = y.2.1 ∧ x.2.2 < y.2.2)))
instance (x y : Sc) : Decidable (ltS x y) := inferInstanceAs (Decidable (_ ∨ _))
theorem ltN_irrefl (x : Str) : ¬ ltN x x := fun h => List.lt_irrefl _ h
theorem ltN_trans {x y z : Str} (h : ltN x y) (g : ltN y z) : ltN x z := List.lt_trans h g
theorem str_cps {x y : Str} (h : x.cps.toList = y.cps.toList) : x = y := by
  cases x; cases y
  simp only [Str.mk.injEq]
  exact Array.toList_inj.mp h
theorem ltN_tri (x y : Str) : ltN x y ∨ x = y ∨ ltN y x := by
  by_cases h : ltN x y
  · exact .inl h
  · by_cases g : ltN y x
    · exact .inr (.inr g)
    · exact .inr (.inl (str_cps (List.le_antisymm (List.not_lt.mp g) (List.not_lt.mp h))))
theorem ltS_irrefl (x : Sc) : ¬ ltS x x := by
  rintro (h | ⟨_, h⟩)
  · exact ltN_irrefl _ h
  · omega
theorem ltS_trans {x y z : Sc} (h : ltS x y) (g : ltS y z) : ltS x z := by
  rcases h with h | ⟨e, h⟩ <;> rcases g with g | ⟨e', g⟩
  · exact .inl (ltN_trans h g)
  · exact .inl (e' ▸ h)
  · exact .inl (e.symm ▸ g)
  · exact .inr ⟨e.trans e', by omega⟩
theorem ltS_tri (x y : Sc) : ltS x y ∨ x = y ∨ ltS y x := by
  obtain ⟨a, b, c⟩ := x
  obtain ⟨a', b', c'⟩ := y
  rcases ltN_tri a a' with h | h | h
  · exact .inl (.inl h)
  · subst h
    by_cases h1 : b < b' ∨ (b = b' ∧ c < c')
    · exact .inl (.inr ⟨rfl, h1⟩)
    · by_cases h2 : b' < b ∨ (b' = b ∧ c' < c)
      · exact .inr (.inr (.inr ⟨rfl, h2⟩))
      · have e1 : b = b' := by omega
        have e2 : c = c' := by omega
        exact .inr (.inl (by rw [e1, e2]))
  · exact .inr (.inr (.inl h))
theorem dataLt_sc (x y : Sc) : PySem.W.dataLt (scD x) (scD y) = decide (ltS x y) := by
  obtain ⟨a, b, c⟩ := x
  obtain ⟨a', b', c'⟩ := y
  unfold scD
  rw [PySem.W.dataLt_tuple, PySem.W.dataLt_cons (by simp [PySem.W.alike]), PySem.W.dataLt_cons (by simp [PySem.W.alike]), PySem.W.dataLt_cons (by simp [PySem.W.alike]), PySem.W.dataLt_int, PySem.W.dataLt_int, PySem.W.dataLt_str]
  have e0 : PyProof.Rows.lexLt PyProof.Rows.itemOrd (PySem.W.keyToksAll []) (PySem.W.keyToksAll []) = false := PyProof.Rows.lex_irrefl _
  rw [e0]
  simp only [PyData.eqv]
  rw [Bool.eq_iff_iff, decide_eq_true_iff]
  by_cases h1 : a = a'
  · subst h1
    have hn := ltN_irrefl a
    by_cases h2 : b = b'
    · subst h2
      by_cases h3 : c = c'
      · subst h3
        simp [ltS, hn]
      · have : (c == c') = false := beq_eq_false_iff_ne.mpr h3
        simp [ltS, hn, this]
    · have : (b == b') = false := beq_eq_false_iff_ne.mpr h2
      simp [ltS, hn, this, h2]
  · have : (a == a') = false := beq_eq_false_iff_ne.mpr h1
    simp [ltS, this, h1, ltN]
abbrev leS : Sc → Sc → Bool := PySem.W.dataLe false scD
theorem leS_eq (a b : Sc) : leS a b = !decide (ltS b a) := by
  show (!PySem.W.dataLt (scD b) (scD a)) = _
  rw [dataLt_sc]
abbrev Canon (s : List Sc) : Prop := s.Pairwise ltS
def srt (s : List Sc) : List Sc := s.mergeSort leS
theorem leS_total (a b : Sc) : (leS a b || leS b a) = true := by
  rw [leS_eq, leS_eq]
  rcases ltS_tri a b with h | h | h
  · have : ¬ ltS b a := fun g => ltS_irrefl _ (ltS_trans h g)
    simp [this]
  · subst h
    simp [ltS_irrefl]
  · have : ¬ ltS a b := fun g => ltS_irrefl _ (ltS_trans h g)
    simp [this]
theorem leS_iff (a b : Sc) : leS a b = true ↔ ltS a b ∨ a = b := by
  rw [leS_eq]
  simp only [Bool.not_eq_true', decide_eq_false_iff_not]
  constructor
  · intro h
    rcases ltS_tri a b with g | g | g
    · exact .inl g
    · exact .inr g
    · exact absurd g h
  · rintro (h | h) g
    · exact ltS_irrefl _ (ltS_trans h g)
    · subst h
      exact ltS_irrefl _ g
theorem leS_trans (a b c : Sc) (h : leS a b = true) (g : leS b c = true) : leS a c = true := by
  rw [leS_iff] at *
  rcases h with h | rfl
  · rcases g with g | rfl
    · exact .inl (ltS_trans h g)
    · exact .inl h
  · exact g
theorem srt_canon {s : List Sc} (h : Canon s) : srt s = s := List.mergeSort_of_pairwise (List.Pairwise.imp (fun {a b} q => (leS_iff a b).mpr (.inl q)) h)
theorem canon_srt {s : List Sc} (h : s.Nodup) : Canon (srt s) := by
  have h1 : (srt s).Pairwise fun a b => leS a b = true := List.pairwise_mergeSort leS_trans leS_total s
  have h2 : (srt s).Nodup := (List.mergeSort_perm s leS).nodup_iff.mpr h
  refine List.Pairwise.imp₂ (R := fun a b => leS a b = true) (S := fun a b => a ≠ b) (fun a b p q => ?_) h1 h2
  rcases (leS_iff a b).mp p with r | r
  · exact r
  · exact absurd r q
theorem mem_srt {s : List Sc} {x : Sc} : x ∈ srt s ↔ x ∈ s := List.mem_mergeSort
theorem len_srt (s : List Sc) : (srt s).length = s.length := List.length_mergeSort s
/-! the program's changes and the law's -/
def withS (c : Sc) (s : List Sc) : List Sc := if c ∈ s then s else srt (s ++ [c])
def withoutS (c : Sc) (s : List Sc) : List Sc := s.filter fun x => !decide (x = c)
def flipS (c : Sc) (s : List Sc) : List Sc := if c ∈ s then withoutS c s else withS c s
def lawWith (c : Sc) (s : List Sc) : List Sc := s ++ if c ∈ s then [] else [c]
def lawTurned (c : Sc) (s : List Sc) : List Sc := if c ∈ s then withoutS c s else s ++ [c]
theorem with_eq {c : Sc} {s : List Sc} (h : Canon s) : srt (lawWith c s) = withS c s := by
  unfold lawWith withS
  split
  · rw [List.append_nil, srt_canon h]
  · rfl
theorem canon_without {c : Sc} {s : List Sc} (h : Canon s) : Canon (withoutS c s) := h.sublist List.filter_sublist
theorem without_eq {c : Sc} {s : List Sc} (h : Canon s) : srt (withoutS c s) = withoutS c s := srt_canon (canon_without h)
theorem flip_eq {c : Sc} {s : List Sc} (h : Canon s) : srt (lawTurned c s) = flipS c s := by
  unfold lawTurned flipS
  by_cases hc : c ∈ s
  · rw [if_pos hc, if_pos hc, without_eq h]
  · rw [if_neg hc, if_neg hc, withS, if_neg hc]
/-! data and syntax -/
inductive Dm where
  | nm (s : Str) (p : Int) | at (k : Str) (v : PyData) (p : Int) | ls (l : List Dm) (p : Int)
inductive Sy where
  | id (s : Str) (p : Int) (st : List Sc) | at (k : Str) (v : PyData) (p : Int) | ls (l : List Sy) (p : Int)
def occ (p : Int) : PyData := .tuple [.str "m", .int p]
mutual
def dmD : Dm → PyData
  | .nm s p => .tuple [.str "name", .str s, .int p]
  | .at k v p => .tuple [.str k, v, .int p]
  | .ls l p => .tuple [.str "list", .tuple (dmDs l), .int p]
def dmDs : List Dm → List PyData
  | [] => []
  | x :: r => dmD x :: dmDs r
end
mutual
def syD : Sy → PyData
  | .id s p st => .tuple [.str "id", .str s, occ p, setD st]
  | .at k v p => .tuple [.str "atom", .str k, v, occ p]
  | .ls l p => .tuple [.str "list", .tuple (syDs l), occ p]
def syDs : List Sy → List PyData
  | [] => []
  | x :: r => syD x :: syDs r
end
theorem dmDs_eq : ∀ l : List Dm, dmDs l = l.map dmD
  | [] => rfl
  | x :: r => by rw [dmDs, dmDs_eq r, List.map_cons]
theorem syDs_eq : ∀ l : List Sy, syDs l = l.map syD
  | [] => rfl
  | x :: r => by rw [syDs, syDs_eq r, List.map_cons]
mutual
def syn (st : List Sc) : Dm → Sy
  | .nm s p => .id s p st
  | .at k v p => .at k v p
  | .ls l p => .ls (syns st l) p
def syns (st : List Sc) : List Dm → List Sy
  | [] => []
  | x :: r => syn st x :: syns st r
end
mutual
def dat : Sy → Dm
  | .id s p _ => .nm s p
  | .at k v p => .at k v p
  | .ls l p => .ls (dats l) p
def dats : List Sy → List Dm
  | [] => []
  | x :: r => dat x :: dats r
end
mutual
def mapS (g : List Sc → List Sc) : Sy → Sy
  | .id s p st => .id s p (g st)
  | .at k v p => .at k v p
  | .ls l p => .ls (mapSs g l) p
def mapSs (g : List Sc → List Sc) : List Sy → List Sy
  | [] => []
  | x :: r => mapS g x :: mapSs g r
end
mutual
def flat : Sy → List Sy
  | .id s p st => [.id s p st]
  | .at k v p => [.at k v p]
  | .ls l p => .ls l p :: flats l
def flats : List Sy → List Sy
  | [] => []
  | x :: r => flat x ++ flats r
end
mutual
def dep : Sy → Nat
  | .id _ _ _ => 0
  | .at _ _ _ => 0
  | .ls l _ => deps l + 1
def deps : List Sy → Nat
  | [] => 0
  | x :: r => max (dep x) (deps r)
end
mutual
def depM : Dm → Nat
  | .nm _ _ => 0
  | .at _ _ _ => 0
  | .ls l _ => depMs l + 1
def depMs : List Dm → Nat
  | [] => 0
  | x :: r => max (depM x) (depMs r)
end
def isId : Sy → Bool
  | .id _ _ _ => true
  | _ => false
mutual
def CanS : Sy → Prop
  | .id _ _ st => Canon st
  | .at _ _ _ => True
  | .ls l _ => CanSs l
def CanSs : List Sy → Prop
  | [] => True
  | x :: r => CanS x ∧ CanSs r
end
mutual
theorem dat_syn (st : List Sc) : ∀ d : Dm, dat (syn st d) = d
  | .nm s p => rfl
  | .at k v p => rfl
  | .ls l p => by simp only [syn, dat, dats_syns st l]
theorem dats_syns (st : List Sc) : ∀ d : List Dm, dats (syns st d) = d
  | [] => rfl
  | x :: r => by simp only [syns, dats, dat_syn st x, dats_syns st r]
end
mutual
theorem map_const (st : List Sc) : ∀ s : Sy, mapS (fun _ => st) s = syn st (dat s)
  | .id s p _ => rfl
  | .at k v p => rfl
  | .ls l p => by simp only [mapS, dat, syn, map_consts st l]
theorem map_consts (st : List Sc) : ∀ s : List Sy, mapSs (fun _ => st) s = syns st (dats s)
  | [] => rfl
  | x :: r => by simp only [mapSs, dats, syns, map_const st x, map_consts st r]
end
mutual
theorem map_congr {g h : List Sc → List Sc} (e : ∀ s, Canon s → g s = h s) : ∀ s : Sy, CanS s → mapS g s = mapS h s
  | .id s p st, c => by simp only [mapS, e st c]
  | .at k v p, _ => rfl
  | .ls l p, c => by simp only [mapS, map_congrs e l c]
theorem map_congrs {g h : List Sc → List Sc} (e : ∀ s, Canon s → g s = h s) : ∀ s : List Sy, CanSs s → mapSs g s = mapSs h s
  | [], _ => rfl
  | x :: r, c => by simp only [mapSs, map_congr e x c.1, map_congrs e r c.2]
end
end W5
set_option Elab.async false
set_option linter.all false
set_option maxRecDepth 100000
set_option maxHeartbeats 4000000
namespace GenU
open PySem PySem.Spec PyProof.Rows L2 GxR
/-- the element as a test of what the name x holds; the globals and the built-ins may be read -/
def EltB (X : Cx) (scope : Scope) (x : Str) (elt : Expr) (ok : Value → Prop) (pb : Value → Bool) : Prop :=
  ∀ (cenv : Env) (A' : Around) (E' : Value → Shared → Prop) (u : Value) (s₂ : Shared) (m₂ : Str → Option Value), cenv.scope = scope → cenv.globals = mainGlobals → cenv.builtins = builtinsNs → A'.handled = none → L2.Mod X.K X.mg X.base →
    (∀ b o, X.base.get? b = some o → s₂.heap.get? b = some o) → ok u → s₂.heap.Ns cenv.locals m₂ → m₂ x = some u →
    wpAny (model X.prog X.w) A' (eval elt cenv) (fun y s₃ => y = .bool (pb u) ∧ Keeps s₂ s₃) E' s₂
/-- the generator g over the items, ready to be walked -/
def ReadyV (X : Cx) (pins : List (Addr × Obj)) (σ : L2.St) (H1 : Hp) (P : Addr) (n : Nat) (tr : Nat → Bool) (g : Addr) (s5 : Shared) : Prop :=
  ∃ (fp wr : List Addr) (G : Array GenState → Array GenState → Prop) (F : Nat → Value → Prop) (St : Nat → Shared → Prop),
    WalksS X.prog X.w X.A.in1 g fp wr G n F St ∧ St 0 s5 ∧
    TruthOf X.prog X.w X.A.in1 F tr ∧
    ∀ s', Moved wr G s5 s' → ∃ H2, Tabbed P H1 H2 ∧ Inv X pins σ H2 s'
/-- how a source is walked: the iterator is one new object -/
def Src (X : Cx) (H1 : Hp) (s1 : Shared) (u : Value) (n : Nat) (It : Nat → Value → Prop) : Prop :=
  ∀ (Q : Value → Shared → Prop), (∀ (o : Obj) (fp : List Addr) (St : Nat → Heap → Prop), (∀ b ∈ fp, b = s1.heap.objs.size ∨ ∃ ob, s1.heap.get? b = some ob ∧ ob.data ≠ .fields #[] ∧ H1 b ≠ some (.tbl #[]) ∧ ∀ ps, H1 b ≠ some (.tbl ps)) →
      (∀ A' : Around, A'.handled = none → Walks X.prog X.w A' s1.heap.objs.size fp [s1.heap.objs.size] n It St) → St 0 (s1.heap.push o) →
      Q (.ref s1.heap.objs.size) { s1 with heap := s1.heap.push o }) → ∀ E, wpAny (model X.prog X.w) X.A (pyIter u) Q E s1
section
variable {X : Cx} {pins : List (Addr × Obj)} {σ : L2.St} {H : Hp} {s : Shared}
theorem gen_src {c P : Addr} {elt iter : Expr} {x : Str} {px gpos : Pos} {scope : Scope} {pb : Value → Bool} {ok : Value → Prop} {te : TE} {k : Nat} {Q' : Value → Shared → Prop} {B : V → Hp → Prop} {R : V → Nat → (Nat → Bool) → Hp → Prop}
    (hB : ∀ (v : V) (H1 : Hp), B v H1 → TabG H1 P ∧ ∀ (u : Value) (s1 : Shared), RelV v u → Inv X pins σ H1 s1 → ∃ (n : Nat) (It : Nat → Value → Prop) (tr : Nat → Bool), (∀ i z, It i z → ok z ∧ pb z = tr i) ∧ Src X H1 s1 u n It ∧ R v n tr H1)
    (hr : Room k X.A) (TB : TabB X.base X.mg c P) (hcode : X.env.code = .ref c) (S : GenS X.env scope x) (hi : PE X iter te) (hel : EltB X scope x elt ok pb)
    (hs : ∀ v, genFold iter X.env v = pure v) (I : Inv X pins σ H s)
    (h : te σ H B)
    (hQ : ∀ v n tr H1 g s5, R v n tr H1 → ReadyV X pins σ H1 P n tr g s5 → Q' (.ref g) s5) :
    wpAny (model X.prog X.w) X.A (eval (.GeneratorExp elt [⟨.Name x px, iter, [], 0⟩] scope gpos) X.env) Q' X.xe s := by
  refine wpAny_GeneratorExp_walksQ hr.hd S.co (closure_ok S.free) S.cell S.dot S.loc S.kind (by have := hr.dp; omega) ?_ hs
  refine thn (hi.run pins s σ H _ I h) fun xv s1 ⟨v, H1, I1, r1, q1⟩ => ?_
  obtain ⟨⟨ps, hP, ht⟩, q1⟩ := hB v H1 q1
  obtain ⟨nn, It, tr, hok, hsrc, q1⟩ := q1 xv s1 r1 I1
  refine hsrc _ (fun o fp0 St hfp W hst => ?_) _
  have hPs : s1.heap.get? P = some { cls := .none, data := .fields ps } := I1.hok P _ hP
  have hPlt : P < s1.heap.objs.size := Heap.lt_size hPs
  have hP2 : (s1.heap.push o).get? P = some { cls := .none, data := .fields ps } := Heap.get?_push_of_some _ hPs
  have cd : PySem.W.CodeHd (s1.heap.push o) c P := TB.code.keeps fun b u e => Heap.get?_push_of_some _ (I1.bk b u e)
  have lim2 : (s1.heap.push o).NoLimit := I1.nolimit.push o
  have cont : ∀ (code : Value) (h3 : Heap) (tk : Nat) (ps' : Array Value), Heap.ExtBut P (s1.heap.push o) h3 → (s1.heap.push o).objs.size ≤ h3.objs.size → h3.get? P = some { cls := .none, data := .fields ps' } → (∃ more, ps' = ps ++ more) → TriplesOk ps'.toList →
      wpAny (model X.prog X.w) X.A (builtinsFor X.env.globals X.env.builtins) (fun bi s₄ =>
        ∃ Ia fp wr n₀ Pf St₀ pz F, Value.ref s1.heap.objs.size = .ref Ia ∧ (∀ A' : Around, A'.handled = none → Walks X.prog X.w A' Ia fp wr n₀ Pf St₀) ∧ St₀ 0 s₄.heap ∧ (∀ b ∈ fp, b < s₄.heap.objs.size) ∧ s₄.heap.NoLimit ∧ cStatics ∉ wr ∧
          (∀ href : Heap, (∀ b o, s₄.heap.get? b = some o → href.get? b = some o) →
            QuietGen X.prog X.w (genEnv scope (cloFrom X.env.cells scope.names []) s₄.heap.objs.size code bi X.env) x [] elt (List.range s₄.heap.objs.size) wr Pf pz F href) ∧
          (∀ a h₅ tk gs, gs.bare = true → s₄.heap.objs.size < a → h₅.objs.size = a + 1 → (∀ b o, s₄.heap.get? b = some o → h₅.get? b = some o) →
            WalksS X.prog X.w X.A.in4 a (a :: s₄.heap.objs.size :: List.range s₄.heap.objs.size) (s₄.heap.objs.size :: wr) (GenOnlyQ s₄.gens.size) (passing pz n₀ 0).length
              (fun j y => ∃ i, (passing pz n₀ 0)[j]? = some i ∧ F i y) (GenAt X.prog X.w X.A.in4 a s₄.gens.size s₄.heap.objs.size (List.range s₄.heap.objs.size) wr pz n₀ F) →
            GenAt X.prog X.w X.A.in4 a s₄.gens.size s₄.heap.objs.size (List.range s₄.heap.objs.size) wr pz n₀ F 0 { s₄ with gens := s₄.gens.push gs, toks := tk, heap := h₅ } →
            Q' (.ref a) { s₄ with gens := s₄.gens.push gs, toks := tk, heap := h₅ })) X.xe { s1 with heap := h3, toks := tk } := by
    intro code h3 tk ps' hx hsz hP3 hmore ht3
    obtain ⟨bm, ob, e1, e2, e3, e4, e5, e6, e7, e8⟩ := TB.bm
    have hcP : cStatics ≠ P := fun e => by
      obtain ⟨_, hns, _⟩ := I1.nolimit
      obtain ⟨o', es, ep, ho, hd, _⟩ := hns
      rw [e, hPs] at ho
      cases ho
      cases hd
    have hcl : cStatics < s1.heap.objs.size := let ⟨_, hns, _⟩ := I1.nolimit; hns.lt
    have sz2 : (s1.heap.push o).objs.size = s1.heap.objs.size + 1 := Heap.size_push ..
    have keep3 : ∀ b u, b ≠ P → s1.heap.get? b = some u → h3.get? b = some u := fun b u hb e => hx b u hb (Heap.get?_push_of_some _ e)
    refine wpAny_builtinsFor (m := X.mg) (by rw [I1.ok.glob]; exact ((I1.mod.glob.keeps I1.bk).push o).extBut hx TB.gP) e1 e2 (keep3 _ _ e4 (I1.bk _ _ e5)) e6 e7 e8 ?_
    have hfpP : ∀ b ∈ fp0, b ≠ P := fun b hb z => by
      rcases hfp b hb with e | ⟨ob', q1', q2', _, q4'⟩
      · exact Nat.ne_of_lt hPlt (z.symm.trans e)
      · exact q4' ps (z ▸ hP)
    refine ⟨s1.heap.objs.size, fp0, [s1.heap.objs.size], nn, It, St, (fun _ => true), (fun i y => y = .bool (tr i)), rfl, W, ?_, ?_, lim2.extBut hx hcP, ?_, ?_, ?_⟩
    · refine (W X.A hr.hd).frame _ _ _ hst fun b hb u e => hx b u (hfpP b hb) e
    · intro b hb
      show b < h3.objs.size
      have hlt3 : s1.heap.objs.size < h3.objs.size := by omega
      rcases hfp b hb with z | ⟨ob', q1', _⟩
      · rw [z]
        exact hlt3
      · exact Nat.lt_trans (Heap.lt_size q1') hlt3
    · intro z
      rcases List.mem_cons.mp z with z | z
      · exact Nat.ne_of_lt hcl z
      · cases z
    · intro href hhref
      refine ⟨fun A' E' i v s₂ m₂ hA hPv hn hm hk => ?_, fun A' E' i v s₂ m₂ hA hPv hp hn hm hk => ?_⟩
      · simp only [List.forIn_nil]
        exact wpAny_pure ⟨rfl, keeps_refl _⟩
      · obtain ⟨hov, hpv⟩ := hok i v hPv
        have hb2 : ∀ b o', X.base.get? b = some o' → s₂.heap.get? b = some o' := fun b o' e => by
          have e1' := I1.bk b o' e
          have hlt := Heap.lt_size e1'
          have hbP : b ≠ P := fun z => by
            have z2 := (I1.bs b o' e).2
            rw [z, hP] at z2
            cases z2
          have e3' : h3.get? b = some o' := keep3 b o' hbP e1'
          have hl3 : b < h3.objs.size := Heap.lt_size e3'
          refine hk b (List.mem_range.mpr hl3) (fun z => ?_) o' (hhref b o' e3')
          rcases List.mem_cons.mp z with z | z
          · rw [z] at hlt
            exact Nat.lt_irrefl _ hlt
          · cases z
        exact wpAny_mono (hel _ A' E' v s₂ m₂ rfl I1.ok.glob rfl hA I1.mod hb2 hov hn hm) (fun y s3 r => ⟨by rw [r.1, hpv], r.2⟩) fun _ _ e => e
    · intro g h5 tk5 gs hgb hag hsz5 hk5 W5 hat
      simp only [GxR.passing_true, List.length_range] at W5
      refine hQ v nn tr H1 g _ q1 ⟨_, _, _, _, _, W5.in4_1, hat, ?_, fun s' hm => ?_⟩
      · intro j y sj Qj Ej hy hQj
        obtain ⟨i, hij, hyb⟩ := hy
        have hyb : y = .bool (tr i) := hyb
        subst hyb
        obtain ⟨hj, ej⟩ := List.getElem?_eq_some_iff.mp hij
        rw [List.getElem_range] at ej
        subst ej
        exact wpAny_truthy_bool hQj
      · obtain ⟨more, em⟩ := hmore
        have nwr : ∀ b u, s1.heap.get? b = some u → b ∉ h3.objs.size :: [s1.heap.objs.size] := fun b u e hb => by
          have hl := Heap.lt_size e
          rcases List.mem_cons.mp hb with z | z
          · rw [z] at hl
            have h9 : (h3.objs.size : Nat) < s1.heap.objs.size := hl
            omega
          · rcases List.mem_cons.mp z with z | z
            · rw [z] at hl
              exact Nat.lt_irrefl _ hl
            · cases z
        have J := inv_tab (more := more) (h' := s'.heap) (g' := s'.gens) (d' := s'.drawn) (t' := s'.toks) I1 hP (fun b u hb e => hm.heap b u (nwr b u e) (hk5 b u (keep3 b u hb e)))
          (by rw [← em]; exact hm.heap P _ (nwr P _ hPs) (hk5 P _ hP3)) (AllBare.movedS (I1.bare.push hgb) hm)
        rw [sh_eta s1 s' hm.os] at J
        refine ⟨upd H1 P (.tbl (ps ++ more)), ⟨⟨ps ++ more, upd_same, by rw [← em]; exact ht3⟩, fun b hb => upd_ne hb⟩, J⟩
  refine ⟨lim2, ?_⟩
  cases hf : codeAmong gpos ps.toList with
  | none =>
    refine wpAny_genexprCodeX hcode (cd.code hP2 ht) (cd.tab hP2) hf fun c' h' tk hx hge hlt hco' _ htab' _ => ?_
    obtain ⟨o1, vs, f1, tf, fl, tg, inF, tx, tt, op, _, _, _, _, _, _, _, _, _, htr, _⟩ := hco'
    exact cont _ h' tk _ hx (Nat.le_trans hge (Nat.le_of_lt hlt)) htab'.2 ⟨_, rfl⟩ htr
  | some cv =>
    refine wpAny_genexprCode_hit hcode (cd.code hP2 ht) hf ?_
    exact cont cv (s1.heap.push o) s1.toks ps (Heap.ExtBut.refl _ _) (Nat.le_refl _) hP2 ⟨#[], by simp⟩ ht
/-- all(test for x in e), e a text, the test may read globals -/
def tAllU (P : Addr) (pc : Nat → Bool) (te : TE) : TE := fun σ H Q => te σ H fun v H1 => TabG H1 P ∧ ∃ a : Str, v = .str a ∧ ∀ H2, Tabbed P H1 H2 → Q (.bl (a.cps.toList.all pc)) H2
def OneSign (u : Value) : Prop := ∃ c t, u = .str ⟨#[c]⟩ t
theorem all_at (a : Str) (pc : Nat → Bool) : (List.range a.cps.size).all (fun i => match a.cps[i]? with | some c => pc c | none => false) = a.cps.toList.all pc := by
  rw [Bool.eq_iff_iff, List.all_eq_true, List.all_eq_true]
  constructor
  · intro h b hb
    obtain ⟨j, hj, e⟩ := List.getElem_of_mem hb
    have hj' : j < a.cps.size := by simpa using hj
    have q := h j (List.mem_range.mpr hj')
    rw [Array.getElem?_eq_getElem hj'] at q
    have e2 : a.cps[j] = b := by rw [← e]; simp
    rw [← e2]
    exact q
  · intro h j hj
    have hj' := List.mem_range.mp hj
    rw [Array.getElem?_eq_getElem hj']
    exact h _ (by simp)
theorem pe_allU {c P : Addr} {elt iter : Expr} {x : Str} {px p pos gpos : Pos} {scope : Scope} {pb : Value → Bool} {pc : Nat → Bool} {te : TE} {k : Nat}
    (hr : Room k X.A) (hg : Gl X "all") (hm : X.mg "all" = none) (hb : bootBuiltins "all" = some (.builtin "all")) (TB : TabB X.base X.mg c P) (hcode : X.env.code = .ref c) (S : GenS X.env scope x) (hi : PE X iter te) (hel : EltB X scope x elt OneSign pb)
    (hp : ∀ c t, pb (.str ⟨#[c]⟩ t) = pc c)
    (hs : ∀ v, genFold iter X.env v = pure v)
    (he : starEach [.GeneratorExp elt [⟨.Name x px, iter, [], 0⟩] scope gpos] X.env = (false, eval (.GeneratorExp elt [⟨.Name x px, iter, [], 0⟩] scope gpos) X.env) :: starEach [] X.env := by rfl) :
    PE X (.Call (.Name "all" p) [.GeneratorExp elt [⟨.Name x px, iter, [], 0⟩] scope gpos] [] pos) (tAllU P pc te) := by
  refine ⟨fun pins s σ H Q I h => ?_⟩
  refine wpAny_Call_Name_kw (ld_blt I hg hm hb ?_)
  refine PyProof.Rows.callWith_builtin1 ?_ he (by rfl)
  rw [he]
  show wpAny _ _ (spliced ((false, eval (.GeneratorExp elt [⟨.Name x px, iter, [], 0⟩] scope gpos) X.env) :: backTo pos (starEach [] X.env))) _ _ s
  refine Calls.spliced_cons (gen_src (te := te) (R := fun v n tr H1 => ∃ a : Str, n = a.cps.size ∧ tr = (fun i => match a.cps[i]? with | some c => pc c | none => false) ∧ ∀ H2, Tabbed P H1 H2 → Q (.bl (a.cps.toList.all pc)) H2) (hB := ?_) hr TB hcode S hi hel hs I h fun v n tr H1 g s5 hR hG => ?_)
  · rintro v H1 ⟨hT, a, rfl, hq⟩
    refine ⟨hT, fun u s1 ru I1 => ?_⟩
    obtain ⟨t, rfl⟩ := _root_.id ru
    refine ⟨a.cps.size, SignAt a, _, fun i z hz => ?_, fun Q2 hQ2 E => wpAny_pyIter_str fun o St W hst => ?_, a, rfl, rfl, hq⟩
    · obtain ⟨c, u, hc, rfl⟩ := hz
      refine ⟨⟨c, u, rfl⟩, ?_⟩
      rw [hp, hc]
    · exact hQ2 o _ St (fun b hb => .inl (List.mem_singleton.mp hb)) W hst
  obtain ⟨a, rfl, rfl, hR⟩ := hR
  obtain ⟨fp, wr, G, F, St, W, hst, htr, hI⟩ := hG
  refine Calls.spliced_nil ?_
  refine call_all_walkS (W.self 0 _ _ _ hst ⟨g, fp, wr, G, _, F, St, _, rfl, W, hst, htr, fun s' hmv => ?_⟩)
  obtain ⟨H2, hT, J⟩ := hI s' hmv
  refine ⟨.bl _, H2, J, rfl, ?_⟩
  rw [all_at a pc]
  exact hR H2 hT
end
/-- x in G, G a global text -/
def pbIn (y : Str) : Value → Bool
  | .str x _ => !(Builtin.Str.occurrences y x 0 y.length 1).isEmpty
  | _ => false
theorem elt_inG {X : Cx} {scope : Scope} {x g y : Str} {tk : Tok} {p1 p2 p3 : Pos} (hk : scope.kind = .function) (hl : scope.names.lookup x = some .local) (hi : scope.names.lookup g = some .globalImplicit) (mg' : X.mg g = some (.str y tk)) (hd : (x == ("__debug__" : Str)) = false := by decide) (hdg : (g == ("__debug__" : Str)) = false := by decide) :
    EltB X scope x (.Compare (.Name x p1) [.In] [.Name g p2] p3) OneSign (pbIn y) := by
  intro cenv A' E' u s₂ m₂ hs hgl hbn hA M hkp hok hn hm
  obtain ⟨c, t, rfl⟩ := hok
  refine wpAny_Compare1 ?_ (by rfl)
  refine wpAny_Name (wpAny_loadName_local (by rw [hs]; exact hk) (show cenv.scope.names.lookup x = some .local by rw [hs]; exact hl) hn hm ?_) hd
  refine Calls.Name_function_global (by rw [hs]; exact hk) (show cenv.scope.names.lookup g = some .globalImplicit by rw [hs]; exact hi) (Calls.loadGlobal_global (by rw [hgl]; exact M.glob.keeps hkp) mg' ?_) hdg
  exact in_str ⟨rfl, keeps_refl _⟩
end GenU
set_option Elab.async false
set_option linter.all false
set_option maxRecDepth 100000
set_option maxHeartbeats 4000000
namespace W5
open PySem PySem.Spec PyProof.Rows L2 Com
def topS (i : Nat) : Stmt := PySem.Challenge.pw_wherewritten_k05_syntax_and_scopes.main.body.getD i (.Pass ⟨0, 0, 0, 0⟩)
abbrev st__begins_as_number : Stmt := topS 5
theorem sc_begins_as_number : FnScope ["word", "first"] ["word"] (defScope st__begins_as_number) := ⟨rfl, rfl, rfl, by decide +kernel, rfl, by decide +kernel, by decide +kernel⟩
abbrev st_is_name : Stmt := topS 4
theorem scis_name : FnScope ["text"] ["text"] (defScope st_is_name) := ⟨rfl, rfl, rfl, by decide +kernel, rfl, by decide +kernel, by decide +kernel⟩
abbrev st_syntax_of : Stmt := topS 7
theorem scsyntax_of : FnScope ["module", "datum", "scopes", "kind", "value", "place", "occurrence", "parts", "part"] ["module", "datum", "scopes"] (defScope st_syntax_of) := ⟨rfl, rfl, rfl, by decide +kernel, rfl, by decide +kernel, by decide +kernel⟩
abbrev st_datum_of : Stmt := topS 8
theorem scdatum_of : FnScope ["syntax", "parts", "part"] ["syntax"] (defScope st_datum_of) := ⟨rfl, rfl, rfl, by decide +kernel, rfl, by decide +kernel, by decide +kernel⟩
abbrev st__set_with : Stmt := topS 9
theorem sc_set_with : FnScope ["scopes", "scope"] ["scopes", "scope"] (defScope st__set_with) := ⟨rfl, rfl, rfl, by decide +kernel, rfl, by decide +kernel, by decide +kernel⟩
abbrev st__set_without : Stmt := topS 10
theorem sc_set_without : FnScope ["scopes", "scope", "one"] ["scopes", "scope"] (defScope st__set_without) := ⟨rfl, rfl, rfl, by decide +kernel, rfl, by decide +kernel, by decide +kernel⟩
abbrev st__set_flipped : Stmt := topS 11
theorem sc_set_flipped : FnScope ["scopes", "scope"] ["scopes", "scope"] (defScope st__set_flipped) := ⟨rfl, rfl, rfl, by decide +kernel, rfl, by decide +kernel, by decide +kernel⟩
abbrev st_changed : Stmt := topS 12
theorem scchanged : FnScope ["syntax", "change", "by", "parts", "part"] ["syntax", "change", "by"] (defScope st_changed) := ⟨rfl, rfl, rfl, by decide +kernel, rfl, by decide +kernel, by decide +kernel⟩
abbrev st_added : Stmt := topS 13
theorem scadded : FnScope ["syntax", "scope"] ["syntax", "scope"] (defScope st_added) := ⟨rfl, rfl, rfl, by decide +kernel, rfl, by decide +kernel, by decide +kernel⟩
abbrev st_removed : Stmt := topS 14
theorem scremoved : FnScope ["syntax", "scope"] ["syntax", "scope"] (defScope st_removed) := ⟨rfl, rfl, rfl, by decide +kernel, rfl, by decide +kernel, by decide +kernel⟩
abbrev st_flipped : Stmt := topS 15
theorem scflipped : FnScope ["syntax", "scope"] ["syntax", "scope"] (defScope st_flipped) := ⟨rfl, rfl, rfl, by decide +kernel, rfl, by decide +kernel, by decide +kernel⟩
abbrev st_identifiers : Stmt := topS 16
theorem scidentifiers : FnScope ["syntax", "found", "left", "part"] ["syntax"] (defScope st_identifiers) := ⟨rfl, rfl, rfl, by decide +kernel, rfl, by decide +kernel, by decide +kernel⟩
abbrev st_size : Stmt := topS 17
theorem scsize : FnScope ["syntax", "many", "left", "part"] ["syntax"] (defScope st_size) := ⟨rfl, rfl, rfl, by decide +kernel, rfl, by decide +kernel, by decide +kernel⟩
abbrev st_depth : Stmt := topS 18
theorem scdepth : FnScope ["syntax", "deep", "part"] ["syntax"] (defScope st_depth) := ⟨rfl, rfl, rfl, by decide +kernel, rfl, by decide +kernel, by decide +kernel⟩
abbrev st__is_count : Stmt := topS 19
theorem sc_is_count : FnScope ["value"] ["value"] (defScope st__is_count) := ⟨rfl, rfl, rfl, by decide +kernel, rfl, by decide +kernel, by decide +kernel⟩
abbrev st__is_scope : Stmt := topS 20
theorem sc_is_scope : FnScope ["value", "module", "number", "shift"] ["value"] (defScope st__is_scope) := ⟨rfl, rfl, rfl, by decide +kernel, rfl, by decide +kernel, by decide +kernel⟩
abbrev st_is_set : Stmt := topS 21
theorem scis_set : FnScope ["value", "at", "scope"] ["value"] (defScope st_is_set) := ⟨rfl, rfl, rfl, by decide +kernel, rfl, by decide +kernel, by decide +kernel⟩
abbrev st__law_tape : Stmt := topS 23
theorem sc_law_tape : FnScope ["script", "cells", "seed", "cell"] ["script"] (defScope st__law_tape) := ⟨rfl, rfl, rfl, by decide +kernel, rfl, by decide +kernel, by decide +kernel⟩
abbrev st__law_take : Stmt := topS 24
theorem sc_law_take : FnScope ["tape", "many", "drawn", "mixed"] ["tape", "many"] (defScope st__law_take) := ⟨rfl, rfl, rfl, by decide +kernel, rfl, by decide +kernel, by decide +kernel⟩
abbrev st__law_is_integer : Stmt := topS 25
theorem sc_law_is_integer : FnScope ["actual"] ["actual"] (defScope st__law_is_integer) := ⟨rfl, rfl, rfl, by decide +kernel, rfl, by decide +kernel, by decide +kernel⟩
abbrev st__law_same_items : Stmt := topS 26
theorem sc_law_same_items : FnScope ["actual", "expected", "k"] ["actual", "expected"] (defScope st__law_same_items) := ⟨rfl, rfl, rfl, by decide +kernel, rfl, by decide +kernel, by decide +kernel⟩
abbrev st__law_same : Stmt := topS 27
theorem sc_law_same : FnScope ["actual", "expected", "key"] ["actual", "expected"] (defScope st__law_same) := ⟨rfl, rfl, rfl, by decide +kernel, rfl, by decide +kernel, by decide +kernel⟩
abbrev st__law_datum : Stmt := topS 28
theorem sc_law_datum : FnScope ["tape", "count", "level", "place", "choice", "many", "kinds", "k"] ["tape", "count", "level"] (defScope st__law_datum) := ⟨rfl, rfl, rfl, by decide +kernel, rfl, by decide +kernel, by decide +kernel⟩
abbrev st__law_scope : Stmt := topS 29
theorem sc_law_scope : FnScope ["tape"] ["tape"] (defScope st__law_scope) := ⟨rfl, rfl, rfl, by decide +kernel, rfl, by decide +kernel, by decide +kernel⟩
abbrev st__law_scopes : Stmt := topS 30
theorem sc_law_scopes : FnScope ["tape", "found", "k", "scope"] ["tape"] (defScope st__law_scopes) := ⟨rfl, rfl, rfl, by decide +kernel, rfl, by decide +kernel, by decide +kernel⟩
abbrev st__law_syntax : Stmt := topS 31
theorem sc_law_syntax : FnScope ["tape", "module", "datum", "kind", "value", "place", "part"] ["tape", "module", "datum"] (defScope st__law_syntax) := ⟨rfl, rfl, rfl, by decide +kernel, rfl, by decide +kernel, by decide +kernel⟩
abbrev st__law_mapped : Stmt := topS 32
theorem sc_law_mapped : FnScope ["syntax", "change", "part"] ["syntax", "change"] (defScope st__law_mapped) := ⟨rfl, rfl, rfl, by decide +kernel, rfl, by decide +kernel, by decide +kernel⟩
abbrev st__law_turned : Stmt := topS 33
theorem sc_law_turned : FnScope ["held", "scope", "one"] ["held", "scope"] (defScope st__law_turned) := ⟨rfl, rfl, rfl, by decide +kernel, rfl, by decide +kernel, by decide +kernel⟩
abbrev st__law_flat : Stmt := topS 34
theorem sc_law_flat : FnScope ["syntax", "found", "part"] ["syntax"] (defScope st__law_flat) := ⟨rfl, rfl, rfl, by decide +kernel, rfl, by decide +kernel, by decide +kernel⟩
abbrev st__law_depth : Stmt := topS 35
theorem sc_law_depth : FnScope ["syntax", "part"] ["syntax"] (defScope st__law_depth) := ⟨rfl, rfl, rfl, by decide +kernel, rfl, by decide +kernel, by decide +kernel⟩
abbrev st__law_sets : Stmt := topS 36
theorem sc_law_sets : FnScope ["tape", "good", "bad"] ["tape"] (defScope st__law_sets) := ⟨rfl, rfl, rfl, by decide +kernel, rfl, by decide +kernel, by decide +kernel⟩
abbrev st_law : Stmt := topS 37
theorem sclaw : FnScope ["script", "tape", "datum", "given", "plain", "syntax", "scope", "flat", "one"] ["script"] (defScope st_law) := ⟨rfl, rfl, rfl, by decide +kernel, rfl, by decide +kernel, by decide +kernel⟩
end W5
set_option Elab.async false
set_option linter.all false
set_option maxRecDepth 100000
set_option maxHeartbeats 4000000
namespace W5
open PySem PySem.Spec PyProof.Rows L2 Com
/-! heaps: all but some addresses stands -/
def Keep (t : Addr) (H H' : Hp) : Prop := ∀ b o, H b = some o → b ≠ t → H' b = some o
theorem Keep.refl (t : Addr) (H : Hp) : Keep t H H := fun _ _ h _ => h
theorem Keep.trans {t : Addr} {H1 H2 H3 : Hp} (a : Keep t H1 H2) (b : Keep t H2 H3) : Keep t H1 H3 := fun c o h n => b c o (a c o h n) n
theorem Keep.at {t : Addr} {H : Hp} {o : HO} : Keep t H (upd H t o) := fun b u h n => by rw [upd_ne n]; exact h
theorem Keep.new {t p : Addr} {H : Hp} {o : HO} (h : H p = none) : Keep t H (upd H p o) := fun b u e _ => by rw [upd_ne (ne_of_none e h)]; exact e
theorem Keep.tk {t : Addr} {H H' : Hp} (k : Keep t H H') (h : ∀ xs, H t ≠ some (.tup xs)) : Tk H H' := fun b xs e => k b _ e (fun z => h xs (z ▸ e))
/-! the tape -/
abbrev kC : Key := Sum.inr "cells"
abbrev kA : Key := Sum.inr "at"
abbrev kL : Key := Sum.inr "left"
abbrev kS : Key := Sum.inr "seed"
abbrev kT : Key := Sum.inr "salt"
def tapeK (c : Addr) (a l s t : Int) : List (Key × V) := [(kC, .ref c), (kA, .int a), (kL, .int l), (kS, .int s), (kT, .int t)]
theorem sCA : ¬ (Str.ofString "cells" = Str.ofString "at") := by decide +kernel
theorem nCA : ¬ kC = kA := fun e => sCA (Sum.inr.inj e)
theorem sCL : ¬ (Str.ofString "cells" = Str.ofString "left") := by decide +kernel
theorem nCL : ¬ kC = kL := fun e => sCL (Sum.inr.inj e)
theorem sCS : ¬ (Str.ofString "cells" = Str.ofString "seed") := by decide +kernel
theorem nCS : ¬ kC = kS := fun e => sCS (Sum.inr.inj e)
theorem sCT : ¬ (Str.ofString "cells" = Str.ofString "salt") := by decide +kernel
theorem nCT : ¬ kC = kT := fun e => sCT (Sum.inr.inj e)
theorem sAL : ¬ (Str.ofString "at" = Str.ofString "left") := by decide +kernel
theorem nAL : ¬ kA = kL := fun e => sAL (Sum.inr.inj e)
theorem sAS : ¬ (Str.ofString "at" = Str.ofString "seed") := by decide +kernel
theorem nAS : ¬ kA = kS := fun e => sAS (Sum.inr.inj e)
theorem sAT : ¬ (Str.ofString "at" = Str.ofString "salt") := by decide +kernel
theorem nAT : ¬ kA = kT := fun e => sAT (Sum.inr.inj e)
theorem sLS : ¬ (Str.ofString "left" = Str.ofString "seed") := by decide +kernel
theorem nLS : ¬ kL = kS := fun e => sLS (Sum.inr.inj e)
theorem sLT : ¬ (Str.ofString "left" = Str.ofString "salt") := by decide +kernel
theorem nLT : ¬ kL = kT := fun e => sLT (Sum.inr.inj e)
theorem sST : ¬ (Str.ofString "seed" = Str.ofString "salt") := by decide +kernel
theorem nST : ¬ kS = kT := fun e => sST (Sum.inr.inj e)
section
variable {c : Addr} {a l s t x : Int}
theorem gC : valV (tapeK c a l s t) kC = some (.ref c) := valV_pos rfl
theorem gA : valV (tapeK c a l s t) kA = some (.int a) := (valV_neg nCA).trans (valV_pos rfl)
theorem gL : valV (tapeK c a l s t) kL = some (.int l) := (valV_neg nCL).trans ((valV_neg nAL).trans (valV_pos rfl))
theorem gS : valV (tapeK c a l s t) kS = some (.int s) := (valV_neg nCS).trans ((valV_neg nAS).trans ((valV_neg nLS).trans (valV_pos rfl)))
theorem gT : valV (tapeK c a l s t) kT = some (.int t) := (valV_neg nCT).trans ((valV_neg nAT).trans ((valV_neg nLT).trans ((valV_neg nST).trans (valV_pos rfl))))
theorem putA : putK (tapeK c a l s t) kA (.int x) = tapeK c x l s t := by
  simp [putK, tapeK, sCA, show ¬ (Str.ofString "left" = Str.ofString "at") from fun e => sAL (Eq.symm e), show ¬ (Str.ofString "seed" = Str.ofString "at") from fun e => sAS (Eq.symm e), show ¬ (Str.ofString "salt" = Str.ofString "at") from fun e => sAT (Eq.symm e)]
theorem putL : putK (tapeK c a l s t) kL (.int x) = tapeK c a x s t := by
  simp [putK, tapeK, sCL, sAL, show ¬ (Str.ofString "seed" = Str.ofString "left") from fun e => sLS (Eq.symm e), show ¬ (Str.ofString "salt" = Str.ofString "left") from fun e => sLT (Eq.symm e)]
theorem putT : putK (tapeK c a l s t) kT (.int x) = tapeK c a l s x := by
  simp [putK, tapeK, sCT, sAT, sLT, sST]
end
theorem mergeT {c : Addr} {a l s t : Int} : mergeK [] (tapeK c a l s t) = tapeK c a l s t := by
  simp [mergeK, putK, tapeK, sCA, sCL, sCS, sCT, sAL, sAS, sAT, sLS, sLT, sST]
theorem dg {H : Hp} {p : Addr} {kvs : List (Key × V)} {k : Key} {v : V} (e : H p = some (.dK kvs)) (g : valV kvs k = some v) : DGet H p (kV k) (some v) := g ▸ DGet.k e
theorem dp {H : Hp} {p : Addr} {kvs kvs' : List (Key × V)} {k : Key} {v : V} (e : H p = some (.dK kvs)) (g : putK kvs k v = kvs') (hl : kvs.length < sizeLine) : DPut H p (kV k) v (upd H p (.dK kvs')) := g ▸ DPut.k e hl
theorem five {c : Addr} {a l s t : Int} : (tapeK c a l s t).length < sizeLine := by show 5 < sizeLine; decide
theorem at_int {cells : List Int} {a : Int} (h0 : 0 ≤ a) (h1 : a < (cells.length : Int)) : atI (cells.map V.int) a = some (.int (cells[a.toNat]'(by omega))) := by
  have e : a = ((a.toNat : Nat) : Int) := by omega
  have q : atI (cells.map V.int) ((a.toNat : Nat) : Int) = some (.int (cells[a.toNat]'(by omega))) := atI_nat (by rw [List.getElem?_map, List.getElem?_eq_getElem (by omega : a.toNat < cells.length)] <;> rfl)
  rw [← e] at q
  exact q
theorem seq_split {t1 t2 : TS} {D : Ends} {σ : L2.St} {H : Hp} (J : L2.St → Hp → Prop) (hJ : ∀ σ' H', J σ' H' → t2 D σ' H') (h1 : (∀ σ' H', J σ' H' → t2 D σ' H') → tSeq t1 t2 D σ H) : tSeq t1 t2 D σ H := h1 hJ
def TapeAt (H : Hp) (p c : Addr) : Prop := ∃ (cells : List Int) (a l s t : Int), 0 ≤ a ∧ H p = some (.dK (tapeK c a l s t)) ∧ H c = some (.lst (cells.map V.int))
theorem TapeAt.notup {H : Hp} {p c : Addr} (h : TapeAt H p c) : ∀ xs, H p ≠ some (.tup xs) := fun xs e => by
  obtain ⟨cells, a, l, s, t, _, h1, _⟩ := h
  rw [h1] at e
  cases e
/-- the names that the module does not bind -/
structure Mg (mg : Str → Option Value) : Prop where
  len : mg "len" = none
  abs : mg "abs" = none
  int : mg "int" = none
  bool : mg "bool" = none
  str : mg "str" = none
  tuple : mg "tuple" = none
  list : mg "list" = none
  range : mg "range" = none
  enumerate : mg "enumerate" = none
  isinstance : mg "isinstance" = none
  sorted : mg "sorted" = none
  max : mg "max" = none
  all : mg "all" = none
section
variable {P : Program} {w : World} {K : PySem.W.Frag} {mg : Str → Option Value} {base : Heap}
def spTape (K : PySem.W.Frag) : Sp := fun vs H Q _ => ∃ (a : Addr) (ns : List Int), vs = [.ref a] ∧ SqL K H a (ns.map V.int) ∧ ns.length ≤ 1000 ∧ ∀ p c H', (∀ b o, H b = some o → H' b = some o) → TapeAt H' p c → Q (.ref p) H'
theorem ok_law_tape {f : Addr} {fd : FuncData} (F : Dfn K mg "_law_tape" st__law_tape f fd ["script"]) (M : Mg mg) : Cal P w K mg base 1 "_law_tape" (spTape K) := by
  refine cal_mk F sc_law_tape (fun vs H Q E h => ?_) (fun cdv A outer s H vs Q E hr h => ?_)
  · obtain ⟨a, ns, rfl, _⟩ := h
    rfl
  obtain ⟨a, ns, rfl, hS, hlen, q⟩ := h
  refine ⟨_, (pss_cons (ps_setLc (i := 1) (own := [("cell", 3)]) (g := gName 3) (by rfl) sc_law_tape.nd rfl rfl (sw_true rfl rfl rfl (by decide +kernel)) (pi_list (pv 0)) (blkOk_by (own := [("cell", 3)]) (N := ["script", "cells", "seed", "cell"]) (sc := defScope st__law_tape) (by decide +kernel)) (fun _ _ _ _ _ => (pg_name (i := 3) sc_law_tape.nd rfl (.inl rfl))) (fun _ _ _ _ _ => pts_nil) (fun _ _ _ _ _ => (pe_callB call_abs (by rfl) M.abs b_abs (pa_cons (pe_callTy call_int1 (by rfl) M.int b_int (pa_cons (pv 3) pa_nil)) pa_nil))))
      (pss_cons (ps_set (i := 2) sc_law_tape.nd rfl (.inl rfl) pe_int)
      (pss_cons (ps_for PassesOwn.never rfl (pi_list (pv 1)) (pg_name (i := 3) sc_law_tape.nd rfl (.inl rfl))
      (pss_one (ps_set (i := 2) sc_law_tape.nd rfl (.inl rfl) (pe_op op_mod (pe_callTy call_int1 (by rfl) M.int b_int (pa_cons (pe_op op_add (pe_op op_mul (pv 2) pe_int) (pv 3)) pa_nil)) pe_int))))
      (pss_one (ps_ret (pe_disp (pps_cons pe_str (pv 1) (pps_cons pe_str pe_int (pps_cons pe_str pe_int (pps_cons pe_str (pv 2) (pps_cons pe_str pe_int pps_nil))))) (by rfl) (by rfl) (fun z => by cases z) (by decide))))))), ?_⟩
  -- cells = [abs(int(cell)) for cell in script]
  refine ⟨_, rfl, a, rfl, ⟨_, hS⟩, fun D nD => ?_⟩
  have sD : ∀ o, Same H (upd H D o) := fun o b u e => by rw [upd_ne (ne_of_none e nD)]; exact e
  refine lc_list (K := K) (a := a) (xs := ns.map V.int) (fun i H' => ∃ zs : List Int, zs.length = i ∧ H' = upd H D (.lst (zs.map V.int))) ⟨[], rfl, rfl⟩ (fun i H' _ ⟨zs, _, e⟩ => by rw [e]; exact (sD _).seq hS) ?_ ?_
  · rintro i x H' hi ⟨zs, hz, rfl⟩
    have hil := (List.getElem?_eq_some_iff.mp hi).1
    rw [List.length_map] at hil
    rw [List.getElem?_map, List.getElem?_eq_getElem hil] at hi
    have ex : x = .int ns[i] := (Option.some.inj hi).symm
    subst ex
    refine ⟨rfl, ?_⟩
    unfold tYes
    refine iteT ?_
    refine ⟨_, rfl, .inl ⟨_, rfl, _, rfl, _, upd_same, ?_, zs ++ [_], by rw [List.length_append, hz]; rfl, by rw [upd_upd, List.map_append]; rfl⟩⟩
    rw [List.length_map, hz]
    exact small1000 (by omega)
  · rintro H' ⟨zs, hz, rfl⟩
    -- seed = 7; for cell in cells
    refine ⟨_, rfl, D, rfl, ⟨_, .inl (.inl upd_same)⟩, for_list (K := K) (a := D) (xs := zs.map V.int) (fun i σ H2 => ∃ (y : Int) (v : Option V), σ = [some (.ref a), some (.ref D), some (.int y), v] ∧ H2 = upd H D (.lst (zs.map V.int)))
      ⟨7, none, rfl, rfl⟩ (fun i σ H2 _ ⟨y, v, _, e⟩ => by rw [e]; exact .inl (.inl upd_same)) ?_ ?_⟩
    · rintro i x σ H2 hi ⟨y, v, rfl, rfl⟩
      obtain ⟨z, rfl⟩ : ∃ z, x = V.int z := by
        rw [List.getElem?_map] at hi
        cases e : zs[i]? with
        | none => rw [e] at hi; cases hi
        | some z => rw [e] at hi; exact ⟨z, (Option.some.inj hi).symm⟩
      exact ⟨_, rfl, _, _, rfl, rfl, .inr (by constructor <;> decide), _, rfl, _, _, rfl, rfl, .inl ⟨_, rfl, _, _, rfl, rfl, (by show (0 : Int) < 2147483647; decide), _, _, rfl, rfl⟩⟩
    · rintro σ H2 ⟨y, v, rfl, rfl⟩
      intro p np
      refine ⟨_, rfl, _, rfl, upd_same, tapeK D 0 0 y 0, rfl, (by show 5 ≤ 15; decide), ?_⟩
      have npD : D ≠ p := ne_of_none upd_same np
      refine q p D _ (fun b o e => ?_) ⟨zs, 0, 0, y, 0, Int.le_refl 0, ?_, ?_⟩
      · have e1 := sD (.lst (zs.map V.int)) b o e
        rw [upd_ne (ne_of_none e1 np), upd_ne (ne_of_none e1 np)]
        exact e1
      · rw [upd_same, mergeT]
      · rw [upd_ne npD, upd_ne npD, upd_same]
/-- _law_take: any draw that may come -/
def spTake : Sp := fun vs H Q _ => ∃ (t c : Addr) (m : Int), vs = [.ref t, .int m] ∧ TapeAt H t c ∧ 0 < m ∧ m < 1000 ∧ ∀ (r : Int) (H' : Hp), 0 ≤ r → r < m → Keep t H H' → TapeAt H' t c → Q (.int r) H'
theorem ok_law_take {f : Addr} {fd : FuncData} (F : Dfn K mg "_law_take" st__law_take f fd ["tape", "many"]) (M : Mg mg) : Cal P w K mg base 1 "_law_take" spTake := by
  refine cal_mk F sc_law_take (fun vs H Q E h => ?_) (fun cdv A outer s H vs Q E hr h => ?_)
  · obtain ⟨t, c, m, rfl, _⟩ := h
    rfl
  obtain ⟨p, c, m, rfl, hT, hm0, hm1, q⟩ := h
  have hu := hu_of hr
  -- behind the first if the tape is a tape again
  refine ⟨_, (pss_cons (ps_if (PW.pt (pw_and (pt_cmpR op_eq (pe_dget hu (pv 0) pe_str (fun _ _ => rfl)) pe_int (nomark _)) (pw_and1 (pt_cmpR op_lt (pe_dget hu (pv 0) pe_str (fun _ _ => rfl)) (pe_callB (cLen K rfl) (by rfl) M.len b_len (pa_cons (pe_dget hu (pv 0) pe_str (fun _ _ => rfl)) pa_nil)) (nomark _))))) (pss_cons (ps_dput hu (pv 0) pe_str (pe_ix (ixL K rfl) (pe_dget hu (pv 0) pe_str (fun _ _ => rfl)) (pe_dget hu (pv 0) pe_str (fun _ _ => rfl)) (fun _ _ => rfl)) rfl)
      (pss_one (ps_dput hu (pv 0) pe_str (pe_op op_add (pe_dget hu (pv 0) pe_str (fun _ _ => rfl)) pe_int) rfl))) pss_nil)
      (pss_cons (ps_if (pt_cmpR op_gt (pe_dget hu (pv 0) pe_str (fun _ _ => rfl)) pe_int (nomark _)) (pss_cons (ps_set (i := 2) sc_law_take.nd rfl (.inl rfl) (pe_op op_mod (pe_callTy call_int1 (by rfl) M.int b_int (pa_cons (pe_dget hu (pv 0) pe_str (fun _ _ => rfl)) pa_nil)) (pv 1)))
      (pss_cons (ps_dput hu (pv 0) pe_str (pe_op op_fdiv (pe_dget hu (pv 0) pe_str (fun _ _ => rfl)) (pv 1)) rfl)
      (pss_one (ps_ret (pv 2))))) pss_nil)
      (pss_cons (ps_dput hu (pv 0) pe_str (pe_op op_add (pe_dget hu (pv 0) pe_str (fun _ _ => rfl)) pe_int) rfl)
      (pss_cons (ps_set (i := 3) sc_law_take.nd rfl (.inl rfl) (pe_op op_mod (pe_callTy call_int1 (by rfl) M.int b_int (pa_cons (pe_op op_add (pe_op op_mul (pe_dget hu (pv 0) pe_str (fun _ _ => rfl)) pe_int) (pe_op op_mul (pe_dget hu (pv 0) pe_str (fun _ _ => rfl)) pe_int)) pa_nil)) pe_int))
      (pss_cons (ps_set (i := 3) sc_law_take.nd rfl (.inl rfl) (pe_op op_mod (pe_callTy call_int1 (by rfl) M.int b_int (pa_cons (pe_op op_add (pe_op op_add (pe_op op_mul (pv 3) (pv 3)) (pe_op op_mul (pe_dget hu (pv 0) pe_str (fun _ _ => rfl)) pe_int)) pe_int) pa_nil)) pe_int))
      (pss_one (ps_ret (pe_op op_mod (pe_callTy call_int1 (by rfl) M.int b_int (pa_cons (pv 3) pa_nil)) (pv 1))))))))), ?_⟩
  refine seq_split (fun σ' H' => σ' = [some (.ref p), some (.int m), none, none] ∧ Keep p H H' ∧ TapeAt H' p c) ?_ (fun rest => ?_)
  · rintro σ' H1 ⟨rfl, k1, cells, a, l, sd, st, ha0, ht, hc⟩
    have npc : c ≠ p := ne_of hc ht (by intro z; cases z)
    -- if tape["left"] > 0
    refine ⟨_, rfl, p, .int l, rfl, dg (k := kL) ht gL, _, _, rfl, rfl, _, rfl, ite2 (fun c1 => ?_) (fun c1 => ?_)⟩
    · have c1' : 0 < l := of_decide_eq_true c1
      refine ⟨_, rfl, p, .int l, rfl, dg (k := kL) ht gL, .inl ⟨_, rfl, _, rfl, _, _, rfl, rfl, hm0, ?_⟩⟩
      refine ⟨_, rfl, p, .int l, rfl, dg (k := kL) ht gL, _, rfl, _, _, rfl, rfl, ⟨hm0, by omega⟩, _, rfl, p, _, rfl, dp (k := kL) ht putL five, _, rfl, ?_⟩
      exact q _ _ (Int.emod_nonneg _ (by omega)) (Int.emod_lt_of_pos _ hm0) (k1.trans Keep.at) ⟨cells, a, l / m, sd, st, ha0, upd_same, by rw [upd_ne npc]; exact hc⟩
    · have ht2 : upd H1 p (.dK (tapeK c a l sd (st + 1))) p = some (.dK (tapeK c a l sd (st + 1))) := upd_same
      refine ⟨_, rfl, p, .int st, rfl, dg (k := kT) ht gT, _, _, rfl, rfl, _, rfl, p, _, rfl, dp (k := kT) ht putT five, ?_⟩
      refine ⟨_, rfl, p, .int sd, rfl, dg (k := kS) ht2 gS, _, _, rfl, rfl, .inr (by constructor <;> decide), _, rfl, p, .int (st + 1), rfl, dg (k := kT) ht2 gT, _, _, rfl, rfl, .inr (by constructor <;> decide), _, _, rfl, rfl, .inl ⟨_, rfl, _, _, rfl, rfl, (by show (0 : Int) < 2147483647; decide), ?_⟩⟩
      have b0 : 0 ≤ (sd * 48271 + (st + 1) * 69621) % 2147483647 := Int.emod_nonneg _ (by decide)
      have b1 : (sd * 48271 + (st + 1) * 69621) % 2147483647 < 2147483647 := Int.emod_lt_of_pos _ (by decide)
      refine ⟨_, rfl, _, rfl, _, _, rfl, rfl, .inl ⟨by omega, by omega⟩, _, rfl, p, .int (st + 1), rfl, dg (k := kT) ht2 gT, _, _, rfl, rfl, .inr (by constructor <;> decide), _, _, rfl, rfl, _, _, rfl, rfl, .inl ⟨_, rfl, _, _, rfl, rfl, (by show (0 : Int) < 2147483399; decide), ?_⟩⟩
      refine ⟨_, rfl, .inl ⟨_, rfl, _, rfl, _, _, rfl, rfl, hm0, ?_⟩⟩
      exact q _ _ (Int.emod_nonneg _ (by omega)) (Int.emod_lt_of_pos _ hm0) (k1.trans Keep.at) ⟨cells, a, l, sd, st + 1, ha0, upd_same, by rw [upd_ne npc]; exact hc⟩
  · obtain ⟨cells, a, l, sd, st, ha0, ht, hc⟩ := id hT
    have npc : c ≠ p := ne_of hc ht (by intro z; cases z)
    refine ⟨_, rfl, p, .int l, rfl, dg (k := kL) ht gL, rfl, _, rfl, ite2 (fun c1 => ?_) (fun c1 => ?_)⟩
    · refine ⟨_, rfl, p, .int a, rfl, dg (k := kA) ht gA, _, rfl, p, .ref c, rfl, dg (k := kC) ht gC, c, _, rfl, .inl (SqL.of hc), _, _, rfl, rfl, _, rfl, ite2 (fun c2 => ?_) (fun c2 => ?_)⟩
      · have c2' : a < ((cells.map V.int).length : Int) := of_decide_eq_true c2
        rw [List.length_map] at c2'
        refine ⟨_, rfl, p, .ref c, rfl, dg (k := kC) ht gC, _, rfl, p, .int a, rfl, dg (k := kA) ht gA, c, _, _, _, rfl, rfl, SqL.of hc, at_int ha0 c2', _, rfl, p, _, rfl, dp (k := kL) ht putL five, ?_⟩
        have ht2 : ∀ z, upd H p (.dK (tapeK c a z sd st)) p = some (.dK (tapeK c a z sd st)) := fun z => upd_same
        refine ⟨_, rfl, p, .int a, rfl, dg (k := kA) (ht2 _) gA, _, _, rfl, rfl, _, rfl, p, _, rfl, dp (k := kA) (ht2 _) putA five, ?_⟩
        exact rest _ _ ⟨rfl, Keep.at.trans Keep.at, cells, a + 1, _, sd, st, by omega, upd_same, by rw [upd_ne npc, upd_ne npc]; exact hc⟩
      · exact rest _ _ ⟨rfl, Keep.refl _ _, hT⟩
    · exact iteF (rest _ _ ⟨rfl, Keep.refl _ _, hT⟩)
end
theorem TapeAt.dk {H : Hp} {t c a : Addr} {xs : List V} (h : TapeAt H t c) (e : H a = some (.lst xs)) : a ≠ t := fun z => by
  obtain ⟨cells, a', l, s, u, _, h1, _⟩ := h
  rw [z, h1] at e
  cases e
theorem TapeAt.new {H : Hp} {t c p : Addr} {o : HO} (h : TapeAt H t c) (n : H p = none) : TapeAt (upd H p o) t c := by
  obtain ⟨cells, a', l, s, u, h0, h1, h2⟩ := h
  exact ⟨cells, a', l, s, u, h0, by rw [upd_ne (ne_of_none h1 n)]; exact h1, by rw [upd_ne (ne_of_none h2 n)]; exact h2⟩
theorem TapeAt.other {H : Hp} {t c p : Addr} {o : HO} (h : TapeAt H t c) (n1 : p ≠ t) (n2 : p ≠ c) : TapeAt (upd H p o) t c := by
  obtain ⟨cells, a', l, s, u, h0, h1, h2⟩ := h
  exact ⟨cells, a', l, s, u, h0, by rw [upd_ne n1.symm]; exact h1, by rw [upd_ne n2.symm]; exact h2⟩
/-- an address that is new where a tape stands is none of the tape's -/
theorem TapeAt.nt {H : Hp} {t c p : Addr} (h : TapeAt H t c) (n : H p = none) : p ≠ t ∧ p ≠ c := by
  obtain ⟨cells, a', l, s, u, h0, h1, h2⟩ := h
  exact ⟨(ne_of_none h1 n).symm, (ne_of_none h2 n).symm⟩
theorem TapeAt.same {H H' : Hp} {t c : Addr} (h : TapeAt H t c) (k : Same H H') : TapeAt H' t c := by
  obtain ⟨cells, a', l, s, u, h0, h1, h2⟩ := h
  exact ⟨cells, a', l, s, u, h0, k _ _ h1, k _ _ h2⟩
theorem Keep.same {t : Addr} {H H' : Hp} (h : Same H H') : Keep t H H' := fun b o e _ => h b o e
theorem Keep.tk2 {t : Addr} {H H' : Hp} {c : Addr} (k : Keep t H H') (h : TapeAt H t c) : Tk H H' := k.tk h.notup
end W5
set_option Elab.async false
set_option linter.all false
set_option maxRecDepth 100000
set_option maxHeartbeats 4000000
namespace W5
open PySem PySem.Spec PyProof.Rows L2 Com
section
variable {P : Program} {w : World} {K : PySem.W.Frag} {mg : Str → Option Value} {base : Heap}
/-! _law_same and its kin: the same data are the same -/
def spInt : Sp := fun vs H Q _ => ∃ i : Int, vs = [.int i] ∧ Q (.bl true) H
theorem kit_int : kitB "int" "int" = some true := by decide +kernel
theorem kit_intb : kitB "int" "bool" = some false := by decide +kernel
theorem ok_law_is_integer {f : Addr} {fd : FuncData} (F : Dfn K mg "_law_is_integer" st__law_is_integer f fd ["actual"]) (M : Mg mg) : Cal P w K mg base 1 "_law_is_integer" spInt := by
  refine cal_mk F sc_law_is_integer (fun vs H Q E h => ?_) (fun cdv A outer s H vs Q E hr h => ?_)
  · obtain ⟨v, rfl, _⟩ := h
    rfl
  obtain ⟨i, rfl, q⟩ := h
  refine ⟨_, (pss_one (ps_ret (pe_and (pe_callB (cIsi K rfl) (by rfl) M.isinstance b_isinstance (pa_cons (pv 0) (pa_cons (pe_bltn (v := .ty "int") (by rfl) M.int b_int rfl) pa_nil))) (pe_one (pe_not (pe_callB (cIsi K rfl) (by rfl) M.isinstance b_isinstance (pa_cons (pv 0) (pa_cons (pe_bltn (v := .ty "bool") (by rfl) M.bool b_bool rfl) pa_nil)))))))), ?_⟩
  refine ⟨_, rfl, _, _, _, _, true, rfl, .ty "int", .base (.int i), kit_ty kit_int, true, rfl, iteT ?_⟩
  exact ⟨_, rfl, _, _, _, _, false, rfl, .ty "bool", .base (.int i), kit_ty kit_intb, false, rfl, q⟩
mutual
/-- no list in it is huge -/
def smD : PyData → Bool
  | .list xs | .tuple xs => decide (xs.length ≤ 1000000) && smAll xs
  | .none | .bool _ | .int _ | .str _ | .dict _ => true
def smAll : List PyData → Bool
  | [] => true
  | x :: xs => smD x && smAll xs
end
theorem smAll_mem : ∀ {ds : List PyData} {d : PyData}, smAll ds = true → d ∈ ds → smD d = true
  | x :: xs, d, h, hm => by
    simp only [smAll, Bool.and_eq_true] at h
    rcases List.mem_cons.mp hm with e | hm
    · rw [e]; exact h.1
    · exact smAll_mem h.2 hm
theorem smAll_map {α : Type} {f : α → PyData} (hf : ∀ x, smD (f x) = true) : ∀ l : List α, smAll (l.map f) = true
  | [] => rfl
  | a :: l => by simp [smAll, hf a, smAll_map hf l]
/-- both stand for one datum of at most this depth -/
def spSame (K : PySem.W.Frag) (n : Nat) : Sp := fun vs H Q _ => ∃ (v u : V) (d : PyData), vs = [v, u] ∧ Dp K H v d ∧ Dp K H u d ∧ d.depth ≤ n ∧ smD d = true ∧ Q (.bl true) H
def spItems (K : PySem.W.Frag) (n : Nat) : Sp := fun vs H Q _ => ∃ (a b : Addr) (xs ys : List V) (ds : List PyData), vs = [.ref a, .ref b] ∧ Sq K H a xs ∧ Sq K H b ys ∧ DpAll K H xs ds ∧ DpAll K H ys ds ∧ PyData.depthAll ds < n ∧ ds.length ≤ 1000000 ∧ smAll ds = true ∧ Q (.bl true) H
theorem DpAll.get {H : Hp} : ∀ {vs : List V} {ds : List PyData} {i : Nat} {x : V}, DpAll K H vs ds → vs[i]? = some x → ∃ d, ds[i]? = some d ∧ Dp K H x d
  | _, _, _, _, .nil, e => by simp at e
  | _, _, 0, _, .cons h _, e => by
    simp at e
    subst e
    exact ⟨_, rfl, h⟩
  | _, _, i + 1, _, .cons _ t, e => by
    simp only [List.getElem?_cons_succ] at e
    obtain ⟨d, h1, h2⟩ := DpAll.get t e
    exact ⟨d, by simpa using h1, h2⟩
theorem depth_mem : ∀ {ds : List PyData} {d : PyData}, d ∈ ds → d.depth ≤ PyData.depthAll ds
  | x :: xs, d, h => by
    simp only [PyData.depthAll]
    rcases List.mem_cons.mp h with e | h
    · rw [e]; omega
    · have := depth_mem h
      omega
theorem ok_law_same_items {f : Addr} {fd : FuncData} {n : Nat} (F : Dfn K mg "_law_same_items" st__law_same_items f fd ["actual", "expected"]) (M : Mg mg) (G_law_same : Cal P w K mg base (2 * n + 2) "_law_same" (spSame K n)) : Cal P w K mg base (2 * n + 2 + 1) "_law_same_items" (spItems K (n + 1)) := by
  refine cal_mk F sc_law_same_items (fun vs H Q E h => ?_) (fun cdv A outer s H vs Q E hr h => ?_)
  · obtain ⟨a, b, xs, ys, ds, rfl, _⟩ := h
    rfl
  obtain ⟨a, b, xs, ys, ds, rfl, ha, hb, hx, hy, hdp, hmil, hsm, q⟩ := h
  have ex := DpAll_len hx
  have ey := DpAll_len hy
  refine ⟨_, (pss_cons (ps_if (pt_cmpR op_ne (pe_callB (cLen K rfl) (by rfl) M.len b_len (pa_cons (pv 0) pa_nil)) (pe_callB (cLen K rfl) (by rfl) M.len b_len (pa_cons (pv 1) pa_nil)) (nomark _)) (pss_one (ps_ret pe_bl)) pss_nil)
      (pss_cons (ps_for PassesOwn.never rfl (pi_range1 (by rfl) M.range (pa_cons (pe_callB (cLen K rfl) (by rfl) M.len b_len (pa_cons (pv 1) pa_nil)) pa_nil)) (pg_name (i := 2) sc_law_same_items.nd rfl (.inl rfl))
      (pss_one (ps_if (pt_not (pt_val (pe_c G_law_same hr (by omega) (by rfl) (pa_cons (pe_ix (ixQ K rfl) (pv 0) (pv 2) (fun _ _ => rfl)) (pa_cons (pe_ix (ixQ K rfl) (pv 1) (pv 2) (fun _ _ => rfl)) pa_nil))))) (pss_one (ps_ret pe_bl)) pss_nil)))
      (pss_one (ps_ret pe_bl)))), ?_⟩
  refine ⟨_, rfl, a, xs, rfl, ha, _, rfl, b, ys, rfl, hb, rfl, _, rfl, ?_⟩
  refine iteNS (by rw [ex, ey]) ?_
  refine ⟨_, rfl, b, ys, rfl, hb, ?_⟩
  refine ⟨_, rfl, by omega, by omega, for_range (lo := 0) (n := ys.length) (fun i σ H2 => ∃ y, σ = [some (.ref a), some (.ref b), y] ∧ H2 = H) ⟨none, rfl, rfl⟩ ?_ ?_⟩
  · rintro i σ H2 hi ⟨y, rfl, rfl⟩
    have hix : i < xs.length := by omega
    obtain ⟨d, hd, dx⟩ := DpAll.get hx (List.getElem?_eq_getElem hix)
    obtain ⟨d', hd', dy⟩ := DpAll.get hy (List.getElem?_eq_getElem hi)
    rw [hd] at hd'
    cases hd'
    have hdm := depth_mem (List.mem_of_getElem? hd)
    have e0 : (0 : Int) + (i : Int) = (i : Int) := Int.zero_add _
    refine ⟨_, rfl, _, rfl, ixq ha (by rw [e0]; exact atN (List.getElem?_eq_getElem hix)) ⟨_, rfl, _, rfl, ixq hb (by rw [e0]; exact atN (List.getElem?_eq_getElem hi)) ⟨_, _, d, rfl, dx, dy, by omega, smAll_mem hsm (List.mem_of_getElem? hd), true, rfl, ?_⟩⟩⟩
    exact iteF ⟨_, rfl, rfl⟩
  · rintro σ H2 ⟨y, rfl, rfl⟩
    exact q
theorem kit_of2 (a b : String) (r : Bool) (h : kitB a b = some r) : PySem.W.kitOne K (.type a) (.type b) = some r := kit_ty h
theorem k_bb : kitB "bool" "bool" = some true := by decide +kernel
theorem k_ib : kitB "int" "bool" = some false := by decide +kernel
theorem k_ii : kitB "int" "int" = some true := by decide +kernel
theorem k_sb : kitB "str" "bool" = some false := by decide +kernel
theorem k_si : kitB "str" "int" = some false := by decide +kernel
theorem k_ss : kitB "str" "str" = some true := by decide +kernel
theorem k_tb : kitB "tuple" "bool" = some false := by decide +kernel
theorem k_ti : kitB "tuple" "int" = some false := by decide +kernel
theorem k_ts : kitB "tuple" "str" = some false := by decide +kernel
theorem k_tt : kitB "tuple" "tuple" = some true := by decide +kernel
theorem k_lb : kitB "list" "bool" = some false := by decide +kernel
theorem k_li : kitB "list" "int" = some false := by decide +kernel
theorem k_ls : kitB "list" "str" = some false := by decide +kernel
theorem k_lt : kitB "list" "tuple" = some false := by decide +kernel
theorem k_ll : kitB "list" "list" = some true := by decide +kernel
theorem tyT {H : Hp} {a : Addr} {xs : List V} (h : SqT K H a xs) : TyX K H (.ref a) (.type "tuple") := by
  rcases h with (h | ⟨o, h⟩) | ⟨o, its, n, h, hc, _⟩
  · exact .base (.tup h)
  · exact .fTuple h
  · exact .kTuple h hc
theorem tyL {H : Hp} {a : Addr} {xs : List V} (h : SqL K H a xs) : TyX K H (.ref a) (.type "list") := by
  rcases h with (h | ⟨o, h⟩) | ⟨o, its, n, h, hc, _⟩
  · exact .base (.lst h)
  · exact .base (.frz h)
  · exact .kList h hc
theorem ok_law_same {f : Addr} {fd : FuncData} {n : Nat} (F : Dfn K mg "_law_same" st__law_same f fd ["actual", "expected"]) (M : Mg mg) (G_law_is_integer : Cal P w K mg base 1 "_law_is_integer" spInt) (G_law_same_items : Cal P w K mg base (2 * n + 1) "_law_same_items" (spItems K n)) : Cal P w K mg base (2 * n + 1 + 1) "_law_same" (spSame K n) := by
  refine cal_mk F sc_law_same (fun vs H Q E h => ?_) (fun cdv A outer s H vs Q E hr h => ?_)
  · obtain ⟨v, u, d, rfl, _⟩ := h
    rfl
  obtain ⟨v, u, d, rfl, hv, hu', hdp, hsm, q⟩ := h
  refine ⟨_, (pss_cons (ps_if (pt_cmpR op_isN (pv 1) pe_non (nomark _)) (pss_one (ps_ret (pe_cmpR op_isN (pv 0) pe_non (nomark _)))) pss_nil)
      (pss_cons (ps_if (pt_val (pe_callB (cIsi K rfl) (by rfl) M.isinstance b_isinstance (pa_cons (pv 1) (pa_cons (pe_bltn (v := .ty "bool") (by rfl) M.bool b_bool rfl) pa_nil)))) (pss_one (ps_ret (pe_and (pe_callB (cIsi K rfl) (by rfl) M.isinstance b_isinstance (pa_cons (pv 0) (pa_cons (pe_bltn (v := .ty "bool") (by rfl) M.bool b_bool rfl) pa_nil))) (pe_one (pe_cmpR op_eq (pv 0) (pv 1) (nomark _)))))) pss_nil)
      (pss_cons (ps_if (pt_val (pe_callB (cIsi K rfl) (by rfl) M.isinstance b_isinstance (pa_cons (pv 1) (pa_cons (pe_bltn (v := .ty "int") (by rfl) M.int b_int rfl) pa_nil)))) (pss_one (ps_ret (pe_and (pe_c G_law_is_integer hr (by omega) (by rfl) (pa_cons (pv 0) pa_nil)) (pe_one (pe_cmpR op_eq (pv 0) (pv 1) (nomark _)))))) pss_nil)
      (pss_cons (ps_if (pt_val (pe_callB (cIsi K rfl) (by rfl) M.isinstance b_isinstance (pa_cons (pv 1) (pa_cons (pe_bltn (v := .ty "str") (by rfl) M.str b_str rfl) pa_nil)))) (pss_one (ps_ret (pe_and (pe_callB (cIsi K rfl) (by rfl) M.isinstance b_isinstance (pa_cons (pv 0) (pa_cons (pe_bltn (v := .ty "str") (by rfl) M.str b_str rfl) pa_nil))) (pe_one (pe_cmpR op_eq (pv 0) (pv 1) (nomark _)))))) pss_nil)
      (pss_cons (ps_if (pt_val (pe_callB (cIsi K rfl) (by rfl) M.isinstance b_isinstance (pa_cons (pv 1) (pa_cons (pe_bltn (v := .ty "tuple") (by rfl) M.tuple b_tuple rfl) pa_nil)))) (pss_one (ps_ret (pe_and (pe_callB (cIsi K rfl) (by rfl) M.isinstance b_isinstance (pa_cons (pv 0) (pa_cons (pe_bltn (v := .ty "tuple") (by rfl) M.tuple b_tuple rfl) pa_nil))) (pe_one (pe_c G_law_same_items hr (by omega) (by rfl) (pa_cons (pv 0) (pa_cons (pv 1) pa_nil))))))) pss_nil)
      (pss_cons (ps_if (pt_val (pe_callB (cIsi K rfl) (by rfl) M.isinstance b_isinstance (pa_cons (pv 1) (pa_cons (pe_bltn (v := .ty "list") (by rfl) M.list b_list rfl) pa_nil)))) (pss_one (ps_ret (pe_and (pe_callB (cIsi K rfl) (by rfl) M.isinstance b_isinstance (pa_cons (pv 0) (pa_cons (pe_bltn (v := .ty "list") (by rfl) M.list b_list rfl) pa_nil))) (pe_one (pe_c G_law_same_items hr (by omega) (by rfl) (pa_cons (pv 0) (pa_cons (pv 1) pa_nil))))))) pss_nil)
      (pss_cons ps_never
      (pss_cons ps_never
      (pss_cons ps_never
      (pss_one ps_never)))))))))), ?_⟩
  cases hv with
  | non =>
    cases hu'
    exact ⟨_, rfl, rfl, _, rfl, iteT ⟨_, rfl, rfl, q⟩⟩
  | bl b =>
    cases hu'
    refine ⟨_, rfl, rfl, _, rfl, iteF ?_⟩
    refine ⟨_, rfl, _, _, _, _, true, rfl, .ty "bool", .base (.bl b), kit_ty k_bb, true, rfl, iteT ?_⟩
    exact ⟨_, rfl, _, _, _, _, true, rfl, .ty "bool", .base (.bl b), kit_ty k_bb, true, rfl, iteT ⟨_, rfl, _, rfl, rfl, by rw [decide_eq_true rfl]; exact q⟩⟩
  | int i =>
    cases hu'
    refine ⟨_, rfl, rfl, _, rfl, iteF ?_⟩
    refine ⟨_, rfl, _, _, _, _, false, rfl, .ty "bool", .base (.int i), kit_ty k_ib, false, rfl, iteF ?_⟩
    refine ⟨_, rfl, _, _, _, _, true, rfl, .ty "int", .base (.int i), kit_ty k_ii, true, rfl, iteT ?_⟩
    exact ⟨_, rfl, i, rfl, true, rfl, iteT ⟨_, rfl, _, rfl, rfl, by rw [decide_eq_true rfl]; exact q⟩⟩
  | str x =>
    cases hu'
    refine ⟨_, rfl, rfl, _, rfl, iteF ?_⟩
    refine ⟨_, rfl, _, _, _, _, false, rfl, .ty "bool", .base (.str x), kit_ty k_sb, false, rfl, iteF ?_⟩
    refine ⟨_, rfl, _, _, _, _, false, rfl, .ty "int", .base (.str x), kit_ty k_si, false, rfl, iteF ?_⟩
    refine ⟨_, rfl, _, _, _, _, true, rfl, .ty "str", .base (.str x), kit_ty k_ss, true, rfl, iteT ?_⟩
    exact ⟨_, rfl, _, _, _, _, true, rfl, .ty "str", .base (.str x), kit_ty k_ss, true, rfl, iteT ⟨_, rfl, _, rfl, rfl, by rw [decide_eq_true rfl]; exact q⟩⟩
  | @tup a xs ds ha hx =>
    cases hu' with
    | @tup b ys _ hb hy =>
    refine ⟨_, rfl, rfl, _, rfl, iteF ?_⟩
    refine ⟨_, rfl, _, _, _, _, false, rfl, .ty "bool", tyT hb, kit_ty k_tb, false, rfl, iteF ?_⟩
    refine ⟨_, rfl, _, _, _, _, false, rfl, .ty "int", tyT hb, kit_ty k_ti, false, rfl, iteF ?_⟩
    refine ⟨_, rfl, _, _, _, _, false, rfl, .ty "str", tyT hb, kit_ty k_ts, false, rfl, iteF ?_⟩
    refine ⟨_, rfl, _, _, _, _, true, rfl, .ty "tuple", tyT hb, kit_ty k_tt, true, rfl, iteT ?_⟩
    refine ⟨_, rfl, _, _, _, _, true, rfl, .ty "tuple", tyT ha, kit_ty k_tt, true, rfl, iteT ?_⟩
    simp only [PyData.depth] at hdp
    simp only [smD, Bool.and_eq_true, decide_eq_true_eq] at hsm
    exact ⟨_, rfl, _, rfl, a, b, xs, ys, ds, rfl, .inr ha, .inr hb, hx, hy, by omega, hsm.1, hsm.2, q⟩
  | @lst a xs ds ha hx =>
    cases hu' with
    | @lst b ys _ hb hy =>
    refine ⟨_, rfl, rfl, _, rfl, iteF ?_⟩
    refine ⟨_, rfl, _, _, _, _, false, rfl, .ty "bool", tyL hb, kit_ty k_lb, false, rfl, iteF ?_⟩
    refine ⟨_, rfl, _, _, _, _, false, rfl, .ty "int", tyL hb, kit_ty k_li, false, rfl, iteF ?_⟩
    refine ⟨_, rfl, _, _, _, _, false, rfl, .ty "str", tyL hb, kit_ty k_ls, false, rfl, iteF ?_⟩
    refine ⟨_, rfl, _, _, _, _, false, rfl, .ty "tuple", tyL hb, kit_ty k_lt, false, rfl, iteF ?_⟩
    refine ⟨_, rfl, _, _, _, _, true, rfl, .ty "list", tyL hb, kit_ty k_ll, true, rfl, iteT ?_⟩
    refine ⟨_, rfl, _, _, _, _, true, rfl, .ty "list", tyL ha, kit_ty k_ll, true, rfl, iteT ?_⟩
    simp only [PyData.depth] at hdp
    simp only [smD, Bool.and_eq_true, decide_eq_true_eq] at hsm
    exact ⟨_, rfl, _, rfl, a, b, xs, ys, ds, rfl, .inl ha, .inl hb, hx, hy, by omega, hsm.1, hsm.2, q⟩
theorem items0 {f : Addr} {fd : FuncData} (F : Dfn K mg "_law_same_items" st__law_same_items f fd ["actual", "expected"]) : Cal P w K mg base 1 "_law_same_items" (spItems K 0) := by
  have no : ∀ vs H Q E, ¬ spItems K 0 vs H Q E := fun vs H Q E h => by
    obtain ⟨a, b, xs, ys, ds, _, _, _, _, _, h1, _⟩ := h
    omega
  exact ⟨f, fd, _, ⟨fun vs H Q E h => absurd h (no vs H Q E), fun A outer s H args us vs Q E _ _ _ _ h => absurd h (no vs H Q E)⟩, F.mgf, F.fn.kp, F.b⟩
theorem same_all {f g i : Addr} {fd gd id : FuncData} (F : Dfn K mg "_law_same" st__law_same f fd ["actual", "expected"]) (G : Dfn K mg "_law_same_items" st__law_same_items g gd ["actual", "expected"]) (I : Dfn K mg "_law_is_integer" st__law_is_integer i id ["actual"]) (M : Mg mg) :
    ∀ n : Nat, Cal P w K mg base (2 * n + 1 + 1) "_law_same" (spSame K n) ∧ Cal P w K mg base (2 * n + 1) "_law_same_items" (spItems K n)
  | 0 => ⟨ok_law_same F M (ok_law_is_integer I M) (items0 G), items0 G⟩
  | n + 1 => by
    have h := ok_law_same_items G M (same_all F G I M n).1
    exact ⟨ok_law_same F M (ok_law_is_integer I M) h, h⟩
end
end W5
set_option Elab.async false
set_option linter.all false
set_option maxRecDepth 100000
set_option maxHeartbeats 4000000
namespace W5
open PySem PySem.Spec PyProof.Rows L2 Com EnumT
/-! sets as data -/
abbrev NmOk (nm : Str) : Prop := PyData.strOk nm = true
theorem scD_inj {x y : Sc} (h : scD x = scD y) : x = y := by
  obtain ⟨a, b, c⟩ := x
  obtain ⟨d, e, f⟩ := y
  simp only [scD, PyData.tuple.injEq, List.cons.injEq, PyData.int.injEq, PyData.str.injEq, and_true] at h
  rw [h.1, h.2.1, h.2.2]
theorem pl_sc (x : Sc) : pl (scD x) = true := by simp [scD, pl, plAll]
theorem plAll_map {α : Type} {f : α → PyData} (hf : ∀ x, pl (f x) = true) : ∀ l : List α, plAll (l.map f) = true
  | [] => rfl
  | a :: l => by simp [plAll, hf a, plAll_map hf l]
theorem lay_sc {x : Sc} (h : NmOk x.1) : (scD x).canLay0 = true := by simp [scD, PyData.canLay0, PyData.canLayAll0, h]
theorem layAll_mem : ∀ {ds : List PyData}, (∀ d ∈ ds, d.canLay0 = true) → PyData.canLayAll0 ds = true
  | [], _ => rfl
  | a :: l, h => by simp [PyData.canLayAll0, h a List.mem_cons_self, layAll_mem (ds := l) fun d hd => h d (List.mem_cons_of_mem _ hd)]
theorem dep_sc (x : Sc) : (scD x).depth = 1 := by simp [scD, PyData.depth, PyData.depthAll]
theorem depAll_map {α : Type} {f : α → PyData} {n : Nat} (hf : ∀ x, (f x).depth ≤ n) : ∀ l : List α, PyData.depthAll (l.map f) ≤ n
  | [] => by simp [PyData.depthAll]
  | a :: l => by
    have h1 := hf a
    have h2 := depAll_map hf l
    simp only [List.map_cons, PyData.depthAll]
    omega
theorem dep_set (s : List Sc) : (setD s).depth ≤ 2 := by
  have := depAll_map (f := scD) (n := 1) (fun x => Nat.le_of_eq (dep_sc x)) s
  simp only [setD, PyData.depth]
  omega
theorem shp {d : PyData} (h1 : d.canLay0 = true) (h2 : d.depth ≤ 64) : SeqAt.shaped d = true := by
  show (d.canLay0 && decide (d.depth ≤ 64)) = true
  rw [Bool.and_eq_true]
  exact ⟨h1, decide_eq_true h2⟩
abbrev OkSet (s : List Sc) : Prop := ∀ x ∈ s, NmOk x.1
theorem lay_scs {s : List Sc} (h : OkSet s) : PyData.canLayAll0 (s.map scD) = true := layAll_mem fun d hd => by
  obtain ⟨x, hx, rfl⟩ := List.mem_map.mp hd
  exact lay_sc (h x hx)
theorem sh_sc {x : Sc} (h : NmOk x.1) : SeqAt.shaped (scD x) = true := shp (lay_sc h) (by rw [dep_sc]; decide)
theorem sh_set {s : List Sc} (h : OkSet s) : SeqAt.shaped (setD s) = true := shp (by simp only [setD, PyData.canLay0]; exact lay_scs h) (by have := dep_set s; omega)
theorem sh_lst {s : List Sc} (h : OkSet s) : SeqAt.shaped (.list (s.map scD)) = true := by
  refine shp (by simp only [PyData.canLay0]; exact lay_scs h) ?_
  have := depAll_map (f := scD) (n := 1) (fun x => Nat.le_of_eq (dep_sc x)) s
  simp only [PyData.depth]
  omega
theorem any_sc (s : List Sc) (x : Sc) : ((s.map scD).any fun z => PyData.eqv z (scD x)) = decide (x ∈ s) := by
  rw [Bool.eq_iff_iff, any_pl (plAll_map pl_sc s) (pl_sc x), decide_eq_true_iff, List.mem_map]
  constructor
  · rintro ⟨y, hy, e⟩
    rw [← scD_inj e]
    exact hy
  · intro h
    exact ⟨x, h, rfl⟩
theorem eqv_sc (x y : Sc) : PyData.eqv (scD x) (scD y) = decide (x = y) := by
  rw [Bool.eq_iff_iff, eqv_pl _ _ (pl_sc x) (pl_sc y), decide_eq_true_iff]
  exact ⟨scD_inj, fun h => by rw [h]⟩
theorem tuple_of {K : PySem.W.Frag} {H : Hp} {a : Addr} {ys : List V} {ds : List PyData} {Q : VK} (ha : SqL K H a ys) (hd : DtAll H ys ds) (q : ∀ p H', Same H H' → Dt H' (.ref p) (.tuple ds) → Q (.ref p) H') : rTupOf K [.ref a] H Q :=
  ⟨a, ys, rfl, .inl ⟨ha, fun p np => q p _ (same_upd np) (.tup upd_same (hd.tk (same_tk (same_upd np))))⟩⟩
theorem sorted_sc {K : PySem.W.Frag} {H : Hp} {a : Addr} {ys : List V} {s : List Sc} {Q : VK} (ha : SqL K H a ys) (hd : DtAll H ys (s.map scD)) (q : ∀ p H' zs, Same H H' → H' p = some (.lst zs) → DtAll H' zs ((srt s).map scD) → Q (.ref p) H') : rSortedD K [.ref a] H Q := by
  refine ⟨a, ys, _, rfl, ha, hd.dp, ?_, ?_, fun d hd => ?_, fun p np => ?_⟩
  · exact PySem.W.AllAlike.of fun b b' => by simp [scD, PySem.W.alike, PySem.W.alikeAll]
  · exact PySem.W.Sortable.tuples fun b => ⟨_, _, rfl⟩
  · obtain ⟨x, _, rfl⟩ := List.mem_map.mp hd
    rw [dep_sc]
    decide
  · exact q p _ _ (same_upd np) upd_same ((sorted_enc hd).tk (same_tk (same_upd np)))
theorem tc {v : V} {σ : L2.St} {H : Hp} {Q : VK} (h : Q v H) : tC v σ H Q := h
theorem ixt {K : PySem.W.Frag} {H : Hp} {p : Addr} {xs : List V} {i : Int} {v : V} {Q : VK} (h : H p = some (.tup xs)) (e : atI xs i = some v) (q : Q v H) : rIxT K (.ref p) (.int i) H Q := ⟨p, xs, i, v, rfl, rfl, SqT.of h, e, q⟩
theorem ixl {K : PySem.W.Frag} {H : Hp} {p : Addr} {xs : List V} {i : Int} {v : V} {Q : VK} (h : H p = some (.lst xs)) (e : atI xs i = some v) (q : Q v H) : rIxL K (.ref p) (.int i) H Q := ⟨p, xs, i, v, rfl, rfl, SqL.of h, e, q⟩
theorem same_lst {H : Hp} {a p : Addr} {xs : List V} {o : HO} (h : H a = some (.lst xs)) (n : H p = none) : upd H p o a = some (.lst xs) := by
  rw [upd_ne (ne_of_none h n)]
  exact h
section
variable {P : Program} {w : World} {K : PySem.W.Frag} {mg : Str → Option Value} {base : Heap}
def spSetF (g : Sc → List Sc → List Sc) : Sp := fun vs H Q _ => ∃ (v u : V) (s : List Sc) (c : Sc), vs = [v, u] ∧ Dt H v (setD s) ∧ Dt H u (scD c) ∧ OkSet s ∧ NmOk c.1 ∧ s.length ≤ 500 ∧ ∀ r H', Same H H' → Dt H' r (setD (g c s)) → Q r H'
theorem ok_set_with {f : Addr} {fd : FuncData} (F : Dfn K mg "_set_with" st__set_with f fd ["scopes", "scope"]) (M : Mg mg) : Cal P w K mg base 1 "_set_with" (spSetF withS) := by
  refine cal_mk F sc_set_with (fun vs H Q E h => ?_) (fun cdv A outer s H vs Q E hr h => ?_)
  · obtain ⟨v, u, s, c, rfl, _⟩ := h
    rfl
  obtain ⟨v, u, sc, c, rfl, hs, hc, ok, okc, h500, q⟩ := h
  obtain ⟨a, xs, rfl, ha, hxs⟩ := Dt.tupE hs
  have hl := hxs.len
  rw [List.length_map] at hl
  refine ⟨_, (pss_cons (ps_if (pt_cmpR (opInT K rfl (units65 hr)) (pv 1) (pv 0) (by rfl)) (pss_one (ps_ret (pv 0))) pss_nil)
      (pss_one (ps_ret (pe_callTy (cTup K rfl) (by rfl) M.tuple b_tuple (pa_cons (pe_callB (cSort K rfl (units65 hr)) (by rfl) M.sorted b_sorted (pa_cons (pe_lst (StX.pa_star (pv 0) (pa_cons (pv 1) pa_nil))) pa_nil)) pa_nil))))), ?_⟩
  refine ⟨_, rfl, _, rfl, _, _, hc.dp, hs.dp, sh_sc okc, sh_set ok, _, rfl, ?_⟩
  rw [any_sc]
  by_cases hm : c ∈ sc
  · rw [decide_eq_true hm]
    refine iteT ⟨_, rfl, q _ _ (fun _ _ e => e) ?_⟩
    rw [withS, if_pos hm]
    exact hs
  · rw [decide_eq_false hm]
    refine iteF ⟨_, rfl, a, xs, rfl, .inl (SqT.of ha), _, rfl, ?_, fun p np => ?_⟩
    · rw [List.length_append]
      exact Nat.le_of_lt (small1000 (by simp; omega))
    · have k := same_upd (o := .lst (xs ++ [u])) np
      have d : DtAll (upd H p (.lst (xs ++ [u]))) (xs ++ [u]) ((sc ++ [c]).map scD) := by
        rw [List.map_append]
        exact (hxs.app (.one hc)).tk (same_tk k)
      dsimp only [tNil]
      refine sorted_sc (SqL.of upd_same) d fun p2 H2 zs k2 h2 d2 => ?_
      refine tuple_of (SqL.of h2) d2 fun p3 H3 k3 d3 => ?_
      refine q _ _ ((k.trans k2).trans k3) ?_
      rw [withS, if_neg hm]
      exact d3
theorem ok_set_without {f : Addr} {fd : FuncData} (F : Dfn K mg "_set_without" st__set_without f fd ["scopes", "scope"]) (M : Mg mg) : Cal P w K mg base 1 "_set_without" (spSetF withoutS) := by
  refine cal_mk F sc_set_without (fun vs H Q E h => ?_) (fun cdv A outer s H vs Q E hr h => ?_)
  · obtain ⟨v, u, s, c, rfl, _⟩ := h
    rfl
  obtain ⟨v, u, sc, c, rfl, hs, hc, ok, okc, h500, q⟩ := h
  obtain ⟨a, xs, rfl, ha, hxs⟩ := Dt.tupE hs
  have hl := hxs.len
  rw [List.length_map] at hl
  refine ⟨_, (pss_one (ps_ret (pe_callTy (cTup K rfl) (by rfl) M.tuple b_tuple (pa_cons (pe_lc (own := [("one", 2)]) (g := gName 2) (by rfl) sc_set_without.nd (pi_tup (pv 0)) (blkOk_by (own := [("one", 2)]) (N := ["scopes", "scope", "one"]) (sc := defScope st__set_without) (by decide +kernel)) (fun _ _ _ _ _ => (pg_name (i := 2) sc_set_without.nd rfl (.inl rfl))) (fun _ _ _ _ _ => (pts_one (pt_cmpR (opNeD K rfl hr.units) (pv 2) (pv 1) (nomark _)))) (fun _ _ _ _ _ => (pv 2))) pa_nil)))), ?_⟩
  refine ⟨_, rfl, a, rfl, ⟨_, SqT.of ha⟩, fun D nD => ?_⟩
  have sD : ∀ o, Same H (upd H D o) := fun o => same_upd nD
  refine lc_tup (K := K) (a := a) (xs := xs) (fun i H' => ∃ (ys : List V), H' = upd H D (.lst ys) ∧ DtAll H ys (((sc.take i).filter fun x => !decide (x = c)).map scD) ∧ ys.length ≤ i) ⟨[], rfl, .nil, Nat.le_refl _⟩ (fun i H' _ ⟨ys, e, _⟩ => by rw [e]; exact same_sqT (sD _) (SqT.of ha)) ?_ ?_
  · rintro i x H' hi ⟨ys, rfl, hy, hlen⟩
    obtain ⟨z, hzi, hd⟩ := hxs.get_map hi
    have k1 := same_tk (sD (.lst ys))
    have et : sc.take (i + 1) = sc.take i ++ [z] := by rw [List.take_add_one, hzi]; rfl
    have okz := ok z (List.mem_of_getElem? hzi)
    refine ⟨rfl, _, rfl, _, rfl, _, _, (hd.tk k1).dp, (hc.tk k1).dp, sh_sc okz, sh_sc okc, _, rfl, ?_⟩
    rw [eqv_sc]
    by_cases hm : z = c
    · rw [decide_eq_true hm]
      refine iteF ⟨ys, rfl, ?_, Nat.le_succ_of_le hlen⟩
      rw [et, List.filter_append, List.map_append]
      simpa [hm] using hy
    · rw [decide_eq_false hm]
      refine iteT ⟨_, rfl, _, upd_same, ?_, ys ++ [_], upd_upd, ?_, ?_⟩
      · have h3 := (List.getElem?_eq_some_iff.mp hzi).1
        exact small1000 (by omega)
      · rw [et, List.filter_append, List.map_append]
        refine hy.app ?_
        simp only [List.filter_cons, hm, decide_false, Bool.not_false, if_true, List.filter_nil, List.map_cons, List.map_nil]
        exact .one hd
      · rw [List.length_append]
        exact Nat.add_le_add_right hlen 1
  · rintro H' ⟨ys, rfl, hy, hlen⟩
    rw [hxs.len, List.length_map, List.take_length] at hy
    refine tuple_of (SqL.of upd_same) (hy.tk (same_tk (sD _))) fun p3 H3 k3 d3 => ?_
    exact q _ _ ((sD _).trans k3) d3
theorem ok_set_flipped {f : Addr} {fd : FuncData} (F : Dfn K mg "_set_flipped" st__set_flipped f fd ["scopes", "scope"]) (M : Mg mg) (G_set_with : Cal P w K mg base 1 "_set_with" (spSetF withS)) (G_set_without : Cal P w K mg base 1 "_set_without" (spSetF withoutS)) : Cal P w K mg base 2 "_set_flipped" (spSetF flipS) := by
  refine cal_mk F sc_set_flipped (fun vs H Q E h => ?_) (fun cdv A outer s H vs Q E hr h => ?_)
  · obtain ⟨v, u, s, c, rfl, _⟩ := h
    rfl
  obtain ⟨v, u, sc, c, rfl, hs, hc, ok, okc, h500, q⟩ := h
  refine ⟨_, (pss_cons (ps_if (pt_cmpR (opInT K rfl (units65 hr)) (pv 1) (pv 0) (by rfl)) (pss_one (ps_ret (pe_c G_set_without hr (by omega) (by rfl) (pa_cons (pv 0) (pa_cons (pv 1) pa_nil))))) pss_nil)
      (pss_one (ps_ret (pe_c G_set_with hr (by omega) (by rfl) (pa_cons (pv 0) (pa_cons (pv 1) pa_nil)))))), ?_⟩
  refine ⟨_, rfl, _, rfl, _, _, hc.dp, hs.dp, sh_sc okc, sh_set ok, _, rfl, ?_⟩
  rw [any_sc]
  by_cases hm : c ∈ sc
  · rw [decide_eq_true hm]
    refine iteT ⟨_, rfl, _, rfl, v, u, sc, c, rfl, hs, hc, ok, okc, h500, fun r H' k d => q r H' k ?_⟩
    rw [flipS, if_pos hm]
    exact d
  · rw [decide_eq_false hm]
    refine iteF ⟨_, rfl, _, rfl, v, u, sc, c, rfl, hs, hc, ok, okc, h500, fun r H' k d => q r H' k ?_⟩
    rw [flipS, if_neg hm]
    exact d
/-! the law's turning -/
def spTurned : Sp := fun vs H Q _ => ∃ (a : Addr) (xs : List V) (u : V) (s : List Sc) (c : Sc), vs = [.ref a, u] ∧ H a = some (.lst xs) ∧ DtAll H xs (s.map scD) ∧ Dt H u (scD c) ∧ OkSet s ∧ NmOk c.1 ∧ s.length ≤ 500 ∧ ∀ r H' ys, Same H H' → H' r = some (.lst ys) → DtAll H' ys ((lawTurned c s).map scD) → Q (.ref r) H'
theorem ok_law_turned {f : Addr} {fd : FuncData} (F : Dfn K mg "_law_turned" st__law_turned f fd ["held", "scope"]) (M : Mg mg) : Cal P w K mg base 1 "_law_turned" spTurned := by
  refine cal_mk F sc_law_turned (fun vs H Q E h => ?_) (fun cdv A outer s H vs Q E hr h => ?_)
  · obtain ⟨v, xs, u, s, c, rfl, _⟩ := h
    rfl
  obtain ⟨a, xs, u, sc, c, rfl, ha, hxs, hc, ok, okc, h500, q⟩ := h
  have hl := hxs.len
  rw [List.length_map] at hl
  refine ⟨_, (pss_one (ps_ret (pe_ifExp (pt_cmpR (opInD K rfl (units65 hr)) (pv 1) (pv 0) (by rfl)) (pe_lc (own := [("one", 2)]) (g := gName 2) (by rfl) sc_law_turned.nd (pi_list (pv 0)) (blkOk_by (own := [("one", 2)]) (N := ["held", "scope", "one"]) (sc := defScope st__law_turned) (by decide +kernel)) (fun _ _ _ _ _ => (pg_name (i := 2) sc_law_turned.nd rfl (.inl rfl))) (fun _ _ _ _ _ => (pts_one (pt_cmpR (opNeD K rfl hr.units) (pv 2) (pv 1) (nomark _)))) (fun _ _ _ _ _ => (pv 2))) (pe_op op_cat (pv 0) (pe_lst (pa_cons (pv 1) pa_nil)))))), ?_⟩
  refine ⟨_, rfl, _, rfl, _, _, hc.dp, .lst (SqL.of ha) hxs.dp, sh_sc okc, sh_lst ok, _, rfl, ?_⟩
  rw [any_sc]
  by_cases hm : c ∈ sc
  · rw [decide_eq_true hm]
    refine iteT ?_
    refine ⟨_, rfl, a, rfl, ⟨_, SqL.of ha⟩, fun D nD => ?_⟩
    have sD : ∀ o, Same H (upd H D o) := fun o => same_upd nD
    refine lc_list (K := K) (a := a) (xs := xs) (fun i H' => ∃ (ys : List V), H' = upd H D (.lst ys) ∧ DtAll H ys (((sc.take i).filter fun x => !decide (x = c)).map scD) ∧ ys.length ≤ i) ⟨[], rfl, .nil, Nat.le_refl _⟩ (fun i H' _ ⟨ys, e, _⟩ => by rw [e]; exact SqL.of (sD _ _ _ ha)) ?_ ?_
    · rintro i x H' hi ⟨ys, rfl, hy, hlen⟩
      obtain ⟨z, hzi, hd⟩ := hxs.get_map hi
      have k1 := same_tk (sD (.lst ys))
      have et : sc.take (i + 1) = sc.take i ++ [z] := by rw [List.take_add_one, hzi]; rfl
      have okz := ok z (List.mem_of_getElem? hzi)
      refine ⟨rfl, _, rfl, _, rfl, _, _, (hd.tk k1).dp, (hc.tk k1).dp, sh_sc okz, sh_sc okc, _, rfl, ?_⟩
      rw [eqv_sc]
      by_cases hm : z = c
      · rw [decide_eq_true hm]
        refine iteF ⟨ys, rfl, ?_, Nat.le_succ_of_le hlen⟩
        rw [et, List.filter_append, List.map_append]
        simpa [hm] using hy
      · rw [decide_eq_false hm]
        refine iteT ⟨_, rfl, _, upd_same, ?_, ys ++ [_], upd_upd, ?_, ?_⟩
        · have h3 := (List.getElem?_eq_some_iff.mp hzi).1
          exact small1000 (by omega)
        · rw [et, List.filter_append, List.map_append]
          refine hy.app ?_
          simp only [List.filter_cons, hm, decide_false, Bool.not_false, if_true, List.filter_nil, List.map_cons, List.map_nil]
          exact .one hd
        · rw [List.length_append]
          exact Nat.add_le_add_right hlen 1
    · rintro H' ⟨ys, rfl, hy, hlen⟩
      rw [hl, List.take_length] at hy
      refine q D _ ys (sD _) upd_same ?_
      rw [lawTurned, if_pos hm]
      exact hy.tk (same_tk (sD _))
  · rw [decide_eq_false hm]
    refine iteF ⟨_, rfl, _, rfl, Nat.le_of_lt (small1000 (by simp)), fun p np => ?_⟩
    have k := same_upd (o := .lst [u]) np
    refine ⟨a, p, xs, [u], rfl, rfl, k _ _ ha, upd_same, Nat.le_of_lt (small1000 (by simp; omega)), fun p2 np2 => ?_⟩
    have k2 := same_upd (o := .lst (xs ++ [u])) np2
    refine q p2 _ _ (k.trans k2) upd_same ?_
    rw [lawTurned, if_neg hm, List.map_append]
    exact (hxs.app (.one hc)).tk (same_tk (k.trans k2))
end
end W5
set_option Elab.async false
set_option linter.all false
set_option maxRecDepth 100000
set_option maxHeartbeats 4000000
namespace W5
open PySem PySem.Spec PyProof.Rows L2 Com EnumT
structure GoodSc (x : Sc) : Prop where
  nm : x.1 = "m" ∨ x.1 = "a" ∨ x.1 = "zz"
  n0 : 0 ≤ x.2.1
  s0 : 0 ≤ x.2.2
theorem GoodSc.ok {x : Sc} (h : GoodSc x) : NmOk x.1 := by
  rcases h.nm with e | e | e <;> rw [e] <;> decide +kernel
theorem three {r : Int} (h0 : 0 ≤ r) (h1 : r < 3) : ∃ nm : Str, (nm = "m" ∨ nm = "a" ∨ nm = "zz") ∧ atI [V.str "m", V.str "a", V.str "zz"] r = some (.str nm) := by
  have h : r = 0 ∨ r = 1 ∨ r = 2 := by omega
  rcases h with h | h | h <;> subst h
  · exact ⟨_, .inl rfl, atI_nat (j := 0) rfl⟩
  · exact ⟨_, .inr (.inl rfl), atI_nat (j := 1) rfl⟩
  · exact ⟨_, .inr (.inr rfl), atI_nat (j := 2) rfl⟩
section
variable {P : Program} {w : World} {K : PySem.W.Frag} {mg : Str → Option Value} {base : Heap}
def spScope : Sp := fun vs H Q _ => ∃ (t c : Addr), vs = [.ref t] ∧ TapeAt H t c ∧ ∀ v H' x, Keep t H H' → TapeAt H' t c → Dt H' v (scD x) → GoodSc x → Q v H'
theorem ok_law_scope {f : Addr} {fd : FuncData} (F : Dfn K mg "_law_scope" st__law_scope f fd ["tape"]) (M : Mg mg) (G_law_take : Cal P w K mg base 1 "_law_take" spTake) : Cal P w K mg base 2 "_law_scope" spScope := by
  refine cal_mk F sc_law_scope (fun vs H Q E h => ?_) (fun cdv A outer s H vs Q E hr h => ?_)
  · obtain ⟨t, c, rfl, _⟩ := h
    rfl
  obtain ⟨t, c, rfl, hT, q⟩ := h
  refine ⟨_, (pss_one (ps_ret (pe_tup (pa_cons (pe_ix (ixL K rfl) (pe_lst (pa_cons pe_str (pa_cons pe_str (pa_cons pe_str pa_nil)))) (pe_c G_law_take hr (by omega) (by rfl) (pa_cons (pv 0) (pa_cons pe_int pa_nil))) (fun _ _ => rfl)) (pa_cons (pe_c G_law_take hr (by omega) (by rfl) (pa_cons (pv 0) (pa_cons pe_int pa_nil))) (pa_cons (pe_c G_law_take hr (by omega) (by rfl) (pa_cons (pv 0) (pa_cons pe_int pa_nil))) pa_nil)))))), ?_⟩
  refine ⟨by show 3 ≤ sizeLine; decide, fun l nl => ?_⟩
  have k0 := same_upd (o := .lst [.str "m", .str "a", .str "zz"]) nl
  have l0 : upd H l (.lst [.str "m", .str "a", .str "zz"]) l = some (.lst [.str "m", .str "a", .str "zz"]) := upd_same
  generalize upd H l (.lst [.str "m", .str "a", .str "zz"]) = H0 at k0 l0 ⊢
  have t0 := hT.same k0
  refine ⟨_, rfl, t, c, 3, rfl, t0, by decide, by decide, fun r1 H1 a0 a1 k1 t1 => ?_⟩
  obtain ⟨nm, hnm, hat⟩ := three a0 a1
  refine ixl (k1 _ _ l0 (t0.dk l0)) hat ?_
  refine ⟨_, rfl, t, c, 4, rfl, t1, by decide, by decide, fun r2 H2 b0 b1 k2 t2 => ?_⟩
  refine ⟨_, rfl, t, c, 3, rfl, t2, by decide, by decide, fun r3 H3 c0 c1 k3 t3 => ?_⟩
  refine ⟨by show 3 ≤ sizeLine; decide, fun p np => ?_⟩
  have k4 := same_upd (o := .tup [.str nm, .int r2, .int r3]) np
  refine q _ _ (nm, r2, r3) ((((Keep.same k0).trans k1).trans k2).trans k3 |>.trans (Keep.same k4)) (t3.same k4) (.tup upd_same (.cons (.str _) (.cons (.int _) (.cons (.int _) .nil)))) ⟨hnm, b0, c0⟩
def spScopes : Sp := fun vs H Q _ => ∃ (t c : Addr), vs = [.ref t] ∧ TapeAt H t c ∧ ∀ v H' s, Keep t H H' → TapeAt H' t c → Dt H' v (setD s) → Canon s → (∀ x ∈ s, GoodSc x) → s.length ≤ 3 → Q v H'
theorem ok_law_scopes {f : Addr} {fd : FuncData} (F : Dfn K mg "_law_scopes" st__law_scopes f fd ["tape"]) (M : Mg mg) (G_law_take : Cal P w K mg base 1 "_law_take" spTake) (G_law_scope : Cal P w K mg base 2 "_law_scope" spScope) : Cal P w K mg base 3 "_law_scopes" spScopes := by
  refine cal_mk F sc_law_scopes (fun vs H Q E h => ?_) (fun cdv A outer s H vs Q E hr h => ?_)
  · obtain ⟨t, c, rfl, _⟩ := h
    rfl
  obtain ⟨t, c, rfl, hT, q⟩ := h
  refine ⟨_, (pss_cons (ps_set (i := 1) sc_law_scopes.nd rfl (.inl rfl) (pe_lst pa_nil))
      (pss_cons (ps_for PassesOwn.never rfl (pi_range1 (by rfl) M.range (pa_cons (pe_c G_law_take hr (by omega) (by rfl) (pa_cons (pv 0) (pa_cons pe_int pa_nil))) pa_nil)) (pg_name (i := 2) sc_law_scopes.nd rfl (.inl rfl))
      (pss_cons (ps_set (i := 3) sc_law_scopes.nd rfl (.inl rfl) (pe_c G_law_scope hr (by omega) (by rfl) (pa_cons (pv 0) pa_nil)))
      (pss_one (ps_if (pt_cmpR (opNotInD K rfl (units65 hr)) (pv 3) (pv 1) (by rfl)) (pss_one (ps_expr (pe_bm PySem.F.plainAttrs_list PySem.F.slot_list_append PySem.F.type_list_append mt_append (pv 1) (pa_cons (pv 3) pa_nil)))) pss_nil))))
      (pss_one (ps_ret (pe_callTy (cTup K rfl) (by rfl) M.tuple b_tuple (pa_cons (pe_callB (cSort K rfl (units65 hr)) (by rfl) M.sorted b_sorted (pa_cons (pv 1) pa_nil)) pa_nil)))))), ?_⟩
  refine ⟨by decide, fun D nD => ?_⟩
  have k0 := same_upd (o := .lst []) nD
  have tD := hT.nt nD
  refine ⟨_, rfl, t, c, 4, rfl, hT.same k0, by decide, by decide, fun r H1 a0 a1 k1 t1 => ?_⟩
  have er : r = ((r.toNat : Nat) : Int) := by omega
  rw [er]
  have hD1 : H1 D = some (.lst []) := k1 _ _ upd_same tD.1
  refine ⟨_, rfl, by omega, by omega, for_range (lo := 0) (n := r.toNat) (fun i σ H' => ∃ y2 y3 ys zs, σ = [some (.ref t), some (.ref D), y2, y3] ∧ H' D = some (.lst ys) ∧ Keep t H H' ∧ TapeAt H' t c ∧ DtAll H' ys (zs.map scD) ∧ zs.Nodup ∧ (∀ x ∈ zs, GoodSc x) ∧ zs.length ≤ i)
    ⟨none, none, [], [], rfl, hD1, (Keep.same k0).trans k1, t1, .nil, List.nodup_nil, fun x h => (by cases h), Nat.le_refl _⟩ ?_ ?_⟩
  · rintro i σ H2 hi ⟨y2, y3, ys, zs, rfl, hD, hk, ht, hy, hn, hg, hl⟩
    refine ⟨_, rfl, t, c, rfl, ht, fun v H3 x k3 t3 d3 g3 => ?_⟩
    have hD3 := k3 _ _ hD tD.1
    have hy3 := hy.tk (k3.tk2 ht)
    have hyl := hy.len
    rw [List.length_map] at hyl
    refine ⟨_, rfl, _, rfl, _, _, d3.dp, .lst (SqL.of hD3) hy3.dp, sh_sc g3.ok, sh_lst (fun x h => (hg x h).ok), _, rfl, ?_⟩
    rw [any_sc]
    by_cases hm : x ∈ zs
    · rw [decide_eq_true hm]
      exact iteF ⟨_, _, ys, zs, rfl, hD3, hk.trans k3, t3, hy3, hn, hg, by omega⟩
    · rw [decide_eq_false hm]
      refine iteT ?_
      refine ⟨_, rfl, .inl ⟨rfl, _, SqL.of hD3⟩, _, rfl, D, _, _, rfl, rfl, hD3, small1000 (by omega), ?_⟩
      have tk8 : Tk H3 (upd H3 D (.lst (ys ++ [v]))) := Tk.upd fun xs z => by rw [hD3] at z; cases z
      refine ⟨_, _, ys ++ [v], zs ++ [x], rfl, upd_same, fun b o e n => ?_, t3.other tD.1 tD.2, ?_, ?_, fun y h => ?_, by rw [List.length_append]; exact Nat.add_le_add_right hl 1⟩
      · rw [upd_ne (ne_of_none e nD)]
        exact k3 _ _ (hk _ _ e n) n
      · rw [List.map_append]
        exact (hy3.app (.one d3)).tk tk8
      · exact List.nodup_append.mpr ⟨hn, by simp, fun a ha b hb e => hm (by rw [List.mem_singleton.mp hb] at e; exact e ▸ ha)⟩
      · rcases List.mem_append.mp h with h | h
        · exact hg y h
        · rw [List.mem_singleton.mp h]
          exact g3
  · rintro σ H2 ⟨y2, y3, ys, zs, rfl, hD, hk, ht, hy, hn, hg, hl⟩
    refine ⟨_, rfl, ?_⟩
    dsimp only [tNil]
    refine sorted_sc (SqL.of hD) hy fun p2 H3 us k2 h2 d2 => ?_
    refine tuple_of (SqL.of h2) d2 fun p3 H4 k3 d3 => ?_
    have kk := Keep.same (t := t) (k2.trans k3)
    exact q _ _ (srt zs) (hk.trans kk) (ht.same (k2.trans k3)) d3 (canon_srt hn) (fun x h => hg x (mem_srt.mp h)) (by rw [len_srt]; omega)
end
end W5
set_option Elab.async false
set_option linter.all false
set_option maxRecDepth 100000
set_option maxHeartbeats 4000000
namespace W5
open PySem PySem.Spec PyProof.Rows L2 Com EnumT
theorem syns_eq (st : List Sc) : ∀ l : List Dm, syns st l = l.map (syn st)
  | [] => rfl
  | x :: r => by rw [syns, syns_eq st r, List.map_cons]
theorem dats_eq : ∀ l : List Sy, dats l = l.map dat
  | [] => rfl
  | x :: r => by rw [dats, dats_eq r, List.map_cons]
theorem mapSs_eq (g : List Sc → List Sc) : ∀ l : List Sy, mapSs g l = l.map (mapS g)
  | [] => rfl
  | x :: r => by rw [mapSs, mapSs_eq g r, List.map_cons]
theorem depMs_mem : ∀ {l : List Dm} {x : Dm}, x ∈ l → depM x ≤ depMs l
  | a :: r, x, h => by
    rw [depMs]
    rcases List.mem_cons.mp h with e | h
    · rw [e]; omega
    · have := depMs_mem h; omega
theorem deps_mem : ∀ {l : List Sy} {x : Sy}, x ∈ l → dep x ≤ deps l
  | a :: r, x, h => by
    rw [deps]
    rcases List.mem_cons.mp h with e | h
    · rw [e]; omega
    · have := deps_mem h; omega
theorem kne {a b : Str} (h : ¬ a = b) : decide (V.str a = V.str b) = false := decide_eq_false fun z => h (V.str.inj z)
theorem keq {a : Str} : decide (V.str a = V.str a) = true := decide_eq_true rfl
theorem nLN : ¬ Str.ofString "list" = Str.ofString "name" := by decide +kernel
theorem nNL : ¬ Str.ofString "name" = Str.ofString "list" := by decide +kernel
theorem nAI : ¬ Str.ofString "atom" = Str.ofString "id" := by decide +kernel
theorem nLI : ¬ Str.ofString "list" = Str.ofString "id" := by decide +kernel
theorem nLA : ¬ Str.ofString "list" = Str.ofString "atom" := by decide +kernel
theorem nIL : ¬ Str.ofString "id" = Str.ofString "list" := by decide +kernel
theorem nAL' : ¬ Str.ofString "atom" = Str.ofString "list" := by decide +kernel
theorem tup_new {H : Hp} {p : Addr} {xs : List V} {ds : List PyData} (h : H p = none) (hx : DtAll H xs ds) : ∃ H', upd H p (.tup xs) = H' ∧ Same H H' ∧ Dt H' (.ref p) (.tuple ds) :=
  ⟨_, rfl, same_upd h, .tup upd_same (hx.tk (same_tk (same_upd h)))⟩
/-! what is asked of data and syntax -/
mutual
def OkM : Dm → Prop
  | .nm s _ => True
  | .at k v _ => ¬ k = Str.ofString "name" ∧ ¬ k = Str.ofString "list" ∧ v.depth = 0 ∧ smD v = true
  | .ls l _ => l.length ≤ 100 ∧ OkMs l
def OkMs : List Dm → Prop
  | [] => True
  | x :: r => OkM x ∧ OkMs r
end
theorem OkMs_mem : ∀ {l : List Dm} {x : Dm}, OkMs l → x ∈ l → OkM x
  | a :: r, x, h, hx => by
    rcases List.mem_cons.mp hx with e | hx
    · rw [e]; exact h.1
    · exact OkMs_mem h.2 hx
theorem nmE {H : Hp} {v : V} {s : Str} {p : Int} (h : Dt H v (dmD (.nm s p))) : ∃ a, v = .ref a ∧ H a = some (.tup [.str "name", .str s, .int p]) := by
  obtain ⟨a, xs, rfl, ha, h1⟩ := Dt.tupE (show Dt H v (.tuple [.str "name", .str s, .int p]) from h)
  obtain ⟨x0, r0, rfl, h0, h1⟩ := h1.consE
  obtain ⟨x1, r1, rfl, h2, h1⟩ := h1.consE
  obtain ⟨x2, r2, rfl, h3, h1⟩ := h1.consE
  have e := h1.nilE
  subst e
  rw [h0.strE, h2.strE, h3.intE] at ha
  exact ⟨a, rfl, ha⟩
theorem atE {H : Hp} {v : V} {k : Str} {w : PyData} {p : Int} (h : Dt H v (dmD (.at k w p))) : ∃ a x, v = .ref a ∧ H a = some (.tup [.str k, x, .int p]) ∧ Dt H x w := by
  obtain ⟨a, xs, rfl, ha, h1⟩ := Dt.tupE (show Dt H v (.tuple [.str k, w, .int p]) from h)
  obtain ⟨x0, r0, rfl, h0, h1⟩ := h1.consE
  obtain ⟨x1, r1, rfl, h2, h1⟩ := h1.consE
  obtain ⟨x2, r2, rfl, h3, h1⟩ := h1.consE
  have e := h1.nilE
  subst e
  rw [h0.strE, h3.intE] at ha
  exact ⟨a, _, rfl, ha, h2⟩
theorem lsE {H : Hp} {v : V} {l : List Dm} {p : Int} (h : Dt H v (dmD (.ls l p))) : ∃ a b xs, v = .ref a ∧ H a = some (.tup [.str "list", .ref b, .int p]) ∧ H b = some (.tup xs) ∧ DtAll H xs (l.map dmD) := by
  obtain ⟨a, xs, rfl, ha, h1⟩ := Dt.tupE (show Dt H v (.tuple [.str "list", .tuple (dmDs l), .int p]) from h)
  obtain ⟨x0, r0, rfl, h0, h1⟩ := h1.consE
  obtain ⟨x1, r1, rfl, h2, h1⟩ := h1.consE
  obtain ⟨x2, r2, rfl, h3, h1⟩ := h1.consE
  have e := h1.nilE
  subst e
  obtain ⟨b, ys, rfl, hb, hy⟩ := Dt.tupE h2
  rw [dmDs_eq] at hy
  rw [h0.strE, h3.intE] at ha
  exact ⟨a, b, ys, rfl, ha, hb, hy⟩
section
variable {P : Program} {w : World} {K : PySem.W.Frag} {mg : Str → Option Value} {base : Heap}
theorem none0 {x : Str} {st : Stmt} {f : Addr} {fd : FuncData} {ps : List Str} {sp : Sp} (F : Dfn K mg x st f fd ps) (no : ∀ vs H Q E, ¬ sp vs H Q E) : Cal P w K mg base 0 x sp :=
  ⟨f, fd, _, ⟨fun vs H Q E h => absurd h (no vs H Q E), fun A outer s H args us vs Q E _ _ _ _ h => absurd h (no vs H Q E)⟩, F.mgf, F.fn.kp, F.b⟩
def spSyn (n : Nat) : Sp := fun vs H Q _ => ∃ (v u : V) (d : Dm) (st : List Sc), vs = [.str "m", v, u] ∧ Dt H v (dmD d) ∧ Dt H u (setD st) ∧ depM d < n ∧ OkM d ∧ ∀ r H', Same H H' → Dt H' r (syD (syn st d)) → Q r H'
theorem ok_syntax_of {f : Addr} {fd : FuncData} {n k : Nat} (F : Dfn K mg "syntax_of" st_syntax_of f fd ["module", "datum", "scopes"]) (M : Mg mg) (Gsyntax_of : Cal P w K mg base k "syntax_of" (spSyn n)) : Cal P w K mg base (k + 1) "syntax_of" (spSyn (n + 1)) := by
  refine cal_mk F scsyntax_of (fun vs H Q E h => ?_) (fun cdv A outer s H vs Q E hr h => ?_)
  · obtain ⟨v, u, d, st, rfl, _⟩ := h
    rfl
  obtain ⟨v, u, d, st, rfl, hd, hu', hn, ok, q⟩ := h
  refine ⟨_, (pss_cons (ps_asg (pv 1) (pg_tup rfl (pgs_cons (pg_name (i := 3) scsyntax_of.nd rfl (.inl rfl)) (pgs_cons (pg_name (i := 4) scsyntax_of.nd rfl (.inl rfl)) (pgs_cons (pg_name (i := 5) scsyntax_of.nd rfl (.inl rfl)) pgs_nil)))))
      (pss_cons (ps_set (i := 6) scsyntax_of.nd rfl (.inl rfl) (pe_tup (pa_cons (pv 0) (pa_cons (pv 5) pa_nil))))
      (pss_cons (ps_if (pt_cmpR op_eq (pv 3) pe_str (nomark _)) (pss_one (ps_ret (pe_tup (pa_cons pe_str (pa_cons (pv 4) (pa_cons (pv 6) (pa_cons (pv 2) pa_nil))))))) pss_nil)
      (pss_cons (ps_if (pt_cmpR op_ne (pv 3) pe_str (nomark _)) (pss_one (ps_ret (pe_tup (pa_cons pe_str (pa_cons (pv 3) (pa_cons (pv 4) (pa_cons (pv 6) pa_nil))))))) pss_nil)
      (pss_cons (ps_set (i := 7) scsyntax_of.nd rfl (.inl rfl) (pe_lst pa_nil))
      (pss_cons (ps_for PassesOwn.never rfl (pi_tup (pv 4)) (pg_name (i := 8) scsyntax_of.nd rfl (.inl rfl))
      (pss_one (ps_expr (pe_bm PySem.F.plainAttrs_list PySem.F.slot_list_append PySem.F.type_list_append mt_append (pv 7) (pa_cons (pe_c Gsyntax_of hr (by omega) (by rfl) (pa_cons (pv 0) (pa_cons (pv 8) (pa_cons (pv 2) pa_nil)))) pa_nil)))))
      (pss_one (ps_ret (pe_tup (pa_cons pe_str (pa_cons (pe_callTy (cTup K rfl) (by rfl) M.tuple b_tuple (pa_cons (pv 7) pa_nil)) (pa_cons (pv 6) pa_nil)))))))))))), ?_⟩
  cases d with
  | nm s p =>
    obtain ⟨a, rfl, ha⟩ := nmE hd
    refine ⟨_, rfl, a, _, rfl, SqT.of ha, rfl, _, _, rfl, _, _, rfl, _, _, rfl, rfl, ?_⟩
    refine ⟨_, rfl, _, rfl, by show 2 ≤ sizeLine; decide, fun o no => ?_⟩
    obtain ⟨H1, e, k1, d1⟩ := tup_new no (.cons (.str (Str.ofString "m")) (.cons (.int p) .nil))
    rw [e]
    clear e
    refine ⟨_, rfl, rfl, _, rfl, ?_⟩
    rw [keq]
    refine iteT ?_
    refine ⟨_, rfl, _, rfl, _, rfl, by show 4 ≤ sizeLine; decide, fun r nr => ?_⟩
    obtain ⟨H2, e, k2, d2⟩ := tup_new nr (.cons (.str (Str.ofString "id")) (.cons (.str s) (.cons d1 (.cons (hu'.tk (same_tk k1)) .nil))))
    rw [e]
    exact q _ _ (k1.trans k2) d2
  | «at» kd vl p =>
    obtain ⟨a, x, rfl, ha, hx⟩ := atE hd
    obtain ⟨nk1, nk2, _⟩ := ok
    refine ⟨_, rfl, a, _, rfl, SqT.of ha, rfl, _, _, rfl, _, _, rfl, _, _, rfl, rfl, ?_⟩
    refine ⟨_, rfl, _, rfl, by show 2 ≤ sizeLine; decide, fun o no => ?_⟩
    obtain ⟨H1, e, k1, d1⟩ := tup_new no (.cons (.str (Str.ofString "m")) (.cons (.int p) .nil))
    rw [e]
    clear e
    refine ⟨_, rfl, rfl, _, rfl, ?_⟩
    rw [kne nk1]
    refine iteF ⟨_, rfl, rfl, _, rfl, ?_⟩
    rw [kne nk2]
    refine iteT ?_
    refine ⟨_, rfl, _, rfl, _, rfl, by show 4 ≤ sizeLine; decide, fun r nr => ?_⟩
    obtain ⟨H2, e, k2, d2⟩ := tup_new nr (.cons (.str (Str.ofString "atom")) (.cons (.str kd) (.cons (hx.tk (same_tk k1)) (.cons d1 .nil))))
    rw [e]
    exact q _ _ (k1.trans k2) d2
  | ls l p =>
    obtain ⟨a, b, xs, rfl, ha, hb, hx⟩ := lsE hd
    obtain ⟨hl, oks⟩ := ok
    have hxl := hx.len
    rw [List.length_map] at hxl
    refine ⟨_, rfl, a, _, rfl, SqT.of ha, rfl, _, _, rfl, _, _, rfl, _, _, rfl, rfl, ?_⟩
    refine ⟨_, rfl, _, rfl, by show 2 ≤ sizeLine; decide, fun o no => ?_⟩
    obtain ⟨H1, e, k1, d1⟩ := tup_new no (.cons (.str (Str.ofString "m")) (.cons (.int p) .nil))
    rw [e]
    clear e
    refine ⟨_, rfl, rfl, _, rfl, ?_⟩
    rw [kne nLN]
    refine iteF ⟨_, rfl, rfl, _, rfl, ?_⟩
    rw [keq]
    refine iteF ⟨by decide, fun D nD => ?_⟩
    have k2 := same_upd (o := .lst []) nD
    have hD : upd H1 D (.lst []) D = some (.lst []) := upd_same
    generalize upd H1 D (.lst []) = H2 at k2 hD ⊢
    refine ⟨_, rfl, b, rfl, ⟨_, SqT.of (k2 _ _ (k1 _ _ hb))⟩, for_tup (K := K) (a := b) (xs := xs) (fun i σ H' => ∃ y ys, σ = [some (.str "m"), some (.ref a), some u, some (.str "list"), some (.ref b), some (.int p), some (.ref o), some (.ref D), y] ∧ (∀ z w, H1 z = some w → H' z = some w) ∧ H' D = some (.lst ys) ∧ DtAll H' ys (((l.take i).map (syn st)).map syD) ∧ ys.length = i)
      ⟨none, [], rfl, k2, hD, .nil, rfl⟩ (fun i σ H' _ ⟨y, ys, _, kk, _⟩ => SqT.of (kk _ _ (k1 _ _ hb))) ?_ ?_⟩
    · rintro i x σ H' hi ⟨y, ys, rfl, kk, hD', hy, hyl⟩
      obtain ⟨z, hz, hdz⟩ := hx.get_map hi
      have hm := List.mem_of_getElem? hz
      have hil := (List.getElem?_eq_some_iff.mp hz).1
      have k3 : Same H H' := fun c w e => kk _ _ (k1 _ _ e)
      have dl := depMs_mem hm
      have dn : depM (.ls l p) = depMs l + 1 := rfl
      refine ⟨_, rfl, .inl ⟨rfl, _, SqL.of hD'⟩, _, rfl, _, rfl, _, rfl, x, u, z, st, rfl, hdz.tk (same_tk k3), hu'.tk (same_tk k3), by omega, OkMs_mem oks hm, fun r H3 k4 d4 => ?_⟩
      have hD3 := k4 _ _ hD'
      refine ⟨D, ys, _, rfl, rfl, hD3, small1000 (by omega), ?_⟩
      have tk8 : Tk H3 (upd H3 D (.lst (ys ++ [r]))) := Tk.upd fun xs z => by rw [hD3] at z; cases z
      refine ⟨_, ys ++ [r], rfl, fun c w e => ?_, upd_same, ?_, by rw [List.length_append, hyl]; rfl⟩
      · rw [upd_ne (ne_of_none e nD)]
        exact k4 _ _ (kk _ _ e)
      · have et : l.take (i + 1) = l.take i ++ [z] := by rw [List.take_add_one, hz]; rfl
        rw [et, List.map_append, List.map_append]
        exact ((hy.tk (same_tk k4)).app (.one d4)).tk tk8
    · rintro σ H' ⟨y, ys, rfl, kk, hD', hy, hyl⟩
      have k3 : Same H H' := fun c w e => kk _ _ (k1 _ _ e)
      refine ⟨_, rfl, ?_⟩
      dsimp only [tNil]
      refine tuple_of (SqL.of hD') hy fun p3 H4 k4 d4 => ?_
      refine ⟨_, rfl, by show 3 ≤ sizeLine; decide, fun r nr => ?_⟩
      rw [hxl, List.take_length, ← syns_eq, ← syDs_eq] at d4
      obtain ⟨H5, e, k5, d5⟩ := tup_new nr (.cons (.str (Str.ofString "list")) (.cons d4 (.cons ((d1.tk (fun c ws e => kk _ _ e)).tk (same_tk k4)) .nil)))
      rw [e]
      exact q _ _ ((k3.trans k4).trans k5) d5
end
end W5
set_option Elab.async false
set_option linter.all false
set_option maxRecDepth 100000
set_option maxHeartbeats 4000000
namespace W5
open PySem PySem.Spec PyProof.Rows L2 Com EnumT
structure OkT (st : List Sc) : Prop where
  can : Canon st
  good : ∀ x ∈ st, GoodSc x
  len : st.length ≤ 3
theorem OkT.ok {st : List Sc} (h : OkT st) : OkSet st := fun x hx => (h.good x hx).ok
mutual
def OkS : Sy → Prop
  | .id _ _ st => OkT st
  | .at _ v _ => v.depth = 0 ∧ smD v = true
  | .ls l _ => l.length ≤ 100 ∧ OkSs l
def OkSs : List Sy → Prop
  | [] => True
  | x :: r => OkS x ∧ OkSs r
end
theorem OkSs_mem : ∀ {l : List Sy} {x : Sy}, OkSs l → x ∈ l → OkS x
  | a :: r, x, h, hx => by
    rcases List.mem_cons.mp hx with e | hx
    · rw [e]; exact h.1
    · exact OkSs_mem h.2 hx
mutual
theorem OkS.can : ∀ {s : Sy}, OkS s → CanS s
  | .id _ _ st, h => OkT.can h
  | .at _ _ _, _ => trivial
  | .ls l _, h => OkSs.can h.2
theorem OkSs.can : ∀ {l : List Sy}, OkSs l → CanSs l
  | [], _ => trivial
  | x :: r, h => ⟨OkS.can h.1, OkSs.can h.2⟩
end
theorem occE {H : Hp} {v : V} {p : Int} (h : Dt H v (occ p)) : ∃ a, v = .ref a ∧ H a = some (.tup [.str "m", .int p]) := by
  obtain ⟨a, xs, rfl, ha, h1⟩ := Dt.tupE h
  obtain ⟨x0, r0, rfl, h0, h1⟩ := h1.consE
  obtain ⟨x1, r1, rfl, h2, h1⟩ := h1.consE
  have e := h1.nilE
  subst e
  rw [h0.strE, h2.intE] at ha
  exact ⟨a, rfl, ha⟩
theorem idE {H : Hp} {v : V} {s : Str} {p : Int} {st : List Sc} (h : Dt H v (syD (.id s p st))) : ∃ a o x, v = .ref a ∧ H a = some (.tup [.str "id", .str s, o, x]) ∧ Dt H o (occ p) ∧ Dt H x (setD st) := by
  obtain ⟨a, xs, rfl, ha, h1⟩ := Dt.tupE (show Dt H v (.tuple [.str "id", .str s, occ p, setD st]) from h)
  obtain ⟨x0, r0, rfl, h0, h1⟩ := h1.consE
  obtain ⟨x1, r1, rfl, h2, h1⟩ := h1.consE
  obtain ⟨x2, r2, rfl, h3, h1⟩ := h1.consE
  obtain ⟨x3, r3, rfl, h4, h1⟩ := h1.consE
  have e := h1.nilE
  subst e
  rw [h0.strE, h2.strE] at ha
  exact ⟨a, _, _, rfl, ha, h3, h4⟩
theorem atSE {H : Hp} {v : V} {k : Str} {w : PyData} {p : Int} (h : Dt H v (syD (.at k w p))) : ∃ a x o, v = .ref a ∧ H a = some (.tup [.str "atom", .str k, x, o]) ∧ Dt H x w ∧ Dt H o (occ p) := by
  obtain ⟨a, xs, rfl, ha, h1⟩ := Dt.tupE (show Dt H v (.tuple [.str "atom", .str k, w, occ p]) from h)
  obtain ⟨x0, r0, rfl, h0, h1⟩ := h1.consE
  obtain ⟨x1, r1, rfl, h2, h1⟩ := h1.consE
  obtain ⟨x2, r2, rfl, h3, h1⟩ := h1.consE
  obtain ⟨x3, r3, rfl, h4, h1⟩ := h1.consE
  have e := h1.nilE
  subst e
  rw [h0.strE, h2.strE] at ha
  exact ⟨a, _, _, rfl, ha, h3, h4⟩
theorem lsSE {H : Hp} {v : V} {l : List Sy} {p : Int} (h : Dt H v (syD (.ls l p))) : ∃ a b o xs, v = .ref a ∧ H a = some (.tup [.str "list", .ref b, o]) ∧ H b = some (.tup xs) ∧ DtAll H xs (l.map syD) ∧ Dt H o (occ p) := by
  obtain ⟨a, xs, rfl, ha, h1⟩ := Dt.tupE (show Dt H v (.tuple [.str "list", .tuple (syDs l), occ p]) from h)
  obtain ⟨x0, r0, rfl, h0, h1⟩ := h1.consE
  obtain ⟨x1, r1, rfl, h2, h1⟩ := h1.consE
  obtain ⟨x2, r2, rfl, h3, h1⟩ := h1.consE
  have e := h1.nilE
  subst e
  obtain ⟨b, ys, rfl, hb, hy⟩ := Dt.tupE h2
  rw [syDs_eq] at hy
  rw [h0.strE] at ha
  exact ⟨a, b, _, ys, rfl, ha, hb, hy, h3⟩
section
variable {P : Program} {w : World} {K : PySem.W.Frag} {mg : Str → Option Value} {base : Heap}
def spDat (n : Nat) : Sp := fun vs H Q _ => ∃ (v : V) (d : Sy), vs = [v] ∧ Dt H v (syD d) ∧ dep d < n ∧ OkS d ∧ ∀ r H', Same H H' → Dt H' r (dmD (dat d)) → Q r H'
theorem ok_datum_of {f : Addr} {fd : FuncData} {n k : Nat} (F : Dfn K mg "datum_of" st_datum_of f fd ["syntax"]) (M : Mg mg) (Gdatum_of : Cal P w K mg base k "datum_of" (spDat n)) : Cal P w K mg base (k + 1) "datum_of" (spDat (n + 1)) := by
  refine cal_mk F scdatum_of (fun vs H Q E h => ?_) (fun cdv A outer s H vs Q E hr h => ?_)
  · obtain ⟨v, d, rfl, _⟩ := h
    rfl
  obtain ⟨v, d, rfl, hd, hn, ok, q⟩ := h
  refine ⟨_, (pss_cons (ps_if (pt_cmpR op_eq (pe_ix (ixT K rfl) (pv 0) pe_int (fun _ _ => rfl)) pe_str (nomark _)) (pss_one (ps_ret (pe_tup (pa_cons pe_str (pa_cons (pe_ix (ixT K rfl) (pv 0) pe_int (fun _ _ => rfl)) (pa_cons (pe_ix (ixT K rfl) (pe_ix (ixT K rfl) (pv 0) pe_int (fun _ _ => rfl)) pe_int (fun _ _ => rfl)) pa_nil)))))) pss_nil)
      (pss_cons (ps_if (pt_cmpR op_eq (pe_ix (ixT K rfl) (pv 0) pe_int (fun _ _ => rfl)) pe_str (nomark _)) (pss_one (ps_ret (pe_tup (pa_cons (pe_ix (ixT K rfl) (pv 0) pe_int (fun _ _ => rfl)) (pa_cons (pe_ix (ixT K rfl) (pv 0) pe_int (fun _ _ => rfl)) (pa_cons (pe_ix (ixT K rfl) (pe_ix (ixT K rfl) (pv 0) pe_int (fun _ _ => rfl)) pe_int (fun _ _ => rfl)) pa_nil)))))) pss_nil)
      (pss_cons (ps_set (i := 1) scdatum_of.nd rfl (.inl rfl) (pe_lst pa_nil))
      (pss_cons (ps_for PassesOwn.never rfl (pi_tup (pe_ix (ixT K rfl) (pv 0) pe_int (fun _ _ => rfl))) (pg_name (i := 2) scdatum_of.nd rfl (.inl rfl))
      (pss_one (ps_expr (pe_bm PySem.F.plainAttrs_list PySem.F.slot_list_append PySem.F.type_list_append mt_append (pv 1) (pa_cons (pe_c Gdatum_of hr (by omega) (by rfl) (pa_cons (pv 2) pa_nil)) pa_nil)))))
      (pss_one (ps_ret (pe_tup (pa_cons pe_str (pa_cons (pe_callTy (cTup K rfl) (by rfl) M.tuple b_tuple (pa_cons (pv 1) pa_nil)) (pa_cons (pe_ix (ixT K rfl) (pe_ix (ixT K rfl) (pv 0) pe_int (fun _ _ => rfl)) pe_int (fun _ _ => rfl)) pa_nil)))))))))), ?_⟩
  cases d with
  | id s p st =>
    obtain ⟨a, o, x, rfl, ha, ho, hx⟩ := idE hd
    obtain ⟨b, rfl, hb⟩ := occE ho
    refine ⟨_, rfl, tc (ixt ha (atI_nat (j := 0) rfl) ⟨rfl, _, rfl, ?_⟩)⟩
    rw [keq]
    refine iteT ?_
    refine ⟨_, rfl, tc (ixt ha (atI_nat (j := 1) rfl) ?_)⟩
    refine ⟨_, rfl, tc (ixt ha (atI_nat (j := 2) rfl) (tc (ixt hb (atI_nat (j := 1) rfl) ?_)))⟩
    refine ⟨by show 3 ≤ sizeLine; decide, fun r nr => ?_⟩
    obtain ⟨H2, e, k2, d2⟩ := tup_new nr (.cons (.str (Str.ofString "name")) (.cons (.str s) (.cons (.int p) .nil)))
    rw [e]
    exact q _ _ k2 d2
  | «at» kd vl p =>
    obtain ⟨a, x, o, rfl, ha, hx, ho⟩ := atSE hd
    obtain ⟨b, rfl, hb⟩ := occE ho
    refine ⟨_, rfl, tc (ixt ha (atI_nat (j := 0) rfl) ⟨rfl, _, rfl, ?_⟩)⟩
    rw [kne nAI]
    refine iteF ⟨_, rfl, tc (ixt ha (atI_nat (j := 0) rfl) ⟨rfl, _, rfl, ?_⟩)⟩
    rw [keq]
    refine iteT ?_
    refine ⟨_, rfl, tc (ixt ha (atI_nat (j := 1) rfl) ?_)⟩
    refine ⟨_, rfl, tc (ixt ha (atI_nat (j := 2) rfl) ?_)⟩
    refine ⟨_, rfl, tc (ixt ha (atI_nat (j := 3) rfl) (tc (ixt hb (atI_nat (j := 1) rfl) ?_)))⟩
    refine ⟨by show 3 ≤ sizeLine; decide, fun r nr => ?_⟩
    obtain ⟨H2, e, k2, d2⟩ := tup_new nr (.cons (.str kd) (.cons hx (.cons (.int p) .nil)))
    rw [e]
    exact q _ _ k2 d2
  | ls l p =>
    obtain ⟨a, b, o, xs, rfl, ha, hb, hx, ho⟩ := lsSE hd
    obtain ⟨oo, rfl, hoo⟩ := occE ho
    obtain ⟨hl, oks⟩ := ok
    have hxl := hx.len
    rw [List.length_map] at hxl
    refine ⟨_, rfl, tc (ixt ha (atI_nat (j := 0) rfl) ⟨rfl, _, rfl, ?_⟩)⟩
    rw [kne nLI]
    refine iteF ⟨_, rfl, tc (ixt ha (atI_nat (j := 0) rfl) ⟨rfl, _, rfl, ?_⟩)⟩
    rw [kne nLA]
    refine iteF ⟨by decide, fun D nD => ?_⟩
    have k2 := same_upd (o := .lst []) nD
    have hD : upd H D (.lst []) D = some (.lst []) := upd_same
    generalize upd H D (.lst []) = H2 at k2 hD ⊢
    refine ⟨_, rfl, tc (ixt (k2 _ _ ha) (atI_nat (j := 1) rfl) ⟨b, rfl, ⟨_, SqT.of (k2 _ _ hb)⟩, for_tup (K := K) (a := b) (xs := xs) (fun i σ H' => ∃ y ys, σ = [some (.ref a), some (.ref D), y] ∧ (∀ z w, H z = some w → H' z = some w) ∧ H' D = some (.lst ys) ∧ DtAll H' ys (((l.take i).map dat).map dmD) ∧ ys.length = i)
      ⟨none, [], rfl, k2, hD, .nil, rfl⟩ (fun i σ H' _ ⟨y, ys, _, kk, _⟩ => SqT.of (kk _ _ hb)) ?_ ?_⟩)⟩
    · rintro i x σ H' hi ⟨y, ys, rfl, kk, hD', hy, hyl⟩
      obtain ⟨z, hz, hdz⟩ := hx.get_map hi
      have hm := List.mem_of_getElem? hz
      have hil := (List.getElem?_eq_some_iff.mp hz).1
      have dl := deps_mem hm
      have dn : dep (.ls l p) = deps l + 1 := rfl
      refine ⟨_, rfl, .inl ⟨rfl, _, SqL.of hD'⟩, _, rfl, x, z, rfl, hdz.tk (same_tk kk), by omega, OkSs_mem oks hm, fun r H3 k4 d4 => ?_⟩
      have hD3 := k4 _ _ hD'
      refine ⟨D, ys, _, rfl, rfl, hD3, small1000 (by omega), ?_⟩
      have tk8 : Tk H3 (upd H3 D (.lst (ys ++ [r]))) := Tk.upd fun xs z => by rw [hD3] at z; cases z
      refine ⟨_, ys ++ [r], rfl, fun c w e => ?_, upd_same, ?_, by rw [List.length_append, hyl]; rfl⟩
      · rw [upd_ne (ne_of_none e nD)]
        exact k4 _ _ (kk _ _ e)
      · have et : l.take (i + 1) = l.take i ++ [z] := by rw [List.take_add_one, hz]; rfl
        rw [et, List.map_append, List.map_append]
        exact ((hy.tk (same_tk k4)).app (.one d4)).tk tk8
    · rintro σ H' ⟨y, ys, rfl, kk, hD', hy, hyl⟩
      refine ⟨_, rfl, ?_⟩
      dsimp only [tNil]
      refine tuple_of (SqL.of hD') hy fun p3 H4 k4 d4 => ?_
      refine ⟨_, rfl, tc (ixt (k4 _ _ (kk _ _ ha)) (atI_nat (j := 2) rfl) (tc (ixt (k4 _ _ (kk _ _ hoo)) (atI_nat (j := 1) rfl) ?_)))⟩
      refine ⟨by show 3 ≤ sizeLine; decide, fun r nr => ?_⟩
      rw [hxl, List.take_length, ← dats_eq, ← dmDs_eq] at d4
      obtain ⟨H5, e, k5, d5⟩ := tup_new nr (.cons (.str (Str.ofString "list")) (.cons d4 (.cons (.int p) .nil)))
      rw [e]
      exact q _ _ ((Same.trans kk k4).trans k5) d5
/-! _changed -/
def onlyS (f : Addr) (sp : Sp) : Addr → Option Sp := fun g => if g = f then some sp else none
theorem only_held {k : Nat} {f : Addr} {sp : Sp} (h : Held P w K mg base k f sp) : ∀ g sp', onlyS f sp g = some sp' → Held P w K mg base k g sp' := fun g sp' e => by
  unfold onlyS at e
  split at e
  · rename_i z
    cases e
    rw [z]
    exact h
  · cases e
def spChg (fC : Addr) (g : Sc → List Sc → List Sc) (n : Nat) : Sp := fun vs H Q _ => ∃ (v u : V) (d : Sy) (c : Sc), vs = [v, .ref fC, u] ∧ Dt H v (syD d) ∧ Dt H u (scD c) ∧ GoodSc c ∧ dep d < n ∧ OkS d ∧ ∀ r H', Same H H' → Dt H' r (syD (mapS (g c) d)) → Q r H'
theorem ok_changed {f fC : Addr} {fd : FuncData} {n k : Nat} {g : Sc → List Sc → List Sc} (F : Dfn K mg "changed" st_changed f fd ["syntax", "change", "by"]) (M : Mg mg) (hC0 : Held P w K mg base 2 fC (spSetF g)) (Gchanged : Cal P w K mg base (k + 2) "changed" (spChg fC g n)) : Cal P w K mg base (k + 2 + 1) "changed" (spChg fC g (n + 1)) := by
  refine cal_mk F scchanged (fun vs H Q E h => ?_) (fun cdv A outer s H vs Q E hr h => ?_)
  · obtain ⟨v, u, d, c, rfl, _⟩ := h
    rfl
  obtain ⟨v, u, d, c, rfl, hd, hc, gc, hn, ok, q⟩ := h
  refine ⟨_, (pss_cons (ps_if (pt_cmpR op_eq (pe_ix (ixT K rfl) (pv 0) pe_int (fun _ _ => rfl)) pe_str (nomark _)) (pss_one (ps_ret (pe_tup (pa_cons pe_str (pa_cons (pe_ix (ixT K rfl) (pv 0) pe_int (fun _ _ => rfl)) (pa_cons (pe_ix (ixT K rfl) (pv 0) pe_int (fun _ _ => rfl)) (pa_cons (pe_callA (i := 1) (S := onlyS fC (spSetF g)) (only_held hC0) (hr.mono (by omega)) rfl (.inl rfl) (pa_cons (pe_ix (ixT K rfl) (pv 0) pe_int (fun _ _ => rfl)) (pa_cons (pv 2) pa_nil))) pa_nil))))))) pss_nil)
      (pss_cons (ps_if (pt_cmpR op_eq (pe_ix (ixT K rfl) (pv 0) pe_int (fun _ _ => rfl)) pe_str (nomark _)) (pss_one (ps_ret (pv 0))) pss_nil)
      (pss_cons (ps_set (i := 3) scchanged.nd rfl (.inl rfl) (pe_lst pa_nil))
      (pss_cons (ps_for PassesOwn.never rfl (pi_tup (pe_ix (ixT K rfl) (pv 0) pe_int (fun _ _ => rfl))) (pg_name (i := 4) scchanged.nd rfl (.inl rfl))
      (pss_one (ps_expr (pe_bm PySem.F.plainAttrs_list PySem.F.slot_list_append PySem.F.type_list_append mt_append (pv 3) (pa_cons (pe_c Gchanged hr (by omega) (by rfl) (pa_cons (pv 4) (pa_cons (pv 1) (pa_cons (pv 2) pa_nil)))) pa_nil)))))
      (pss_one (ps_ret (pe_tup (pa_cons pe_str (pa_cons (pe_callTy (cTup K rfl) (by rfl) M.tuple b_tuple (pa_cons (pv 3) pa_nil)) (pa_cons (pe_ix (ixT K rfl) (pv 0) pe_int (fun _ _ => rfl)) pa_nil)))))))))), ?_⟩
  cases d with
  | id s p st =>
    obtain ⟨a, o, x, rfl, ha, ho, hx⟩ := idE hd
    have okt : OkT st := ok
    refine ⟨_, rfl, tc (ixt ha (atI_nat (j := 0) rfl) ⟨rfl, _, rfl, ?_⟩)⟩
    rw [keq]
    refine iteT ?_
    refine ⟨_, rfl, tc (ixt ha (atI_nat (j := 1) rfl) ?_)⟩
    refine ⟨_, rfl, tc (ixt ha (atI_nat (j := 2) rfl) ?_)⟩
    refine ⟨fC, _, rfl, by rw [onlyS, if_pos rfl], ?_⟩
    refine ⟨_, rfl, tc (ixt ha (atI_nat (j := 3) rfl) ?_)⟩
    refine ⟨_, rfl, x, u, st, c, rfl, hx, hc, okt.ok, gc.ok, by have := okt.len; omega, fun r1 H1 k1 d1 => ?_⟩
    refine ⟨by show 4 ≤ sizeLine; decide, fun r nr => ?_⟩
    obtain ⟨H2, e, k2, d2⟩ := tup_new nr (.cons (.str (Str.ofString "id")) (.cons (.str s) (.cons (ho.tk (same_tk k1)) (.cons d1 .nil))))
    rw [e]
    exact q _ _ (k1.trans k2) d2
  | «at» kd vl p =>
    obtain ⟨a, x, o, rfl, ha, hx, ho⟩ := atSE hd
    refine ⟨_, rfl, tc (ixt ha (atI_nat (j := 0) rfl) ⟨rfl, _, rfl, ?_⟩)⟩
    rw [kne nAI]
    refine iteF ⟨_, rfl, tc (ixt ha (atI_nat (j := 0) rfl) ⟨rfl, _, rfl, ?_⟩)⟩
    rw [keq]
    exact iteT ⟨_, rfl, q _ _ (fun _ _ e => e) hd⟩
  | ls l p =>
    obtain ⟨a, b, o, xs, rfl, ha, hb, hx, ho⟩ := lsSE hd
    obtain ⟨hl, oks⟩ := ok
    have hxl := hx.len
    rw [List.length_map] at hxl
    refine ⟨_, rfl, tc (ixt ha (atI_nat (j := 0) rfl) ⟨rfl, _, rfl, ?_⟩)⟩
    rw [kne nLI]
    refine iteF ⟨_, rfl, tc (ixt ha (atI_nat (j := 0) rfl) ⟨rfl, _, rfl, ?_⟩)⟩
    rw [kne nLA]
    refine iteF ⟨by decide, fun D nD => ?_⟩
    have k2 := same_upd (o := .lst []) nD
    have hD : upd H D (.lst []) D = some (.lst []) := upd_same
    generalize upd H D (.lst []) = H2 at k2 hD ⊢
    refine ⟨_, rfl, tc (ixt (k2 _ _ ha) (atI_nat (j := 1) rfl) ⟨b, rfl, ⟨_, SqT.of (k2 _ _ hb)⟩, for_tup (K := K) (a := b) (xs := xs) (fun i σ H' => ∃ y ys, σ = [some (.ref a), some (.ref fC), some u, some (.ref D), y] ∧ (∀ z w, H z = some w → H' z = some w) ∧ H' D = some (.lst ys) ∧ DtAll H' ys (((l.take i).map (mapS (g c))).map syD) ∧ ys.length = i)
      ⟨none, [], rfl, k2, hD, .nil, rfl⟩ (fun i σ H' _ ⟨y, ys, _, kk, _⟩ => SqT.of (kk _ _ hb)) ?_ ?_⟩)⟩
    · rintro i x σ H' hi ⟨y, ys, rfl, kk, hD', hy, hyl⟩
      obtain ⟨z, hz, hdz⟩ := hx.get_map hi
      have hm := List.mem_of_getElem? hz
      have hil := (List.getElem?_eq_some_iff.mp hz).1
      have dl := deps_mem hm
      have dn : dep (.ls l p) = deps l + 1 := rfl
      refine ⟨_, rfl, .inl ⟨rfl, _, SqL.of hD'⟩, _, rfl, _, rfl, _, rfl, x, u, z, c, rfl, hdz.tk (same_tk kk), hc.tk (same_tk kk), gc, by omega, OkSs_mem oks hm, fun r H3 k4 d4 => ?_⟩
      have hD3 := k4 _ _ hD'
      refine ⟨D, ys, _, rfl, rfl, hD3, small1000 (by omega), ?_⟩
      have tk8 : Tk H3 (upd H3 D (.lst (ys ++ [r]))) := Tk.upd fun xs z => by rw [hD3] at z; cases z
      refine ⟨_, ys ++ [r], rfl, fun c w e => ?_, upd_same, ?_, by rw [List.length_append, hyl]; rfl⟩
      · rw [upd_ne (ne_of_none e nD)]
        exact k4 _ _ (kk _ _ e)
      · have et : l.take (i + 1) = l.take i ++ [z] := by rw [List.take_add_one, hz]; rfl
        rw [et, List.map_append, List.map_append]
        exact ((hy.tk (same_tk k4)).app (.one d4)).tk tk8
    · rintro σ H' ⟨y, ys, rfl, kk, hD', hy, hyl⟩
      refine ⟨_, rfl, ?_⟩
      dsimp only [tNil]
      refine tuple_of (SqL.of hD') hy fun p3 H4 k4 d4 => ?_
      refine ⟨_, rfl, tc (ixt (k4 _ _ (kk _ _ ha)) (atI_nat (j := 2) rfl) ?_)⟩
      refine ⟨by show 3 ≤ sizeLine; decide, fun r nr => ?_⟩
      rw [hxl, List.take_length, ← mapSs_eq, ← syDs_eq] at d4
      obtain ⟨H5, e, k5, d5⟩ := tup_new nr (.cons (.str (Str.ofString "list")) (.cons d4 (.cons ((ho.tk (same_tk kk)).tk (same_tk k4)) .nil)))
      rw [e]
      exact q _ _ ((Same.trans kk k4).trans k5) d5
end
end W5
set_option Elab.async false
set_option linter.all false
set_option maxRecDepth 100000
set_option maxHeartbeats 4000000
namespace W5
open PySem PySem.Spec PyProof.Rows L2 Com EnumT
theorem flats_app : ∀ a b : List Sy, flats (a ++ b) = flats a ++ flats b
  | [], b => rfl
  | x :: r, b => by rw [List.cons_append, flats, flats, flats_app r b, List.append_assoc]
theorem flat_pos : ∀ s : Sy, 1 ≤ (flat s).length
  | .id _ _ _ => by simp [flat]
  | .at _ _ _ => by simp [flat]
  | .ls l p => by simp [flat]
theorem flats_mem : ∀ {l : List Sy} {x : Sy}, x ∈ l → (flat x).length ≤ (flats l).length
  | a :: r, x, h => by
    rw [flats, List.length_append]
    rcases List.mem_cons.mp h with e | h
    · rw [e]; omega
    · have := flats_mem h; omega
theorem len_flats : ∀ l : List Sy, l.length ≤ (flats l).length
  | [] => Nat.le_refl _
  | a :: r => by
    have h1 := flat_pos a
    have h2 := len_flats r
    rw [flats, List.length_append, List.length_cons]
    omega
theorem deps_app : ∀ a b : List Sy, deps (a ++ b) = max (deps a) (deps b)
  | [], b => by simp [deps]
  | x :: r, b => by rw [List.cons_append, deps, deps, deps_app r b]; omega
section
variable {P : Program} {w : World} {K : PySem.W.Frag} {mg : Str → Option Value} {base : Heap}
def spAdd (g : Sc → List Sc → List Sc) (n : Nat) : Sp := fun vs H Q _ => ∃ (v u : V) (d : Sy) (c : Sc), vs = [v, u] ∧ Dt H v (syD d) ∧ Dt H u (scD c) ∧ GoodSc c ∧ dep d < n ∧ OkS d ∧ ∀ r H', Same H H' → Dt H' r (syD (mapS (g c) d)) → Q r H'
theorem ok_added {f fC : Addr} {fd : FuncData} {n k : Nat} (F : Dfn K mg "added" st_added f fd ["syntax", "scope"]) (M : Mg mg) (gH : mg "_set_with" = some (.ref fC)) (Gchanged : Cal P w K mg base k "changed" (spChg fC withS n)) : Cal P w K mg base (k + 1) "added" (spAdd withS n) := by
  refine cal_mk F scadded (fun vs H Q E h => ?_) (fun cdv A outer s H vs Q E hr h => ?_)
  · obtain ⟨v, u, d, c, rfl, _⟩ := h
    rfl
  obtain ⟨v, u, d, c, rfl, hd, hc, gc, hn, ok, q⟩ := h
  exact ⟨_, (pss_one (ps_ret (pe_c Gchanged hr (by omega) (by rfl) (pa_cons (pv 0) (pa_cons (pe_glob (v := .ref fC) (by rfl) gH rfl) (pa_cons (pv 1) pa_nil)))))), _, rfl, _, rfl, v, u, d, c, rfl, hd, hc, gc, hn, ok, q⟩
theorem ok_removed {f fC : Addr} {fd : FuncData} {n k : Nat} (F : Dfn K mg "removed" st_removed f fd ["syntax", "scope"]) (M : Mg mg) (gH : mg "_set_without" = some (.ref fC)) (Gchanged : Cal P w K mg base k "changed" (spChg fC withoutS n)) : Cal P w K mg base (k + 1) "removed" (spAdd withoutS n) := by
  refine cal_mk F scremoved (fun vs H Q E h => ?_) (fun cdv A outer s H vs Q E hr h => ?_)
  · obtain ⟨v, u, d, c, rfl, _⟩ := h
    rfl
  obtain ⟨v, u, d, c, rfl, hd, hc, gc, hn, ok, q⟩ := h
  exact ⟨_, (pss_one (ps_ret (pe_c Gchanged hr (by omega) (by rfl) (pa_cons (pv 0) (pa_cons (pe_glob (v := .ref fC) (by rfl) gH rfl) (pa_cons (pv 1) pa_nil)))))), _, rfl, _, rfl, v, u, d, c, rfl, hd, hc, gc, hn, ok, q⟩
theorem ok_flipped {f fC : Addr} {fd : FuncData} {n k : Nat} (F : Dfn K mg "flipped" st_flipped f fd ["syntax", "scope"]) (M : Mg mg) (gH : mg "_set_flipped" = some (.ref fC)) (Gchanged : Cal P w K mg base k "changed" (spChg fC flipS n)) : Cal P w K mg base (k + 1) "flipped" (spAdd flipS n) := by
  refine cal_mk F scflipped (fun vs H Q E h => ?_) (fun cdv A outer s H vs Q E hr h => ?_)
  · obtain ⟨v, u, d, c, rfl, _⟩ := h
    rfl
  obtain ⟨v, u, d, c, rfl, hd, hc, gc, hn, ok, q⟩ := h
  exact ⟨_, (pss_one (ps_ret (pe_c Gchanged hr (by omega) (by rfl) (pa_cons (pv 0) (pa_cons (pe_glob (v := .ref fC) (by rfl) gH rfl) (pa_cons (pv 1) pa_nil)))))), _, rfl, _, rfl, v, u, d, c, rfl, hd, hc, gc, hn, ok, q⟩
/-! depth -/
def spDep (n : Nat) : Sp := fun vs H Q _ => ∃ (v : V) (d : Sy), vs = [v] ∧ Dt H v (syD d) ∧ dep d < n ∧ Q (.int (dep d : Nat)) H
theorem ok_depth {f : Addr} {fd : FuncData} {n k : Nat} (F : Dfn K mg "depth" st_depth f fd ["syntax"]) (M : Mg mg) (Gdepth : Cal P w K mg base k "depth" (spDep n)) : Cal P w K mg base (k + 1) "depth" (spDep (n + 1)) := by
  refine cal_mk F scdepth (fun vs H Q E h => ?_) (fun cdv A outer s H vs Q E hr h => ?_)
  · obtain ⟨v, d, rfl, _⟩ := h
    rfl
  obtain ⟨v, d, rfl, hd, hn, q⟩ := h
  refine ⟨_, (pss_cons (ps_if (pt_cmpR op_ne (pe_ix (ixT K rfl) (pv 0) pe_int (fun _ _ => rfl)) pe_str (nomark _)) (pss_one (ps_ret pe_int)) pss_nil)
      (pss_cons (ps_set (i := 1) scdepth.nd rfl (.inl rfl) pe_int)
      (pss_cons (ps_for PassesOwn.never rfl (pi_tup (pe_ix (ixT K rfl) (pv 0) pe_int (fun _ _ => rfl))) (pg_name (i := 2) scdepth.nd rfl (.inl rfl))
      (pss_one (ps_set (i := 1) scdepth.nd rfl (.inl rfl) (pe_callB (call_max2 rfl) (by rfl) M.max b_max (pa_cons (pv 1) (pa_cons (pe_c Gdepth hr (by omega) (by rfl) (pa_cons (pv 2) pa_nil)) pa_nil))))))
      (pss_one (ps_ret (pe_op op_add (pv 1) pe_int)))))), ?_⟩
  cases d with
  | id s p st =>
    obtain ⟨a, o, x, rfl, ha, ho, hx⟩ := idE hd
    refine ⟨_, rfl, tc (ixt ha (atI_nat (j := 0) rfl) ⟨rfl, _, rfl, ?_⟩)⟩
    rw [kne nIL]
    exact iteT q
  | «at» kd vl p =>
    obtain ⟨a, x, o, rfl, ha, hx, ho⟩ := atSE hd
    refine ⟨_, rfl, tc (ixt ha (atI_nat (j := 0) rfl) ⟨rfl, _, rfl, ?_⟩)⟩
    rw [kne nAL']
    exact iteT q
  | ls l p =>
    obtain ⟨a, b, o, xs, rfl, ha, hb, hx, ho⟩ := lsSE hd
    have hxl := hx.len
    rw [List.length_map] at hxl
    refine ⟨_, rfl, tc (ixt ha (atI_nat (j := 0) rfl) ⟨rfl, _, rfl, ?_⟩)⟩
    rw [keq]
    refine iteF ?_
    refine ⟨_, rfl, tc (ixt ha (atI_nat (j := 1) rfl) ⟨b, rfl, ⟨_, SqT.of hb⟩, for_tup (K := K) (a := b) (xs := xs) (fun i σ H' => ∃ y, σ = [some (.ref a), some (.int (deps (l.take i) : Nat)), y] ∧ H' = H)
      ⟨none, rfl, rfl⟩ (fun i σ H' _ ⟨y, _, e⟩ => by rw [e]; exact SqT.of hb) ?_ ?_⟩)⟩
    · rintro i x σ H' hi ⟨y, rfl, rfl⟩
      obtain ⟨z, hz, hdz⟩ := hx.get_map hi
      have hm := List.mem_of_getElem? hz
      have dl := deps_mem hm
      have dn : dep (.ls l p) = deps l + 1 := rfl
      refine ⟨_, rfl, _, rfl, x, z, rfl, hdz, by omega, ?_⟩
      refine ⟨_, _, rfl, ?_⟩
      have et : l.take (i + 1) = l.take i ++ [z] := by rw [List.take_add_one, hz]; rfl
      have em : (if ((dep z : Nat) : Int) > ((deps (l.take i) : Nat) : Int) then ((dep z : Nat) : Int) else ((deps (l.take i) : Nat) : Int)) = ((deps (l.take (i + 1)) : Nat) : Int) := by
        rw [et, deps_app]
        have : deps [z] = dep z := by simp [deps]
        rw [this]
        split <;> omega
      exact ⟨some x, by rw [← em]; rfl, rfl⟩
    · rintro σ H' ⟨y, rfl, rfl⟩
      rw [hxl, List.take_length]
      refine ⟨_, rfl, _, _, rfl, rfl, ?_⟩
      have e : ((dep (.ls l p) : Nat) : Int) = ((deps l : Nat) : Int) + 1 := by simp [dep]
      rw [e] at q
      exact q
def spDepL (n : Nat) : Sp := fun vs H Q _ => ∃ (v : V) (d : Sy), vs = [v] ∧ Dt H v (syD d) ∧ dep d < n ∧ OkS d ∧ ∀ H', Same H H' → Q (.int (dep d : Nat)) H'
theorem ok_law_depth {f : Addr} {fd : FuncData} {n k : Nat} (F : Dfn K mg "_law_depth" st__law_depth f fd ["syntax"]) (M : Mg mg) (G_law_depth : Cal P w K mg base k "_law_depth" (spDepL n)) : Cal P w K mg base (k + 1) "_law_depth" (spDepL (n + 1)) := by
  refine cal_mk F sc_law_depth (fun vs H Q E h => ?_) (fun cdv A outer s H vs Q E hr h => ?_)
  · obtain ⟨v, d, rfl, _⟩ := h
    rfl
  obtain ⟨v, d, rfl, hd, hn, ok, q⟩ := h
  refine ⟨_, (pss_cons (ps_if (pt_cmpR op_ne (pe_ix (ixT K rfl) (pv 0) pe_int (fun _ _ => rfl)) pe_str (nomark _)) (pss_one (ps_ret pe_int)) pss_nil)
      (pss_one (ps_ret (pe_op op_add pe_int (pe_callB (cr_max rfl) (by rfl) M.max b_max (pa_cons (pe_op op_cat (pe_lc (own := [("part", 1)]) (g := gName 1) (by rfl) sc_law_depth.nd (pi_tup (pe_ix (ixT K rfl) (pv 0) pe_int (fun _ _ => rfl))) (blkOk_by (own := [("part", 1)]) (N := ["syntax", "part"]) (sc := defScope st__law_depth) (by decide +kernel)) (fun _ _ _ _ _ => (pg_name (i := 1) sc_law_depth.nd rfl (.inl rfl))) (fun _ _ _ _ _ => pts_nil) (fun _ _ _ _ _ => (pe_c G_law_depth hr (by omega) (by rfl) (pa_cons (pv 1) pa_nil)))) (pe_lst (pa_cons pe_int pa_nil))) pa_nil)))))), ?_⟩
  cases d with
  | id s p st =>
    obtain ⟨a, o, x, rfl, ha, ho, hx⟩ := idE hd
    refine ⟨_, rfl, tc (ixt ha (atI_nat (j := 0) rfl) ⟨rfl, _, rfl, ?_⟩)⟩
    rw [kne nIL]
    exact iteT (q _ fun _ _ e => e)
  | «at» kd vl p =>
    obtain ⟨a, x, o, rfl, ha, hx, ho⟩ := atSE hd
    refine ⟨_, rfl, tc (ixt ha (atI_nat (j := 0) rfl) ⟨rfl, _, rfl, ?_⟩)⟩
    rw [kne nAL']
    exact iteT (q _ fun _ _ e => e)
  | ls l p =>
    obtain ⟨a, b, o, xs, rfl, ha, hb, hx, ho⟩ := lsSE hd
    obtain ⟨hl, oks⟩ := ok
    have hxl := hx.len
    rw [List.length_map] at hxl
    refine ⟨_, rfl, tc (ixt ha (atI_nat (j := 0) rfl) ⟨rfl, _, rfl, ?_⟩)⟩
    rw [keq]
    refine iteF ?_
    refine ⟨_, rfl, tc (ixt ha (atI_nat (j := 1) rfl) ⟨b, rfl, ⟨_, SqT.of hb⟩, fun D nD => ?_⟩)⟩
    have sD : ∀ o, Same H (upd H D o) := fun o => same_upd nD
    refine lc_tup (K := K) (a := b) (xs := xs) (fun i H' => (∀ z w, H z = some w → H' z = some w) ∧ H' D = some (.lst (((l.take i).map fun z => ((dep z : Nat) : Int)).map V.int))) ⟨sD _, upd_same⟩ (fun i H' _ h => SqT.of (h.1 _ _ hb)) ?_ ?_
    · rintro i x H' hi ⟨kk, hD⟩
      obtain ⟨z, hz, hdz⟩ := hx.get_map hi
      have hm := List.mem_of_getElem? hz
      have hil := (List.getElem?_eq_some_iff.mp hz).1
      have dl := deps_mem hm
      have dn : dep (.ls l p) = deps l + 1 := rfl
      have et : l.take (i + 1) = l.take i ++ [z] := by rw [List.take_add_one, hz]; rfl
      refine ⟨rfl, ?_⟩
      unfold tYes
      refine iteT ⟨_, rfl, x, z, rfl, hdz.tk (same_tk kk), by omega, OkSs_mem oks hm, fun H3 k4 => ?_⟩
      refine ⟨_, k4 _ _ hD, small1000 (by simp; omega), fun c w e => ?_, ?_⟩
      · rw [upd_ne (ne_of_none e nD)]
        exact k4 _ _ (kk _ _ e)
      · rw [upd_same, et, List.map_append, List.map_append]
        rfl
    · rintro H' ⟨kk, hD⟩
      rw [hxl, List.take_length] at hD
      refine ⟨by decide, fun p2 np2 => ?_⟩
      have k3 := same_upd (o := .lst [.int 0]) np2
      refine ⟨D, p2, _, [.int 0], rfl, rfl, k3 _ _ hD, upd_same, Nat.le_of_lt (small1000 (by simp; omega)), fun p3 np3 => ?_⟩
      have k4 := same_upd (o := .lst ((l.map fun z => ((dep z : Nat) : Int)).map V.int ++ [.int 0])) np3
      dsimp only [tNil]
      refine ⟨p3, (l.map fun z => ((dep z : Nat) : Int)) ++ [0], rfl, SqL.of ?_, by simp, fun m hm hle => ?_⟩
      · rw [List.map_append]
        exact upd_same
      · have em : m = ((deps l : Nat) : Int) := by
          have up : ∀ (l : List Sy), deps l = 0 ∨ ∃ z ∈ l, dep z = deps l := fun l => by
            induction l with
            | nil => exact .inl rfl
            | cons x r ih =>
              rw [deps]
              by_cases h : deps r ≤ dep x
              · exact .inr ⟨x, List.mem_cons_self, by omega⟩
              · rcases ih with ih | ⟨z, hz, e⟩
                · omega
                · exact .inr ⟨z, List.mem_cons_of_mem _ hz, by omega⟩
          have h1 : m ≤ ((deps l : Nat) : Int) := by
            rcases List.mem_append.mp hm with h | h
            · obtain ⟨z, hz, e⟩ := List.mem_map.mp h
              have := deps_mem hz
              omega
            · rw [List.mem_singleton.mp h]
              omega
          have h2 : ((deps l : Nat) : Int) ≤ m := by
            rcases up l with e | ⟨z, hz, e⟩
            · rw [e]
              exact hle 0 (List.mem_append_right _ List.mem_cons_self)
            · rw [← e]
              exact hle _ (List.mem_append_left _ (List.mem_map.mpr ⟨z, hz, rfl⟩))
          omega
        refine ⟨_, _, rfl, rfl, ?_⟩
        have e : ((dep (.ls l p) : Nat) : Int) = 1 + m := by rw [em]; simp [dep]; omega
        have q2 := q _ ((Same.trans kk k3).trans k4)
        rw [e] at q2
        exact q2
end
end W5
set_option Elab.async false
set_option linter.all false
set_option maxRecDepth 100000
set_option maxHeartbeats 4000000
namespace W5
open PySem PySem.Spec PyProof.Rows L2 Com EnumT
section
variable {P : Program} {w : World} {K : PySem.W.Frag} {mg : Str → Option Value} {base : Heap}
def spFlat (n : Nat) : Sp := fun vs H Q _ => ∃ (v : V) (d : Sy), vs = [v] ∧ Dt H v (syD d) ∧ dep d < n ∧ OkS d ∧ (flat d).length ≤ 100000 ∧ ∀ r H' ys, Same H H' → H' r = some (.lst ys) → DtAll H' ys ((flat d).map syD) → Q (.ref r) H'
theorem ok_law_flat {f : Addr} {fd : FuncData} {n k : Nat} (F : Dfn K mg "_law_flat" st__law_flat f fd ["syntax"]) (M : Mg mg) (G_law_flat : Cal P w K mg base k "_law_flat" (spFlat n)) : Cal P w K mg base (k + 1) "_law_flat" (spFlat (n + 1)) := by
  refine cal_mk F sc_law_flat (fun vs H Q E h => ?_) (fun cdv A outer s H vs Q E hr h => ?_)
  · obtain ⟨v, d, rfl, _⟩ := h
    rfl
  obtain ⟨v, d, rfl, hd, hn, ok, h100, q⟩ := h
  refine ⟨_, (pss_cons (ps_if (pt_cmpR op_ne (pe_ix (ixT K rfl) (pv 0) pe_int (fun _ _ => rfl)) pe_str (nomark _)) (pss_one (ps_ret (pe_lst (pa_cons (pv 0) pa_nil)))) pss_nil)
      (pss_cons (ps_set (i := 1) sc_law_flat.nd rfl (.inl rfl) (pe_lst (pa_cons (pv 0) pa_nil)))
      (pss_cons (ps_for PassesOwn.never rfl (pi_tup (pe_ix (ixT K rfl) (pv 0) pe_int (fun _ _ => rfl))) (pg_name (i := 2) sc_law_flat.nd rfl (.inl rfl))
      (pss_one (ps_set (i := 1) sc_law_flat.nd rfl (.inl rfl) (pe_op op_cat (pv 1) (pe_c G_law_flat hr (by omega) (by rfl) (pa_cons (pv 2) pa_nil))))))
      (pss_one (ps_ret (pv 1)))))), ?_⟩
  cases d with
  | id s p st =>
    obtain ⟨a, o, x, rfl, ha, ho, hx⟩ := idE hd
    refine ⟨_, rfl, tc (ixt ha (atI_nat (j := 0) rfl) ⟨rfl, _, rfl, ?_⟩)⟩
    rw [kne nIL]
    refine iteT ⟨_, rfl, by show 1 ≤ sizeLine; decide, fun p2 np2 => ?_⟩
    have k2 := same_upd (o := .lst [.ref a]) np2
    exact q p2 _ _ k2 upd_same (.one (hd.tk (same_tk k2)))
  | «at» kd vl p =>
    obtain ⟨a, x, o, rfl, ha, hx, ho⟩ := atSE hd
    refine ⟨_, rfl, tc (ixt ha (atI_nat (j := 0) rfl) ⟨rfl, _, rfl, ?_⟩)⟩
    rw [kne nAL']
    refine iteT ⟨_, rfl, by show 1 ≤ sizeLine; decide, fun p2 np2 => ?_⟩
    have k2 := same_upd (o := .lst [.ref a]) np2
    exact q p2 _ _ k2 upd_same (.one (hd.tk (same_tk k2)))
  | ls l p =>
    obtain ⟨a, b, o, xs, rfl, ha, hb, hx, ho⟩ := lsSE hd
    obtain ⟨hl, oks⟩ := ok
    have hxl := hx.len
    rw [List.length_map] at hxl
    have hfl : (flat (.ls l p)).length = (flats l).length + 1 := by simp [flat]
    refine ⟨_, rfl, tc (ixt ha (atI_nat (j := 0) rfl) ⟨rfl, _, rfl, ?_⟩)⟩
    rw [keq]
    refine iteF ?_
    refine ⟨_, rfl, by show 1 ≤ sizeLine; decide, fun D0 nD => ?_⟩
    have k2 := same_upd (o := .lst [.ref a]) nD
    have hD0 : upd H D0 (.lst [.ref a]) D0 = some (.lst [.ref a]) := upd_same
    have dD0 : DtAll (upd H D0 (.lst [.ref a])) [.ref a] [syD (.ls l p)] := .one (hd.tk (same_tk k2))
    generalize upd H D0 (.lst [.ref a]) = H2 at k2 hD0 dD0 ⊢
    refine ⟨_, rfl, tc (ixt (k2 _ _ ha) (atI_nat (j := 1) rfl) ⟨b, rfl, ⟨_, SqT.of (k2 _ _ hb)⟩, for_tup (K := K) (a := b) (xs := xs) (fun i σ H' => ∃ y D ys, σ = [some (.ref a), some (.ref D), y] ∧ (∀ z w, H z = some w → H' z = some w) ∧ H' D = some (.lst ys) ∧ DtAll H' ys ((Sy.ls l p :: flats (l.take i)).map syD))
      ⟨none, D0, _, rfl, k2, hD0, dD0⟩ (fun i σ H' _ ⟨y, D, ys, _, kk, _⟩ => SqT.of (kk _ _ hb)) ?_ ?_⟩)⟩
    · rintro i x σ H' hi ⟨y, D, ys, rfl, kk, hD', hy⟩
      obtain ⟨z, hz, hdz⟩ := hx.get_map hi
      have hm := List.mem_of_getElem? hz
      have hil := (List.getElem?_eq_some_iff.mp hz).1
      have dl := deps_mem hm
      have dn : dep (.ls l p) = deps l + 1 := rfl
      have fz := flats_mem hm
      refine ⟨_, rfl, _, rfl, x, z, rfl, hdz.tk (same_tk kk), by omega, OkSs_mem oks hm, by omega, fun r H3 zs k4 h4 d4 => ?_⟩
      have et : l.take (i + 1) = l.take i ++ [z] := by rw [List.take_add_one, hz]; rfl
      have hyl := hy.len
      have hzl := d4.len
      rw [List.length_map] at hyl hzl
      have hle : (flats (l.take i)).length ≤ (flats l).length := by
        have e := flats_app (l.take i) (l.drop i)
        rw [List.take_append_drop] at e
        rw [e, List.length_append]
        omega
      rw [List.length_cons] at hyl
      refine ⟨D, r, ys, zs, rfl, rfl, k4 _ _ hD', h4, by show _ ≤ 2 ^ 24; omega, fun p2 np2 => ?_⟩
      have k5 := same_upd (o := .lst (ys ++ zs)) np2
      refine ⟨_, p2, ys ++ zs, rfl, fun c w e => k5 _ _ (k4 _ _ (kk _ _ e)), upd_same, ?_⟩
      have e1 : Sy.ls l p :: flats (l.take (i + 1)) = (Sy.ls l p :: flats (l.take i)) ++ flat z := by
        rw [et, flats_app, List.cons_append]
        simp [flats]
      rw [e1, List.map_append]
      exact ((hy.tk (same_tk k4)).app d4).tk (same_tk k5)
    · rintro σ H' ⟨y, D, ys, rfl, kk, hD', hy⟩
      rw [hxl, List.take_length] at hy
      exact ⟨_, rfl, q D H' ys kk hD' hy⟩
/-! size -/
def spSize : Sp := fun vs H Q _ => ∃ (v : V) (d : Sy), vs = [v] ∧ Dt H v (syD d) ∧ (flat d).length ≤ 100000 ∧ ∀ H', Same H H' → Q (.int ((flat d).length : Nat)) H'
theorem headS {H : Hp} {v : V} {z : Sy} (h : Dt H v (syD z)) : (∃ s p st, z = .id s p st ∧ ∃ a xs, v = .ref a ∧ H a = some (.tup (.str "id" :: xs))) ∨ (∃ k w p, z = .at k w p ∧ ∃ a xs, v = .ref a ∧ H a = some (.tup (.str "atom" :: xs))) ∨
    ∃ l p, z = .ls l p ∧ ∃ a b o xs, v = .ref a ∧ H a = some (.tup [.str "list", .ref b, o]) ∧ H b = some (.tup xs) ∧ DtAll H xs (l.map syD) := by
  cases z with
  | id s p st =>
    obtain ⟨a, o, x, rfl, ha, _⟩ := idE h
    exact .inl ⟨_, _, _, rfl, a, _, rfl, ha⟩
  | «at» k w p =>
    obtain ⟨a, o, x, rfl, ha, _⟩ := atSE h
    exact .inr (.inl ⟨_, _, _, rfl, a, _, rfl, ha⟩)
  | ls l p =>
    obtain ⟨a, b, o, xs, rfl, ha, hb, hx, _⟩ := lsSE h
    exact .inr (.inr ⟨_, _, rfl, a, b, o, xs, rfl, ha, hb, hx⟩)
theorem DtAll.appE {H : Hp} : ∀ {vs : List V} {ds es : List PyData}, DtAll H vs (ds ++ es) → ∃ xs ys, vs = xs ++ ys ∧ DtAll H xs ds ∧ DtAll H ys es
  | vs, [], es, h => ⟨[], vs, rfl, .nil, h⟩
  | _, d :: ds, es, h => by
    cases h with
    | cons h1 h2 =>
      obtain ⟨xs, ys, rfl, a, b⟩ := DtAll.appE h2
      exact ⟨_ :: xs, ys, rfl, .cons h1 a, b⟩
theorem DtAll.rev {H : Hp} : ∀ {vs : List V} {ds : List PyData}, DtAll H vs ds → DtAll H vs.reverse ds.reverse
  | _, _, .nil => .nil
  | _, _, .cons h t => by
    rw [List.reverse_cons, List.reverse_cons]
    exact (DtAll.rev t).app (.one h)
theorem ok_size {f : Addr} {fd : FuncData} (F : Dfn K mg "size" st_size f fd ["syntax"]) (M : Mg mg) : Cal P w K mg base 1 "size" spSize := by
  refine cal_mk F scsize (fun vs H Q E h => ?_) (fun cdv A outer s H vs Q E hr h => ?_)
  · obtain ⟨v, d, rfl, _⟩ := h
    rfl
  obtain ⟨v, d, rfl, hd, h100, q⟩ := h
  refine ⟨_, (pss_cons (ps_set (i := 1) scsize.nd rfl (.inl rfl) pe_int)
      (pss_cons (ps_set (i := 2) scsize.nd rfl (.inl rfl) (pe_lst (pa_cons (pv 0) pa_nil)))
      (pss_cons (ps_while PassesOwn.never (pt_truth (pv 2) (by intro _; rfl))
      (pss_cons (ps_set (i := 3) scsize.nd rfl (.inl rfl) (pe_bm0 PySem.F.plainAttrs_list PySem.F.slot_list_pop PySem.F.type_list_pop mt_pop (pv 2)))
      (pss_cons (ps_aug (i := 1) scsize.nd rfl (.inl rfl) pe_int ip_add)
      (pss_one (ps_if (pt_cmpR op_eq (pe_ix (ixT K rfl) (pv 3) pe_int (fun _ _ => rfl)) pe_str (nomark _)) (pss_one (ps_expr (pe_bm PySem.F.plainAttrs_list PySem.F.slot_list_extend PySem.F.type_list_extend (RuleX.mt_extT (K := K)) (pv 2) (pa_cons (pe_ix (ixT K rfl) (pv 3) pe_int (fun _ _ => rfl)) pa_nil)))) pss_nil)))))
      (pss_one (ps_ret (pv 1)))))), ?_⟩
  refine ⟨_, rfl, by show 1 ≤ sizeLine; decide, fun D nD => ?_⟩
  have k2 := same_upd (o := .lst [v]) nD
  have hD : upd H D (.lst [v]) D = some (.lst [v]) := upd_same
  have dD : DtAll (upd H D (.lst [v])) [v] ([d].map syD) := .one (hd.tk (same_tk k2))
  generalize upd H D (.lst [v]) = H2 at k2 hD dD ⊢
  refine ⟨fun m σ H' => ∃ (y : Option V) (vs : List V) (zs : List Sy) (c : Nat), σ = [some v, some (.int c), some (.ref D), y] ∧ Keep D H2 H' ∧ H' D = some (.lst vs) ∧ DtAll H' vs (zs.map syD) ∧ c + (flats zs).length = (flat d).length ∧ m = (flats zs).length,
    ⟨_, none, [v], [d], 0, rfl, Keep.refl _ _, hD, dD, by simp [flats], rfl⟩, ?_⟩
  rintro m σ H' ⟨y, vs, zs, c, rfl, kk, hD', hy, hc, rfl⟩
  have hyl := hy.len
  rw [List.length_map] at hyl
  have same : Same H H' := fun b o e => kk _ _ (k2 _ _ e) (ne_of_none e nD)
  refine ⟨_, rfl, _, .inl ⟨vs, SqL.of hD', rfl⟩, ?_⟩
  rcases List.eq_nil_or_concat zs with e | ⟨init, z, e⟩
  · subst e
    have ev : vs = [] := List.length_eq_zero_iff.mp hyl
    subst ev
    refine iteF ⟨_, rfl, ?_⟩
    have ec : c = (flat d).length := by simpa [flats] using hc
    rw [ec]
    exact q _ same
  · rw [List.concat_eq_append] at e
    subst e
    rw [List.map_append] at hy
    obtain ⟨us, ws, rfl, h1, h2⟩ := DtAll.appE hy
    obtain ⟨xv, r0, rfl, hxv, h3⟩ := DtAll.consE h2
    have e0 := h3.nilE
    subst e0
    have ne : (us ++ [xv]).isEmpty = false := by simp
    have fl : (flats (init ++ [z])).length = (flats init).length + (flat z).length := by rw [flats_app, List.length_append]; simp [flats]
    have hul := h1.len
    rw [List.length_map] at hul
    have hli := len_flats init
    rw [ne]
    refine iteT ⟨fun σ' H' => ∃ m', m' < (flats (init ++ [z])).length ∧ ∃ (y : Option V) (vs : List V) (zs : List Sy) (c : Nat), σ' = [some v, some (.int c), some (.ref D), y] ∧ Keep D H2 H' ∧ H' D = some (.lst vs) ∧ DtAll H' vs (zs.map syD) ∧ c + (flats zs).length = (flat d).length ∧ m' = (flats zs).length, fun σ' H' h => h, ?_⟩
    refine ⟨_, rfl, .inl ⟨rfl, _, SqL.of hD'⟩, D, _, xv, rfl, rfl, hD', by simp, ?_⟩
    rw [List.dropLast_concat]
    have tk8 : Tk H' (upd H' D (.lst us)) := Tk.upd fun xs z => by rw [hD'] at z; cases z
    have kk8 : Keep D H2 (upd H' D (.lst us)) := kk.trans Keep.at
    have hD8 : upd H' D (.lst us) D = some (.lst us) := upd_same
    have x8 := hxv.tk tk8
    have h8 := h1.tk tk8
    generalize upd H' D (.lst us) = H8 at tk8 kk8 hD8 x8 h8 ⊢
    refine ⟨_, rfl, _, _, rfl, rfl, ?_⟩
    have e1 : ∀ c : Nat, ((c : Nat) : Int) + 1 = ((c + 1 : Nat) : Int) := fun c => rfl
    rcases headS x8 with ⟨s', p', st', rfl, a, xs, rfl, ha⟩ | ⟨k', w', p', rfl, a, xs, rfl, ha⟩ | ⟨l, p', rfl, a, b, o, xs, rfl, ha, hb, hx⟩
    · refine ⟨_, rfl, tc (ixt ha (atI_nat (j := 0) rfl) ⟨rfl, _, rfl, ?_⟩)⟩
      rw [kne nIL]
      have f1 : (flat (.id s' p' st')).length = 1 := rfl
      exact iteF ⟨(flats init).length, by omega, _, us, init, c + 1, rfl, kk8, hD8, h8, by omega, rfl⟩
    · refine ⟨_, rfl, tc (ixt ha (atI_nat (j := 0) rfl) ⟨rfl, _, rfl, ?_⟩)⟩
      rw [kne nAL']
      have f1 : (flat (.at k' w' p')).length = 1 := rfl
      exact iteF ⟨(flats init).length, by omega, _, us, init, c + 1, rfl, kk8, hD8, h8, by omega, rfl⟩
    · refine ⟨_, rfl, tc (ixt ha (atI_nat (j := 0) rfl) ⟨rfl, _, rfl, ?_⟩)⟩
      rw [keq]
      have f1 : (flat (.ls l p')).length = (flats l).length + 1 := by simp [flat]
      have hxl := hx.len
      rw [List.length_map] at hxl
      have hll := len_flats l
      refine iteT ⟨_, rfl, .inl ⟨rfl, _, SqL.of hD8⟩, _, rfl, tc (ixt ha (atI_nat (j := 1) rfl) ?_)⟩
      refine ⟨D, b, us, xs, rfl, rfl, hD8, hb, by show _ ≤ 2 ^ 24; omega, ?_⟩
      have tk9 : Tk H8 (upd H8 D (.lst (us ++ xs))) := Tk.upd fun xs z => by rw [hD8] at z; cases z
      have fa : (flats (init ++ l)).length = (flats init).length + (flats l).length := by rw [flats_app, List.length_append]
      exact ⟨(flats (init ++ l)).length, by omega, _, us ++ xs, init ++ l, c + 1, rfl, kk8.trans Keep.at, upd_same, by rw [List.map_append]; exact (h8.app hx).tk tk9, by omega, rfl⟩
/-! identifiers -/
def spIds : Sp := fun vs H Q _ => ∃ (v : V) (d : Sy), vs = [v] ∧ Dt H v (syD d) ∧ (flat d).length ≤ 100000 ∧ ∀ r H' ys, Same H H' → H' r = some (.lst ys) → DtAll H' ys (((flat d).filter isId).map syD) → Q (.ref r) H'
theorem flats_rev (init : List Sy) (z : Sy) : flats (init ++ [z]).reverse = flat z ++ flats init.reverse := by
  rw [List.reverse_append]
  rfl
theorem len_rev : ∀ l : List Sy, (flats l.reverse).length = (flats l).length
  | [] => rfl
  | x :: r => by rw [List.reverse_cons, flats_app, List.length_append, len_rev r]; simp [flats]; omega
theorem ok_identifiers {f : Addr} {fd : FuncData} (F : Dfn K mg "identifiers" st_identifiers f fd ["syntax"]) (M : Mg mg) : Cal P w K mg base 1 "identifiers" spIds := by
  refine cal_mk F scidentifiers (fun vs H Q E h => ?_) (fun cdv A outer s H vs Q E hr h => ?_)
  · obtain ⟨v, d, rfl, _⟩ := h
    rfl
  obtain ⟨v, d, rfl, hd, h100, q⟩ := h
  refine ⟨_, (pss_cons (ps_set (i := 1) scidentifiers.nd rfl (.inl rfl) (pe_lst pa_nil))
      (pss_cons (ps_set (i := 2) scidentifiers.nd rfl (.inl rfl) (pe_lst (pa_cons (pv 0) pa_nil)))
      (pss_cons (ps_while PassesOwn.never (pt_truth (pv 2) (by intro _; rfl))
      (pss_cons (ps_set (i := 3) scidentifiers.nd rfl (.inl rfl) (pe_bm0 PySem.F.plainAttrs_list PySem.F.slot_list_pop PySem.F.type_list_pop mt_pop (pv 2)))
      (pss_one (ps_if (pt_cmpR op_eq (pe_ix (ixT K rfl) (pv 3) pe_int (fun _ _ => rfl)) pe_str (nomark _)) (pss_one (ps_expr (pe_bm PySem.F.plainAttrs_list PySem.F.slot_list_append PySem.F.type_list_append mt_append (pv 1) (pa_cons (pv 3) pa_nil)))) (pss_one (ps_if (pt_cmpR op_eq (pe_ix (ixT K rfl) (pv 3) pe_int (fun _ _ => rfl)) pe_str (nomark _)) (pss_one (ps_expr (pe_bm PySem.F.plainAttrs_list PySem.F.slot_list_extend PySem.F.type_list_extend (RuleX.mt_extT (K := K)) (pv 2) (pa_cons (RuleX.pe_revT rfl (pe_ix (ixT K rfl) (pv 3) pe_int (fun _ _ => rfl))) pa_nil)))) pss_nil))))))
      (pss_one (ps_ret (pv 1)))))), ?_⟩
  refine ⟨by decide, fun B nB => ?_⟩
  have k1 := same_upd (o := .lst []) nB
  have hB : upd H B (.lst []) B = some (.lst []) := upd_same
  generalize upd H B (.lst []) = H1 at k1 hB ⊢
  refine ⟨_, rfl, by show 1 ≤ sizeLine; decide, fun D nD => ?_⟩
  have nDB : D ≠ B := fun e => by rw [e, hB] at nD; cases nD
  have nDH : H D = none := by
    cases e : H D with
    | none => rfl
    | some o => rw [k1 _ _ e] at nD; cases nD
  have k2 := same_upd (o := .lst [v]) nD
  have hD : upd H1 D (.lst [v]) D = some (.lst [v]) := upd_same
  have dD : DtAll (upd H1 D (.lst [v])) [v] ([d].map syD) := .one (hd.tk (same_tk (k1.trans k2)))
  have hB2 := k2 _ _ hB
  have kk2 := k1.trans k2
  generalize upd H1 D (.lst [v]) = H2 at k2 hD dD hB2 kk2 ⊢
  refine ⟨fun m σ H' => ∃ (y : Option V) (vs : List V) (zs : List Sy) (ys : List V) (fs : List Sy), σ = [some v, some (.ref B), some (.ref D), y] ∧ Same H H' ∧ H' D = some (.lst vs) ∧ H' B = some (.lst ys) ∧ DtAll H' vs (zs.map syD) ∧ DtAll H' ys (fs.map syD) ∧ fs ++ (flats zs.reverse).filter isId = (flat d).filter isId ∧ fs.length + (flats zs).length ≤ 100000 ∧ m = (flats zs).length,
    ⟨_, none, [v], [d], [], [], rfl, kk2, hD, hB2, dD, .nil, by simp [flats], by simpa [flats] using h100, rfl⟩, ?_⟩
  rintro m σ H' ⟨y, vs, zs, ys, fs, rfl, kk, hD', hB', hy, hf, hc, hlen, rfl⟩
  have hyl := hy.len
  rw [List.length_map] at hyl
  have hfl := hf.len
  rw [List.length_map] at hfl
  refine ⟨_, rfl, _, .inl ⟨vs, SqL.of hD', rfl⟩, ?_⟩
  rcases List.eq_nil_or_concat zs with e | ⟨init, z, e⟩
  · subst e
    have ev : vs = [] := List.length_eq_zero_iff.mp hyl
    subst ev
    have ec : fs = (flat d).filter isId := by simpa [flats] using hc
    rw [ec] at hf
    exact iteF ⟨_, rfl, q B H' ys kk hB' hf⟩
  · rw [List.concat_eq_append] at e
    subst e
    rw [List.map_append] at hy
    obtain ⟨us, ws, rfl, h1, h2⟩ := DtAll.appE hy
    obtain ⟨xv, r0, rfl, hxv, h3⟩ := DtAll.consE h2
    have e0 := h3.nilE
    subst e0
    have ne : (us ++ [xv]).isEmpty = false := by simp
    have fl : (flats (init ++ [z])).length = (flats init).length + (flat z).length := by rw [flats_app, List.length_append]; simp [flats]
    have hul := h1.len
    rw [List.length_map] at hul
    have hli := len_flats init
    rw [flats_rev] at hc
    rw [ne]
    refine iteT ⟨fun σ' H' => ∃ m', m' < (flats (init ++ [z])).length ∧ ∃ (y : Option V) (vs : List V) (zs : List Sy) (ys : List V) (fs : List Sy), σ' = [some v, some (.ref B), some (.ref D), y] ∧ Same H H' ∧ H' D = some (.lst vs) ∧ H' B = some (.lst ys) ∧ DtAll H' vs (zs.map syD) ∧ DtAll H' ys (fs.map syD) ∧ fs ++ (flats zs.reverse).filter isId = (flat d).filter isId ∧ fs.length + (flats zs).length ≤ 100000 ∧ m' = (flats zs).length, fun σ' H' h => h, ?_⟩
    refine ⟨_, rfl, .inl ⟨rfl, _, SqL.of hD'⟩, D, _, xv, rfl, rfl, hD', by simp, ?_⟩
    rw [List.dropLast_concat]
    have tk8 : Tk H' (upd H' D (.lst us)) := Tk.upd fun xs z => by rw [hD'] at z; cases z
    have kk8 : Same H (upd H' D (.lst us)) := fun b o e => by rw [upd_ne (ne_of_none e nDH)]; exact kk _ _ e
    have hD8 : upd H' D (.lst us) D = some (.lst us) := upd_same
    have hB8 : upd H' D (.lst us) B = some (.lst ys) := by rw [upd_ne nDB.symm]; exact hB'
    have x8 := hxv.tk tk8
    have h8 := h1.tk tk8
    have f8 := hf.tk tk8
    have nBH : H B = none := nB
    generalize upd H' D (.lst us) = H8 at tk8 kk8 hD8 hB8 x8 h8 f8 ⊢
    rcases headS x8 with ⟨s', p', st', rfl, a, xs, rfl, ha⟩ | ⟨k', w', p', rfl, a, xs, rfl, ha⟩ | ⟨l, p', rfl, a, b, o, xs, rfl, ha, hb, hx⟩
    · refine ⟨_, rfl, tc (ixt ha (atI_nat (j := 0) rfl) ⟨rfl, _, rfl, ?_⟩)⟩
      rw [keq]
      have f1 : (flat (.id s' p' st')).length = 1 := rfl
      refine iteT ⟨_, rfl, .inl ⟨rfl, _, SqL.of hB8⟩, _, rfl, B, ys, _, rfl, rfl, hB8, by show _ < 2 ^ 24; omega, ?_⟩
      have tk9 : Tk H8 (upd H8 B (.lst (ys ++ [.ref a]))) := Tk.upd fun xs z => by rw [hB8] at z; cases z
      refine ⟨(flats init).length, by omega, _, us, init, ys ++ [.ref a], fs ++ [.id s' p' st'], rfl, fun b o e => by rw [upd_ne (ne_of_none e nBH)]; exact kk8 _ _ e, by rw [upd_ne nDB]; exact hD8, upd_same, h8.tk tk9, by rw [List.map_append]; exact (f8.app (.one x8)).tk tk9, ?_, by rw [List.length_append, List.length_singleton]; omega, rfl⟩
      rw [← hc, List.append_assoc]
      have e2 : (flat (.id s' p' st') ++ flats init.reverse).filter isId = [Sy.id s' p' st'] ++ (flats init.reverse).filter isId := by
        simp only [flat, List.singleton_append]
        rw [List.filter_cons_of_pos (by rfl)]
      rw [e2]
    · refine ⟨_, rfl, tc (ixt ha (atI_nat (j := 0) rfl) ⟨rfl, _, rfl, ?_⟩)⟩
      rw [kne nAI]
      refine iteF ⟨_, rfl, tc (ixt ha (atI_nat (j := 0) rfl) ⟨rfl, _, rfl, ?_⟩)⟩
      rw [kne nAL']
      have f1 : (flat (.at k' w' p')).length = 1 := rfl
      refine iteF ⟨(flats init).length, by omega, _, us, init, ys, fs, rfl, kk8, hD8, hB8, h8, f8, ?_, by omega, rfl⟩
      rw [← hc]
      simp [flat, isId]
    · refine ⟨_, rfl, tc (ixt ha (atI_nat (j := 0) rfl) ⟨rfl, _, rfl, ?_⟩)⟩
      rw [kne nLI]
      refine iteF ⟨_, rfl, tc (ixt ha (atI_nat (j := 0) rfl) ⟨rfl, _, rfl, ?_⟩)⟩
      rw [keq]
      have f1 : (flat (.ls l p')).length = (flats l).length + 1 := by simp [flat]
      have hxl := hx.len
      rw [List.length_map] at hxl
      have hll := len_flats l
      refine iteT ⟨_, rfl, .inl ⟨rfl, _, SqL.of hD8⟩, _, rfl, tc (ixt ha (atI_nat (j := 1) rfl) ⟨b, xs, rfl, SqT.of hb, fun p2 np2 => ?_⟩)⟩
      have k9 := same_upd (o := .tup xs.reverse) np2
      have hp2 : upd H8 p2 (.tup xs.reverse) p2 = some (.tup xs.reverse) := upd_same
      generalize upd H8 p2 (.tup xs.reverse) = H9 at k9 hp2 ⊢
      have hD9 := k9 _ _ hD8
      refine ⟨D, p2, us, xs.reverse, rfl, rfl, hD9, hp2, by rw [List.length_reverse]; show _ ≤ 2 ^ 24; omega, ?_⟩
      have tk9 : Tk H9 (upd H9 D (.lst (us ++ xs.reverse))) := Tk.upd fun xs z => by rw [hD9] at z; cases z
      have fa : (flats (init ++ l.reverse)).length = (flats init).length + (flats l).length := by rw [flats_app, List.length_append, len_rev]
      refine ⟨(flats (init ++ l.reverse)).length, by omega, _, us ++ xs.reverse, init ++ l.reverse, ys, fs, rfl, fun b o e => by rw [upd_ne (ne_of_none e nDH)]; exact k9 _ _ (kk8 _ _ e), upd_same, by rw [upd_ne nDB.symm]; exact k9 _ _ hB8, ?_, (f8.tk (same_tk k9)).tk tk9, ?_, by omega, rfl⟩
      · rw [List.map_append, List.map_reverse]
        exact ((h8.app (W5.DtAll.rev hx)).tk (same_tk k9)).tk tk9
      · rw [← hc, List.reverse_append, List.reverse_reverse, flats_app]
        simp [flat, isId]
end
end W5
set_option Elab.async false
set_option linter.all false
set_option maxRecDepth 100000
set_option maxHeartbeats 4000000
namespace W5
open PySem PySem.Spec PyProof.Rows L2 Com EnumT LamY
theorem sl4 {K : PySem.W.Frag} {H : Hp} {i : Addr} {a b c d : V} {lo hi : Option Int} {ys : List V} {Q : VK} (h : H i = some (.tup [a, b, c, d])) (hw : ¬ (HT.sIx 4 0 lo = 0 ∧ HT.sIx 4 4 hi = 4)) (hy : cutV [a, b, c, d] lo hi = ys) (q : ∀ p, H p = none → Q (.ref p) (upd H p (.tup ys))) : rSlA K (.ref i) lo hi H Q :=
  ⟨i, _, rfl, SqT.of h, fun w => absurd w hw, fun _ => by rw [hy]; exact q⟩
theorem catT {K : PySem.W.Frag} {H : Hp} {i j : Addr} {xs ys : List V} {Q : VK} (h1 : H i = some (.tup xs)) (h2 : H j = some (.tup ys)) (nx : xs ≠ []) (ny : ys ≠ []) (hl : xs.length + ys.length ≤ sizeLine) (q : ∀ p, H p = none → Q (.ref p) (upd H p (.tup (xs ++ ys)))) : rCatT K (.ref i) (.ref j) H Q :=
  ⟨i, j, xs, ys, rfl, rfl, SqT.of h1, SqT.of h2, nx, hl, fun e => absurd e ny, fun _ => q⟩
section
variable {P : Program} {w : World} {K : PySem.W.Frag} {mg : Str → Option Value} {base : Heap} {α : Type}
def spMap (fL c' : Addr) (qn : Str) (side : α → Hp → Prop) (g : α → List Sc → List Sc) (n : Nat) : Sp := fun vs H Q _ => ∃ (z : α) (v : V) (d : Sy), vs = [v, .ref fL] ∧ H c' = some (LamX.CodeO c' qn) ∧ side z H ∧ Dt H v (syD d) ∧ dep d < n ∧ OkS d ∧ ∀ r H', Same H H' → Dt H' r (syD (mapS (fun s => srt (g z s)) d)) → Q r H'
theorem ok_law_mapped {f fL c' : Addr} {fd : FuncData} {n k : Nat} {qn x5 : Str} {params : Arguments} {body : Expr} {scope : Scope} {cl : List (Str × Addr)} {fr N5 : List Str} {ws : List (Option V)} {tb : TE} {side : α → Hp → Prop} {g : α → List Sc → List Sc}
    (F : Dfn K mg "_law_mapped" st__law_mapped f fd ["syntax", "change"]) (M : Mg mg) (hL : LamAt base fL c' qn params body scope cl fr ws) (hS : NdefX.NScope N5 [x5] fr scope) (hb5 : ∀ (pm cv ctv u : Value), bindArgs (PySem.W.kla_fn "<lambda>" qn params body scope cl pm cv ctv) ⟨[u], []⟩ = pure [(x5, u)])
    (hbody : ∀ (A : Around) (outer : List Env) (s : Shared) (H : Hp), Room 1 (A.deeper (NdefX.envF (nfOf qn params scope cl c') fL s.heap.objs.size)) → PE (NdefX.ncx CX0 P w K mg base N5 (nfOf qn params scope cl c') fL A outer s H E0) body tb)
    (hsame : ∀ z H H', Same H H' → side z H → side z H')
    (hsem : ∀ z H l xs held Q, side z H → H l = some (.lst xs) → DtAll H xs (held.map scD) → OkT held → (∀ r H' ys, Same H H' → H' r = some (.lst ys) → DtAll H' ys ((g z held).map scD) → Q (.ref r) H') → tb (NdefX.startF N5 [.ref l] ws) H Q)
    (G_law_mapped : Cal P w K mg base (k + 2) "_law_mapped" (spMap fL c' qn side g n)) : FnOk P w K mg base CX0 (k + 2 + 1) f fd ["syntax", "change"] (spMap fL c' qn side g (n + 1)) := by
  refine F.fn.ok sc_law_mapped (fun vs H Q E h => ?_) (fun cdv A outer s H vs Q E hr h => ?_)
  · obtain ⟨z, v, d, rfl, _⟩ := h
    rfl
  obtain ⟨z, v, d, rfl, hcode, hside, hd, hn, ok, q⟩ := h
  refine ⟨_, (pss_cons (ps_if (pt_cmpR op_eq (pe_ix (ixT K rfl) (pv 0) pe_int (fun _ _ => rfl)) pe_str (nomark _)) (pss_one (ps_ret (pe_op (opCatT K rfl) (pe_slice (slA K rfl) (pv 0) po_none (po_some pe_int)) (pe_tup (pa_cons (pe_callTy (cTup K rfl) (by rfl) M.tuple b_tuple (pa_cons (pe_callB (cSort K rfl (units65 hr)) (by rfl) M.sorted b_sorted (pa_cons (LamY.pe_lcall (i := 1) hL hS hb5 (hr.mono (by omega)) hbody rfl (.inr (.inl rfl)) (pa_cons (pe_callTy (cList K rfl) (by rfl) M.list b_list (pa_cons (pe_ix (ixT K rfl) (pv 0) pe_int (fun _ _ => rfl)) pa_nil)) pa_nil)) pa_nil)) pa_nil)) pa_nil))))) pss_nil)
      (pss_cons (ps_if (pt_cmpR op_eq (pe_ix (ixT K rfl) (pv 0) pe_int (fun _ _ => rfl)) pe_str (nomark _)) (pss_one (ps_ret (pe_tup (pa_cons pe_str (pa_cons (pe_callTy (cTup K rfl) (by rfl) M.tuple b_tuple (pa_cons (pe_lc (own := [("part", 2)]) (g := gName 2) (by rfl) sc_law_mapped.nd (pi_tup (pe_ix (ixT K rfl) (pv 0) pe_int (fun _ _ => rfl))) (blkOk_by (own := [("part", 2)]) (N := ["syntax", "change", "part"]) (sc := defScope st__law_mapped) (by decide +kernel)) (fun _ _ _ _ _ => (pg_name (i := 2) sc_law_mapped.nd rfl (.inl rfl))) (fun _ _ _ _ _ => pts_nil) (fun _ _ _ _ _ => (pe_c G_law_mapped hr (by omega) (by rfl) (pa_cons (pv 2) (pa_cons (pv 1) pa_nil))))) pa_nil)) (pa_cons (pe_ix (ixT K rfl) (pv 0) pe_int (fun _ _ => rfl)) pa_nil)))))) pss_nil)
      (pss_one (ps_ret (pv 0))))), ?_⟩
  cases d with
  | id s p st =>
    obtain ⟨a, o, x, rfl, ha, ho, hx⟩ := idE hd
    have okt : OkT st := ok
    obtain ⟨b, xs, rfl, hb, hxs⟩ := Dt.tupE hx
    refine ⟨_, rfl, tc (ixt ha (atI_nat (j := 0) rfl) ⟨rfl, _, rfl, ?_⟩)⟩
    rw [keq]
    refine iteT ?_
    refine ⟨_, rfl, 3, rfl, sl4 ha (by decide) (ys := [.str "id", .str s, o]) rfl fun p1 np1 => ?_⟩
    have k1 := same_upd (o := .tup [.str "id", .str s, o]) np1
    have c1 : upd H p1 (.tup [.str "id", .str s, o]) p1 = some (.tup [.str "id", .str s, o]) := upd_same
    generalize upd H p1 (.tup [.str "id", .str s, o]) = G1 at k1 c1 ⊢
    refine ⟨rfl, _, rfl, tc (ixt (k1 _ _ ha) (atI_nat (j := 3) rfl) ⟨b, xs, rfl, .inr (SqT.of (k1 _ _ hb)), fun l nl => ?_⟩)⟩
    have k2 := same_upd (o := .lst xs) nl
    have c2 : upd G1 l (.lst xs) l = some (.lst xs) := upd_same
    have d2 : DtAll (upd G1 l (.lst xs)) xs (st.map scD) := hxs.tk (same_tk (k1.trans k2))
    generalize upd G1 l (.lst xs) = G2 at k2 c2 d2 ⊢
    have k12 := k1.trans k2
    refine ⟨_, rfl, k12 _ _ hcode, hsem z G2 l xs st _ (hsame z _ _ k12 hside) c2 d2 okt fun r G3 ys k3 h3 d3 => ?_⟩
    dsimp only [tNil]
    refine sorted_sc (SqL.of h3) d3 fun p2 G4 us k4 h4 d4 => ?_
    refine tuple_of (SqL.of h4) d4 fun p3 G5 k5 d5 => ?_
    refine ⟨by show 1 ≤ sizeLine; decide, fun p4 np4 => ?_⟩
    have k6 := same_upd (o := .tup [.ref p3]) np4
    have c6 : upd G5 p4 (.tup [.ref p3]) p4 = some (.tup [.ref p3]) := upd_same
    have d6 := d5.tk (same_tk k6)
    generalize upd G5 p4 (.tup [.ref p3]) = G6 at k6 c6 d6 ⊢
    have k36 := ((k3.trans k4).trans k5).trans k6
    refine catT (k36 _ _ (k2 _ _ c1)) c6 (by simp) (by simp) (by show 4 ≤ sizeLine; decide) fun p7 np7 => ?_
    have k7 := same_upd (o := .tup ([.str "id", .str s, o] ++ [.ref p3])) np7
    have c7 : upd G6 p7 (.tup ([.str "id", .str s, o] ++ [.ref p3])) p7 = some (.tup [.str "id", .str s, o, .ref p3]) := upd_same
    generalize upd G6 p7 (.tup ([.str "id", .str s, o] ++ [.ref p3])) = G7 at k7 c7 ⊢
    have kk : Same H G7 := (k12.trans k36).trans k7
    exact q _ _ kk (.tup c7 (.cons (.str _) (.cons (.str _) (.cons (ho.tk (same_tk kk)) (.cons (d6.tk (same_tk k7)) .nil)))))
  | «at» kd vl p =>
    obtain ⟨a, x, o, rfl, ha, hx, ho⟩ := atSE hd
    refine ⟨_, rfl, tc (ixt ha (atI_nat (j := 0) rfl) ⟨rfl, _, rfl, ?_⟩)⟩
    rw [kne nAI]
    refine iteF ⟨_, rfl, tc (ixt ha (atI_nat (j := 0) rfl) ⟨rfl, _, rfl, ?_⟩)⟩
    rw [kne nAL']
    exact iteF ⟨_, rfl, q _ _ (fun _ _ e => e) hd⟩
  | ls l p =>
    obtain ⟨a, b, o, xs, rfl, ha, hb, hx, ho⟩ := lsSE hd
    obtain ⟨hl, oks⟩ := ok
    have hxl := hx.len
    rw [List.length_map] at hxl
    refine ⟨_, rfl, tc (ixt ha (atI_nat (j := 0) rfl) ⟨rfl, _, rfl, ?_⟩)⟩
    rw [kne nLI]
    refine iteF ⟨_, rfl, tc (ixt ha (atI_nat (j := 0) rfl) ⟨rfl, _, rfl, ?_⟩)⟩
    rw [keq]
    refine iteT ?_
    refine ⟨_, rfl, tc (ixt ha (atI_nat (j := 1) rfl) ⟨b, rfl, ⟨_, SqT.of hb⟩, fun D nD => ?_⟩)⟩
    have sD : ∀ o, Same H (upd H D o) := fun o => same_upd nD
    refine lc_tup (K := K) (a := b) (xs := xs) (fun i H' => (∀ z w, H z = some w → H' z = some w) ∧ ∃ ys, H' D = some (.lst ys) ∧ DtAll H' ys (((l.take i).map (mapS fun s => srt (g z s))).map syD) ∧ ys.length = i) ⟨sD _, [], upd_same, .nil, rfl⟩ (fun i H' _ h => SqT.of (h.1 _ _ hb)) ?_ ?_
    · rintro i x H' hi ⟨kk, ys, hD, hy, hyl⟩
      obtain ⟨zz, hz, hdz⟩ := hx.get_map hi
      have hm := List.mem_of_getElem? hz
      have hil := (List.getElem?_eq_some_iff.mp hz).1
      have dl := deps_mem hm
      have dn : dep (.ls l p) = deps l + 1 := rfl
      have et : l.take (i + 1) = l.take i ++ [zz] := by rw [List.take_add_one, hz]; rfl
      refine ⟨rfl, ?_⟩
      unfold tYes
      refine iteT ⟨_, rfl, _, rfl, z, x, zz, rfl, kk _ _ hcode, hsame z _ _ kk hside, hdz.tk (same_tk kk), by omega, OkSs_mem oks hm, fun r H3 k4 d4 => ?_⟩
      have hD3 := k4 _ _ hD
      have tk8 : Tk H3 (upd H3 D (.lst (ys ++ [r]))) := Tk.upd fun xs z => by rw [hD3] at z; cases z
      refine ⟨ys, hD3, small1000 (by omega), fun c w e => ?_, ys ++ [r], upd_same, ?_, by rw [List.length_append, hyl]; rfl⟩
      · rw [upd_ne (ne_of_none e nD)]
        exact k4 _ _ (kk _ _ e)
      · rw [et, List.map_append, List.map_append]
        exact ((hy.tk (same_tk k4)).app (.one d4)).tk tk8
    · rintro H' ⟨kk, ys, hD, hy, hyl⟩
      dsimp only [tNil]
      refine tuple_of (SqL.of hD) hy fun p3 H4 k4 d4 => ?_
      refine ⟨_, rfl, tc (ixt (k4 _ _ (kk _ _ ha)) (atI_nat (j := 2) rfl) ?_)⟩
      refine ⟨by show 3 ≤ sizeLine; decide, fun r nr => ?_⟩
      rw [hxl, List.take_length, ← mapSs_eq, ← syDs_eq] at d4
      obtain ⟨H5, e, k5, d5⟩ := tup_new nr (.cons (.str (Str.ofString "list")) (.cons d4 (.cons ((ho.tk (same_tk kk)).tk (same_tk k4)) .nil)))
      rw [e]
      exact q _ _ ((Same.trans kk k4).trans k5) d5
end
end W5
set_option Elab.async false
set_option linter.all false
set_option maxRecDepth 100000
set_option maxHeartbeats 4000000
namespace W5
open PySem PySem.Spec PyProof.Rows L2 Com EnumT
section
variable {P : Program} {w : World} {K : PySem.W.Frag} {mg : Str → Option Value} {base : Heap}
def spSynL (n : Nat) : Sp := fun vs H Q _ => ∃ (t c : Addr) (v : V) (d : Dm), vs = [.ref t, .str "m", v] ∧ TapeAt H t c ∧ Dt H v (dmD d) ∧ depM d < n ∧ OkM d ∧ ∀ r H' s, Keep t H H' → TapeAt H' t c → Dt H' r (syD s) → dat s = d → OkS s → Q r H'
theorem ok_law_syntax {f : Addr} {fd : FuncData} {n k : Nat} (F : Dfn K mg "_law_syntax" st__law_syntax f fd ["tape", "module", "datum"]) (M : Mg mg) (G_law_scopes : Cal P w K mg base 3 "_law_scopes" spScopes) (G_law_syntax : Cal P w K mg base (k + 3) "_law_syntax" (spSynL n)) : Cal P w K mg base (k + 3 + 1) "_law_syntax" (spSynL (n + 1)) := by
  refine cal_mk F sc_law_syntax (fun vs H Q E h => ?_) (fun cdv A outer s H vs Q E hr h => ?_)
  · obtain ⟨t, c, v, d, rfl, _⟩ := h
    rfl
  obtain ⟨t, c, v, d, rfl, hT, hd, hn, ok, q⟩ := h
  refine ⟨_, (pss_cons (ps_asg (pv 2) (pg_tup rfl (pgs_cons (pg_name (i := 3) sc_law_syntax.nd rfl (.inl rfl)) (pgs_cons (pg_name (i := 4) sc_law_syntax.nd rfl (.inl rfl)) (pgs_cons (pg_name (i := 5) sc_law_syntax.nd rfl (.inl rfl)) pgs_nil)))))
      (pss_cons (ps_if (pt_cmpR op_eq (pv 3) pe_str (nomark _)) (pss_one (ps_ret (pe_tup (pa_cons pe_str (pa_cons (pv 4) (pa_cons (pe_tup (pa_cons (pv 1) (pa_cons (pv 5) pa_nil))) (pa_cons (pe_c G_law_scopes hr (by omega) (by rfl) (pa_cons (pv 0) pa_nil)) pa_nil))))))) pss_nil)
      (pss_cons (ps_if (pt_cmpR op_eq (pv 3) pe_str (nomark _)) (pss_one (ps_ret (pe_tup (pa_cons pe_str (pa_cons (pe_callTy (cTup K rfl) (by rfl) M.tuple b_tuple (pa_cons (pe_lc (own := [("part", 6)]) (g := gName 6) (by rfl) sc_law_syntax.nd (pi_tup (pv 4)) (blkOk_by (own := [("part", 6)]) (N := ["tape", "module", "datum", "kind", "value", "place", "part"]) (sc := defScope st__law_syntax) (by decide +kernel)) (fun _ _ _ _ _ => (pg_name (i := 6) sc_law_syntax.nd rfl (.inl rfl))) (fun _ _ _ _ _ => pts_nil) (fun _ _ _ _ _ => (pe_c G_law_syntax hr (by omega) (by rfl) (pa_cons (pv 0) (pa_cons (pv 1) (pa_cons (pv 6) pa_nil)))))) pa_nil)) (pa_cons (pe_tup (pa_cons (pv 1) (pa_cons (pv 5) pa_nil))) pa_nil)))))) pss_nil)
      (pss_one (ps_ret (pe_tup (pa_cons pe_str (pa_cons (pv 3) (pa_cons (pv 4) (pa_cons (pe_tup (pa_cons (pv 1) (pa_cons (pv 5) pa_nil))) pa_nil)))))))))), ?_⟩
  cases d with
  | nm s p =>
    obtain ⟨a, rfl, ha⟩ := nmE hd
    refine ⟨_, rfl, a, _, rfl, SqT.of ha, rfl, _, _, rfl, _, _, rfl, _, _, rfl, rfl, ?_⟩
    refine ⟨_, rfl, rfl, _, rfl, ?_⟩
    rw [keq]
    refine iteT ⟨_, rfl, _, rfl, _, rfl, by show 2 ≤ sizeLine; decide, fun o no => ?_⟩
    obtain ⟨H1, e, k1, d1⟩ := tup_new no (.cons (.str (Str.ofString "m")) (.cons (.int p) .nil))
    rw [e]
    clear e
    refine ⟨_, rfl, t, c, rfl, hT.same k1, fun r1 H2 st k2 t2 d2 cn gd l3 => ?_⟩
    refine ⟨by show 4 ≤ sizeLine; decide, fun r nr => ?_⟩
    have tk2 := k2.tk2 (hT.same k1)
    obtain ⟨H3, e, k3, d3⟩ := tup_new nr (.cons (.str (Str.ofString "id")) (.cons (.str s) (.cons (d1.tk tk2) (.cons d2 .nil))))
    rw [e]
    exact q _ _ (.id s p st) (((Keep.same k1).trans k2).trans (Keep.same k3)) (t2.same k3) d3 rfl ⟨cn, gd, l3⟩
  | «at» kd vl p =>
    obtain ⟨a, x, rfl, ha, hx⟩ := atE hd
    obtain ⟨nk1, nk2, okv⟩ := ok
    refine ⟨_, rfl, a, _, rfl, SqT.of ha, rfl, _, _, rfl, _, _, rfl, _, _, rfl, rfl, ?_⟩
    refine ⟨_, rfl, rfl, _, rfl, ?_⟩
    rw [kne nk1]
    refine iteF ⟨_, rfl, rfl, _, rfl, ?_⟩
    rw [kne nk2]
    refine iteF ⟨_, rfl, _, rfl, _, rfl, _, rfl, by show 2 ≤ sizeLine; decide, fun o no => ?_⟩
    obtain ⟨H1, e, k1, d1⟩ := tup_new no (.cons (.str (Str.ofString "m")) (.cons (.int p) .nil))
    rw [e]
    clear e
    refine ⟨by show 4 ≤ sizeLine; decide, fun r nr => ?_⟩
    obtain ⟨H3, e, k3, d3⟩ := tup_new nr (.cons (.str (Str.ofString "atom")) (.cons (.str kd) (.cons (hx.tk (same_tk k1)) (.cons d1 .nil))))
    rw [e]
    exact q _ _ (.at kd vl p) ((Keep.same k1).trans (Keep.same k3)) ((hT.same k1).same k3) d3 rfl okv
  | ls l p =>
    obtain ⟨a, b, xs, rfl, ha, hb, hx⟩ := lsE hd
    obtain ⟨hl, oks⟩ := ok
    have hxl := hx.len
    rw [List.length_map] at hxl
    refine ⟨_, rfl, a, _, rfl, SqT.of ha, rfl, _, _, rfl, _, _, rfl, _, _, rfl, rfl, ?_⟩
    refine ⟨_, rfl, rfl, _, rfl, ?_⟩
    rw [kne nLN]
    refine iteF ⟨_, rfl, rfl, _, rfl, ?_⟩
    rw [keq]
    refine iteT ?_
    refine ⟨_, rfl, b, rfl, ⟨_, SqT.of hb⟩, fun D nD => ?_⟩
    have sD : ∀ o, Same H (upd H D o) := fun o => same_upd nD
    have tD := hT.nt nD
    refine lc_tup (K := K) (a := b) (xs := xs) (fun i H' => Keep t H H' ∧ TapeAt H' t c ∧ ∃ ys ss, H' D = some (.lst ys) ∧ DtAll H' ys (ss.map syD) ∧ dats ss = l.take i ∧ OkSs ss ∧ ss.length = i) ⟨Keep.same (sD _), hT.new nD, [], [], upd_same, .nil, rfl, trivial, rfl⟩ (fun i H' _ h => SqT.of (h.1.tk2 hT _ _ hb)) ?_ ?_
    · rintro i x H' hi ⟨kk, tt, ys, ss, hD, hy, hds, hok, hsl⟩
      obtain ⟨zz, hz, hdz⟩ := hx.get_map hi
      have hm := List.mem_of_getElem? hz
      have hil := (List.getElem?_eq_some_iff.mp hz).1
      have dl := depMs_mem hm
      have dn : depM (.ls l p) = depMs l + 1 := rfl
      have et : l.take (i + 1) = l.take i ++ [zz] := by rw [List.take_add_one, hz]; rfl
      have hyl := hy.len
      rw [List.length_map] at hyl
      refine ⟨rfl, ?_⟩
      unfold tYes
      refine iteT ⟨_, rfl, _, rfl, _, rfl, t, c, x, zz, rfl, tt, hdz.tk (kk.tk2 hT), by omega, OkMs_mem oks hm, fun r H3 s3 k4 t4 d4 e4 o4 => ?_⟩
      have hD3 := k4 _ _ hD tD.1
      have tk8 : Tk H3 (upd H3 D (.lst (ys ++ [r]))) := Tk.upd fun xs z => by rw [hD3] at z; cases z
      have oapp : ∀ (a : List Sy) (b : Sy), OkSs a → OkS b → OkSs (a ++ [b]) := fun a b ha hb => by
        induction a with
        | nil => exact ⟨hb, trivial⟩
        | cons x r ih => exact ⟨ha.1, ih ha.2⟩
      refine ⟨ys, hD3, small1000 (by omega), fun c w e n => ?_, t4.other tD.1 tD.2, ys ++ [r], ss ++ [s3], upd_same, ?_, ?_, oapp _ _ hok o4, by rw [List.length_append, hsl]; rfl⟩
      · rw [upd_ne (ne_of_none e nD)]
        exact k4 _ _ (kk _ _ e n) n
      · rw [List.map_append]
        exact ((hy.tk (k4.tk2 tt)).app (.one d4)).tk tk8
      · rw [et, ← hds, dats_eq, dats_eq, List.map_append, ← e4]
        rfl
    · rintro H' ⟨kk, tt, ys, ss, hD, hy, hds, hok, hsl⟩
      dsimp only [tNil]
      refine tuple_of (SqL.of hD) hy fun p3 H4 k4 d4 => ?_
      refine ⟨_, rfl, _, rfl, by show 2 ≤ sizeLine; decide, fun o no => ?_⟩
      obtain ⟨H5, e, k5, d5⟩ := tup_new no (.cons (.str (Str.ofString "m")) (.cons (.int p) .nil))
      rw [e]
      clear e
      refine ⟨by show 3 ≤ sizeLine; decide, fun r nr => ?_⟩
      rw [hxl, List.take_length] at hds
      rw [← syDs_eq] at d4
      obtain ⟨H6, e, k6, d6⟩ := tup_new nr (.cons (.str (Str.ofString "list")) (.cons (d4.tk (same_tk k5)) (.cons d5 .nil)))
      rw [e]
      have ks := (k4.trans k5).trans k6
      refine q _ _ (.ls ss p) (kk.trans (Keep.same ks)) (tt.same ks) d6 ?_ ⟨by omega, hok⟩
      simp only [dat, hds]
/-! _law_datum -/
abbrev kN : Key := Sum.inr "n"
def CountAt (H : Hp) (a : Addr) (j : Int) : Prop := H a = some (.dK [(kN, .int j)])
theorem gN {j : Int} : valV [(kN, V.int j)] kN = some (.int j) := valV_pos rfl
theorem putN {j i : Int} : putK [(kN, V.int j)] kN (.int i) = [(kN, .int i)] := by simp [putK]
mutual
def cnt : Dm → Nat
  | .nm _ _ => 1
  | .at _ _ _ => 1
  | .ls l _ => cnts l + 1
def cnts : List Dm → Nat
  | [] => 0
  | x :: r => cnt x + cnts r
end
def nb : Nat → Nat
  | 0 => 1
  | k + 1 => 4 * nb k + 1
/-- all but two addresses stand -/
def Kt (t u : Addr) (H H' : Hp) : Prop := ∀ b o, H b = some o → b ≠ t → b ≠ u → H' b = some o
theorem Kt.trans {t u : Addr} {H1 H2 H3 : Hp} (a : Kt t u H1 H2) (b : Kt t u H2 H3) : Kt t u H1 H3 := fun c o e n m => b c o (a c o e n m) n m
theorem Kt.of {t u : Addr} {H H' : Hp} (k : Keep t H H') : Kt t u H H' := fun b o e n _ => k b o e n
theorem Kt.same {t u : Addr} {H H' : Hp} (k : Same H H') : Kt t u H H' := fun b o e _ _ => k b o e
theorem Kt.tk {t u c : Addr} {j : Int} {H H' : Hp} (k : Kt t u H H') (h : TapeAt H t c) (hu : CountAt H u j) : Tk H H' := fun a xs e => k _ _ e (fun z => h.notup xs (z ▸ e)) fun z => by
  rw [z, show H u = _ from hu] at e
  cases e
end
end W5
set_option Elab.async false
set_option linter.all false
set_option maxRecDepth 100000
set_option maxHeartbeats 4000000
namespace W5
open PySem PySem.Spec PyProof.Rows L2 Com EnumT
theorem nb_pos : ∀ k, 1 ≤ nb k
  | 0 => Nat.le_refl _
  | k + 1 => by simp [nb]
theorem four {r : Int} (h0 : 0 ≤ r) (h1 : r < 4) : ∃ nm : Str, atI [V.str "x", V.str "y", V.str "if", V.str "a-b"] r = some (.str nm) := by
  have h : r = 0 ∨ r = 1 ∨ r = 2 ∨ r = 3 := by omega
  rcases h with h | h | h | h <;> subst h
  · exact ⟨_, atI_nat (j := 0) rfl⟩
  · exact ⟨_, atI_nat (j := 1) rfl⟩
  · exact ⟨_, atI_nat (j := 2) rfl⟩
  · exact ⟨_, atI_nat (j := 3) rfl⟩
/-- a kind and its value -/
def KindAt (H : Hp) (v : V) : Prop := ∃ a k x w, v = .ref a ∧ H a = some (.tup [.str k, x]) ∧ Dt H x w ∧ ¬ k = Str.ofString "name" ∧ ¬ k = Str.ofString "list" ∧ w.depth = 0 ∧ smD w = true
theorem KindAt.same {H H' : Hp} {v : V} (h : KindAt H v) (k : Tk H H') : KindAt H' v := by
  obtain ⟨a, kd, x, w, e, h1, h2, h3⟩ := h
  exact ⟨a, kd, x, w, e, k _ _ h1, h2.tk k, h3⟩
theorem six {r : Int} (h0 : 0 ≤ r) (h1 : r < 6) {H : Hp} {a b c d e f : V} (ha : KindAt H a) (hb : KindAt H b) (hc : KindAt H c) (hd : KindAt H d) (he : KindAt H e) (hf : KindAt H f) : ∃ v, atI [a, b, c, d, e, f] r = some v ∧ KindAt H v := by
  have h : r = 0 ∨ r = 1 ∨ r = 2 ∨ r = 3 ∨ r = 4 ∨ r = 5 := by omega
  rcases h with h | h | h | h | h | h <;> subst h
  · exact ⟨_, atI_nat (j := 0) rfl, ha⟩
  · exact ⟨_, atI_nat (j := 1) rfl, hb⟩
  · exact ⟨_, atI_nat (j := 2) rfl, hc⟩
  · exact ⟨_, atI_nat (j := 3) rfl, hd⟩
  · exact ⟨_, atI_nat (j := 4) rfl, he⟩
  · exact ⟨_, atI_nat (j := 5) rfl, hf⟩
theorem kind_new {H : Hp} {p : Addr} {k : Str} {x : V} {w : PyData} (n : H p = none) (hx : ∀ H, Dt H x w) (h1 : ¬ k = Str.ofString "name") (h2 : ¬ k = Str.ofString "list") (h3 : w.depth = 0) (h4 : smD w = true) :
    ∃ H', upd H p (.tup [.str k, x]) = H' ∧ Same H H' ∧ KindAt H' (.ref p) := ⟨_, rfl, same_upd n, p, k, x, w, rfl, upd_same, hx _, h1, h2, h3, h4⟩
section
variable {P : Program} {w : World} {K : PySem.W.Frag} {mg : Str → Option Value} {base : Heap}
def spDatum (n : Nat) : Sp := fun vs H Q _ => ∃ (t c u : Addr) (lv j : Int), vs = [.ref t, .ref u, .int lv] ∧ TapeAt H t c ∧ CountAt H u j ∧ 0 ≤ lv ∧ lv ≤ 6 ∧ 6 < lv + n ∧
  ∀ r H' d j', Kt t u H H' → TapeAt H' t c → CountAt H' u j' → Dt H' r (dmD d) → (depM d : Int) + lv ≤ 6 → OkM d → cnt d ≤ nb (6 - lv).toNat → Q r H'
theorem ok_law_datum {f : Addr} {fd : FuncData} {n k : Nat} (F : Dfn K mg "_law_datum" st__law_datum f fd ["tape", "count", "level"]) (M : Mg mg) (G_law_take : Cal P w K mg base 1 "_law_take" spTake) (G_law_datum : Cal P w K mg base (k + 1) "_law_datum" (spDatum n)) : Cal P w K mg base (k + 1 + 1) "_law_datum" (spDatum (n + 1)) := by
  refine cal_mk F sc_law_datum (fun vs H Q E h => ?_) (fun cdv A outer s H vs Q E hr h => ?_)
  · obtain ⟨t, c, u, lv, j, rfl, _⟩ := h
    rfl
  obtain ⟨t, c, u, lv, j, rfl, hT, hC, h0, h6, hn, q⟩ := h
  have hu := hu_of hr
  refine ⟨_, (pss_cons (ps_set (i := 3) sc_law_datum.nd rfl (.inl rfl) (pe_dget hu (pv 1) pe_str (fun _ _ => rfl)))
      (pss_cons (ps_dput hu (pv 1) pe_str (pe_op op_add (pv 3) pe_int) rfl)
      (pss_cons (ps_set (i := 4) sc_law_datum.nd rfl (.inl rfl) (pe_c G_law_take hr (by omega) (by rfl) (pa_cons (pv 0) (pa_cons pe_int pa_nil))))
      (pss_cons (ps_if (PW.pt (pw_and (pt_cmpR op_lt (pv 4) pe_int (nomark _)) (pw_and1 (pt_cmpR op_lt (pv 2) pe_int (nomark _))))) (pss_cons (ps_set (i := 5) sc_law_datum.nd rfl (.inl rfl) (pe_c G_law_take hr (by omega) (by rfl) (pa_cons (pv 0) (pa_cons pe_int pa_nil))))
      (pss_one (ps_ret (pe_tup (pa_cons pe_str (pa_cons (pe_callTy (cTup K rfl) (by rfl) M.tuple b_tuple (pa_cons (pe_lc (own := [("k", 7)]) (g := gName 7) (by rfl) sc_law_datum.nd (pi_range1 (by rfl) M.range (pa_cons (pv 5) pa_nil)) (blkOk_by (own := [("k", 7)]) (N := ["tape", "count", "level", "place", "choice", "many", "kinds", "k"]) (sc := defScope st__law_datum) (by decide +kernel)) (fun _ _ _ _ _ => (pg_name (i := 7) sc_law_datum.nd rfl (.inl rfl))) (fun _ _ _ _ _ => pts_nil) (fun _ _ _ _ _ => (pe_c G_law_datum hr (by omega) (by rfl) (pa_cons (pv 0) (pa_cons (pv 1) (pa_cons (pe_op op_add (pv 2) pe_int) pa_nil)))))) pa_nil)) (pa_cons (pv 3) pa_nil))))))) pss_nil)
      (pss_cons (ps_if (pt_cmpR op_lt (pv 4) pe_int (nomark _)) (pss_one (ps_ret (pe_tup (pa_cons pe_str (pa_cons (pe_ix (ixL K rfl) (pe_lst (pa_cons pe_str (pa_cons pe_str (pa_cons pe_str (pa_cons pe_str pa_nil))))) (pe_c G_law_take hr (by omega) (by rfl) (pa_cons (pv 0) (pa_cons pe_int pa_nil))) (fun _ _ => rfl)) (pa_cons (pv 3) pa_nil)))))) pss_nil)
      (pss_cons (ps_set (i := 6) sc_law_datum.nd rfl (.inl rfl) (pe_lst (pa_cons (pe_tup (pa_cons pe_str (pa_cons (pe_un un_neg pe_int) pa_nil))) (pa_cons (pe_tup (pa_cons pe_str (pa_cons pe_bl pa_nil))) (pa_cons (pe_tup (pa_cons pe_str (pa_cons pe_str pa_nil))) (pa_cons (pe_tup (pa_cons pe_str (pa_cons pe_non pa_nil))) (pa_cons (pe_tup (pa_cons pe_str (pa_cons pe_non pa_nil))) (pa_cons (pe_tup (pa_cons pe_str (pa_cons pe_int pa_nil))) pa_nil))))))))
      (pss_one (ps_ret (pe_op (opCatT K rfl) (pe_ix (ixL K rfl) (pv 6) (pe_c G_law_take hr (by omega) (by rfl) (pa_cons (pv 0) (pa_cons pe_int pa_nil))) (fun _ _ => rfl)) (pe_tup (pa_cons (pv 3) pa_nil))))))))))), ?_⟩
  have hut : u ≠ t := fun e => by
    obtain ⟨cells, a', l, s', x, _, h1, _⟩ := hT
    rw [← e, show H u = _ from hC] at h1
    have := HO.dK.inj (Option.some.inj h1)
    exact absurd (congrArg List.length this) (by simp [tapeK])
  have huc : u ≠ c := fun e => by
    obtain ⟨cells, a', l, s', x, _, _, h1⟩ := hT
    rw [← e, show H u = _ from hC] at h1
    cases h1
  refine ⟨_, rfl, u, .int j, rfl, dg (k := kN) hC gN, ?_⟩
  refine ⟨_, rfl, _, _, rfl, rfl, _, rfl, u, _, rfl, dp (k := kN) hC putN (by show 1 < sizeLine; decide), ?_⟩
  have k1 : Kt t u H (upd H u (.dK [(kN, .int (j + 1))])) := fun b o e _ m => by rw [upd_ne m]; exact e
  have t1 : TapeAt (upd H u (.dK [(kN, .int (j + 1))])) t c := hT.other hut huc
  have c1 : CountAt (upd H u (.dK [(kN, .int (j + 1))])) u (j + 1) := upd_same
  generalize upd H u (.dK [(kN, .int (j + 1))]) = H1 at k1 t1 c1 ⊢
  refine ⟨_, rfl, t, c, 9, rfl, t1, by decide, by decide, fun ch H2 a0 a1 k2 t2 => ?_⟩
  have c2 : CountAt H2 u (j + 1) := k2 _ _ c1 hut
  have k12 := k1.trans (Kt.of k2)
  dsimp only [gName]
  refine seq_split (t1 := tIfS _ _ _) (fun σ' H' => σ' = [some (.ref t), some (.ref u), some (.int lv), some (.int j), some (.int ch), none, none, none] ∧ H' = H2) ?_ (fun rest => ?_)
  · rintro σ' H' ⟨rfl, rfl⟩
    refine seq_split (t1 := tIfS _ _ _) (fun σ' H'' => σ' = [some (.ref t), some (.ref u), some (.int lv), some (.int j), some (.int ch), none, none, none] ∧ H'' = H') ?_ (fun rest => ?_)
    · rintro σ' H'' ⟨rfl, rfl⟩
      refine ⟨_, rfl, by show 2 ≤ sizeLine; decide, fun q1 nq => ?_⟩
      obtain ⟨G1, e, m1, w1⟩ := kind_new (k := Str.ofString "number") (x := .int (-3)) (w := .int (-3)) nq (fun _ => .int _) (by decide +kernel) (by decide +kernel) (by simp [PyData.depth]) rfl
      rw [e]
      clear e
      refine ⟨by show 2 ≤ sizeLine; decide, fun q2 nq => ?_⟩
      obtain ⟨G2, e, m2, w2⟩ := kind_new (k := Str.ofString "flag") (x := .bl false) (w := .bool false) nq (fun _ => .bl _) (by decide +kernel) (by decide +kernel) (by simp [PyData.depth]) rfl
      rw [e]
      clear e
      refine ⟨by show 2 ≤ sizeLine; decide, fun q3 nq => ?_⟩
      obtain ⟨G3, e, m3, w3⟩ := kind_new (k := Str.ofString "text") (x := .str "x y") (w := .str (Str.ofString "x y")) nq (fun _ => .str _) (by decide +kernel) (by decide +kernel) (by simp [PyData.depth]) rfl
      rw [e]
      clear e
      refine ⟨by show 2 ≤ sizeLine; decide, fun q4 nq => ?_⟩
      obtain ⟨G4, e, m4, w4⟩ := kind_new (k := Str.ofString "dots") (x := .non) (w := .none) nq (fun _ => .non) (by decide +kernel) (by decide +kernel) (by simp [PyData.depth]) rfl
      rw [e]
      clear e
      refine ⟨by show 2 ≤ sizeLine; decide, fun q5 nq => ?_⟩
      obtain ⟨G5, e, m5, w5⟩ := kind_new (k := Str.ofString "wild") (x := .non) (w := .none) nq (fun _ => .non) (by decide +kernel) (by decide +kernel) (by simp [PyData.depth]) rfl
      rw [e]
      clear e
      refine ⟨by show 2 ≤ sizeLine; decide, fun q6 nq => ?_⟩
      obtain ⟨G6, e, m6, w6⟩ := kind_new (k := Str.ofString "number") (x := .int 0) (w := .int 0) nq (fun _ => .int _) (by decide +kernel) (by decide +kernel) (by simp [PyData.depth]) rfl
      rw [e]
      clear e
      refine ⟨by show 6 ≤ sizeLine; decide, fun q8 nq => ?_⟩
      have m8 : Same G6 (upd G6 q8 (.lst [.ref q1, .ref q2, .ref q3, .ref q4, .ref q5, .ref q6])) := same_upd nq
      have l8 : upd G6 q8 (.lst [.ref q1, .ref q2, .ref q3, .ref q4, .ref q5, .ref q6]) q8 = some (.lst [.ref q1, .ref q2, .ref q3, .ref q4, .ref q5, .ref q6]) := upd_same
      generalize upd G6 q8 (.lst [.ref q1, .ref q2, .ref q3, .ref q4, .ref q5, .ref q6]) = G8 at m8 l8 ⊢
      have mm : Same H'' G8 := (((((m1.trans m2).trans m3).trans m4).trans m5).trans m6).trans m8
      have o1 := w1.same (same_tk (((((m2.trans m3).trans m4).trans m5).trans m6).trans m8))
      have o2 := w2.same (same_tk ((((m3.trans m4).trans m5).trans m6).trans m8))
      have o3 := w3.same (same_tk (((m4.trans m5).trans m6).trans m8))
      have o4 := w4.same (same_tk ((m5.trans m6).trans m8))
      have o5 := w5.same (same_tk (m6.trans m8))
      have o6 := w6.same (same_tk m8)
      have t3 := t2.same mm
      refine ⟨_, rfl, _, rfl, t, c, 6, rfl, t3, by decide, by decide, fun r G9 hr0 hr1 k9 t9 => ?_⟩
      have l9 := k9 _ _ l8 (t3.dk l8)
      obtain ⟨ov, oe, od⟩ := six hr0 hr1 o1 o2 o3 o4 o5 o6
      obtain ⟨oa, kd, x, wd, rfl, hoa, hx, n1, n2, n3, n4⟩ := od.same (k9.tk2 t3)
      refine ixl l9 oe ?_
      refine ⟨_, rfl, by show 1 ≤ sizeLine; decide, fun p4 np4 => ?_⟩
      have k6 := same_upd (o := .tup [.int j]) np4
      have c6 : upd G9 p4 (.tup [.int j]) p4 = some (.tup [.int j]) := upd_same
      generalize upd G9 p4 (.tup [.int j]) = Ga at k6 c6 ⊢
      refine catT (k6 _ _ hoa) c6 (by simp) (by simp) (by show 3 ≤ sizeLine; decide) fun p7 np7 => ?_
      have k7 := same_upd (o := .tup ([.str kd, x] ++ [.int j])) np7
      have c7 : upd Ga p7 (.tup ([.str kd, x] ++ [.int j])) p7 = some (.tup [.str kd, x, .int j]) := upd_same
      generalize upd Ga p7 (.tup ([.str kd, x] ++ [.int j])) = Gb at k7 c7 ⊢
      have kk := ((k12.trans (Kt.same mm)).trans (Kt.of k9)).trans (Kt.same (k6.trans k7))
      refine q _ _ (.at kd wd j) (j + 1) kk ((t9.same k6).same k7) (k7 _ _ (k6 _ _ (k9 _ _ (mm _ _ c2) hut))) (.tup c7 (.cons (.str _) (.cons (hx.tk (same_tk (k6.trans k7))) (.cons (.int _) .nil)))) ?_ ⟨n1, n2, n3, n4⟩ (nb_pos _)
      show ((0 : Nat) : Int) + lv ≤ 6
      omega
    · refine ⟨_, rfl, _, _, rfl, rfl, _, rfl, ite2 (fun c3 => ?_) (fun c3 => rest _ _ ⟨rfl, rfl⟩)⟩
      refine ⟨by show 4 ≤ sizeLine; decide, fun l nl => ?_⟩
      have k3 := same_upd (o := .lst [.str "x", .str "y", .str "if", .str "a-b"]) nl
      have c3 : upd H' l (.lst [.str "x", .str "y", .str "if", .str "a-b"]) l = some (.lst [.str "x", .str "y", .str "if", .str "a-b"]) := upd_same
      generalize upd H' l (.lst [.str "x", .str "y", .str "if", .str "a-b"]) = G3 at k3 c3 ⊢
      have t3 := t2.same k3
      refine ⟨_, rfl, t, c, 4, rfl, t3, by decide, by decide, fun r G4 hr0 hr1 k4 t4 => ?_⟩
      obtain ⟨nm, hat⟩ := four hr0 hr1
      refine ixl (k4 _ _ c3 (t3.dk c3)) hat ?_
      refine ⟨_, rfl, by show 3 ≤ sizeLine; decide, fun p4 np4 => ?_⟩
      obtain ⟨G5, e, k5, d5⟩ := tup_new np4 (.cons (.str (Str.ofString "name")) (.cons (.str nm) (.cons (.int j) .nil)))
      rw [e]
      clear e
      refine q _ _ (.nm nm j) (j + 1) (((k12.trans (Kt.same k3)).trans (Kt.of k4)).trans (Kt.same k5)) (t4.same k5) (k5 _ _ (k4 _ _ (k3 _ _ c2) hut)) d5 ?_ trivial (nb_pos _)
      show ((0 : Nat) : Int) + lv ≤ 6
      omega
  · refine ⟨_, rfl, _, _, rfl, rfl, _, rfl, ite2 (fun c3 => ?_) (fun c3 => iteF (rest _ _ ⟨rfl, rfl⟩))⟩
    refine ⟨_, rfl, _, _, rfl, rfl, _, rfl, ite2 (fun c4 => ?_) (fun c4 => rest _ _ ⟨rfl, rfl⟩)⟩
    have h5 : lv < 6 := of_decide_eq_true c4
    refine ⟨_, rfl, t, c, 5, rfl, t2, by decide, by decide, fun m H3 b0 b1 k3 t3 => ?_⟩
    have c5 : CountAt H3 u (j + 1) := k3 _ _ c2 hut
    have k13 := k12.trans (Kt.of k3)
    have em : m = ((m.toNat : Nat) : Int) := by omega
    rw [em]
    refine ⟨_, rfl, _, rfl, by omega, by omega, fun D nD => ?_⟩
    have k4 := same_upd (o := .lst []) nD
    have tD := t3.nt nD
    have nDu : D ≠ u := fun e => by rw [e, show H3 u = _ from c5] at nD; cases nD
    have en : (6 - lv).toNat = (6 - (lv + 1)).toNat + 1 := by omega
    refine lc_range (lo := 0) (n := m.toNat) (fun i H' => ∃ ys ds j', Kt t u H3 H' ∧ TapeAt H' t c ∧ CountAt H' u j' ∧ H' D = some (.lst ys) ∧ DtAll H' ys (ds.map dmD) ∧ OkMs ds ∧ ds.length = i ∧ ((depMs ds : Int) + 1 + lv ≤ 6 ∧ cnts ds ≤ i * nb (6 - (lv + 1)).toNat))
      ⟨[], [], _, Kt.same k4, t3.new nD, k4 _ _ c5, upd_same, .nil, trivial, rfl, by simp only [depMs]; omega, by simp [cnts]⟩ ?_ ?_
    · rintro i H' hi ⟨ys, ds, j', kk, tt, cc, hD, hy, hok, hl, hdp, hcn⟩
      have hyl := hy.len
      rw [List.length_map] at hyl
      refine ⟨rfl, ?_⟩
      unfold tYes
      refine iteT ⟨_, rfl, _, rfl, _, rfl, _, _, rfl, rfl, t, c, u, lv + 1, j', rfl, tt, cc, by omega, by omega, by omega, fun r G d j2 kg tg cg dg' hd' okd hc' => ?_⟩
      have hDg := kg _ _ hD tD.1 nDu
      have tk8 : Tk G (upd G D (.lst (ys ++ [r]))) := Tk.upd fun xs z => by rw [hDg] at z; cases z
      have oapp : ∀ (a : List Dm) (b : Dm), OkMs a → OkM b → OkMs (a ++ [b]) := fun a b ha hb => by
        induction a with
        | nil => exact ⟨hb, trivial⟩
        | cons x r ih => exact ⟨ha.1, ih ha.2⟩
      have dapp : ∀ (a : List Dm) (b : Dm), depMs (a ++ [b]) = max (depMs a) (depM b) := fun a b => by
        induction a with
        | nil => simp [depMs]
        | cons x r ih => rw [List.cons_append, depMs, depMs, ih]; omega
      have capp : ∀ (a : List Dm) (b : Dm), cnts (a ++ [b]) = cnts a + cnt b := fun a b => by
        induction a with
        | nil => simp [cnts]
        | cons x r ih => rw [List.cons_append, cnts, cnts, ih]; omega
      refine ⟨ys, hDg, small1000 (by omega), ys ++ [r], ds ++ [d], j2, fun b o e n1 n2 => ?_, tg.other tD.1 tD.2, ?_, upd_same, ?_, oapp _ _ hok okd, by rw [List.length_append, hl]; rfl, ?_, ?_⟩
      · rw [upd_ne (ne_of_none e nD)]
        exact kg _ _ (kk _ _ e n1 n2) n1 n2
      · show upd G D (.lst (ys ++ [r])) u = _
        rw [upd_ne nDu.symm]
        exact cg
      · rw [List.map_append]
        exact ((hy.tk (kg.tk tt cc)).app (.one dg')).tk tk8
      · rw [dapp]
        omega
      · rw [capp, Nat.add_mul]
        omega
    · rintro H' ⟨ys, ds, j', kk, tt, cc, hD, hy, hok, hl, hdp, hcn⟩
      dsimp only [tNil]
      refine tuple_of (SqL.of hD) hy fun p3 H4 k5 d5 => ?_
      refine ⟨_, rfl, by show 3 ≤ sizeLine; decide, fun p4 np4 => ?_⟩
      rw [← dmDs_eq] at d5
      obtain ⟨H6, e, k6, d6⟩ := tup_new np4 (.cons (.str (Str.ofString "list")) (.cons d5 (.cons (.int j) .nil)))
      rw [e]
      have ks := k5.trans k6
      refine q _ _ (.ls ds j) j' ((k13.trans kk).trans (Kt.same ks)) (tt.same ks) (ks _ _ cc) d6 ?_ ⟨by omega, hok⟩ ?_
      · simp only [depM]
        omega
      · have hm4 : m.toNat ≤ 4 := by omega
        have hmul : m.toNat * nb (6 - (lv + 1)).toNat ≤ 4 * nb (6 - (lv + 1)).toNat := Nat.mul_le_mul_right _ hm4
        rw [en, nb, cnt]
        omega
end
end W5
set_option Elab.async false
set_option linter.all false
set_option maxRecDepth 100000
set_option maxHeartbeats 4000000
namespace W5
open PySem PySem.Spec PyProof.Rows L2 Com EnumT GxR
/-! a def whose code object is known: it holds a generator expression -/
structure FunC (K : PySem.W.Frag) (x qual : Str) (st : Stmt) (f : Addr) (fd : FuncData) (c : Addr) : Prop where
  ex : ∃ (oc : Value) (od : Option Addr) (kV doc pm : Value) (an : Option Addr) (ct : Value) (osl : Array (Option Value)),
    fd = PySem.W.fnOf x qual (defArgs st) (defBody st) (defScope st) .none kV doc pm an (.ref c) ct ∧ K.lookup f = some ⟨oc, od, .func fd, osl⟩ ∧ PySem.W.codeIn K (.ref c) qual = true
  kp : PySem.W.keepIn K (.ref f) = true
structure DfnC (K : PySem.W.Frag) (mg : Str → Option Value) (x : Str) (st : Stmt) (f : Addr) (fd : FuncData) (ps : List Str) (c : Addr) : Prop where
  fn : FunC K x x st f fd c
  mgf : mg x = some (.ref f)
  b : Binds K fd ps []
theorem funC_mk {K : PySem.W.Frag} {x qual : Str} {st : Stmt} {f c : Addr} {oc : Value} {od an : Option Addr} {osl : Array (Option Value)} {kV doc pm ct : Value} (l : K.lookup f = some ⟨oc, od, .func (PySem.W.fnOf x qual (defArgs st) (defBody st) (defScope st) .none kV doc pm an (.ref c) ct), osl⟩)
    (cc : PySem.W.codeIn K (.ref c) qual = true) (k : PySem.W.keepIn K (.ref f) = true) : FunC K x qual st f (PySem.W.fnOf x qual (defArgs st) (defBody st) (defScope st) .none kV doc pm an (.ref c) ct) c := ⟨⟨oc, od, kV, doc, pm, an, ct, osl, rfl, l, cc⟩, k⟩
theorem FunC.fun {K : PySem.W.Frag} {x qual : Str} {st : Stmt} {f c : Addr} {fd : FuncData} (F : FunC K x qual st f fd c) : Fun K x qual st f fd := by
  obtain ⟨oc, od, kV, doc, pm, an, ct, osl, e, l, cc⟩ := F.ex
  exact ⟨⟨oc, od, kV, doc, pm, an, .ref c, ct, osl, e, l, cc⟩, F.kp⟩
theorem cal_mkC {P : Program} {w : World} {K : PySem.W.Frag} {mg : Str → Option Value} {base : Heap} {x : Str} {st : Stmt} {f c : Addr} {fd : FuncData} {N ps : List Str} {k : Nat} {sp : Sp} (F : DfnC K mg x st f fd ps c) (S : FnScope N ps (defScope st)) (len : ∀ vs H Q E, sp vs H Q E → vs.length = ps.length)
    (hbody : ∀ (A : Around) (outer : List Env) (s : Shared) (H : Hp) (vs : List V) (Q : VK) (E : XK), Room k (A.deeper (envOfC x (defScope st) s.heap.objs.size f (.ref c))) → sp vs H Q E →
      ∃ t, PSs (cxOf CX0 P w K mg base N x (defScope st) f (.ref c) A outer s H E).nox (defBody st) t ∧ t { nx := fun _ H' => Q .non H', rt := Q } (start N vs) H) : Cal P w K mg base (k + 1) x sp := by
  obtain ⟨oc, od, kV, doc, pm, an, ct, osl, rfl, lk, hcd⟩ := F.fn.ex
  refine ⟨f, _, ps, fn_of lk hcd S len fun A outer s H vs Q E hr hsp => ?_, F.mgf, F.fn.kp, F.b⟩
  obtain ⟨t, h, q⟩ := hbody A outer s H vs Q E hr hsp
  exact ⟨t, h.nox, q⟩
def noCF (sc : Scope) : Bool := sc.names.all fun y => decide (y.2 ≠ .cell) && decide (y.2 ≠ .free)
theorem genS_mk {env : Env} {scope : Scope} {x : Str} (k : scope.kind = .function) (co : scope.isCoroutine = false) (h : noCF scope = true) (dot : scope.names.lookup (".0" : Str) = some NameKind.local) (loc : scope.names.lookup x = some .local) : GenS env scope x := by
  unfold noCF at h
  rw [List.all_eq_true] at h
  refine ⟨k, co, fun y hy => ?_, dot, loc, fun y hy e => ?_⟩
  · have := h y hy
    rw [Bool.and_eq_true] at this
    exact of_decide_eq_true this.1
  · have := h y hy
    rw [Bool.and_eq_true] at this
    exact absurd e (of_decide_eq_true this.2)
end W5
set_option Elab.async false
set_option linter.all false
set_option maxRecDepth 100000
set_option maxHeartbeats 4000000
namespace W5
open PySem PySem.Spec PyProof.Rows L2 Com EnumT GxR
def digs : Str := "0123456789"
def sigs : Str := "abcdefghijklmnopqrstuvwxyz0123456789!*+-./:<=>?_"
def pcN (c : Nat) : Bool := !(Builtin.Str.occurrences sigs ⟨#[c]⟩ 0 sigs.length 1).isEmpty
/-- what is asked of a word that is looked at -/
structure Word (x : Str) (bd ba : Bool) : Prop where
  h0 : ∃ c, atI x.cps.toList 0 = some c ∧ ¬ (⟨#[c]⟩ : Str) = "-" ∧ ¬ (⟨#[c]⟩ : Str) = "" ∧ (!(Builtin.Str.occurrences digs ⟨#[c]⟩ 0 digs.length 1).isEmpty) = bd
  len : 1 ≤ x.length ∧ x.length ≤ 20
  ok : PyData.strOk x = true
  nd : ¬ x = "..." ∧ ¬ x = "_"
  all : x.cps.toList.all pcN = ba
theorem w_m : Word "m" false true := ⟨⟨109, by decide +kernel, by decide +kernel, by decide +kernel, by decide +kernel⟩, by decide +kernel, by decide +kernel, by decide +kernel, by decide +kernel⟩
theorem w_a : Word "a" false true := ⟨⟨97, by decide +kernel, by decide +kernel, by decide +kernel, by decide +kernel⟩, by decide +kernel, by decide +kernel, by decide +kernel, by decide +kernel⟩
theorem w_zz : Word "zz" false true := ⟨⟨122, by decide +kernel, by decide +kernel, by decide +kernel, by decide +kernel⟩, by decide +kernel, by decide +kernel, by decide +kernel, by decide +kernel⟩
theorem w_zzz : Word "zzz" false true := ⟨⟨122, by decide +kernel, by decide +kernel, by decide +kernel, by decide +kernel⟩, by decide +kernel, by decide +kernel, by decide +kernel, by decide +kernel⟩
theorem w_9m : Word "9m" true true := ⟨⟨57, by decide +kernel, by decide +kernel, by decide +kernel, by decide +kernel⟩, by decide +kernel, by decide +kernel, by decide +kernel, by decide +kernel⟩
theorem w_M : Word "M" false false := ⟨⟨77, by decide +kernel, by decide +kernel, by decide +kernel, by decide +kernel⟩, by decide +kernel, by decide +kernel, by decide +kernel, by decide +kernel⟩
section
variable {P : Program} {w : World} {K : PySem.W.Frag} {mg : Str → Option Value} {base : Heap}
def spBegins : Sp := fun vs H Q _ => ∃ (x : Str) (bd ba : Bool), vs = [.str x] ∧ Word x bd ba ∧ Q (.bl bd) H
theorem ok_begins_as_number {f : Addr} {fd : FuncData} {tkD : Tok} (F : Dfn K mg "_begins_as_number" st__begins_as_number f fd ["word"]) (M : Mg mg) (gDIG : mg "DIGITS" = some (.str "0123456789" tkD)) : Cal P w K mg base 1 "_begins_as_number" spBegins := by
  refine cal_mk F sc_begins_as_number (fun vs H Q E h => ?_) (fun cdv A outer s H vs Q E hr h => ?_)
  · obtain ⟨x, bd, ba, rfl, _⟩ := h
    rfl
  obtain ⟨x, bd, ba, rfl, W, q⟩ := h
  obtain ⟨c, hc, n1, n2, hb⟩ := W.h0
  have hl := W.len
  have hz : x.length ≤ sizeLine := Nat.le_trans hl.2 (by decide)
  refine ⟨_, (pss_cons (ps_set (i := 1) sc_begins_as_number.nd rfl (.inl rfl) (pe_ifExp (pt_cmpR op_eq (pe_ix ix_str (pv 0) pe_int (fun _ _ => rfl)) pe_str (nomark _)) (pe_slice sl_str (pv 0) (po_some pe_int) (po_some pe_int)) (pe_ix ix_str (pv 0) pe_int (fun _ _ => rfl))))
      (pss_one (ps_ret (pe_and (pe_cmpR op_ne (pv 1) pe_str (nomark _)) (pe_one (pe_cmpR op_in_str (pv 1) (pe_glob (v := .str "0123456789") (by rfl) gDIG ⟨_, rfl⟩) (by rfl))))))), ?_⟩
  refine ⟨_, rfl, tc ⟨x, 0, c, rfl, rfl, hz, hc, rfl, _, rfl, ?_⟩⟩
  rw [kne n1]
  refine iteF ?_
  refine ⟨_, rfl, tc ⟨x, 0, c, rfl, rfl, hz, hc, ?_⟩⟩
  refine ⟨_, rfl, rfl, _, rfl, ?_⟩
  rw [kne n2]
  refine iteT ⟨_, rfl, _, _, rfl, rfl, ?_⟩
  show Q (.bl (!(Builtin.Str.occurrences digs ⟨#[c]⟩ 0 digs.length 1).isEmpty)) H
  rw [hb]
  exact q
def spName (PN : Addr) : Sp := fun vs H Q _ => ∃ (x : Str) (bd ba : Bool), vs = [.str x] ∧ Word x bd ba ∧ TabG H PN ∧ ∀ H', Keep PN H H' → TabG H' PN → Q (.bl (!bd && ba)) H'
theorem ok_is_name {f cN PN : Addr} {fd : FuncData} {tkL tkS : Tok} (F : DfnC K mg "is_name" st_is_name f fd ["text"] cN) (M : Mg mg) (gLN : mg "LONGEST_NAME" = some (.int 20 tkL)) (gSIG : mg "NAME_SIGNS" = some (.str "abcdefghijklmnopqrstuvwxyz0123456789!*+-./:<=>?_" tkS)) (TB : TabB base mg cN PN)
    (G_begins_as_number : Cal P w K mg base 1 "_begins_as_number" spBegins) : Cal P w K mg base 2 "is_name" (spName PN) := by
  refine cal_mkC F scis_name (fun vs H Q E h => ?_) (fun A outer s H vs Q E hr h => ?_)
  · obtain ⟨x, bd, ba, rfl, _⟩ := h
    rfl
  obtain ⟨x, bd, ba, rfl, W, hT, q⟩ := h
  have hl := W.len
  have hz : x.length ≤ sizeLine := Nat.le_trans hl.2 (by decide)
  refine ⟨_, (pss_cons (ps_if (PW.pt (pw_or (pt_not (pt_chain op_le op_le pe_int (pe_callB call_len_str (by rfl) M.len b_len (pa_cons (pv 0) pa_nil)) (pe_glob (v := .int 20) (by rfl) gLN ⟨_, rfl⟩))) (pw_or1 (pt_cmpR (opInT K rfl (units65 hr)) (pv 0) (pe_tup (pa_cons pe_str (pa_cons pe_str pa_nil))) (by rfl))))) (pss_one (ps_ret pe_bl)) pss_nil)
      (pss_cons (ps_if (pt_val (pe_c G_begins_as_number hr (by omega) (by rfl) (pa_cons (pv 0) pa_nil))) (pss_one (ps_ret pe_bl)) pss_nil)
      (pss_one (ps_ret (GenU.pe_allU (c := cN) (P := PN) (pc := pcN) hr (by rfl) M.all b_all TB rfl (genS_mk rfl rfl (by decide +kernel) rfl rfl) (pv 0) (GenU.elt_inG rfl rfl rfl gSIG) (fun _ _ => rfl) (fun _ => rfl)))))), ?_⟩
  refine ⟨_, rfl, x, rfl, hz, _, _, rfl, rfl, _, rfl, ?_⟩
  have e1 : decide ((1 : Int) ≤ (x.length : Int)) = true := decide_eq_true (by omega)
  rw [e1]
  refine iteT (tc ⟨_, _, rfl, rfl, _, rfl, ?_⟩)
  have e2 : decide ((x.length : Int) ≤ (20 : Int)) = true := decide_eq_true (by omega)
  rw [e2]
  refine iteF ?_
  refine ⟨_, rfl, by show 2 ≤ sizeLine; decide, fun p np => ?_⟩
  obtain ⟨H1, e, k1, d1⟩ := tup_new np (.cons (.str (Str.ofString "...")) (.cons (.str (Str.ofString "_")) .nil))
  rw [e]
  clear e
  refine ⟨_, _, .str x, d1.dp, shp (by simp [PyData.canLay0, W.ok]) (by simp [PyData.depth]), by decide +kernel, _, rfl, ?_⟩
  have e3 : ([PyData.str (Str.ofString "..."), PyData.str (Str.ofString "_")].any fun z => PyData.eqv z (.str x)) = false := by
    rw [Bool.eq_false_iff]
    intro h
    rw [any_pl (by rfl) (by rfl)] at h
    rcases List.mem_cons.mp h with h | h
    · exact W.nd.1 (PyData.str.inj h)
    · exact W.nd.2 (PyData.str.inj (List.mem_singleton.mp h))
  rw [e3]
  refine iteF ⟨_, rfl, x, bd, ba, rfl, W, _, rfl, ?_⟩
  have hT1 : TabG H1 PN := by
    obtain ⟨ps, h1, h2⟩ := hT
    exact ⟨ps, k1 _ _ h1, h2⟩
  cases bd with
  | true => exact iteT (q _ (Keep.same k1) hT1)
  | false =>
    refine iteF ⟨_, rfl, hT1, x, rfl, fun H2 hTb => ?_⟩
    rw [W.all]
    have kp : Keep PN H1 H2 := fun b u e n => by rw [hTb.2 b n]; exact e
    exact q H2 ((Keep.same k1).trans kp) hTb.1
/-! scopes and sets, judged -/
def cntV : V → Bool
  | .int i => decide (0 ≤ i)
  | _ => false
def Flat3 : V → Prop
  | .int _ => True
  | .bl _ => True
  | .str _ => True
  | _ => False
def spCount : Sp := fun vs H Q _ => ∃ v, vs = [v] ∧ Flat3 v ∧ Q (.bl (cntV v)) H
theorem ok_is_count {f : Addr} {fd : FuncData} (F : Dfn K mg "_is_count" st__is_count f fd ["value"]) (M : Mg mg) : Cal P w K mg base 1 "_is_count" spCount := by
  refine cal_mk F sc_is_count (fun vs H Q E h => ?_) (fun cdv A outer s H vs Q E hr h => ?_)
  · obtain ⟨v, rfl, _⟩ := h
    rfl
  obtain ⟨v, rfl, hf, q⟩ := h
  refine ⟨_, (pss_one (ps_ret (pe_and (pe_callB (cIsi K rfl) (by rfl) M.isinstance b_isinstance (pa_cons (pv 0) (pa_cons (pe_bltn (v := .ty "int") (by rfl) M.int b_int rfl) pa_nil))) (pe_and (pe_not (pe_callB (cIsi K rfl) (by rfl) M.isinstance b_isinstance (pa_cons (pv 0) (pa_cons (pe_bltn (v := .ty "bool") (by rfl) M.bool b_bool rfl) pa_nil)))) (pe_one (pe_cmpR op_ge (pv 0) pe_int (nomark _))))))), ?_⟩
  cases v with
  | int i =>
    refine ⟨_, rfl, _, _, _, _, true, rfl, .ty "int", .base (.int i), kit_ty kit_int, true, rfl, iteT ?_⟩
    refine ⟨_, rfl, _, _, _, _, false, rfl, .ty "bool", .base (.int i), kit_ty kit_intb, ?_⟩
    exact ⟨_, rfl, _, rfl, iteT ⟨_, rfl, _, _, rfl, rfl, q⟩⟩
  | bl b =>
    refine ⟨_, rfl, _, _, _, _, true, rfl, .ty "int", .base (.bl b), kit_ty (by decide +kernel), true, rfl, iteT ?_⟩
    refine ⟨_, rfl, _, _, _, _, true, rfl, .ty "bool", .base (.bl b), kit_ty k_bb, ?_⟩
    exact ⟨_, rfl, _, rfl, iteF q⟩
  | str x =>
    refine ⟨_, rfl, _, _, _, _, false, rfl, .ty "int", .base (.str x), kit_ty k_si, false, rfl, iteF q⟩
  | _ => cases hf
inductive ScopeV (H : Hp) : V → Bool → Prop
  | str (x : Str) : ScopeV H (.str x) false
  | len {a : Addr} {ys : List V} (h : H a = some (.tup ys)) (n : ys.length ≠ 3) : ScopeV H (.ref a) false
  | sc {a : Addr} {nm : Str} {y z : V} {bd ba : Bool} (h : H a = some (.tup [.str nm, y, z])) (W : Word nm bd ba) (hy : Flat3 y) (hz : Flat3 z) : ScopeV H (.ref a) ((!bd && ba) && (cntV y && cntV z))
def spScopeQ (PN : Addr) : Sp := fun vs H Q _ => ∃ (v : V) (r : Bool), vs = [v] ∧ ScopeV H v r ∧ TabG H PN ∧ ∀ H', Keep PN H H' → TabG H' PN → Q (.bl r) H'
theorem ok_is_scope {f PN : Addr} {fd : FuncData} (F : Dfn K mg "_is_scope" st__is_scope f fd ["value"]) (M : Mg mg) (Gis_name : Cal P w K mg base 2 "is_name" (spName PN)) (G_is_count : Cal P w K mg base 1 "_is_count" spCount) : Cal P w K mg base 3 "_is_scope" (spScopeQ PN) := by
  refine cal_mk F sc_is_scope (fun vs H Q E h => ?_) (fun cdv A outer s H vs Q E hr h => ?_)
  · obtain ⟨v, r, rfl, _⟩ := h
    rfl
  obtain ⟨v, r, rfl, hv, hT, q⟩ := h
  refine ⟨_, (pss_cons (ps_if (PW.pt (pw_or (pt_not (pt_val (pe_callB (cIsi K rfl) (by rfl) M.isinstance b_isinstance (pa_cons (pv 0) (pa_cons (pe_bltn (v := .ty "tuple") (by rfl) M.tuple b_tuple rfl) pa_nil))))) (pw_or1 (pt_cmpR op_ne (pe_callB (cLen K rfl) (by rfl) M.len b_len (pa_cons (pv 0) pa_nil)) pe_int (nomark _))))) (pss_one (ps_ret pe_bl)) pss_nil)
      (pss_cons (ps_asg (pv 0) (pg_tup rfl (pgs_cons (pg_name (i := 1) sc_is_scope.nd rfl (.inl rfl)) (pgs_cons (pg_name (i := 2) sc_is_scope.nd rfl (.inl rfl)) (pgs_cons (pg_name (i := 3) sc_is_scope.nd rfl (.inl rfl)) pgs_nil)))))
      (pss_cons (ps_if (PW.pt (pw_or (pt_not (pt_val (pe_callB (cIsi K rfl) (by rfl) M.isinstance b_isinstance (pa_cons (pv 1) (pa_cons (pe_bltn (v := .ty "str") (by rfl) M.str b_str rfl) pa_nil))))) (pw_or1 (pt_not (pt_val (pe_c Gis_name hr (by omega) (by rfl) (pa_cons (pv 1) pa_nil))))))) (pss_one (ps_ret pe_bl)) pss_nil)
      (pss_one (ps_ret (pe_and (pe_c G_is_count hr (by omega) (by rfl) (pa_cons (pv 2) pa_nil)) (pe_one (pe_c G_is_count hr (by omega) (by rfl) (pa_cons (pv 3) pa_nil))))))))), ?_⟩
  cases hv with
  | str x =>
    exact ⟨_, rfl, _, _, _, _, false, rfl, .ty "tuple", .base (.str x), kit_ty (by decide +kernel), _, rfl, iteT (iteT (q H (Keep.refl _ _) hT))⟩
  | @len a ys h n =>
    refine ⟨_, rfl, _, _, _, _, true, rfl, .ty "tuple", tyT (SqT.of h), kit_ty k_tt, _, rfl, iteF ?_⟩
    refine ⟨_, rfl, a, ys, rfl, .inr (SqT.of h), rfl, _, rfl, ?_⟩
    have e : decide (V.int (ys.length : Int) = V.int 3) = false := decide_eq_false fun z => n (by have := V.int.inj z; omega)
    rw [e]
    exact iteT (q H (Keep.refl _ _) hT)
  | @sc a nm y z bd ba h W hy hz =>
    refine ⟨_, rfl, _, _, _, _, true, rfl, .ty "tuple", tyT (SqT.of h), kit_ty k_tt, _, rfl, iteF ?_⟩
    refine ⟨_, rfl, a, _, rfl, .inr (SqT.of h), rfl, _, rfl, ?_⟩
    refine iteF ?_
    refine ⟨_, rfl, a, _, rfl, SqT.of h, rfl, _, _, rfl, _, _, rfl, _, _, rfl, rfl, ?_⟩
    refine ⟨_, rfl, _, _, _, _, true, rfl, .ty "str", .base (.str nm), kit_ty k_ss, _, rfl, iteF ?_⟩
    refine ⟨_, rfl, nm, bd, ba, rfl, W, hT, fun H1 k1 T1 => ?_⟩
    refine ⟨_, rfl, ?_⟩
    cases hb : (!bd && ba) with
    | false =>
      rw [hb, Bool.false_and] at q
      exact iteT (q H1 k1 T1)
    | true =>
      rw [hb, Bool.true_and] at q
      refine iteF ⟨_, rfl, y, rfl, hy, _, rfl, ?_⟩
      cases hc : cntV y with
      | false =>
        rw [hc, Bool.false_and] at q
        exact iteF (q H1 k1 T1)
      | true =>
        rw [hc, Bool.true_and] at q
        exact iteT ⟨_, rfl, z, rfl, hz, q H1 k1 T1⟩
/-! is_set -/
inductive SetV (K : PySem.W.Frag) (H : Hp) : V → Bool → Prop
  | non : SetV K H .non false
  | lst {a : Addr} {ys : List V} (h : SqL K H a ys) : SetV K H (.ref a) false
  | bad {a : Addr} {x : V} {ys : List V} (h : H a = some (.tup (x :: ys))) (hx : ScopeV H x false) : SetV K H (.ref a) false
  | set {v : V} {s : List Sc} (h : Dt H v (setD s)) (g : ∀ x ∈ s, (∃ bd ba, Word x.1 bd ba ∧ (!bd && ba) = true) ∧ 0 ≤ x.2.1 ∧ 0 ≤ x.2.2) : SetV K H v (decide (s.Pairwise ltS))
end
end W5
set_option Elab.async false
set_option linter.all false
set_option maxRecDepth 100000
set_option maxHeartbeats 4000000
namespace W5
open PySem PySem.Spec PyProof.Rows L2 Com EnumT GxR
theorem scE {H : Hp} {v : V} {x : Sc} (h : Dt H v (scD x)) : ∃ a, v = .ref a ∧ H a = some (.tup [.str x.1, .int x.2.1, .int x.2.2]) := by
  obtain ⟨a, xs, rfl, ha, h1⟩ := Dt.tupE h
  obtain ⟨x0, r0, rfl, h0, h1⟩ := h1.consE
  obtain ⟨x1, r1, rfl, h2, h1⟩ := h1.consE
  obtain ⟨x2, r2, rfl, h3, h1⟩ := h1.consE
  have e := h1.nilE
  subst e
  rw [h0.strE, h2.intE, h3.intE] at ha
  exact ⟨a, rfl, ha⟩
theorem ScopeV.tk {H H' : Hp} {v : V} {r : Bool} (h : ScopeV H v r) (k : Tk H H') : ScopeV H' v r := by
  cases h with
  | str z => exact .str z
  | len hb n => exact .len (k _ _ hb) n
  | sc hb W hy hz => exact .sc (k _ _ hb) W hy hz
theorem tabg_same {H H' : Hp} {P : Addr} (h : TabG H P) (k : Same H H') : TabG H' P := by
  obtain ⟨ps, h1, h2⟩ := h
  exact ⟨ps, k _ _ h1, h2⟩
theorem keep_tab_tk {H H' : Hp} {P : Addr} (g : TabG H P) (k : Keep P H H') : Tk H H' := k.tk fun xs e => by
  obtain ⟨ps, g, _⟩ := g
  rw [g] at e
  cases e
theorem pair_snoc {l : List Sc} {z : Sc} (h : l.Pairwise ltS) (hz : ∀ y, l.getLast? = some y → ltS y z) : (l ++ [z]).Pairwise ltS := by
  refine List.pairwise_append.mpr ⟨h, List.pairwise_singleton _ _, fun a ha b hb => ?_⟩
  rw [List.mem_singleton.mp hb]
  rcases List.eq_nil_or_concat l with e | ⟨i, y, e⟩
  · rw [e] at ha
    cases ha
  · rw [List.concat_eq_append] at e
    subst e
    have hy := hz y (by simp)
    rcases List.mem_append.mp ha with h1 | h1
    · exact ltS_trans ((List.pairwise_append.mp h).2.2 a h1 y List.mem_cons_self) hy
    · rw [List.mem_singleton.mp h1]
      exact hy
section
variable {P : Program} {w : World} {K : PySem.W.Frag} {mg : Str → Option Value} {base : Heap}
def spIsSet (K : PySem.W.Frag) (PN : Addr) : Sp := fun vs H Q _ => ∃ (v : V) (r : Bool), vs = [v] ∧ SetV K H v r ∧ TabG H PN ∧ ∀ H', Keep PN H H' → TabG H' PN → Q (.bl r) H'
theorem ok_is_set {f PN : Addr} {fd : FuncData} (F : Dfn K mg "is_set" st_is_set f fd ["value"]) (M : Mg mg) (G_is_scope : Cal P w K mg base 3 "_is_scope" (spScopeQ PN)) : Cal P w K mg base 4 "is_set" (spIsSet K PN) := by
  refine cal_mk F scis_set (fun vs H Q E h => ?_) (fun cdv A outer s H vs Q E hr h => ?_)
  · obtain ⟨v, r, rfl, _⟩ := h
    rfl
  obtain ⟨v, r, rfl, hv, hT, q⟩ := h
  refine ⟨_, (pss_cons (ps_if (pt_not (pt_val (pe_callB (cIsi K rfl) (by rfl) M.isinstance b_isinstance (pa_cons (pv 0) (pa_cons (pe_bltn (v := .ty "tuple") (by rfl) M.tuple b_tuple rfl) pa_nil))))) (pss_one (ps_ret pe_bl)) pss_nil)
      (pss_cons (ps_for PassesOwn.never rfl (EnumT.pi_enumQ (by rfl) M.enumerate (pa_cons (pv 0) pa_nil)) (pg_tup rfl (pgs_cons (pg_name (i := 1) scis_set.nd rfl (.inl rfl)) (pgs_cons (pg_name (i := 2) scis_set.nd rfl (.inl rfl)) pgs_nil)))
      (pss_cons (ps_if (pt_not (pt_val (pe_c G_is_scope hr (by omega) (by rfl) (pa_cons (pv 2) pa_nil)))) (pss_one (ps_ret pe_bl)) pss_nil)
      (pss_one (ps_if (PW.pt (pw_and (pt_cmpR op_gt (pv 1) pe_int (nomark _)) (pw_and1 (pt_not (pt_cmpR (RuleX.op_ltD rfl hr.units) (pe_ix (ixT K rfl) (pv 0) (pe_op op_sub (pv 1) pe_int) (fun _ _ => rfl)) (pv 2) (nomark _)))))) (pss_one (ps_ret pe_bl)) pss_nil))))
      (pss_one (ps_ret pe_bl)))), ?_⟩
  cases hv with
  | non =>
    exact ⟨_, rfl, _, _, _, _, false, rfl, .ty "tuple", .base .non, kit_ty (by decide +kernel), _, rfl, iteT (q H (Keep.refl _ _) hT)⟩
  | @lst a ys h =>
    exact ⟨_, rfl, _, _, _, _, false, rfl, .ty "tuple", tyL h, kit_ty k_lt, _, rfl, iteT (q H (Keep.refl _ _) hT)⟩
  | @bad a x ys h hx =>
    refine ⟨_, rfl, _, _, _, _, true, rfl, .ty "tuple", tyT (SqT.of h), kit_ty k_tt, _, rfl, iteF ?_⟩
    refine ⟨_, rfl, a, x :: ys, rfl, for_enumQ (H0 := fun b => if b = a then some (.tup (x :: ys)) else none) (.inr (SqT.of (if_pos rfl))) (fun b o e => ?_) (fun i σ H' => i = 0 ∧ H' = H ∧ ∃ y1 y2, σ = [some (.ref a), y1, y2])
      ⟨rfl, rfl, none, none, rfl⟩ (fun i σ H' h' b o e => ?_) ?_ ?_⟩
    · split at e
      · rename_i z
        cases e
        rw [z]
        exact h
      · cases e
    · obtain ⟨_, rfl, _⟩ := h'
      split at e
      · rename_i z
        cases e
        rw [z]
        exact h
      · cases e
    · rintro i x' σ H' T hi ⟨rfl, rfl, y1, y2, rfl⟩ nT
      have ex : x = x' := by simpa using hi
      subst ex
      have k1 := same_upd (o := .tup [.int ((0 : Nat) : Int), x]) nT
      refine ⟨T, _, rfl, SqT.of upd_same, rfl, _, _, rfl, _, _, rfl, rfl, ?_⟩
      refine ⟨_, rfl, x, false, rfl, ?_, tabg_same hT k1, fun H2 k2 T2 => ?_⟩
      · exact hx.tk (same_tk k1)
      · exact ⟨_, rfl, iteT (q H2 ((Keep.same k1).trans k2) T2)⟩
    · rintro σ H' ⟨e, _⟩
      cases e
  | @set v s' h g =>
    obtain ⟨a, xs, rfl, ha, hx⟩ := Dt.tupE h
    have hxl := hx.len
    rw [List.length_map] at hxl
    refine ⟨_, rfl, _, _, _, _, true, rfl, .ty "tuple", tyT (SqT.of ha), kit_ty k_tt, _, rfl, iteF ?_⟩
    have aPN : a ≠ PN := fun e => by
      obtain ⟨ps, hp, _⟩ := hT
      rw [e, hp] at ha
      cases ha
    refine ⟨_, rfl, a, xs, rfl, for_enumQ (H0 := fun b => if b = a then some (.tup xs) else none) (.inr (SqT.of (if_pos rfl))) (fun b o e => ?_) (fun i σ H' => ∃ y1 y2, σ = [some (.ref a), y1, y2] ∧ Keep PN H H' ∧ TabG H' PN ∧ (s'.take i).Pairwise ltS)
      ⟨none, none, rfl, Keep.refl _ _, hT, by simp⟩ (fun i σ H' h' b o e => ?_) ?_ ?_⟩
    · split at e
      · rename_i z
        cases e
        rw [z]
        exact ha
      · cases e
    · obtain ⟨y1, y2, _, kk, _⟩ := h'
      split at e
      · rename_i z
        cases e
        rw [z]
        exact kk _ _ ha aPN
      · cases e
    · rintro i x σ H' T hi ⟨y1, y2, rfl, kk, tt, hp⟩ nT
      obtain ⟨z, hz, hd⟩ := hx.get_map hi
      have k1 := same_upd (o := .tup [.int (i : Nat), x]) nT
      have hc1 : upd H' T (.tup [.int (i : Nat), x]) T = some (.tup [.int (i : Nat), x]) := upd_same
      generalize upd H' T (.tup [.int (i : Nat), x]) = H1 at k1 hc1 ⊢
      have tk1 : Tk H H1 := (keep_tab_tk hT kk).trans (same_tk k1)
      have hd1 := hd.tk tk1
      obtain ⟨p, rfl, hp1⟩ := scE hd1
      obtain ⟨⟨bd, ba, W, wt⟩, n0, s0⟩ := g z (List.mem_of_getElem? hz)
      refine ⟨T, _, rfl, SqT.of hc1, rfl, _, _, rfl, _, _, rfl, rfl, ?_⟩
      refine ⟨_, rfl, _, _, rfl, .sc hp1 W trivial trivial, tabg_same tt k1, fun H2 k2 T2 => ?_⟩
      have er : ((!bd && ba) && (cntV (.int z.2.1) && cntV (.int z.2.2))) = true := by
        rw [wt]
        simp [cntV, n0, s0]
      rw [er]
      refine ⟨_, rfl, iteF ?_⟩
      have tk2 : Tk H1 H2 := keep_tab_tk (tabg_same tt k1) k2
      have kk2 : Keep PN H H2 := (kk.trans (Keep.same k1)).trans k2
      have et : s'.take (i + 1) = s'.take i ++ [z] := by rw [List.take_add_one, hz]; rfl
      refine ⟨_, rfl, _, _, rfl, rfl, _, rfl, ite2 (fun c1 => ?_) (fun c1 => ?_)⟩
      · have hi0 : 0 < i := by have := of_decide_eq_true c1; omega
        obtain ⟨j, rfl⟩ : ∃ j, i = j + 1 := ⟨i - 1, by omega⟩
        have hil := (List.getElem?_eq_some_iff.mp hz).1
        have hy : s'[j]? = some s'[j] := List.getElem?_eq_getElem (by omega)
        obtain ⟨xv, hxv, hdy⟩ := hx.at (i := j) (d := scD s'[j]) (by rw [List.getElem?_map, hy]; rfl)
        have hat : atI xs (((j + 1 : Nat) : Int) - 1) = some xv := by
          have e : ((j + 1 : Nat) : Int) - 1 = ((j : Nat) : Int) := by omega
          rw [e]
          exact atN hxv
        have tkH : Tk H H2 := tk1.trans tk2
        refine ⟨_, rfl, _, rfl, _, _, rfl, rfl, ?_⟩
        refine ixt (kk2 _ _ ha aPN) hat ?_
        refine ⟨_, rfl, scD s'[j], scD z, (hdy.tk tkH).dp, (hd.tk tkH).dp, by simp [scD, PySem.W.alike, PySem.W.alikeAll], by simp [scD], by rw [dep_sc]; decide, ?_⟩
        rw [dataLt_sc]
        refine ⟨_, rfl, ?_⟩
        by_cases hl : ltS s'[j] z
        · rw [decide_eq_true hl]
          refine iteF ⟨_, _, rfl, kk2, T2, ?_⟩
          rw [et]
          refine pair_snoc hp fun y hy' => ?_
          have e : (s'.take (j + 1)).getLast? = some s'[j] := by
            have e3 : s'.take (j + 1) = s'.take j ++ [s'[j]] := by rw [List.take_add_one, hy]; rfl
            rw [e3]
            exact List.getLast?_concat
          rw [e] at hy'
          cases hy'
          exact hl
        · rw [decide_eq_false hl]
          have nf : ¬ s'.Pairwise ltS := fun pw => hl (by
            have := List.pairwise_iff_getElem.mp pw j (j + 1) (by omega) hil (by omega)
            have e2 : s'[j + 1] = z := (List.getElem?_eq_some_iff.mp hz).2
            rw [e2] at this
            exact this)
          rw [decide_eq_false nf] at q
          exact iteT (q H2 kk2 T2)
      · refine iteF ⟨_, _, rfl, kk2, T2, ?_⟩
        have hi0 : i = 0 := by
          by_cases h0 : i = 0
          · exact h0
          · exact absurd (decide_eq_true (by omega)) c1
        subst hi0
        rw [et]
        simp
    · rintro σ H' ⟨y1, y2, rfl, kk, tt, hp⟩
      rw [hxl, List.take_length] at hp
      rw [decide_eq_true hp] at q
      exact q H' kk tt
end
end W5
set_option Elab.async false
set_option linter.all false
set_option maxRecDepth 100000
set_option maxHeartbeats 8000000
namespace W5
open PySem PySem.Spec PyProof.Rows L2 Com EnumT GxR
theorem DtAll.takeD {H : Hp} : ∀ {vs : List V} {ds : List PyData} (n : Nat), DtAll H vs ds → DtAll H (vs.take n) (ds.take n)
  | _, _, 0, _ => by simp; exact .nil
  | _, _, n + 1, .nil => by simp; exact .nil
  | _, _, n + 1, .cons h t => .cons h (DtAll.takeD n t)
theorem catD {K : PySem.W.Frag} {H : Hp} {x y : V} {ds es : List PyData} {Q : VK} (ha : Dt H x (.tuple ds)) (hb : Dt H y (.tuple es)) (hl : ds.length + es.length ≤ 1000) (q : ∀ r H', Same H H' → Dt H' r (.tuple (ds ++ es)) → Q r H') : rCatA K x y H Q := by
  obtain ⟨a, xs, rfl, h1, h2⟩ := Dt.tupE ha
  obtain ⟨b, ys, rfl, h3, h4⟩ := Dt.tupE hb
  have l1 := h2.len
  have l2 := h4.len
  refine ⟨a, b, xs, ys, rfl, rfl, SqT.of h1, SqT.of h3, Nat.le_of_lt (small1000 (by omega)), fun e => ?_, fun _ e => ?_, fun _ _ p np => ?_⟩
  · have : ds = [] := List.length_eq_zero_iff.mp (by rw [← l1, e]; rfl)
    subst this
    exact q _ _ (fun _ _ e => e) hb
  · have : es = [] := List.length_eq_zero_iff.mp (by rw [← l2, e]; rfl)
    subst this
    exact q _ _ (fun _ _ e => e) (by rw [List.append_nil]; exact ha)
  · exact q _ _ (same_upd np) (.tup upd_same ((h2.app h4).tk (same_tk (same_upd np))))
theorem slD {K : PySem.W.Frag} {H : Hp} {x : V} {ds : List PyData} {Q : VK} (ha : Dt H x (.tuple ds)) (q : ∀ r H', Same H H' → Dt H' r (.tuple (ds.take 1)) → Q r H') : rSlA K x none (some 1) H Q := by
  obtain ⟨a, xs, rfl, h1, h2⟩ := Dt.tupE ha
  have l1 := h2.len
  have e1 : HT.sIx xs.length xs.length (some 1) = min 1 xs.length := HT.sIx_nat xs.length xs.length 1
  refine ⟨a, xs, rfl, SqT.of h1, fun hw => ?_, fun _ p np => ?_⟩
  · have e2 : min 1 xs.length = xs.length := by rw [← e1]; exact hw.2
    have : ds.take 1 = ds := List.take_of_length_le (by omega)
    rw [this] at q
    exact q _ _ (fun _ _ e => e) ha
  · have e3 : cutV xs none (some 1) = xs.take 1 := by
      unfold cutV
      rw [e1]
      show (xs.drop 0).take (min 1 xs.length - 0) = _
      rw [List.drop_zero, Nat.sub_zero]
      cases xs with
      | nil => rfl
      | cons x r => simp
    rw [e3]
    exact q _ _ (same_upd np) (.tup upd_same ((W5.DtAll.takeD 1 h2).tk (same_tk (same_upd np))))
theorem SetV.same {K : PySem.W.Frag} {H H' : Hp} {v : V} {r : Bool} (h : SetV K H v r) (k : Same H H') : SetV K H' v r := by
  cases h with
  | non => exact .non
  | lst h => exact .lst (k.seq h)
  | bad h hx => exact .bad (k _ _ h) (hx.tk (same_tk k))
  | set h g => exact .set (h.tk (same_tk k)) g
theorem sql_keep {K : PySem.W.Frag} {H H' : Hp} {p a : Addr} {xs : List V} (k : Keep p H H') (hp : ∃ o, H p = some o ∧ (∀ xs, o ≠ .lst xs) ∧ ∀ b u, o ≠ .frz b u) (h : SqL K H a xs) : SqL K H' a xs := by
  obtain ⟨o, hp, n1, n3⟩ := hp
  have ne : ∀ {u}, H a = some u → o ≠ u → a ≠ p := fun e n z => by rw [z, hp] at e; exact n (Option.some.inj e)
  rcases h with (h | ⟨u, h⟩) | h
  · exact .inl (.inl (k _ _ h (ne h (n1 _))))
  · exact .inl (.inr ⟨u, k _ _ h (ne h (n3 _ _))⟩)
  · exact .inr h
theorem SetV.move {K : PySem.W.Frag} {H H' : Hp} {v : V} {r : Bool} (h : SetV K H v r) (k : Tk H H') (kl : ∀ a ys, SqL K H a ys → SqL K H' a ys) : SetV K H' v r := by
  cases h with
  | non => exact .non
  | lst h => exact .lst (kl _ _ h)
  | bad h hx => exact .bad (k _ _ h) (hx.tk k)
  | set h g => exact .set (h.tk k) g
abbrev Bad (K : PySem.W.Frag) (H : Hp) (L : List V) : Prop := ∀ v ∈ L, SetV K H v false
theorem Bad.same {K : PySem.W.Frag} {H H' : Hp} {L : List V} (h : Bad K H L) (k : Same H H') : Bad K H' L := fun v hv => (h v hv).same k
theorem scp_new {K : PySem.W.Frag} {H : Hp} {p : Addr} {ys : List V} {L : List V} (n : H p = none) (B : Bad K H L) (mk : ∀ H' : Hp, H' p = some (.tup ys) → ScopeV H' (.ref p) false) : ∃ H', upd H p (.tup ys) = H' ∧ Same H H' ∧ ScopeV H' (.ref p) false ∧ Bad K H' L :=
  ⟨_, rfl, same_upd n, mk _ upd_same, B.same (same_upd n)⟩
theorem bad_new {K : PySem.W.Frag} {H : Hp} {p : Addr} {x : V} {L : List V} (n : H p = none) (B : Bad K H L) (s : ScopeV H x false) : ∃ H', upd H p (.tup [x]) = H' ∧ Same H H' ∧ Bad K H' (L ++ [.ref p]) :=
  ⟨_, rfl, same_upd n, fun v hv => by
    rcases List.mem_append.mp hv with h | h
    · exact (B v h).same (same_upd n)
    · rw [List.mem_singleton.mp h]
      exact .bad upd_same (s.tk (same_tk (same_upd n)))⟩
def SetOk (x : Sc) : Prop := (∃ bd ba, Word x.1 bd ba ∧ (!bd && ba) = true) ∧ 0 ≤ x.2.1 ∧ 0 ≤ x.2.2
theorem GoodSc.set {x : Sc} (h : GoodSc x) : SetOk x := by
  refine ⟨?_, h.n0, h.s0⟩
  rcases h.nm with e | e | e <;> rw [e]
  · exact ⟨_, _, w_m, rfl⟩
  · exact ⟨_, _, w_a, rfl⟩
  · exact ⟨_, _, w_zz, rfl⟩
theorem lt_zzz {x : Sc} (h : GoodSc x) (n s : Int) : ltS x ("zzz", n, s) := by
  left
  show ltN x.1 (Str.ofString "zzz")
  rcases h.nm with e | e | e <;> rw [e] <;> decide +kernel
/-- good + good[:1] is no set -/
theorem not_twice {s : List Sc} (h : s ≠ []) : ¬ (s ++ s.take 1).Pairwise ltS := by
  cases s with
  | nil => exact absurd rfl h
  | cons x r =>
    intro p
    have := (List.pairwise_append.mp p).2.2 x List.mem_cons_self x (by simp)
    exact ltS_irrefl _ this
section
variable {P : Program} {w : World} {K : PySem.W.Frag} {mg : Str → Option Value} {base : Heap}
def spSets (PN : Addr) : Sp := fun vs H Q _ => ∃ (t c : Addr), vs = [.ref t] ∧ TapeAt H t c ∧ TabG H PN ∧ ∀ H', Q (.bl true) H'
theorem ok_law_sets {f PN : Addr} {fd : FuncData} (F : Dfn K mg "_law_sets" st__law_sets f fd ["tape"]) (M : Mg mg) (G_law_take : Cal P w K mg base 1 "_law_take" spTake) (G_law_scopes : Cal P w K mg base 3 "_law_scopes" spScopes) (Gis_set : Cal P w K mg base 4 "is_set" (spIsSet K PN)) : Cal P w K mg base 5 "_law_sets" (spSets PN) := by
  refine cal_mk F sc_law_sets (fun vs H Q E h => ?_) (fun cdv A outer s H vs Q E hr h => ?_)
  · obtain ⟨t, c, rfl, _⟩ := h
    rfl
  obtain ⟨t, c, rfl, hT, hG, q⟩ := h
  have ok300 : ∀ {n}, n ≤ 300 → n ≤ sizeLine := fun h => Nat.le_of_lt (small1000 (by omega))
  have tabk : ∀ {H H' : Hp} {c : Addr}, TabG H PN → TapeAt H t c → Keep t H H' → TabG H' PN := fun g hT k => by
    obtain ⟨ps, h1, h2⟩ := g
    obtain ⟨cells, a', l, s', u', _, h3, _⟩ := hT
    exact ⟨ps, k _ _ h1 (ne_of h1 h3 (by intro z; cases z)), h2⟩
  refine ⟨_, (pss_cons (ps_set (i := 1) sc_law_sets.nd rfl (.inl rfl) (pe_op op_catA (pe_c G_law_scopes hr (by omega) (by rfl) (pa_cons (pv 0) pa_nil)) (pe_ifExp (pt_cmpR op_eq (pe_c G_law_take hr (by omega) (by rfl) (pa_cons (pv 0) (pa_cons pe_int pa_nil))) pe_int (nomark _)) (pe_tup (pa_cons (pe_tup (pa_cons pe_str (pa_cons pe_int (pa_cons (pe_op op_add pe_int (pe_c G_law_take hr (by omega) (by rfl) (pa_cons (pv 0) (pa_cons pe_int pa_nil)))) pa_nil)))) pa_nil)) (pe_tup pa_nil))))
      (pss_cons (ps_set (i := 2) sc_law_sets.nd rfl (.inl rfl) (pe_lst (pa_cons (pe_ifExp (pt_cmpR (opNeD K rfl hr.units) (pv 1) (pe_tup pa_nil) (nomark _)) (pe_op op_catA (pv 1) (pe_slice (slA K rfl) (pv 1) po_none (po_some pe_int))) (pe_tup (pa_cons pe_str pa_nil))) (pa_cons (pe_callTy (cList K rfl) (by rfl) M.list b_list (pa_cons (pv 1) pa_nil)) (pa_cons (pe_tup (pa_cons (pe_tup (pa_cons pe_str (pa_cons pe_int pa_nil))) pa_nil)) (pa_cons (pe_tup (pa_cons (pe_tup (pa_cons pe_str (pa_cons (pe_un un_neg pe_int) (pa_cons pe_int pa_nil)))) pa_nil)) (pa_cons (pe_tup (pa_cons (pe_tup (pa_cons pe_str (pa_cons pe_int (pa_cons pe_int pa_nil)))) pa_nil)) pa_nil)))))))
      (pss_cons (ps_set (i := 2) sc_law_sets.nd rfl (.inl rfl) (pe_op op_cat (pv 2) (pe_lst (pa_cons (pe_tup (pa_cons (pe_tup (pa_cons pe_str (pa_cons pe_bl (pa_cons pe_int pa_nil)))) pa_nil)) (pa_cons (pe_tup (pa_cons (pe_tup (pa_cons pe_str (pa_cons pe_int (pa_cons pe_int pa_nil)))) (pa_cons (pe_tup (pa_cons pe_str (pa_cons pe_int (pa_cons pe_int pa_nil)))) pa_nil))) (pa_cons (pe_tup (pa_cons (pe_tup (pa_cons pe_str (pa_cons pe_int (pa_cons (pe_un un_neg pe_int) pa_nil)))) pa_nil)) (pa_cons (pe_tup (pa_cons (pe_tup (pa_cons pe_str (pa_cons pe_int (pa_cons pe_int (pa_cons pe_int pa_nil))))) pa_nil)) (pa_cons pe_non (pa_cons (pe_tup (pa_cons (pe_tup (pa_cons pe_str (pa_cons pe_int (pa_cons pe_int pa_nil)))) pa_nil)) (pa_cons (pe_tup (pa_cons (pe_tup (pa_cons pe_str (pa_cons pe_str (pa_cons pe_int pa_nil)))) pa_nil)) pa_nil))))))))))
      (pss_one (ps_ret (pe_and (pe_cmpR op_isBl (pe_c Gis_set hr (by omega) (by rfl) (pa_cons (pv 1) pa_nil)) pe_bl (nomark _)) (pe_one (pe_cmpR op_isBl (pe_c Gis_set hr (by omega) (by rfl) (pa_cons (pe_ix (ixL K rfl) (pv 2) (pe_c G_law_take hr (by omega) (by rfl) (pa_cons (pv 0) (pa_cons (pe_callB (cLen K rfl) (by rfl) M.len b_len (pa_cons (pv 2) pa_nil)) pa_nil))) (fun _ _ => rfl)) pa_nil)) pe_bl (nomark _))))))))), ?_⟩
  refine seq_split (t1 := tAsg _ _) (fun σ' H' => ∃ gv good, σ' = [some (.ref t), some gv, none] ∧ Dt H' gv (setD good) ∧ good.Pairwise ltS ∧ (∀ x ∈ good, SetOk x) ∧ OkSet good ∧ good.length ≤ 4 ∧ TapeAt H' t c ∧ TabG H' PN) ?_ (fun rest => ?_)
  · rintro σ' H3 ⟨gv, good, rfl, dg, pg, sg, og, lg, tt, tg⟩
    obtain ⟨ga, gx, rfl, hga, hgx⟩ := Dt.tupE dg
    -- the first five
    have first : ∀ (rest : V → Hp → Prop), (∀ v H', Same H3 H' → SetV K H' v false → rest v H') → tIf (tTest (tOp (rNeD K) (tVar 1) (tTup tNil))) (tOp (rCatA K) (tVar 1) (tSl (rSlA K) (tVar 1) tNoPart (tPart (tC (V.int 1))))) (tTup (tCons (tC (V.str (Str.ofString "m"))) tNil)) [some (.ref t), some (.ref ga), none] H3 rest := fun rest hrest => by
      refine ⟨_, rfl, Nat.zero_le _, fun p0 np0 => ?_⟩
      obtain ⟨G0, e, m0, d0⟩ := tup_new np0 (ds := []) .nil
      rw [e]
      clear e
      have dg0 := dg.tk (same_tk m0)
      refine ⟨_, _, dg0.dp, d0.dp, sh_set og, by decide +kernel, _, rfl, ?_⟩
      have ee : PyData.eqv (setD good) (.tuple []) = decide (good = []) := by
        rw [Bool.eq_iff_iff, eqv_pl _ _ (by simp only [setD, pl]; exact plAll_map pl_sc good) (by rfl), decide_eq_true_iff]
        simp [setD]
      rw [ee]
      by_cases hn : good = []
      · rw [decide_eq_true hn]
        refine iteF ⟨by show 1 ≤ sizeLine; decide, fun p1 np1 => ?_⟩
        exact hrest _ _ (m0.trans (same_upd np1)) (.bad (ys := []) upd_same (.str _))
      · rw [decide_eq_false hn]
        refine iteT ⟨_, rfl, _, rfl, 1, rfl, slD dg0 fun r G1 m1 d1 => ?_⟩
        refine catD (dg0.tk (same_tk m1)) d1 (by simp; omega) fun r2 G2 m2 d2 => ?_
        have em : (List.map scD good ++ (List.map scD good).take 1) = (good ++ good.take 1).map scD := by rw [List.map_append, List.map_take]
        rw [em] at d2
        have nf := not_twice hn
        have sv : SetV K G2 r2 (decide ((good ++ good.take 1).Pairwise ltS)) := .set d2 fun x hx => by
          rcases List.mem_append.mp hx with h | h
          · exact sg x h
          · exact sg x (List.mem_of_mem_take h)
        rw [decide_eq_false nf] at sv
        exact hrest _ _ ((m0.trans m1).trans m2) sv
    refine first _ fun v1 G0 m0 b0 => ?_
    have B0 : Bad K G0 [v1] := fun v hv => by rw [List.mem_singleton.mp hv]; exact b0
    refine ⟨_, rfl, ga, gx, rfl, .inr (SqT.of (m0 _ _ hga)), fun l1 nl1 => ?_⟩
    have mA := same_upd (o := .lst gx) nl1
    have B1 : Bad K (upd G0 l1 (.lst gx)) ([v1] ++ [.ref l1]) := fun v hv => by
      rcases List.mem_append.mp hv with h | h
      · exact (B0.same mA) v h
      · rw [List.mem_singleton.mp h]
        exact .lst (SqL.of upd_same)
    generalize upd G0 l1 (.lst gx) = G1 at mA B1 ⊢
    have M1 := m0.trans mA
    refine ⟨by show 2 ≤ sizeLine; decide, fun p2 np2 => ?_⟩
    obtain ⟨Ga2, e, ma2, s2, Ba2⟩ := scp_new (ys := [.str "m", .int 1]) np2 B1 (fun H h => .len h (by simp))
    rw [e]
    clear e
    refine ⟨by show 1 ≤ sizeLine; decide, fun q2 nq2 => ?_⟩
    obtain ⟨G2, e, mb2, B2⟩ := bad_new nq2 Ba2 s2
    rw [e]
    clear e
    have M2 := M1.trans (ma2.trans mb2)
    refine ⟨_, rfl, by show 3 ≤ sizeLine; decide, fun p3 np3 => ?_⟩
    obtain ⟨Ga3, e, ma3, s3, Ba3⟩ := scp_new (ys := [.str "m", .int (-1), .int 0]) np3 B2 (fun H h => .sc (y := .int (-1)) (z := .int 0) h w_m trivial trivial)
    rw [e]
    clear e
    refine ⟨by show 1 ≤ sizeLine; decide, fun q3 nq3 => ?_⟩
    obtain ⟨G3, e, mb3, B3⟩ := bad_new nq3 Ba3 s3
    rw [e]
    clear e
    have M3 := M2.trans (ma3.trans mb3)
    refine ⟨by show 3 ≤ sizeLine; decide, fun p4 np4 => ?_⟩
    obtain ⟨Ga4, e, ma4, s4, Ba4⟩ := scp_new (ys := [.str "9m", .int 0, .int 0]) np4 B3 (fun H h => .sc (y := .int 0) (z := .int 0) h w_9m trivial trivial)
    rw [e]
    clear e
    refine ⟨by show 1 ≤ sizeLine; decide, fun q4 nq4 => ?_⟩
    obtain ⟨G4, e, mb4, B4⟩ := bad_new nq4 Ba4 s4
    rw [e]
    clear e
    have M4 := M3.trans (ma4.trans mb4)
    refine ⟨by show 5 ≤ sizeLine; decide, fun l5 nl5 => ?_⟩
    have m5 := same_upd (o := .lst [v1, .ref l1, .ref q2, .ref q3, .ref q4]) nl5
    have h5 : upd G4 l5 (.lst [v1, .ref l1, .ref q2, .ref q3, .ref q4]) l5 = some (.lst [v1, .ref l1, .ref q2, .ref q3, .ref q4]) := upd_same
    have B5 := B4.same m5
    generalize upd G4 l5 (.lst [v1, .ref l1, .ref q2, .ref q3, .ref q4]) = G5 at m5 h5 B5 ⊢
    have M5 := M4.trans m5
    refine ⟨_, rfl, ?_⟩
    refine ⟨by show 3 ≤ sizeLine; decide, fun p6 np6 => ?_⟩
    obtain ⟨Ga6, e, ma6, s6, Ba6⟩ := scp_new (ys := [.str "m", .bl true, .int 0]) np6 B5 (fun H h => .sc (y := .bl true) (z := .int 0) h w_m trivial trivial)
    rw [e]
    clear e
    refine ⟨by show 1 ≤ sizeLine; decide, fun q6 nq6 => ?_⟩
    obtain ⟨G6, e, mb6, B6⟩ := bad_new nq6 Ba6 s6
    rw [e]
    clear e
    have M6 := M5.trans (ma6.trans mb6)
    refine ⟨by show 3 ≤ sizeLine; decide, fun pa npa => ?_⟩
    obtain ⟨Gx, e, mx, dx⟩ := tup_new npa (.cons (.str (Str.ofString "m")) (.cons (.int 0) (.cons (.int 0) .nil)))
    rw [e]
    clear e
    refine ⟨by show 3 ≤ sizeLine; decide, fun pb npb => ?_⟩
    obtain ⟨Gy, e, my, dy⟩ := tup_new npb (.cons (.str (Str.ofString "a")) (.cons (.int 0) (.cons (.int 0) .nil)))
    rw [e]
    clear e
    refine ⟨by show 2 ≤ sizeLine; decide, fun q7 nq7 => ?_⟩
    obtain ⟨G7, e, mz, dz⟩ := tup_new nq7 (.cons (dx.tk (same_tk my)) (.cons dy .nil))
    rw [e]
    clear e
    have M7 := M6.trans ((mx.trans my).trans mz)
    have B7 : Bad K G7 ([v1] ++ [.ref l1] ++ [.ref q2] ++ [.ref q3] ++ [.ref q4] ++ [.ref q6] ++ [.ref q7]) := fun v hv => by
      rcases List.mem_append.mp hv with h | h
      · exact (B6.same ((mx.trans my).trans mz)) v h
      · rw [List.mem_singleton.mp h]
        have sv : SetV K G7 (.ref q7) (decide (([((Str.ofString "m", 0, 0) : Sc), (Str.ofString "a", 0, 0)]).Pairwise ltS)) := .set dz fun x hx => by
          rcases List.mem_cons.mp hx with e | hx
          · rw [e]; exact ⟨⟨_, _, w_m, rfl⟩, Int.le_refl 0, Int.le_refl 0⟩
          · rw [List.mem_singleton.mp hx]; exact ⟨⟨_, _, w_a, rfl⟩, Int.le_refl 0, Int.le_refl 0⟩
        have nf : ¬ ([((Str.ofString "m", 0, 0) : Sc), (Str.ofString "a", 0, 0)]).Pairwise ltS := by
          intro p
          have := (List.pairwise_cons.mp p).1 _ List.mem_cons_self
          revert this
          decide +kernel
        rw [decide_eq_false nf] at sv
        exact sv
    refine ⟨_, rfl, by show 3 ≤ sizeLine; decide, fun p8 np8 => ?_⟩
    obtain ⟨Ga8, e, ma8, s8, Ba8⟩ := scp_new (ys := [.str "m", .int 0, .int (-1)]) np8 B7 (fun H h => .sc (y := .int 0) (z := .int (-1)) h w_m trivial trivial)
    rw [e]
    clear e
    refine ⟨by show 1 ≤ sizeLine; decide, fun q8 nq8 => ?_⟩
    obtain ⟨G8, e, mb8, B8⟩ := bad_new nq8 Ba8 s8
    rw [e]
    clear e
    have M8 := M7.trans (ma8.trans mb8)
    refine ⟨by show 4 ≤ sizeLine; decide, fun p9 np9 => ?_⟩
    obtain ⟨Ga9, e, ma9, s9, Ba9⟩ := scp_new (ys := [.str "m", .int 0, .int 0, .int 0]) np9 B8 (fun H h => .len h (by simp))
    rw [e]
    clear e
    refine ⟨by show 1 ≤ sizeLine; decide, fun q9 nq9 => ?_⟩
    obtain ⟨G9, e, mb9, B9⟩ := bad_new nq9 Ba9 s9
    rw [e]
    clear e
    have M9 := M8.trans (ma9.trans mb9)
    have B10 : Bad K G9 ([v1] ++ [.ref l1] ++ [.ref q2] ++ [.ref q3] ++ [.ref q4] ++ [.ref q6] ++ [.ref q7] ++ [.ref q8] ++ [.ref q9] ++ [.non]) := fun v hv => by
      rcases List.mem_append.mp hv with h | h
      · exact B9 v h
      · rw [List.mem_singleton.mp h]
        exact .non
    have M10 := M9
    refine ⟨by show 3 ≤ sizeLine; decide, fun p11 np11 => ?_⟩
    obtain ⟨Ga11, e, ma11, s11, Ba11⟩ := scp_new (ys := [.str "M", .int 0, .int 0]) np11 B10 (fun H h => .sc (y := .int 0) (z := .int 0) h w_M trivial trivial)
    rw [e]
    clear e
    refine ⟨by show 1 ≤ sizeLine; decide, fun q11 nq11 => ?_⟩
    obtain ⟨G11, e, mb11, B11⟩ := bad_new nq11 Ba11 s11
    rw [e]
    clear e
    have M11 := M10.trans (ma11.trans mb11)
    refine ⟨by show 3 ≤ sizeLine; decide, fun p12 np12 => ?_⟩
    obtain ⟨Ga12, e, ma12, s12, Ba12⟩ := scp_new (ys := [.str "m", .str "0", .int 0]) np12 B11 (fun H h => .sc (y := .str "0") (z := .int 0) h w_m trivial trivial)
    rw [e]
    clear e
    refine ⟨by show 1 ≤ sizeLine; decide, fun q12 nq12 => ?_⟩
    obtain ⟨G12, e, mb12, B12⟩ := bad_new nq12 Ba12 s12
    rw [e]
    clear e
    have M12 := M11.trans (ma12.trans mb12)
    refine ⟨by show 7 ≤ sizeLine; decide, fun l6 nl6 => ?_⟩
    have m13 := same_upd (o := .lst [.ref q6, .ref q7, .ref q8, .ref q9, .non, .ref q11, .ref q12]) nl6
    have h6 : upd G12 l6 (.lst [.ref q6, .ref q7, .ref q8, .ref q9, .non, .ref q11, .ref q12]) l6 = some (.lst [.ref q6, .ref q7, .ref q8, .ref q9, .non, .ref q11, .ref q12]) := upd_same
    have B13 := B12.same m13
    have k5 : Same G5 G12 := (((((ma6.trans mb6).trans ((mx.trans my).trans mz)).trans (ma8.trans mb8)).trans (ma9.trans mb9)).trans (ma11.trans mb11)).trans (ma12.trans mb12)
    have h5' := m13 _ _ (k5 _ _ h5)
    have M13 := M12.trans m13
    generalize upd G12 l6 (.lst [.ref q6, .ref q7, .ref q8, .ref q9, .non, .ref q11, .ref q12]) = G13 at m13 h6 B13 h5' M13 ⊢
    refine ⟨l5, l6, _, _, rfl, rfl, h5', h6, by show 12 ≤ sizeLine; decide, fun l7 nl7 => ?_⟩
    have m14 := same_upd (o := .lst ([v1, .ref l1, .ref q2, .ref q3, .ref q4] ++ [.ref q6, .ref q7, .ref q8, .ref q9, .non, .ref q11, .ref q12])) nl7
    have h7 : upd G13 l7 (.lst ([v1, .ref l1, .ref q2, .ref q3, .ref q4] ++ [.ref q6, .ref q7, .ref q8, .ref q9, .non, .ref q11, .ref q12])) l7 = some (.lst ([v1, .ref l1, .ref q2, .ref q3, .ref q4] ++ [.ref q6, .ref q7, .ref q8, .ref q9, .non, .ref q11, .ref q12])) := upd_same
    have B14 : Bad K (upd G13 l7 (.lst ([v1, .ref l1, .ref q2, .ref q3, .ref q4] ++ [.ref q6, .ref q7, .ref q8, .ref q9, .non, .ref q11, .ref q12]))) ([v1, .ref l1, .ref q2, .ref q3, .ref q4] ++ [.ref q6, .ref q7, .ref q8, .ref q9, .non, .ref q11, .ref q12]) := B13.same m14
    have M14 := M13.trans m14
    have hlen : ([v1, V.ref l1, V.ref q2, V.ref q3, V.ref q4] ++ [V.ref q6, V.ref q7, V.ref q8, V.ref q9, V.non, V.ref q11, V.ref q12]).length = 12 := rfl
    generalize [v1, V.ref l1, V.ref q2, V.ref q3, V.ref q4] ++ [V.ref q6, V.ref q7, V.ref q8, V.ref q9, V.non, V.ref q11, V.ref q12] = L at m14 h7 B14 M14 hlen ⊢
    generalize upd G13 l7 (.lst L) = G14 at m14 h7 B14 M14 ⊢
    have tt14 := tt.same M14
    have tg14 := tabg_same tg M14
    have sg14 : SetV K G14 (.ref ga) (decide (good.Pairwise ltS)) := .set (dg.tk (same_tk M14)) sg
    rw [decide_eq_true pg] at sg14
    refine ⟨_, rfl, _, _, rfl, sg14, tg14, fun H4 k4 T4 => ⟨_, _, rfl, rfl, _, rfl, iteT ?_⟩⟩
    have pnl : l7 ≠ PN := fun e => by
      obtain ⟨ps, hp, _⟩ := tg14
      rw [e, hp] at h7
      cases h7
    have h7' := k4 _ _ h7 pnl
    have tt4 : TapeAt H4 t c := by
      obtain ⟨ps, hp, _⟩ := tg14
      obtain ⟨cells, a', l, s', u', h0, h1, h2⟩ := tt14
      exact ⟨cells, a', l, s', u', h0, k4 _ _ h1 (ne_of h1 hp (by intro z; cases z)), k4 _ _ h2 (ne_of h2 hp (by intro z; cases z))⟩
    refine ⟨_, rfl, _, rfl, _, rfl, l7, L, rfl, .inl (SqL.of h7'), t, c, _, rfl, tt4, by rw [hlen]; decide, by rw [hlen]; decide, fun r H5 r0 r1 k5' t5 => ?_⟩
    rw [hlen] at r1
    have hr : r.toNat < L.length := by omega
    have hat : atI L r = some L[r.toNat] := by
      have e : r = ((r.toNat : Nat) : Int) := by omega
      have := atI_nat (xs := L) (j := r.toNat) (List.getElem?_eq_getElem hr)
      rw [← e] at this
      exact this
    refine ixl (k5' _ _ h7' (tt4.dk h7')) hat ?_
    have b4 : SetV K H4 L[r.toNat] false := (B14 _ (List.getElem_mem hr)).move (keep_tab_tk tg14 k4) fun a ys h => by
      obtain ⟨ps, hp, _⟩ := tg14
      exact sql_keep k4 ⟨_, hp, fun _ z => (by cases z), fun _ _ z => (by cases z)⟩ h
    have b5 : SetV K H5 L[r.toNat] false := b4.move (k5'.tk2 tt4) fun a ys h => by
      obtain ⟨cells, a', l, s', u', _, h3, _⟩ := tt4
      exact sql_keep k5' ⟨_, h3, fun _ z => (by cases z), fun _ _ z => (by cases z)⟩ h
    refine ⟨_, _, rfl, b5, tabk T4 tt4 k5', fun H6 k6 T6 => ⟨_, _, rfl, rfl, ?_⟩⟩
    exact q H6
  · refine ⟨_, rfl, t, c, rfl, hT, fun v H1 gd k1 t1 d1 cn1 g1 l1 => ?_⟩
    have hG1 := tabk hG hT k1
    refine ⟨_, rfl, t, c, 3, rfl, t1, by decide, by decide, fun r2 H2 a0 a1 k2 t2 => ⟨rfl, _, rfl, ?_⟩⟩
    have hG2 := tabk hG1 t1 k2
    have d2 := d1.tk (k2.tk2 t1)
    have og : OkSet gd := fun x hx => (g1 x hx).ok
    refine ite2 (fun cz => ?_) (fun cz => ?_)
    · refine ⟨_, rfl, t, c, 3, rfl, t2, by decide, by decide, fun r3 H3 b0 b1 k3 t3 => ⟨_, _, rfl, rfl, by show 3 ≤ sizeLine; decide, fun p np => ?_⟩⟩
      have hG3 := tabk hG2 t2 k3
      have d3 := d2.tk (k3.tk2 t2)
      obtain ⟨G0, e, m0, d4⟩ := tup_new np (.cons (.str (Str.ofString "zzz")) (.cons (.int 0) (.cons (.int ((4 : Int) + r3)) .nil)))
      rw [e]
      clear e
      refine ⟨by show 1 ≤ sizeLine; decide, fun p2 np2 => ?_⟩
      obtain ⟨G1, e, m1, d5⟩ := tup_new np2 (.cons d4 .nil)
      rw [e]
      clear e
      refine catD (d3.tk (same_tk (m0.trans m1))) d5 (by simp; omega) fun r G2 m2 d6 => ?_
      have em : List.map scD gd ++ [PyData.tuple [.str (Str.ofString "zzz"), .int 0, .int ((4 : Int) + r3)]] = (gd ++ [((Str.ofString "zzz", 0, (4 : Int) + r3) : Sc)]).map scD := by rw [List.map_append]; rfl
      rw [em] at d6
      have ks := (m0.trans m1).trans m2
      refine rest _ _ ⟨r, _, rfl, d6, ?_, fun x hx => ?_, fun x hx => ?_, by simp; omega, t3.same ks, tabg_same hG3 ks⟩
      · refine List.pairwise_append.mpr ⟨cn1, List.pairwise_singleton _ _, fun a ha b hb => ?_⟩
        rw [List.mem_singleton.mp hb]
        exact lt_zzz (g1 a ha) _ _
      · rcases List.mem_append.mp hx with h | h
        · exact (g1 x h).set
        · rw [List.mem_singleton.mp h]
          exact ⟨⟨_, _, w_zzz, rfl⟩, Int.le_refl 0, by show (0 : Int) ≤ 4 + r3; omega⟩
      · rcases List.mem_append.mp hx with h | h
        · exact og x h
        · rw [List.mem_singleton.mp h]
          exact w_zzz.ok
    · refine ⟨Nat.zero_le _, fun p0 np0 => ?_⟩
      obtain ⟨G0, e, m0, d0⟩ := tup_new np0 (ds := []) .nil
      rw [e]
      clear e
      refine catD (d2.tk (same_tk m0)) d0 (by simp; omega) fun r G1 m1 d3 => ?_
      rw [List.append_nil] at d3
      have ks := m0.trans m1
      exact rest _ _ ⟨r, gd, rfl, d3, cn1, fun x hx => (g1 x hx).set, og, by omega, t2.same ks, tabg_same hG2 ks⟩
end
end W5
set_option Elab.async false
set_option linter.all false
set_option maxRecDepth 100000
set_option maxHeartbeats 4000000
namespace W5
open PySem PySem.Spec PyProof.Rows L2 Com
mutual
theorem dep_dat : ∀ s : Sy, dep s = depM (dat s)
  | .id _ _ _ => rfl
  | .at _ _ _ => rfl
  | .ls l _ => by simp only [dep, dat, depM, deps_dats l]
theorem deps_dats : ∀ l : List Sy, deps l = depMs (dats l)
  | [] => rfl
  | x :: r => by simp only [deps, dats, depMs, dep_dat x, deps_dats r]
end
mutual
theorem flat_cnt : ∀ s : Sy, (flat s).length = cnt (dat s)
  | .id _ _ _ => rfl
  | .at _ _ _ => rfl
  | .ls l _ => by simp only [flat, dat, cnt, List.length_cons, flats_cnts l]
theorem flats_cnts : ∀ l : List Sy, (flats l).length = cnts (dats l)
  | [] => rfl
  | x :: r => by simp only [flats, dats, cnts, List.length_append, flat_cnt x, flats_cnts r]
end
mutual
def WS : Sy → Prop
  | .id _ _ st => st.length ≤ 1000
  | .at _ v _ => v.depth = 0 ∧ smD v = true
  | .ls l _ => l.length ≤ 100 ∧ WSs l
def WSs : List Sy → Prop
  | [] => True
  | x :: r => WS x ∧ WSs r
end
theorem sm_scs : ∀ s : List Sc, smAll (s.map scD) = true
  | [] => rfl
  | x :: r => by simp [smAll, sm_scs r, scD, smD]
mutual
theorem ws_dep : ∀ s : Sy, WS s → (syD s).depth ≤ 2 * dep s + 3
  | .id s p st, h => by
    have := dep_set st
    simp only [syD, PyData.depth, PyData.depthAll, occ]
    omega
  | .at k v p, h => by
    have := h.1
    simp only [syD, PyData.depth, PyData.depthAll, occ]
    omega
  | .ls l p, h => by
    have := wss_dep l h.2
    simp only [syD, PyData.depth, PyData.depthAll, occ, dep]
    omega
theorem wss_dep : ∀ l : List Sy, WSs l → PyData.depthAll (syDs l) ≤ 2 * deps l + 3
  | [], _ => by simp [syDs, PyData.depthAll]
  | x :: r, h => by
    have h1 := ws_dep x h.1
    have h2 := wss_dep r h.2
    simp only [syDs, PyData.depthAll, deps]
    omega
end
theorem syDs_len (l : List Sy) : (syDs l).length = l.length := by rw [syDs_eq, List.length_map]
theorem dmDs_len (l : List Dm) : (dmDs l).length = l.length := by rw [dmDs_eq, List.length_map]
mutual
theorem ws_sm : ∀ s : Sy, WS s → smD (syD s) = true
  | .id s p st, h => by
    have h1 : st.length ≤ 1000 := h
    have : decide ((st.map scD).length ≤ 1000000) = true := decide_eq_true (by rw [List.length_map]; omega)
    simp [syD, smD, smAll, occ, setD, sm_scs st]
    omega
  | .at k v p, h => by simp [syD, smD, smAll, occ, h.2]
  | .ls l p, h => by
    have h1 : l.length ≤ 100 := h.1
    simp [syD, smD, smAll, occ, wss_sm l h.2, syDs_len]
    omega
theorem wss_sm : ∀ l : List Sy, WSs l → smAll (syDs l) = true
  | [], _ => rfl
  | x :: r, h => by simp [syDs, smAll, ws_sm x h.1, wss_sm r h.2]
end
mutual
theorem ok_ws {g : List Sc → List Sc} (hg : ∀ st, OkT st → (g st).length ≤ 1000) : ∀ s : Sy, OkS s → WS (mapS g s)
  | .id s p st, h => hg st h
  | .at k v p, h => h
  | .ls l p, h => ⟨by rw [mapSs_eq, List.length_map]; exact h.1, oks_wss hg l h.2⟩
theorem oks_wss {g : List Sc → List Sc} (hg : ∀ st, OkT st → (g st).length ≤ 1000) : ∀ l : List Sy, OkSs l → WSs (mapSs g l)
  | [], _ => trivial
  | x :: r, h => ⟨ok_ws hg x h.1, oks_wss hg r h.2⟩
end
mutual
theorem dep_map (g : List Sc → List Sc) : ∀ s : Sy, dep (mapS g s) = dep s
  | .id _ _ _ => rfl
  | .at _ _ _ => rfl
  | .ls l _ => by simp only [mapS, dep, deps_map g l]
theorem deps_map (g : List Sc → List Sc) : ∀ l : List Sy, deps (mapSs g l) = deps l
  | [] => rfl
  | x :: r => by simp only [mapSs, deps, dep_map g x, deps_map g r]
end
mutual
theorem map_id : ∀ s : Sy, mapS (fun st => st) s = s
  | .id _ _ _ => rfl
  | .at _ _ _ => rfl
  | .ls l _ => by simp only [mapS, map_ids l]
theorem map_ids : ∀ l : List Sy, mapSs (fun st => st) l = l
  | [] => rfl
  | x :: r => by simp only [mapSs, map_id x, map_ids r]
end
theorem ok_ws1 {s : Sy} (h : OkS s) : WS s := by
  have := ok_ws (g := fun st => st) (fun st h => by have := h.len; omega) s h
  rw [map_id] at this
  exact this
theorem syns_len (st : List Sc) (l : List Dm) : (syns st l).length = l.length := by rw [syns_eq, List.length_map]
mutual
theorem ok_syn {st : List Sc} (hs : OkT st) : ∀ d : Dm, OkM d → OkS (syn st d)
  | .nm _ _, _ => hs
  | .at _ _ _, h => h.2.2
  | .ls l _, h => ⟨by rw [syns_len]; exact h.1, ok_syns hs l h.2⟩
theorem ok_syns {st : List Sc} (hs : OkT st) : ∀ l : List Dm, OkMs l → OkSs (syns st l)
  | [], _ => trivial
  | x :: r, h => ⟨ok_syn hs x h.1, ok_syns hs r h.2⟩
end
mutual
theorem dm_dep : ∀ d : Dm, OkM d → (dmD d).depth ≤ 2 * depM d + 3
  | .nm s p, h => by simp [dmD, PyData.depth, PyData.depthAll]
  | .at k v p, h => by
    have := h.2.2.1
    simp only [dmD, PyData.depth, PyData.depthAll]
    omega
  | .ls l p, h => by
    have := dms_dep l h.2
    simp only [dmD, PyData.depth, PyData.depthAll, depM]
    omega
theorem dms_dep : ∀ l : List Dm, OkMs l → PyData.depthAll (dmDs l) ≤ 2 * depMs l + 3
  | [], _ => by simp [dmDs, PyData.depthAll]
  | x :: r, h => by
    have h1 := dm_dep x h.1
    have h2 := dms_dep r h.2
    simp only [dmDs, PyData.depthAll, depMs]
    omega
end
mutual
theorem dm_sm : ∀ d : Dm, OkM d → smD (dmD d) = true
  | .nm s p, h => by simp [dmD, smD, smAll]
  | .at k v p, h => by simp [dmD, smD, smAll, h.2.2.2]
  | .ls l p, h => by
    have h1 : l.length ≤ 100 := h.1
    simp [dmD, smD, smAll, dms_sm l h.2, dmDs_len]
    omega
theorem dms_sm : ∀ l : List Dm, OkMs l → smAll (dmDs l) = true
  | [], _ => rfl
  | x :: r, h => by simp [dmDs, smAll, dm_sm x h.1, dms_sm r h.2]
end
mutual
theorem flat_ok : ∀ s : Sy, OkS s → ∀ z ∈ flat s, OkS z
  | .id s p st, h, z, hz => by
    rw [flat] at hz
    rw [List.mem_singleton.mp hz]
    exact h
  | .at k v p, h, z, hz => by
    rw [flat] at hz
    rw [List.mem_singleton.mp hz]
    exact h
  | .ls l p, h, z, hz => by
    rw [flat] at hz
    rcases List.mem_cons.mp hz with e | hz
    · rw [e]; exact h
    · exact flats_ok l h.2 z hz
theorem flats_ok : ∀ l : List Sy, OkSs l → ∀ z ∈ flats l, OkS z
  | [], _, z, hz => by rw [flats] at hz; cases hz
  | x :: r, h, z, hz => by
    rw [flats] at hz
    rcases List.mem_append.mp hz with e | hz
    · exact flat_ok x h.1 z e
    · exact flats_ok r h.2 z hz
end
theorem ids_data : ∀ l : List Sy, (∀ z ∈ l, OkS z ∧ isId z = true) → PyData.depthAll (l.map syD) ≤ 3 ∧ smAll (l.map syD) = true
  | [], _ => ⟨by simp [PyData.depthAll], rfl⟩
  | x :: r, h => by
    obtain ⟨h1, h2⟩ := h x List.mem_cons_self
    obtain ⟨r1, r2⟩ := ids_data r fun z hz => h z (List.mem_cons_of_mem _ hz)
    have w := ok_ws1 h1
    have d := ws_dep x w
    have e : dep x = 0 := by
      cases x with
      | id _ _ _ => rfl
      | «at» _ _ _ => cases h2
      | ls _ _ => cases h2
    simp only [List.map_cons, PyData.depthAll, smAll, ws_sm x w, r2]
    exact ⟨by omega, rfl⟩
theorem len_with (c : Sc) (s : List Sc) : (withS c s).length ≤ s.length + 1 := by
  unfold withS
  split
  · omega
  · rw [len_srt, List.length_append]
    simp
theorem len_without (c : Sc) (s : List Sc) : (withoutS c s).length ≤ s.length := List.length_filter_le _ _
theorem len_flip (c : Sc) (s : List Sc) : (flipS c s).length ≤ s.length + 1 := by
  unfold flipS
  split
  · have := len_without c s; omega
  · exact len_with c s
end W5
set_option Elab.async false
set_option linter.all false
set_option maxRecDepth 100000
set_option maxHeartbeats 8000000
namespace W5
open PySem PySem.Spec PyProof.Rows L2 Com EnumT GxR LamY
def qL : Str := (Str.ofString "law" ++ Str.ofString ".<locals>.") ++ Str.ofString "<lambda>"
abbrev tabT (PL PN : Addr) : List (Addr × Str) := [(PL, qL), (PN, qL)]
theorem tabT_one {PL PN : Addr} (n : PN ≠ PL) : ∀ p ∈ tabT PL PN, p.1 = PL → p.2 = qL := fun p hp e => by
  rcases List.mem_cons.mp hp with h | h
  · rw [h]
  · rw [List.mem_singleton.mp h]
def spM {α : Type} (side : α → List (Option V) → Hp → Prop) (g : α → List Sc → List Sc) (n : Nat) : Addr → List (Option V) → V → Hp → VK → Prop := fun _ ws v H Q => ∃ z d, side z ws H ∧ Dt H v (syD d) ∧ dep d < n ∧ OkS d ∧ ∀ r H', Same H H' → Dt H' r (syD (mapS (fun s => srt (g z s)) d)) → Q r H'
def sd1 : List Sc → List (Option V) → Hp → Prop := fun z ws H => ∃ gv, ws = [some gv] ∧ Dt H gv (setD z)
def sd2 : Sc → List (Option V) → Hp → Prop := fun z ws H => ∃ sv, ws = [some sv] ∧ Dt H sv (scD z) ∧ GoodSc z
abbrev sd3 := sd2
abbrev sd4 := sd2
def gg1 : List Sc → List Sc → List Sc := fun z _ => z
abbrev gg2 : Sc → List Sc → List Sc := lawWith
abbrev gg3 : Sc → List Sc → List Sc := withoutS
abbrev gg4 : Sc → List Sc → List Sc := lawTurned
section
variable {P : Program} {w : World} {K : PySem.W.Frag} {mg : Str → Option Value} {base : Heap} {α : Type}
theorem tabs_same {T : List (Addr × Str)} {H H' : Hp} (h : LamX.Tabs T H) (k : Same H H') : LamX.Tabs T H' := fun p hp => (h p hp).ext k
theorem tabs_keep {T : List (Addr × Str)} {H H' : Hp} {t c : Addr} (h : LamX.Tabs T H) (ht : TapeAt H t c) (k : Keep t H H') : LamX.Tabs T H' := fun p hp => by
  obtain ⟨ps, h1, h2, h3⟩ := h p hp
  obtain ⟨cells, a', l, s, u, _, h4, _⟩ := ht
  refine ⟨ps, k _ _ h1 (ne_of h1 h4 (by intro z; cases z)), h2, fun pos cv hc => ?_⟩
  obtain ⟨c0, e1, e2⟩ := h3 pos cv hc
  exact ⟨c0, e1, k _ _ e2 (ne_of e2 h4 (by intro z; unfold LamX.CodeO at z; cases z))⟩
theorem tabs_tab {PL PN : Addr} {H : Hp} (h : LamX.Tabs (tabT PL PN) H) : TabG H PN := by
  obtain ⟨ps, h1, h2, _⟩ := h (PN, qL) (List.mem_cons_of_mem _ List.mem_cons_self)
  exact ⟨ps, h1, h2⟩
theorem ext_tk {H H' : Hp} (k : LamX.ExtN H H') : Tk H H' := fun a xs e => k a _ e (fun ps z => by cases z)
theorem ext_tape {H H' : Hp} {t c : Addr} (k : LamX.ExtN H H') (h : TapeAt H t c) : TapeAt H' t c := by
  obtain ⟨cells, a', l, s, u, h0, h1, h2⟩ := h
  exact ⟨cells, a', l, s, u, h0, k _ _ h1 (fun ps z => by cases z), k _ _ h2 (fun ps z => by cases z)⟩
theorem mapped_all {f fL c' : Addr} {fd : FuncData} {qn x5 : Str} {params : Arguments} {body : Expr} {scope : Scope} {cl : List (Str × Addr)} {fr N5 : List Str} {ws : List (Option V)} {tb : TE} {side : α → List (Option V) → Hp → Prop} {g : α → List Sc → List Sc}
    (F : Dfn K mg "_law_mapped" st__law_mapped f fd ["syntax", "change"]) (M : Mg mg) (hL : LamAt base fL c' qn params body scope cl fr ws) (hS : NdefX.NScope N5 [x5] fr scope) (hb5 : ∀ (pm cv ctv u : Value), bindArgs (PySem.W.kla_fn "<lambda>" qn params body scope cl pm cv ctv) ⟨[u], []⟩ = pure [(x5, u)])
    (hbody : ∀ (A : Around) (outer : List Env) (s : Shared) (H : Hp), Room 1 (A.deeper (NdefX.envF (nfOf qn params scope cl c') fL s.heap.objs.size)) → PE (NdefX.ncx CX0 P w K mg base N5 (nfOf qn params scope cl c') fL A outer s H E0) body tb)
    (hsame : ∀ z H H', Same H H' → side z ws H → side z ws H')
    (hsem : ∀ z H l xs held Q, side z ws H → H l = some (.lst xs) → DtAll H xs (held.map scD) → OkT held → (∀ r H' ys, Same H H' → H' r = some (.lst ys) → DtAll H' ys ((g z held).map scD) → Q (.ref r) H') → tb (NdefX.startF N5 [.ref l] ws) H Q) :
    ∀ n : Nat, FnOk P w K mg base CX0 (n + 2) f fd ["syntax", "change"] (spMap fL c' qn (fun z H => side z ws H) g n)
  | 0 => by
    have no : ∀ vs H Q E, ¬ spMap fL c' qn (fun z H => side z ws H) g 0 vs H Q E := fun vs H Q E h => by
      obtain ⟨_, _, _, _, _, _, _, h, _⟩ := h
      omega
    exact ⟨fun vs H Q E h => absurd h (no vs H Q E), fun A outer s H args us vs Q E _ _ _ _ h => absurd h (no vs H Q E)⟩
  | n + 1 => by
    have ih := mapped_all F M hL hS hb5 hbody hsame hsem n
    exact ok_law_mapped F M hL hS hb5 hbody hsame hsem ⟨f, fd, _, ih, F.mgf, F.fn.kp, F.b⟩
theorem mapped_sp {f fL c' : Addr} {fd : FuncData} {qn : Str} {ws : List (Option V)} {side : α → List (Option V) → Hp → Prop} {g : α → List Sc → List Sc} {n k : Nat} (h : FnOk P w K mg base CX0 k f fd ["syntax", "change"] (spMap fL c' qn (fun z H => side z ws H) g n)) :
    FnOk P w K mg base CX0 k f fd ["syntax", "change"] (fun vs H Q _ => ∃ v, vs = [v, .ref fL] ∧ H c' = some (LamX.CodeO c' qn) ∧ spM side g n c' ws v H Q) :=
  h.imp fun vs H Q E ⟨v, e, hc, z, d, h1, h2, h3, h4, h5⟩ => ⟨z, v, d, e, hc, h1, h2, h3, h4, h5⟩
def scL3 : Scope := { kind := .function, names := [("held", .local), ("scope", .free)], isGenerator := false, isCoroutine := false, more := [("fast", .str "held"), ("fast", .str "one"), ("fast", .str "scope")] }
theorem nd3 : (["held", "scope", "one"] : List Str).Nodup := by decide +kernel
theorem sem1 {H : Hp} {l : Addr} {Q : VK} {ws : List (Option V)} {z held : List Sc} (hs : sd1 z ws H) (q : ∀ r H' ys, Same H H' → H' r = some (.lst ys) → DtAll H' ys ((gg1 z held).map scD) → Q (.ref r) H') : tCB (rListOf K) (tCons (tVar 1) tNil) (NdefX.startF ["held", "given"] [.ref l] ws) H Q := by
  obtain ⟨gv, rfl, dg⟩ := hs
  obtain ⟨a, xs', rfl, ha, hx'⟩ := Dt.tupE dg
  exact ⟨_, rfl, a, xs', rfl, .inr (SqT.of ha), fun l2 nl => q _ _ _ (same_upd nl) upd_same (hx'.tk (same_tk (same_upd nl)))⟩
theorem OkT.len500 {s : List Sc} (h : OkT s) : s.length ≤ 500 := by have := h.len; omega
theorem sem2 {H : Hp} {l : Addr} {xs : List V} {Q : VK} {ws : List (Option V)} {z : Sc} {held : List Sc} (hs : sd2 z ws H) (hl : H l = some (.lst xs)) (hx : DtAll H xs (held.map scD)) (ok : OkT held) (q : ∀ r H' ys, Same H H' → H' r = some (.lst ys) → DtAll H' ys ((gg2 z held).map scD) → Q (.ref r) H') :
    tOp rCat (tVar 0) (tIf (tTest (tOp (rInD K) (tVar 1) (tVar 0))) (tLst tNil) (tLst (tCons (tVar 1) tNil))) (NdefX.startF ["held", "scope"] [.ref l] ws) H Q := by
  obtain ⟨sv, rfl, dc, gc⟩ := hs
  have hxl := hx.len
  rw [List.length_map] at hxl
  have h5 := ok.len500
  refine ⟨_, rfl, _, rfl, _, rfl, _, _, dc.dp, .lst (SqL.of hl) hx.dp, sh_sc gc.ok, sh_lst ok.ok, _, rfl, ?_⟩
  rw [any_sc]
  by_cases hm : z ∈ held
  · rw [decide_eq_true hm]
    refine iteT ⟨Nat.zero_le _, fun p np => ?_⟩
    have k := same_upd (o := .lst []) np
    refine ⟨l, p, xs, [], rfl, rfl, k _ _ hl, upd_same, Nat.le_of_lt (small1000 (by simp; omega)), fun p2 np2 => ?_⟩
    have k2 := same_upd (o := .lst (xs ++ [])) np2
    refine q p2 _ _ (k.trans k2) upd_same ?_
    show DtAll _ _ ((lawWith z held).map scD)
    rw [lawWith, if_pos hm, List.append_nil, List.append_nil]
    rw [List.append_nil] at k2
    exact hx.tk (same_tk (k.trans k2))
  · rw [decide_eq_false hm]
    refine iteF ⟨_, rfl, by show 1 ≤ sizeLine; decide, fun p np => ?_⟩
    have k := same_upd (o := .lst [sv]) np
    refine ⟨l, p, xs, [sv], rfl, rfl, k _ _ hl, upd_same, Nat.le_of_lt (small1000 (by simp; omega)), fun p2 np2 => ?_⟩
    have k2 := same_upd (o := .lst (xs ++ [sv])) np2
    refine q p2 _ _ (k.trans k2) upd_same ?_
    show DtAll _ _ ((lawWith z held).map scD)
    rw [lawWith, if_neg hm, List.map_append]
    exact (hx.app (.one dc)).tk (same_tk (k.trans k2))
def scC3 : Scope := { kind := .function, names := [(".0", .local), ("one", .local), ("scope", .free)], isGenerator := false, isCoroutine := false }
theorem lam3 {qn : Str} {params : Arguments} {cl : List (Str × Addr)} {fL c' : Addr} {p1 p2 p3 p4 p5 p6 p7 : Pos} (A : Around) (outer : List Env) (s : Shared) (H : Hp) (hr : Room 1 (A.deeper (NdefX.envF (nfOf qn params scL3 cl c') fL s.heap.objs.size))) :
    PE (NdefX.ncx CX0 P w K mg base ["held", "scope", "one"] (nfOf qn params scL3 cl c') fL A outer s H E0) (.ListComp (.Name "one" p1) [⟨.Name "one" p2, .Name "held" p3, [.Compare (.Name "one" p4) [.NotEq] [.Name "scope" p5] p6], 0⟩] scC3 p7)
      (tLc (iList K (tVar 0)) (gName 2) (tTest (tOp (rNeD K) (tVar 2) (tVar 1))) (tVar 2) [2]) :=
  pe_lc (own := [("one", 2)]) (g := gName 2) (by rfl) nd3 (pi_list (pv 0)) (blkOk_by (own := [("one", 2)]) (N := ["held", "scope", "one"]) (sc := scL3) (by decide +kernel)) (fun _ _ _ _ _ => (pg_name (i := 2) nd3 rfl (.inl rfl))) (fun _ _ _ _ _ => (pts_one (pt_cmpR (opNeD K rfl hr.units) (pv 2) (pv 1) (nomark _)))) (fun _ _ _ _ _ => (pv 2))
def spLaw (K : PySem.W.Frag) (PL PN : Addr) : Sp := fun vs H Q _ => ∃ (a : Addr) (ns : List Int), vs = [.ref a] ∧ SqL K H a (ns.map V.int) ∧ ns.length ≤ 63 ∧ H PL = some (.tbl #[]) ∧ H PN = some (.tbl #[]) ∧ ∀ H', Q (.bl true) H'
theorem ok_law {f fm cL PL cN PN : Addr} {fd fdm : FuncData} (F : DfnC K mg "law" st_law f fd ["script"] cL) (M : Mg mg) (TBL : LamX.TabB base mg cL PL) (nPP : PN ≠ PL) (Fm : Dfn K mg "_law_mapped" st__law_mapped fm fdm ["syntax", "change"])
    (G_turned : ∀ base' : Heap, K.In base' → base'.Ns mainGlobals mg → Cal P w K mg base' 1 "_law_turned" spTurned)
    (G_law_tape : Cal P w K mg base 1 "_law_tape" (spTape K)) (G_law_take : Cal P w K mg base 1 "_law_take" spTake) (G_law_datum : Cal P w K mg base 12 "_law_datum" (spDatum 7)) (G_law_scopes : Cal P w K mg base 3 "_law_scopes" spScopes) (G_law_syntax : Cal P w K mg base 12 "_law_syntax" (spSynL 7)) (G_law_scope : Cal P w K mg base 2 "_law_scope" spScope)
    (Gsyntax_of : Cal P w K mg base 12 "syntax_of" (spSyn 7)) (Gdatum_of : Cal P w K mg base 12 "datum_of" (spDat 7)) (Gadded : Cal P w K mg base 14 "added" (spAdd withS 7)) (Gremoved : Cal P w K mg base 14 "removed" (spAdd withoutS 7)) (Gflipped : Cal P w K mg base 14 "flipped" (spAdd flipS 7))
    (G_law_flat : Cal P w K mg base 12 "_law_flat" (spFlat 7)) (Gidentifiers : Cal P w K mg base 1 "identifiers" spIds) (Gsize : Cal P w K mg base 1 "size" spSize) (Gdepth : Cal P w K mg base 12 "depth" (spDep 7)) (G_law_depth : Cal P w K mg base 12 "_law_depth" (spDepL 7)) (G_law_sets : Cal P w K mg base 5 "_law_sets" (spSets PN))
    (G_law_same : Cal P w K mg base 44 "_law_same" (spSame K 21)) : FnOk P w K mg base CX0 45 f fd ["script"] (spLaw K PL PN) := by
  have body : ∀ (A : Around) (outer : List Env) (s : Shared) (H : Hp) (vs : List V) (Q : VK) (E : XK), Room 44 (A.deeper (envOfC "law" (defScope st_law) s.heap.objs.size f (.ref cL))) → spLaw K PL PN vs H Q E →
      ∃ t, PSs (cxOf CX0 P w K mg base ["script", "tape", "datum", "given", "plain", "syntax", "scope", "flat", "one"] "law" (defScope st_law) f (.ref cL) A outer s H E).nox (defBody st_law) t ∧ t { nx := fun _ H' => Q .non H', rt := Q } (start ["script", "tape", "datum", "given", "plain", "syntax", "scope", "flat", "one"] vs) H := by
    intro A outer s H vs Q E hr h
    refine ⟨_, (pss_cons (ps_set (i := 1) sclaw.nd rfl (.inl rfl) (pe_c G_law_tape hr (by omega) (by rfl) (pa_cons (pv 0) pa_nil)))
      (pss_cons (ps_set (i := 2) sclaw.nd rfl (.inl rfl) (pe_c G_law_datum hr (by omega) (by rfl) (pa_cons (pv 1) (pa_cons (pe_disp (pps_cons pe_str pe_int pps_nil) (by rfl) (by rfl) (fun z => by cases z) (by decide)) (pa_cons pe_int pa_nil)))))
      (pss_cons (ps_set (i := 3) sclaw.nd rfl (.inr rfl) (pe_c G_law_scopes hr (by omega) (by rfl) (pa_cons (pv 1) pa_nil)))
      (pss_cons (ps_set (i := 4) sclaw.nd rfl (.inl rfl) (LamY.pe_lamarg (js := [3]) (fr := ["given"]) (T := tabT PL PN) (sp := spM sd1 gg1 9) (k := 12) (by rfl) Fm.mgf Fm.fn.kp Fm.b (hr.mono (by omega)) ?hM1 TBL rfl List.mem_cons_self (tabT_one nPP) rfl ?hfree1 ?hfr1 rfl (fun _ => rfl) rfl (pe_c G_law_syntax hr (by omega) (by rfl) (pa_cons (pv 1) (pa_cons pe_str (pa_cons (pv 2) pa_nil))))))
      (pss_cons (ps_if (PW.pt (pw_or (pt_not (pt_val (pe_c G_law_same hr (by omega) (by rfl) (pa_cons (pe_c Gsyntax_of hr (by omega) (by rfl) (pa_cons pe_str (pa_cons (pv 2) (pa_cons (pv 3) pa_nil)))) (pa_cons (pv 4) pa_nil))))) (pw_or1 (pt_not (pt_val (pe_c G_law_same hr (by omega) (by rfl) (pa_cons (pe_c Gdatum_of hr (by omega) (by rfl) (pa_cons (pv 4) pa_nil)) (pa_cons (pv 2) pa_nil)))))))) (pss_one (ps_ret pe_bl)) pss_nil)
      (pss_cons (ps_set (i := 5) sclaw.nd rfl (.inl rfl) (pe_c G_law_syntax hr (by omega) (by rfl) (pa_cons (pv 1) (pa_cons pe_str (pa_cons (pv 2) pa_nil)))))
      (pss_cons (ps_set (i := 6) sclaw.nd rfl (.inr rfl) (pe_c G_law_scope hr (by omega) (by rfl) (pa_cons (pv 1) pa_nil)))
      (pss_cons (ps_if (pt_not (pt_val (pe_c G_law_same hr (by omega) (by rfl) (pa_cons (pe_c Gadded hr (by omega) (by rfl) (pa_cons (pv 5) (pa_cons (pv 6) pa_nil))) (pa_cons (LamY.pe_lamarg (js := [6]) (fr := ["scope"]) (T := tabT PL PN) (sp := spM sd2 gg2 9) (k := 12) (by rfl) Fm.mgf Fm.fn.kp Fm.b (hr.mono (by omega)) ?hM2 TBL rfl List.mem_cons_self (tabT_one nPP) rfl ?hfree2 ?hfr2 rfl (fun _ => rfl) rfl (pv 5)) pa_nil))))) (pss_one (ps_ret pe_bl)) pss_nil)
      (pss_cons (ps_if (pt_not (pt_val (pe_c G_law_same hr (by omega) (by rfl) (pa_cons (pe_c Gremoved hr (by omega) (by rfl) (pa_cons (pv 5) (pa_cons (pv 6) pa_nil))) (pa_cons (LamY.pe_lamarg (js := [6]) (fr := ["scope"]) (T := tabT PL PN) (sp := spM sd3 gg3 9) (k := 12) (by rfl) Fm.mgf Fm.fn.kp Fm.b (hr.mono (by omega)) ?hM3 TBL rfl List.mem_cons_self (tabT_one nPP) rfl ?hfree3 ?hfr3 rfl (fun _ => rfl) rfl (pv 5)) pa_nil))))) (pss_one (ps_ret pe_bl)) pss_nil)
      (pss_cons (ps_if (pt_not (pt_val (pe_c G_law_same hr (by omega) (by rfl) (pa_cons (pe_c Gflipped hr (by omega) (by rfl) (pa_cons (pv 5) (pa_cons (pv 6) pa_nil))) (pa_cons (LamY.pe_lamarg (js := [6]) (fr := ["scope"]) (T := tabT PL PN) (sp := spM sd4 gg4 9) (k := 12) (by rfl) Fm.mgf Fm.fn.kp Fm.b (hr.mono (by omega)) ?hM4 TBL rfl List.mem_cons_self (tabT_one nPP) rfl ?hfree4 ?hfr4 rfl (fun _ => rfl) rfl (pv 5)) pa_nil))))) (pss_one (ps_ret pe_bl)) pss_nil)
      (pss_cons (ps_set (i := 7) sclaw.nd rfl (.inl rfl) (pe_c G_law_flat hr (by omega) (by rfl) (pa_cons (pv 5) pa_nil)))
      (pss_cons (ps_if (pt_not (pt_val (pe_c G_law_same hr (by omega) (by rfl) (pa_cons (pe_c Gidentifiers hr (by omega) (by rfl) (pa_cons (pv 5) pa_nil)) (pa_cons (pe_lc (own := [("one", 8)]) (g := gName 8) (by rfl) sclaw.nd (pi_list (pv 7)) (blkOk_by (own := [("one", 8)]) (N := ["script", "tape", "datum", "given", "plain", "syntax", "scope", "flat", "one"]) (sc := defScope st_law) (by decide +kernel)) (fun _ _ _ _ _ => (pg_name (i := 8) sclaw.nd rfl (.inl rfl))) (fun _ _ _ _ _ => (pts_one (pt_cmpR op_eq (pe_ix (ixT K rfl) (pv 8) pe_int (fun _ _ => rfl)) pe_str (nomark _)))) (fun _ _ _ _ _ => (pv 8))) pa_nil))))) (pss_one (ps_ret pe_bl)) pss_nil)
      (pss_one (ps_ret (pe_and (pe_c G_law_same hr (by omega) (by rfl) (pa_cons (pe_lst (pa_cons (pe_c Gsize hr (by omega) (by rfl) (pa_cons (pv 5) pa_nil)) (pa_cons (pe_c Gdepth hr (by omega) (by rfl) (pa_cons (pv 5) pa_nil)) pa_nil))) (pa_cons (pe_lst (pa_cons (pe_callB (cLen K rfl) (by rfl) M.len b_len (pa_cons (pv 7) pa_nil)) (pa_cons (pe_c G_law_depth hr (by omega) (by rfl) (pa_cons (pv 5) pa_nil)) pa_nil))) pa_nil))) (pe_one (pe_c G_law_sets hr (by omega) (by rfl) (pa_cons (pv 1) pa_nil)))))))))))))))))), ?_⟩
    case hM1 =>
      intro base' f1 c' cl ws hK hN hx hL
      exact mapped_sp ((mapped_all (N5 := ["held", "given"]) (x5 := "held") Fm M hL (NdefX.nscope_by (by decide +kernel)) (fun _ _ _ _ => rfl) (fun A outer s H hr => pe_callTy (cList K rfl) (by rfl) M.list b_list (pa_cons (pv 1) pa_nil)) (fun z H H' k ⟨gv, e, h⟩ => ⟨gv, e, h.tk (same_tk k)⟩) (fun z H l xs held Q hs hl hx ok q => sem1 hs q) 9).mono (by decide))
    case hM2 =>
      intro base' f1 c' cl ws hK hN hx hL
      exact mapped_sp ((mapped_all (N5 := ["held", "scope"]) (x5 := "held") Fm M hL (NdefX.nscope_by (by decide +kernel)) (fun _ _ _ _ => rfl) (fun A outer s H hr => pe_op op_cat (pv 0) (pe_ifExp (pt_cmpR (opInD K rfl (units65 hr)) (pv 1) (pv 0) (by rfl)) (pe_lst pa_nil) (pe_lst (pa_cons (pv 1) pa_nil)))) (fun z H H' k ⟨gv, e, h, g⟩ => ⟨gv, e, h.tk (same_tk k), g⟩) (fun z H l xs held Q hs hl hx ok q => sem2 hs hl hx ok q) 9).mono (by decide))
    case hM3 =>
      intro base' f1 c' cl ws hK hN hx hL
      refine mapped_sp ((mapped_all (N5 := ["held", "scope", "one"]) (x5 := "held") Fm M hL (NdefX.nscope_by (by decide +kernel)) (fun _ _ _ _ => rfl) (fun A outer s H hr => lam3 A outer s H hr) (fun z H H' k ⟨gv, e, h, g⟩ => ⟨gv, e, h.tk (same_tk k), g⟩) (fun z H l xs held Q hs hl hx ok q => ?_) 9).mono (by decide))
      obtain ⟨sv, rfl, dc, gc⟩ := hs
      have hxl := hx.len
      rw [List.length_map] at hxl
      have h5 := ok.len500
      refine ⟨_, rfl, l, rfl, ⟨_, SqL.of hl⟩, fun D nD => ?_⟩
      have sD : ∀ o, Same H (upd H D o) := fun o => same_upd nD
      refine lc_list (K := K) (a := l) (xs := xs) (fun i H' => ∃ (ys : List V), H' = upd H D (.lst ys) ∧ DtAll H ys (((held.take i).filter fun x => !decide (x = z)).map scD) ∧ ys.length ≤ i) ⟨[], rfl, .nil, Nat.le_refl _⟩ (fun i H' _ ⟨ys, e, _⟩ => by rw [e]; exact SqL.of (sD _ _ _ hl)) ?_ ?_
      · rintro i x H' hi ⟨ys, rfl, hy, hlen⟩
        obtain ⟨zz, hzi, hd⟩ := hx.get_map hi
        have k1 := same_tk (sD (.lst ys))
        have et : held.take (i + 1) = held.take i ++ [zz] := by rw [List.take_add_one, hzi]; rfl
        have okz := ok.ok zz (List.mem_of_getElem? hzi)
        refine ⟨rfl, _, rfl, _, rfl, _, _, (hd.tk k1).dp, (dc.tk k1).dp, sh_sc okz, sh_sc gc.ok, _, rfl, ?_⟩
        rw [eqv_sc]
        by_cases hm : zz = z
        · rw [decide_eq_true hm]
          refine iteF ⟨ys, rfl, ?_, Nat.le_succ_of_le hlen⟩
          rw [et, List.filter_append, List.map_append]
          simpa [hm] using hy
        · rw [decide_eq_false hm]
          refine iteT ⟨_, rfl, _, upd_same, ?_, ys ++ [_], upd_upd, ?_, ?_⟩
          · have h3 := (List.getElem?_eq_some_iff.mp hzi).1
            exact small1000 (by omega)
          · rw [et, List.filter_append, List.map_append]
            refine hy.app ?_
            simp only [List.filter_cons, hm, decide_false, Bool.not_false, if_true, List.filter_nil, List.map_cons, List.map_nil]
            exact .one hd
          · rw [List.length_append]
            exact Nat.add_le_add_right hlen 1
      · rintro H' ⟨ys, rfl, hy, hlen⟩
        rw [hxl, List.take_length] at hy
        exact q D _ ys (sD _) upd_same (hy.tk (same_tk (sD _)))
    case hM4 =>
      intro base' f1 c' cl ws hK hN hx hL
      refine mapped_sp ((mapped_all (N5 := ["held", "scope"]) (x5 := "held") Fm M hL (NdefX.nscope_by (by decide +kernel)) (fun _ _ _ _ => rfl) (fun A outer s H hr => pe_c (G_turned base' hK hN) hr (by omega) (by rfl) (pa_cons (pv 0) (pa_cons (pv 1) pa_nil))) (fun z H H' k ⟨gv, e, h, g⟩ => ⟨gv, e, h.tk (same_tk k), g⟩) (fun z H l xs held Q hs hl hx ok q => ?_) 9).mono (by decide))
      obtain ⟨sv, rfl, dc, gc⟩ := hs
      exact ⟨_, rfl, _, rfl, l, xs, sv, held, z, rfl, hl, hx, dc, ok.ok, gc.ok, ok.len500, q⟩
    case hfree1 =>
      show ∀ y : Str × NameKind, y ∈ _ → y.2 = NameKind.free → (defScope st_law).names.lookup y.1 = some NameKind.cell ∨ (defScope st_law).names.lookup y.1 = some NameKind.free
      decide +kernel
    case hfree2 =>
      show ∀ y : Str × NameKind, y ∈ _ → y.2 = NameKind.free → (defScope st_law).names.lookup y.1 = some NameKind.cell ∨ (defScope st_law).names.lookup y.1 = some NameKind.free
      decide +kernel
    case hfree3 =>
      show ∀ y : Str × NameKind, y ∈ _ → y.2 = NameKind.free → (defScope st_law).names.lookup y.1 = some NameKind.cell ∨ (defScope st_law).names.lookup y.1 = some NameKind.free
      decide +kernel
    case hfree4 =>
      show ∀ y : Str × NameKind, y ∈ _ → y.2 = NameKind.free → (defScope st_law).names.lookup y.1 = some NameKind.cell ∨ (defScope st_law).names.lookup y.1 = some NameKind.free
      decide +kernel
    case hfr1 => decide +kernel
    case hfr2 => decide +kernel
    case hfr3 => decide +kernel
    case hfr4 => decide +kernel
    obtain ⟨sc, ns, rfl, hS, h63, hPL, hPN, q⟩ := h
    refine ⟨_, rfl, sc, ns, rfl, hS, by omega, fun p c H1 k1 t1 => ?_⟩
    have T0 : LamX.Tabs (tabT PL PN) H := fun x hx => by
      rcases List.mem_cons.mp hx with h | h
      · rw [h]; exact LamX.TabS.nil hPL
      · rw [List.mem_singleton.mp h]; exact LamX.TabS.nil hPN
    have T1 := tabs_same T0 k1
    refine ⟨_, rfl, fun u nu => ⟨upd_same, [(kN, .int 0)], rfl, by show 1 ≤ 15; decide, ?_⟩⟩
    have eu : upd (upd H1 u (.dK [])) u (.dK (mergeK [] [(kN, .int 0)])) = upd H1 u (.dK [(kN, .int 0)]) := by rw [upd_upd]; rfl
    rw [eu]
    have k2 := same_upd (o := .dK [(kN, .int 0)]) nu
    have c2 : CountAt (upd H1 u (.dK [(kN, .int 0)])) u 0 := upd_same
    have t2 := t1.same k2
    refine ⟨p, c, u, 0, 0, rfl, t2, c2, by decide, by decide, by decide, fun dv H3 d j' kt t3 c3 dd hdp okd hcn => ?_⟩
    have k13 : Keep p H1 H3 := fun b o e n => kt b o (k2 _ _ e) n (ne_of_none e nu)
    have T3 := tabs_keep T1 t1 k13
    have dlt : depM d < 7 := by omega
    have cnt6 : cnt d ≤ 5461 := Nat.le_trans hcn (by decide)
    clear T0 T1 hS k1 k2 c2 kt eu
    -- given
    refine ⟨_, rfl, p, c, rfl, t3, fun gv H4 gs k4 t4 dg cn gd l3 => ?_⟩
    have okt : OkT gs := ⟨cn, gd, l3⟩
    have T4 := tabs_keep T3 t3 k4
    have dd4 := dd.tk (k4.tk2 t3)
    -- plain
    refine ⟨_, rfl, _, rfl, p, c, dv, d, rfl, t4, dd4, dlt, okd, fun sv H5 s5 k5 t5 ds e5 o5 => ?_⟩
    have T5 := tabs_keep T4 t4 k5
    have dd5 := dd4.tk (k5.tk2 t4)
    have dg5 := dg.tk (k5.tk2 t4)
    have lt5 : dep s5 < 7 := by rw [dep_dat, e5]; exact dlt
    refine ⟨T5, fun c' H6 kx T6 hc => ?_⟩
    have tk6 := ext_tk kx
    have t6 := ext_tape kx t5
    refine ⟨gs, s5, ⟨gv, rfl, dg5.tk tk6⟩, ds.tk tk6, by omega, o5, fun pv H7 k7 dp => ?_⟩
    have T7 := tabs_same T6 k7
    have t7 := t6.same k7
    have dd7 := (dd5.tk tk6).tk (same_tk k7)
    have dg7 := (dg5.tk tk6).tk (same_tk k7)
    have ep : mapS (fun s => srt (gg1 gs s)) s5 = syn gs d := by
      have e1 : (fun s : List Sc => srt (gg1 gs s)) = fun _ => gs := by
        funext s
        exact srt_canon cn
      rw [e1, map_const, e5]
    rw [ep] at dp
    clear T3 T4 T5 T6 t3 t4 t5 t6 dd dd4 dd5 dg dg5 kx tk6 hc k4 k5 k13 ds o5 lt5 ep hPL hPN
    have oks := ok_syn okt d okd
    have wsd := ok_ws1 oks
    have dsyn : dep (syn gs d) = depM d := by rw [dep_dat, dat_syn]
    have sd := ws_dep _ wsd
    -- if not same(syntax_of(..), plain) or ..
    refine ⟨_, rfl, _, rfl, dv, gv, d, gs, rfl, dd7, dg7, dlt, okd, fun r H8 k8 d8 => ?_⟩
    refine ⟨_, rfl, _, _, _, rfl, d8.dp, (dp.tk (same_tk k8)).dp, by omega, ws_sm _ wsd, true, rfl, iteF ?_⟩
    refine ⟨_, rfl, pv, _, rfl, dp.tk (same_tk k8), by omega, oks, fun r2 H9 k9 d9 => ?_⟩
    rw [dat_syn] at d9
    have dmd := dm_dep d okd
    refine ⟨_, rfl, _, _, _, rfl, d9.dp, ((dd7.tk (same_tk k8)).tk (same_tk k9)).dp, by omega, dm_sm d okd, true, rfl, iteF ?_⟩
    have k89 := k8.trans k9
    have T9 := tabs_same T7 k89
    have t9 := t7.same k89
    have dd9 := dd7.tk (same_tk k89)
    clear T7 t7 dd7 dg7 dp d8 d9 sd dmd
    -- syntax, scope
    refine ⟨_, rfl, _, rfl, p, c, dv, d, rfl, t9, dd9, dlt, okd, fun sy H10 s0 ka t10 ds e0 o0 => ?_⟩
    have T10 := tabs_keep T9 t9 ka
    refine ⟨_, rfl, p, c, rfl, t10, fun xv H11 x kb t11 dx gx => ?_⟩
    have T11 := tabs_keep T10 t10 kb
    have ds11 := ds.tk (kb.tk2 t10)
    have lt0 : dep s0 < 7 := by rw [dep_dat, e0]; exact dlt
    have fc : (flat s0).length ≤ 5461 := by rw [flat_cnt, e0]; exact cnt6
    have can0 := o0.can
    clear T9 T10 t9 t10 dd9 ds ka kb k89 k8 k9
    have w1 : WS (mapS (withS x) s0) := ok_ws (fun st h => by have := len_with x st; have := h.len; omega) s0 o0
    have w2 : WS (mapS (withoutS x) s0) := ok_ws (fun st h => by have := len_without x st; have := h.len; omega) s0 o0
    have w3 : WS (mapS (flipS x) s0) := ok_ws (fun st h => by have := len_flip x st; have := h.len; omega) s0 o0
    have m1 : mapS (fun s => srt (gg2 x s)) s0 = mapS (withS x) s0 := map_congr (fun s h => with_eq h) s0 can0
    have m2 : mapS (fun s => srt (gg3 x s)) s0 = mapS (withoutS x) s0 := map_congr (fun s h => without_eq h) s0 can0
    have m3 : mapS (fun s => srt (gg4 x s)) s0 = mapS (flipS x) s0 := map_congr (fun s h => flip_eq h) s0 can0
    have q1 := ws_dep _ w1
    have q2 := ws_dep _ w2
    have q3 := ws_dep _ w3
    rw [dep_map] at q1 q2 q3
    -- added
    refine ⟨_, rfl, _, rfl, sy, xv, s0, x, rfl, ds11, dx, gx, lt0, o0, fun r H12 kc dr => ?_⟩
    refine ⟨_, rfl, tabs_same T11 kc, fun c1 H13 kx T13 hc => ?_⟩
    have tk13 : Tk H11 H13 := (same_tk kc).trans (ext_tk kx)
    have t13 := ext_tape kx (t11.same kc)
    refine ⟨x, s0, ⟨xv, rfl, dx.tk tk13, gx⟩, ds11.tk tk13, by omega, o0, fun pv H14 kd dp => ?_⟩
    rw [m1] at dp
    refine ⟨_, _, _, rfl, ((dr.tk (ext_tk kx)).tk (same_tk kd)).dp, dp.dp, by omega, ws_sm _ w1, true, rfl, iteF ?_⟩
    have T14 := tabs_same T13 kd
    have t14 := t13.same kd
    have tk14 := tk13.trans (same_tk kd)
    have ds14 := ds11.tk tk14
    have dx14 := dx.tk tk14
    clear T11 T13 t11 t13 tk13 tk14 ds11 dx dr dp kx hc kc kd
    -- removed
    refine ⟨_, rfl, _, rfl, sy, xv, s0, x, rfl, ds14, dx14, gx, lt0, o0, fun r H12 kc dr => ?_⟩
    refine ⟨_, rfl, tabs_same T14 kc, fun c1 H13 kx T13 hc => ?_⟩
    have tk13 : Tk H14 H13 := (same_tk kc).trans (ext_tk kx)
    have t13 := ext_tape kx (t14.same kc)
    refine ⟨x, s0, ⟨xv, rfl, dx14.tk tk13, gx⟩, ds14.tk tk13, by omega, o0, fun pv H15 kd dp => ?_⟩
    rw [m2] at dp
    refine ⟨_, _, _, rfl, ((dr.tk (ext_tk kx)).tk (same_tk kd)).dp, dp.dp, by omega, ws_sm _ w2, true, rfl, iteF ?_⟩
    have T15 := tabs_same T13 kd
    have t15 := t13.same kd
    have tk15 := tk13.trans (same_tk kd)
    have ds15 := ds14.tk tk15
    have dx15 := dx14.tk tk15
    clear T14 T13 t14 t13 tk13 tk15 ds14 dx14 dr dp kx hc kc kd
    -- flipped
    refine ⟨_, rfl, _, rfl, sy, xv, s0, x, rfl, ds15, dx15, gx, lt0, o0, fun r H12 kc dr => ?_⟩
    refine ⟨_, rfl, tabs_same T15 kc, fun c1 H13 kx T13 hc => ?_⟩
    have tk13 : Tk H15 H13 := (same_tk kc).trans (ext_tk kx)
    have t13 := ext_tape kx (t15.same kc)
    refine ⟨x, s0, ⟨xv, rfl, dx15.tk tk13, gx⟩, ds15.tk tk13, by omega, o0, fun pv H16 kd dp => ?_⟩
    rw [m3] at dp
    refine ⟨_, _, _, rfl, ((dr.tk (ext_tk kx)).tk (same_tk kd)).dp, dp.dp, by omega, ws_sm _ w3, true, rfl, iteF ?_⟩
    have T16 := tabs_same T13 kd
    have t16 := t13.same kd
    have tk16 := tk13.trans (same_tk kd)
    have ds16 := ds15.tk tk16
    clear T15 T13 t15 t13 tk13 tk16 ds15 dx15 dr dp kx hc kc kd m1 m2 m3 q1 q2 q3 w1 w2 w3
    -- flat
    refine ⟨_, rfl, sy, s0, rfl, ds16, lt0, o0, by omega, fun fa H17 fs ke hfa dfs => ?_⟩
    have ds17 := ds16.tk (same_tk ke)
    refine ⟨_, rfl, sy, s0, rfl, ds17, by omega, fun ia H18 is kf hia dis => ?_⟩
    have dfs18 := dfs.tk (same_tk kf)
    have hfa18 := kf _ _ hfa
    have hfl := dfs.len
    rw [List.length_map] at hfl
    refine ⟨_, rfl, fa, rfl, ⟨_, SqL.of hfa18⟩, fun D nD => ?_⟩
    have sD : ∀ o, Same H18 (upd H18 D o) := fun o => same_upd nD
    refine lc_list (K := K) (a := fa) (xs := fs) (fun i H' => ∃ (ys : List V), H' = upd H18 D (.lst ys) ∧ DtAll H18 ys ((((flat s0).take i).filter isId).map syD) ∧ ys.length ≤ i) ⟨[], rfl, .nil, Nat.le_refl _⟩ (fun i H' _ ⟨ys, e, _⟩ => by rw [e]; exact SqL.of (sD _ _ _ hfa18)) ?_ ?_
    · rintro i xx H' hi ⟨ys, rfl, hy, hlen⟩
      obtain ⟨z, hzi, hd⟩ := dfs18.get_map hi
      have k1 := sD (.lst ys)
      have et : (flat s0).take (i + 1) = (flat s0).take i ++ [z] := by rw [List.take_add_one, hzi]; rfl
      have h3 := (List.getElem?_eq_some_iff.mp hzi).1
      have skip : isId z = false → (∃ ys', upd H18 D (.lst ys) = upd H18 D (.lst ys') ∧ DtAll H18 ys' ((((flat s0).take (i + 1)).filter isId).map syD) ∧ ys'.length ≤ i + 1) := fun hz => by
        refine ⟨ys, rfl, ?_, Nat.le_succ_of_le hlen⟩
        rw [et, List.filter_append, List.map_append]
        simpa [hz] using hy
      refine ⟨rfl, ?_⟩
      rcases headS hd with ⟨s', p', st', rfl, a, xs, rfl, ha⟩ | ⟨k', w', p', rfl, a, xs, rfl, ha⟩ | ⟨l, p', rfl, a, b, o, xs, rfl, ha, hb, hx⟩
      · refine ⟨_, rfl, tc (ixt (k1 _ _ ha) (atI_nat (j := 0) rfl) ⟨rfl, _, rfl, ?_⟩)⟩
        rw [keq]
        refine iteT ⟨_, rfl, _, upd_same, by show _ < 2 ^ 24; omega, ys ++ [_], upd_upd, ?_, ?_⟩
        · rw [et, List.filter_append, List.map_append]
          exact hy.app (.one hd)
        · rw [List.length_append]
          exact Nat.add_le_add_right hlen 1
      · refine ⟨_, rfl, tc (ixt (k1 _ _ ha) (atI_nat (j := 0) rfl) ⟨rfl, _, rfl, ?_⟩)⟩
        rw [kne nAI]
        exact iteF (skip rfl)
      · refine ⟨_, rfl, tc (ixt (k1 _ _ ha) (atI_nat (j := 0) rfl) ⟨rfl, _, rfl, ?_⟩)⟩
        rw [kne nLI]
        exact iteF (skip rfl)
    · rintro H' ⟨ys, rfl, hy, hlen⟩
      rw [hfl, List.take_length] at hy
      have k1 := sD (.lst ys)
      obtain ⟨dd1, dd2⟩ := ids_data ((flat s0).filter isId) fun z hz => ⟨flat_ok s0 o0 z (List.mem_filter.mp hz).1, (List.mem_filter.mp hz).2⟩
      have hll : ((flat s0).filter isId).length ≤ (flat s0).length := List.length_filter_le _ _
      refine ⟨_, _, .list (((flat s0).filter isId).map syD), rfl, .lst (SqL.of (k1 _ _ hia)) (dis.tk (same_tk k1)).dp, .lst (SqL.of upd_same) (hy.tk (same_tk k1)).dp, by simp only [PyData.depth]; omega, ?_, true, rfl, iteF ?_⟩
      · simp only [smD, Bool.and_eq_true, decide_eq_true_eq, List.length_map]
        exact ⟨by omega, dd2⟩
      have kk := (ke.trans kf).trans k1
      have T19 := tabs_same T16 kk
      have t19 := t16.same kk
      have ds19 := ds16.tk (same_tk kk)
      have hfa19 := k1 _ _ hfa18
      generalize upd H18 D (.lst ys) = H19 at k1 kk T19 t19 ds19 hfa19 ⊢
      refine ⟨_, rfl, sy, s0, rfl, ds19, by omega, fun H20 kg => ?_⟩
      refine ⟨_, rfl, sy, s0, rfl, ds19.tk (same_tk kg), lt0, ?_⟩
      refine ⟨by show 2 ≤ sizeLine; decide, fun l1 nl1 => ?_⟩
      have kh := same_upd (o := .lst [.int ((flat s0).length : Nat), .int (dep s0 : Nat)]) nl1
      have hl1 : upd H20 l1 (.lst [.int ((flat s0).length : Nat), .int (dep s0 : Nat)]) l1 = some (.lst [.int ((flat s0).length : Nat), .int (dep s0 : Nat)]) := upd_same
      generalize upd H20 l1 (.lst [.int ((flat s0).length : Nat), .int (dep s0 : Nat)]) = H21 at kh hl1 ⊢
      have k21 := kg.trans kh
      refine ⟨_, rfl, fa, fs, rfl, .inl (SqL.of (k21 _ _ hfa19)), ?_⟩
      refine ⟨_, rfl, sy, s0, rfl, ds19.tk (same_tk k21), lt0, o0, fun H22 ki => ?_⟩
      refine ⟨by show 2 ≤ sizeLine; decide, fun l2 nl2 => ?_⟩
      rw [hfl]
      have kj := same_upd (o := .lst [.int ((flat s0).length : Nat), .int (dep s0 : Nat)]) nl2
      have dl : ∀ H : Hp, DtAll H [.int ((flat s0).length : Nat), .int (dep s0 : Nat)] [.int ((flat s0).length : Nat), .int (dep s0 : Nat)] := fun H => .cons (.int _) (.cons (.int _) .nil)
      refine ⟨_, _, .list [.int ((flat s0).length : Nat), .int (dep s0 : Nat)], rfl, .lst (SqL.of (kj _ _ (ki _ _ hl1))) (dl _).dp, .lst (SqL.of upd_same) (dl _).dp, by simp [PyData.depth, PyData.depthAll], rfl, true, rfl, iteT ?_⟩
      have kz := (k21.trans ki).trans kj
      exact ⟨_, rfl, p, c, rfl, t19.same kz, tabs_tab (tabs_same T19 kz), fun H' => q H'⟩
  obtain ⟨oc, od, kV, doc, pm, an, ct, osl, rfl, lk, hcd⟩ := F.fn.ex
  exact fn_of lk hcd sclaw (fun vs H Q E h => by obtain ⟨a, ns, rfl, _⟩ := h; rfl) fun A outer s H vs Q E hr hsp => by
    obtain ⟨t, h, q⟩ := body A outer s H vs Q E hr hsp
    exact ⟨t, h.nox, q⟩
end
end W5
set_option Elab.async false
set_option linter.all false
set_option maxRecDepth 100000
set_option maxHeartbeats 4000000
namespace W5
open PySem PySem.Spec PyProof.Rows L2 Com EnumT GxR
theorem walk_ofTab2 {l : PySem.W.OpenLaw} {n k : Nat} {q : Program} {loose : List Str} {XP : (Str → Option Value) → Heap → Prop} {YP : World → Heap → Prop} {d d1 d2 : DefRec} {K : Params → PySem.W.Frag} {CX : World → CXT} {x x1 x2 : Str}
    (hn : l.most = some n) (hn2 : n ≤ sizeLine) (hdf : d.params.defaults = []) (hr : Room k callerA) (h1 : (recsOf q).find? (fun e => e.name == x1) = some d1) (h2 : (recsOf q).find? (fun e => e.name == x2) = some d2) (hY : ∀ (w : World) (h : Heap), YP w h → (K w.params).In h)
    (F : ∀ (w : World) (mg : Str → Option Value) (fa : Addr) (h : Heap), YP w h → (K w.params).In h → h.Ns mainGlobals mg → mg d.name = some (.ref fa) →
      (∀ c P : Addr, PySem.W.tabIn (K w.params) x1 = some (c, P) → PySem.W.CodeHd h c P ∧ h.get? P = some (PySem.W.tabObj #[])) → (∀ c P : Addr, PySem.W.tabIn (K w.params) x2 = some (c, P) → PySem.W.CodeHd h c P ∧ h.get? P = some (PySem.W.tabObj #[])) → LamX.LawAtS l w (K w.params) (CX w) k n x mg fa h)
    (hCX : ∀ (w : World) (H : Hp) (s : Shared) (e : Value) (s' : Shared), CX w [] H s (fun _ _ _ => False) e s' → False) :
    PySem.W.WalkO q loose XP YP l.row.toRowW d [] (fun f vs => PySem.call f vs) := by
  refine Att.attach_callB hn hdf fun w s₀ s₁ mg mb fa o pm cd doc a vs ns G Y ho hd hcd hmg hobj hints hlen hbits hg => ?_
  have KX := hY w _ Y
  obtain ⟨fd, cs, sp, hT, nT, C, hb, hsp, hF⟩ := F w mg fa _ Y KX G.T.g hmg (fun c P ht => PySem.W.tab_of G.T KX h1 ht) (fun c P ht => PySem.W.tab_of G.T KX h2 ht)
  exact LamX.law_callTs KX G.T.g G.T.b G.T.builtins G.T.nolimit hg hT nT C G.T.bmain hobj hints (Nat.le_trans hlen hn2) hr hF hb (fun H hH hS => hsp H a ns hlen hbits hH hS) fun H e s' => hCX w H s₁ e s'
section
variable {P : Program} {w : World} {K : PySem.W.Frag} {mg : Str → Option Value} {base : Heap}
theorem held_of {k : Nat} {x : Str} {fC : Addr} {sp : Sp} (c : Cal P w K mg base k x sp) (h : mg x = some (.ref fC)) (hk : k ≤ 2) : Held P w K mg base 2 fC sp := by
  obtain ⟨f, fd, ps, F, hm, kp, b⟩ := c.mono hk
  rw [h] at hm
  cases hm
  exact ⟨fd, ps, F, kp, b⟩
theorem datum_all {f : Addr} {fd : FuncData} (F : Dfn K mg "_law_datum" st__law_datum f fd ["tape", "count", "level"]) (M : Mg mg) (G : Cal P w K mg base 1 "_law_take" spTake) : ∀ n : Nat, Cal P w K mg base (n + 1) "_law_datum" (spDatum n)
  | 0 => (none0 F fun vs H Q E h => by obtain ⟨_, _, _, _, _, _, _, _, _, h1, h2, _⟩ := h; omega).mono (Nat.zero_le _)
  | n + 1 => ok_law_datum F M G (datum_all F M G n)
theorem syntaxL_all {f : Addr} {fd : FuncData} (F : Dfn K mg "_law_syntax" st__law_syntax f fd ["tape", "module", "datum"]) (M : Mg mg) (G : Cal P w K mg base 3 "_law_scopes" spScopes) : ∀ n : Nat, Cal P w K mg base (n + 3) "_law_syntax" (spSynL n)
  | 0 => (none0 F fun vs H Q E h => by obtain ⟨_, _, _, _, _, _, _, h1, _⟩ := h; omega).mono (Nat.zero_le _)
  | n + 1 => ok_law_syntax F M G (syntaxL_all F M G n)
theorem syn_all {f : Addr} {fd : FuncData} (F : Dfn K mg "syntax_of" st_syntax_of f fd ["module", "datum", "scopes"]) (M : Mg mg) : ∀ n : Nat, Cal P w K mg base n "syntax_of" (spSyn n)
  | 0 => none0 F fun vs H Q E h => by obtain ⟨_, _, _, _, _, _, _, h1, _⟩ := h; omega
  | n + 1 => ok_syntax_of F M (syn_all F M n)
theorem dat_all {f : Addr} {fd : FuncData} (F : Dfn K mg "datum_of" st_datum_of f fd ["syntax"]) (M : Mg mg) : ∀ n : Nat, Cal P w K mg base n "datum_of" (spDat n)
  | 0 => none0 F fun vs H Q E h => by obtain ⟨_, _, _, _, h1, _⟩ := h; omega
  | n + 1 => ok_datum_of F M (dat_all F M n)
theorem chg_all {f fC : Addr} {fd : FuncData} {g : Sc → List Sc → List Sc} (F : Dfn K mg "changed" st_changed f fd ["syntax", "change", "by"]) (M : Mg mg) (h : Held P w K mg base 2 fC (spSetF g)) : ∀ n : Nat, Cal P w K mg base (n + 2) "changed" (spChg fC g n)
  | 0 => (none0 F fun vs H Q E h => by obtain ⟨_, _, _, _, _, _, _, _, h1, _⟩ := h; omega).mono (Nat.zero_le _)
  | n + 1 => ok_changed F M h (chg_all F M h n)
theorem depth_all {f : Addr} {fd : FuncData} (F : Dfn K mg "depth" st_depth f fd ["syntax"]) (M : Mg mg) : ∀ n : Nat, Cal P w K mg base n "depth" (spDep n)
  | 0 => none0 F fun vs H Q E h => by obtain ⟨_, _, _, _, h1, _⟩ := h; omega
  | n + 1 => ok_depth F M (depth_all F M n)
theorem ldepth_all {f : Addr} {fd : FuncData} (F : Dfn K mg "_law_depth" st__law_depth f fd ["syntax"]) (M : Mg mg) : ∀ n : Nat, Cal P w K mg base n "_law_depth" (spDepL n)
  | 0 => none0 F fun vs H Q E h => by obtain ⟨_, _, _, _, h1, _⟩ := h; omega
  | n + 1 => ok_law_depth F M (ldepth_all F M n)
theorem flat_all {f : Addr} {fd : FuncData} (F : Dfn K mg "_law_flat" st__law_flat f fd ["syntax"]) (M : Mg mg) : ∀ n : Nat, Cal P w K mg base n "_law_flat" (spFlat n)
  | 0 => none0 F fun vs H Q E h => by obtain ⟨_, _, _, _, h1, _⟩ := h; omega
  | n + 1 => ok_law_flat F M (flat_all F M n)
end
theorem all_mk {l : PySem.W.OpenLaw} {w : World} {K : PySem.W.Frag} {h : Heap} {mg : Str → Option Value} {fa cL PL cN PN : Addr} {f1 f2 f3 f4 f5 f6 f7 f8 f9 f10 f11 f12 f13 f14 f15 f16 f17 f18 f19 f20 f21 f22 f23 f24 f25 f26 f27 f28 f29 f30 f31 f32 : Addr}
    {od1 an1 od2 an2 od3 an3 od4 an4 od5 an5 od6 an6 od7 an7 od8 an8 od9 an9 od10 an10 od11 an11 od12 an12 od13 an13 od14 an14 od15 an15 od16 an16 od17 an17 od18 an18 od19 an19 od20 an20 od21 an21 od22 an22 od23 an23 od24 an24 od25 an25 od26 an26 od27 an27 od28 an28 od29 an29 od30 an30 od31 an31 od32 an32 : Option Addr} {sl1 sl2 sl3 sl4 sl5 sl6 sl7 sl8 sl9 sl10 sl11 sl12 sl13 sl14 sl15 sl16 sl17 sl18 sl19 sl20 sl21 sl22 sl23 sl24 sl25 sl26 sl27 sl28 sl29 sl30 sl31 sl32 : Array (Option Value)} {tk1 tk2 tk3 : Tok}
    {oc1 kV1 dc1 pm1 ct1 cd2 oc2 kV2 dc2 pm2 ct2 cd3 oc3 kV3 dc3 pm3 ct3 cd4 oc4 kV4 dc4 pm4 ct4 cd5 oc5 kV5 dc5 pm5 ct5 cd6 oc6 kV6 dc6 pm6 ct6 cd7 oc7 kV7 dc7 pm7 ct7 cd8 oc8 kV8 dc8 pm8 ct8 cd9 oc9 kV9 dc9 pm9 ct9 cd10 oc10 kV10 dc10 pm10 ct10 cd11 oc11 kV11 dc11 pm11 ct11 cd12 oc12 kV12 dc12 pm12 ct12 cd13 oc13 kV13 dc13 pm13 ct13 cd14 oc14 kV14 dc14 pm14 ct14 cd15 oc15 kV15 dc15 pm15 ct15 cd16 oc16 kV16 dc16 pm16 ct16 cd17 oc17 kV17 dc17 pm17 ct17 cd18 oc18 kV18 dc18 pm18 ct18 cd19 oc19 kV19 dc19 pm19 ct19 cd20 oc20 kV20 dc20 pm20 ct20 cd21 oc21 kV21 dc21 pm21 ct21 cd22 oc22 kV22 dc22 pm22 ct22 cd23 oc23 kV23 dc23 pm23 ct23 cd24 oc24 kV24 dc24 pm24 ct24 cd25 oc25 kV25 dc25 pm25 ct25 cd26 oc26 kV26 dc26 pm26 ct26 cd27 oc27 kV27 dc27 pm27 ct27 cd28 oc28 kV28 dc28 pm28 ct28 cd29 oc29 kV29 dc29 pm29 ct29 cd30 oc30 kV30 dc30 pm30 ct30 cd31 oc31 kV31 dc31 pm31 ct31 oc32 kV32 dc32 pm32 ct32 : Value} (X : K.In h) (G : h.Ns mainGlobals mg) (hfa : mg "law" = some (.ref fa))
    (TL : ∀ c P : Addr, PySem.W.tabIn K "law" = some (c, P) → PySem.W.CodeHd h c P ∧ h.get? P = some (PySem.W.tabObj #[])) (TN : ∀ c P : Addr, PySem.W.tabIn K "is_name" = some (c, P) → PySem.W.CodeHd h c P ∧ h.get? P = some (PySem.W.tabObj #[]))
    (a1 : PySem.W.nsIn K mainGlobals "is_name" = some (some (.ref f1))) (l1 : K.lookup f1 = some ⟨oc1, od1, .func (PySem.W.fnOf "is_name" "is_name" (defArgs st_is_name) (defBody st_is_name) (defScope st_is_name) .none kV1 dc1 pm1 an1 (.ref cN) ct1), sl1⟩) (c1 : PySem.W.codeIn K (.ref cN) "is_name" = true) (k1 : PySem.W.keepIn K (.ref f1) = true)
    (a2 : PySem.W.nsIn K mainGlobals "_begins_as_number" = some (some (.ref f2))) (l2 : K.lookup f2 = some ⟨oc2, od2, .func (PySem.W.fnOf "_begins_as_number" "_begins_as_number" (defArgs st__begins_as_number) (defBody st__begins_as_number) (defScope st__begins_as_number) .none kV2 dc2 pm2 an2 cd2 ct2), sl2⟩) (c2 : PySem.W.codeIn K cd2 "_begins_as_number" = true) (k2 : PySem.W.keepIn K (.ref f2) = true)
    (a3 : PySem.W.nsIn K mainGlobals "syntax_of" = some (some (.ref f3))) (l3 : K.lookup f3 = some ⟨oc3, od3, .func (PySem.W.fnOf "syntax_of" "syntax_of" (defArgs st_syntax_of) (defBody st_syntax_of) (defScope st_syntax_of) .none kV3 dc3 pm3 an3 cd3 ct3), sl3⟩) (c3 : PySem.W.codeIn K cd3 "syntax_of" = true) (k3 : PySem.W.keepIn K (.ref f3) = true)
    (a4 : PySem.W.nsIn K mainGlobals "datum_of" = some (some (.ref f4))) (l4 : K.lookup f4 = some ⟨oc4, od4, .func (PySem.W.fnOf "datum_of" "datum_of" (defArgs st_datum_of) (defBody st_datum_of) (defScope st_datum_of) .none kV4 dc4 pm4 an4 cd4 ct4), sl4⟩) (c4 : PySem.W.codeIn K cd4 "datum_of" = true) (k4 : PySem.W.keepIn K (.ref f4) = true)
    (a5 : PySem.W.nsIn K mainGlobals "_set_with" = some (some (.ref f5))) (l5 : K.lookup f5 = some ⟨oc5, od5, .func (PySem.W.fnOf "_set_with" "_set_with" (defArgs st__set_with) (defBody st__set_with) (defScope st__set_with) .none kV5 dc5 pm5 an5 cd5 ct5), sl5⟩) (c5 : PySem.W.codeIn K cd5 "_set_with" = true) (k5 : PySem.W.keepIn K (.ref f5) = true)
    (a6 : PySem.W.nsIn K mainGlobals "_set_without" = some (some (.ref f6))) (l6 : K.lookup f6 = some ⟨oc6, od6, .func (PySem.W.fnOf "_set_without" "_set_without" (defArgs st__set_without) (defBody st__set_without) (defScope st__set_without) .none kV6 dc6 pm6 an6 cd6 ct6), sl6⟩) (c6 : PySem.W.codeIn K cd6 "_set_without" = true) (k6 : PySem.W.keepIn K (.ref f6) = true)
    (a7 : PySem.W.nsIn K mainGlobals "_set_flipped" = some (some (.ref f7))) (l7 : K.lookup f7 = some ⟨oc7, od7, .func (PySem.W.fnOf "_set_flipped" "_set_flipped" (defArgs st__set_flipped) (defBody st__set_flipped) (defScope st__set_flipped) .none kV7 dc7 pm7 an7 cd7 ct7), sl7⟩) (c7 : PySem.W.codeIn K cd7 "_set_flipped" = true) (k7 : PySem.W.keepIn K (.ref f7) = true)
    (a8 : PySem.W.nsIn K mainGlobals "changed" = some (some (.ref f8))) (l8 : K.lookup f8 = some ⟨oc8, od8, .func (PySem.W.fnOf "changed" "changed" (defArgs st_changed) (defBody st_changed) (defScope st_changed) .none kV8 dc8 pm8 an8 cd8 ct8), sl8⟩) (c8 : PySem.W.codeIn K cd8 "changed" = true) (k8 : PySem.W.keepIn K (.ref f8) = true)
    (a9 : PySem.W.nsIn K mainGlobals "added" = some (some (.ref f9))) (l9 : K.lookup f9 = some ⟨oc9, od9, .func (PySem.W.fnOf "added" "added" (defArgs st_added) (defBody st_added) (defScope st_added) .none kV9 dc9 pm9 an9 cd9 ct9), sl9⟩) (c9 : PySem.W.codeIn K cd9 "added" = true) (k9 : PySem.W.keepIn K (.ref f9) = true)
    (a10 : PySem.W.nsIn K mainGlobals "removed" = some (some (.ref f10))) (l10 : K.lookup f10 = some ⟨oc10, od10, .func (PySem.W.fnOf "removed" "removed" (defArgs st_removed) (defBody st_removed) (defScope st_removed) .none kV10 dc10 pm10 an10 cd10 ct10), sl10⟩) (c10 : PySem.W.codeIn K cd10 "removed" = true) (k10 : PySem.W.keepIn K (.ref f10) = true)
    (a11 : PySem.W.nsIn K mainGlobals "flipped" = some (some (.ref f11))) (l11 : K.lookup f11 = some ⟨oc11, od11, .func (PySem.W.fnOf "flipped" "flipped" (defArgs st_flipped) (defBody st_flipped) (defScope st_flipped) .none kV11 dc11 pm11 an11 cd11 ct11), sl11⟩) (c11 : PySem.W.codeIn K cd11 "flipped" = true) (k11 : PySem.W.keepIn K (.ref f11) = true)
    (a12 : PySem.W.nsIn K mainGlobals "identifiers" = some (some (.ref f12))) (l12 : K.lookup f12 = some ⟨oc12, od12, .func (PySem.W.fnOf "identifiers" "identifiers" (defArgs st_identifiers) (defBody st_identifiers) (defScope st_identifiers) .none kV12 dc12 pm12 an12 cd12 ct12), sl12⟩) (c12 : PySem.W.codeIn K cd12 "identifiers" = true) (k12 : PySem.W.keepIn K (.ref f12) = true)
    (a13 : PySem.W.nsIn K mainGlobals "size" = some (some (.ref f13))) (l13 : K.lookup f13 = some ⟨oc13, od13, .func (PySem.W.fnOf "size" "size" (defArgs st_size) (defBody st_size) (defScope st_size) .none kV13 dc13 pm13 an13 cd13 ct13), sl13⟩) (c13 : PySem.W.codeIn K cd13 "size" = true) (k13 : PySem.W.keepIn K (.ref f13) = true)
    (a14 : PySem.W.nsIn K mainGlobals "depth" = some (some (.ref f14))) (l14 : K.lookup f14 = some ⟨oc14, od14, .func (PySem.W.fnOf "depth" "depth" (defArgs st_depth) (defBody st_depth) (defScope st_depth) .none kV14 dc14 pm14 an14 cd14 ct14), sl14⟩) (c14 : PySem.W.codeIn K cd14 "depth" = true) (k14 : PySem.W.keepIn K (.ref f14) = true)
    (a15 : PySem.W.nsIn K mainGlobals "_is_count" = some (some (.ref f15))) (l15 : K.lookup f15 = some ⟨oc15, od15, .func (PySem.W.fnOf "_is_count" "_is_count" (defArgs st__is_count) (defBody st__is_count) (defScope st__is_count) .none kV15 dc15 pm15 an15 cd15 ct15), sl15⟩) (c15 : PySem.W.codeIn K cd15 "_is_count" = true) (k15 : PySem.W.keepIn K (.ref f15) = true)
    (a16 : PySem.W.nsIn K mainGlobals "_is_scope" = some (some (.ref f16))) (l16 : K.lookup f16 = some ⟨oc16, od16, .func (PySem.W.fnOf "_is_scope" "_is_scope" (defArgs st__is_scope) (defBody st__is_scope) (defScope st__is_scope) .none kV16 dc16 pm16 an16 cd16 ct16), sl16⟩) (c16 : PySem.W.codeIn K cd16 "_is_scope" = true) (k16 : PySem.W.keepIn K (.ref f16) = true)
    (a17 : PySem.W.nsIn K mainGlobals "is_set" = some (some (.ref f17))) (l17 : K.lookup f17 = some ⟨oc17, od17, .func (PySem.W.fnOf "is_set" "is_set" (defArgs st_is_set) (defBody st_is_set) (defScope st_is_set) .none kV17 dc17 pm17 an17 cd17 ct17), sl17⟩) (c17 : PySem.W.codeIn K cd17 "is_set" = true) (k17 : PySem.W.keepIn K (.ref f17) = true)
    (a18 : PySem.W.nsIn K mainGlobals "_law_tape" = some (some (.ref f18))) (l18 : K.lookup f18 = some ⟨oc18, od18, .func (PySem.W.fnOf "_law_tape" "_law_tape" (defArgs st__law_tape) (defBody st__law_tape) (defScope st__law_tape) .none kV18 dc18 pm18 an18 cd18 ct18), sl18⟩) (c18 : PySem.W.codeIn K cd18 "_law_tape" = true) (k18 : PySem.W.keepIn K (.ref f18) = true)
    (a19 : PySem.W.nsIn K mainGlobals "_law_take" = some (some (.ref f19))) (l19 : K.lookup f19 = some ⟨oc19, od19, .func (PySem.W.fnOf "_law_take" "_law_take" (defArgs st__law_take) (defBody st__law_take) (defScope st__law_take) .none kV19 dc19 pm19 an19 cd19 ct19), sl19⟩) (c19 : PySem.W.codeIn K cd19 "_law_take" = true) (k19 : PySem.W.keepIn K (.ref f19) = true)
    (a20 : PySem.W.nsIn K mainGlobals "_law_is_integer" = some (some (.ref f20))) (l20 : K.lookup f20 = some ⟨oc20, od20, .func (PySem.W.fnOf "_law_is_integer" "_law_is_integer" (defArgs st__law_is_integer) (defBody st__law_is_integer) (defScope st__law_is_integer) .none kV20 dc20 pm20 an20 cd20 ct20), sl20⟩) (c20 : PySem.W.codeIn K cd20 "_law_is_integer" = true) (k20 : PySem.W.keepIn K (.ref f20) = true)
    (a21 : PySem.W.nsIn K mainGlobals "_law_same_items" = some (some (.ref f21))) (l21 : K.lookup f21 = some ⟨oc21, od21, .func (PySem.W.fnOf "_law_same_items" "_law_same_items" (defArgs st__law_same_items) (defBody st__law_same_items) (defScope st__law_same_items) .none kV21 dc21 pm21 an21 cd21 ct21), sl21⟩) (c21 : PySem.W.codeIn K cd21 "_law_same_items" = true) (k21 : PySem.W.keepIn K (.ref f21) = true)
    (a22 : PySem.W.nsIn K mainGlobals "_law_same" = some (some (.ref f22))) (l22 : K.lookup f22 = some ⟨oc22, od22, .func (PySem.W.fnOf "_law_same" "_law_same" (defArgs st__law_same) (defBody st__law_same) (defScope st__law_same) .none kV22 dc22 pm22 an22 cd22 ct22), sl22⟩) (c22 : PySem.W.codeIn K cd22 "_law_same" = true) (k22 : PySem.W.keepIn K (.ref f22) = true)
    (a23 : PySem.W.nsIn K mainGlobals "_law_datum" = some (some (.ref f23))) (l23 : K.lookup f23 = some ⟨oc23, od23, .func (PySem.W.fnOf "_law_datum" "_law_datum" (defArgs st__law_datum) (defBody st__law_datum) (defScope st__law_datum) .none kV23 dc23 pm23 an23 cd23 ct23), sl23⟩) (c23 : PySem.W.codeIn K cd23 "_law_datum" = true) (k23 : PySem.W.keepIn K (.ref f23) = true)
    (a24 : PySem.W.nsIn K mainGlobals "_law_scope" = some (some (.ref f24))) (l24 : K.lookup f24 = some ⟨oc24, od24, .func (PySem.W.fnOf "_law_scope" "_law_scope" (defArgs st__law_scope) (defBody st__law_scope) (defScope st__law_scope) .none kV24 dc24 pm24 an24 cd24 ct24), sl24⟩) (c24 : PySem.W.codeIn K cd24 "_law_scope" = true) (k24 : PySem.W.keepIn K (.ref f24) = true)
    (a25 : PySem.W.nsIn K mainGlobals "_law_scopes" = some (some (.ref f25))) (l25 : K.lookup f25 = some ⟨oc25, od25, .func (PySem.W.fnOf "_law_scopes" "_law_scopes" (defArgs st__law_scopes) (defBody st__law_scopes) (defScope st__law_scopes) .none kV25 dc25 pm25 an25 cd25 ct25), sl25⟩) (c25 : PySem.W.codeIn K cd25 "_law_scopes" = true) (k25 : PySem.W.keepIn K (.ref f25) = true)
    (a26 : PySem.W.nsIn K mainGlobals "_law_syntax" = some (some (.ref f26))) (l26 : K.lookup f26 = some ⟨oc26, od26, .func (PySem.W.fnOf "_law_syntax" "_law_syntax" (defArgs st__law_syntax) (defBody st__law_syntax) (defScope st__law_syntax) .none kV26 dc26 pm26 an26 cd26 ct26), sl26⟩) (c26 : PySem.W.codeIn K cd26 "_law_syntax" = true) (k26 : PySem.W.keepIn K (.ref f26) = true)
    (a27 : PySem.W.nsIn K mainGlobals "_law_mapped" = some (some (.ref f27))) (l27 : K.lookup f27 = some ⟨oc27, od27, .func (PySem.W.fnOf "_law_mapped" "_law_mapped" (defArgs st__law_mapped) (defBody st__law_mapped) (defScope st__law_mapped) .none kV27 dc27 pm27 an27 cd27 ct27), sl27⟩) (c27 : PySem.W.codeIn K cd27 "_law_mapped" = true) (k27 : PySem.W.keepIn K (.ref f27) = true)
    (a28 : PySem.W.nsIn K mainGlobals "_law_turned" = some (some (.ref f28))) (l28 : K.lookup f28 = some ⟨oc28, od28, .func (PySem.W.fnOf "_law_turned" "_law_turned" (defArgs st__law_turned) (defBody st__law_turned) (defScope st__law_turned) .none kV28 dc28 pm28 an28 cd28 ct28), sl28⟩) (c28 : PySem.W.codeIn K cd28 "_law_turned" = true) (k28 : PySem.W.keepIn K (.ref f28) = true)
    (a29 : PySem.W.nsIn K mainGlobals "_law_flat" = some (some (.ref f29))) (l29 : K.lookup f29 = some ⟨oc29, od29, .func (PySem.W.fnOf "_law_flat" "_law_flat" (defArgs st__law_flat) (defBody st__law_flat) (defScope st__law_flat) .none kV29 dc29 pm29 an29 cd29 ct29), sl29⟩) (c29 : PySem.W.codeIn K cd29 "_law_flat" = true) (k29 : PySem.W.keepIn K (.ref f29) = true)
    (a30 : PySem.W.nsIn K mainGlobals "_law_depth" = some (some (.ref f30))) (l30 : K.lookup f30 = some ⟨oc30, od30, .func (PySem.W.fnOf "_law_depth" "_law_depth" (defArgs st__law_depth) (defBody st__law_depth) (defScope st__law_depth) .none kV30 dc30 pm30 an30 cd30 ct30), sl30⟩) (c30 : PySem.W.codeIn K cd30 "_law_depth" = true) (k30 : PySem.W.keepIn K (.ref f30) = true)
    (a31 : PySem.W.nsIn K mainGlobals "_law_sets" = some (some (.ref f31))) (l31 : K.lookup f31 = some ⟨oc31, od31, .func (PySem.W.fnOf "_law_sets" "_law_sets" (defArgs st__law_sets) (defBody st__law_sets) (defScope st__law_sets) .none kV31 dc31 pm31 an31 cd31 ct31), sl31⟩) (c31 : PySem.W.codeIn K cd31 "_law_sets" = true) (k31 : PySem.W.keepIn K (.ref f31) = true)
    (a32 : PySem.W.nsIn K mainGlobals "law" = some (some (.ref f32))) (l32 : K.lookup f32 = some ⟨oc32, od32, .func (PySem.W.fnOf "law" "law" (defArgs st_law) (defBody st_law) (defScope st_law) .none kV32 dc32 pm32 an32 (.ref cL) ct32), sl32⟩) (c32 : PySem.W.codeIn K (.ref cL) "law" = true) (k32 : PySem.W.keepIn K (.ref f32) = true)
    (y1 : PySem.W.nsIn K mainGlobals "LONGEST_NAME" = some (some (.int 20 tk1))) (y2 : PySem.W.nsIn K mainGlobals "NAME_SIGNS" = some (some (.str "abcdefghijklmnopqrstuvwxyz0123456789!*+-./:<=>?_" tk2))) (y3 : PySem.W.nsIn K mainGlobals "DIGITS" = some (some (.str "0123456789" tk3)))
    {oL : Value} {dL : Option Addr} {vL : Array Value} {sL : Array (Option Value)} (lL : K.lookup cL = some ⟨oL, dL, .fields vL, sL⟩) (eL : (vL[11]? : Option Value) = some (.ref PL)) (nL : K.lookup PL = none)
    {oN : Value} {dN : Option Addr} {vN : Array Value} {sN : Array (Option Value)} (lN : K.lookup cN = some ⟨oN, dN, .fields vN, sN⟩) (eN : (vN[11]? : Option Value) = some (.ref PN)) (nN : K.lookup PN = none)
    (nPP : PN ≠ PL) (z1 : PySem.W.nsIn K mainGlobals "len" = some none) (z2 : PySem.W.nsIn K mainGlobals "abs" = some none) (z3 : PySem.W.nsIn K mainGlobals "int" = some none) (z4 : PySem.W.nsIn K mainGlobals "bool" = some none) (z5 : PySem.W.nsIn K mainGlobals "str" = some none) (z6 : PySem.W.nsIn K mainGlobals "tuple" = some none) (z7 : PySem.W.nsIn K mainGlobals "list" = some none) (z8 : PySem.W.nsIn K mainGlobals "range" = some none) (z9 : PySem.W.nsIn K mainGlobals "enumerate" = some none) (z10 : PySem.W.nsIn K mainGlobals "isinstance" = some none) (z11 : PySem.W.nsIn K mainGlobals "sorted" = some none) (z12 : PySem.W.nsIn K mainGlobals "max" = some none) (z13 : PySem.W.nsIn K mainGlobals "all" = some none) : LamX.LawAtS l w K CX0 45 63 "script" mg fa h := by
  have tL : PySem.W.tabIn K "law" = some (cL, PL) := by
    unfold PySem.W.tabIn
    simp only [a32, l32, lL, eL, PySem.W.fnOf]
  have tN : PySem.W.tabIn K "is_name" = some (cN, PN) := by
    unfold PySem.W.tabIn
    simp only [a1, l1, lN, eN, PySem.W.fnOf]
  obtain ⟨TLC, TLP⟩ := TL cL PL tL
  obtain ⟨TNC, TNP⟩ := TN cN PN tN
  have e := hfa.symm.trans (PySem.W.mg_of X G a32)
  cases e
  have M : Mg mg := ⟨PySem.W.mg_none_of X G z1, PySem.W.mg_none_of X G z2, PySem.W.mg_none_of X G z3, PySem.W.mg_none_of X G z4, PySem.W.mg_none_of X G z5, PySem.W.mg_none_of X G z6, PySem.W.mg_none_of X G z7, PySem.W.mg_none_of X G z8, PySem.W.mg_none_of X G z9, PySem.W.mg_none_of X G z10, PySem.W.mg_none_of X G z11, PySem.W.mg_none_of X G z12, PySem.W.mg_none_of X G z13⟩
  have E1 := funC_mk (st := st_is_name) l1 c1 k1
  have b1 := E1.fun.binds (ps := ["text"]) fun _ _ _ _ _ _ us hl => match us, hl with | [_], _ => rfl
  have F1 : DfnC K mg "is_name" st_is_name f1 _ ["text"] cN := ⟨E1, PySem.W.mg_of X G a1, b1⟩
  have E2 := fun_mk (st := st__begins_as_number) l2 c2 k2
  have b2 := E2.binds (ps := ["word"]) fun _ _ _ _ _ _ us hl => match us, hl with | [_], _ => rfl
  have F2 : Dfn K mg "_begins_as_number" st__begins_as_number f2 _ ["word"] := ⟨E2, PySem.W.mg_of X G a2, b2⟩
  have E3 := fun_mk (st := st_syntax_of) l3 c3 k3
  have b3 := E3.binds (ps := ["module", "datum", "scopes"]) fun _ _ _ _ _ _ us hl => match us, hl with | [_, _, _], _ => rfl
  have F3 : Dfn K mg "syntax_of" st_syntax_of f3 _ ["module", "datum", "scopes"] := ⟨E3, PySem.W.mg_of X G a3, b3⟩
  have E4 := fun_mk (st := st_datum_of) l4 c4 k4
  have b4 := E4.binds (ps := ["syntax"]) fun _ _ _ _ _ _ us hl => match us, hl with | [_], _ => rfl
  have F4 : Dfn K mg "datum_of" st_datum_of f4 _ ["syntax"] := ⟨E4, PySem.W.mg_of X G a4, b4⟩
  have E5 := fun_mk (st := st__set_with) l5 c5 k5
  have b5 := E5.binds (ps := ["scopes", "scope"]) fun _ _ _ _ _ _ us hl => match us, hl with | [_, _], _ => rfl
  have F5 : Dfn K mg "_set_with" st__set_with f5 _ ["scopes", "scope"] := ⟨E5, PySem.W.mg_of X G a5, b5⟩
  have E6 := fun_mk (st := st__set_without) l6 c6 k6
  have b6 := E6.binds (ps := ["scopes", "scope"]) fun _ _ _ _ _ _ us hl => match us, hl with | [_, _], _ => rfl
  have F6 : Dfn K mg "_set_without" st__set_without f6 _ ["scopes", "scope"] := ⟨E6, PySem.W.mg_of X G a6, b6⟩
  have E7 := fun_mk (st := st__set_flipped) l7 c7 k7
  have b7 := E7.binds (ps := ["scopes", "scope"]) fun _ _ _ _ _ _ us hl => match us, hl with | [_, _], _ => rfl
  have F7 : Dfn K mg "_set_flipped" st__set_flipped f7 _ ["scopes", "scope"] := ⟨E7, PySem.W.mg_of X G a7, b7⟩
  have E8 := fun_mk (st := st_changed) l8 c8 k8
  have b8 := E8.binds (ps := ["syntax", "change", "by"]) fun _ _ _ _ _ _ us hl => match us, hl with | [_, _, _], _ => rfl
  have F8 : Dfn K mg "changed" st_changed f8 _ ["syntax", "change", "by"] := ⟨E8, PySem.W.mg_of X G a8, b8⟩
  have E9 := fun_mk (st := st_added) l9 c9 k9
  have b9 := E9.binds (ps := ["syntax", "scope"]) fun _ _ _ _ _ _ us hl => match us, hl with | [_, _], _ => rfl
  have F9 : Dfn K mg "added" st_added f9 _ ["syntax", "scope"] := ⟨E9, PySem.W.mg_of X G a9, b9⟩
  have E10 := fun_mk (st := st_removed) l10 c10 k10
  have b10 := E10.binds (ps := ["syntax", "scope"]) fun _ _ _ _ _ _ us hl => match us, hl with | [_, _], _ => rfl
  have F10 : Dfn K mg "removed" st_removed f10 _ ["syntax", "scope"] := ⟨E10, PySem.W.mg_of X G a10, b10⟩
  have E11 := fun_mk (st := st_flipped) l11 c11 k11
  have b11 := E11.binds (ps := ["syntax", "scope"]) fun _ _ _ _ _ _ us hl => match us, hl with | [_, _], _ => rfl
  have F11 : Dfn K mg "flipped" st_flipped f11 _ ["syntax", "scope"] := ⟨E11, PySem.W.mg_of X G a11, b11⟩
  have E12 := fun_mk (st := st_identifiers) l12 c12 k12
  have b12 := E12.binds (ps := ["syntax"]) fun _ _ _ _ _ _ us hl => match us, hl with | [_], _ => rfl
  have F12 : Dfn K mg "identifiers" st_identifiers f12 _ ["syntax"] := ⟨E12, PySem.W.mg_of X G a12, b12⟩
  have E13 := fun_mk (st := st_size) l13 c13 k13
  have b13 := E13.binds (ps := ["syntax"]) fun _ _ _ _ _ _ us hl => match us, hl with | [_], _ => rfl
  have F13 : Dfn K mg "size" st_size f13 _ ["syntax"] := ⟨E13, PySem.W.mg_of X G a13, b13⟩
  have E14 := fun_mk (st := st_depth) l14 c14 k14
  have b14 := E14.binds (ps := ["syntax"]) fun _ _ _ _ _ _ us hl => match us, hl with | [_], _ => rfl
  have F14 : Dfn K mg "depth" st_depth f14 _ ["syntax"] := ⟨E14, PySem.W.mg_of X G a14, b14⟩
  have E15 := fun_mk (st := st__is_count) l15 c15 k15
  have b15 := E15.binds (ps := ["value"]) fun _ _ _ _ _ _ us hl => match us, hl with | [_], _ => rfl
  have F15 : Dfn K mg "_is_count" st__is_count f15 _ ["value"] := ⟨E15, PySem.W.mg_of X G a15, b15⟩
  have E16 := fun_mk (st := st__is_scope) l16 c16 k16
  have b16 := E16.binds (ps := ["value"]) fun _ _ _ _ _ _ us hl => match us, hl with | [_], _ => rfl
  have F16 : Dfn K mg "_is_scope" st__is_scope f16 _ ["value"] := ⟨E16, PySem.W.mg_of X G a16, b16⟩
  have E17 := fun_mk (st := st_is_set) l17 c17 k17
  have b17 := E17.binds (ps := ["value"]) fun _ _ _ _ _ _ us hl => match us, hl with | [_], _ => rfl
  have F17 : Dfn K mg "is_set" st_is_set f17 _ ["value"] := ⟨E17, PySem.W.mg_of X G a17, b17⟩
  have E18 := fun_mk (st := st__law_tape) l18 c18 k18
  have b18 := E18.binds (ps := ["script"]) fun _ _ _ _ _ _ us hl => match us, hl with | [_], _ => rfl
  have F18 : Dfn K mg "_law_tape" st__law_tape f18 _ ["script"] := ⟨E18, PySem.W.mg_of X G a18, b18⟩
  have E19 := fun_mk (st := st__law_take) l19 c19 k19
  have b19 := E19.binds (ps := ["tape", "many"]) fun _ _ _ _ _ _ us hl => match us, hl with | [_, _], _ => rfl
  have F19 : Dfn K mg "_law_take" st__law_take f19 _ ["tape", "many"] := ⟨E19, PySem.W.mg_of X G a19, b19⟩
  have E20 := fun_mk (st := st__law_is_integer) l20 c20 k20
  have b20 := E20.binds (ps := ["actual"]) fun _ _ _ _ _ _ us hl => match us, hl with | [_], _ => rfl
  have F20 : Dfn K mg "_law_is_integer" st__law_is_integer f20 _ ["actual"] := ⟨E20, PySem.W.mg_of X G a20, b20⟩
  have E21 := fun_mk (st := st__law_same_items) l21 c21 k21
  have b21 := E21.binds (ps := ["actual", "expected"]) fun _ _ _ _ _ _ us hl => match us, hl with | [_, _], _ => rfl
  have F21 : Dfn K mg "_law_same_items" st__law_same_items f21 _ ["actual", "expected"] := ⟨E21, PySem.W.mg_of X G a21, b21⟩
  have E22 := fun_mk (st := st__law_same) l22 c22 k22
  have b22 := E22.binds (ps := ["actual", "expected"]) fun _ _ _ _ _ _ us hl => match us, hl with | [_, _], _ => rfl
  have F22 : Dfn K mg "_law_same" st__law_same f22 _ ["actual", "expected"] := ⟨E22, PySem.W.mg_of X G a22, b22⟩
  have E23 := fun_mk (st := st__law_datum) l23 c23 k23
  have b23 := E23.binds (ps := ["tape", "count", "level"]) fun _ _ _ _ _ _ us hl => match us, hl with | [_, _, _], _ => rfl
  have F23 : Dfn K mg "_law_datum" st__law_datum f23 _ ["tape", "count", "level"] := ⟨E23, PySem.W.mg_of X G a23, b23⟩
  have E24 := fun_mk (st := st__law_scope) l24 c24 k24
  have b24 := E24.binds (ps := ["tape"]) fun _ _ _ _ _ _ us hl => match us, hl with | [_], _ => rfl
  have F24 : Dfn K mg "_law_scope" st__law_scope f24 _ ["tape"] := ⟨E24, PySem.W.mg_of X G a24, b24⟩
  have E25 := fun_mk (st := st__law_scopes) l25 c25 k25
  have b25 := E25.binds (ps := ["tape"]) fun _ _ _ _ _ _ us hl => match us, hl with | [_], _ => rfl
  have F25 : Dfn K mg "_law_scopes" st__law_scopes f25 _ ["tape"] := ⟨E25, PySem.W.mg_of X G a25, b25⟩
  have E26 := fun_mk (st := st__law_syntax) l26 c26 k26
  have b26 := E26.binds (ps := ["tape", "module", "datum"]) fun _ _ _ _ _ _ us hl => match us, hl with | [_, _, _], _ => rfl
  have F26 : Dfn K mg "_law_syntax" st__law_syntax f26 _ ["tape", "module", "datum"] := ⟨E26, PySem.W.mg_of X G a26, b26⟩
  have E27 := fun_mk (st := st__law_mapped) l27 c27 k27
  have b27 := E27.binds (ps := ["syntax", "change"]) fun _ _ _ _ _ _ us hl => match us, hl with | [_, _], _ => rfl
  have F27 : Dfn K mg "_law_mapped" st__law_mapped f27 _ ["syntax", "change"] := ⟨E27, PySem.W.mg_of X G a27, b27⟩
  have E28 := fun_mk (st := st__law_turned) l28 c28 k28
  have b28 := E28.binds (ps := ["held", "scope"]) fun _ _ _ _ _ _ us hl => match us, hl with | [_, _], _ => rfl
  have F28 : Dfn K mg "_law_turned" st__law_turned f28 _ ["held", "scope"] := ⟨E28, PySem.W.mg_of X G a28, b28⟩
  have E29 := fun_mk (st := st__law_flat) l29 c29 k29
  have b29 := E29.binds (ps := ["syntax"]) fun _ _ _ _ _ _ us hl => match us, hl with | [_], _ => rfl
  have F29 : Dfn K mg "_law_flat" st__law_flat f29 _ ["syntax"] := ⟨E29, PySem.W.mg_of X G a29, b29⟩
  have E30 := fun_mk (st := st__law_depth) l30 c30 k30
  have b30 := E30.binds (ps := ["syntax"]) fun _ _ _ _ _ _ us hl => match us, hl with | [_], _ => rfl
  have F30 : Dfn K mg "_law_depth" st__law_depth f30 _ ["syntax"] := ⟨E30, PySem.W.mg_of X G a30, b30⟩
  have E31 := fun_mk (st := st__law_sets) l31 c31 k31
  have b31 := E31.binds (ps := ["tape"]) fun _ _ _ _ _ _ us hl => match us, hl with | [_], _ => rfl
  have F31 : Dfn K mg "_law_sets" st__law_sets f31 _ ["tape"] := ⟨E31, PySem.W.mg_of X G a31, b31⟩
  have E32 := funC_mk (st := st_law) l32 c32 k32
  have b32 := E32.fun.binds (ps := ["script"]) fun _ _ _ _ _ _ us hl => match us, hl with | [_], _ => rfl
  have F32 : DfnC K mg "law" st_law fa _ ["script"] cL := ⟨E32, PySem.W.mg_of X G a32, b32⟩
  have two : ∀ {q : Addr × Addr → Prop}, q (cL, PL) → q (cN, PN) → ∀ p ∈ [(cL, PL), (cN, PN)], q p := fun h1 h2 p hp => by
    rcases List.mem_cons.mp hp with e | hp
    · rw [e]; exact h1
    · rw [List.mem_singleton.mp hp]; exact h2
  refine ⟨PySem.W.fnOf "law" "law" (defArgs st_law) (defBody st_law) (defScope st_law) .none kV32 dc32 pm32 an32 (.ref cL) ct32, [(cL, PL), (cN, PN)], spLaw K PL PN, two TLP TNP, two nL nN, two TLC TNC, fun s v => .of_eq rfl,
    fun H a ns hl _ hP hS => ⟨a, ns, rfl, hS, hl, hP _ List.mem_cons_self, hP (cN, PN) (List.mem_cons_of_mem _ List.mem_cons_self), fun _ => rfl⟩, fun base hK hN hTb => ?_⟩
  have TBL := hTb (cL, PL) List.mem_cons_self
  have TB0 := hTb (cN, PN) (List.mem_cons_of_mem _ List.mem_cons_self)
  have TBN : GxR.TabB base mg cN PN := ⟨TB0.code, TB0.bm, TB0.gP⟩
  have Ct : Cal l.prog w K mg base 1 "_law_tape" (spTape K) := ok_law_tape F18 M
  have Ck : Cal l.prog w K mg base 1 "_law_take" spTake := ok_law_take F19 M
  have Cd := (datum_all F23 M Ck 7).mono (show 7 + 1 ≤ 12 by decide)
  have Cs := ok_law_scope F24 M Ck
  have Css := ok_law_scopes F25 M Ck Cs
  have Csy := (syntaxL_all F26 M Css 7).mono (show 7 + 3 ≤ 12 by decide)
  have Cw : Cal l.prog w K mg base 1 "_set_with" (spSetF withS) := ok_set_with F5 M
  have Cwo : Cal l.prog w K mg base 1 "_set_without" (spSetF withoutS) := ok_set_without F6 M
  have Cfl := ok_set_flipped F7 M Cw Cwo
  have Ca := (ok_added F9 M F5.mgf (chg_all F8 M (held_of Cw F5.mgf (by decide)) 7)).mono (show 7 + 2 + 1 ≤ 14 by decide)
  have Cr := (ok_removed F10 M F6.mgf (chg_all F8 M (held_of Cwo F6.mgf (by decide)) 7)).mono (show 7 + 2 + 1 ≤ 14 by decide)
  have Cf := (ok_flipped F11 M F7.mgf (chg_all F8 M (held_of Cfl F7.mgf (by decide)) 7)).mono (show 7 + 2 + 1 ≤ 14 by decide)
  have Cb : Cal l.prog w K mg base 1 "_begins_as_number" spBegins := ok_begins_as_number F2 M (PySem.W.mg_of X G y3)
  have Cn := ok_is_name F1 M (PySem.W.mg_of X G y1) (PySem.W.mg_of X G y2) TBN Cb
  have Cc : Cal l.prog w K mg base 1 "_is_count" spCount := ok_is_count F15 M
  have Cq := ok_is_scope F16 M Cn Cc
  have Cis := ok_is_set F17 M Cq
  have Cst := ok_law_sets F31 M Ck Css Cis
  exact ok_law (cN := cN) F32 M TBL nPP F27 (fun base' _ _ => ok_law_turned F28 M) Ct Ck Cd Css Csy Cs ((syn_all F3 M 7).mono (by decide)) ((dat_all F4 M 7).mono (by decide)) Ca Cr Cf ((flat_all F29 M 7).mono (by decide)) (ok_identifiers F12 M) (ok_size F13 M) ((depth_all F14 M 7).mono (by decide)) ((ldepth_all F30 M 7).mono (by decide)) Cst (same_all F22 F21 F20 M 21).1
end W5
open PySem PySem.W PyProof.Rows
set_option maxRecDepth 100000 in
set_option maxHeartbeats 0 in
theorem PySem.Challenge.cw_wherewritten_k05_syntax_and_scopes_holds : PySem.Challenge.rw_wherewritten_k05_syntax_and_scopes.Holds := by
  w_on; o_law; k_head; (case hw => w_witness2)
  k_fill
  refine W5.walk_ofTab2 (l := PySem.Challenge.rw_wherewritten_k05_syntax_and_scopes) (n := 63) (k := 45) (x := "script") (x1 := "law") (x2 := "is_name") (CX := fun _ => L2.CX0) rfl (by decide) rfl ⟨rfl, by decide, by decide⟩ rfl rfl (fun w h Y => PySem.W.km_in_of Y) ?F (fun _ _ _ _ _ h => h)
  case F =>
    intro w mg fa h _ KX G hmg TL TN
    refine' W5.all_mk KX G hmg TL TN ?a1 ?l1 ?c1 ?k1 ?a2 ?l2 ?c2 ?k2 ?a3 ?l3 ?c3 ?k3 ?a4 ?l4 ?c4 ?k4 ?a5 ?l5 ?c5 ?k5 ?a6 ?l6 ?c6 ?k6 ?a7 ?l7 ?c7 ?k7 ?a8 ?l8 ?c8 ?k8 ?a9 ?l9 ?c9 ?k9 ?a10 ?l10 ?c10 ?k10 ?a11 ?l11 ?c11 ?k11 ?a12 ?l12 ?c12 ?k12 ?a13 ?l13 ?c13 ?k13 ?a14 ?l14 ?c14 ?k14 ?a15 ?l15 ?c15 ?k15 ?a16 ?l16 ?c16 ?k16 ?a17 ?l17 ?c17 ?k17 ?a18 ?l18 ?c18 ?k18 ?a19 ?l19 ?c19 ?k19 ?a20 ?l20 ?c20 ?k20 ?a21 ?l21 ?c21 ?k21 ?a22 ?l22 ?c22 ?k22 ?a23 ?l23 ?c23 ?k23 ?a24 ?l24 ?c24 ?k24 ?a25 ?l25 ?c25 ?k25 ?a26 ?l26 ?c26 ?k26 ?a27 ?l27 ?c27 ?k27 ?a28 ?l28 ?c28 ?k28 ?a29 ?l29 ?c29 ?k29 ?a30 ?l30 ?c30 ?k30 ?a31 ?l31 ?c31 ?k31 ?a32 ?l32 ?c32 ?k32 ?y1 ?y2 ?y3 ?lL ?eL ?nL ?lN ?eN ?nN ?nPP ?z1 ?z2 ?z3 ?z4 ?z5 ?z6 ?z7 ?z8 ?z9 ?z10 ?z11 ?z12 ?z13
    (case a1 => k_is); (case l1 => k_is); (case c1 => k_is); (case k1 => k_is)
    (case a2 => k_is); (case l2 => k_is); (case c2 => k_is); (case k2 => k_is)
    (case a3 => k_is); (case l3 => k_is); (case c3 => k_is); (case k3 => k_is)
    (case a4 => k_is); (case l4 => k_is); (case c4 => k_is); (case k4 => k_is)
    (case a5 => k_is); (case l5 => k_is); (case c5 => k_is); (case k5 => k_is)
    (case a6 => k_is); (case l6 => k_is); (case c6 => k_is); (case k6 => k_is)
    (case a7 => k_is); (case l7 => k_is); (case c7 => k_is); (case k7 => k_is)
    (case a8 => k_is); (case l8 => k_is); (case c8 => k_is); (case k8 => k_is)
    (case a9 => k_is); (case l9 => k_is); (case c9 => k_is); (case k9 => k_is)
    (case a10 => k_is); (case l10 => k_is); (case c10 => k_is); (case k10 => k_is)
    (case a11 => k_is); (case l11 => k_is); (case c11 => k_is); (case k11 => k_is)
    (case a12 => k_is); (case l12 => k_is); (case c12 => k_is); (case k12 => k_is)
    (case a13 => k_is); (case l13 => k_is); (case c13 => k_is); (case k13 => k_is)
    (case a14 => k_is); (case l14 => k_is); (case c14 => k_is); (case k14 => k_is)
    (case a15 => k_is); (case l15 => k_is); (case c15 => k_is); (case k15 => k_is)
    (case a16 => k_is); (case l16 => k_is); (case c16 => k_is); (case k16 => k_is)
    (case a17 => k_is); (case l17 => k_is); (case c17 => k_is); (case k17 => k_is)
    (case a18 => k_is); (case l18 => k_is); (case c18 => k_is); (case k18 => k_is)
    (case a19 => k_is); (case l19 => k_is); (case c19 => k_is); (case k19 => k_is)
    (case a20 => k_is); (case l20 => k_is); (case c20 => k_is); (case k20 => k_is)
    (case a21 => k_is); (case l21 => k_is); (case c21 => k_is); (case k21 => k_is)
    (case a22 => k_is); (case l22 => k_is); (case c22 => k_is); (case k22 => k_is)
    (case a23 => k_is); (case l23 => k_is); (case c23 => k_is); (case k23 => k_is)
    (case a24 => k_is); (case l24 => k_is); (case c24 => k_is); (case k24 => k_is)
    (case a25 => k_is); (case l25 => k_is); (case c25 => k_is); (case k25 => k_is)
    (case a26 => k_is); (case l26 => k_is); (case c26 => k_is); (case k26 => k_is)
    (case a27 => k_is); (case l27 => k_is); (case c27 => k_is); (case k27 => k_is)
    (case a28 => k_is); (case l28 => k_is); (case c28 => k_is); (case k28 => k_is)
    (case a29 => k_is); (case l29 => k_is); (case c29 => k_is); (case k29 => k_is)
    (case a30 => k_is); (case l30 => k_is); (case c30 => k_is); (case k30 => k_is)
    (case a31 => k_is); (case l31 => k_is); (case c31 => k_is); (case k31 => k_is)
    (case a32 => k_is); (case l32 => k_is); (case c32 => k_is); (case k32 => k_is)
    (case y1 => k_is); (case y2 => k_is); (case y3 => k_is)
    (case lL => k_is); (case eL => rfl); (case nL => kernel_rfl); (case lN => k_is); (case eN => rfl); (case nN => kernel_rfl); (case nPP => decide)
    (case z1 => k_is); (case z2 => k_is); (case z3 => k_is); (case z4 => k_is); (case z5 => k_is); (case z6 => k_is); (case z7 => k_is); (case z8 => k_is); (case z9 => k_is); (case z10 => k_is); (case z11 => k_is); (case z12 => k_is); (case z13 => k_is)
