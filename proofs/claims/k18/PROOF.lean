import PyProof.Rows.All
import Wide.All
import OpenK.AllK
import Wide.FinOn
import HandS.Base
import HandS.Call
import HandS.List
import HandS.Words
import HandS.WordsList
import HandS.WordsDict
import HandS.Comp
import HandS.Dict
import HandS.Iter
import HandS.Ends
import HandS.IsInst
import HandS.Deep
import HandS.Style
import HandS.Flow
import HandS.TupAny
import HandS.SortInts
import HandS.EndTab
import KE.SortData
import KE.GoesEnum
import HandS.ExcInit
import HandS.ExcField
import HandS.ExcOwn
import HandS.TryOnly
import HandS.WordsExc
import HandS.AnyAll
import HandS.Nested
import KE.DataCmp
import KE.KRevSl
import KE.KDictKeyed
import KE.KeyNested
import HandS.Text
import HandS.Codes
import HandS.Steps
import HandS.StrMore
import PyProof.FitsInt
import HandS.Star
import HandS.Conv
import HandS.More
import HandS.FStr
import HandS.DictComp
import PySem.Challenge.RW_wherewritten_k18_shown_terms
set_option Elab.async false
set_option linter.all false
set_option maxRecDepth 100000
set_option maxHeartbeats 4000000
namespace Com
open PySem PySem.Spec PyProof.Rows L2
/-! data that are tuples all the way down -/
mutual
inductive Dt (H : Hp) : V → PyData → Prop
  | non : Dt H .non .none
  | bl (b : Bool) : Dt H (.bl b) (.bool b)
  | int (i : Int) : Dt H (.int i) (.int i)
  | str (x : Str) : Dt H (.str x) (.str x)
  | tup {a : Addr} {xs : List V} {ds : List PyData} : H a = some (.tup xs) → DtAll H xs ds → Dt H (.ref a) (.tuple ds)
inductive DtAll (H : Hp) : List V → List PyData → Prop
  | nil : DtAll H [] []
  | cons {v : V} {vs : List V} {d : PyData} {ds : List PyData} : Dt H v d → DtAll H vs ds → DtAll H (v :: vs) (d :: ds)
end
/-- the tuples stand -/
def Tk (H H' : Hp) : Prop := ∀ a xs, H a = some (.tup xs) → H' a = some (.tup xs)
theorem Tk.refl (H : Hp) : Tk H H := fun _ _ h => h
theorem Tk.trans {H1 H2 H3 : Hp} (a : Tk H1 H2) (b : Tk H2 H3) : Tk H1 H3 := fun c xs h => b c xs (a c xs h)
theorem Tk.upd {H : Hp} {a : Addr} {o : HO} (h : ∀ xs, H a ≠ some (.tup xs)) : Tk H (upd H a o) := fun b xs e => by
  have : b ≠ a := fun z => h xs (z ▸ e)
  rw [upd_ne this]
  exact e
theorem Tk.new {H : Hp} {a : Addr} {o : HO} (h : H a = none) : Tk H (L2.upd H a o) := Tk.upd fun xs e => by rw [h] at e; cases e
mutual
theorem Dt.mono {H H' : Hp} (k : Tk H H') : ∀ (d : PyData) (v : V), Dt H v d → Dt H' v d
  | .none, _, h => by cases h; exact .non
  | .bool _, _, h => by cases h; exact .bl _
  | .int _, _, h => by cases h; exact .int _
  | .str _, _, h => by cases h; exact .str _
  | .list _, _, h => by cases h
  | .tuple ds, _, h => by
    cases h with
    | tup e q => exact .tup (k _ _ e) (DtAll.mono k ds _ q)
  | .dict _, _, h => by cases h
theorem DtAll.mono {H H' : Hp} (k : Tk H H') : ∀ (ds : List PyData) (vs : List V), DtAll H vs ds → DtAll H' vs ds
  | [], _, h => by cases h; exact .nil
  | d :: ds, _, h => by
    cases h with
    | cons h1 h2 => exact .cons (Dt.mono k d _ h1) (DtAll.mono k ds _ h2)
end
theorem Dt.tk {H H' : Hp} {v : V} {d : PyData} (h : Dt H v d) (k : Tk H H') : Dt H' v d := Dt.mono k d v h
theorem DtAll.tk {H H' : Hp} {v : List V} {d : List PyData} (h : DtAll H v d) (k : Tk H H') : DtAll H' v d := DtAll.mono k d v h
mutual
theorem Dt.toDp {K : PySem.W.Frag} {H : Hp} : ∀ (d : PyData) (v : V), Dt H v d → Dp K H v d
  | .none, _, h => by cases h; exact .non
  | .bool _, _, h => by cases h; exact .bl _
  | .int _, _, h => by cases h; exact .int _
  | .str _, _, h => by cases h; exact .str _
  | .list _, _, h => by cases h
  | .tuple ds, _, h => by
    cases h with
    | tup e q => exact .tup (SqT.of e) (DtAll.toDp ds _ q)
  | .dict _, _, h => by cases h
theorem DtAll.toDp {K : PySem.W.Frag} {H : Hp} : ∀ (ds : List PyData) (vs : List V), DtAll H vs ds → DpAll K H vs ds
  | [], _, h => by cases h; exact .nil
  | d :: ds, _, h => by
    cases h with
    | cons h1 h2 => exact .cons (Dt.toDp d _ h1) (DtAll.toDp ds _ h2)
end
theorem Dt.dp {K : PySem.W.Frag} {H : Hp} {v : V} {d : PyData} (h : Dt H v d) : Dp K H v d := Dt.toDp d v h
theorem DtAll.dp {K : PySem.W.Frag} {H : Hp} {v : List V} {d : List PyData} (h : DtAll H v d) : DpAll K H v d := DtAll.toDp d v h
theorem DtAll.len {H : Hp} : ∀ {vs : List V} {ds : List PyData}, DtAll H vs ds → vs.length = ds.length
  | _, _, .nil => rfl
  | _, _, .cons _ h => congrArg (· + 1) h.len
theorem DtAll.get {H : Hp} : ∀ {vs : List V} {ds : List PyData} {i : Nat} {x : V}, DtAll H vs ds → vs[i]? = some x → ∃ d, ds[i]? = some d ∧ Dt H x d
  | _, _, _, _, .nil, e => by simp at e
  | _, _, 0, _, .cons h _, e => by
    simp at e
    subst e
    exact ⟨_, rfl, h⟩
  | _, _, i + 1, _, .cons _ t, e => by
    have e' := e
    simp only [List.getElem?_cons_succ] at e'
    obtain ⟨d, h1, h2⟩ := DtAll.get t e'
    exact ⟨d, by simpa using h1, h2⟩
theorem DtAll.at {H : Hp} {vs : List V} {ds : List PyData} {i : Nat} {d : PyData} (h : DtAll H vs ds) (e : ds[i]? = some d) : ∃ x, vs[i]? = some x ∧ Dt H x d := by
  have hi := (List.getElem?_eq_some_iff.mp e).1
  have hv : i < vs.length := by rw [h.len]; exact hi
  obtain ⟨d', e', q⟩ := h.get (List.getElem?_eq_getElem hv)
  rw [e] at e'
  cases e'
  exact ⟨_, List.getElem?_eq_getElem hv, q⟩
theorem DtAll.get_map {H : Hp} {α : Type} {f : α → PyData} {l : List α} {vs : List V} {i : Nat} {x : V} (h : DtAll H vs (l.map f)) (e : vs[i]? = some x) : ∃ a, l[i]? = some a ∧ Dt H x (f a) := by
  obtain ⟨d, h1, h2⟩ := h.get e
  rw [List.getElem?_map] at h1
  cases q : l[i]? with
  | none => rw [q] at h1; cases h1
  | some a =>
    rw [q] at h1
    cases h1
    exact ⟨a, rfl, h2⟩
theorem DtAll.app {H : Hp} : ∀ {vs ws : List V} {ds es : List PyData}, DtAll H vs ds → DtAll H ws es → DtAll H (vs ++ ws) (ds ++ es)
  | _, _, _, _, .nil, s => s
  | _, _, _, _, .cons r t, s => .cons r (t.app s)
theorem DtAll.one {H : Hp} {v : V} {d : PyData} (h : Dt H v d) : DtAll H [v] [d] := .cons h .nil
theorem Dt.intE {H : Hp} {v : V} {i : Int} (h : Dt H v (.int i)) : v = .int i := by cases h; rfl
theorem Dt.strE {H : Hp} {v : V} {x : Str} (h : Dt H v (.str x)) : v = .str x := by cases h; rfl
theorem Dt.nonE {H : Hp} {v : V} (h : Dt H v .none) : v = .non := by cases h; rfl
theorem Dt.blE {H : Hp} {v : V} {b : Bool} (h : Dt H v (.bool b)) : v = .bl b := by cases h; rfl
theorem Dt.tupE {H : Hp} {v : V} {ds : List PyData} (h : Dt H v (.tuple ds)) : ∃ a xs, v = .ref a ∧ H a = some (.tup xs) ∧ DtAll H xs ds := by
  cases h with
  | tup e q => exact ⟨_, _, rfl, e, q⟩
theorem DtAll.consE {H : Hp} {vs : List V} {d : PyData} {ds : List PyData} (h : DtAll H vs (d :: ds)) : ∃ x r, vs = x :: r ∧ Dt H x d ∧ DtAll H r ds := by
  cases h with
  | cons h1 h2 => exact ⟨_, _, rfl, h1, h2⟩
theorem DtAll.nilE {H : Hp} {vs : List V} (h : DtAll H vs []) : vs = [] := by cases h; rfl
/-! == of data without truth values is their being one -/
mutual
def pl : PyData → Bool
  | .none | .int _ | .str _ => true
  | .bool _ | .dict _ => false
  | .list xs | .tuple xs => plAll xs
def plAll : List PyData → Bool
  | [] => true
  | x :: xs => pl x && plAll xs
end
mutual
theorem eqv_pl : ∀ (d e : PyData), pl d = true → pl e = true → (PyData.eqv d e = true ↔ d = e)
  | .none, e, _, h => by cases e <;> simp [PyData.eqv, pl] at h ⊢
  | .int i, e, _, h => by cases e <;> simp [PyData.eqv, pl] at h ⊢
  | .str i, e, _, h => by cases e <;> simp [PyData.eqv, pl] at h ⊢
  | .bool b, _, h, _ => by simp [pl] at h
  | .dict b, _, h, _ => by simp [pl] at h
  | .list xs, e, h, h' => by
    cases e with
    | list ys =>
      have q := eqvAll_pl xs ys (by simpa [pl] using h) (by simpa [pl] using h')
      simp only [PyData.eqv, PyData.list.injEq]
      exact q
    | _ => simp [PyData.eqv]
  | .tuple xs, e, h, h' => by
    cases e with
    | tuple ys =>
      have q := eqvAll_pl xs ys (by simpa [pl] using h) (by simpa [pl] using h')
      simp only [PyData.eqv, PyData.tuple.injEq]
      exact q
    | _ => simp [PyData.eqv]
theorem eqvAll_pl : ∀ (d e : List PyData), plAll d = true → plAll e = true → (PyData.eqvAll d e = true ↔ d = e)
  | [], e, _, _ => by cases e <;> simp [PyData.eqvAll]
  | x :: xs, [], _, _ => by simp [PyData.eqvAll]
  | x :: xs, y :: ys, h, h' => by
    simp only [plAll, Bool.and_eq_true] at h h'
    simp only [PyData.eqvAll, Bool.and_eq_true, List.cons.injEq]
    rw [eqv_pl x y h.1 h'.1, eqvAll_pl xs ys h.2 h'.2]
end
theorem any_pl {ds : List PyData} {d : PyData} (h : plAll ds = true) (hd : pl d = true) : (ds.any fun z => PyData.eqv z d) = true ↔ d ∈ ds := by
  induction ds with
  | nil => simp
  | cons x xs ih =>
    simp only [plAll, Bool.and_eq_true] at h
    rw [List.any_cons, Bool.or_eq_true, ih h.2, eqv_pl x d h.1 hd, List.mem_cons]
    constructor
    · rintro (q | q)
      · exact .inl q.symm
      · exact .inr q
    · rintro (q | q)
      · exact .inl q.symm
      · exact .inr q
/-! in, not in, of a tuple of data -/
section
variable {X : Cx}
def rInT (K : PySem.W.Frag) : R2 := fun x y H Q => ∃ d ds, Dp K H x d ∧ Dp K H y (.tuple ds) ∧ SeqAt.shaped d = true ∧ SeqAt.shaped (.tuple ds) = true ∧ Q (.bl (ds.any fun z => PyData.eqv z d)) H
def rNotInT (K : PySem.W.Frag) : R2 := fun x y H Q => ∃ d ds, Dp K H x d ∧ Dp K H y (.tuple ds) ∧ SeqAt.shaped d = true ∧ SeqAt.shaped (.tuple ds) = true ∧ Q (.bl (!ds.any fun z => PyData.eqv z d)) H
theorem room_in {A : Around} {d : PyData} {ds : List PyData} (sd : SeqAt.shaped d = true) (hu : A.units + 65 < cLine) : A.units + 1 + min (PyData.depthAll ds) d.depth < cLine := by
  have h : d.depth ≤ 64 := by
    have q : (d.canLay0 && decide (d.depth ≤ 64)) = true := sd
    rw [Bool.and_eq_true] at q
    exact of_decide_eq_true q.2
  have := Nat.min_le_right (PyData.depthAll ds) d.depth
  omega
theorem op_inT (hu : X.A.units + 65 < cLine) : OpR X (compareOp .In) (rInT X.K) := by
  intro pins s σ H x y v u Q I rx ry h
  obtain ⟨d, ds, hd, he, sd, se, q⟩ := h
  obtain ⟨as, r1⟩ := Dp.reads I d x v hd rx
  obtain ⟨bs, r2⟩ := Dp.reads I (.tuple ds) y u he ry
  exact SeqAt.in_tuple_reads r2 r1 (SeqAt.canLay_of_shaped se) (SeqAt.canLay_of_shaped sd) (room_in sd hu) ⟨.bl _, H, I, rfl, q⟩
theorem op_notInT (hu : X.A.units + 65 < cLine) : OpR X (compareOp .NotIn) (rNotInT X.K) := by
  intro pins s σ H x y v u Q I rx ry h
  obtain ⟨d, ds, hd, he, sd, se, q⟩ := h
  obtain ⟨as, r1⟩ := Dp.reads I d x v hd rx
  obtain ⟨bs, r2⟩ := Dp.reads I (.tuple ds) y u he ry
  exact SeqAt.notIn_tuple_reads r2 r1 (SeqAt.canLay_of_shaped se) (SeqAt.canLay_of_shaped sd) (room_in sd hu) ⟨.bl _, H, I, rfl, q⟩
theorem units65 {k : Nat} {A : Around} (r : Room k A) : A.units + 65 < cLine := by have := r.un; omega
end
end Com
set_option Elab.async false
set_option linter.all false
set_option maxRecDepth 100000
set_option maxHeartbeats 4000000
namespace Com
open PySem PySem.Spec PyProof.Rows L2
theorem b_len : bootBuiltins "len" = some (.builtin "len") := by decide +kernel
theorem b_abs : bootBuiltins "abs" = some (.builtin "abs") := by decide +kernel
theorem b_int : bootBuiltins "int" = some (.type "int") := by decide +kernel
theorem b_bool : bootBuiltins "bool" = some (.type "bool") := by decide +kernel
theorem b_str : bootBuiltins "str" = some (.type "str") := by decide +kernel
theorem b_tuple : bootBuiltins "tuple" = some (.type "tuple") := by decide +kernel
theorem b_list : bootBuiltins "list" = some (.type "list") := by decide +kernel
theorem b_dict : bootBuiltins "dict" = some (.type "dict") := by decide +kernel
theorem b_range : bootBuiltins "range" = some (.type "range") := by decide +kernel
theorem b_enumerate : bootBuiltins "enumerate" = some (.type "enumerate") := by decide +kernel
theorem b_isinstance : bootBuiltins "isinstance" = some (.builtin "isinstance") := by decide +kernel
theorem b_sorted : bootBuiltins "sorted" = some (.builtin "sorted") := by decide +kernel
theorem b_any : bootBuiltins "any" = some (.builtin "any") := by decide +kernel
theorem b_all : bootBuiltins "all" = some (.builtin "all") := by decide +kernel
theorem b_max : bootBuiltins "max" = some (.builtin "max") := by decide +kernel
theorem b_min : bootBuiltins "min" = some (.builtin "min") := by decide +kernel
/-! defs by name -/
structure Dfn (K : PySem.W.Frag) (mg : Str → Option Value) (x : Str) (st : Stmt) (f : Addr) (fd : FuncData) (ps : List Str) : Prop where
  fn : Fun K x x st f fd
  mgf : mg x = some (.ref f)
  b : Binds K fd ps []
def Cal (P : Program) (w : World) (K : PySem.W.Frag) (mg : Str → Option Value) (base : Heap) (k : Nat) (x : Str) (sp : Sp) : Prop :=
  ∃ (f : Addr) (fd : FuncData) (ps : List Str), FnOk P w K mg base CX0 k f fd ps sp ∧ mg x = some (.ref f) ∧ PySem.W.keepIn K (.ref f) = true ∧ Binds K fd ps []
section
variable {P : Program} {w : World} {K : PySem.W.Frag} {mg : Str → Option Value} {base : Heap}
theorem Cal.mono {j k : Nat} {x : Str} {sp : Sp} (c : Cal P w K mg base j x sp) (h : j ≤ k) : Cal P w K mg base k x sp := by
  obtain ⟨f, fd, ps, F, r⟩ := c
  exact ⟨f, fd, ps, F.mono h, r⟩
theorem Cal.imp {k : Nat} {x : Str} {sp sp' : Sp} (c : Cal P w K mg base k x sp) (h : ∀ vs H Q E, sp' vs H Q E → sp vs H Q E) : Cal P w K mg base k x sp' := by
  obtain ⟨f, fd, ps, F, r⟩ := c
  exact ⟨f, fd, ps, F.imp h, r⟩
theorem cal_mk {x : Str} {st : Stmt} {f : Addr} {fd : FuncData} {N ps : List Str} {k : Nat} {sp : Sp} (F : Dfn K mg x st f fd ps) (S : FnScope N ps (defScope st)) (len : ∀ vs H Q E, sp vs H Q E → vs.length = ps.length)
    (hbody : ∀ (cdv : Value) (A : Around) (outer : List Env) (s : Shared) (H : Hp) (vs : List V) (Q : VK) (E : XK), Room k (A.deeper (envOfC x (defScope st) s.heap.objs.size f cdv)) → sp vs H Q E →
      ∃ t, PSs (cxOf CX0 P w K mg base N x (defScope st) f cdv A outer s H E).nox (defBody st) t ∧ t { nx := fun _ H' => Q .non H', rt := Q } (start N vs) H) : Cal P w K mg base (k + 1) x sp :=
  ⟨f, fd, ps, F.fn.ok S len hbody, F.mgf, F.fn.kp, F.b⟩
end
section
variable {X : Cx} {k j : Nat} {x : Str} {sp : Sp} {p pos : Pos} {e : Expr} {es : List Expr} {t : TA}
theorem pe_c (c : Cal X.prog X.w X.K X.mg X.base k x sp) (hr : Room j X.A) (hk : k ≤ j) (hg : Gl X x) (ha : PA X (e :: es) t)
    (hdb : (x == ("__debug__" : Str)) = false := by decide) (he : starEach (e :: es) X.env = (false, eval e X.env) :: starEach es X.env := by rfl) (hpl : (backTo pos (starEach es X.env)).any (·.1) = false := by rfl) :
    PE X (.Call (.Name x p) (e :: es) [] pos) (tCall sp [] E0 t) := by
  obtain ⟨f, fd, ps, F, hm, kp, b⟩ := c
  exact pe_call F (hr.mono hk) hg hm kp b .nil pass0 ha hdb he hpl
end
/-! sorted of a list of data -/
section
variable {X : Cx}
def rSortedD (K : PySem.W.Frag) : List V → Hp → VK → Prop := fun xs H Q => ∃ (a : Addr) (vs : List V) (ds : List PyData), xs = [.ref a] ∧ SqL K H a vs ∧ DpAll K H vs ds ∧ PySem.W.AllAlike ds ∧ PySem.W.Sortable ds ∧ (∀ d ∈ ds, d.depth ≤ 8) ∧
  ∀ p, H p = none → Q (.ref p) (upd H p (.lst (((vs.zip ds).mergeSort (PySem.W.dataLe false Prod.snd)).map Prod.fst)))
theorem each_zip {h : Heap} : ∀ {vs : List V} {us : List Value} {ds : List PyData}, Vals vs us → vs.length = ds.length → PySem.W.EachIs (fun (v : Value) (b : V × PyData) => RelV b.1 v) us (vs.zip ds)
  | _, _, [], .nil, _ => .nil
  | _, _, d :: ds, .cons r t, e => .cons r (each_zip (h := h) t (by simpa using e))
theorem each_zip_reads {h : Heap} : ∀ {vs : List V} {us : List Value} {ds : List PyData} {as : List Addr}, vs.length = ds.length → ReadsAll h us ds as → PySem.W.EachIs (fun (v : Value) (b : V × PyData) => ∃ as, Reads h v b.2 as) us (vs.zip ds)
  | [], _, [], _, _, r => by cases r; exact .nil
  | v :: vs, _, d :: ds, _, e, r => by
    cases r with
    | cons h1 h2 => exact .cons ⟨_, h1⟩ (each_zip_reads (by simpa using e) h2)
theorem vals_of_each : ∀ {out : List Value} {bs : List (V × PyData)}, PySem.W.EachIs (fun (v : Value) (b : V × PyData) => RelV b.1 v) out bs → Vals (bs.map Prod.fst) out
  | _, _, .nil => .nil
  | _, _, .cons h t => .cons h (vals_of_each t)
theorem zip_snd {vs : List V} {ds : List PyData} (e : vs.length = ds.length) : (vs.zip ds).map Prod.snd = ds := by
  rw [List.map_snd_zip]
  omega
theorem DpAll_len {K : PySem.W.Frag} {H : Hp} : ∀ {vs : List V} {ds : List PyData}, DpAll K H vs ds → vs.length = ds.length
  | _, _, .nil => rfl
  | _, _, .cons _ h => congrArg (· + 1) (DpAll_len h)
theorem call_sortedD (hu : X.A.units + 65 < cLine) : CallR X (.builtin "sorted") (rSortedD X.K) := by
  intro pins s σ H xs us Q I r h
  obtain ⟨a, vs, ds, rfl, hl, hd, hal, hk, hdp, q⟩ := h
  obtain ⟨u, rfl, ru⟩ := vals1 r
  cases (show u = Value.ref a from ru)
  obtain ⟨its, rv, pl, hlen⟩ := I.list hl
  obtain ⟨as, rd⟩ := Dp.readsAll I ds vs its hd rv
  have el := DpAll_len hd
  have es := zip_snd el
  refine PySem.W.sorted_data (R := fun (v : Value) (b : V × PyData) => RelV b.1 v) (enc := Prod.snd) (bs := vs.zip ds) (vs := its) pl.isList (each_zip (h := s.heap) rv el) (each_zip_reads el rd) (by rw [es]; exact hal) (by rw [es]; exact hk) (by rw [List.length_zip]; omega) (fun b hb => ?_) fun out ho eo => ?_
  · have hb2 : b.2 ∈ ds := by
      rw [← es]
      exact List.mem_map.mpr ⟨b, hb, rfl⟩
    have := hdp _ hb2
    omega
  · obtain ⟨ep, he'⟩ := PyProof.Rows.sortedAll_at s.heap its (List.toArray out)
    refine ⟨.ref _, upd H (s.heap.objs.size + 1) (.lst (((vs.zip ds).mergeSort (PySem.W.dataLe false Prod.snd)).map Prod.fst)), I.laid (t' := s.toks) (fun _ _ => PyProof.Rows.sortedAll_old) (Nat.le_succ _) ⟨?_, out, ep, vals_of_each eo, he'⟩, rfl, q _ (I.hok.fresh (Nat.le_succ _))⟩
    rw [List.length_map, List.length_mergeSort, List.length_zip]
    omega
end
/-! sorted lists told by what they are made of -/
theorem DtAll.of_pairs {H : Hp} {α : Type} {f : α → PyData} : ∀ {zs : List (V × α)}, (∀ z ∈ zs, Dt H z.1 (f z.2)) → DtAll H (zs.map Prod.fst) ((zs.map Prod.snd).map f)
  | [], _ => .nil
  | z :: zs, h => .cons (h z List.mem_cons_self) (DtAll.of_pairs fun y hy => h y (List.mem_cons_of_mem _ hy))
theorem DtAll.pairs {H : Hp} {α : Type} {f : α → PyData} : ∀ {vs : List V} {l : List α}, DtAll H vs (l.map f) → ∀ z ∈ vs.zip l, Dt H z.1 (f z.2)
  | [], _, _, z, hz => by simp at hz
  | v :: vs, [], h, z, hz => by simp at hz
  | v :: vs, a :: l, h, z, hz => by
    have h' : DtAll H (v :: vs) (f a :: l.map f) := h
    cases h' with
    | cons h1 h2 =>
      rw [List.zip_cons_cons] at hz
      rcases List.mem_cons.mp hz with e | hz
      · rw [e]; exact h1
      · exact DtAll.pairs h2 z hz
theorem zip_map_r {α β γ : Type} (f : β → γ) : ∀ (vs : List α) (l : List β), vs.zip (l.map f) = (vs.zip l).map fun p => (p.1, f p.2)
  | [], _ => by simp
  | _ :: _, [] => by simp
  | v :: vs, a :: l => by simp [zip_map_r f vs l]
/-- the list of an encoded list, sorted, stands for the sorted list -/
theorem sorted_enc {H : Hp} {α : Type} {f : α → PyData} {vs : List V} {l : List α} (h : DtAll H vs (l.map f)) :
    DtAll H (((vs.zip (l.map f)).mergeSort (PySem.W.dataLe false Prod.snd)).map Prod.fst) ((l.mergeSort (PySem.W.dataLe false f)).map f) := by
  have el : vs.length = l.length := by rw [h.len, List.length_map]
  rw [zip_map_r]
  rw [← PySem.W.sort_maps (r := PySem.W.dataLe false fun p : V × α => f p.2) (s := PySem.W.dataLe false Prod.snd) (fun p : V × α => (p.1, f p.2)) (fun _ _ _ _ => rfl), List.map_map]
  have e2 : (l.mergeSort (PySem.W.dataLe false f)) = ((vs.zip l).mergeSort (PySem.W.dataLe false fun p : V × α => f p.2)).map Prod.snd := by
    rw [PySem.W.sort_maps (r := PySem.W.dataLe false fun p : V × α => f p.2) (s := PySem.W.dataLe false f) Prod.snd (fun _ _ _ _ => rfl), List.map_snd_zip (by omega)]
  rw [e2]
  exact DtAll.of_pairs fun z hz => DtAll.pairs h z (by rw [List.mem_mergeSort] at hz; exact hz)
/-- lists of whole numbers -/
def natV (l : List Nat) : List V := l.map fun n => .int (n : Nat)
theorem nat_dt (H : Hp) : ∀ l : List Nat, DtAll H (natV l) (l.map fun n => .int (n : Nat))
  | [] => .nil
  | n :: l => .cons (.int _) (nat_dt H l)
theorem dt_nat {H : Hp} : ∀ {l : List Nat} {vs : List V}, DtAll H vs (l.map fun n => PyData.int (n : Nat)) → vs = natV l
  | [], _, h => by cases h; rfl
  | n :: l, _, h => by
    have h' : DtAll H _ (PyData.int (n : Nat) :: l.map fun n => PyData.int (n : Nat)) := h
    cases h' with
    | cons h1 h2 =>
      rw [h1.intE, dt_nat h2]
      rfl
theorem natV_get {l : List Nat} {i : Nat} {v : V} (h : (natV l)[i]? = some v) : ∃ n, l[i]? = some n ∧ v = .int (n : Nat) := by
  unfold natV at h
  rw [List.getElem?_map] at h
  cases e : l[i]? with
  | none => rw [e] at h; cases h
  | some n => rw [e] at h; exact ⟨n, rfl, (Option.some.inj h).symm⟩
theorem natV_at {l : List Nat} {i n : Nat} (h : l[i]? = some n) : (natV l)[i]? = some (.int (n : Nat)) := by
  unfold natV
  rw [List.getElem?_map, h]
  rfl
theorem natV_app (l m : List Nat) : natV (l ++ m) = natV l ++ natV m := List.map_append
theorem natV_len (l : List Nat) : (natV l).length = l.length := List.length_map _
/-! rules with the written part named: for comprehensions' blocks, too -/
section
variable {X : Cx} (K : PySem.W.Frag)
theorem ixT (h : X.K = K) : IxR X (rIxT K) := h ▸ ix_tup
theorem ixL (h : X.K = K) : IxR X (rIxL K) := h ▸ ix_list
theorem ixQ (h : X.K = K) : IxR X (rIx K) := h ▸ ix_seq
theorem opInT (h : X.K = K) (hu : X.A.units + 65 < cLine) : OpR X (compareOp .In) (rInT K) := h ▸ op_inT hu
theorem opNotInT (h : X.K = K) (hu : X.A.units + 65 < cLine) : OpR X (compareOp .NotIn) (rNotInT K) := h ▸ op_notInT hu
theorem opInD (h : X.K = K) (hu : X.A.units + 65 < cLine) : OpR X (compareOp .In) (rInD K) := h ▸ op_inD hu
theorem opNotInD (h : X.K = K) (hu : X.A.units + 65 < cLine) : OpR X (compareOp .NotIn) (rNotInD K) := h ▸ op_notInD hu
theorem opEqD (h : X.K = K) (hu : X.A.units + 64 < cLine) : OpR X (compareOp .Eq) (rEqD K) := h ▸ op_eqD hu
theorem opNeD (h : X.K = K) (hu : X.A.units + 64 < cLine) : OpR X (compareOp .NotEq) (rNeD K) := h ▸ op_neD hu
theorem opCatT (h : X.K = K) : OpR X (binaryOp .Add) (rCatT K) := h ▸ op_catT
def rLen (K : PySem.W.Frag) : List V → Hp → VK → Prop := fun xs H Q => ∃ p ys, xs = [.ref p] ∧ (SqL K H p ys ∨ SqT K H p ys) ∧ Q (.int ys.length) H
theorem cLen (h : X.K = K) : CallR X (.builtin "len") (rLen K) := h ▸ call_len_seq
def rListOf (K : PySem.W.Frag) : List V → Hp → VK → Prop := fun xs H Q => ∃ p ys, xs = [.ref p] ∧ (SqL K H p ys ∨ SqT K H p ys) ∧ ∀ l, H l = none → Q (.ref l) (upd H l (.lst ys))
theorem cList (h : X.K = K) : CallR X (.type "list") (rListOf K) := h ▸ call_list_of
def rTupOf (K : PySem.W.Frag) : List V → Hp → VK → Prop := fun xs H Q => ∃ p ys, xs = [.ref p] ∧ ((SqL K H p ys ∧ ∀ l, H l = none → Q (.ref l) (upd H l (.tup ys))) ∨ (SqT K H p ys ∧ Q (.ref p) H))
theorem cTup (h : X.K = K) : CallR X (.type "tuple") (rTupOf K) := h ▸ call_tuple_of
theorem cSort (h : X.K = K) (hu : X.A.units + 65 < cLine) : CallR X (.builtin "sorted") (rSortedD K) := h ▸ call_sortedD hu
theorem cIsi (h : X.K = K) : CallR X (.builtin "isinstance") (rIsi K) := h ▸ call_isi
theorem slT (h : X.K = K) : SlR X (rSlT K) := h ▸ sl_tup
theorem slA (h : X.K = K) : SlR X (rSlA K) := h ▸ sl_tupA
end
/-! small lemmas -/
def Sq (K : PySem.W.Frag) (H : Hp) (a : Addr) (xs : List V) : Prop := SqL K H a xs ∨ SqT K H a xs
theorem ixq {K : PySem.W.Frag} {H : Hp} {a : Addr} {xs : List V} {i : Int} {v : V} {Q : VK} (h : Sq K H a xs) (e : atI xs i = some v) (q : Q v H) : rIx K (.ref a) (.int i) H Q :=
  h.elim (fun h => .inl ⟨a, xs, i, v, rfl, rfl, h, e, q⟩) fun h => .inr (.inl ⟨a, xs, i, v, rfl, rfl, h, e, q⟩)
theorem atN {xs : List V} {i : Nat} {v : V} (h : xs[i]? = some v) : atI xs (i : Int) = some v := atI_nat h
theorem same_upd {H : Hp} {p : Addr} {o : HO} (h : H p = none) : Same H (upd H p o) := fun b x e => by rw [upd_ne (ne_of_none e h)]; exact e
theorem same_tk {H H' : Hp} (h : Same H H') : Tk H H' := fun a xs e => h a _ e
theorem same_sqT {K : PySem.W.Frag} {H H' : Hp} {a : Addr} {xs : List V} (e : Same H H') (h : SqT K H a xs) : SqT K H' a xs := by
  rcases h with h | h
  · rcases h with h | ⟨o, h⟩
    · exact .inl (.inl (e _ _ h))
    · exact .inl (.inr ⟨o, e _ _ h⟩)
  · exact .inr h
theorem same_sq {K : PySem.W.Frag} {H H' : Hp} {a : Addr} {xs : List V} (e : Same H H') (h : Sq K H a xs) : Sq K H' a xs := h.elim (fun h => .inl (e.seq h)) fun h => .inr (same_sqT e h)
end Com
set_option Elab.async false
set_option linter.all false
set_option maxRecDepth 100000
set_option maxHeartbeats 4000000
namespace Com
open PySem PySem.Spec PyProof.Rows L2
mutual
theorem Dp.same {K : PySem.W.Frag} {H H' : Hp} (k : Same H H') : ∀ (d : PyData) (v : V), Dp K H v d → Dp K H' v d
  | .none, _, h => by cases h; exact .non
  | .bool _, _, h => by cases h; exact .bl _
  | .int _, _, h => by cases h; exact .int _
  | .str _, _, h => by cases h; exact .str _
  | .list ds, _, h => by
    cases h with
    | lst e q => exact .lst (k.seq e) (DpAll.same k ds _ q)
  | .tuple ds, _, h => by
    cases h with
    | tup e q => exact .tup (same_sqT k e) (DpAll.same k ds _ q)
  | .dict _, _, h => by cases h
theorem DpAll.same {K : PySem.W.Frag} {H H' : Hp} (k : Same H H') : ∀ (ds : List PyData) (vs : List V), DpAll K H vs ds → DpAll K H' vs ds
  | [], _, h => by cases h; exact .nil
  | d :: ds, _, h => by
    cases h with
    | cons h1 h2 => exact .cons (Dp.same k d _ h1) (DpAll.same k ds _ h2)
end
mutual
/-- no list in it is huge -/
def smD : PyData → Bool
  | .list xs | .tuple xs => decide (xs.length ≤ 1000000) && smAll xs
  | .none | .bool _ | .int _ | .str _ | .dict _ => true
def smAll : List PyData → Bool
  | [] => true
  | x :: xs => smD x && smAll xs
end
theorem smAll_mem : ∀ {ds : List PyData} {d : PyData}, smAll ds = true → d ∈ ds → smD d = true
  | x :: xs, d, h, hm => by
    simp only [smAll, Bool.and_eq_true] at h
    rcases List.mem_cons.mp hm with e | hm
    · rw [e]; exact h.1
    · exact smAll_mem h.2 hm
theorem smAll_map {α : Type} {f : α → PyData} (hf : ∀ x, smD (f x) = true) : ∀ l : List α, smAll (l.map f) = true
  | [] => rfl
  | a :: l => by simp [smAll, hf a, smAll_map hf l]
theorem DpAll.getE {K : PySem.W.Frag} {H : Hp} : ∀ {vs : List V} {ds : List PyData} {i : Nat} {x : V}, DpAll K H vs ds → vs[i]? = some x → ∃ d, ds[i]? = some d ∧ Dp K H x d
  | _, _, _, _, .nil, e => by simp at e
  | _, _, 0, _, .cons h _, e => by
    simp at e
    subst e
    exact ⟨_, rfl, h⟩
  | _, _, i + 1, _, .cons _ t, e => by
    simp only [List.getElem?_cons_succ] at e
    obtain ⟨d, h1, h2⟩ := DpAll.getE t e
    exact ⟨d, by simpa using h1, h2⟩
theorem depth_mem : ∀ {ds : List PyData} {d : PyData}, d ∈ ds → d.depth ≤ PyData.depthAll ds
  | x :: xs, d, h => by
    simp only [PyData.depthAll]
    rcases List.mem_cons.mp h with e | h
    · rw [e]; omega
    · have := depth_mem h
      omega
theorem depAll_map {α : Type} {f : α → PyData} {n : Nat} (hf : ∀ x, (f x).depth ≤ n) : ∀ l : List α, PyData.depthAll (l.map f) ≤ n
  | [] => by simp [PyData.depthAll]
  | a :: l => by
    have h1 := hf a
    have h2 := depAll_map hf l
    simp only [List.map_cons, PyData.depthAll]
    omega
theorem k_bb : kitB "bool" "bool" = some true := by decide +kernel
theorem k_ib : kitB "int" "bool" = some false := by decide +kernel
theorem k_ii : kitB "int" "int" = some true := by decide +kernel
theorem k_sb : kitB "str" "bool" = some false := by decide +kernel
theorem k_si : kitB "str" "int" = some false := by decide +kernel
theorem k_ss : kitB "str" "str" = some true := by decide +kernel
theorem k_tb : kitB "tuple" "bool" = some false := by decide +kernel
theorem k_ti : kitB "tuple" "int" = some false := by decide +kernel
theorem k_ts : kitB "tuple" "str" = some false := by decide +kernel
theorem k_tt : kitB "tuple" "tuple" = some true := by decide +kernel
theorem k_tl : kitB "tuple" "list" = some false := by decide +kernel
theorem k_lb : kitB "list" "bool" = some false := by decide +kernel
theorem k_li : kitB "list" "int" = some false := by decide +kernel
theorem k_ls : kitB "list" "str" = some false := by decide +kernel
theorem k_lt : kitB "list" "tuple" = some false := by decide +kernel
theorem k_ll : kitB "list" "list" = some true := by decide +kernel
theorem tyT {K : PySem.W.Frag} {H : Hp} {a : Addr} {xs : List V} (h : SqT K H a xs) : TyX K H (.ref a) (.type "tuple") := by
  rcases h with (h | ⟨o, h⟩) | ⟨o, its, n, h, hc, _⟩
  · exact .base (.tup h)
  · exact .fTuple h
  · exact .kTuple h hc
theorem tyL {K : PySem.W.Frag} {H : Hp} {a : Addr} {xs : List V} (h : SqL K H a xs) : TyX K H (.ref a) (.type "list") := by
  rcases h with (h | ⟨o, h⟩) | ⟨o, its, n, h, hc, _⟩
  · exact .base (.lst h)
  · exact .base (.frz h)
  · exact .kList h hc
theorem cAll {X : Cx} (K : PySem.W.Frag) (h : X.K = K) (hc : X.calm = true := by rfl) : CallR X (.builtin "all") (rAll K) := h ▸ cr_all hc
end Com
set_option Elab.async false
set_option linter.all false
set_option maxRecDepth 100000
set_option maxHeartbeats 4000000
namespace EnumT
open PySem PySem.Spec PyProof.Rows L2
theorem meets_enumerate_newB1 {v : Value} {o : Obj} {H : Heap → Prop} (B : Begins v o H) (nb : ∀ s : Shared, H s.heap → ∃ a, v = .ref a) :
    Meets (Builtin.«enumerate.__new__» ⟨[.type "enumerate", v], []⟩) (fun _ R s => H s.heap ∧
      R (.ok (.ret (.ref (s.heap.push o).objs.size))) { s with heap := (s.heap.push o).push { cls := .type "enumerate", data := .fields #[.none, .bool false, .ref s.heap.objs.size, rawInt 0, .none, .none] } }) :=
  .of_wp fun prog w A R s h => by
    obtain ⟨hp, g, d, tk, os⟩ := s; obtain ⟨h1, h⟩ := h
    have hsub := sub_enumerate
    have q1 : ∀ {A' : Around} {E : Value → Shared → Prop} {Q : Value → Shared → Prop}, Q (.ref hp.objs.size) ⟨hp.push o, g, d, tk, os⟩ → wpAny (model prog w) A' (pyIter v) Q E ⟨hp, g, d, tk, os⟩ :=
      fun q => B.iter prog w _ _ ⟨hp, g, d, tk, os⟩ _ h1 q
    wp_walk using q1
    refine wpAny_stack_any fun st => wpAny_pure ?_
    split
    · rename_i c _ _ _ _ _
      cases (c == Value.type "enumerate")
      · wp_walk using q1
        exact ⟨_, rfl, h⟩
      · wp_walk using q1
        exact ⟨_, rfl, h⟩
    · wp_walk using q1
      exact ⟨_, rfl, h⟩
theorem call_enumerate_tuple {prog : Program} {w : World} {A : Around} {E : Value → Shared → Prop} {s : Shared} {l : Addr} {items : Array Value} {Q : Value → Shared → Prop} (hL : s.heap.IsTuple l items)
    (h : ∀ h', IsEnum h' (s.heap.objs.size + 1) s.heap.objs.size 0 .none → h'.IsTupleIter s.heap.objs.size l 0 → h'.objs.size = s.heap.objs.size + 2 →
      (∀ b o, s.heap.get? b = some o → h'.get? b = some o) → Q (.ref (s.heap.objs.size + 1)) { s with heap := h' }) :
    wpAny (model prog w) A (call (.type "enumerate") [.ref l]) Q E s := by
  refine callType_new F.called_enumerate (by decide) (F.typeCall_enumerate_1 _) (F.newCall_enumerate_1 _) (fun obj => F.args_object_init_2 obj _) F.entry_enumerate_new
    (meets_enumerate_newB1 (begins_tuple l items) (fun _ _ => ⟨l, rfl⟩)) ⟨hL, ?_⟩
  have hz : (s.heap.push { cls := .type "tuple_iterator", data := .fields #[.ref l, .int 0 0] }).objs.size = s.heap.objs.size + 1 := Heap.size_push ..
  show _ ∧ _
  rw [hz]
  have he : IsEnum ((s.heap.push { cls := .type "tuple_iterator", data := .fields #[.ref l, .int 0 0] }).push
      { cls := .type "enumerate", data := .fields #[.none, .bool false, .ref s.heap.objs.size, rawInt 0, .none, .none] }) (s.heap.objs.size + 1) s.heap.objs.size 0 .none := by
    have := Heap.get?_push_size (s.heap.push { cls := .type "tuple_iterator", data := .fields #[.ref l, .int 0 0] })
      (o := { cls := .type "enumerate", data := .fields #[.none, .bool false, .ref s.heap.objs.size, rawInt 0, .none, .none] }) rfl
    rw [hz] at this; exact this
  refine ⟨⟨_, he, rfl⟩, h _ he ⟨_, Heap.get?_push_of_some _ (Heap.get?_push_size _ rfl), rfl, rfl⟩ (by rw [Heap.size_push, hz]) fun b o x => Heap.get?_push_of_some _ (Heap.get?_push_of_some _ x)⟩
/-- the tuple at a, each item in a new pair -/
def Itet (K : PySem.W.Frag) (a : Addr) : It :=
  ⟨fun i H => ∃ (xs : List V) (x : V), SqT K H a xs ∧ xs[i]? = some x, fun i H v H' => ∃ T x, v = .ref T ∧ H T = none ∧ H' = upd H T (.tup [.int (i : Nat), x]) ∧ ∀ xs, SqT K H a xs → xs[i]? = some x, fun i H => ∃ xs : List V, SqT K H a xs ∧ xs.length = i⟩
theorem turn_enumT {P : Program} {w : World} {K : PySem.W.Frag} {elts : List Expr} {kk : Nat} {tpos : Pos} (a e it : Addr) (hae : a ≠ e) (hai : a ≠ it) :
    Turn P w K (.Tuple elts kk tpos) (Itet K a) [e, it] e (fun i h => (∃ old, IsEnum h e it ((i : Nat) : Int) old) ∧ h.IsTupleIter it a i ∧ e ≠ it) where
  mem := by simp
  obj := fun i h st b hb => by
    obtain ⟨⟨old, he⟩, ⟨o, ho, hc, hd⟩, _⟩ := st
    have e' : b = e ∨ b = it := by simpa using hb
    rcases e' with z | z
    · rw [z]; exact ⟨_, he, fun v q => nomatch q⟩
    · rw [z]; exact ⟨o, ho, fun v q => by rw [hd] at q; cases q⟩
  keep := fun i h h' st k => let ⟨⟨old, he⟩, hi, hne⟩ := st; ⟨⟨old, k e (by simp) _ he⟩, hi.at fun o q => k it (by simp) o q, hne⟩
  item := by
    intro X hP hw hK hc i pins s σ H E I hf st hg
    subst hP hw hK
    obtain ⟨⟨old, he⟩, hit, hne⟩ := st
    obtain ⟨xs, x, hq, hx⟩ := hg
    obtain ⟨its, rv, ⟨oT, hoT, hcT, nT, hdT⟩, hz⟩ := I.tuple hq
    obtain ⟨u, hu, ru⟩ := rv.get hx
    have hIT : s.heap.IsTuple a its.toArray := ⟨oT, hoT, hcT, nT, hdT⟩
    have hel : e < s.heap.objs.size := Heap.lt_size he
    have hil : it < s.heap.objs.size := by obtain ⟨_, q, _⟩ := hit; exact Heap.lt_size q
    have hii : i < its.toArray.size := by
      have := (List.getElem?_eq_some_iff.mp hu).1
      simpa using this
    have hef : e ∉ [it, a] := fun z => by
      rcases List.mem_cons.mp z with z | z
      · exact hne z
      · rcases List.mem_cons.mp z with z | z
        · exact hae z.symm
        · cases z
    refine wpAny_pyNext_enum_itemC (Draws.tuple (A := X.A.in1) (I.ok.hd hc) it a hai its.toArray) he ⟨hit, hIT⟩ hii hne hef fun x' h' tk hx' ho st' hT hsz hk => ?_
    have ex' : x' = u := by
      have q : its.toArray[i]? = some x' := hx'
      have q2 : its.toArray[i]? = some u := by simpa using hu
      exact Option.some.inj (q.symm.trans q2)
    subst ex'
    refine ⟨_, rfl, wpAny_letOwnedTupleGo_enum (s := { s with heap := h', toks := tk + 1 }) ho fun h'' he' sb => ?_⟩
    have hT2 : h''.get? s.heap.objs.size = some { cls := .type "tuple", data := .seq #[.int i tk, x'] } := (sb.2 _ (Nat.ne_of_gt hel)).trans hT
    have new : ObjOk X.prog X.w (upd H s.heap.objs.size (.tup [.int (i : Nat), x])) h'' s.heap.objs.size (.tup [.int (i : Nat), x]) :=
      ⟨by show 2 ≤ sizeLine; decide, [.int i tk, x'], .cons ⟨_, rfl⟩ (.cons ru .nil), ⟨_, hT2, rfl, _, rfl⟩⟩
    have I1 : Inv X pins σ (upd H s.heap.objs.size (.tup [.int (i : Nat), x])) { s with heap := h'', toks := tk + 1 } :=
      I.turnedNew (ch := [e, it]) (fun b ob hb q => (sb.2 b (fun z => hb (by simp [z]))).trans (hk b ob (fun z => hb (by simp [z])) (fun z => hb (by simp [z])) q)) hf (Nat.le_refl _) new
    refine ⟨.ref s.heap.objs.size, _, I1, rfl, ⟨_, x, rfl, I.hok.fresh (Nat.le_refl _), rfl, fun ys hy => by rw [I.tuple_inj hy hq]; exact hx⟩, ⟨⟨x', ?_⟩, st'.1.at fun o q => (sb.2 it (Ne.symm hne)).trans q, hne⟩, fun b hb => ?_⟩
    · have e1 : ((i + 1 : Nat) : Int) = (i : Int) + 1 := by omega
      rw [e1]; exact he'
    · have hb' : b < s.heap.objs.size := by
        have e' : b = e ∨ b = it := by simpa using hb
        rcases e' with z | z
        · rw [z]; exact hel
        · rw [z]; exact hil
      rw [upd_ne (Nat.ne_of_lt hb')]
      exact (hf b hb).1
  done := by
    intro X hP hw hK hc i pins s σ H E I hf st hg
    subst hP hw hK
    obtain ⟨⟨old, he⟩, hit, hne⟩ := st
    obtain ⟨xs, hq, hx⟩ := hg
    obtain ⟨its, rv, ⟨oT, hoT, hcT, nT, hdT⟩, hz⟩ := I.tuple hq
    have hIT : s.heap.IsTuple a its.toArray := ⟨oT, hoT, hcT, nT, hdT⟩
    obtain ⟨f0, f1, f2, f3, f4, f5⟩ := hf it (by simp)
    have hl := rv.length
    have hsz : i = its.toArray.size := by
      rw [List.size_toArray]
      omega
    subst hsz
    exact wpAny_pyNext_enum_endD (Draws.tuple (A := X.A.in1) (I.ok.hd hc) it a hai its.toArray) he ⟨hit, hIT⟩ fun h' eb => ⟨rfl, I.turned (t' := s.toks) (fun b o hb q => eb b o hb q) f0 f1 f3 f4 f5⟩
  self := fun A i s Q E st hQ => by
    obtain ⟨⟨old, he⟩, _⟩ := st
    exact wpAny_pyIter_enum he hQ
/-- enumerate of a list or of a tuple -/
def iEnumQ (K : PySem.W.Frag) (ta : TA) : TI := fun σ H R => ta σ H fun vs H1 => ∃ a xs, vs = [.ref a] ∧ ((SqL K H1 a xs ∧ R (Ite K a) H1) ∨ (SqT K H1 a xs ∧ R (Itet K a) H1))
theorem pi_enumQ {X : Cx} {e : Expr} {ta : TA} {p pos tpos : Pos} {elts : List Expr} {kk : Nat} (hg : Gl X "enumerate") (hm : X.mg "enumerate" = none) (ha : PA X [e] ta) (hs : starEach [e] X.env = [(false, eval e X.env)] := by rfl) :
    PI X (.Tuple elts kk tpos) (.Call (.Name "enumerate" p) [e] [] pos) (iEnumQ X.K ta) := by
  refine ⟨fun pins s σ H R I h => ?_⟩
  refine Call_ (ld_blt I hg hm boot_enumerate (PyProof.Rows.callWith_type1 (thn (ha.run pos pins s σ H _ I h) fun us s1 ⟨vs, H1, I1, r1, q1⟩ => ?_) hs rfl))
  obtain ⟨a, xs, ex, hq⟩ := q1
  subst ex
  cases r1 with
  | cons r rr =>
    cases rr
    cases r
    have fin : ∀ b, b = s1.heap.objs.size + 1 ∨ b = s1.heap.objs.size → FpOk X pins H1 b := fun b e' => by
      have hle : s1.heap.objs.size ≤ b := by
        rcases e' with z | z
        · rw [z]; exact Nat.le_add_right _ _
        · rw [z]; exact Nat.le_refl _
      exact I1.fpOk hle (I1.hok.fresh hle)
    rcases hq with ⟨hq, q⟩ | ⟨hq, q⟩
    · obtain ⟨its, rv, p', hz⟩ := I1.list hq
      refine call_enumerate_list p'.isList fun h' he hit hsz hk => wpAny_pyIter_enum he ?_
      have I2 : Inv X pins σ H1 { s1 with heap := h' } := I1.kept (t' := s1.toks) hk
      refine ⟨s1.heap.objs.size + 1, [s1.heap.objs.size + 1, s1.heap.objs.size], _, _, H1, rfl, I2, turn_enum a (s1.heap.objs.size + 1) s1.heap.objs.size, ⟨⟨.none, he⟩, hit, Nat.succ_ne_self _⟩, fun b hb => fin b (by simpa using hb), q⟩
    · obtain ⟨its, rv, ⟨oT, hoT, hcT, nT, hdT⟩, hz⟩ := I1.tuple hq
      have hal : a < s1.heap.objs.size := Heap.lt_size hoT
      refine call_enumerate_tuple ⟨oT, hoT, hcT, nT, hdT⟩ fun h' he hit hsz hk => wpAny_pyIter_enum he ?_
      have I2 : Inv X pins σ H1 { s1 with heap := h' } := I1.kept (t' := s1.toks) hk
      refine ⟨s1.heap.objs.size + 1, [s1.heap.objs.size + 1, s1.heap.objs.size], _, _, H1, rfl, I2, turn_enumT a (s1.heap.objs.size + 1) s1.heap.objs.size (Nat.ne_of_lt (Nat.lt_succ_of_lt hal)) (Nat.ne_of_lt hal), ⟨⟨.none, he⟩, hit, Nat.succ_ne_self _⟩, fun b hb => fin b (by simpa using hb), q⟩
/-- a loop over it; the list or tuple stands while the loop runs -/
theorem for_enumQ {K : PySem.W.Frag} {a : Addr} {xs : List V} {g : TG} {tb : TS} {D : Ends} {σ : L2.St} {H : Hp} {H0 : Hp} (hS : SqL K H0 a xs ∨ SqT K H0 a xs) (s0 : ∀ b o, H0 b = some o → H b = some o) (Pv : Nat → L2.St → Hp → Prop) (h0 : Pv 0 σ H)
    (hl : ∀ i σ' H', Pv i σ' H' → ∀ b o, H0 b = some o → H' b = some o)
    (hs : ∀ i x σ' H' T, xs[i]? = some x → Pv i σ' H' → H' T = none → g (.ref T) σ' (upd H' T (.tup [.int (i : Nat), x])) fun σ2 H2 => tb { D with nx := Pv (i + 1), ct := Pv (i + 1), bk := D.nx } σ2 H2) (hd : ∀ σ' H', Pv xs.length σ' H' → D.nx σ' H') :
    (SqL K H a xs ∧ ∃ W : Nat → Nat → L2.St → Hp → Prop, (∃ m, W 0 m σ H) ∧ ∀ i m σ H, W i m σ H →
      ((Ite K a).stop i H ∧ D.nx σ H) ∨ ((Ite K a).go i H ∧ ∃ N : L2.St → Hp → Prop, (∀ σ' H', N σ' H' → ∃ m', m' < m ∧ W (i + 1) m' σ' H') ∧ ∀ x H', (Ite K a).yld i H x H' → g x σ H' fun σ2 H2 => tb { D with nx := N, ct := N, bk := D.nx } σ2 H2)) ∨
    (SqT K H a xs ∧ ∃ W : Nat → Nat → L2.St → Hp → Prop, (∃ m, W 0 m σ H) ∧ ∀ i m σ H, W i m σ H →
      ((Itet K a).stop i H ∧ D.nx σ H) ∨ ((Itet K a).go i H ∧ ∃ N : L2.St → Hp → Prop, (∀ σ' H', N σ' H' → ∃ m', m' < m ∧ W (i + 1) m' σ' H') ∧ ∀ x H', (Itet K a).yld i H x H' → g x σ H' fun σ2 H2 => tb { D with nx := N, ct := N, bk := D.nx } σ2 H2)) := by
  have cl : ∀ {H' : Hp}, (∀ b o, H0 b = some o → H' b = some o) → SqL K H0 a xs → SqL K H' a xs := fun k L => by
    rcases L with (L | ⟨o, L⟩) | L
    · exact .inl (.inl (k _ _ L))
    · exact .inl (.inr ⟨o, k _ _ L⟩)
    · exact .inr L
  have ct : ∀ {H' : Hp}, (∀ b o, H0 b = some o → H' b = some o) → SqT K H0 a xs → SqT K H' a xs := fun k L => by
    rcases L with (L | ⟨o, L⟩) | L
    · exact .inl (.inl (k _ _ L))
    · exact .inl (.inr ⟨o, k _ _ L⟩)
    · exact .inr L
  rcases hS with L | T
  · refine .inl ⟨cl s0 L, fun i m σ' H' => m = xs.length - i ∧ i ≤ xs.length ∧ Pv i σ' H', ⟨xs.length, by simp, Nat.zero_le _, h0⟩, ?_⟩
    rintro i m σ' H' ⟨rfl, hi, p⟩
    have q := cl (hl i σ' H' p) L
    by_cases hlt : i < xs.length
    · refine .inr ⟨⟨xs, xs[i], q, by simp [hlt]⟩, Pv (i + 1), fun σ2 H2 p' => ⟨xs.length - (i + 1), by omega, rfl, hlt, p'⟩, fun x H2 y => ?_⟩
      obtain ⟨T, x0, rfl, nT, rfl, y⟩ := y
      exact hs i x0 σ' H' T (y xs q) p nT
    · have e : i = xs.length := by omega
      subst e
      exact .inl ⟨⟨xs, q, Nat.le_refl _⟩, hd σ' H' p⟩
  · refine .inr ⟨ct s0 T, fun i m σ' H' => m = xs.length - i ∧ i ≤ xs.length ∧ Pv i σ' H', ⟨xs.length, by simp, Nat.zero_le _, h0⟩, ?_⟩
    rintro i m σ' H' ⟨rfl, hi, p⟩
    have q := ct (hl i σ' H' p) T
    by_cases hlt : i < xs.length
    · refine .inr ⟨⟨xs, xs[i], q, by simp [hlt]⟩, Pv (i + 1), fun σ2 H2 p' => ⟨xs.length - (i + 1), by omega, rfl, hlt, p'⟩, fun x H2 y => ?_⟩
      obtain ⟨T, x0, rfl, nT, rfl, y⟩ := y
      exact hs i x0 σ' H' T (y xs q) p nT
    · have e : i = xs.length := by omega
      subst e
      exact .inl ⟨⟨xs, q, rfl⟩, hd σ' H' p⟩
end EnumT
set_option Elab.async false
set_option linter.all false
set_option maxRecDepth 100000
set_option maxHeartbeats 4000000
namespace Com
open PySem PySem.Spec PyProof.Rows L2
/-! methods, and defs that may raise, by name -/
def CalM (CX : CXT) (P : Program) (w : World) (K : PySem.W.Frag) (mg : Str → Option Value) (base : Heap) (k : Nat) (C : Addr) (m : Str) (sp : Sp) : Prop :=
  ∃ (f : Addr) (fd : FuncData) (ps : List Str), FnOk P w K mg base CX k f fd ps sp ∧ Meth K C m f ∧ Binds K fd ps []
def CalX (P : Program) (w : World) (K : PySem.W.Frag) (mg : Str → Option Value) (base : Heap) (k : Nat) (x : Str) (sp : Sp) : Prop :=
  ∃ (f : Addr) (fd : FuncData) (ps : List Str), FnOk P w K mg base (L2.CX P w) k f fd ps sp ∧ mg x = some (.ref f) ∧ PySem.W.keepIn K (.ref f) = true ∧ Binds K fd ps []
/-- a method of the text -/
structure DfnM (K : PySem.W.Frag) (C : Addr) (m qual : Str) (st : Stmt) (f : Addr) (fd : FuncData) (ps : List Str) : Prop where
  fn : Fun K m qual st f fd
  me : Meth K C m f
  b : Binds K fd ps []
section
variable {P : Program} {w : World} {K : PySem.W.Frag} {mg : Str → Option Value} {base : Heap} {C : Addr}
theorem CalM.mono {CX : CXT} {j k : Nat} {x : Str} {sp : Sp} (c : CalM CX P w K mg base j C x sp) (h : j ≤ k) : CalM CX P w K mg base k C x sp := by
  obtain ⟨f, fd, ps, F, r⟩ := c
  exact ⟨f, fd, ps, F.mono h, r⟩
theorem calm_mk {m qual : Str} {st : Stmt} {f : Addr} {fd : FuncData} {N ps : List Str} {k : Nat} {sp : Sp} (F : DfnM K C m qual st f fd ps) (S : FnScope N ps (defScope st)) (len : ∀ vs H Q E, sp vs H Q E → vs.length = ps.length)
    (hbody : ∀ (cdv : Value) (A : Around) (outer : List Env) (s : Shared) (H : Hp) (vs : List V) (Q : VK) (E : XK), Room k (A.deeper (envOfC qual (defScope st) s.heap.objs.size f cdv)) → sp vs H Q E →
      ∃ t, PSs (cxOf CX0 P w K mg base N qual (defScope st) f cdv A outer s H E).nox (defBody st) t ∧ t { nx := fun _ H' => Q .non H', rt := Q } (start N vs) H) : CalM CX0 P w K mg base (k + 1) C m sp :=
  ⟨f, fd, ps, F.fn.ok S len hbody, F.me, F.b⟩
theorem calm_mkX {m qual : Str} {st : Stmt} {f : Addr} {fd : FuncData} {N ps : List Str} {k : Nat} {sp : Sp} (F : DfnM K C m qual st f fd ps) (S : FnScope N ps (defScope st)) (len : ∀ vs H Q E, sp vs H Q E → vs.length = ps.length)
    (hbody : ∀ (cdv : Value) (A : Around) (outer : List Env) (s : Shared) (H : Hp) (vs : List V) (Q : VK) (E : XK), Room k (A.deeper (envOfC qual (defScope st) s.heap.objs.size f cdv)) → sp vs H Q E →
      ∃ t, PSs (cxOf (L2.CX P w) P w K mg base N qual (defScope st) f cdv A outer s H E) (defBody st) t ∧ t { nx := fun _ H' => Q .non H', rt := Q } (start N vs) H) : CalM (L2.CX P w) P w K mg base (k + 1) C m sp :=
  ⟨f, fd, ps, F.fn.okX S len hbody, F.me, F.b⟩
theorem cal_mkX {x : Str} {st : Stmt} {f : Addr} {fd : FuncData} {N ps : List Str} {k : Nat} {sp : Sp} (F : Dfn K mg x st f fd ps) (S : FnScope N ps (defScope st)) (len : ∀ vs H Q E, sp vs H Q E → vs.length = ps.length)
    (hbody : ∀ (cdv : Value) (A : Around) (outer : List Env) (s : Shared) (H : Hp) (vs : List V) (Q : VK) (E : XK), Room k (A.deeper (envOfC x (defScope st) s.heap.objs.size f cdv)) → sp vs H Q E →
      ∃ t, PSs (cxOf (L2.CX P w) P w K mg base N x (defScope st) f cdv A outer s H E) (defBody st) t ∧ t { nx := fun _ H' => Q .non H', rt := Q } (start N vs) H) : CalX P w K mg base (k + 1) x sp :=
  ⟨f, fd, ps, F.fn.okX S len hbody, F.mgf, F.fn.kp, F.b⟩
end
section
variable {X : Cx} {CX : CXT} {k j : Nat} {x m : Str} {C : Addr} {sp : Sp} {E : XK} {p pos apos : Pos} {o e : Expr} {es : List Expr} {t : TA} {ta : TE} {pl : Sem Bool}
theorem pe_m (he : PE X o ta) (cl : Cls X.K C) (c : CalM CX X.prog X.w X.K X.mg X.base k C m sp) (hr : Room j X.A) (hk : k ≤ j) (hx : Passes CX X E) (ha : PA X (e :: es) t)
    (hst : starEach (e :: es) X.env = (false, eval e X.env) :: starEach es X.env := by rfl) (hpl : (backTo pos (starEach es X.env)).any (·.1) = false := by rfl)
    (ht : eval (.Call (.Attribute o m apos) (e :: es) [] pos) X.env = (do
      let ov ← eval o X.env
      standAt apos.atName
      let (f, first) ← holding [ov] (getMethod ov m pl)
      callWith pos f first (backTo pos (starEach (e :: es) X.env)) (backToKw pos (keywordEach [] X.env))) := by rfl) :
    PE X (.Call (.Attribute o m apos) (e :: es) [] pos) (tMeth C m sp [] E ta t) := by
  obtain ⟨f, fd, ps, F, hm, b⟩ := c
  exact pe_meth he cl hm F (hr.mono hk) b .nil hx ha hst hpl ht
theorem pe_m0c (he : PE X o ta) (cl : Cls X.K C) (c : CalM CX X.prog X.w X.K X.mg X.base k C m sp) (hr : Room j X.A) (hk : k ≤ j) (hx : Passes CX X E)
    (ht : eval (.Call (.Attribute o m apos) [] [] pos) X.env = (do
      let ov ← eval o X.env
      standAt apos.atName
      let (f, first) ← holding [ov] (getMethod ov m pl)
      callWith pos f first (backTo pos (starEach [] X.env)) (backToKw pos (keywordEach [] X.env))) := by rfl) :
    PE X (.Call (.Attribute o m apos) [] [] pos) (tMeth C m sp [] E ta tNil) := by
  obtain ⟨f, fd, ps, F, hm, b⟩ := c
  exact pe_meth0 he cl hm F (hr.mono hk) b .nil hx ht
theorem pe_cx (c : CalX X.prog X.w X.K X.mg X.base k x sp) (hr : Room j X.A) (hk : k ≤ j) (hg : Gl X x) (hx : Passes (L2.CX X.prog X.w) X E) (ha : PA X (e :: es) t)
    (hdb : (x == ("__debug__" : Str)) = false := by decide) (he : starEach (e :: es) X.env = (false, eval e X.env) :: starEach es X.env := by rfl) (hpl : (backTo pos (starEach es X.env)).any (·.1) = false := by rfl) :
    PE X (.Call (.Name x p) (e :: es) [] pos) (tCall sp [] E t) := by
  obtain ⟨f, fd, ps, F, hm, kp, b⟩ := c
  exact pe_call F (hr.mono hk) hg hm kp b .nil hx ha hdb he hpl
theorem pe_cxS {W : WX} (c : CalX X.prog X.w X.K X.mg X.base k x sp) (hr : Room j X.A) (hk : k ≤ j) (hg : Gl X x) (tk : Takes X W) (ha : PA X (e :: es) t)
    (hdb : (x == ("__debug__" : Str)) = false := by decide) (he : starEach (e :: es) X.env = (false, eval e X.env) :: starEach es X.env := by rfl) (hpl : (backTo pos (starEach es X.env)).any (·.1) = false := by rfl) :
    PE X (.Call (.Name x p) (e :: es) [] pos) (tCallS sp (WE W) t) := by
  obtain ⟨f, fd, ps, F, hm, kp, b⟩ := c
  exact pe_callS F (hr.mono hk) hg hm kp b (fun σ => passAt tk σ) ha hdb he hpl
/-- W.__init__(self, ..), W an own class that inherits ValueError's -/
theorem pe_weinit {Wn : Str} {Cw : Addr} {p1 p2 : Pos} (hg : Gl X Wn) (hm : X.mg Wn = some (.ref Cw)) (gg : PySem.W.specialIn X.K (.ref Cw) "__getattribute__" = some (some (.builtin "type.__getattribute__"))) (rd : PySem.W.readsIn X.K Cw (.type "type") = true)
    (vV : PySem.W.findCls X.K (.ref Cw) (.type "type") "__init__" = some (.val (.builtin "ValueError.__init__"))) (ha : PA X (e :: es) t)
    (hc : eval (.Call (.Attribute (.Name Wn p1) "__init__" p2) (e :: es) [] pos) X.env = (do
      let ov ← eval (.Name Wn p1) X.env
      standAt p2.atName
      let (f, first) ← holding [ov] (getMethod ov "__init__" pl)
      callWith pos f first (backTo pos (starEach (e :: es) X.env)) (backToKw pos (keywordEach [] X.env))) := by rfl)
    (hdb : (Wn == ("__debug__" : Str)) = false := by decide) (he : starEach (e :: es) X.env = (false, eval e X.env) :: starEach es X.env := by rfl) (hpl : (backTo pos (starEach es X.env)).any (·.1) = false := by rfl) :
    PE X (.Call (.Attribute (.Name Wn p1) "__init__" p2) (e :: es) [] pos) (tVeI X.K t) := by
  refine ⟨fun pins s σ H Q I h => ?_⟩
  refine PySem.W.methodCall_KW (ld_glob I hg hm ?_ hdb) hc
  refine PySem.W.method_cls I.kIn gg (PySem.W.cls_value I.kIn rd vV (by decide +kernel) ?_)
  show wpAny _ _ (callWith pos (Value.builtin "ValueError.__init__") [] (backTo pos (starEach (e :: es) X.env)) []) _ _ _
  refine PyProof.Rows.callWith_method1 (thn (ha.run pos pins _ σ H _ (I.tok _) h) fun us s1 ⟨vs, H1, I1, r1, a, C, ws, ev, hl, T, ea, q⟩ => ?_) he hpl
  subst ev
  cases r1 with
  | @cons _ u0 _ ur ra rw' =>
    obtain rfl : u0 = Value.ref a := ra
    have hlen : ur.length ≤ sizeLine := by
      rw [← Paired.length rw', sizeLine_eq]
      omega
    exact oinit_ok T I1 ea hlen fun s' J => ⟨.non, H1, J, rfl, q⟩
end
end Com
set_option Elab.async false
set_option linter.all false
set_option maxRecDepth 100000
set_option maxHeartbeats 4000000
namespace GenT
open PySem PySem.Spec PyProof.Rows L2 GxR
/-- the element as a test of what the name x holds; the globals and the built-ins may be read -/
def EltB (X : Cx) (scope : Scope) (x : Str) (elt : Expr) (ok : Value → Prop) (pb : Value → Bool) : Prop :=
  ∀ (cenv : Env) (A' : Around) (E' : Value → Shared → Prop) (u : Value) (s₂ : Shared) (m₂ : Str → Option Value), cenv.scope = scope → cenv.globals = mainGlobals → cenv.builtins = builtinsNs → A'.handled = none → L2.Mod X.K X.mg X.base →
    (∀ b o, X.base.get? b = some o → s₂.heap.get? b = some o) → ok u → s₂.heap.Ns cenv.locals m₂ → m₂ x = some u →
    wpAny (model X.prog X.w) A' (eval elt cenv) (fun y s₃ => y = .bool (pb u) ∧ Keeps s₂ s₃) E' s₂
/-- the test at place j -/
def trV (pb : Value → Bool) (l : List Value) (j : Nat) : Bool := match l[j]? with
  | some b => pb b
  | none => false
theorem trV_some {pb : Value → Bool} {l : List Value} {j : Nat} {b : Value} (h : l[j]? = some b) : trV pb l j = pb b := by
  unfold trV
  rw [h]
theorem any_trV (l : List Value) (pb : Value → Bool) : (List.range l.length).any (trV pb l) = l.any pb := by
  rw [Bool.eq_iff_iff, List.any_eq_true, List.any_eq_true]
  constructor
  · intro ⟨j, hj, h⟩
    have hj' := List.mem_range.mp hj
    rw [trV_some (List.getElem?_eq_getElem hj')] at h
    exact ⟨l[j], List.getElem_mem hj', h⟩
  · intro ⟨b, hb, h⟩
    obtain ⟨j, hj, e⟩ := List.getElem_of_mem hb
    refine ⟨j, List.mem_range.mpr hj, ?_⟩
    rw [trV_some (List.getElem?_eq_getElem hj), e]
    exact h
theorem all_trV (l : List Value) (pb : Value → Bool) : (List.range l.length).all (trV pb l) = l.all pb := by
  rw [Bool.eq_iff_iff, List.all_eq_true, List.all_eq_true]
  constructor
  · intro h b hb
    obtain ⟨j, hj, e⟩ := List.getElem_of_mem hb
    have q := h j (List.mem_range.mpr hj)
    rw [trV_some (List.getElem?_eq_getElem hj), e] at q
    exact q
  · intro h j hj
    have hj' := List.mem_range.mp hj
    rw [trV_some (List.getElem?_eq_getElem hj')]
    exact h _ (List.getElem_mem hj')
/-- the generator g over the items, ready to be walked -/
def ReadyV (X : Cx) (pins : List (Addr × Obj)) (σ : L2.St) (H1 : Hp) (P : Addr) (l : List Value) (pb : Value → Bool) (g : Addr) (s5 : Shared) : Prop :=
  ∃ (fp wr : List Addr) (G : Array GenState → Array GenState → Prop) (F : Nat → Value → Prop) (St : Nat → Shared → Prop),
    WalksS X.prog X.w X.A.in1 g fp wr G l.length F St ∧ St 0 s5 ∧
    TruthOf X.prog X.w X.A.in1 F (trV pb l) ∧
    ∀ s', Moved wr G s5 s' → ∃ H2, Tabbed P H1 H2 ∧ Inv X pins σ H2 s'
/-- how a source is walked: the iterator is one new object -/
def Src (X : Cx) (H1 : Hp) (s1 : Shared) (u : Value) (l : List Value) : Prop :=
  ∀ (Q : Value → Shared → Prop), (∀ (o : Obj) (fp : List Addr) (St : Nat → Heap → Prop), (∀ b ∈ fp, b = s1.heap.objs.size ∨ ∃ ob, s1.heap.get? b = some ob ∧ ob.data ≠ .fields #[] ∧ H1 b ≠ some (.tbl #[]) ∧ ∀ ps, H1 b ≠ some (.tbl ps)) →
      (∀ A' : Around, A'.handled = none → Walks X.prog X.w A' s1.heap.objs.size fp [s1.heap.objs.size] l.length (fun i v => ∃ v', l[i]? = some v' ∧ v = v') St) → St 0 (s1.heap.push o) →
      Q (.ref s1.heap.objs.size) { s1 with heap := s1.heap.push o }) → ∀ E, wpAny (model X.prog X.w) X.A (pyIter u) Q E s1
section
variable {X : Cx} {pins : List (Addr × Obj)} {σ : L2.St} {H : Hp} {s : Shared}
theorem gen_src {c P : Addr} {elt iter : Expr} {x : Str} {px gpos : Pos} {scope : Scope} {pb : Value → Bool} {ok : Value → Prop} {te : TE} {k : Nat} {Q' : Value → Shared → Prop} {B : V → Hp → Prop} {R : V → List Value → Hp → Prop}
    (hB : ∀ (v : V) (H1 : Hp), B v H1 → TabG H1 P ∧ ∀ (u : Value) (s1 : Shared), RelV v u → Inv X pins σ H1 s1 → ∃ l : List Value, (∀ z ∈ l, ok z) ∧ Src X H1 s1 u l ∧ R v l H1)
    (hr : Room k X.A) (TB : TabB X.base X.mg c P) (hcode : X.env.code = .ref c) (S : GenS X.env scope x) (hi : PE X iter te) (hel : EltB X scope x elt ok pb)
    (hs : ∀ v, genFold iter X.env v = pure v) (I : Inv X pins σ H s)
    (h : te σ H B)
    (hQ : ∀ v l H1 g s5, R v l H1 → ReadyV X pins σ H1 P l pb g s5 → Q' (.ref g) s5) :
    wpAny (model X.prog X.w) X.A (eval (.GeneratorExp elt [⟨.Name x px, iter, [], 0⟩] scope gpos) X.env) Q' X.xe s := by
  refine wpAny_GeneratorExp_walksQ hr.hd S.co (closure_ok S.free) S.cell S.dot S.loc S.kind (by have := hr.dp; omega) ?_ hs
  refine thn (hi.run pins s σ H _ I h) fun xv s1 ⟨v, H1, I1, r1, q1⟩ => ?_
  obtain ⟨⟨ps, hP, ht⟩, q1⟩ := hB v H1 q1
  obtain ⟨l, hok, hsrc, q1⟩ := q1 xv s1 r1 I1
  refine hsrc _ (fun o fp0 St hfp W hst => ?_) _
  have hPs : s1.heap.get? P = some { cls := .none, data := .fields ps } := I1.hok P _ hP
  have hPlt : P < s1.heap.objs.size := Heap.lt_size hPs
  have hP2 : (s1.heap.push o).get? P = some { cls := .none, data := .fields ps } := Heap.get?_push_of_some _ hPs
  have cd : PySem.W.CodeHd (s1.heap.push o) c P := TB.code.keeps fun b u e => Heap.get?_push_of_some _ (I1.bk b u e)
  have lim2 : (s1.heap.push o).NoLimit := I1.nolimit.push o
  have cont : ∀ (code : Value) (h3 : Heap) (tk : Nat) (ps' : Array Value), Heap.ExtBut P (s1.heap.push o) h3 → (s1.heap.push o).objs.size ≤ h3.objs.size → h3.get? P = some { cls := .none, data := .fields ps' } → (∃ more, ps' = ps ++ more) → TriplesOk ps'.toList →
      wpAny (model X.prog X.w) X.A (builtinsFor X.env.globals X.env.builtins) (fun bi s₄ =>
        ∃ Ia fp wr n₀ Pf St₀ pz F, Value.ref s1.heap.objs.size = .ref Ia ∧ (∀ A' : Around, A'.handled = none → Walks X.prog X.w A' Ia fp wr n₀ Pf St₀) ∧ St₀ 0 s₄.heap ∧ (∀ b ∈ fp, b < s₄.heap.objs.size) ∧ s₄.heap.NoLimit ∧ cStatics ∉ wr ∧
          (∀ href : Heap, (∀ b o, s₄.heap.get? b = some o → href.get? b = some o) →
            QuietGen X.prog X.w (genEnv scope (cloFrom X.env.cells scope.names []) s₄.heap.objs.size code bi X.env) x [] elt (List.range s₄.heap.objs.size) wr Pf pz F href) ∧
          (∀ a h₅ tk gs, gs.bare = true → s₄.heap.objs.size < a → h₅.objs.size = a + 1 → (∀ b o, s₄.heap.get? b = some o → h₅.get? b = some o) →
            WalksS X.prog X.w X.A.in4 a (a :: s₄.heap.objs.size :: List.range s₄.heap.objs.size) (s₄.heap.objs.size :: wr) (GenOnlyQ s₄.gens.size) (passing pz n₀ 0).length
              (fun j y => ∃ i, (passing pz n₀ 0)[j]? = some i ∧ F i y) (GenAt X.prog X.w X.A.in4 a s₄.gens.size s₄.heap.objs.size (List.range s₄.heap.objs.size) wr pz n₀ F) →
            GenAt X.prog X.w X.A.in4 a s₄.gens.size s₄.heap.objs.size (List.range s₄.heap.objs.size) wr pz n₀ F 0 { s₄ with gens := s₄.gens.push gs, toks := tk, heap := h₅ } →
            Q' (.ref a) { s₄ with gens := s₄.gens.push gs, toks := tk, heap := h₅ })) X.xe { s1 with heap := h3, toks := tk } := by
    intro code h3 tk ps' hx hsz hP3 hmore ht3
    obtain ⟨bm, ob, e1, e2, e3, e4, e5, e6, e7, e8⟩ := TB.bm
    have hcP : cStatics ≠ P := fun e => by
      obtain ⟨_, hns, _⟩ := I1.nolimit
      obtain ⟨o', es, ep, ho, hd, _⟩ := hns
      rw [e, hPs] at ho
      cases ho
      cases hd
    have hcl : cStatics < s1.heap.objs.size := let ⟨_, hns, _⟩ := I1.nolimit; hns.lt
    have sz2 : (s1.heap.push o).objs.size = s1.heap.objs.size + 1 := Heap.size_push ..
    have keep3 : ∀ b u, b ≠ P → s1.heap.get? b = some u → h3.get? b = some u := fun b u hb e => hx b u hb (Heap.get?_push_of_some _ e)
    refine wpAny_builtinsFor (m := X.mg) (by rw [I1.ok.glob]; exact ((I1.mod.glob.keeps I1.bk).push o).extBut hx TB.gP) e1 e2 (keep3 _ _ e4 (I1.bk _ _ e5)) e6 e7 e8 ?_
    have hfpP : ∀ b ∈ fp0, b ≠ P := fun b hb z => by
      rcases hfp b hb with e | ⟨ob', q1', q2', _, q4'⟩
      · exact Nat.ne_of_lt hPlt (z.symm.trans e)
      · exact q4' ps (z ▸ hP)
    refine ⟨s1.heap.objs.size, fp0, [s1.heap.objs.size], l.length, (fun i v => ∃ v', l[i]? = some v' ∧ v = v'), St, (fun _ => true), (fun i y => ∃ cc, l[i]? = some cc ∧ y = .bool (pb cc)), rfl, W, ?_, ?_, lim2.extBut hx hcP, ?_, ?_, ?_⟩
    · refine (W X.A hr.hd).frame _ _ _ hst fun b hb u e => hx b u (hfpP b hb) e
    · intro b hb
      show b < h3.objs.size
      have hlt3 : s1.heap.objs.size < h3.objs.size := by omega
      rcases hfp b hb with z | ⟨ob', q1', _⟩
      · rw [z]
        exact hlt3
      · exact Nat.lt_trans (Heap.lt_size q1') hlt3
    · intro z
      rcases List.mem_cons.mp z with z | z
      · exact Nat.ne_of_lt hcl z
      · cases z
    · intro href hhref
      refine ⟨fun A' E' i v s₂ m₂ hA hPv hn hm hk => ?_, fun A' E' i v s₂ m₂ hA hPv hp hn hm hk => ?_⟩
      · simp only [List.forIn_nil]
        exact wpAny_pure ⟨rfl, keeps_refl _⟩
      · obtain ⟨cc, hcc, rfl⟩ := hPv
        have hb2 : ∀ b o', X.base.get? b = some o' → s₂.heap.get? b = some o' := fun b o' e => by
          have e1' := I1.bk b o' e
          have hlt := Heap.lt_size e1'
          have hbP : b ≠ P := fun z => by
            have z2 := (I1.bs b o' e).2
            rw [z, hP] at z2
            cases z2
          have e3' : h3.get? b = some o' := keep3 b o' hbP e1'
          have hl3 : b < h3.objs.size := Heap.lt_size e3'
          refine hk b (List.mem_range.mpr hl3) (fun z => ?_) o' (hhref b o' e3')
          rcases List.mem_cons.mp z with z | z
          · rw [z] at hlt
            exact Nat.lt_irrefl _ hlt
          · cases z
        exact wpAny_mono (hel _ A' E' v s₂ m₂ rfl I1.ok.glob rfl hA I1.mod hb2 (hok v (List.mem_of_getElem? hcc)) hn hm) (fun y s3 r => ⟨⟨v, hcc, r.1⟩, r.2⟩) fun _ _ e => e
    · intro g h5 tk5 gs hgb hag hsz5 hk5 W5 hat
      simp only [GxR.passing_true, List.length_range] at W5
      refine hQ v l H1 g _ q1 ⟨_, _, _, _, _, W5.in4_1, hat, ?_, fun s' hm => ?_⟩
      · intro j y sj Qj Ej hy hQj
        obtain ⟨i, hij, cc, hcc, rfl⟩ := hy
        obtain ⟨hj, ej⟩ := List.getElem?_eq_some_iff.mp hij
        rw [List.getElem_range] at ej
        subst ej
        have hQ2 : Qj (trV pb l j) sj := hQj
        rw [trV_some hcc] at hQ2
        exact wpAny_truthy_bool hQ2
      · obtain ⟨more, em⟩ := hmore
        have nwr : ∀ b u, s1.heap.get? b = some u → b ∉ h3.objs.size :: [s1.heap.objs.size] := fun b u e hb => by
          have hl := Heap.lt_size e
          rcases List.mem_cons.mp hb with z | z
          · rw [z] at hl
            have h9 : (h3.objs.size : Nat) < s1.heap.objs.size := hl
            omega
          · rcases List.mem_cons.mp z with z | z
            · rw [z] at hl
              exact Nat.lt_irrefl _ hl
            · cases z
        have J := inv_tab (more := more) (h' := s'.heap) (g' := s'.gens) (d' := s'.drawn) (t' := s'.toks) I1 hP (fun b u hb e => hm.heap b u (nwr b u e) (hk5 b u (keep3 b u hb e)))
          (by rw [← em]; exact hm.heap P _ (nwr P _ hPs) (hk5 P _ hP3)) (AllBare.movedS (I1.bare.push hgb) hm)
        rw [sh_eta s1 s' hm.os] at J
        refine ⟨upd H1 P (.tbl (ps ++ more)), ⟨⟨ps ++ more, upd_same, by rw [← em]; exact ht3⟩, fun b hb => upd_ne hb⟩, J⟩
  refine ⟨lim2, ?_⟩
  cases hf : codeAmong gpos ps.toList with
  | none =>
    refine wpAny_genexprCodeX hcode (cd.code hP2 ht) (cd.tab hP2) hf fun c' h' tk hx hge hlt hco' _ htab' _ => ?_
    obtain ⟨o1, vs, f1, tf, fl, tg, inF, tx, tt, op, _, _, _, _, _, _, _, _, _, htr, _⟩ := hco'
    exact cont _ h' tk _ hx (Nat.le_trans hge (Nat.le_of_lt hlt)) htab'.2 ⟨_, rfl⟩ htr
  | some cv =>
    refine wpAny_genexprCode_hit hcode (cd.code hP2 ht) hf ?_
    exact cont cv (s1.heap.push o) s1.toks ps (Heap.ExtBut.refl _ _) (Nat.le_refl _) hP2 ⟨#[], by simp⟩ ht
/-- a tracked tuple as a source -/
theorem src_tup {H1 : Hp} {s1 : Shared} {a : Addr} {xs : List V} (I1 : Inv X pins σ H1 s1) (h : H1 a = some (.tup xs)) : ∃ l : List Value, Vals xs l ∧ Src X H1 s1 (.ref a) l := by
  obtain ⟨_, its, rv, o, e1, e2, n, e3⟩ := (show ObjOk X.prog X.w H1 s1.heap a (.tup xs) from I1.hok a _ h)
  refine ⟨its, rv, fun Q hQ E => ?_⟩
  have hlt : a < s1.heap.objs.size := Heap.lt_size e1
  have hT : s1.heap.IsTuple a its.toArray := ⟨o, e1, e2, n, e3⟩
  refine wpAny_pyIter_tuple hT (hQ _ [s1.heap.objs.size, a] (fun i h => h.IsTupleIter s1.heap.objs.size a i ∧ h.IsTuple a its.toArray) ?_ ?_ ?_)
  · intro b hb
    rcases List.mem_cons.mp hb with z | z
    · exact .inl z
    · rcases List.mem_cons.mp z with z | z
      · subst z
        refine .inr ⟨o, e1, fun q => ?_, fun q => ?_, fun ps q => ?_⟩
        · rw [e3] at q
          cases q
        · rw [h] at q
          cases q
        · rw [h] at q
          cases q
      · cases z
  · intro A' hA
    have W := Walks.tuple (prog := X.prog) (w := X.w) hA s1.heap.objs.size a (Nat.ne_of_lt hlt) its.toArray
    have e5 : its.toArray.size = its.length := by simp
    have e6 : (fun (i : Nat) (v : Value) => its.toArray[i]? = some v) = (fun i v => ∃ v', its[i]? = some v' ∧ v = v') := by
      funext i v
      apply propext
      constructor
      · intro q
        exact ⟨v, by simpa using q, rfl⟩
      · rintro ⟨v', q, rfl⟩
        simpa using q
    rw [e5, e6] at W
    exact W
  · exact ⟨⟨_, Heap.get?_push_size _ rfl, rfl, rfl⟩, _, Heap.get?_push_of_some _ e1, e2, n, e3⟩
/-- any(test for x in e), e a tuple; behind it the def's table may have grown. pv: the test on values -/
def tAnyT (P : Addr) (okv : V → Prop) (pv : V → Bool) (te : TE) : TE := fun σ H Q => te σ H fun v H1 => TabG H1 P ∧ ∃ (a : Addr) (xs : List V), v = .ref a ∧ H1 a = some (.tup xs) ∧ (∀ x ∈ xs, okv x) ∧ ∀ H2, Tabbed P H1 H2 → Q (.bl (xs.any pv)) H2
theorem any_vals {pv : V → Bool} {pb : Value → Bool} {okv : V → Prop} (hp : ∀ x u, okv x → RelV x u → pb u = pv x) : ∀ {xs : List V} {us : List Value}, Vals xs us → (∀ x ∈ xs, okv x) → us.any pb = xs.any pv
  | _, _, .nil, _ => rfl
  | _, _, .cons r t, h => by
    rw [List.any_cons, List.any_cons, any_vals hp t (fun x hx => h x (List.mem_cons_of_mem _ hx)), hp _ _ (h _ List.mem_cons_self) r]
theorem ok_vals {okv : V → Prop} {ok : Value → Prop} (hp : ∀ x u, okv x → RelV x u → ok u) : ∀ {xs : List V} {us : List Value}, Vals xs us → (∀ x ∈ xs, okv x) → ∀ z ∈ us, ok z
  | _, _, .nil, _, z, hz => by cases hz
  | _, _, .cons r t, h, z, hz => by
    rcases List.mem_cons.mp hz with e | hz
    · rw [e]
      exact hp _ _ (h _ List.mem_cons_self) r
    · exact ok_vals hp t (fun x hx => h x (List.mem_cons_of_mem _ hx)) z hz
theorem pe_anyT {c P : Addr} {elt iter : Expr} {x : Str} {px p pos gpos : Pos} {scope : Scope} {pb : Value → Bool} {ok : Value → Prop} {okv : V → Prop} {pv : V → Bool} {te : TE} {k : Nat}
    (hr : Room k X.A) (hg : Gl X "any") (hm : X.mg "any" = none) (TB : TabB X.base X.mg c P) (hcode : X.env.code = .ref c) (S : GenS X.env scope x) (hi : PE X iter te) (hel : EltB X scope x elt ok pb)
    (hp : ∀ x u, okv x → RelV x u → pb u = pv x) (hp2 : ∀ x u, okv x → RelV x u → ok u)
    (hs : ∀ v, genFold iter X.env v = pure v)
    (he : starEach [.GeneratorExp elt [⟨.Name x px, iter, [], 0⟩] scope gpos] X.env = (false, eval (.GeneratorExp elt [⟨.Name x px, iter, [], 0⟩] scope gpos) X.env) :: starEach [] X.env := by rfl) :
    PE X (.Call (.Name "any" p) [.GeneratorExp elt [⟨.Name x px, iter, [], 0⟩] scope gpos] [] pos) (tAnyT P okv pv te) := by
  refine ⟨fun pins s σ H Q I h => ?_⟩
  refine wpAny_Call_Name_kw (ld_blt I hg hm boot_any ?_)
  refine PyProof.Rows.callWith_builtin1 ?_ he (by rfl)
  rw [he]
  show wpAny _ _ (spliced ((false, eval (.GeneratorExp elt [⟨.Name x px, iter, [], 0⟩] scope gpos) X.env) :: backTo pos (starEach [] X.env))) _ _ s
  refine Calls.spliced_cons (gen_src (te := te) (R := fun v l H1 => ∀ H2, Tabbed P H1 H2 → Q (.bl (l.any pb)) H2) (hB := ?_) hr TB hcode S hi hel hs I h fun v l H1 g s5 hR hG => ?_)
  · rintro v H1 ⟨hT, a, xs, rfl, ha, hok, hq⟩
    refine ⟨hT, fun u s1 ru I1 => ?_⟩
    cases (show u = Value.ref a from ru)
    obtain ⟨l, rv, hsrc⟩ := src_tup I1 ha
    refine ⟨l, ok_vals hp2 rv hok, hsrc, fun H2 hTb => ?_⟩
    rw [any_vals hp rv hok]
    exact hq H2 hTb
  obtain ⟨fp, wr, G, F, St, W, hst, htr, hI⟩ := hG
  refine Calls.spliced_nil ?_
  refine call_any_walkS (W.self 0 _ _ _ hst ⟨g, fp, wr, G, _, F, St, _, rfl, W, hst, htr, fun s' hmv => ?_⟩)
  obtain ⟨H2, hT, J⟩ := hI s' hmv
  refine ⟨.bl _, H2, J, rfl, ?_⟩
  rw [any_trV l pb]
  exact hR H2 hT
end
/-- isinstance(x, bool) of an int, a text, a truth value, None -/
def isB : Value → Bool
  | .bool _ => true
  | _ => false
def Flat (u : Value) : Prop := (∃ n t, u = .int n t) ∨ (∃ y t, u = .str y t) ∨ ∃ b, u = .bool b
theorem elt_isb {X : Cx} {scope : Scope} {x : Str} {p1 p2 p3 p4 : Pos} (hk : scope.kind = .function) (hl : scope.names.lookup x = some .local) (hi : scope.names.lookup ("isinstance" : Str) = some .globalImplicit) (hb : scope.names.lookup ("bool" : Str) = some .globalImplicit)
    (mi : X.mg "isinstance" = none) (mb : X.mg "bool" = none) (vi : bootBuiltins "isinstance" = some (.builtin "isinstance")) (vb : bootBuiltins "bool" = some (.type "bool")) (hd : (x == ("__debug__" : Str)) = false := by decide) :
    EltB X scope x (.Call (.Name "isinstance" p1) [.Name x p2, .Name "bool" p3] [] p4) Flat isB := by
  intro cenv A' E' u s₂ m₂ hs hg hbn hA M hkp hok hn hm
  obtain ⟨mbn, h1, h2⟩ := M.blt
  have kB : ∀ {s : Shared}, s.heap = s₂.heap → X.K.In s.heap := fun e => by rw [e]; exact M.kin.keeps hkp
  refine wpAny_Call_Name_kw (Calls.Name_function_global (by rw [hs]; exact hk) (show cenv.scope.names.lookup ("isinstance" : Str) = some .globalImplicit by rw [hs]; exact hi)
    (Calls.loadGlobal_builtin (by rw [hg]; exact M.glob.keeps hkp) mi (by rw [hbn]; exact h1.keeps hkp) ((h2 _ (by decide)).trans vi) ?_))
  refine PyProof.Rows.callWith_builtin1 ?_ (by rfl) (by rfl)
  refine Calls.spliced_cons (wpAny_Name (wpAny_loadName_local (by rw [hs]; exact hk) (show cenv.scope.names.lookup x = some .local by rw [hs]; exact hl) hn hm ?_) hd)
  refine Calls.spliced_cons (Calls.Name_function_global (by rw [hs]; exact hk) (show cenv.scope.names.lookup ("bool" : Str) = some .globalImplicit by rw [hs]; exact hb)
    (Calls.loadGlobal_builtin (by rw [hg]; exact M.glob.keeps hkp) mb (by rw [hbn]; exact h1.keeps hkp) ((h2 _ (by decide)).trans vb) ?_))
  refine Calls.spliced_nil ?_
  rcases hok with ⟨n, t, rfl⟩ | ⟨y, t, rfl⟩ | ⟨b, rfl⟩
  · exact PySem.W.kia_one PySem.W.kitx_int (M.kin.keeps hkp) trivial (kit_ty (a := "int") (b := "bool") (r := false) (by decide +kernel)) (fun z => nomatch z) fun tk => ⟨rfl, keeps_tok _ _⟩
  · exact PySem.W.kia_one PySem.W.kitx_str (M.kin.keeps hkp) trivial (kit_ty (a := "str") (b := "bool") (r := false) (by decide +kernel)) (fun z => nomatch z) fun tk => ⟨rfl, keeps_tok _ _⟩
  · exact PySem.W.kia_one PySem.W.kitx_bool (M.kin.keeps hkp) trivial (kit_ty (a := "bool") (b := "bool") (r := true) (by decide +kernel)) (fun z => nomatch z) fun tk => ⟨rfl, keeps_tok _ _⟩
end GenT
set_option Elab.async false
set_option linter.all false
set_option maxRecDepth 100000
set_option maxHeartbeats 4000000
namespace RuleX
open PySem PySem.Spec PyProof.Rows L2 Com HT
/-! a tuple from its end -/
section
variable {prog : Program} {w : World} {A : Around} {E : Value → Shared → Prop} {s : Shared}
theorem adjust_rev (n : Nat) : Builtin.Slice.sliceAdjust none none (-1) (n : Int) = ((n : Int) - 1, -1) := by
  unfold Builtin.Slice.sliceAdjust
  rfl
theorem places_rev (n : Nat) : Builtin.Slice.slicePlaces ((n : Int) - 1) (-1) (-1) = n := by
  unfold Builtin.Slice.slicePlaces
  have h1 : ¬ ((-1 : Int) > 0) := by omega
  have h2 : (- -1 : Int) = 1 := by omega
  simp only [h1, if_false, h2, Int.ediv_one]
  split <;> omega
theorem applied_rev {sl : Addr} {t : Tok} {n : Nat} {Q : Int × Int × Nat → Shared → Prop} (hs : s.heap.IsSliceOf sl .none .none (.int (-1) t))
    (h : Q ((n : Int) - 1, -1, n) s) : wpAny (model prog w) A (Builtin.Slice.sliceApplied (.ref sl) (pure (n : Int))) Q E s := by
  obtain ⟨os, hos, hcs, hds⟩ := id hs
  unfold Builtin.Slice.sliceApplied Builtin.Slice.sliceFields
  refine wpAny_bind (wpAny_bind (wpAny_field hos hds (x := .none) rfl (wpAny_bind (wpAny_field hos hds (x := .none) rfl (wpAny_bind (wpAny_field hos hds (x := .int (-1) t) rfl (wpAny_pure ?_)))))))
  refine wpAny_bind (slicePart_int ?_)
  show wpAny _ _ (if ((-1 : Int) == 0) = true then _ else _) _ _ s
  rw [if_neg (by decide)]
  refine wpAny_bind (slicePart_none (wpAny_bind (slicePart_none (wpAny_bind (wpAny_pure ?_)))))
  show wpAny _ _ (match Builtin.Slice.sliceAdjust none none (-1) (n : Int) with | (lo, hi) => pure (lo, (-1 : Int), Builtin.Slice.slicePlaces lo hi (-1))) _ _ s
  rw [adjust_rev n]
  show wpAny _ _ (pure ((n : Int) - 1, (-1 : Int), Builtin.Slice.slicePlaces ((n : Int) - 1) (-1) (-1))) _ _ s
  rw [places_rev]
  exact wpAny_pure h
theorem pick_rev (xs : Array Value) : ((List.range xs.size).filterMap fun (m : Nat) => xs[(((xs.size : Int) - 1) + (m : Int) * -1).toNat]?).toArray = xs.toList.reverse.toArray := by
  congr 1
  have e : ∀ m ∈ List.range xs.size, xs[(((xs.size : Int) - 1) + (m : Int) * -1).toNat]? = xs[xs.size - 1 - m]? := fun m hm => by
    have h := List.mem_range.mp hm
    have : (((xs.size : Int) - 1) + (m : Int) * -1).toNat = xs.size - 1 - m := by omega
    rw [this]
  have fc : ∀ (l : List Nat) (f g : Nat → Option Value), (∀ m ∈ l, f m = g m) → l.filterMap f = l.filterMap g := fun l f g h => by
    induction l with
    | nil => rfl
    | cons a r ih => rw [List.filterMap_cons, List.filterMap_cons, h a List.mem_cons_self, ih fun m hm => h m (List.mem_cons_of_mem _ hm)]
  rw [fc _ _ _ e]
  have e2 : (List.range xs.size).filterMap (fun m => xs[xs.size - 1 - m]?) = ((List.range xs.size).map (fun k => xs.size - 1 - k)).filterMap (xs[·]?) := by rw [List.filterMap_map]; rfl
  rw [e2, PySem.W.krv_range, List.filterMap_reverse, PySem.W.krv_all]
theorem getItem_tuple_rev {t sl : Addr} {tk : Tok} {items : Array Value} {Q : Value → Shared → Prop} (ht : IsTup s.heap t items) (hs : s.heap.IsSliceOf sl .none .none (.int (-1) tk))
    (h : Q (.ref s.heap.objs.size) { s with heap := s.heap.push { cls := .type "tuple", data := .seq items.toList.reverse.toArray } })
    (hsz : items.size ≤ sizeLine) : wpAny (model prog w) A (getItem (.ref t) (.ref sl)) Q E s := by
  have htake : sizeOk (.seq items.toList.reverse.toArray) := by
    show items.toList.reverse.toArray.size ≤ sizeLine
    rw [List.size_toArray, List.length_reverse, Array.length_toList]
    exact hsz
  obtain ⟨os, hos, hcs, hds⟩ := id hs
  have hTs : s.TypeIs (.ref sl) "slice" := ⟨os, hos, hcs⟩
  unfold getItem
  try with_reducible refine wpAny_holding ?_
  first | refine wpAny_bind (wpAny_pure ?_) | skip
  refine wpAny_bind (wpAny_sequenceKey ht.typeIs (by decide) ?_)
  refine wpAny_bind (wpAny_callSpecial?_slot (name := Str.ofString "__getitem__") ht.typeIs PyProof.Rows.slot_tuple_getitem
    (wpAny_call_entry PyProof.Rows.slot_tuple_getitem ht.typeIs entry_tuple_getitem ?_ (args_tuple_getitem _ _)))
  show wpAny _ _ (Builtin.Tuple.tupleItemsOf (.ref t) >>= _) _ _ s
  refine wpAny_bind (tupleItemsOf_ ht ?_)
  refine wpAny_bind (wpAny_typeOf hTs ?_)
  rw [if_pos (by decide)]
  refine wpAny_bind (applied_rev hs ?_)
  have hno : ¬ ((((items.size : Int) - 1) == 0 && (-1 : Int) == 1 && items.size == items.size) = true) := by
    intro q
    rw [Bool.and_eq_true, Bool.and_eq_true] at q
    exact absurd q.1.2 (by decide)
  show wpAny _ _ (if (((items.size : Int) - 1) == 0 && (-1 : Int) == 1 && items.size == items.size) = true then _ else _) _ _ s
  rw [if_neg hno, pick_rev]
  first
    | exact wpAny_bind (m := Builtin.Tuple.tupleExact _) (wpAny_newObj_type (wpAny_pure ⟨_, rfl, wpAny_pure h⟩) htake)
    | exact wpAny_bind (m := Builtin.Tuple.tupleExact _) (wpAny_newObj_type (wpAny_bind (wpAny_pure (wpAny_pure ⟨_, rfl, wpAny_pure h⟩))) htake)
    | exact wpAny_bind (wpAny_bind (m := Builtin.Tuple.tupleExact _) (wpAny_newObj_type (wpAny_pure (wpAny_pure ⟨_, rfl, wpAny_pure h⟩)) htake))
    | exact wpAny_bind (wpAny_bind (m := Builtin.Tuple.tupleExact _) (wpAny_newObj_type (wpAny_pure ⟨_, rfl, wpAny_pure h⟩) htake))
end
section
variable {X : Cx} {K : PySem.W.Frag}
def tRevT (K : PySem.W.Frag) (te : TE) : TE := fun σ H Q => te σ H fun x H1 => ∃ a xs, x = .ref a ∧ SqT K H1 a xs ∧ ∀ p, H1 p = none → Q (.ref p) (upd H1 p (.tup xs.reverse))
theorem pe_revT {e : Expr} {te : TE} {k : Nat} {p1 p2 p3 pos : Pos} (hK : X.K = K) (he : PE X e te) : PE X (.Subscript e (.Slice none none (some (.UnaryOp .USub (.Constant (.int 1) k p1) p2)) p3) pos) (tRevT K te) := by
  subst hK
  refine ⟨fun pins s σ H Q I h => ?_⟩
  refine Subscript_ (thn (he.run pins s σ H _ I h) fun v s1 ⟨x, H1, I1, r1, q1⟩ => ?_)
  obtain ⟨a, xs, ex, hx, q⟩ := q1
  subst ex
  cases r1
  have hst : PO X (some (.UnaryOp .USub (.Constant (.int 1) k p1) p2)) (tPart (tUn (rU fun i => .int (-i)) (tC (.int 1)))) := po_some (pe_un un_neg pe_int)
  refine wpAny_Slice (thn (po_none.run pins s1 σ H1 (fun o H2 => o = none ∧ H2 = H1) I1 ⟨rfl, rfl⟩) fun vl s2 ⟨l, H2, I2, pl, el, e2⟩ => ?_)
  subst el e2
  refine thn (po_none.run pins s2 σ H2 (fun o H3 => o = none ∧ H3 = H2) I2 ⟨rfl, rfl⟩) fun vu s3 ⟨u, H3, I3, pu, eu, e3⟩ => ?_
  subst eu e3
  refine thn (hst.run pins s3 σ H3 (fun o H4 => o = some (-1) ∧ H4 = H3) I3 ⟨1, rfl, -1, rfl, rfl, rfl⟩) fun vs s4 ⟨o, H4, I4, ps, eo, e4⟩ => ?_
  subst eo e4
  have I5 : Inv X pins σ H4 { s4 with heap := s4.heap.push { cls := .type "slice", data := .fields #[vl, vu, vs] } } := I4.kept (t' := s4.toks) fun b ob q => Heap.get?_push_of_some _ q
  obtain ⟨its, r, ht, hz⟩ := I5.tuple hx
  cases pl
  cases pu
  cases ps with
  | int i tk =>
    show wpAny (model X.prog X.w) X.A (subscriptTail e (.Slice none none (some (.UnaryOp .USub (.Constant (.int 1) k p1) p2)) p3) (.ref a) (.ref s4.heap.objs.size)) (EP X pins σ Q) X.xe _
    refine tail_any (ops := [.ref a, .ref s4.heap.objs.size]) ht.typeIs (PyProof.Rows.slot_tuple_getitem.lookup) ?_ (by with_unfolding_all rfl)
    refine getItem_tuple_rev ht (Heap.IsSliceOf.new _ _ _ _) ?_ (by rw [List.size_toArray, ← r.length]; exact hz)
    refine ⟨.ref _, _, I5.laid (t' := s4.toks) (o := .tup xs.reverse) (fun b ob q => Heap.get?_push_of_some _ q) (Nat.le_refl _) ?_, rfl, q _ (I5.hok.fresh (Nat.le_refl _))⟩
    exact ⟨by rw [List.length_reverse]; exact hz, _, r.reverse, IsTup.new _ _⟩
/-! xs.extend(t) -/
theorem extT_meets (l : Addr) (items : Array Value) (n : Nat) (b : Addr) (items2 : Array Value) (n2 : Nat) (dd : Option Addr) (sl : Array (Option Value)) (hs0 : ¬(!items.isEmpty && Builtin.List.listTooLong (items.size + items2.size)) = true) (hs1 : items.size ≤ sizeLine) (hs2 : items.size + items2.size ≤ sizeLine + 1) :
    Meets (Builtin.«list.extend» ⟨[.ref l, .ref b], []⟩) (fun _ R s => s.heap.get? l = some { cls := .type "list", dict := none, data := .seq items n, slots := #[] } ∧ s.heap.get? b = some { cls := .type "tuple", dict := dd, data := .seq items2 n2, slots := sl } ∧ R (.ok (.ret Value.none)) { s with heap := s.heap.update l (Obj.mapSeq fun x => x ++ items2), toks := s.toks }) :=
  .of_wp fun prog w A R s h => by
    obtain ⟨hp, g, d, tk, os⟩ := s; obtain ⟨hl, hb, h⟩ := h; have f1 := AutoSeq1.idx_int; have f2 := AutoSeq1.sub_tuple_tuple; have f3 := AutoSeq1.sub_list_list; have f4 := AutoSeq1.sub_tuple_list; have f5 := AutoSeq1.sub_list_tuple
    have hz' : (items ++ items2).size ≤ sizeLine + 1 := by rw [Array.size_append]; exact hs2
    wp_walk using (wpAny_updateSeq hl rfl (hz := hs1) (_hz' := hz')), wpAny_loadPart' hl, wpAny_loadPart' hb; exact ⟨_, rfl, h⟩
def rExtT (K : PySem.W.Frag) : V → List V → Hp → VK → Prop := fun x vs H Q => ∃ l b xs zs, x = .ref l ∧ vs = [.ref b] ∧ H l = some (.lst xs) ∧ H b = some (.tup zs) ∧ xs.length + zs.length ≤ sizeLine ∧ Q .non (upd H l (.lst (xs ++ zs)))
theorem mt_extT : MtM X "list.extend" (rExtT K) := by
  intro pins s σ H x vs v us Q I rx rv h
  obtain ⟨l, b, xs, zs, rfl, rfl, hH, hB, hz, q⟩ := h
  cases rx
  obtain ⟨u, rfl, ru⟩ := rv.one
  cases ru
  obtain ⟨z, its, n, r, hl, e⟩ := I.lstM hH
  obtain ⟨z2, its2, r2, hb⟩ := (show ObjOk X.prog X.w H s.heap b (.tup zs) from I.hok b _ hB)
  have hl2 := r2.length
  obtain ⟨⟨cls2, dd2, data2, sl2⟩, ho2, hc2, n2, hd2⟩ := id hb
  simp only at hc2 hd2
  subst hc2 hd2
  have hsz : its.toArray.size + its2.toArray.size ≤ sizeLine := by rw [List.size_toArray, List.size_toArray]; omega
  have hlong : ¬ (!its.toArray.isEmpty && Builtin.List.listTooLong (its.toArray.size + its2.toArray.size)) = true := by
    rw [notLongL hsz, Bool.and_false]
    exact Bool.false_ne_true
  refine call_meets F.slot_list_extend ⟨_, e, rfl⟩ F.entry_list_extend (F.args_list_extend_2 _ _)
    (extT_meets l its.toArray n b its2.toArray n2 dd2 sl2 hlong (by rw [List.size_toArray]; omega) (by omega)) ⟨e, ho2, ?_⟩
  refine ⟨.non, _, I.lset (its' := its ++ its2) hH e (by simp) (r.append r2) ?_, rfl, q⟩
  rw [List.length_append]
  omega
/-! a < b of data -/
def rLtD (K : PySem.W.Frag) : R2 := fun x y H Q => ∃ d e, Dp K H x d ∧ Dp K H y e ∧ PySem.W.alike d e = true ∧ d ≠ .none ∧ d.depth ≤ 8 ∧ Q (.bl (PySem.W.dataLt d e)) H
theorem op_ltD (hK : X.K = K) (hu : X.A.units + 64 < cLine) : OpR X (compareOp .Lt) (rLtD K) := by
  subst hK
  intro pins s σ H x y v u Q I rx ry h
  obtain ⟨d, e, hd, he, ha, hn, hdp, q⟩ := h
  obtain ⟨as, r1⟩ := Dp.reads I d x v hd rx
  obtain ⟨bs, r2⟩ := Dp.reads I e y u he ry
  exact PySem.W.lt_data r1 r2 ha hn (by omega) ⟨.bl _, H, I, rfl, q⟩
end
end RuleX
set_option Elab.async false
set_option linter.all false
set_option maxRecDepth 100000
set_option maxHeartbeats 4000000
namespace GenU
open PySem PySem.Spec PyProof.Rows L2 GxR
/-- the element as a test of what the name x holds; the globals and the built-ins may be read -/
def EltB (X : Cx) (scope : Scope) (x : Str) (elt : Expr) (ok : Value → Prop) (pb : Value → Bool) : Prop :=
  ∀ (cenv : Env) (A' : Around) (E' : Value → Shared → Prop) (u : Value) (s₂ : Shared) (m₂ : Str → Option Value), cenv.scope = scope → cenv.globals = mainGlobals → cenv.builtins = builtinsNs → A'.handled = none → L2.Mod X.K X.mg X.base →
    (∀ b o, X.base.get? b = some o → s₂.heap.get? b = some o) → ok u → s₂.heap.Ns cenv.locals m₂ → m₂ x = some u →
    wpAny (model X.prog X.w) A' (eval elt cenv) (fun y s₃ => y = .bool (pb u) ∧ Keeps s₂ s₃) E' s₂
/-- the generator g over the items, ready to be walked -/
def ReadyV (X : Cx) (pins : List (Addr × Obj)) (σ : L2.St) (H1 : Hp) (P : Addr) (n : Nat) (tr : Nat → Bool) (g : Addr) (s5 : Shared) : Prop :=
  ∃ (fp wr : List Addr) (G : Array GenState → Array GenState → Prop) (F : Nat → Value → Prop) (St : Nat → Shared → Prop),
    WalksS X.prog X.w X.A.in1 g fp wr G n F St ∧ St 0 s5 ∧
    TruthOf X.prog X.w X.A.in1 F tr ∧
    ∀ s', Moved wr G s5 s' → ∃ H2, Tabbed P H1 H2 ∧ Inv X pins σ H2 s'
/-- how a source is walked: the iterator is one new object -/
def Src (X : Cx) (H1 : Hp) (s1 : Shared) (u : Value) (n : Nat) (It : Nat → Value → Prop) : Prop :=
  ∀ (Q : Value → Shared → Prop), (∀ (o : Obj) (fp : List Addr) (St : Nat → Heap → Prop), (∀ b ∈ fp, b = s1.heap.objs.size ∨ ∃ ob, s1.heap.get? b = some ob ∧ ob.data ≠ .fields #[] ∧ H1 b ≠ some (.tbl #[]) ∧ ∀ ps, H1 b ≠ some (.tbl ps)) →
      (∀ A' : Around, A'.handled = none → Walks X.prog X.w A' s1.heap.objs.size fp [s1.heap.objs.size] n It St) → St 0 (s1.heap.push o) →
      Q (.ref s1.heap.objs.size) { s1 with heap := s1.heap.push o }) → ∀ E, wpAny (model X.prog X.w) X.A (pyIter u) Q E s1
section
variable {X : Cx} {pins : List (Addr × Obj)} {σ : L2.St} {H : Hp} {s : Shared}
theorem gen_src {c P : Addr} {elt iter : Expr} {x : Str} {px gpos : Pos} {scope : Scope} {pb : Value → Bool} {ok : Value → Prop} {te : TE} {k : Nat} {Q' : Value → Shared → Prop} {B : V → Hp → Prop} {R : V → Nat → (Nat → Bool) → Hp → Prop}
    (hB : ∀ (v : V) (H1 : Hp), B v H1 → TabG H1 P ∧ ∀ (u : Value) (s1 : Shared), RelV v u → Inv X pins σ H1 s1 → ∃ (n : Nat) (It : Nat → Value → Prop) (tr : Nat → Bool), (∀ i z, It i z → ok z ∧ pb z = tr i) ∧ Src X H1 s1 u n It ∧ R v n tr H1)
    (hr : Room k X.A) (TB : TabB X.base X.mg c P) (hcode : X.env.code = .ref c) (S : GenS X.env scope x) (hi : PE X iter te) (hel : EltB X scope x elt ok pb)
    (hs : ∀ v, genFold iter X.env v = pure v) (I : Inv X pins σ H s)
    (h : te σ H B)
    (hQ : ∀ v n tr H1 g s5, R v n tr H1 → ReadyV X pins σ H1 P n tr g s5 → Q' (.ref g) s5) :
    wpAny (model X.prog X.w) X.A (eval (.GeneratorExp elt [⟨.Name x px, iter, [], 0⟩] scope gpos) X.env) Q' X.xe s := by
  refine wpAny_GeneratorExp_walksQ hr.hd S.co (closure_ok S.free) S.cell S.dot S.loc S.kind (by have := hr.dp; omega) ?_ hs
  refine thn (hi.run pins s σ H _ I h) fun xv s1 ⟨v, H1, I1, r1, q1⟩ => ?_
  obtain ⟨⟨ps, hP, ht⟩, q1⟩ := hB v H1 q1
  obtain ⟨nn, It, tr, hok, hsrc, q1⟩ := q1 xv s1 r1 I1
  refine hsrc _ (fun o fp0 St hfp W hst => ?_) _
  have hPs : s1.heap.get? P = some { cls := .none, data := .fields ps } := I1.hok P _ hP
  have hPlt : P < s1.heap.objs.size := Heap.lt_size hPs
  have hP2 : (s1.heap.push o).get? P = some { cls := .none, data := .fields ps } := Heap.get?_push_of_some _ hPs
  have cd : PySem.W.CodeHd (s1.heap.push o) c P := TB.code.keeps fun b u e => Heap.get?_push_of_some _ (I1.bk b u e)
  have lim2 : (s1.heap.push o).NoLimit := I1.nolimit.push o
  have cont : ∀ (code : Value) (h3 : Heap) (tk : Nat) (ps' : Array Value), Heap.ExtBut P (s1.heap.push o) h3 → (s1.heap.push o).objs.size ≤ h3.objs.size → h3.get? P = some { cls := .none, data := .fields ps' } → (∃ more, ps' = ps ++ more) → TriplesOk ps'.toList →
      wpAny (model X.prog X.w) X.A (builtinsFor X.env.globals X.env.builtins) (fun bi s₄ =>
        ∃ Ia fp wr n₀ Pf St₀ pz F, Value.ref s1.heap.objs.size = .ref Ia ∧ (∀ A' : Around, A'.handled = none → Walks X.prog X.w A' Ia fp wr n₀ Pf St₀) ∧ St₀ 0 s₄.heap ∧ (∀ b ∈ fp, b < s₄.heap.objs.size) ∧ s₄.heap.NoLimit ∧ cStatics ∉ wr ∧
          (∀ href : Heap, (∀ b o, s₄.heap.get? b = some o → href.get? b = some o) →
            QuietGen X.prog X.w (genEnv scope (cloFrom X.env.cells scope.names []) s₄.heap.objs.size code bi X.env) x [] elt (List.range s₄.heap.objs.size) wr Pf pz F href) ∧
          (∀ a h₅ tk gs, gs.bare = true → s₄.heap.objs.size < a → h₅.objs.size = a + 1 → (∀ b o, s₄.heap.get? b = some o → h₅.get? b = some o) →
            WalksS X.prog X.w X.A.in4 a (a :: s₄.heap.objs.size :: List.range s₄.heap.objs.size) (s₄.heap.objs.size :: wr) (GenOnlyQ s₄.gens.size) (passing pz n₀ 0).length
              (fun j y => ∃ i, (passing pz n₀ 0)[j]? = some i ∧ F i y) (GenAt X.prog X.w X.A.in4 a s₄.gens.size s₄.heap.objs.size (List.range s₄.heap.objs.size) wr pz n₀ F) →
            GenAt X.prog X.w X.A.in4 a s₄.gens.size s₄.heap.objs.size (List.range s₄.heap.objs.size) wr pz n₀ F 0 { s₄ with gens := s₄.gens.push gs, toks := tk, heap := h₅ } →
            Q' (.ref a) { s₄ with gens := s₄.gens.push gs, toks := tk, heap := h₅ })) X.xe { s1 with heap := h3, toks := tk } := by
    intro code h3 tk ps' hx hsz hP3 hmore ht3
    obtain ⟨bm, ob, e1, e2, e3, e4, e5, e6, e7, e8⟩ := TB.bm
    have hcP : cStatics ≠ P := fun e => by
      obtain ⟨_, hns, _⟩ := I1.nolimit
      obtain ⟨o', es, ep, ho, hd, _⟩ := hns
      rw [e, hPs] at ho
      cases ho
      cases hd
    have hcl : cStatics < s1.heap.objs.size := let ⟨_, hns, _⟩ := I1.nolimit; hns.lt
    have sz2 : (s1.heap.push o).objs.size = s1.heap.objs.size + 1 := Heap.size_push ..
    have keep3 : ∀ b u, b ≠ P → s1.heap.get? b = some u → h3.get? b = some u := fun b u hb e => hx b u hb (Heap.get?_push_of_some _ e)
    refine wpAny_builtinsFor (m := X.mg) (by rw [I1.ok.glob]; exact ((I1.mod.glob.keeps I1.bk).push o).extBut hx TB.gP) e1 e2 (keep3 _ _ e4 (I1.bk _ _ e5)) e6 e7 e8 ?_
    have hfpP : ∀ b ∈ fp0, b ≠ P := fun b hb z => by
      rcases hfp b hb with e | ⟨ob', q1', q2', _, q4'⟩
      · exact Nat.ne_of_lt hPlt (z.symm.trans e)
      · exact q4' ps (z ▸ hP)
    refine ⟨s1.heap.objs.size, fp0, [s1.heap.objs.size], nn, It, St, (fun _ => true), (fun i y => y = .bool (tr i)), rfl, W, ?_, ?_, lim2.extBut hx hcP, ?_, ?_, ?_⟩
    · refine (W X.A hr.hd).frame _ _ _ hst fun b hb u e => hx b u (hfpP b hb) e
    · intro b hb
      show b < h3.objs.size
      have hlt3 : s1.heap.objs.size < h3.objs.size := by omega
      rcases hfp b hb with z | ⟨ob', q1', _⟩
      · rw [z]
        exact hlt3
      · exact Nat.lt_trans (Heap.lt_size q1') hlt3
    · intro z
      rcases List.mem_cons.mp z with z | z
      · exact Nat.ne_of_lt hcl z
      · cases z
    · intro href hhref
      refine ⟨fun A' E' i v s₂ m₂ hA hPv hn hm hk => ?_, fun A' E' i v s₂ m₂ hA hPv hp hn hm hk => ?_⟩
      · simp only [List.forIn_nil]
        exact wpAny_pure ⟨rfl, keeps_refl _⟩
      · obtain ⟨hov, hpv⟩ := hok i v hPv
        have hb2 : ∀ b o', X.base.get? b = some o' → s₂.heap.get? b = some o' := fun b o' e => by
          have e1' := I1.bk b o' e
          have hlt := Heap.lt_size e1'
          have hbP : b ≠ P := fun z => by
            have z2 := (I1.bs b o' e).2
            rw [z, hP] at z2
            cases z2
          have e3' : h3.get? b = some o' := keep3 b o' hbP e1'
          have hl3 : b < h3.objs.size := Heap.lt_size e3'
          refine hk b (List.mem_range.mpr hl3) (fun z => ?_) o' (hhref b o' e3')
          rcases List.mem_cons.mp z with z | z
          · rw [z] at hlt
            exact Nat.lt_irrefl _ hlt
          · cases z
        exact wpAny_mono (hel _ A' E' v s₂ m₂ rfl I1.ok.glob rfl hA I1.mod hb2 hov hn hm) (fun y s3 r => ⟨by rw [r.1, hpv], r.2⟩) fun _ _ e => e
    · intro g h5 tk5 gs hgb hag hsz5 hk5 W5 hat
      simp only [GxR.passing_true, List.length_range] at W5
      refine hQ v nn tr H1 g _ q1 ⟨_, _, _, _, _, W5.in4_1, hat, ?_, fun s' hm => ?_⟩
      · intro j y sj Qj Ej hy hQj
        obtain ⟨i, hij, hyb⟩ := hy
        have hyb : y = .bool (tr i) := hyb
        subst hyb
        obtain ⟨hj, ej⟩ := List.getElem?_eq_some_iff.mp hij
        rw [List.getElem_range] at ej
        subst ej
        exact wpAny_truthy_bool hQj
      · obtain ⟨more, em⟩ := hmore
        have nwr : ∀ b u, s1.heap.get? b = some u → b ∉ h3.objs.size :: [s1.heap.objs.size] := fun b u e hb => by
          have hl := Heap.lt_size e
          rcases List.mem_cons.mp hb with z | z
          · rw [z] at hl
            have h9 : (h3.objs.size : Nat) < s1.heap.objs.size := hl
            omega
          · rcases List.mem_cons.mp z with z | z
            · rw [z] at hl
              exact Nat.lt_irrefl _ hl
            · cases z
        have J := inv_tab (more := more) (h' := s'.heap) (g' := s'.gens) (d' := s'.drawn) (t' := s'.toks) I1 hP (fun b u hb e => hm.heap b u (nwr b u e) (hk5 b u (keep3 b u hb e)))
          (by rw [← em]; exact hm.heap P _ (nwr P _ hPs) (hk5 P _ hP3)) (AllBare.movedS (I1.bare.push hgb) hm)
        rw [sh_eta s1 s' hm.os] at J
        refine ⟨upd H1 P (.tbl (ps ++ more)), ⟨⟨ps ++ more, upd_same, by rw [← em]; exact ht3⟩, fun b hb => upd_ne hb⟩, J⟩
  refine ⟨lim2, ?_⟩
  cases hf : codeAmong gpos ps.toList with
  | none =>
    refine wpAny_genexprCodeX hcode (cd.code hP2 ht) (cd.tab hP2) hf fun c' h' tk hx hge hlt hco' _ htab' _ => ?_
    obtain ⟨o1, vs, f1, tf, fl, tg, inF, tx, tt, op, _, _, _, _, _, _, _, _, _, htr, _⟩ := hco'
    exact cont _ h' tk _ hx (Nat.le_trans hge (Nat.le_of_lt hlt)) htab'.2 ⟨_, rfl⟩ htr
  | some cv =>
    refine wpAny_genexprCode_hit hcode (cd.code hP2 ht) hf ?_
    exact cont cv (s1.heap.push o) s1.toks ps (Heap.ExtBut.refl _ _) (Nat.le_refl _) hP2 ⟨#[], by simp⟩ ht
/-- all(test for x in e), e a text, the test may read globals -/
def tAllU (P : Addr) (pc : Nat → Bool) (te : TE) : TE := fun σ H Q => te σ H fun v H1 => TabG H1 P ∧ ∃ a : Str, v = .str a ∧ ∀ H2, Tabbed P H1 H2 → Q (.bl (a.cps.toList.all pc)) H2
def OneSign (u : Value) : Prop := ∃ c t, u = .str ⟨#[c]⟩ t
theorem all_at (a : Str) (pc : Nat → Bool) : (List.range a.cps.size).all (fun i => match a.cps[i]? with | some c => pc c | none => false) = a.cps.toList.all pc := by
  rw [Bool.eq_iff_iff, List.all_eq_true, List.all_eq_true]
  constructor
  · intro h b hb
    obtain ⟨j, hj, e⟩ := List.getElem_of_mem hb
    have hj' : j < a.cps.size := by simpa using hj
    have q := h j (List.mem_range.mpr hj')
    rw [Array.getElem?_eq_getElem hj'] at q
    have e2 : a.cps[j] = b := by rw [← e]; simp
    rw [← e2]
    exact q
  · intro h j hj
    have hj' := List.mem_range.mp hj
    rw [Array.getElem?_eq_getElem hj']
    exact h _ (by simp)
theorem pe_allU {c P : Addr} {elt iter : Expr} {x : Str} {px p pos gpos : Pos} {scope : Scope} {pb : Value → Bool} {pc : Nat → Bool} {te : TE} {k : Nat}
    (hr : Room k X.A) (hg : Gl X "all") (hm : X.mg "all" = none) (hb : bootBuiltins "all" = some (.builtin "all")) (TB : TabB X.base X.mg c P) (hcode : X.env.code = .ref c) (S : GenS X.env scope x) (hi : PE X iter te) (hel : EltB X scope x elt OneSign pb)
    (hp : ∀ c t, pb (.str ⟨#[c]⟩ t) = pc c)
    (hs : ∀ v, genFold iter X.env v = pure v)
    (he : starEach [.GeneratorExp elt [⟨.Name x px, iter, [], 0⟩] scope gpos] X.env = (false, eval (.GeneratorExp elt [⟨.Name x px, iter, [], 0⟩] scope gpos) X.env) :: starEach [] X.env := by rfl) :
    PE X (.Call (.Name "all" p) [.GeneratorExp elt [⟨.Name x px, iter, [], 0⟩] scope gpos] [] pos) (tAllU P pc te) := by
  refine ⟨fun pins s σ H Q I h => ?_⟩
  refine wpAny_Call_Name_kw (ld_blt I hg hm hb ?_)
  refine PyProof.Rows.callWith_builtin1 ?_ he (by rfl)
  rw [he]
  show wpAny _ _ (spliced ((false, eval (.GeneratorExp elt [⟨.Name x px, iter, [], 0⟩] scope gpos) X.env) :: backTo pos (starEach [] X.env))) _ _ s
  refine Calls.spliced_cons (gen_src (te := te) (R := fun v n tr H1 => ∃ a : Str, n = a.cps.size ∧ tr = (fun i => match a.cps[i]? with | some c => pc c | none => false) ∧ ∀ H2, Tabbed P H1 H2 → Q (.bl (a.cps.toList.all pc)) H2) (hB := ?_) hr TB hcode S hi hel hs I h fun v n tr H1 g s5 hR hG => ?_)
  · rintro v H1 ⟨hT, a, rfl, hq⟩
    refine ⟨hT, fun u s1 ru I1 => ?_⟩
    obtain ⟨t, rfl⟩ := _root_.id ru
    refine ⟨a.cps.size, SignAt a, _, fun i z hz => ?_, fun Q2 hQ2 E => wpAny_pyIter_str fun o St W hst => ?_, a, rfl, rfl, hq⟩
    · obtain ⟨c, u, hc, rfl⟩ := hz
      refine ⟨⟨c, u, rfl⟩, ?_⟩
      rw [hp, hc]
    · exact hQ2 o _ St (fun b hb => .inl (List.mem_singleton.mp hb)) W hst
  obtain ⟨a, rfl, rfl, hR⟩ := hR
  obtain ⟨fp, wr, G, F, St, W, hst, htr, hI⟩ := hG
  refine Calls.spliced_nil ?_
  refine call_all_walkS (W.self 0 _ _ _ hst ⟨g, fp, wr, G, _, F, St, _, rfl, W, hst, htr, fun s' hmv => ?_⟩)
  obtain ⟨H2, hT, J⟩ := hI s' hmv
  refine ⟨.bl _, H2, J, rfl, ?_⟩
  rw [all_at a pc]
  exact hR H2 hT
end
/-- x in G, G a global text -/
def pbIn (y : Str) : Value → Bool
  | .str x _ => !(Builtin.Str.occurrences y x 0 y.length 1).isEmpty
  | _ => false
theorem elt_inG {X : Cx} {scope : Scope} {x g y : Str} {tk : Tok} {p1 p2 p3 : Pos} (hk : scope.kind = .function) (hl : scope.names.lookup x = some .local) (hi : scope.names.lookup g = some .globalImplicit) (mg' : X.mg g = some (.str y tk)) (hd : (x == ("__debug__" : Str)) = false := by decide) (hdg : (g == ("__debug__" : Str)) = false := by decide) :
    EltB X scope x (.Compare (.Name x p1) [.In] [.Name g p2] p3) OneSign (pbIn y) := by
  intro cenv A' E' u s₂ m₂ hs hgl hbn hA M hkp hok hn hm
  obtain ⟨c, t, rfl⟩ := hok
  refine wpAny_Compare1 ?_ (by rfl)
  refine wpAny_Name (wpAny_loadName_local (by rw [hs]; exact hk) (show cenv.scope.names.lookup x = some .local by rw [hs]; exact hl) hn hm ?_) hd
  refine Calls.Name_function_global (by rw [hs]; exact hk) (show cenv.scope.names.lookup g = some .globalImplicit by rw [hs]; exact hi) (Calls.loadGlobal_global (by rw [hgl]; exact M.glob.keeps hkp) mg' ?_) hdg
  exact in_str ⟨rfl, keeps_refl _⟩
end GenU
set_option Elab.async false
set_option linter.all false
set_option maxRecDepth 100000
set_option maxHeartbeats 4000000
namespace Kb
open PySem PySem.Spec PyProof.Rows L2 Com
/-! what is common -/
theorem seq_split {t1 t2 : TS} {D : Ends} {σ : L2.St} {H : Hp} (J : L2.St → Hp → Prop) (hJ : ∀ σ' H', J σ' H' → t2 D σ' H') (h1 : (∀ σ' H', J σ' H' → t2 D σ' H') → tSeq t1 t2 D σ H) : tSeq t1 t2 D σ H := h1 hJ
theorem tc {v : V} {σ : L2.St} {H : Hp} {Q : VK} (h : Q v H) : tC v σ H Q := h
theorem ixt {K : PySem.W.Frag} {H : Hp} {p : Addr} {xs : List V} {i : Int} {v : V} {Q : VK} (h : H p = some (.tup xs)) (e : atI xs i = some v) (q : Q v H) : rIxT K (.ref p) (.int i) H Q := ⟨p, xs, i, v, rfl, rfl, SqT.of h, e, q⟩
theorem ixk {K : PySem.W.Frag} {H : Hp} {p : Addr} {xs : List V} {i : Int} {v : V} {Q : VK} (h : SqT K H p xs) (e : atI xs i = some v) (q : Q v H) : rIxT K (.ref p) (.int i) H Q := ⟨p, xs, i, v, rfl, rfl, h, e, q⟩
theorem ixl {K : PySem.W.Frag} {H : Hp} {p : Addr} {xs : List V} {i : Int} {v : V} {Q : VK} (h : H p = some (.lst xs)) (e : atI xs i = some v) (q : Q v H) : rIxL K (.ref p) (.int i) H Q := ⟨p, xs, i, v, rfl, rfl, SqL.of h, e, q⟩
theorem strE (a b : Str) : decide (V.str a = V.str b) = decide (a = b) := by
  by_cases e : a = b
  · subst e
    rw [decide_eq_true rfl, decide_eq_true rfl]
  · rw [decide_eq_false e, decide_eq_false]
    intro z
    exact e (V.str.inj z)
theorem intE (a b : Int) : decide (V.int a = V.int b) = decide (a = b) := by
  by_cases e : a = b
  · subst e
    rw [decide_eq_true rfl, decide_eq_true rfl]
  · rw [decide_eq_false e, decide_eq_false]
    intro z
    exact e (V.int.inj z)
theorem same_trans {H1 H2 H3 : Hp} (a : Same H1 H2) (b : Same H2 H3) : Same H1 H3 := fun c o e => b c o (a c o e)
/-- all but one stays -/
def Keep (t : Addr) (H H' : Hp) : Prop := ∀ b o, H b = some o → b ≠ t → H' b = some o
theorem Keep.refl (t : Addr) (H : Hp) : Keep t H H := fun _ _ h _ => h
theorem Keep.trans {t : Addr} {H1 H2 H3 : Hp} (a : Keep t H1 H2) (b : Keep t H2 H3) : Keep t H1 H3 := fun c o h n => b c o (a c o h n) n
theorem Keep.at {t : Addr} {H : Hp} {o : HO} : Keep t H (upd H t o) := fun b u h n => by rw [upd_ne n]; exact h
theorem Keep.same {t : Addr} {H H' : Hp} (h : Same H H') : Keep t H H' := fun b o e _ => h b o e
theorem Keep.tk {t : Addr} {H H' : Hp} {xs : List V} (k : Keep t H H') (h : H t = some (.lst xs)) : Tk H H' := fun b ys e => k b _ e (ne_of e h (by intro z; cases z))
theorem Keep.new {td p : Addr} {H : Hp} {o : HO} (np : H p = none) : Keep td H (upd H p o) := fun b u e _ => by rw [upd_ne (ne_of_none e np)]; exact e
theorem Keep.nn {td b : Addr} {H H' : Hp} (k : Keep td H H') (n : H' b = none) (h : b ≠ td) : H b = none := by
  cases e : H b with
  | none => rfl
  | some o => rw [k b o e h] at n; cases n
theorem Same.nn {b : Addr} {H H' : Hp} (k : Same H H') (n : H' b = none) : H b = none := by
  cases e : H b with
  | none => rfl
  | some o => rw [k b o e] at n; cases n
theorem ne_td {td b : Addr} {H : Hp} {o : HO} (h : H td = some o) (n : H b = none) : b ≠ td := fun z => by rw [z, h] at n; cases n
theorem iV_get {l : List Int} {i : Nat} (h : i < l.length) : (l.map V.int)[i]? = some (.int (l[i])) := by rw [List.getElem?_map, List.getElem?_eq_getElem h]; rfl
theorem atI_mem {xs : List V} {i : Int} (h0 : 0 ≤ i) (h1 : i < (xs.length : Int)) : ∃ v, atI xs i = some v ∧ v ∈ xs := by
  obtain ⟨n, rfl⟩ : ∃ n : Nat, i = (n : Int) := ⟨i.toNat, by omega⟩
  have hn : n < xs.length := by omega
  exact ⟨xs[n], atI_nat (List.getElem?_eq_getElem hn), List.getElem_mem hn⟩
/-- what a list comprehension over a list is -/
theorem lc_listK {K : PySem.W.Frag} {q : Addr} {xs : List V} {g : TG} {tt : L2.TT} {te : TE} {vs : List Nat} {σ : L2.St} {H1 : Hp} {D : Addr} {Qd : Hp → Prop} (Pv : Nat → Hp → Prop) (hq : ∀ i H, Pv i H → SqL K H q xs) (h0 : Pv 0 (upd H1 D (.lst [])))
    (hs : ∀ i v H, xs[i]? = some v → Pv i H → g v (wipe σ vs) H fun σ2 H2 => wipe σ2 vs = wipe σ vs ∧ tt σ2 H2 fun b H3 =>
      if b = true then te σ2 H3 fun y H4 => ∃ acc, H4 D = some (.lst acc) ∧ acc.length < sizeLine ∧ Pv (i + 1) (upd H4 D (.lst (acc ++ [y]))) else Pv (i + 1) H3) (hd : ∀ H, Pv xs.length H → Qd H) :
    ∃ W : Nat → Nat → Hp → Prop, (∃ m, W 0 m (upd H1 D (.lst []))) ∧ ∀ i m H, W i m H →
      ((Itl K q).stop i H ∧ Qd H) ∨ ((Itl K q).go i H ∧ ∃ Nx : Hp → Prop, (∀ H', Nx H' → ∃ m', m' < m ∧ W (i + 1) m' H') ∧ ∀ v H', (Itl K q).yld i H v H' → g v (wipe σ vs) H' fun σ2 H2 => wipe σ2 vs = wipe σ vs ∧ tt σ2 H2 fun b H3 =>
        if b = true then te σ2 H3 fun y H4 => ∃ acc, H4 D = some (.lst acc) ∧ acc.length < sizeLine ∧ Nx (upd H4 D (.lst (acc ++ [y]))) else Nx H3) := by
  refine ⟨fun i m H => m = xs.length - i ∧ i ≤ xs.length ∧ Pv i H, ⟨_, rfl, Nat.zero_le _, h0⟩, ?_⟩
  rintro i m H ⟨rfl, hi, p⟩
  have e := hq i H p
  by_cases hlt : i < xs.length
  · refine .inr ⟨⟨xs, xs[i], e, List.getElem?_eq_getElem hlt⟩, Pv (i + 1), fun H' p' => ⟨xs.length - (i + 1), by omega, rfl, hlt, p'⟩, fun v H' y => ?_⟩
    obtain ⟨rfl, hv⟩ := y
    exact hs i v _ (hv xs e) p
  · have ei : i = xs.length := by omega
    subst ei
    exact .inl ⟨⟨xs, e, Nat.le_refl _⟩, hd _ p⟩
/-- .. over a tuple -/
theorem lc_tupK {K : PySem.W.Frag} {q : Addr} {xs : List V} {g : TG} {tt : L2.TT} {te : TE} {vs : List Nat} {σ : L2.St} {H1 : Hp} {D : Addr} {Qd : Hp → Prop} (Pv : Nat → Hp → Prop) (hq : ∀ i H, Pv i H → SqT K H q xs) (h0 : Pv 0 (upd H1 D (.lst [])))
    (hs : ∀ i v H, xs[i]? = some v → Pv i H → g v (wipe σ vs) H fun σ2 H2 => wipe σ2 vs = wipe σ vs ∧ tt σ2 H2 fun b H3 =>
      if b = true then te σ2 H3 fun y H4 => ∃ acc, H4 D = some (.lst acc) ∧ acc.length < sizeLine ∧ Pv (i + 1) (upd H4 D (.lst (acc ++ [y]))) else Pv (i + 1) H3) (hd : ∀ H, Pv xs.length H → Qd H) :
    ∃ W : Nat → Nat → Hp → Prop, (∃ m, W 0 m (upd H1 D (.lst []))) ∧ ∀ i m H, W i m H →
      ((Itt K q).stop i H ∧ Qd H) ∨ ((Itt K q).go i H ∧ ∃ Nx : Hp → Prop, (∀ H', Nx H' → ∃ m', m' < m ∧ W (i + 1) m' H') ∧ ∀ v H', (Itt K q).yld i H v H' → g v (wipe σ vs) H' fun σ2 H2 => wipe σ2 vs = wipe σ vs ∧ tt σ2 H2 fun b H3 =>
        if b = true then te σ2 H3 fun y H4 => ∃ acc, H4 D = some (.lst acc) ∧ acc.length < sizeLine ∧ Nx (upd H4 D (.lst (acc ++ [y]))) else Nx H3) := by
  refine ⟨fun i m H => m = xs.length - i ∧ i ≤ xs.length ∧ Pv i H, ⟨_, rfl, Nat.zero_le _, h0⟩, ?_⟩
  rintro i m H ⟨rfl, hi, p⟩
  have e := hq i H p
  by_cases hlt : i < xs.length
  · refine .inr ⟨⟨xs, xs[i], e, List.getElem?_eq_getElem hlt⟩, Pv (i + 1), fun H' p' => ⟨xs.length - (i + 1), by omega, rfl, hlt, p'⟩, fun v H' y => ?_⟩
    obtain ⟨rfl, hv⟩ := y
    exact hs i v _ (hv xs e) p
  · have ei : i = xs.length := by omega
    subst ei
    exact .inl ⟨⟨xs, e, Nat.le_refl _⟩, hd _ p⟩
/-- for over a tuple -/
theorem for_tupK {K : PySem.W.Frag} {q : Addr} {xs : List V} {g : TG} {tb : TS} {D : Ends} {σ : L2.St} {H : Hp} (Pv : Nat → L2.St → Hp → Prop) (h0 : Pv 0 σ H) (hl : ∀ i σ H, Pv i σ H → SqT K H q xs)
    (hs : ∀ i x σ H, xs[i]? = some x → Pv i σ H → g x σ H fun σ2 H2 => tb { D with nx := Pv (i + 1), ct := Pv (i + 1), bk := D.nx } σ2 H2) (hd : ∀ σ H, Pv xs.length σ H → D.nx σ H) :
    ∃ W : Nat → Nat → L2.St → Hp → Prop, (∃ m, W 0 m σ H) ∧ ∀ i m σ H, W i m σ H →
      ((Itt K q).stop i H ∧ D.nx σ H) ∨ ((Itt K q).go i H ∧ ∃ N : L2.St → Hp → Prop, (∀ σ' H', N σ' H' → ∃ m', m' < m ∧ W (i + 1) m' σ' H') ∧ ∀ x H', (Itt K q).yld i H x H' → g x σ H' fun σ2 H2 => tb { D with nx := N, ct := N, bk := D.nx } σ2 H2) := by
  refine ⟨fun i m σ H => m = xs.length - i ∧ i ≤ xs.length ∧ Pv i σ H, ⟨xs.length, by simp, Nat.zero_le _, h0⟩, ?_⟩
  rintro i m σ H ⟨rfl, hi, p⟩
  have e := hl i σ H p
  by_cases hlt : i < xs.length
  · refine .inr ⟨⟨xs, xs[i], e, List.getElem?_eq_getElem hlt⟩, Pv (i + 1), fun σ' H' p' => ⟨xs.length - (i + 1), by omega, rfl, hlt, p'⟩, fun x H' y => ?_⟩
    obtain ⟨rfl, hx⟩ := y
    exact hs i x σ _ (hx xs e) p
  · have ei : i = xs.length := by omega
    subst ei
    exact .inl ⟨⟨xs, e, Nat.le_refl _⟩, hd σ H p⟩
/-- a text among written texts -/
theorem shp {d : PyData} (h1 : d.canLay0 = true) (h2 : d.depth ≤ 64) : SeqAt.shaped d = true := by
  show (d.canLay0 && decide (d.depth ≤ 64)) = true
  rw [Bool.and_eq_true]
  exact ⟨h1, decide_eq_true h2⟩
theorem dt_strs {H : Hp} : ∀ ls : List Str, DtAll H (ls.map V.str) (ls.map PyData.str)
  | [] => .nil
  | a :: l => .cons (.str a) (dt_strs l)
theorem in_strs {K : PySem.W.Frag} {H : Hp} {p : Addr} {x : Str} {ls : List Str} {Q : VK} (hl : ls.all PyData.strOk = true) (hx : PyData.strOk x = true) (hp : H p = some (.tup (ls.map V.str))) (q : Q (.bl (decide (x ∈ ls))) H) : rInT K (.str x) (.ref p) H Q := by
  have d1 : Dt H (.ref p) (.tuple (ls.map PyData.str)) := .tup hp (dt_strs ls)
  have lay : ∀ l : List Str, l.all PyData.strOk = true → PyData.canLayAll0 (l.map PyData.str) = true := by
    intro l
    induction l with
    | nil => intro _; simp [PyData.canLayAll0]
    | cons a l ih =>
      intro h
      rw [List.all_cons, Bool.and_eq_true] at h
      simp [PyData.canLayAll0, PyData.canLay0, h.1, ih h.2]
  have dep : ∀ l : List Str, PyData.depthAll (l.map PyData.str) ≤ 1 := by
    intro l
    induction l with
    | nil => simp [PyData.depthAll]
    | cons a l ih =>
      simp only [List.map_cons, PyData.depthAll, PyData.depth]
      omega
  refine ⟨.str x, _, .str _, d1.dp, shp (by simp [PyData.canLay0, hx]) (by simp [PyData.depth]), shp (by simp [PyData.canLay0, lay ls hl]) (by have := dep ls; simp only [PyData.depth]; omega), ?_⟩
  have pls : ∀ l : List Str, plAll (l.map PyData.str) = true := by
    intro l
    induction l with
    | nil => rfl
    | cons a l ih => simp [plAll, pl, ih]
  have e : ((ls.map PyData.str).any fun z => PyData.eqv z (.str x)) = decide (x ∈ ls) := by
    rw [Bool.eq_iff_iff, any_pl (pls ls) rfl, decide_eq_true_iff]
    constructor
    · intro h
      obtain ⟨y, hy, e⟩ := List.mem_map.mp h
      cases e
      exact hy
    · intro h
      exact List.mem_map.mpr ⟨x, h, rfl⟩
  rw [e]
  exact q
end Kb
set_option Elab.async false
set_option linter.all false
set_option maxRecDepth 100000
set_option maxHeartbeats 4000000
namespace ND
open PySem PySem.Spec PyProof.Rows L2 Com
/-! dicts with keys that are tuples within tuples -/
mutual
inductive NIs (H : Hp) : NestedKey → V → Prop
  | none : NIs H .none .non
  | num (i : Int) : NIs H (.num i) (.int i)
  | text (x : Str) : NIs H (.text x) (.str x)
  | tup {a : Addr} {xs : List V} {ks : List NestedKey} : H a = some (.tup xs) → NAll H ks xs → NIs H (.tup ks) (.ref a)
inductive NAll (H : Hp) : List NestedKey → List V → Prop
  | nil : NAll H [] []
  | cons {k : NestedKey} {v : V} {ks : List NestedKey} {vs : List V} : NIs H k v → NAll H ks vs → NAll H (k :: ks) (v :: vs)
end
mutual
theorem NIs.mono {H H' : Hp} (t : Tk H H') : ∀ (k : NestedKey) (v : V), NIs H k v → NIs H' k v
  | .none, _, h => by cases h; exact .none
  | .num _, _, h => by cases h; exact .num _
  | .text _, _, h => by cases h; exact .text _
  | .tup ks, _, h => by
    cases h with
    | tup e q => exact .tup (t _ _ e) (NAll.mono t ks _ q)
theorem NAll.mono {H H' : Hp} (t : Tk H H') : ∀ (ks : List NestedKey) (vs : List V), NAll H ks vs → NAll H' ks vs
  | [], _, h => by cases h; exact .nil
  | k :: ks, _, h => by
    cases h with
    | cons h1 h2 => exact .cons (NIs.mono t k _ h1) (NAll.mono t ks _ h2)
end
theorem NIs.tk {H H' : Hp} {k : NestedKey} {v : V} (h : NIs H k v) (t : Tk H H') : NIs H' k v := NIs.mono t k v h
mutual
theorem NIs.raw {P : Program} {w : World} {H : Hp} {h : Heap} (ok : HOk P w H h) : ∀ (k : NestedKey) (v : V) (u : Value), NIs H k v → RelV v u → NestedIs h k u
  | .none, _, u, q, r => by
    cases q
    cases (show u = Value.none from r)
    exact .none
  | .num i, _, u, q, r => by
    cases q
    obtain ⟨t, e⟩ := (show ∃ t, u = Value.int i t from r)
    subst e
    exact .int i t
  | .text x, _, u, q, r => by
    cases q
    obtain ⟨t, e⟩ := (show ∃ t, u = Value.str x t from r)
    subst e
    exact .text x t
  | .tup ks, _, u, q, r => by
    cases q with
    | @tup a xs _ e qs =>
      cases (show u = Value.ref a from r)
      obtain ⟨_, its, rs, o, h1, h2, n, h3⟩ := (show ObjOk P w H h a (.tup xs) from ok a _ e)
      exact .tup h1 h2 h3 (by simpa using NAll.raw ok ks xs its qs rs)
theorem NAll.raw {P : Program} {w : World} {H : Hp} {h : Heap} (ok : HOk P w H h) : ∀ (ks : List NestedKey) (vs : List V) (us : List Value), NAll H ks vs → Vals vs us → NestedAll h ks us
  | [], _, us, q, r => by
    cases q
    cases r
    exact .nil
  | k :: ks, _, us, q, r => by
    cases q with
    | cons q1 q2 =>
      cases r with
      | cons r1 r2 => exact .cons (NIs.raw ok k _ _ q1 r1) (NAll.raw ok ks _ _ q2 r2)
end
/-! data as keys -/
mutual
def kd : PyData → Bool
  | .none | .int _ | .str _ => true
  | .bool _ | .dict _ | .list _ => false
  | .tuple xs => kdAll xs
def kdAll : List PyData → Bool
  | [] => true
  | x :: xs => kd x && kdAll xs
end
mutual
def nk : PyData → NestedKey
  | .none => .none
  | .int i => .num i
  | .str x => .text x
  | .bool _ => .none
  | .dict _ => .none
  | .list _ => .none
  | .tuple xs => .tup (nkAll xs)
def nkAll : List PyData → List NestedKey
  | [] => []
  | x :: xs => nk x :: nkAll xs
end
mutual
theorem nis_of {H : Hp} : ∀ (d : PyData) (v : V), kd d = true → Dt H v d → NIs H (nk d) v
  | .none, _, _, h => by cases h; simp only [nk]; exact .none
  | .int i, _, _, h => by cases h; simp only [nk]; exact .num i
  | .str x, _, _, h => by cases h; simp only [nk]; exact .text x
  | .bool _, _, k, _ => by simp [kd] at k
  | .dict _, _, k, _ => by simp [kd] at k
  | .list _, _, k, _ => by simp [kd] at k
  | .tuple xs, _, k, h => by
    cases h with
    | tup e q =>
      simp only [nk]
      exact .tup e (nall_of xs _ (by simpa [kd] using k) q)
theorem nall_of {H : Hp} : ∀ (ds : List PyData) (vs : List V), kdAll ds = true → DtAll H vs ds → NAll H (nkAll ds) vs
  | [], _, _, h => by cases h; simp only [nkAll]; exact .nil
  | d :: ds, _, k, h => by
    cases h with
    | cons h1 h2 =>
      simp only [kdAll, Bool.and_eq_true] at k
      simp only [nkAll]
      exact .cons (nis_of d _ k.1 h1) (nall_of ds _ k.2 h2)
end
mutual
theorem nk_inj : ∀ (d e : PyData), kd d = true → kd e = true → nk d = nk e → d = e
  | .none, e, _, h, q => by cases e <;> simp [kd, nk] at h q ⊢
  | .int _, e, _, h, q => by cases e <;> simp [kd, nk] at h q ⊢; exact q
  | .str _, e, _, h, q => by cases e <;> simp [kd, nk] at h q ⊢; exact q
  | .bool _, _, h, _, _ => by simp [kd] at h
  | .dict _, _, h, _, _ => by simp [kd] at h
  | .list _, _, h, _, _ => by simp [kd] at h
  | .tuple xs, e, h, h', q => by
    cases e with
    | tuple ys =>
      simp only [nk, NestedKey.tup.injEq] at q
      simp only [kd] at h h'
      rw [nkAll_inj xs ys h h' q]
    | _ => simp [kd, nk] at h' q
theorem nkAll_inj : ∀ (ds es : List PyData), kdAll ds = true → kdAll es = true → nkAll ds = nkAll es → ds = es
  | [], es, _, _, q => by cases es <;> simp [nkAll] at q ⊢
  | d :: ds, es, h, h', q => by
    cases es with
    | nil => simp [nkAll] at q
    | cons e es =>
      simp only [kdAll, Bool.and_eq_true] at h h'
      simp only [nkAll, List.cons.injEq] at q
      rw [nk_inj d e h.1 h'.1 q.1, nkAll_inj ds es h.2 h'.2 q.2]
end
/-! tables of entries -/
def valN (kvs : List (NestedKey × Addr × V)) (k : NestedKey) : Option V := (kvs.find? fun x => decide (x.1 = k)).map (·.2.2)
def putN (kvs : List (NestedKey × Addr × V)) (k : NestedKey) (b : Addr) (v : V) : List (NestedKey × Addr × V) :=
  if (valN kvs k).isSome = true then kvs.map (fun x => if x.1 = k then (x.1, x.2.1, v) else x) else kvs ++ [(k, b, v)]
theorem valN_nil {k : NestedKey} : valN [] k = none := rfl
theorem valN_pos {p : NestedKey × Addr × V} {r : List (NestedKey × Addr × V)} {k : NestedKey} (e : p.1 = k) : valN (p :: r) k = some p.2.2 := by simp [valN, List.find?_cons, e]
theorem valN_neg {p : NestedKey × Addr × V} {r : List (NestedKey × Addr × V)} {k : NestedKey} (e : ¬ p.1 = k) : valN (p :: r) k = valN r k := by simp [valN, List.find?_cons, e]
theorem valN_app {r : List (NestedKey × Addr × V)} {k : NestedKey} {p : NestedKey × Addr × V} : ∀ {kvs : List (NestedKey × Addr × V)}, valN kvs k = none → valN (kvs ++ [p]) k = if p.1 = k then some p.2.2 else none
  | [], _ => by
    by_cases e : p.1 = k
    · rw [if_pos e]; exact valN_pos e
    · rw [if_neg e]; exact valN_neg e
  | x :: xs, h => by
    by_cases e : x.1 = k
    · rw [valN_pos e] at h; cases h
    · rw [valN_neg e] at h
      rw [List.cons_append, valN_neg e]
      exact valN_app (r := r) h
theorem valN_some {r : List (NestedKey × Addr × V)} {k : NestedKey} {v : V} : ∀ {kvs : List (NestedKey × Addr × V)}, valN kvs k = some v → valN (kvs ++ r) k = some v
  | [], h => by cases h
  | x :: xs, h => by
    by_cases e : x.1 = k
    · rw [valN_pos e] at h
      rw [List.cons_append, valN_pos e]
      exact h
    · rw [valN_neg e] at h
      rw [List.cons_append, valN_neg e]
      exact valN_some h
theorem putN_new {kvs : List (NestedKey × Addr × V)} {k : NestedKey} {b : Addr} {v : V} (h : valN kvs k = none) : putN kvs k b v = kvs ++ [(k, b, v)] := by
  unfold putN
  rw [h]
  exact if_neg (by decide)
theorem length_putN (kvs : List (NestedKey × Addr × V)) (k : NestedKey) (b : Addr) (v : V) : (putN kvs k b v).length ≤ kvs.length + 1 := by
  unfold putN
  split
  · rw [List.length_map]; omega
  · rw [List.length_append, List.length_cons, List.length_nil]; omega
abbrev RN : List (NestedKey × Addr × V) → List (NestedKey × Addr × Value) → Prop := Paired fun p q => p.1 = q.1 ∧ p.2.1 = q.2.1 ∧ RelV p.2.2 q.2.2
theorem RN.val {kvs : List (NestedKey × Addr × V)} {xs : List (NestedKey × Addr × Value)} (r : RN kvs xs) (k : NestedKey) : RelO (valN kvs k) ((atKey xs k).map (·.2)) := by
  induction r with
  | nil => exact True.intro
  | @cons p q ps qs h t ih =>
    obtain ⟨h1, _, h2⟩ := h
    by_cases e : p.1 = k
    · have e' : q.1 = k := h1.symm.trans e
      have b : atKey (q :: qs) k = some q.2 := by simp [atKey, List.find?_cons, e']
      rw [valN_pos e, b]; exact h2
    · have e' : ¬ q.1 = k := fun z => e (h1.trans z)
      have b : atKey (q :: qs) k = atKey qs k := by simp [atKey, List.find?_cons, e']
      rw [valN_neg e, b]; exact ih
theorem RN.repl {kvs : List (NestedKey × Addr × V)} {xs : List (NestedKey × Addr × Value)} (r : RN kvs xs) (k : NestedKey) {y : V} {u : Value} (ry : RelV y u) :
    RN (kvs.map fun x => if x.1 = k then (x.1, x.2.1, y) else x) (xs.map (putAt k u)) := by
  induction r with
  | nil => exact .nil
  | @cons p q ps qs h t ih =>
    rw [List.map_cons, List.map_cons]
    refine .cons ?_ ih
    obtain ⟨h1, h2, h3⟩ := h
    unfold putAt
    by_cases e : p.1 = k
    · rw [if_pos e, if_pos (h1.symm.trans e)]; exact ⟨h1, h2, ry⟩
    · rw [if_neg e, if_neg (fun z => e (h1.trans z))]; exact ⟨h1, h2, h3⟩
theorem RN.put {kvs : List (NestedKey × Addr × V)} {xs : List (NestedKey × Addr × Value)} (r : RN kvs xs) (k : NestedKey) {b : Addr} {y : V} {u : Value} (ry : RelV y u) :
    RN (putN kvs k b y) (storedH xs k b u) := by
  have e : (valN kvs k).isSome = (atKey xs k).isSome := by rw [(r.val k).isSome_eq, Option.isSome_map]
  unfold putN storedH
  rw [e]
  by_cases q : (atKey xs k).isSome = true
  · rw [if_pos q, if_pos q]; exact r.repl k ry
  · rw [if_neg q, if_neg q]; exact Paired.snoc r ⟨rfl, rfl, ry⟩
/-! the object -/
def ndO (P : Program) (w : World) (a : Addr) (kvs : List (NestedKey × Addr × V)) : HO := HO.ext fun h => kvs.length ≤ sizeLine ∧ (a == sysModules) = false ∧
  ∃ xs : List (NestedKey × Addr × Value), RN kvs xs ∧ ∃ o es ep, h.get? a = some o ∧ o.ExactDict ∧ o.data = .dict es ep ∧ es.toList = xs.map (entryOfKey (nestedKind P w)) ∧ (xs.map (·.1)).Nodup
/-- at a stands the dict of these entries -/
def NDict (P : Program) (w : World) (H : Hp) (a : Addr) (kvs : List (NestedKey × Addr × V)) : Prop :=
  H a = some (ndO P w a kvs) ∧ ∀ x ∈ kvs, NIs H x.1 (.ref x.2.1) ∧ x.1.depth ≤ 8
theorem ndO_ok {P : Program} {w : World} {H : Hp} {h : Heap} {a : Addr} {kvs : List (NestedKey × Addr × V)} {xs : List (NestedKey × Addr × Value)} (z : kvs.length ≤ sizeLine) (hd : (a == sysModules) = false) (r : RN kvs xs)
    (d : ∃ o es ep, h.get? a = some o ∧ o.ExactDict ∧ o.data = .dict es ep ∧ es.toList = xs.map (entryOfKey (nestedKind P w)) ∧ (xs.map (·.1)).Nodup) : ObjOk P w H h a (ndO P w a kvs) := by
  obtain ⟨o, es, ep, h1, h2, h3, h4, h5⟩ := d
  refine ⟨⟨z, hd, xs, r, o, es, ep, h1, h2, h3, h4, h5⟩, ⟨o, h1⟩, ?_⟩
  rintro g1 g2 ⟨z, hd, xs, r, o, es, ep, h1, h2, h3, h4, h5⟩ k
  exact ⟨z, hd, xs, r, o, es, ep, k _ h1, h2, h3, h4, h5⟩
theorem nd_of {P : Program} {w : World} {H : Hp} {h : Heap} {a : Addr} {kvs : List (NestedKey × Addr × V)} (ok : HOk P w H h) (e : NDict P w H a kvs) :
    kvs.length ≤ sizeLine ∧ (a == sysModules) = false ∧ ∃ xs, RN kvs xs ∧ h.DictOfH (nestedKind P w) a xs := by
  obtain ⟨e, ks⟩ := e
  obtain ⟨⟨z, hd, xs, r, o, es, ep, h1, h2, h3, h4, h5⟩, _⟩ := (show ObjOk P w H h a (ndO P w a kvs) from ok a _ e)
  refine ⟨z, hd, xs, r, o, es, ep, h1, h2, h3, h4, fun x hx => ?_, h5⟩
  have all : ∀ {l : List (NestedKey × Addr × V)} {m : List (NestedKey × Addr × Value)}, RN l m → (∀ x ∈ l, NIs H x.1 (.ref x.2.1) ∧ x.1.depth ≤ 8) → ∀ x ∈ m, (nestedKind P w).is h x.1 x.2.1 := by
    intro l m q
    induction q with
    | nil => intro _ x hx; exact nomatch hx
    | @cons p q ps qs hq t ih =>
      intro hk x hx
      rcases List.mem_cons.mp hx with e | hx
      · subst e
        obtain ⟨k1, k2⟩ := hk p List.mem_cons_self
        rw [hq.1, hq.2.1] at k1
        rw [hq.1] at k2
        exact ⟨NIs.raw ok _ _ _ k1 rfl, k2⟩
      · exact ih (fun y hy => hk y (List.mem_cons_of_mem _ hy)) x hx
  exact all r ks x hx
theorem NDict.tk {P : Program} {w : World} {H H' : Hp} {a : Addr} {kvs : List (NestedKey × Addr × V)} (d : NDict P w H a kvs) (t : Tk H H') (e : H' a = some (ndO P w a kvs)) : NDict P w H' a kvs :=
  ⟨e, fun x hx => ⟨(d.2 x hx).1.tk t, (d.2 x hx).2⟩⟩
theorem NDict.same {P : Program} {w : World} {H H' : Hp} {a : Addr} {kvs : List (NestedKey × Addr × V)} (d : NDict P w H a kvs) (s : ∀ b o, H b = some o → H' b = some o) : NDict P w H' a kvs :=
  d.tk (fun b xs e => s b _ e) (s a _ d.1)
theorem ndO_tup {P : Program} {w : World} {a : Addr} {kvs : List (NestedKey × Addr × V)} {xs : List V} : ndO P w a kvs ≠ HO.tup xs := fun z => nomatch z
theorem NDict.new {P : Program} {w : World} {H : Hp} {a : Addr} : NDict P w (upd H a (ndO P w a [])) a [] := ⟨upd_same, fun x hx => nomatch hx⟩
theorem NDict.put {P : Program} {w : World} {H : Hp} {a b : Addr} {kvs : List (NestedKey × Addr × V)} {k : NestedKey} {v : V} (d : NDict P w H a kvs) (hk : NIs H k (.ref b)) (hd : k.depth ≤ 8) :
    NDict P w (upd H a (ndO P w a (putN kvs k b v))) a (putN kvs k b v) := by
  have t : Tk H (upd H a (ndO P w a (putN kvs k b v))) := Tk.upd fun xs e => by rw [d.1] at e; cases e
  refine ⟨upd_same, fun x hx => ?_⟩
  unfold putN at hx
  split at hx
  · obtain ⟨y, hy, e⟩ := List.mem_map.mp hx
    split at e
    · subst e
      exact ⟨(d.2 y hy).1.tk t, (d.2 y hy).2⟩
    · subst e
      exact ⟨(d.2 y hy).1.tk t, (d.2 y hy).2⟩
  · rcases List.mem_append.mp hx with hx | hx
    · exact ⟨(d.2 x hx).1.tk t, (d.2 x hx).2⟩
    · have e := List.mem_singleton.mp hx
      subst e
      exact ⟨hk.tk t, hd⟩
/-- y is a key, and r what the dict at a holds at it -/
def NGet (P : Program) (w : World) (H : Hp) (a : Addr) (y : V) (r : Option V) : Prop := ∃ kvs k b, NDict P w H a kvs ∧ y = .ref b ∧ NIs H k (.ref b) ∧ k.depth ≤ 8 ∧ r = valN kvs k
section
variable {X : Cx} {pins : List (Addr × Obj)} {σ : L2.St} {H : Hp} {s : Shared} {a b : Addr} {y v : V} {u r : Value} {o : Option V} {A : Around} {E : Value → Shared → Prop}
theorem nd_key {kvs : List (NestedKey × Addr × V)} {k : NestedKey} (I : Inv X pins σ H s) (hk : NIs H k (.ref b)) (hd : k.depth ≤ 8) : (nestedKind X.prog X.w).is s.heap k b := ⟨NIs.raw I.hok _ _ _ hk rfl, hd⟩
theorem n_getItem {Q : Value → Shared → Prop} (hu : A.units + 9 < cLine) (I : Inv X pins σ H s) (g : NGet X.prog X.w H a y (some v)) (ry : RelV y u) (h : ∀ w' s', Inv X pins σ H s' → RelV v w' → Q w' s') :
    wpAny (model X.prog X.w) A (getItem (.ref a) u) Q E s := by
  obtain ⟨kvs, k, b, e, rfl, hk, hkd, l⟩ := g
  cases (show u = Value.ref b from ry)
  obtain ⟨z, hd, xs, rel, dd⟩ := nd_of I.hok e
  obtain ⟨w', hw, rw'⟩ := RelO.some_of (v := v) (o := (atKey xs k).map (·.2)) (by rw [l]; exact rel.val k)
  obtain ⟨p, hp, hp2⟩ := Option.map_eq_some_iff.mp hw
  refine wpAny_getItem_heap (show A.in1.units + 8 < cLine by simp only [Around.in1_units]; omega) (nd_key (kvs := kvs) I hk hkd) dd hp ?_
  rw [hp2]
  exact h w' _ (I.tok _) rw'
theorem n_in {Q : Value → Shared → Prop} (hu : A.units + 9 < cLine) (I : Inv X pins σ H s) (g : NGet X.prog X.w H a y o) (ry : RelV y u) (h : ∀ s', Inv X pins σ H s' → Q (.bool o.isSome) s') :
    wpAny (model X.prog X.w) A (compareOp .In u (.ref a)) Q E s := by
  obtain ⟨kvs, k, b, e, rfl, hk, hkd, l⟩ := g
  cases (show u = Value.ref b from ry)
  obtain ⟨z, hd, xs, rel, dd⟩ := nd_of I.hok e
  refine wpAny_in_heap (show A.in1.units + 8 < cLine by simp only [Around.in1_units]; omega) (nd_key (kvs := kvs) I hk hkd) hd dd ?_
  have q := (rel.val k).isSome_eq
  rw [Option.isSome_map] at q
  rw [← q, ← l]
  exact h _ (I.tok _)
theorem n_notIn {Q : Value → Shared → Prop} (hu : A.units + 9 < cLine) (I : Inv X pins σ H s) (g : NGet X.prog X.w H a y o) (ry : RelV y u) (h : ∀ s', Inv X pins σ H s' → Q (.bool (!o.isSome)) s') :
    wpAny (model X.prog X.w) A (compareOp .NotIn u (.ref a)) Q E s := by
  obtain ⟨kvs, k, b, e, rfl, hk, hkd, l⟩ := g
  cases (show u = Value.ref b from ry)
  obtain ⟨z, hd, xs, rel, dd⟩ := nd_of I.hok e
  refine notIn_keyed (show A.in1.units + 8 < cLine by simp only [Around.in1_units]; omega) (nd_key (kvs := kvs) I hk hkd) hd ⟨xs, dd, rfl⟩ ?_
  have q := (rel.val k).isSome_eq
  rw [Option.isSome_map] at q
  rw [valueAt_pairsH, Option.isSome_map, ← q, ← l]
  exact h _ (I.tok _)
theorem n_setItem {kvs : List (NestedKey × Addr × V)} {k : NestedKey} {Q : Unit → Shared → Prop} (hu : A.units + 9 < cLine) (I : Inv X pins σ H s) (e : NDict X.prog X.w H a kvs) (hk : NIs H k (.ref b)) (hkd : k.depth ≤ 8) (l : kvs.length < sizeLine) (rv : RelV v r)
    (h : ∀ s', Inv X pins σ (upd H a (ndO X.prog X.w a (putN kvs k b v))) s' → Q () s') : wpAny (model X.prog X.w) A (setItem (.ref a) (.ref b) r) Q E s := by
  obtain ⟨z, hd, xs, rel, dd⟩ := nd_of I.hok e
  have hz : xs.length ≤ sizeLine := by rw [← Paired.length rel]; exact z
  have hl : (putN kvs k b v).length ≤ sizeLine := by have := length_putN kvs k b v; omega
  refine wpAny_setItem_heap (hsz := hz) (show A.in1.units + 8 < cLine by simp only [Around.in1_units]; omega) (nd_key (kvs := kvs) I hk hkd) dd fun h' dd' hs => h _ ?_
  obtain ⟨q, es, ep, hq, h2, h3, h4, _, h5⟩ := dd'
  exact d_write I (by rw [e.1]; exact True.intro) hs ⟨q, hq⟩ (ndO_ok hl hd (rel.put k rv) ⟨q, es, ep, hq, h2, h3, h4, h5⟩)
theorem nd_typeIs {kvs : List (NestedKey × Addr × V)} (I : Inv X pins σ H s) (g : NDict X.prog X.w H a kvs) : s.TypeIs (.ref a) "dict" := by
  obtain ⟨_, _, xs, _, dd⟩ := nd_of I.hok g
  exact dd.typeIs
theorem nd_noDict {kvs : List (NestedKey × Addr × V)} (I : Inv X pins σ H s) (g : NDict X.prog X.w H a kvs) : ∀ b, Value.ref a = .ref b → ∃ ob, s.heap.get? b = some ob ∧ ob.dict = none := fun b q => by
  cases q
  obtain ⟨_, _, xs, _, ob, _, _, h1, h2, _⟩ := nd_of I.hok g
  exact ⟨ob, h1, h2.2.1⟩
end
/-- d[y] -/
def tNGet (P : Program) (w : World) (td ty : TE) : TE := fun σ H Q => td σ H fun x H1 => ty σ H1 fun y H2 => ∃ a v, x = .ref a ∧ NGet P w H2 a y (some v) ∧ Q v H2
/-- y in d, y not in d -/
def tNIn (P : Program) (w : World) (ty td : TE) : TE := fun σ H Q => ty σ H fun y H1 => td σ H1 fun x H2 => ∃ a o, x = .ref a ∧ NGet P w H2 a y o ∧ Q (.bl o.isSome) H2
def tNNotIn (P : Program) (w : World) (ty td : TE) : TE := fun σ H Q => ty σ H fun y H1 => td σ H1 fun x H2 => ∃ a o, x = .ref a ∧ NGet P w H2 a y o ∧ Q (.bl (!o.isSome)) H2
/-- d[y] = v -/
def sNPut (P : Program) (w : World) (td ty tv : TE) : TS := fun D σ H => tv σ H fun v H1 => td σ H1 fun x H2 => ty σ H2 fun y H3 => ∃ a b kvs k, x = .ref a ∧ y = .ref b ∧ NDict P w H3 a kvs ∧ NIs H3 k (.ref b) ∧ k.depth ≤ 8 ∧ kvs.length < sizeLine ∧ D.nx σ (upd H3 a (ndO P w a (putN kvs k b v)))
/-- {} -/
def tNNew (P : Program) (w : World) : TE := fun _ H Q => ∀ p, H p = none → Q (.ref p) (upd H p (ndO P w p []))
section
variable {X : Cx} {o i e value : Expr} {pos pos' tpos : Pos} {td ty tv : TE}
theorem pe_nget (hu : X.A.units + 9 < cLine) (ho : PE X o td) (hi : PE X i ty) (hs : NoSl i) : PE X (.Subscript o i pos) (tNGet X.prog X.w td ty) := by
  refine ⟨fun pins s σ H Q I h => ?_⟩
  refine subD_of PySem.F.slot_dict_getitem.lookup hs (thn (ho.run pins s σ H _ I h) fun u s1 ⟨x, H1, I1, rx, q1⟩ => thn (hi.run pins s1 σ H1 _ I1 q1) fun iv s2 ⟨y, H2, I2, ry, a, v, ex, g, q2⟩ => ?_)
  subst ex
  obtain rfl : u = Value.ref a := rx
  obtain ⟨kvs, k, b, gd, _⟩ := id g
  exact ⟨nd_typeIs I2 gd, n_getItem hu I2 g ry fun w' s3 I3 rw' => ⟨v, H2, I3, rw', q2⟩⟩
theorem pc_nin (hu : X.A.units + 9 < cLine) (hi : PE X i ty) (ho : PE X o td) : PC X .In i o (tNIn X.prog X.w ty td) := by
  refine ⟨fun pins s σ H Q I h => ?_⟩
  refine thn (hi.run pins s σ H _ I h) fun iv s1 ⟨y, H1, I1, ry, q1⟩ => thn (ho.run pins s1 σ H1 _ I1 q1) fun u s2 ⟨x, H2, I2, rx, a, ov, ex, g, q2⟩ => ?_
  subst ex
  obtain rfl : u = Value.ref a := rx
  exact n_in hu I2 g ry fun s3 I3 => ⟨.bl ov.isSome, H2, I3, rfl, q2⟩
theorem pc_nnotin (hu : X.A.units + 9 < cLine) (hi : PE X i ty) (ho : PE X o td) : PC X .NotIn i o (tNNotIn X.prog X.w ty td) := by
  refine ⟨fun pins s σ H Q I h => ?_⟩
  refine thn (hi.run pins s σ H _ I h) fun iv s1 ⟨y, H1, I1, ry, q1⟩ => thn (ho.run pins s1 σ H1 _ I1 q1) fun u s2 ⟨x, H2, I2, rx, a, ov, ex, g, q2⟩ => ?_
  subst ex
  obtain rfl : u = Value.ref a := rx
  exact n_notIn hu I2 g ry fun s3 I3 => ⟨.bl (!ov.isSome), H2, I3, rfl, q2⟩
theorem ps_nput (hu : X.A.units + 9 < cLine) (ho : PE X o td) (hi : PE X i ty) (hv : PE X value tv) (hs : swapsWith value (some (.Subscript o i pos')) pos.line X.env = pure false) :
    PS X (.Assign [.Subscript o i pos'] value pos) (sNPut X.prog X.w td ty tv) := by
  refine ⟨fun pins s σ H D I h => ?_⟩
  refine wpAny_Assign_Subscript (thn (hv.run pins s σ H _ I h) fun r s1 ⟨v, H1, I1, rv, q1⟩ => thn (ho.run pins s1 σ H1 _ I1 q1) fun u s2 ⟨x, H2, I2, rx, q2⟩ => thn (hi.run pins s2 σ H2 _ I2 q2) fun iv s3 ⟨y, H3, I3, ry, a, b, kvs, k, ex, ey, e, hk, hkd, l, q3⟩ => ?_) hs
  subst ex ey
  obtain rfl : u = Value.ref a := rx
  obtain rfl : iv = Value.ref b := ry
  exact n_setItem hu I3 e hk hkd l rv fun s4 I4 => ⟨σ, _, I4, q3⟩
theorem nd_empty {P : Program} {w : World} {H : Hp} (h : Heap) (hb : sysModules < h.objs.size) : ObjOk P w H (h.push { cls := .type "dict", data := .dict #[] }) h.objs.size (ndO P w h.objs.size []) :=
  ndO_ok (Nat.zero_le _) (beq_eq_false_iff_ne.mpr (Ne.symm (Nat.ne_of_lt hb))) .nil ⟨_, #[], 0, Heap.get?_push_size _ rfl, ⟨rfl, rfl, rfl⟩, rfl, rfl, List.nodup_nil⟩
theorem pe_nnew : PE X (.Dict [] [] pos) (tNNew X.prog X.w) := ⟨fun pins s σ H Q I h =>
  wpAny_Dict_empty ⟨.ref s.heap.objs.size, _, I.laid (a := s.heap.objs.size) (o := ndO X.prog X.w s.heap.objs.size []) (t' := s.toks) (fun _ _ q => Heap.get?_push_of_some _ q) (Nat.le_refl _) (nd_empty s.heap I.big), rfl, h _ (I.hok.fresh (Nat.le_refl _))⟩⟩
end
/-! the same, of a named program -/
section
variable {X : Cx} {P : Program} {w : World} {o i e value : Expr} {pos pos' tpos : Pos} {td ty tv : TE}
theorem pe_ngetP (hP : X.prog = P) (hw : X.w = w) (hu : X.A.units + 9 < cLine) (ho : PE X o td) (hi : PE X i ty) (hs : NoSl i) : PE X (.Subscript o i pos) (tNGet P w td ty) := by
  subst hP hw
  exact pe_nget hu ho hi hs
theorem pc_ninP (hP : X.prog = P) (hw : X.w = w) (hu : X.A.units + 9 < cLine) (hi : PE X i ty) (ho : PE X o td) : PC X .In i o (tNIn P w ty td) := by
  subst hP hw
  exact pc_nin hu hi ho
theorem pc_nnotinP (hP : X.prog = P) (hw : X.w = w) (hu : X.A.units + 9 < cLine) (hi : PE X i ty) (ho : PE X o td) : PC X .NotIn i o (tNNotIn P w ty td) := by
  subst hP hw
  exact pc_nnotin hu hi ho
theorem ps_nputP (hP : X.prog = P) (hw : X.w = w) (hu : X.A.units + 9 < cLine) (ho : PE X o td) (hi : PE X i ty) (hv : PE X value tv) (hs : swapsWith value (some (.Subscript o i pos')) pos.line X.env = pure false) :
    PS X (.Assign [.Subscript o i pos'] value pos) (sNPut P w td ty tv) := by
  subst hP hw
  exact ps_nput hu ho hi hv hs
theorem pe_nnewP (hP : X.prog = P) (hw : X.w = w) : PE X (.Dict [] [] pos) (tNNew P w) := by
  subst hP hw
  exact pe_nnew
end
/-! an empty dict of plain keys taken for one of other keys -/
theorem conv_ok {P : Program} {w : World} {H : Hp} {h : Heap} {a : Addr} (ok : HOk P w H h) (e : H a = some (.dK [])) : ∃ ob es ep, h.get? a = some ob ∧ ob.ExactDict ∧ ob.data = .dict es ep ∧ es.toList = [] ∧ (a == sysModules) = false := by
  obtain ⟨z, hd, vs, rel, dd⟩ := dk_of ok e
  cases rel
  obtain ⟨o, es, ep, h1, h2, h3, h4, h5, h6⟩ := dd
  refine ⟨o, es, ep, h1, h2, h3, ?_, hd⟩
  generalize es.toList = l at h5
  cases h5
  rfl
def tConvT (t : TE) : TE := fun σ H Q => t σ H fun v H1 => ∃ a, v = .ref a ∧ H1 a = some (.dK []) ∧ Q v (upd H1 a (.dT []))
def tConvN (P : Program) (w : World) (t : TE) : TE := fun σ H Q => t σ H fun v H1 => ∃ a, v = .ref a ∧ H1 a = some (.dK []) ∧ Q v (upd H1 a (ndO P w a []))
section
variable {X : Cx} {e : Expr} {t : TE}
theorem pe_convT (he : PE X e t) : PE X e (tConvT t) := by
  refine ⟨fun pins s σ H Q I h => thn (he.run pins s σ H _ I h) fun v s1 ⟨x, H1, I1, r1, a, ea, ha, q⟩ => ?_⟩
  obtain ⟨ob, es, ep, h1, h2, h3, h4, h5⟩ := conv_ok I1.hok ha
  refine ⟨x, _, ?_, r1, q⟩
  have := I1.write (x := a) (e := a) (o := .dT []) (h' := s1.heap) (t' := s1.toks) (by rw [ha]; exact True.intro) (.inl rfl) (fun _ _ _ q => q) ⟨_, h1⟩ ⟨Nat.zero_le _, h5, [], .nil, ob, es, ep, h1, h2, h3, by rw [h4]; rfl, List.nodup_nil⟩
  exact this
theorem pe_convN (he : PE X e t) : PE X e (tConvN X.prog X.w t) := by
  refine ⟨fun pins s σ H Q I h => thn (he.run pins s σ H _ I h) fun v s1 ⟨x, H1, I1, r1, a, ea, ha, q⟩ => ?_⟩
  obtain ⟨ob, es, ep, h1, h2, h3, h4, h5⟩ := conv_ok I1.hok ha
  refine ⟨x, _, ?_, r1, q⟩
  have := I1.write (x := a) (e := a) (o := ndO X.prog X.w a []) (h' := s1.heap) (t' := s1.toks) (by rw [ha]; exact True.intro) (.inl rfl) (fun _ _ _ q => q) ⟨_, h1⟩ (ndO_ok (Nat.zero_le _) h5 .nil ⟨ob, es, ep, h1, h2, h3, by rw [h4]; rfl, List.nodup_nil⟩)
  exact this
end
end ND
set_option Elab.async false
set_option linter.all false
set_option maxRecDepth 100000
set_option maxHeartbeats 4000000
namespace Tx
open PySem PySem.Spec PyProof.Rows L2 Com SX
/-! texts as lists of signs -/
abbrev T := List Nat
def tx (x : Str) : T := x.cps.toList
theorem S_tx (x : Str) : S (tx x) = x := rfl
theorem tx_S (a : T) : tx (S a) = a := rfl
theorem S_app (a b : T) : S a ++ S b = S (a ++ b) := by
  show (⟨a.toArray ++ b.toArray⟩ : Str) = ⟨(a ++ b).toArray⟩
  simp
theorem lit_app (x : Str) (a : T) : x ++ S a = S (tx x ++ a) := S_app (tx x) a
theorem app_lit (x : Str) (a : T) : S a ++ x = S (a ++ tx x) := S_app a (tx x)
theorem lit_lit (x y : Str) : x ++ y = S (tx x ++ tx y) := S_app (tx x) (tx y)
theorem len_S (w : T) : (S w).length = w.length := S_len w
theorem len_tx (x : Str) : (tx x).length = x.length := (S_len (tx x)).symm
theorem S_inj {a b : T} (h : S a = S b) : a = b := by
  have := congrArg tx h
  exact this
/-- a number's text -/
def it (i : Int) : T := tx (Str.ofString (toString i))
theorem S_it (i : Int) : Str.ofString (toString i) = S (it i) := rfl
theorem it_len {i : Int} {k : Nat} (hk : 0 < k) (h : i.natAbs.log2 < k) : (it i).length ≤ k + 1 := by
  show (tx (Str.ofString (toString i))).length ≤ k + 1
  rw [len_tx, PySem.ofString_length]
  exact int_text_length_le hk h
theorem it_len10 {i : Int} {k : Nat} (hk : 0 < k) (h : i.natAbs < 10 ^ k) : (it i).length ≤ k + 1 := by
  show (tx (Str.ofString (toString i))).length ≤ k + 1
  rw [len_tx, PySem.ofString_length]
  exact int_text_length_le10 hk h
/-- texts with a text between -/
def jn (s : T) : List T → T := TL.joinL s
theorem jn_nil (s : T) : jn s [] = [] := rfl
theorem jn_one (s y : T) : jn s [y] = y := by simp [jn, TL.joinL]
theorem jn_cons (s y z : T) (r : List T) : jn s (y :: z :: r) = y ++ (s ++ jn s (z :: r)) := rfl
theorem join_jn (x : Str) (ys : List T) : Txt.join x (ys.map S) = S (jn (tx x) ys) := join_S (tx x) ys
theorem jn_len (s : T) : ∀ (ys : List T), (jn s ys).length ≤ (ys.map List.length).sum + ys.length * s.length
  | [] => Nat.zero_le _
  | [y] => by
    rw [jn_one]
    simp
  | y :: z :: r => by
    have ih := jn_len s (z :: r)
    rw [jn_cons, List.length_append, List.length_append, List.map_cons, List.sum_cons, List.length_cons, Nat.add_mul]
    omega
theorem jn_empty : ∀ (ys : List T), jn [] ys = ys.flatten
  | [] => rfl
  | [y] => by rw [jn_one]; simp
  | y :: z :: r => by
    rw [jn_cons, jn_empty (z :: r)]
    simp
theorem sum_S (ys : List T) : ((ys.map S).map (·.length)).sum = (ys.map List.length).sum := by
  rw [List.map_map]
  congr 1
theorem sum_le {B : Nat} : ∀ (ys : List T), (∀ y ∈ ys, y.length ≤ B) → (ys.map List.length).sum ≤ ys.length * B
  | [], _ => by simp
  | y :: r, h => by
    have h1 := h y List.mem_cons_self
    have h2 := sum_le r fun z hz => h z (List.mem_cons_of_mem _ hz)
    rw [List.map_cons, List.sum_cons, List.length_cons, Nat.add_mul]
    omega
end Tx
set_option Elab.async false
set_option linter.all false
set_option maxRecDepth 100000
set_option maxHeartbeats 4000000
namespace Tx
open PySem PySem.Spec PyProof.Rows L2 Com SX
/-! parts of tuples -/
theorem cut_all {xs : List V} {x : V} : cutV (x :: xs) (some 1) none = xs := by
  unfold cutV
  have e1 : HT.sIx (x :: xs).length 0 (some 1) = min 1 (x :: xs).length := HT.sIx_nat _ _ 1
  have e2 : HT.sIx (x :: xs).length (x :: xs).length none = (x :: xs).length := rfl
  rw [e1, e2, List.length_cons, Nat.min_eq_left (by omega)]
  show List.take (xs.length + 1 - 1) xs = xs
  rw [Nat.add_sub_cancel, List.take_length]
theorem cut_no {xs : List V} {x : V} : ¬ (HT.sIx (x :: xs).length 0 (some 1) = 0 ∧ HT.sIx (x :: xs).length (x :: xs).length none = (x :: xs).length) := by
  rintro ⟨h, _⟩
  have e1 : HT.sIx (x :: xs).length 0 (some 1) = min 1 (x :: xs).length := HT.sIx_nat _ _ 1
  rw [e1, List.length_cons, Nat.min_eq_left (by omega)] at h
  exact absurd h (by decide)
theorem sl_from {K : PySem.W.Frag} {H : Hp} {p : Addr} {x : V} {xs : List V} {Q : VK} (h : H p = some (.tup (x :: xs))) (q : ∀ r, H r = none → Q (.ref r) (upd H r (.tup xs))) : rSlA K (.ref p) (some 1) none H Q := by
  refine ⟨p, _, rfl, SqT.of h, fun z => absurd z cut_no, fun _ r nr => ?_⟩
  rw [cut_all]
  exact q r nr
theorem sl_to {K : PySem.W.Frag} {H : Hp} {p : Addr} {xs : List V} {k : Nat} {Q : VK} (h : H p = some (.tup xs)) (q : ∀ r H', Same H H' → H' r = some (.tup (xs.take k)) → Q (.ref r) H') : rSlA K (.ref p) none (some (k : Int)) H Q := by
  have e1 : HT.sIx xs.length xs.length (some (k : Int)) = min k xs.length := HT.sIx_nat xs.length xs.length k
  refine ⟨p, xs, rfl, SqT.of h, fun hw => ?_, fun _ r nr => ?_⟩
  · have e2 : min k xs.length = xs.length := by rw [← e1]; exact hw.2
    have : xs.take k = xs := List.take_of_length_le (by omega)
    rw [this] at q
    exact q _ _ (fun _ _ e => e) h
  · have e3 : cutV xs none (some (k : Int)) = xs.take k := by
      unfold cutV
      rw [e1]
      show (xs.drop 0).take (min k xs.length - 0) = _
      rw [List.drop_zero, Nat.sub_zero, List.take_eq_take_iff]
      omega
    rw [e3]
    exact q _ _ (same_upd nr) upd_same
/-! a for over a list or a tuple -/
def iSeq (K : PySem.W.Frag) (tl : TE) : TI := fun σ H R => tl σ H fun x H1 => ∃ a, x = .ref a ∧ ((∃ xs, SqL K H1 a xs) ∧ R (Itl K a) H1 ∨ (∃ xs, SqT K H1 a xs) ∧ R (Itt K a) H1)
theorem pi_seq {X : Cx} {tg l : Expr} {tl : TE} {K : PySem.W.Frag} (hK : X.K = K) (hl : PE X l tl) : PI X tg l (iSeq K tl) := by
  subst hK
  refine ⟨fun pins s σ H R I h => ?_⟩
  refine thn (hl.run pins s σ H _ I h) fun v s1 ⟨x, H1, I1, r1, q1⟩ => ?_
  obtain ⟨a, e, q⟩ := q1
  subst e
  cases r1
  rcases q with ⟨⟨xs, hq⟩, q⟩ | ⟨⟨xs, hq⟩, q⟩
  · obtain ⟨its, rv, p, hz⟩ := I1.list hq
    refine wpAny_pyIter_list p.isList ?_
    refine ⟨s1.heap.objs.size, [s1.heap.objs.size], _, _, H1, rfl, I1.kept (t' := s1.toks) fun b o e => Heap.get?_push_of_some _ e, turn_list a _, ⟨_, Heap.get?_push_size _ rfl, rfl, rfl⟩, fun b hb => ?_, q⟩
    have e : b = s1.heap.objs.size := by simpa using hb
    subst e
    exact I1.fpOk (Nat.le_refl _) (I1.hok.fresh (Nat.le_refl _))
  · obtain ⟨its, rv, p, hz⟩ := I1.tuple hq
    refine wpAny_pyIter_tuple (show s1.heap.IsTuple a its.toArray from p) ?_
    refine ⟨s1.heap.objs.size, [s1.heap.objs.size], _, _, H1, rfl, I1.kept (t' := s1.toks) fun b o e => Heap.get?_push_of_some _ e, turn_tuple a _, ⟨_, Heap.get?_push_size _ rfl, rfl, rfl⟩, fun b hb => ?_, q⟩
    have e : b = s1.heap.objs.size := by simpa using hb
    subst e
    exact I1.fpOk (Nat.le_refl _) (I1.hok.fresh (Nat.le_refl _))
/-- stays what it is -/
def Stay (K : PySem.W.Frag) (a : Addr) (xs : List V) (H H' : Hp) : Prop := (SqL K H a xs → SqL K H' a xs) ∧ (SqT K H a xs → SqT K H' a xs)
theorem Stay.same {K : PySem.W.Frag} {a : Addr} {xs : List V} {H H' : Hp} (s : Same H H') : Stay K a xs H H' := ⟨fun h => s.seq h, fun h => same_sqT s h⟩
theorem Stay.keep {K : PySem.W.Frag} {a t : Addr} {xs : List V} {H H' : Hp} (s : Kb.Keep t H H') (h : a ≠ t) : Stay K a xs H H' := by
  refine ⟨fun q => ?_, fun q => ?_⟩
  · rcases q with q | q
    · rcases q with q | ⟨o, q⟩
      · exact .inl (.inl (s _ _ q h))
      · exact .inl (.inr ⟨o, s _ _ q h⟩)
    · exact .inr q
  · rcases q with q | q
    · rcases q with q | ⟨o, q⟩
      · exact .inl (.inl (s _ _ q h))
      · exact .inl (.inr ⟨o, s _ _ q h⟩)
    · exact .inr q
theorem for_seqK {K : PySem.W.Frag} {q : Addr} {xs : List V} {g : TG} {tb : TS} {D : Ends} {σ : L2.St} {H : Hp} (hs0 : Sq K H q xs) (Pv : Nat → L2.St → Hp → Prop) (h0 : Pv 0 σ H) (hl : ∀ i σ H', Pv i σ H' → Stay K q xs H H')
    (hs : ∀ i x σ H, xs[i]? = some x → Pv i σ H → g x σ H fun σ2 H2 => tb { D with nx := Pv (i + 1), ct := Pv (i + 1), bk := D.nx } σ2 H2) (hd : ∀ σ H, Pv xs.length σ H → D.nx σ H) :
    ((∃ xs, SqL K H q xs) ∧ ∃ W : Nat → Nat → L2.St → Hp → Prop, (∃ m, W 0 m σ H) ∧ ∀ i m σ H, W i m σ H →
      ((Itl K q).stop i H ∧ D.nx σ H) ∨ ((Itl K q).go i H ∧ ∃ N : L2.St → Hp → Prop, (∀ σ' H', N σ' H' → ∃ m', m' < m ∧ W (i + 1) m' σ' H') ∧ ∀ x H', (Itl K q).yld i H x H' → g x σ H' fun σ2 H2 => tb { D with nx := N, ct := N, bk := D.nx } σ2 H2)) ∨
    ((∃ xs, SqT K H q xs) ∧ ∃ W : Nat → Nat → L2.St → Hp → Prop, (∃ m, W 0 m σ H) ∧ ∀ i m σ H, W i m σ H →
      ((Itt K q).stop i H ∧ D.nx σ H) ∨ ((Itt K q).go i H ∧ ∃ N : L2.St → Hp → Prop, (∀ σ' H', N σ' H' → ∃ m', m' < m ∧ W (i + 1) m' σ' H') ∧ ∀ x H', (Itt K q).yld i H x H' → g x σ H' fun σ2 H2 => tb { D with nx := N, ct := N, bk := D.nx } σ2 H2)) := by
  rcases hs0 with h | h
  · exact .inl ⟨⟨xs, h⟩, for_list (xs := xs) Pv h0 (fun i σ H' _ p => (hl i σ H' p).1 h) hs hd⟩
  · exact .inr ⟨⟨xs, h⟩, Kb.for_tupK (xs := xs) Pv h0 (fun i σ H' p => (hl i σ H' p).2 h) hs hd⟩
theorem lc_seqK {K : PySem.W.Frag} {q : Addr} {xs : List V} {g : TG} {tt : L2.TT} {te : TE} {vs : List Nat} {σ : L2.St} {H1 : Hp} {Q : Addr → Hp → Prop} (hs0 : Sq K H1 q xs) (Pv : Addr → Nat → Hp → Prop) (h0 : ∀ D, H1 D = none → Pv D 0 (upd H1 D (.lst []))) (hq : ∀ D i H', H1 D = none → Pv D i H' → Stay K q xs H1 H')
    (hs : ∀ D i v H, H1 D = none → xs[i]? = some v → Pv D i H → g v (wipe σ vs) H fun σ2 H2 => wipe σ2 vs = wipe σ vs ∧ tt σ2 H2 fun b H3 =>
      if b = true then te σ2 H3 fun y H4 => ∃ acc, H4 D = some (.lst acc) ∧ acc.length < sizeLine ∧ Pv D (i + 1) (upd H4 D (.lst (acc ++ [y]))) else Pv D (i + 1) H3) (hd : ∀ D H, H1 D = none → Pv D xs.length H → Q D H) :
    ((∃ xs, SqL K H1 q xs) ∧ ∀ D, H1 D = none → ∃ W : Nat → Nat → Hp → Prop, (∃ m, W 0 m (upd H1 D (.lst []))) ∧ ∀ i m H, W i m H →
      ((Itl K q).stop i H ∧ Q D H) ∨ ((Itl K q).go i H ∧ ∃ Nx : Hp → Prop, (∀ H', Nx H' → ∃ m', m' < m ∧ W (i + 1) m' H') ∧ ∀ v H', (Itl K q).yld i H v H' → g v (wipe σ vs) H' fun σ2 H2 => wipe σ2 vs = wipe σ vs ∧ tt σ2 H2 fun b H3 =>
        if b = true then te σ2 H3 fun y H4 => ∃ acc, H4 D = some (.lst acc) ∧ acc.length < sizeLine ∧ Nx (upd H4 D (.lst (acc ++ [y]))) else Nx H3)) ∨
    ((∃ xs, SqT K H1 q xs) ∧ ∀ D, H1 D = none → ∃ W : Nat → Nat → Hp → Prop, (∃ m, W 0 m (upd H1 D (.lst []))) ∧ ∀ i m H, W i m H →
      ((Itt K q).stop i H ∧ Q D H) ∨ ((Itt K q).go i H ∧ ∃ Nx : Hp → Prop, (∀ H', Nx H' → ∃ m', m' < m ∧ W (i + 1) m' H') ∧ ∀ v H', (Itt K q).yld i H v H' → g v (wipe σ vs) H' fun σ2 H2 => wipe σ2 vs = wipe σ vs ∧ tt σ2 H2 fun b H3 =>
        if b = true then te σ2 H3 fun y H4 => ∃ acc, H4 D = some (.lst acc) ∧ acc.length < sizeLine ∧ Nx (upd H4 D (.lst (acc ++ [y]))) else Nx H3)) := by
  rcases hs0 with h | h
  · exact .inl ⟨⟨xs, h⟩, fun D nD => Kb.lc_listK (Qd := Q D) (Pv D) (fun i H' p => (hq D i H' nD p).1 h) (h0 D nD) (fun i v H' => hs D i v H' nD) fun H' => hd D H' nD⟩
  · exact .inr ⟨⟨xs, h⟩, fun D nD => Kb.lc_tupK (Qd := Q D) (Pv D) (fun i H' p => (hq D i H' nD p).2 h) (h0 D nD) (fun i v H' => hs D i v H' nD) fun H' => hd D H' nD⟩
theorem pe_fldK {X : Cx} {e : Expr} {f : Str} {pos : Pos} {ta : TE} {K : PySem.W.Frag} (hK : X.K = K) (he : PE X e ta) (hb : attributeBase e f X.env (eval e X.env) = eval e X.env) : PE X (.Attribute e f pos) (tFld K ta f) := hK ▸ pe_fld he hb
end Tx
set_option Elab.async false
set_option linter.all false
set_option maxRecDepth 100000
set_option maxHeartbeats 4000000
namespace W8
open PySem PySem.Spec PyProof.Rows L2 Com SX Tx
/-! plain values -/
inductive Pl where
  | num (i : Int)
  | flg (b : Bool)
  | txt (x : T)
  | lst (l : List Pl)
def bt (b : Bool) : T := if b = true then tx "#t" else tx "#f"
mutual
def plD : Pl → PyData
  | .num i => .tuple [.str "number", .int i]
  | .flg b => .tuple [.str "flag", .bool b]
  | .txt x => .tuple [.str "text", .str (S x)]
  | .lst l => .tuple [.str "list", .tuple (plDs l)]
def plDs : List Pl → List PyData
  | [] => []
  | p :: r => plD p :: plDs r
end
mutual
def plT : Pl → T
  | .num i => it i
  | .flg b => bt b
  | .txt x => tx "\"" ++ (x ++ tx "\"")
  | .lst l => tx "(" ++ (jn (tx " ") (plTs l) ++ tx ")")
def plTs : List Pl → List T
  | [] => []
  | p :: r => plT p :: plTs r
end
theorem plDs_map : ∀ l : List Pl, plDs l = l.map plD
  | [] => rfl
  | p :: r => by simp [plDs, plDs_map r]
theorem plTs_map : ∀ l : List Pl, plTs l = l.map plT
  | [] => rfl
  | p :: r => by simp [plTs, plTs_map r]
/-! what may stand in them; how deep, how much -/
mutual
def plG : Pl → Prop
  | .num i => i.natAbs < 10 ^ 30
  | .flg _ => True
  | .txt x => x.length ≤ 10
  | .lst l => plGs l
def plGs : List Pl → Prop
  | [] => True
  | p :: r => plG p ∧ plGs r
end
mutual
def dpP : Pl → Nat
  | .num _ | .flg _ | .txt _ => 0
  | .lst l => 1 + dpPs l
def dpPs : List Pl → Nat
  | [] => 0
  | p :: r => max (dpP p) (dpPs r)
end
mutual
def szP : Pl → Nat
  | .num _ | .flg _ | .txt _ => 1
  | .lst l => 1 + szPs l
def szPs : List Pl → Nat
  | [] => 0
  | p :: r => szP p + szPs r
end
theorem plGs_mem : ∀ {l : List Pl} {p : Pl}, plGs l → p ∈ l → plG p
  | q :: r, p, h, hm => by
    simp only [plGs] at h
    rcases List.mem_cons.mp hm with rfl | hm
    · exact h.1
    · exact plGs_mem h.2 hm
theorem plGs_of : ∀ {l : List Pl}, (∀ p ∈ l, plG p) → plGs l
  | [], _ => by simp [plGs]
  | p :: r, h => by
    simp only [plGs]
    exact ⟨h p List.mem_cons_self, plGs_of fun q hq => h q (List.mem_cons_of_mem _ hq)⟩
theorem dpPs_mem : ∀ {l : List Pl} {p : Pl}, p ∈ l → dpP p ≤ dpPs l
  | q :: r, p, hm => by
    simp only [dpPs]
    rcases List.mem_cons.mp hm with rfl | hm
    · omega
    · have := dpPs_mem hm
      omega
theorem szPs_mem : ∀ {l : List Pl} {p : Pl}, p ∈ l → szP p ≤ szPs l
  | q :: r, p, hm => by
    simp only [szPs]
    rcases List.mem_cons.mp hm with rfl | hm
    · omega
    · have := szPs_mem hm
      omega
theorem szP_pos (p : Pl) : 1 ≤ szP p := by cases p <;> simp only [szP] <;> omega
theorem szPs_len : ∀ l : List Pl, l.length ≤ szPs l
  | [] => Nat.zero_le _
  | p :: r => by
    have h1 := szP_pos p
    have h2 := szPs_len r
    simp only [szPs, List.length_cons]
    omega
theorem bt_len (b : Bool) : (bt b).length = 2 := by cases b <;> rfl
mutual
theorem plT_len : ∀ p : Pl, plG p → (plT p).length + 1 ≤ 34 * szP p
  | .num i, h => by
    simp only [plG] at h
    have := it_len10 (k := 30) (by decide) h
    simp only [plT, szP]
    omega
  | .flg b, _ => by
    have := bt_len b
    simp only [plT, szP]
    omega
  | .txt x, h => by
    simp only [plG] at h
    simp only [plT, szP, List.length_append]
    have : (tx "\"").length = 1 := by decide +kernel
    omega
  | .lst l, h => by
    simp only [plG] at h
    have h1 := plTs_len l h
    have h2 := jn_len (tx " ") (plTs l)
    have e1 : (tx " ").length = 1 := by decide +kernel
    have e2 : (tx "(").length = 1 := by decide +kernel
    have e3 : (tx ")").length = 1 := by decide +kernel
    simp only [plT, szP, List.length_append]
    rw [e1] at h2
    omega
theorem plTs_len : ∀ l : List Pl, plGs l → ((plTs l).map List.length).sum + (plTs l).length ≤ 34 * szPs l
  | [], _ => by simp [plTs]
  | p :: r, h => by
    simp only [plGs] at h
    have h1 := plT_len p h.1
    have h2 := plTs_len r h.2
    simp only [plTs, szPs, List.map_cons, List.sum_cons, List.length_cons]
    omega
end
def isLst : Pl → Bool
  | .lst _ => true
  | .num _ | .flg _ | .txt _ => false
def Pl.kd : Pl → Str
  | .num _ => "number"
  | .flg _ => "flag"
  | .txt _ => "text"
  | .lst _ => "list"
def Pl.vl : Pl → PyData
  | .num i => .int i
  | .flg b => .bool b
  | .txt x => .str (S x)
  | .lst l => .tuple (plDs l)
theorem plD_eq (p : Pl) : plD p = .tuple [.str p.kd, p.vl] := by cases p <;> simp [plD, Pl.kd, Pl.vl]
/-! values, rows of parts -/
mutual
def cntV : Pl → Int
  | .lst l => cntR l
  | .num _ | .flg _ | .txt _ => 1
def cntR : List Pl → Int
  | [] => 1
  | p :: r => cntR r + cntV p
end
mutual
def depV : Pl → Int
  | .lst l => depR l
  | .num _ | .flg _ | .txt _ => 0
def depR : List Pl → Int
  | [] => 1
  | p :: r => if isLst p = true then max (depR r) (depV p + 1) else depR r
end
mutual
def vD : Pl → PyData
  | .lst l => rD l
  | .num i => .tuple [.str "number", .int i]
  | .flg b => .tuple [.str "flag", .bool b]
  | .txt x => .tuple [.str "text", .str (S x)]
def rD : List Pl → PyData
  | [] => .tuple [.str "list", .none, .none, .int 0, .int 1, .int 1]
  | p :: r => .tuple [.str "list", vD p, rD r, .int ((r.length : Int) + 1), .int (cntR (p :: r)), .int (depR (p :: r))]
end
theorem vD_leaf {p : Pl} (h : isLst p = false) : vD p = plD p := by
  cases p with
  | lst l => cases h
  | _ => simp [vD, plD]
/-! syntax -/
inductive Sy where
  | id (n : T) (m : T) (p : Int) (sc : Bool)
  | num (i : Int) (m : T) (p : Int)
  | txt (x : T) (m : T) (p : Int)
  | dots (m : T) (p : Int)
  | wild (m : T) (p : Int)
  | flg (b : Bool) (m : T) (p : Int)
  | lst (l : List Sy) (m : T) (p : Int)
def whD (m : T) (p : Int) : PyData := .tuple [.str (S m), .int p]
def scD (b : Bool) : PyData := if b = true then .tuple [.tuple [.str "m", .int 0, .int 0]] else .tuple []
mutual
def syD : Sy → PyData
  | .id n m p sc => .tuple [.str "id", .str (S n), whD m p, scD sc]
  | .num i m p => .tuple [.str "atom", .str "number", .int i, whD m p]
  | .txt x m p => .tuple [.str "atom", .str "text", .str (S x), whD m p]
  | .dots m p => .tuple [.str "atom", .str "dots", .none, whD m p]
  | .wild m p => .tuple [.str "atom", .str "wild", .none, whD m p]
  | .flg b m p => .tuple [.str "atom", .str "flag", .bool b, whD m p]
  | .lst l m p => .tuple [.str "list", .tuple (syDs l), whD m p]
def syDs : List Sy → List PyData
  | [] => []
  | p :: r => syD p :: syDs r
end
/-! its text, the names that f numbers by their numbers -/
mutual
def syT (f : T → Bool → Option Int) : Sy → T
  | .id n m p sc => match f n sc with
    | some k => tx "$" ++ it k
    | none => m ++ (tx "@" ++ it p)
  | .num i _ _ => it i
  | .txt x _ _ => tx "\"" ++ (x ++ tx "\"")
  | .dots _ _ => tx "..."
  | .wild _ _ => tx "_"
  | .flg b _ _ => bt b
  | .lst l _ _ => tx "(" ++ (jn (tx " ") (syTs f l) ++ tx ")")
def syTs (f : T → Bool → Option Int) : List Sy → List T
  | [] => []
  | p :: r => syT f p :: syTs f r
end
theorem syDs_map : ∀ l : List Sy, syDs l = l.map syD
  | [] => rfl
  | p :: r => by simp [syDs, syDs_map r]
theorem syTs_map (f : T → Bool → Option Int) : ∀ l : List Sy, syTs f l = l.map (syT f)
  | [] => rfl
  | p :: r => by simp [syTs, syTs_map f r]
/-- no number -/
def f0 : T → Bool → Option Int := fun _ _ => none
def nmOk (n : T) : Prop := n = tx "a" ∨ n = tx "b" ∨ n = tx "c" ∨ n = tx "x" ∨ n = tx "y" ∨ n = tx "l"
mutual
def syOk : Nat → Sy → Prop
  | _, .id n m p _ => nmOk n ∧ m.length ≤ 5 ∧ 0 ≤ p ∧ p < 1000
  | _, .num i m p => i.natAbs < 10
  | _, .txt x m p => x.length ≤ 10
  | _, .dots _ _ => True
  | _, .wild _ _ => True
  | _, .flg _ _ _ => True
  | 0, .lst _ _ _ => False
  | n + 1, .lst l _ _ => l.length ≤ 3 ∧ syOks n l
def syOks : Nat → List Sy → Prop
  | _, [] => True
  | n, p :: r => syOk n p ∧ syOks n r
end
theorem syOks_mem : ∀ {n : Nat} {l : List Sy} {p : Sy}, syOks n l → p ∈ l → syOk n p
  | n, q :: r, p, h, hm => by
    simp only [syOks] at h
    rcases List.mem_cons.mp hm with rfl | hm
    · exact h.1
    · exact syOks_mem h.2 hm
theorem syOks_of : ∀ {n : Nat} {l : List Sy}, (∀ p ∈ l, syOk n p) → syOks n l
  | n, [], _ => by simp [syOks]
  | n, p :: r, h => by
    simp only [syOks]
    exact ⟨h p List.mem_cons_self, syOks_of fun q hq => h q (List.mem_cons_of_mem _ hq)⟩
mutual
theorem syOk_up {n m : Nat} (h : n ≤ m) : ∀ s : Sy, syOk n s → syOk m s
  | .id a b c d, q => by simpa [syOk] using q
  | .num i _ _, q => by simpa [syOk] using q
  | .txt _ _ _, q => by simpa [syOk] using q
  | .dots _ _, q => by simp [syOk]
  | .wild _ _, q => by simp [syOk]
  | .flg _ _ _, q => by simp [syOk]
  | .lst l _ _, q => by
    cases n with
    | zero => simp [syOk] at q
    | succ n =>
      cases m with
      | zero => omega
      | succ m =>
        simp only [syOk] at q ⊢
        exact ⟨q.1, syOks_up (by omega) l q.2⟩
theorem syOks_up {n m : Nat} (h : n ≤ m) : ∀ l : List Sy, syOks n l → syOks m l
  | [], _ => by simp [syOks]
  | s :: r, q => by
    simp only [syOks] at q ⊢
    exact ⟨syOk_up h s q.1, syOks_up h r q.2⟩
end
/-! rows of numbers -/
def rowAll : List (T × Bool × Int × Int) := [(tx "a", false, 3, 0), (tx "b", true, 0, 0), (tx "b", false, 3, 0)]
def rowF (k : Nat) (n : T) (sc : Bool) : Option Int := ((rowAll.take k).find? fun r => decide (r.1 = n) && decide (r.2.1 = sc)).map (·.2.2.1)
def rowD (r : T × Bool × Int × Int) : PyData := .tuple [.str (S r.1), scD r.2.1, .int r.2.2.1, .int r.2.2.2]
/-! leaves -/
inductive Lf where
  | const (p : Pl)
  | syn (s : Sy)
  | top (m : T) (l n : Int) (wm : T) (wp : Int)
  | prim (x : T)
  | rules (l : List Sy) (m : T) (p : Int)
  | pat (l : List Sy) (m : T) (p : Int)
  | tmpl (s : Sy) (k : Nat)
def Lf.kd : Lf → Str
  | .const _ => "const"
  | .syn _ => "syntax"
  | .top _ _ _ _ _ => "top"
  | .prim _ => "prim"
  | .rules _ _ _ => "rules"
  | .pat _ _ _ => "pattern"
  | .tmpl _ _ => "template"
def lfD : Lf → PyData
  | .const p => .tuple [.str "const", plD p]
  | .syn s => .tuple [.str "syntax", syD s]
  | .top m l n wm wp => .tuple [.str "top", .str (S m), .int l, .int n, whD wm wp]
  | .prim x => .tuple [.str "prim", .str (S x)]
  | .rules l m p => .tuple [.str "rules", .tuple [.str "list", .tuple (syDs l), whD m p]]
  | .pat l m p => .tuple [.str "pattern", .tuple [.str "list", .tuple (syDs l), whD m p]]
  | .tmpl s k => .tuple [.str "template", syD s, .tuple ((rowAll.take k).map rowD)]
def inP (kind : Str) (ys : List T) : T := tx "(" ++ (tx kind ++ (tx " " ++ (jn (tx " ") ys ++ tx ")")))
def lfT : Lf → T
  | .const p => if isLst p = true then tx "(quote " ++ (plT p ++ tx ")") else plT p
  | .syn s => inP "syntax" [syT f0 s]
  | .top m l n _ _ => m ++ (tx ":" ++ (it l ++ (tx ":" ++ it n)))
  | .prim x => x
  | .rules l _ _ => inP "rules" (syTs f0 l.tail)
  | .pat l _ _ => inP "pattern" (syTs f0 l)
  | .tmpl s k => inP "template" [syT (rowF k) s]
def lfOk : Lf → Prop
  | .const p => plG p ∧ dpP p ≤ 2 ∧ szP p ≤ 13
  | .syn s => syOk 3 s
  | .top m l n _ _ => m.length ≤ 5 ∧ l.natAbs < 1000 ∧ n.natAbs < 1000
  | .prim x => x.length ≤ 10
  | .rules l _ _ => 1 ≤ l.length ∧ l.length ≤ 5 ∧ syOks 3 l
  | .pat l _ _ => l.length ≤ 5 ∧ syOks 3 l
  | .tmpl s k => syOk 3 s ∧ k ≤ 3
/-! terms -/
inductive Tm where
  | lf (l : Lf)
  | loc (n : Int) (m : T) (p : Int)
  | fn (ns : List Int) (b : Tm)
  | lrec (ns : List Int) (ts : List Tm) (b : Tm)
  | sq (k : Str) (l : List Tm)
  | doo (l : List Tm)
  | call (f : Tm) (l : List Tm) (m : T) (p : Int)
def Tm.kd : Tm → Str
  | .lf l => l.kd
  | .loc _ _ _ => "local"
  | .fn _ _ => "fn"
  | .lrec _ _ _ => "rec"
  | .sq k _ => k
  | .doo _ => "do"
  | .call _ _ _ _ => "call"
mutual
def tmD : Tm → PyData
  | .lf l => lfD l
  | .loc n m p => .tuple [.str "local", .int n, whD m p]
  | .fn ns b => .tuple [.str "fn", .tuple (ns.map PyData.int), tmD b]
  | .lrec ns ts b => .tuple [.str "rec", .tuple (prDs ns ts), tmD b]
  | .sq k l => .tuple (.str k :: tmDs l)
  | .doo l => .tuple [.str "do", .tuple (tmDs l)]
  | .call f l m p => .tuple [.str "call", tmD f, .tuple (tmDs l), whD m p]
def tmDs : List Tm → List PyData
  | [] => []
  | t :: r => tmD t :: tmDs r
def prDs : List Int → List Tm → List PyData
  | n :: ns, t :: ts => .tuple [.int n, tmD t] :: prDs ns ts
  | [], _ => []
  | _ :: _, [] => []
end
/-! the names that a term binds, in the order of their standing -/
mutual
def od : Tm → List Int
  | .lf _ => []
  | .loc _ _ _ => []
  | .fn ns b => ns ++ od b
  | .lrec ns ts b => ns ++ (ods ts ++ od b)
  | .sq _ l => ods l
  | .doo l => ods l
  | .call f l _ _ => od f ++ ods l
def ods : List Tm → List Int
  | [] => []
  | t :: r => od t ++ ods r
end
/-- the name of the variable n, behind the names o -/
def vn (k : Nat) : T := tx "v" ++ it (k : Nat)
def vns (k : Nat) (ns : List Int) : List T := (List.range ns.length).map fun i => vn (k + i)
/-! a term's text, behind the names o -/
mutual
def tmT : Tm → List Int → T
  | .lf l, _ => lfT l
  | .loc n _ _, o => vn (o.idxOf n)
  | .fn ns b, o => tx "(fn (" ++ (jn (tx " ") (vns o.length ns) ++ (tx ") " ++ (tmT b (o ++ ns) ++ tx ")")))
  | .lrec ns ts b, o => tx "(letrec (" ++ (jn (tx " ") (prTs o.length ts (o ++ ns)) ++ (tx ") " ++ (tmT b (o ++ (ns ++ ods ts)) ++ tx ")")))
  | .sq k l, o => tx "(" ++ (jn (tx " ") (tx k :: tmTs l o) ++ tx ")")
  | .doo l, o => tx "(" ++ (jn (tx " ") (tx "do" :: tmTs l o) ++ tx ")")
  | .call f l _ _, o => tx "(" ++ (jn (tx " ") (tmT f o :: tmTs l (o ++ od f)) ++ tx ")")
def tmTs : List Tm → List Int → List T
  | [], _ => []
  | t :: r, o => tmT t o :: tmTs r (o ++ od t)
def prTs : Nat → List Tm → List Int → List T
  | _, [], _ => []
  | k, t :: r, o => (tx "(" ++ (vn k ++ (tx " " ++ (tmT t o ++ tx ")")))) :: prTs (k + 1) r (o ++ od t)
end
end W8
set_option Elab.async false
set_option linter.all false
set_option maxRecDepth 100000
set_option maxHeartbeats 4000000
namespace W8
open PySem PySem.Spec PyProof.Rows L2 Com SX Tx
/-! lists of them -/
theorem tmDs_map : ∀ l : List Tm, tmDs l = l.map tmD
  | [] => rfl
  | t :: r => by simp [tmDs, tmDs_map r]
theorem tmTs_len : ∀ (l : List Tm) (o : List Int), (tmTs l o).length = l.length
  | [], _ => rfl
  | t :: r, o => by simp [tmTs, tmTs_len r]
theorem prTs_len : ∀ (k : Nat) (l : List Tm) (o : List Int), (prTs k l o).length = l.length
  | _, [], _ => rfl
  | k, t :: r, o => by simp [prTs, prTs_len (k + 1) r]
theorem ods_app : ∀ (a b : List Tm), ods (a ++ b) = ods a ++ ods b
  | [], b => rfl
  | t :: r, b => by simp [ods, ods_app r b]
theorem vns_len (k : Nat) (ns : List Int) : (vns k ns).length = ns.length := by simp [vns]
/-! pieces -/
abbrev Pc := Sum T Tm
def own : Tm → List Int
  | .fn ns _ => ns
  | .lrec ns _ _ => ns
  | .lf _ | .loc _ _ _ | .sq _ _ | .doo _ | .call _ _ _ _ => []
def spR : Bool → List Tm → List Pc
  | _, [] => []
  | true, t :: r => .inr t :: spR false r
  | false, t :: r => .inl (tx " ") :: .inr t :: spR false r
def spd (b : T) (l : List Tm) : List Pc := .inl b :: (spR true l ++ [.inl (tx ")")])
def rcR : Nat → Bool → List Tm → List Pc
  | _, _, [] => []
  | k, f, t :: r => .inl (if f = true then tx "(" else tx " (") :: .inl (vn k) :: .inl (tx " ") :: .inr t :: .inl (tx ")") :: rcR (k + 1) false r
def pcs : Tm → List Int → List Pc
  | .lf l, _ => [.inl (lfT l)]
  | .loc n _ _, o => [.inl (vn (o.idxOf n))]
  | .fn ns b, o => [.inl (tx "(fn (" ++ (jn (tx " ") (vns o.length ns) ++ tx ") ")), .inr b, .inl (tx ")")]
  | .lrec ns ts b, o => (.inl (tx "(letrec (") :: rcR o.length true ts) ++ [.inl (tx ") "), .inr b, .inl (tx ")")]
  | .sq k l, _ => spd (tx "(" ++ (tx k ++ tx " ")) l
  | .doo l, _ => spd (tx "(do ") l
  | .call f l _ _, _ => spd (tx "(") (f :: l)
def pT : List Pc → List Int → T
  | [], _ => []
  | .inl x :: r, o => x ++ pT r o
  | .inr t :: r, o => tmT t o ++ pT r (o ++ od t)
def pO : List Pc → List Int
  | [] => []
  | .inl _ :: r => pO r
  | .inr t :: r => od t ++ pO r
theorem pT_app : ∀ (a b : List Pc) (o : List Int), pT (a ++ b) o = pT a o ++ pT b (o ++ pO a)
  | [], b, o => by simp [pT, pO]
  | .inl x :: r, b, o => by simp [pT, pO, pT_app r b]
  | .inr t :: r, b, o => by simp [pT, pO, pT_app r b]
theorem pO_app : ∀ (a b : List Pc), pO (a ++ b) = pO a ++ pO b
  | [], b => rfl
  | .inl x :: r, b => by simp [pO, pO_app r b]
  | .inr t :: r, b => by simp [pO, pO_app r b]
theorem pO_spR : ∀ (l : List Tm) (f : Bool), pO (spR f l) = ods l
  | [], f => by cases f <;> rfl
  | t :: r, true => by simp [spR, pO, ods, pO_spR r false]
  | t :: r, false => by simp [spR, pO, ods, pO_spR r false]
theorem pT_spR : ∀ (l : List Tm) (o : List Int), pT (spR false l) o = (if l = [] then [] else tx " " ++ jn (tx " ") (tmTs l o)) ∧ pT (spR true l) o = jn (tx " ") (tmTs l o)
  | [], o => ⟨rfl, rfl⟩
  | t :: r, o => by
    have ih := (pT_spR r (o ++ od t)).1
    have key : tmT t o ++ pT (spR false r) (o ++ od t) = jn (tx " ") (tmTs (t :: r) o) := by
      rw [ih]
      cases r with
      | nil => simp [tmTs, jn_one]
      | cons t2 r2 => simp [tmTs, jn_cons]
    refine ⟨?_, ?_⟩
    · rw [if_neg (by simp)]
      show tx " " ++ (tmT t o ++ pT (spR false r) (o ++ od t)) = _
      rw [key]
    · show tmT t o ++ pT (spR false r) (o ++ od t) = _
      rw [key]
theorem pO_rcR : ∀ (l : List Tm) (k : Nat) (f : Bool), pO (rcR k f l) = ods l
  | [], k, f => rfl
  | t :: r, k, f => by simp [rcR, pO, ods, pO_rcR r]
theorem pT_rcR : ∀ (l : List Tm) (k : Nat) (o : List Int), pT (rcR k false l) o = (if l = [] then [] else tx " " ++ jn (tx " ") (prTs k l o)) ∧ pT (rcR k true l) o = jn (tx " ") (prTs k l o)
  | [], k, o => ⟨rfl, rfl⟩
  | t :: r, k, o => by
    have ih := (pT_rcR r (k + 1) (o ++ od t)).1
    have key : (tx "(" ++ (vn k ++ (tx " " ++ (tmT t o ++ tx ")")))) ++ pT (rcR (k + 1) false r) (o ++ od t) = jn (tx " ") (prTs k (t :: r) o) := by
      rw [ih]
      cases r with
      | nil => simp [prTs, jn_one]
      | cons t2 r2 =>
        rw [if_neg (by simp)]
        show _ = jn (tx " ") (_ :: _ :: _)
        rw [jn_cons]
        rfl
    have e : tx " (" = tx " " ++ tx "(" := by decide +kernel
    refine ⟨?_, ?_⟩
    · rw [if_neg (by simp), ← key]
      show tx " (" ++ (vn k ++ (tx " " ++ (tmT t o ++ (tx ")" ++ pT (rcR (k + 1) false r) (o ++ od t))))) = _
      rw [e]
      simp
    · rw [← key]
      show tx "(" ++ (vn k ++ (tx " " ++ (tmT t o ++ (tx ")" ++ pT (rcR (k + 1) false r) (o ++ od t))))) = _
      simp
theorem own_od (t : Tm) (o : List Int) : own t ++ pO (pcs t o) = od t := by
  cases t with
  | lf l => simp [own, pcs, pO, od]
  | loc n m p => simp [own, pcs, pO, od]
  | fn ns b => simp [own, pcs, pO, od]
  | lrec ns ts b => simp [own, pcs, pO, od, pO_app, pO_rcR]
  | sq k l => simp [own, pcs, spd, pO, od, pO_app, pO_spR]
  | doo l => simp [own, pcs, spd, pO, od, pO_app, pO_spR]
  | call f l m p => simp [own, pcs, spd, pO, od, pO_app, pO_spR, ods]
/-- the sequences that are not empty -/
def neT : Tm → Prop
  | .sq k l => l ≠ []
  | .doo l => l ≠ []
  | .lf _ | .loc _ _ _ | .fn _ _ | .lrec _ _ _ | .call _ _ _ _ => True
theorem pcs_ok (t : Tm) (o : List Int) (h : neT t) : pT (pcs t o) (o ++ own t) = tmT t o := by
  cases t with
  | lf l => simp [own, pcs, pT, tmT]
  | loc n m p => simp [own, pcs, pT, tmT]
  | fn ns b => simp [own, pcs, pT, tmT]
  | lrec ns ts b =>
    simp only [own, pcs, pT, tmT, pT_app, List.cons_append, pO_rcR, (pT_rcR _ _ _).2, List.append_assoc, List.append_nil, pO]
  | sq k l =>
    cases l with
    | nil => exact absurd rfl h
    | cons t2 r =>
      simp only [own, pcs, spd, pT, tmT, pT_app, (pT_spR _ _).2, List.append_assoc, List.append_nil, tmTs, jn_cons]
  | doo l =>
    cases l with
    | nil => exact absurd rfl h
    | cons t2 r =>
      have e : tx "(do " = tx "(" ++ (tx "do" ++ tx " ") := by decide +kernel
      simp only [own, pcs, spd, pT, tmT, pT_app, (pT_spR _ _).2, List.append_assoc, List.append_nil, tmTs, jn_cons, e]
  | call f l m p =>
    simp only [own, pcs, spd, pT, tmT, pT_app, (pT_spR _ _).2, List.append_assoc, List.append_nil, tmTs]
/-! how much there is to do -/
mutual
def szM : Tm → Nat
  | .lf _ => 2
  | .loc _ _ _ => 2
  | .fn _ b => 3 + szM b
  | .lrec _ ts b => 4 + (4 * ts.length + szMs ts) + szM b
  | .sq _ l => 3 + l.length + szMs l
  | .doo l => 3 + l.length + szMs l
  | .call f l _ _ => 4 + l.length + (szM f + szMs l)
def szMs : List Tm → Nat
  | [] => 0
  | t :: r => szM t + szMs r
end
def pW : List Pc → Nat
  | [] => 0
  | .inl _ :: r => 1 + pW r
  | .inr t :: r => szM t + pW r
theorem pW_app : ∀ (a b : List Pc), pW (a ++ b) = pW a + pW b
  | [], b => by simp [pW]
  | .inl x :: r, b => by simp [pW, pW_app r b]; omega
  | .inr t :: r, b => by simp [pW, pW_app r b]; omega
theorem pW_spR : ∀ (l : List Tm) (f : Bool), pW (spR f l) ≤ l.length + szMs l
  | [], f => by cases f <;> simp [spR, pW, szMs]
  | t :: r, true => by
    have := pW_spR r false
    simp only [spR, pW, szMs, List.length_cons]
    omega
  | t :: r, false => by
    have := pW_spR r false
    simp only [spR, pW, szMs, List.length_cons]
    omega
theorem pW_rcR : ∀ (l : List Tm) (k : Nat) (f : Bool), pW (rcR k f l) = 4 * l.length + szMs l
  | [], k, f => by simp [rcR, pW, szMs]
  | t :: r, k, f => by
    have := pW_rcR r (k + 1) false
    simp only [rcR, pW, szMs, List.length_cons]
    omega
theorem pW_pcs (t : Tm) (o : List Int) : pW (pcs t o) < szM t := by
  cases t with
  | lf l => simp [pcs, pW, szM]
  | loc n m p => simp [pcs, pW, szM]
  | fn ns b => simp only [pcs, pW, szM]; omega
  | lrec ns ts b =>
    simp only [pcs, pW, szM, pW_app, pW_rcR, List.cons_append]
    omega
  | sq k l =>
    have := pW_spR l true
    simp only [pcs, spd, pW, szM, pW_app]
    omega
  | doo l =>
    have := pW_spR l true
    simp only [pcs, spd, pW, szM, pW_app]
    omega
  | call f l m p =>
    have := pW_spR (f :: l) true
    simp only [szMs, List.length_cons] at this
    simp only [pcs, spd, pW, szM, pW_app]
    omega
theorem pW_len : ∀ l : List Pc, l.length ≤ pW l
  | [] => Nat.zero_le _
  | .inl x :: r => by
    have := pW_len r
    simp only [pW, List.length_cons]
    omega
  | .inr t :: r => by
    have := pW_len r
    have : 1 ≤ szM t := by cases t <;> simp only [szM] <;> omega
    simp only [pW, List.length_cons]
    omega
/-! terms as they are drawn, at most so deep -/
mutual
def tmOk : Nat → Tm → Prop
  | _, .lf l => lfOk l
  | _, .loc n m p => True
  | 0, .fn _ _ => False
  | 0, .lrec _ _ _ => False
  | 0, .sq _ _ => False
  | 0, .doo _ => False
  | 0, .call _ _ _ _ => False
  | d + 1, .fn ns b => ns.length ≤ 3 ∧ tmOk d b
  | d + 1, .lrec ns ts b => ns.length ≤ 3 ∧ ts.length = ns.length ∧ tmOks d ts ∧ tmOk d b
  | d + 1, .sq k l => (k = "if" ∨ k = "set") ∧ l ≠ [] ∧ l.length ≤ 3 ∧ tmOks d l
  | d + 1, .doo l => l ≠ [] ∧ l.length ≤ 3 ∧ tmOks d l
  | d + 1, .call f l _ _ => l.length ≤ 3 ∧ tmOk d f ∧ tmOks d l
def tmOks : Nat → List Tm → Prop
  | _, [] => True
  | d, t :: r => tmOk d t ∧ tmOks d r
end
theorem tmOks_mem : ∀ {n : Nat} {l : List Tm} {p : Tm}, tmOks n l → p ∈ l → tmOk n p
  | n, q :: r, p, h, hm => by
    simp only [tmOks] at h
    rcases List.mem_cons.mp hm with rfl | hm
    · exact h.1
    · exact tmOks_mem h.2 hm
theorem tmOks_of : ∀ {n : Nat} {l : List Tm}, (∀ p ∈ l, tmOk n p) → tmOks n l
  | n, [], _ => by simp [tmOks]
  | n, p :: r, h => by
    simp only [tmOks]
    exact ⟨h p List.mem_cons_self, tmOks_of fun q hq => h q (List.mem_cons_of_mem _ hq)⟩
/-! the local variables are known -/
mutual
def ws : Tm → List Int → Prop
  | .lf _, _ => True
  | .loc n _ _, o => n ∈ o
  | .fn ns b, o => ws b (o ++ ns)
  | .lrec ns ts b, o => wss ts (o ++ ns) ∧ ws b (o ++ ns)
  | .sq _ l, o => wss l o
  | .doo l, o => wss l o
  | .call f l _ _, o => ws f o ∧ wss l o
def wss : List Tm → List Int → Prop
  | [], _ => True
  | t :: r, o => ws t o ∧ wss r o
end
mutual
theorem ws_up {o o' : List Int} (h : ∀ n ∈ o, n ∈ o') : ∀ t : Tm, ws t o → ws t o'
  | .lf _, _ => by simp [ws]
  | .loc n _ _, q => by
    simp only [ws] at q ⊢
    exact h n q
  | .fn ns b, q => by
    simp only [ws] at q ⊢
    exact ws_up (fun n hn => by
      rcases List.mem_append.mp hn with z | z
      · exact List.mem_append_left _ (h n z)
      · exact List.mem_append_right _ z) b q
  | .lrec ns ts b, q => by
    simp only [ws] at q ⊢
    have h' : ∀ n ∈ o ++ ns, n ∈ o' ++ ns := fun n hn => by
      rcases List.mem_append.mp hn with z | z
      · exact List.mem_append_left _ (h n z)
      · exact List.mem_append_right _ z
    exact ⟨wss_up h' ts q.1, ws_up h' b q.2⟩
  | .sq _ l, q => by
    simp only [ws] at q ⊢
    exact wss_up h l q
  | .doo l, q => by
    simp only [ws] at q ⊢
    exact wss_up h l q
  | .call f l _ _, q => by
    simp only [ws] at q ⊢
    exact ⟨ws_up h f q.1, wss_up h l q.2⟩
theorem wss_up {o o' : List Int} (h : ∀ n ∈ o, n ∈ o') : ∀ l : List Tm, wss l o → wss l o'
  | [], _ => by simp [wss]
  | t :: r, q => by
    simp only [wss] at q ⊢
    exact ⟨ws_up h t q.1, wss_up h r q.2⟩
end
theorem wss_mem : ∀ {o : List Int} {l : List Tm} {p : Tm}, wss l o → p ∈ l → ws p o
  | o, q :: r, p, h, hm => by
    simp only [wss] at h
    rcases List.mem_cons.mp hm with rfl | hm
    · exact h.1
    · exact wss_mem h.2 hm
theorem wss_of : ∀ {o : List Int} {l : List Tm}, (∀ p ∈ l, ws p o) → wss l o
  | n, [], _ => by simp [wss]
  | n, p :: r, h => by
    simp only [wss]
    exact ⟨h p List.mem_cons_self, wss_of fun q hq => h q (List.mem_cons_of_mem _ hq)⟩
/-! bounds by depth -/
def WB : Nat → Nat
  | 0 => 2
  | d + 1 => 20 + 4 * WB d
def NB : Nat → Nat
  | 0 => 0
  | d + 1 => 3 + 4 * NB d
def LB : Nat → Nat
  | 0 => 2600
  | d + 1 => 300 + 4 * LB d
theorem wb_pos (d : Nat) : 2 ≤ WB d := by cases d <;> simp only [WB] <;> omega
theorem lb_pos (d : Nat) : 2600 ≤ LB d := by
  induction d with
  | zero => exact Nat.le_refl _
  | succ d ih => simp only [LB]; omega
mutual
theorem szM_le : ∀ (t : Tm) (d : Nat), tmOk d t → szM t ≤ WB d
  | .lf _, d, _ => by have := wb_pos d; simp only [szM]; exact this
  | .loc _ _ _, d, _ => by have := wb_pos d; simp only [szM]; exact this
  | .fn ns b, 0, h => by simp [tmOk] at h
  | .fn ns b, d + 1, h => by
    simp only [tmOk] at h
    have := szM_le b d h.2
    simp only [szM, WB]
    omega
  | .lrec ns ts b, 0, h => by simp [tmOk] at h
  | .lrec ns ts b, d + 1, h => by
    simp only [tmOk] at h
    have h1 := szMs_le ts d h.2.2.1
    have h2 := szM_le b d h.2.2.2
    have h3 : ts.length ≤ 3 := by omega
    have h4 : ts.length * WB d ≤ 3 * WB d := Nat.mul_le_mul_right _ h3
    simp only [szM, WB]
    omega
  | .sq _ l, 0, h => by simp [tmOk] at h
  | .sq _ l, d + 1, h => by
    simp only [tmOk] at h
    have h1 := szMs_le l d h.2.2.2
    have h4 : l.length * WB d ≤ 3 * WB d := Nat.mul_le_mul_right _ h.2.2.1
    have := h.2.2.1
    simp only [szM, WB]
    omega
  | .doo l, 0, h => by simp [tmOk] at h
  | .doo l, d + 1, h => by
    simp only [tmOk] at h
    have h1 := szMs_le l d h.2.2
    have h4 : l.length * WB d ≤ 3 * WB d := Nat.mul_le_mul_right _ h.2.1
    have := h.2.1
    simp only [szM, WB]
    omega
  | .call f l _ _, 0, h => by simp [tmOk] at h
  | .call f l _ _, d + 1, h => by
    simp only [tmOk] at h
    have h0 := szM_le f d h.2.1
    have h1 := szMs_le l d h.2.2
    have h4 : l.length * WB d ≤ 3 * WB d := Nat.mul_le_mul_right _ h.1
    have := h.1
    simp only [szM, WB]
    omega
theorem szMs_le : ∀ (l : List Tm) (d : Nat), tmOks d l → szMs l ≤ l.length * WB d
  | [], d, _ => by simp [szMs]
  | t :: r, d, h => by
    simp only [tmOks] at h
    have h1 := szM_le t d h.1
    have h2 := szMs_le r d h.2
    simp only [szMs, List.length_cons, Nat.add_mul]
    omega
end
mutual
theorem od_len : ∀ (t : Tm) (d : Nat), tmOk d t → (od t).length ≤ NB d
  | .lf _, d, _ => by simp [od]
  | .loc _ _ _, d, _ => by simp [od]
  | .fn ns b, 0, h => by simp [tmOk] at h
  | .fn ns b, d + 1, h => by
    simp only [tmOk] at h
    have := od_len b d h.2
    have := h.1
    simp only [od, NB, List.length_append]
    omega
  | .lrec ns ts b, 0, h => by simp [tmOk] at h
  | .lrec ns ts b, d + 1, h => by
    simp only [tmOk] at h
    have h1 := ods_len ts d h.2.2.1
    have h2 := od_len b d h.2.2.2
    have h3 : ts.length ≤ 3 := by omega
    have h4 : ts.length * NB d ≤ 3 * NB d := Nat.mul_le_mul_right _ h3
    have := h.1
    simp only [od, NB, List.length_append]
    omega
  | .sq _ l, 0, h => by simp [tmOk] at h
  | .sq _ l, d + 1, h => by
    simp only [tmOk] at h
    have h1 := ods_len l d h.2.2.2
    have h4 : l.length * NB d ≤ 3 * NB d := Nat.mul_le_mul_right _ h.2.2.1
    simp only [od, NB]
    omega
  | .doo l, 0, h => by simp [tmOk] at h
  | .doo l, d + 1, h => by
    simp only [tmOk] at h
    have h1 := ods_len l d h.2.2
    have h4 : l.length * NB d ≤ 3 * NB d := Nat.mul_le_mul_right _ h.2.1
    simp only [od, NB]
    omega
  | .call f l _ _, 0, h => by simp [tmOk] at h
  | .call f l _ _, d + 1, h => by
    simp only [tmOk] at h
    have h0 := od_len f d h.2.1
    have h1 := ods_len l d h.2.2
    have h4 : l.length * NB d ≤ 3 * NB d := Nat.mul_le_mul_right _ h.1
    simp only [od, NB, List.length_append]
    omega
theorem ods_len : ∀ (l : List Tm) (d : Nat), tmOks d l → (ods l).length ≤ l.length * NB d
  | [], d, _ => by simp [ods]
  | t :: r, d, h => by
    simp only [tmOks] at h
    have h1 := od_len t d h.1
    have h2 := ods_len r d h.2
    simp only [ods, List.length_cons, List.length_append, Nat.add_mul]
    omega
end
theorem nb6 : NB 6 = 4095 := by decide
theorem lb6 : LB 6 = 11059100 := by decide
theorem wb6 : WB 6 = 35492 := by decide
/-! how long texts are -/
theorem jn_len1 : ∀ (ys : List T), (jn (tx " ") ys).length ≤ (ys.map List.length).sum + (ys.length - 1)
  | [] => Nat.zero_le _
  | [y] => by
    rw [jn_one]
    simp
  | y :: z :: r => by
    have ih := jn_len1 (z :: r)
    have e : (tx " ").length = 1 := by decide +kernel
    rw [jn_cons, List.length_append, List.length_append, List.map_cons, List.sum_cons, List.length_cons, e]
    simp only [List.length_cons] at ih ⊢
    omega
def SB : Nat → Nat
  | 0 => 14
  | d + 1 => 3 * SB d + 4
theorem sb_pos (d : Nat) : 14 ≤ SB d := by
  induction d with
  | zero => exact Nat.le_refl _
  | succ d ih => simp only [SB]; omega
def fOk (f : T → Bool → Option Int) : Prop := ∀ n sc k, f n sc = some k → k.natAbs < 10
theorem f0_ok : fOk f0 := fun n sc k h => by cases h
theorem row_ok (k : Nat) : fOk (rowF k) := fun n sc i h => by
  unfold rowF at h
  obtain ⟨r, hr, rfl⟩ := Option.map_eq_some_iff.mp h
  have hm := List.mem_of_mem_take (List.mem_of_find?_eq_some hr)
  unfold rowAll at hm
  simp only [List.mem_cons, List.not_mem_nil, or_false] at hm
  rcases hm with rfl | rfl | rfl <;> decide
theorem t1 : (tx " ").length = 1 ∧ (tx "(").length = 1 ∧ (tx ")").length = 1 ∧ (tx "$").length = 1 ∧ (tx "@").length = 1 ∧ (tx ":").length = 1 ∧ (tx "_").length = 1 ∧ (tx "...").length = 3 ∧ (tx "\"").length = 1 ∧ (tx "v").length = 1 := by decide +kernel
mutual
theorem syT_len {f : T → Bool → Option Int} (hf : fOk f) : ∀ (s : Sy) (d : Nat), syOk d s → (syT f s).length ≤ SB d
  | .id n m p sc, d, h => by
    simp only [syOk] at h
    obtain ⟨_, h1, h2, h3⟩ := h
    have hd := sb_pos d
    have ht := t1
    simp only [syT]
    split
    · next k e =>
      have := it_len10 (k := 1) (by decide) (by have := hf _ _ _ e; omega : k.natAbs < 10 ^ 1)
      rw [List.length_append]
      omega
    · have := it_len10 (i := p) (k := 3) (by decide) (by omega)
      rw [List.length_append, List.length_append]
      omega
  | .num i m p, d, h => by
    simp only [syOk] at h
    have hd := sb_pos d
    have := it_len10 (i := i) (k := 1) (by decide) (by omega)
    simp only [syT]
    omega
  | .txt x m p, d, h => by
    simp only [syOk] at h
    have hd := sb_pos d
    have ht := t1
    simp only [syT, List.length_append]
    omega
  | .dots m p, d, h => by
    have hd := sb_pos d
    have ht := t1
    simp only [syT]
    omega
  | .wild m p, d, h => by
    have hd := sb_pos d
    have ht := t1
    simp only [syT]
    omega
  | .flg b m p, d, h => by
    have hd := sb_pos d
    have := bt_len b
    simp only [syT]
    omega
  | .lst l m p, 0, h => by simp [syOk] at h
  | .lst l m p, d + 1, h => by
    simp only [syOk] at h
    have h1 := syTs_len hf l d h.2
    have h2 := jn_len (tx " ") (syTs f l)
    have ht := t1
    have h3 : (syTs f l).length = l.length := by rw [syTs_map, List.length_map]
    have h4 : l.length * SB d ≤ 3 * SB d := Nat.mul_le_mul_right _ h.1
    have h5 := h.1
    obtain ⟨e1, e2, e3, _⟩ := ht
    rw [e1, h3] at h2
    simp only [syT, SB, List.length_append]
    -- the blanks: one less than the parts
    have h6 : (jn (tx " ") (syTs f l)).length + 1 ≤ ((syTs f l).map List.length).sum + l.length + 1 := by omega
    have h7 : (jn (tx " ") (syTs f l)).length ≤ ((syTs f l).map List.length).sum + (l.length - 1) := by
      rw [← h3]
      exact jn_len1 (syTs f l)
    omega
theorem syTs_len {f : T → Bool → Option Int} (hf : fOk f) : ∀ (l : List Sy) (d : Nat), syOks d l → ((syTs f l).map List.length).sum ≤ l.length * SB d
  | [], d, _ => by simp [syTs]
  | s :: r, d, h => by
    simp only [syOks] at h
    have h1 := syT_len hf s d h.1
    have h2 := syTs_len hf r d h.2
    simp only [syTs, List.map_cons, List.sum_cons, List.length_cons, Nat.add_mul]
    omega
end
theorem inP_len {kind : Str} {ys : List T} {B : Nat} (hk : (tx kind).length ≤ 8) (hl : ys.length ≤ 5) (hB : (ys.map List.length).sum ≤ B) : (inP kind ys).length ≤ B + 20 := by
  have h1 := jn_len (tx " ") ys
  obtain ⟨e1, e2, e3, _⟩ := t1
  rw [e1] at h1
  unfold inP
  simp only [List.length_append]
  omega
theorem sb3 : SB 3 = 430 := by decide
theorem lfT_len (l : Lf) (h : lfOk l) : (lfT l).length ≤ 2600 := by
  cases l with
  | const p =>
    obtain ⟨h1, h2, h3⟩ := h
    have := plT_len p h1
    have e : (tx "(quote ").length = 7 := by decide +kernel
    obtain ⟨e1, e2, e3, _⟩ := t1
    simp only [lfT]
    split
    · simp only [List.length_append]
      omega
    · omega
  | syn s =>
    have h1 := syT_len f0_ok s 3 h
    rw [sb3] at h1
    have := inP_len (kind := "syntax") (ys := [syT f0 s]) (B := 430) (by decide +kernel) (by simp) (by simpa using h1)
    simp only [lfT]
    omega
  | top m l n wm wp =>
    obtain ⟨h1, h2, h3⟩ := h
    have a1 := it_len10 (i := l) (k := 3) (by decide) (by omega)
    have a2 := it_len10 (i := n) (k := 3) (by decide) (by omega)
    have e : (tx ":").length = 1 := by decide +kernel
    simp only [lfT, List.length_append]
    omega
  | prim x =>
    have : x.length ≤ 10 := h
    simp only [lfT]
    omega
  | rules l m p =>
    obtain ⟨h0, h1, h2⟩ := h
    have h3 : syOks 3 l.tail := syOks_of fun q hq => syOks_mem h2 (List.mem_of_mem_tail hq)
    have h4 := syTs_len f0_ok l.tail 3 h3
    rw [sb3, List.length_tail] at h4
    have h5 : (l.length - 1) * 430 ≤ 4 * 430 := Nat.mul_le_mul_right _ (by omega)
    have := inP_len (kind := "rules") (ys := syTs f0 l.tail) (B := 1720) (by decide +kernel) (by rw [syTs_map, List.length_map, List.length_tail]; omega) (by omega)
    simp only [lfT]
    omega
  | pat l m p =>
    obtain ⟨h1, h2⟩ := h
    have h4 := syTs_len f0_ok l 3 h2
    rw [sb3] at h4
    have h5 : l.length * 430 ≤ 5 * 430 := Nat.mul_le_mul_right _ (by omega)
    have := inP_len (kind := "pattern") (ys := syTs f0 l) (B := 2150) (by decide +kernel) (by rw [syTs_map, List.length_map]; omega) (by omega)
    simp only [lfT]
    omega
  | tmpl s k =>
    have h1 := syT_len (row_ok k) s 3 h.1
    rw [sb3] at h1
    have := inP_len (kind := "template") (ys := [syT (rowF k) s]) (B := 430) (by decide +kernel) (by simp) (by simpa using h1)
    simp only [lfT]
    omega
theorem vn_len {k : Nat} (h : k < 100000) : (vn k).length ≤ 7 := by
  have := it_len10 (i := (k : Int)) (k := 5) (by decide) (by omega)
  obtain ⟨_, _, _, _, _, _, _, _, _, e⟩ := t1
  unfold vn
  rw [List.length_append]
  omega
theorem vns_sum {k : Nat} {ns : List Int} (h : k + ns.length < 100000) : ((vns k ns).map List.length).sum ≤ ns.length * 7 := by
  have := sum_le (B := 7) (vns k ns) fun y hy => by
    unfold vns at hy
    obtain ⟨i, hi, rfl⟩ := List.mem_map.mp hy
    exact vn_len (by have := List.mem_range.mp hi; omega)
  rw [vns_len] at this
  exact this
mutual
theorem tmT_len : ∀ (t : Tm) (d : Nat) (o : List Int), tmOk d t → ws t o → o.length + (od t).length < 50000 → (tmT t o).length ≤ LB d
  | .lf l, d, o, h, _, _ => by
    have := lb_pos d
    have h' : lfOk l := by cases d <;> simpa [tmOk] using h
    have := lfT_len l h'
    simp only [tmT]
    omega
  | .loc n m p, d, o, h, hw, ho => by
    have := lb_pos d
    simp only [ws] at hw
    have h1 := List.idxOf_lt_length_of_mem hw
    have := vn_len (k := o.idxOf n) (by simp only [od, List.length_nil] at ho; omega)
    simp only [tmT]
    omega
  | .fn ns b, 0, _, h, _, _ => by simp [tmOk] at h
  | .fn ns b, d + 1, o, h, hw, ho => by
    simp only [tmOk] at h
    simp only [ws] at hw
    simp only [od, List.length_append] at ho
    have h1 := tmT_len b d (o ++ ns) h.2 hw (by rw [List.length_append]; omega)
    have h2 := vns_sum (k := o.length) (ns := ns) (by omega)
    have h3 := jn_len (tx " ") (vns o.length ns)
    have h4 := h.1
    have e4 : (tx "(fn (").length = 5 := by decide +kernel
    have e5 : (tx ") ").length = 2 := by decide +kernel
    obtain ⟨e1, e2, e3, _⟩ := t1
    rw [e1, vns_len] at h3
    simp only [tmT, LB, List.length_append]
    omega
  | .lrec ns ts b, 0, _, h, _, _ => by simp [tmOk] at h
  | .lrec ns ts b, d + 1, o, h, hw, ho => by
    simp only [tmOk] at h
    simp only [ws] at hw
    simp only [od, List.length_append] at ho
    have h0 := prTs_sum ts d o.length (o ++ ns) h.2.2.1 hw.1 (by rw [List.length_append]; omega) (by omega)
    have h1 := tmT_len b d (o ++ (ns ++ ods ts)) h.2.2.2 (ws_up (fun n hn => by
      rw [← List.append_assoc]
      exact List.mem_append_left _ hn) b hw.2) (by rw [List.length_append, List.length_append]; omega)
    have h3 := jn_len (tx " ") (prTs o.length ts (o ++ ns))
    have h4 : ts.length * (LB d + 20) ≤ 3 * (LB d + 20) := Nat.mul_le_mul_right _ (by omega)
    have h5 := h.1
    have h6 := h.2.1
    have e4 : (tx "(letrec (").length = 9 := by decide +kernel
    have e5 : (tx ") ").length = 2 := by decide +kernel
    obtain ⟨e1, e2, e3, _⟩ := t1
    rw [e1, prTs_len] at h3
    simp only [tmT, LB, List.length_append]
    omega
  | .sq _ l, 0, _, h, _, _ => by simp [tmOk] at h
  | .sq k l, d + 1, o, h, hw, ho => by
    simp only [tmOk] at h
    simp only [ws] at hw
    simp only [od] at ho
    have h1 := tmTs_sum l d o h.2.2.2 hw ho
    have h2 := jn_len (tx " ") (tx k :: tmTs l o)
    have h4 : l.length * LB d ≤ 3 * LB d := Nat.mul_le_mul_right _ h.2.2.1
    have h5 : (tx k).length ≤ 8 := by rcases h.1 with z | z <;> subst z <;> decide +kernel
    have h6 := h.2.2.1
    obtain ⟨e1, e2, e3, _⟩ := t1
    rw [e1, List.length_cons, tmTs_len, List.map_cons, List.sum_cons] at h2
    simp only [tmT, LB, List.length_append]
    omega
  | .doo l, 0, _, h, _, _ => by simp [tmOk] at h
  | .doo l, d + 1, o, h, hw, ho => by
    simp only [tmOk] at h
    simp only [ws] at hw
    simp only [od] at ho
    have h1 := tmTs_sum l d o h.2.2 hw ho
    have h2 := jn_len (tx " ") (tx "do" :: tmTs l o)
    have h4 : l.length * LB d ≤ 3 * LB d := Nat.mul_le_mul_right _ h.2.1
    have h5 : (tx "do").length = 2 := by decide +kernel
    have h6 := h.2.1
    obtain ⟨e1, e2, e3, _⟩ := t1
    rw [e1, List.length_cons, tmTs_len, List.map_cons, List.sum_cons] at h2
    simp only [tmT, LB, List.length_append]
    omega
  | .call f l _ _, 0, _, h, _, _ => by simp [tmOk] at h
  | .call f l _ _, d + 1, o, h, hw, ho => by
    simp only [tmOk] at h
    simp only [ws] at hw
    simp only [od, List.length_append] at ho
    have h0 := tmT_len f d o h.2.1 hw.1 (by omega)
    have h1 := tmTs_sum l d (o ++ od f) h.2.2 (wss_up (fun n hn => List.mem_append_left _ hn) l hw.2) (by rw [List.length_append]; omega)
    have h2 := jn_len (tx " ") (tmT f o :: tmTs l (o ++ od f))
    have h4 : l.length * LB d ≤ 3 * LB d := Nat.mul_le_mul_right _ h.1
    have h6 := h.1
    obtain ⟨e1, e2, e3, _⟩ := t1
    rw [e1, List.length_cons, tmTs_len, List.map_cons, List.sum_cons] at h2
    simp only [tmT, LB, List.length_append]
    omega
theorem tmTs_sum : ∀ (l : List Tm) (d : Nat) (o : List Int), tmOks d l → wss l o → o.length + (ods l).length < 50000 → ((tmTs l o).map List.length).sum ≤ l.length * LB d
  | [], d, o, _, _, _ => by simp [tmTs]
  | t :: r, d, o, h, hw, ho => by
    simp only [tmOks] at h
    simp only [wss] at hw
    simp only [ods, List.length_append] at ho
    have h1 := tmT_len t d o h.1 hw.1 (by omega)
    have h2 := tmTs_sum r d (o ++ od t) h.2 (wss_up (fun n hn => List.mem_append_left _ hn) r hw.2) (by rw [List.length_append]; omega)
    simp only [tmTs, List.map_cons, List.sum_cons, List.length_cons, Nat.add_mul]
    omega
theorem prTs_sum : ∀ (l : List Tm) (d k : Nat) (o : List Int), tmOks d l → wss l o → o.length + (ods l).length < 50000 → k + l.length < 100000 → ((prTs k l o).map List.length).sum ≤ l.length * (LB d + 20)
  | [], d, k, o, _, _, _, _ => by simp [prTs]
  | t :: r, d, k, o, h, hw, ho, hk => by
    simp only [tmOks] at h
    simp only [wss] at hw
    simp only [ods, List.length_append] at ho
    rw [List.length_cons] at hk
    have h1 := tmT_len t d o h.1 hw.1 (by omega)
    have h2 := prTs_sum r d (k + 1) (o ++ od t) h.2 (wss_up (fun n hn => List.mem_append_left _ hn) r hw.2) (by rw [List.length_append]; omega) (by omega)
    have h3 := vn_len (k := k) (by omega)
    obtain ⟨e1, e2, e3, _⟩ := t1
    simp only [prTs, List.map_cons, List.sum_cons, List.length_cons, Nat.add_mul, List.length_append]
    omega
end
end W8
set_option Elab.async false
set_option linter.all false
set_option maxRecDepth 100000
set_option maxHeartbeats 400000
namespace W8
theorem dvE {p z : Int} (h : p ∣ z) : ∃ a, z = p * a := h
theorem dvI {p z a : Int} (h : z = p * a) : p ∣ z := ⟨a, h⟩
/-! names that are given: x goes to 7 x + 3 -/
def stp (x : Int) : Int := (x * 7 + 3) % 1000003
def stn : Nat → Int → Int
  | 0, x => x
  | n + 1, x => stn n (stp x)
def orb : Nat → Int → List Int
  | 0, _ => []
  | n + 1, x => stp x :: orb n (stp x)
structure Good (x : Int) : Prop where
  lo : 0 ≤ x
  hi : x < 1000003
  nd : ¬ (1000003 : Int) ∣ 2 * x + 1
theorem cop {q z : Int} (hq : Nat.gcd 1000003 q.natAbs = 1) (h : (1000003 : Int) ∣ q * z) : (1000003 : Int) ∣ z := by
  have h1 : (1000003 : Nat) ∣ q.natAbs * z.natAbs := by
    rw [← Int.natAbs_mul]
    exact Int.natAbs_dvd_natAbs.mpr h
  have h2 : (1000003 : Nat) ∣ z.natAbs := Nat.Coprime.dvd_of_dvd_mul_left hq h1
  exact Int.natAbs_dvd_natAbs.mp h2
theorem cop7 {z : Int} (h : (1000003 : Int) ∣ 7 * z) : (1000003 : Int) ∣ z := cop (q := 7) (by decide) h
theorem stp_cong (x : Int) : (1000003 : Int) ∣ (2 * stp x + 1) - 7 * (2 * x + 1) := by
  unfold stp
  have h := Int.emod_add_mul_ediv (x * 7 + 3) 1000003
  refine dvI (a := -2 * ((x * 7 + 3) / 1000003)) ?_
  generalize (x * 7 + 3) % 1000003 = r at h ⊢
  generalize (x * 7 + 3) / 1000003 = q at h ⊢
  rw [Int.mul_left_comm]
  generalize 1000003 * q = u at h ⊢
  omega
theorem stp_rng (x : Int) : 0 ≤ stp x ∧ stp x < 1000003 := by
  unfold stp
  omega
theorem dv7 {p u v : Int} (h : p ∣ u) (h2 : p ∣ u - v) : p ∣ v := by
  obtain ⟨a, rfl⟩ := dvE h
  obtain ⟨b, hb⟩ := dvE h2
  refine dvI (a := a - b) ?_
  rw [Int.mul_sub, ← hb]
  omega
theorem Good.step {x : Int} (g : Good x) : Good (stp x) :=
  ⟨(stp_rng x).1, (stp_rng x).2, fun h => g.nd (cop7 (dv7 h (stp_cong x)))⟩
theorem stn_add : ∀ (a b : Nat) (x : Int), stn (a + b) x = stn b (stn a x)
  | 0, b, x => by rw [Nat.zero_add]; rfl
  | a + 1, b, x => by
    rw [Nat.add_right_comm]
    exact stn_add a b (stp x)
theorem orb_add : ∀ (a b : Nat) (x : Int), orb (a + b) x = orb a x ++ orb b (stn a x)
  | 0, b, x => by rw [Nat.zero_add]; rfl
  | a + 1, b, x => by
    rw [Nat.add_right_comm]
    show stp x :: orb (a + b) (stp x) = stp x :: (orb a (stp x) ++ orb b (stn a (stp x)))
    rw [orb_add a b (stp x)]
theorem orb_len : ∀ (a : Nat) (x : Int), (orb a x).length = a
  | 0, _ => rfl
  | a + 1, x => by
    show (orb a (stp x)).length + 1 = a + 1
    rw [orb_len a]
theorem Good.steps : ∀ (n : Nat) {x : Int}, Good x → Good (stn n x)
  | 0, _, g => g
  | n + 1, _, g => Good.steps n g.step
/-- powers of 7 -/
def q7 : Nat → Nat
  | 0 => 1
  | n + 1 => 7 * q7 n
theorem q7_s (n : Nat) : q7 (n + 1) = 7 * q7 n := rfl
theorem stn_s (n : Nat) (x : Int) : stn (n + 1) x = stn n (stp x) := rfl
theorem stn_cong : ∀ (n : Nat) (x : Int), (1000003 : Int) ∣ (2 * stn n x + 1) - (q7 n : Nat) * (2 * x + 1)
  | 0, x => dvI (a := 0) (by
    rw [show stn 0 x = x from rfl, show q7 0 = 1 from rfl]
    omega)
  | n + 1, x => by
    obtain ⟨a, ha⟩ := dvE (stn_cong n (stp x))
    obtain ⟨b, hb⟩ := dvE (stp_cong x)
    refine dvI (a := a + (q7 n : Nat) * b) ?_
    rw [stn_s, q7_s, Int.natCast_mul, Int.mul_add 1000003, ← ha, Int.mul_left_comm 1000003, ← hb, Int.mul_sub]
    have e4 : ((7 : Nat) : Int) * ((q7 n : Nat) : Int) * (2 * x + 1) = ((q7 n : Nat) : Int) * (7 * (2 * x + 1)) := by
      rw [Int.mul_comm ((7 : Nat) : Int) _, Int.mul_assoc]
      rfl
    rw [e4]
    generalize ((q7 n : Nat) : Int) * (7 * (2 * x + 1)) = r1
    generalize ((q7 n : Nat) : Int) * (2 * stp x + 1) = r2
    omega
/-- no power of 7 comes back early -/
def chk : Nat → Nat → Bool
  | 0, _ => true
  | n + 1, a => (Nat.gcd (a + 1000002) 1000003).beq 1 && chk n (7 * a % 1000003)
theorem chk_all : chk 4200 7 = true := by decide +kernel
theorem chk_cons {n a : Nat} (h : chk (n + 1) a = true) : Nat.gcd (a + 1000002) 1000003 = 1 ∧ chk n (7 * a % 1000003) = true := by
  rw [chk, Bool.and_eq_true] at h
  exact ⟨Nat.eq_of_beq_eq_true h.1, h.2⟩
theorem mod_add {a b c m : Nat} (e : a % m = b % m) : (a + c) % m = (b + c) % m := by rw [Nat.add_mod, e, ← Nat.add_mod]
theorem mod_mul {a b c m : Nat} (e : a % m = b % m) : (c * a) % m = (c * b) % m := by rw [Nat.mul_mod, e, ← Nat.mul_mod]
theorem gcd_mod {a b m : Nat} (e : a % m = b % m) : Nat.gcd a m = Nat.gcd b m := by
  rw [Nat.gcd_comm a m, Nat.gcd_comm b m, Nat.gcd_rec m a, Nat.gcd_rec m b, e]
theorem chk_get : ∀ (n k a d : Nat), chk n a = true → a % 1000003 = q7 k % 1000003 → d < n → Nat.gcd (q7 (k + d) + 1000002) 1000003 = 1
  | 0, _, _, _, _, _, h => by omega
  | n + 1, k, a, 0, h, e, _ => by
    have := gcd_mod (mod_add (c := 1000002) e)
    rw [(chk_cons h).1] at this
    exact this.symm
  | n + 1, k, a, d + 1, h, e, hd => by
    have := chk_get n (k + 1) (7 * a % 1000003) d (chk_cons h).2 (by
      rw [Nat.mod_mod]
      exact mod_mul e) (by omega)
    rw [show k + (d + 1) = k + 1 + d by omega]
    exact this
theorem stn_ne {x : Int} (g : Good x) {d : Nat} (h0 : 0 < d) (h1 : d < 4200) : stn d x ≠ x := by
  intro e
  have h := stn_cong d x
  rw [e] at h
  have hg := chk_get 4200 1 7 (d - 1) chk_all (by decide) (by omega)
  rw [show 1 + (d - 1) = d by omega] at hg
  refine g.nd (cop (q := ((q7 d + 1000002 : Nat) : Int)) (by rw [Int.natAbs_natCast, Nat.gcd_comm]; exact hg) ?_)
  obtain ⟨a, ha⟩ := dvE h
  refine dvI (a := (2 * x + 1) - a) ?_
  rw [Int.mul_sub, ← ha, Int.natCast_add, Int.add_mul]
  generalize ((q7 d : Nat) : Int) * (2 * x + 1) = r
  have e1 : ((1000002 : Nat) : Int) * (2 * x + 1) = 1000003 * (2 * x + 1) - (2 * x + 1) := by
    have : ((1000002 : Nat) : Int) = 1000003 - 1 := rfl
    rw [this, Int.sub_mul, Int.one_mul]
  rw [e1]
  generalize 1000003 * (2 * x + 1) = u
  omega
theorem orb_mem : ∀ {n : Nat} {x y : Int}, y ∈ orb n x → ∃ d, 0 < d ∧ d ≤ n ∧ y = stn d x
  | n + 1, x, y, h => by
    rcases List.mem_cons.mp h with e | h
    · exact ⟨1, by omega, by omega, e⟩
    · obtain ⟨d, h1, h2, h3⟩ := orb_mem h
      exact ⟨d + 1, by omega, by omega, h3⟩
theorem orb_nodup : ∀ {n : Nat} {x : Int}, Good x → n < 4200 → (orb n x).Nodup
  | 0, _, _, _ => List.nodup_nil
  | n + 1, x, g, h => by
    show (stp x :: orb n (stp x)).Nodup
    refine List.nodup_cons.mpr ⟨fun hm => ?_, orb_nodup g.step (by omega)⟩
    obtain ⟨d, h1, h2, h3⟩ := orb_mem hm
    exact stn_ne g.step h1 (by omega) h3.symm
theorem no_dvd {p z : Int} (h0 : 0 < z) (h1 : z < p) (h : p ∣ z) : False := by
  have := Int.le_of_dvd h0 h
  clear h
  omega
theorem good0 {n : Nat} (h : n ≤ 1000) : Good (1 + (n : Int)) := ⟨by omega, by omega, fun h => no_dvd (by clear h; omega) (by clear h; omega) h⟩
end W8
set_option Elab.async false
set_option linter.all false
set_option maxRecDepth 100000
set_option maxHeartbeats 4000000
namespace W8
open PySem PySem.Spec PyProof.Rows L2 Com
theorem units9 {k : Nat} {A : Around} (r : Room k A) : A.units + 9 < cLine := by have := r.units; omega
theorem units1 {k : Nat} {A : Around} (r : Room k A) : A.units + 1 < cLine := by have := r.units; omega
theorem opCatA {X : Cx} (K : PySem.W.Frag) (h : X.K = K) : OpR X (binaryOp .Add) (rCatA K) := h ▸ op_catA
def topS (i : Nat) : Stmt := PySem.Challenge.pw_wherewritten_k18_shown_terms.main.body.getD i (.Pass ⟨0, 0, 0, 0⟩)
abbrev st_show_atom : Stmt := topS 1
theorem scshow_atom : FnScope ["kind", "value"] ["kind", "value"] (defScope st_show_atom) := ⟨rfl, rfl, rfl, by decide +kernel, rfl, by decide +kernel, by decide +kernel⟩
abbrev st_put_in_front : Stmt := topS 5
theorem scput_in_front : FnScope ["value", "row"] ["value", "row"] (defScope st_put_in_front) := ⟨rfl, rfl, rfl, by decide +kernel, rfl, by decide +kernel, by decide +kernel⟩
abbrev st_list_of : Stmt := topS 6
theorem sclist_of : FnScope ["parts", "row", "part"] ["parts"] (defScope st_list_of) := ⟨rfl, rfl, rfl, by decide +kernel, rfl, by decide +kernel, by decide +kernel⟩
abbrev st_parts_of : Stmt := topS 7
theorem scparts_of : FnScope ["row", "parts"] ["row"] (defScope st_parts_of) := ⟨rfl, rfl, rfl, by decide +kernel, rfl, by decide +kernel, by decide +kernel⟩
abbrev st_value_of : Stmt := topS 8
theorem scvalue_of : FnScope ["plain", "parts", "part"] ["plain"] (defScope st_value_of) := ⟨rfl, rfl, rfl, by decide +kernel, rfl, by decide +kernel, by decide +kernel⟩
abbrev st_shown : Stmt := topS 9
theorem scshown : FnScope ["value", "parts", "part"] ["value"] (defScope st_shown) := ⟨rfl, rfl, rfl, by decide +kernel, rfl, by decide +kernel, by decide +kernel⟩
abbrev st_show_plain : Stmt := topS 11
theorem scshow_plain : FnScope ["value"] ["value"] (defScope st_show_plain) := ⟨rfl, rfl, rfl, by decide +kernel, rfl, by decide +kernel, by decide +kernel⟩
abbrev st__show_syntax : Stmt := topS 12
theorem sc_show_syntax : FnScope ["syntax", "numbers", "key", "module", "place"] ["syntax", "numbers"] (defScope st__show_syntax) := ⟨rfl, rfl, rfl, by decide +kernel, rfl, by decide +kernel, by decide +kernel⟩
abbrev st__show_parts : Stmt := topS 13
theorem sc_show_parts : FnScope ["parts", "numbers", "shown_parts", "part"] ["parts", "numbers"] (defScope st__show_parts) := ⟨rfl, rfl, rfl, by decide +kernel, rfl, by decide +kernel, by decide +kernel⟩
abbrev st__show_const : Stmt := topS 14
theorem sc_show_const : FnScope ["plain", "text"] ["plain"] (defScope st__show_const) := ⟨rfl, rfl, rfl, by decide +kernel, rfl, by decide +kernel, by decide +kernel⟩
abbrev st__show_syntax_in : Stmt := topS 15
theorem sc_show_syntax_in : FnScope ["term", "kind", "numbers", "name", "scopes", "number", "_", "parts"] ["term"] (defScope st__show_syntax_in) := ⟨rfl, rfl, rfl, by decide +kernel, rfl, by decide +kernel, by decide +kernel⟩
abbrev st_Names___init__ : Stmt := inClass (topS 16) 0
theorem scNames___init__ : FnScope ["self", "tops", "key"] ["self", "tops"] (defScope st_Names___init__) := ⟨rfl, rfl, rfl, by decide +kernel, rfl, by decide +kernel, by decide +kernel⟩
abbrev st_Names_give : Stmt := inClass (topS 16) 1
theorem scNames_give : FnScope ["self", "variables", "variable"] ["self", "variables"] (defScope st_Names_give) := ⟨rfl, rfl, rfl, by decide +kernel, rfl, by decide +kernel, by decide +kernel⟩
abbrev st_Names_name_of_top : Stmt := inClass (topS 16) 2
theorem scNames_name_of_top : FnScope ["self", "term", "_", "module", "level", "number"] ["self", "term"] (defScope st_Names_name_of_top) := ⟨rfl, rfl, rfl, by decide +kernel, rfl, by decide +kernel, by decide +kernel⟩
abbrev st__show_leaf : Stmt := topS 17
theorem sc_show_leaf : FnScope ["term", "names", "kind"] ["term", "names"] (defScope st__show_leaf) := ⟨rfl, rfl, rfl, by decide +kernel, rfl, by decide +kernel, by decide +kernel⟩
abbrev st__show_rec : Stmt := topS 18
theorem sc_show_rec : FnScope ["term", "names", "pieces", "at", "variable", "part", "_"] ["term", "names"] (defScope st__show_rec) := ⟨rfl, rfl, rfl, by decide +kernel, rfl, by decide +kernel, by decide +kernel⟩
abbrev st__spaced : Stmt := topS 19
theorem sc_spaced : FnScope ["begin", "terms", "pieces", "at", "term"] ["begin", "terms"] (defScope st__spaced) := ⟨rfl, rfl, rfl, by decide +kernel, rfl, by decide +kernel, by decide +kernel⟩
abbrev st__pieces_of : Stmt := topS 20
theorem sc_pieces_of : FnScope ["term", "names", "kind"] ["term", "names"] (defScope st__pieces_of) := ⟨rfl, rfl, rfl, by decide +kernel, rfl, by decide +kernel, by decide +kernel⟩
abbrev st_show_named : Stmt := topS 21
theorem scshow_named : FnScope ["term", "tops", "names", "texts", "left", "piece"] ["term", "tops"] (defScope st_show_named) := ⟨rfl, rfl, rfl, by decide +kernel, rfl, by decide +kernel, by decide +kernel⟩
abbrev st_show_term : Stmt := topS 22
theorem scshow_term : FnScope ["term"] ["term"] (defScope st_show_term) := ⟨rfl, rfl, rfl, by decide +kernel, rfl, by decide +kernel, by decide +kernel⟩
abbrev st__law_draws : Stmt := topS 24
theorem sc_law_draws : FnScope ["script", "count", "cells", "found", "mixed", "k", "j", "cell", "again"] ["script", "count"] (defScope st__law_draws) := ⟨rfl, rfl, rfl, by decide +kernel, rfl, by decide +kernel, by decide +kernel⟩
abbrev st__law_next : Stmt := topS 25
theorem sc_law_next : FnScope ["draws", "limit"] ["draws", "limit"] (defScope st__law_next) := ⟨rfl, rfl, rfl, by decide +kernel, rfl, by decide +kernel, by decide +kernel⟩
abbrev st__law_new : Stmt := topS 26
theorem sc_law_new : FnScope ["draws"] ["draws"] (defScope st__law_new) := ⟨rfl, rfl, rfl, by decide +kernel, rfl, by decide +kernel, by decide +kernel⟩
abbrev st__law_shown_rows : Stmt := topS 27
theorem sc_law_shown_rows : FnScope ["syntax", "rows", "row", "part"] ["syntax", "rows"] (defScope st__law_shown_rows) := ⟨rfl, rfl, rfl, by decide +kernel, rfl, by decide +kernel, by decide +kernel⟩
abbrev st__law_calm : Stmt := topS 28
theorem sc_law_calm : FnScope ["draws", "depth", "where", "k"] ["draws", "depth"] (defScope st__law_calm) := ⟨rfl, rfl, rfl, by decide +kernel, rfl, by decide +kernel, by decide +kernel⟩
abbrev st__law_formed : Stmt := topS 29
theorem sc_law_formed : FnScope ["draws", "where", "one", "other", "dots", "literals", "pattern", "kind", "clauses", "head", "rows", "k", "clause"] ["draws", "where"] (defScope st__law_formed) := ⟨rfl, rfl, rfl, by decide +kernel, rfl, by decide +kernel, by decide +kernel⟩
abbrev st__law_plain : Stmt := topS 30
theorem sc_law_plain : FnScope ["draws", "depth", "kind", "k"] ["draws", "depth"] (defScope st__law_plain) := ⟨rfl, rfl, rfl, by decide +kernel, rfl, by decide +kernel, by decide +kernel⟩
abbrev st__law_plain_text : Stmt := topS 31
theorem sc_law_plain_text : FnScope ["value", "part"] ["value"] (defScope st__law_plain_text) := ⟨rfl, rfl, rfl, by decide +kernel, rfl, by decide +kernel, by decide +kernel⟩
abbrev st__law_syntax : Stmt := topS 32
theorem sc_law_syntax : FnScope ["draws", "depth", "kind", "where", "k"] ["draws", "depth"] (defScope st__law_syntax) := ⟨rfl, rfl, rfl, by decide +kernel, rfl, by decide +kernel, by decide +kernel⟩
abbrev st__law_syntax_text : Stmt := topS 33
theorem sc_law_syntax_text : FnScope ["syntax", "part"] ["syntax"] (defScope st__law_syntax_text) := ⟨rfl, rfl, rfl, by decide +kernel, rfl, by decide +kernel, by decide +kernel⟩
abbrev st__law_term : Stmt := topS 34
theorem sc_law_term : FnScope ["draws", "scope", "depth", "kind", "where", "leaves", "names", "pairs", "place", "k", "n"] ["draws", "scope", "depth"] (defScope st__law_term) := ⟨rfl, rfl, rfl, by decide +kernel, rfl, by decide +kernel, by decide +kernel⟩
abbrev st__law_text : Stmt := topS 35
theorem sc_law_text : FnScope ["term", "order", "kind", "text", "words", "n", "part", "pairs", "parts", "k"] ["term", "order"] (defScope st__law_text) := ⟨rfl, rfl, rfl, by decide +kernel, rfl, by decide +kernel, by decide +kernel⟩
abbrev st_law : Stmt := topS 36
theorem sclaw : FnScope ["script", "draws", "turn", "term", "told", "value", "k"] ["script"] (defScope st_law) := ⟨rfl, rfl, rfl, by decide +kernel, rfl, by decide +kernel, by decide +kernel⟩
end W8
set_option Elab.async false
set_option linter.all false
set_option maxRecDepth 100000
set_option maxHeartbeats 4000000
namespace W8
open PySem PySem.Spec PyProof.Rows L2 Com Kb Tx SX
/-- the names of built-ins, which the module does not bind -/
structure Mg (mg : Str → Option Value) : Prop where
  len : mg "len" = none
  int : mg "int" = none
  str : mg "str" = none
  tuple : mg "tuple" = none
  list : mg "list" = none
  range : mg "range" = none
  isinstance : mg "isinstance" = none
  max : mg "max" = none
  enumerate : mg "enumerate" = none
theorem sNe {a b : Str} {A B : Prop} (h : ¬ a = b) (hB : B) : if decide (V.str a = V.str b) = true then A else B := by
  rw [decide_eq_false (fun z => h (V.str.inj z)), if_neg (by decide)]
  exact hB
theorem sEq {a b : Str} {A B : Prop} (h : a = b) (hA : A) : if decide (V.str a = V.str b) = true then A else B := by
  rw [decide_eq_true (by rw [h]), if_pos rfl]
  exact hA
theorem nNe {a b : Str} {A B : Prop} (h : a = b) (hB : B) : if (!decide (V.str a = V.str b)) = true then A else B := by
  rw [decide_eq_true (by rw [h]), if_neg (by decide)]
  exact hB
theorem nEq {a b : Str} {A B : Prop} (h : ¬ a = b) (hA : A) : if (!decide (V.str a = V.str b)) = true then A else B := by
  rw [decide_eq_false (fun z => h (V.str.inj z))]
  show if true = true then A else B
  rw [if_pos rfl]
  exact hA
theorem iNe {a b : Int} {A B : Prop} (h : ¬ a = b) (hB : B) : if decide (V.int a = V.int b) = true then A else B := by
  rw [decide_eq_false (fun z => h (V.int.inj z)), if_neg (by decide)]
  exact hB
theorem iEq {a b : Int} {A B : Prop} (h : a = b) (hA : A) : if decide (V.int a = V.int b) = true then A else B := by
  rw [decide_eq_true (by rw [h]), if_pos rfl]
  exact hA
theorem dT {p : Prop} [Decidable p] {A B : Prop} (h : p) (hA : A) : if decide p = true then A else B := by
  rw [decide_eq_true h, if_pos rfl]
  exact hA
theorem dF {p : Prop} [Decidable p] {A B : Prop} (h : ¬ p) (hB : B) : if decide p = true then A else B := by
  rw [decide_eq_false h, if_neg (by decide)]
  exact hB
section
variable {P : Program} {w : World} {K : PySem.W.Frag} {mg : Str → Option Value} {base : Heap}
def spDraws (K : PySem.W.Frag) : Sp := fun vs H Q _ => ∃ (a : Addr) (ns : List Int) (N : Nat), vs = [.ref a, .int (N : Nat)] ∧ SqL K H a (ns.map V.int) ∧ ns.length ≤ 1000 ∧ N ≤ 2000 ∧ ∀ p H' (xs : List Int), xs.length = N → Same H H' → H p = none → H' p = some (.lst (xs.map V.int)) → Q (.ref p) H'
theorem ok_law_draws {f : Addr} {fd : FuncData} (F : Dfn K mg "_law_draws" st__law_draws f fd ["script", "count"]) (M : Mg mg) : Cal P w K mg base 1 "_law_draws" (spDraws K) := by
  refine cal_mk F sc_law_draws (fun vs H Q E h => ?_) (fun cdv A outer s H vs Q E hr h => ?_)
  · obtain ⟨a, ns, N, rfl, _⟩ := h
    rfl
  obtain ⟨a, ns, N, rfl, hS, hlen, hN, q⟩ := h
  refine ⟨_, (pss_cons (ps_set (i := 2) sc_law_draws.nd rfl (.inl rfl) (pe_callTy (cList K rfl) (by rfl) M.list b_list (pa_cons (pv 0) pa_nil)))
      (pss_cons (ps_if (pt_cmpR op_eq (pe_callB (cLen K rfl) (by rfl) M.len b_len (pa_cons (pv 2) pa_nil)) pe_int (nomark _)) (pss_one (ps_set (i := 2) sc_law_draws.nd rfl (.inl rfl) (pe_lst (pa_cons pe_int pa_nil)))) pss_nil)
      (pss_cons (ps_set (i := 3) sc_law_draws.nd rfl (.inl rfl) (pe_lst pa_nil))
      (pss_cons (ps_set (i := 4) sc_law_draws.nd rfl (.inl rfl) pe_int)
      (pss_cons (ps_for PassesOwn.never rfl (pi_range1 (by rfl) M.range (pa_cons (pv 1) pa_nil)) (pg_name (i := 5) sc_law_draws.nd rfl (.inl rfl))
      (pss_cons (ps_set (i := 6) sc_law_draws.nd rfl (.inl rfl) (pe_op op_mod (pv 5) (pe_callB (cLen K rfl) (by rfl) M.len b_len (pa_cons (pv 2) pa_nil))))
      (pss_cons (ps_set (i := 7) sc_law_draws.nd rfl (.inl rfl) (pe_ix (ixL K rfl) (pv 2) (pv 6) (fun _ _ => rfl)))
      (pss_cons (ps_set (i := 4) sc_law_draws.nd rfl (.inl rfl) (pe_op op_mod (pe_callTy call_int1 (by rfl) M.int b_int (pa_cons (pe_op op_add (pe_op op_add (pe_op op_add (pe_op op_mul (pv 4) pe_int) (pe_op op_mul (pe_op op_mod (pe_callTy call_int1 (by rfl) M.int b_int (pa_cons (pv 7) pa_nil)) pe_int) pe_int)) (pe_op op_mul (pv 5) pe_int)) pe_int) pa_nil)) pe_int))
      (pss_cons (ps_set (i := 8) sc_law_draws.nd rfl (.inl rfl) (pe_op op_mod (pe_callTy call_int1 (by rfl) M.int b_int (pa_cons (pe_op op_add (pe_op op_add (pe_op op_mul (pv 4) (pv 4)) (pe_op op_mul pe_int (pv 4))) (pv 5)) pa_nil)) pe_int))
      (pss_one (ps_if (pt_cmpR op_ge (pv 7) (pe_op op_pow pe_int pe_int) (nomark _)) (pss_cons (ps_expr (pe_bm PySem.F.plainAttrs_list PySem.F.slot_list_append PySem.F.type_list_append mt_append (pv 3) (pa_cons (pe_op op_mod (pe_callTy call_int1 (by rfl) M.int b_int (pa_cons (pv 7) pa_nil)) pe_int) pa_nil)))
      (pss_one (ps_asg (pe_op op_fdiv (pv 7) pe_int) (pg_sub (pv 2) (pv 6) set_list)))) (pss_one (ps_expr (pe_bm PySem.F.plainAttrs_list PySem.F.slot_list_append PySem.F.type_list_append mt_append (pv 3) (pa_cons (pe_op op_mod (pe_callTy call_int1 (by rfl) M.int b_int (pa_cons (pv 8) pa_nil)) pe_int) pa_nil)))))))))))
      (pss_cons (ps_expr (pe_bm0 PySem.F.plainAttrs_list PySem.F.slot_list_reverse PySem.F.type_list_reverse mt_reverse (pv 3)))
      (pss_one (ps_ret (pv 3))))))))), ?_⟩
  -- cells = list(script)
  refine ⟨_, rfl, a, _, rfl, .inl hS, fun l nl => ?_⟩
  dsimp only [gName]
  refine seq_split (t1 := tIfS _ _ _) (fun σ' H' => ∃ (c : Addr) (cs : List Int), σ' = [some (.ref a), some (.int (N : Nat)), some (.ref c), none, none, none, none, none, none] ∧ Same H H' ∧ H c = none ∧ H' c = some (.lst (cs.map V.int)) ∧ 0 < cs.length ∧ cs.length ≤ 1000) ?_ (fun rest => ?_)
  · rintro σ' H1 ⟨c, cs, rfl, k1, nc, hc, hc0, hcl⟩
    -- found = []
    refine ⟨by decide, fun B nB => ?_⟩
    have hBn : H B = none := by
      cases e : H B with
      | none => rfl
      | some o => rw [k1 _ _ e] at nB; cases nB
    have hcB : c ≠ B := ne_of_none hc nB
    have k2 := k1.trans (same_upd (o := .lst []) nB)
    have hc2 : upd H1 B (.lst []) c = some (.lst (cs.map V.int)) := by rw [upd_ne hcB]; exact hc
    have hB2 : upd H1 B (.lst []) B = some (.lst (([] : List Int).map V.int)) := upd_same
    generalize upd H1 B (.lst []) = H2 at k2 hc2 hB2 ⊢
    -- for k in range(count)
    refine ⟨_, rfl, _, rfl, by omega, by omega, for_range (lo := 0) (n := N) (fun i σ H' => ∃ (mx : Int) (cs : List Int) (fs : List Int) (y5 y6 y7 y8 : Option V), σ = [some (.ref a), some (.int (N : Nat)), some (.ref c), some (.ref B), some (.int mx), y5, y6, y7, y8] ∧ 0 ≤ mx ∧ mx < 2147483647 ∧ Same H H' ∧ H' c = some (.lst (cs.map V.int)) ∧ 0 < cs.length ∧ cs.length ≤ 1000 ∧ H' B = some (.lst (fs.map V.int)) ∧ fs.length = i)
      ⟨12345, cs, [], none, none, none, none, rfl, by decide, by decide, k2, hc2, hc0, hcl, hB2, rfl⟩ ?_ ?_⟩
    · rintro i σ H3 hi ⟨mx, cs, fs, y5, y6, y7, y8, rfl, hm0, hm1, k3, hc3, hc0, hcl, hB3, hfl⟩
      -- j = k % len(cells)
      refine ⟨_, rfl, _, rfl, c, _, rfl, .inl (SqL.of hc3), _, _, rfl, rfl, by rw [List.length_map]; omega, ?_⟩
      rw [List.length_map]
      dsimp only [gName]
      have j0 : 0 ≤ ((0 : Int) + (i : Int)) % (cs.length : Int) := Int.emod_nonneg _ (by omega)
      have j1 : ((0 : Int) + (i : Int)) % (cs.length : Int) < (cs.length : Int) := Int.emod_lt_of_pos _ (by omega)
      generalize ((0 : Int) + (i : Int)) % (cs.length : Int) = j at j0 j1 ⊢
      obtain ⟨jn, rfl⟩ : ∃ jn : Nat, j = (jn : Int) := ⟨j.toNat, by omega⟩
      have jl : jn < cs.length := by omega
      -- cell = cells[j]
      refine ⟨_, rfl, _, rfl, c, _, _, _, rfl, rfl, SqL.of hc3, atN (iV_get jl), ?_⟩
      generalize cs[jn] = cl
      -- mixed = ..
      refine ⟨_, rfl, _, _, rfl, rfl, .inr (by constructor <;> decide), _, rfl, .inl ⟨_, rfl, _, _, rfl, rfl, (by show (0 : Int) < 1000003; decide), _, _, rfl, rfl, .inr (by constructor <;> decide), _, _, rfl, rfl, _, rfl, _, _, rfl, rfl, .inr (by constructor <;> decide), _, _, rfl, rfl, _, _, rfl, rfl, .inl ⟨_, rfl, _, _, rfl, rfl, (by show (0 : Int) < 2147483647; decide), ?_⟩⟩⟩
      dsimp only [gName]
      have m0 : ∀ z : Int, 0 ≤ z % 2147483647 := fun z => Int.emod_nonneg _ (by decide)
      have m1 : ∀ z : Int, z % 2147483647 < 2147483647 := fun z => Int.emod_lt_of_pos _ (by decide)
      generalize hz : (mx * 48271 + cl % 1000003 * 69621 + (0 + (i : Int)) * 7919 + 11) = z
      have hm0' := m0 z
      have hm1' := m1 z
      generalize z % 2147483647 = my at hm0' hm1' ⊢
      -- again = ..
      refine ⟨_, rfl, _, rfl, _, _, rfl, rfl, .inl ⟨by omega, by omega⟩, _, rfl, _, _, rfl, rfl, .inl (by constructor <;> decide), _, _, rfl, rfl, _, rfl, _, _, rfl, rfl, .inl ⟨_, rfl, _, _, rfl, rfl, (by show (0 : Int) < 1000003; decide), ?_⟩⟩
      dsimp only [gName]
      generalize (my * my + 31 * my + (0 + (i : Int))) % 1000003 = ag
      have hBH : H B = none := hBn
      have hf1 : fs.length + 1 ≤ 2000 := by omega
      have bd : ∀ z : Int, (fs ++ [z]).length = i + 1 := fun z => by rw [List.length_append, hfl]; rfl
      have nB3 : ∀ b o, H b = some o → b ≠ B := fun b o e => ne_of_none e hBn
      have nc3 : ∀ b o, H b = some o → b ≠ c := fun b o e => ne_of_none e nc
      -- if cell >= 10 ** 18
      refine ⟨_, rfl, _, _, rfl, rfl, ⟨by decide, by decide, by decide⟩, _, _, rfl, rfl, _, rfl, ite2 (fun c1 => ?_) (fun c1 => ?_)⟩
      · refine ⟨_, rfl, .inl ⟨rfl, _, SqL.of hB3⟩, _, rfl, .inl ⟨_, rfl, _, _, rfl, rfl, (by show (0 : Int) < 1000; decide), B, _, _, rfl, rfl, hB3, by rw [List.length_map]; show _ < 2 ^ 24; omega, ?_⟩⟩
        refine ⟨_, rfl, _, _, rfl, rfl, by constructor <;> decide, _, rfl, _, rfl, c, cs.map V.int, jn, jn, rfl, rfl, by rw [upd_ne hcB]; exact hc3, ?_, ?_⟩
        · rw [List.length_map]
          unfold ixN
          rw [if_pos (by omega), if_pos (by omega)]
          simp
        · refine ⟨my, cs.set jn (cl / 1000), fs ++ [cl % 1000], _, _, _, _, rfl, hm0', hm1', fun b o e => ?_, ?_, ?_, ?_, ?_, bd _⟩
          · rw [upd_ne (nc3 b o e), upd_ne (nB3 b o e)]
            exact k3 _ _ e
          · rw [upd_same, List.map_set]
          · rw [List.length_set]; exact hc0
          · rw [List.length_set]; exact hcl
          · rw [upd_ne hcB.symm, upd_same, List.map_append]
            rfl
      · refine ⟨_, rfl, .inl ⟨rfl, _, SqL.of hB3⟩, _, rfl, .inl ⟨_, rfl, _, _, rfl, rfl, (by show (0 : Int) < 1000; decide), B, _, _, rfl, rfl, hB3, by rw [List.length_map]; show _ < 2 ^ 24; omega, ?_⟩⟩
        refine ⟨my, cs, fs ++ [ag % 1000], _, _, _, _, rfl, hm0', hm1', fun b o e => ?_, ?_, hc0, hcl, ?_, bd _⟩
        · rw [upd_ne (nB3 b o e)]
          exact k3 _ _ e
        · rw [upd_ne hcB]; exact hc3
        · rw [upd_same, List.map_append]
          rfl
    · rintro σ H3 ⟨mx, cs, fs, y5, y6, y7, y8, rfl, hm0, hm1, k3, hc3, hc0, hcl, hB3, hfl⟩
      -- found.reverse()
      refine ⟨_, rfl, .inl ⟨rfl, _, SqL.of hB3⟩, B, _, rfl, rfl, hB3, ?_⟩
      refine ⟨_, rfl, q B _ fs.reverse (by rw [List.length_reverse]; exact hfl) (fun b o e => by rw [upd_ne (ne_of_none e hBn)]; exact k3 _ _ e) hBn ?_⟩
      rw [upd_same, List.map_reverse]
  · have k2 := same_upd (o := .lst (ns.map V.int)) nl
    have hl : upd H l (.lst (ns.map V.int)) l = some (.lst (ns.map V.int)) := upd_same
    generalize upd H l (.lst (ns.map V.int)) = H2 at k2 hl ⊢
    refine ⟨_, rfl, l, _, rfl, .inl (SqL.of hl), rfl, _, rfl, ite2 (fun c1 => ?_) (fun c1 => ?_)⟩
    · refine ⟨by show 1 ≤ sizeLine; decide, fun l2 nl2 => rest _ _ ⟨l2, [7], rfl, k2.trans (same_upd nl2), ?_, upd_same, by decide, by decide⟩⟩
      cases e : H l2 with
      | none => rfl
      | some o => rw [k2 _ _ e] at nl2; cases nl2
    · have c1' : ¬ ((ns.map V.int).length : Int) = 0 := fun z => by
        apply c1
        rw [show V.int ((ns.map V.int).length : Int) = V.int 0 from by rw [z]]
        simp
      rw [List.length_map] at c1'
      exact rest _ _ ⟨l, ns, rfl, k2, nl, hl, by omega, hlen⟩
end
end W8
set_option Elab.async false
set_option linter.all false
set_option maxRecDepth 100000
set_option maxHeartbeats 4000000
namespace W8
open PySem PySem.Spec PyProof.Rows L2 Com Kb Tx SX
theorem wrap (a b : Str) (x : T) : (a ++ S x) ++ b = S (tx a ++ (x ++ tx b)) := by rw [lit_app a x, app_lit b (tx a ++ x), List.append_assoc]
/-- what the module says of names and constants -/
structure TS8 (K : PySem.W.Frag) (mg : Str → Option Value) (C fI pE pK : Addr) : Prop where
  cl : Cls K C
  mkN : Mk K C fI
  mgC : mg "Names" = some (.ref C)
  nL : NoAttr K C "local_names"
  nT : NoAttr K C "top_names"
  gE : mg "EMPTY" = some (.ref pE)
  gPK : mg "PLAIN_KINDS" = some (.ref pK)
  kE : ∀ H : Hp, SqT K H pE [.str "list", .non, .non, .int 0, .int 1, .int 1]
  kP : ∀ H : Hp, SqT K H pK ((["number", "flag", "text"] : List Str).map V.str)
/-- a kind, a value, its text -/
inductive AtomIs : Str → V → T → Prop
  | num (i : Int) : i.natAbs.log2 < 1920 → AtomIs "number" (.int i) (it i)
  | flg (b : Bool) : AtomIs "flag" (.bl b) (bt b)
  | txt (x : T) : x.length ≤ 10 → AtomIs "text" (.str (S x)) (tx "\"" ++ (x ++ tx "\""))
  | dots : AtomIs "dots" .non (tx "...")
  | wild : AtomIs "wild" .non (tx "_")
section
variable {P : Program} {w : World} {K : PySem.W.Frag} {mg : Str → Option Value} {base : Heap} {C fI pE pK : Addr}
def spAtom : Sp := fun vs H Q _ => ∃ (k : Str) (u : V) (t : T), vs = [.str k, u] ∧ AtomIs k u t ∧ Q (.str (S t)) H
theorem ok_show_atom {f : Addr} {fd : FuncData} (F : Dfn K mg "show_atom" st_show_atom f fd ["kind", "value"]) (M : Mg mg) : Cal P w K mg base 1 "show_atom" spAtom := by
  refine cal_mk F scshow_atom (fun vs H Q E h => ?_) (fun cdv A outer s H vs Q E hr h => ?_)
  · obtain ⟨k, u, t, rfl, _⟩ := h
    rfl
  obtain ⟨k, u, t, rfl, ha, q⟩ := h
  have hsl : sizeLine = 16777216 := sizeLine_eq
  obtain ⟨kx, hk⟩ : ∃ kx : Str, kx = k := ⟨_, rfl⟩
  rw [← hk]
  refine ⟨_, (pss_cons (ps_if (pt_cmpR op_eq (pv 0) pe_str (nomark _)) (pss_one (ps_ret (pe_callTy call_str_int (by rfl) M.str b_str (pa_cons (pv 1) pa_nil)))) pss_nil)
      (pss_cons (ps_if (pt_cmpR op_eq (pv 0) pe_str (nomark _)) (pss_one (ps_ret (pe_ifExp (pt_truth (pv 1) (by intro _; rfl)) pe_str pe_str))) pss_nil)
      (pss_cons (ps_if (pt_cmpR op_eq (pv 0) pe_str (nomark _)) (pss_one (ps_ret (pe_op op_add_str (pe_op op_add_str pe_str (pv 1)) pe_str))) pss_nil)
      (pss_cons (ps_if (pt_cmpR op_eq (pv 0) pe_str (nomark _)) (pss_one (ps_ret pe_str)) pss_nil)
      (pss_cons (ps_if (pt_cmpR op_eq (pv 0) pe_str (nomark _)) (pss_one (ps_ret pe_str)) pss_nil)
      (pss_one (ps_ret (pv 1)))))))), ?_⟩
  refine ⟨_, rfl, rfl, _, rfl, ?_⟩
  cases ha with
  | num i hi => exact sEq hk ⟨_, rfl, _, rfl, hi, q⟩
  | flg b =>
    refine sNe (by rw [hk]; decide +kernel) ?_
    dsimp only [tNext]
    refine ⟨_, rfl, rfl, _, rfl, sEq hk ⟨_, rfl, _, rfl, ?_⟩⟩
    cases b with
    | true => exact iteT q
    | false => exact iteF q
  | txt x hx =>
    refine sNe (by rw [hk]; decide +kernel) ?_
    dsimp only [tNext]
    refine ⟨_, rfl, rfl, _, rfl, sNe (by rw [hk]; decide +kernel) ?_⟩
    dsimp only [tNext]
    have l1 : ("\"" : Str).length = 1 := by decide +kernel
    have l2 : (S x).length ≤ 10 := by rw [len_S]; exact hx
    refine ⟨_, rfl, rfl, _, rfl, sEq hk ⟨_, rfl, _, _, rfl, rfl, by rw [l1]; omega, _, _, rfl, rfl, by rw [Str.length_append, l1]; omega, ?_⟩⟩
    rw [wrap "\"" "\"" x]
    exact q
  | dots =>
    refine sNe (by rw [hk]; decide +kernel) ?_
    dsimp only [tNext]
    refine ⟨_, rfl, rfl, _, rfl, sNe (by rw [hk]; decide +kernel) ?_⟩
    dsimp only [tNext]
    refine ⟨_, rfl, rfl, _, rfl, sNe (by rw [hk]; decide +kernel) ?_⟩
    dsimp only [tNext]
    exact ⟨_, rfl, rfl, _, rfl, sEq hk q⟩
  | wild =>
    refine sNe (by rw [hk]; decide +kernel) ?_
    dsimp only [tNext]
    refine ⟨_, rfl, rfl, _, rfl, sNe (by rw [hk]; decide +kernel) ?_⟩
    dsimp only [tNext]
    refine ⟨_, rfl, rfl, _, rfl, sNe (by rw [hk]; decide +kernel) ?_⟩
    dsimp only [tNext]
    refine ⟨_, rfl, rfl, _, rfl, sNe (by rw [hk]; decide +kernel) ?_⟩
    dsimp only [tNext]
    exact ⟨_, rfl, rfl, _, rfl, sEq hk q⟩
/-! data of the module or of ours -/
theorem dp_tup {H : Hp} {v : V} {ds : List PyData} (h : Dp K H v (.tuple ds)) : ∃ a xs, v = .ref a ∧ SqT K H a xs ∧ DpAll K H xs ds := by
  cases h with
  | tup e q => exact ⟨_, _, rfl, e, q⟩
theorem dpa_cons {H : Hp} {vs : List V} {d : PyData} {ds : List PyData} (h : DpAll K H vs (d :: ds)) : ∃ x r, vs = x :: r ∧ Dp K H x d ∧ DpAll K H r ds := by
  cases h with
  | cons h1 h2 => exact ⟨_, _, rfl, h1, h2⟩
theorem dp_str {H : Hp} {v : V} {x : Str} (h : Dp K H v (.str x)) : v = .str x := by cases h; rfl
theorem dp_int {H : Hp} {v : V} {x : Int} (h : Dp K H v (.int x)) : v = .int x := by cases h; rfl
theorem dp_non {H : Hp} {v : V} (h : Dp K H v .none) : v = .non := by cases h; rfl
theorem dp_bl {H : Hp} {v : V} {b : Bool} (h : Dp K H v (.bool b)) : v = .bl b := by cases h; rfl
/-- a row -/
theorem row_at {H : Hp} {v : V} {l : List Pl} (h : Dp K H v (rD l)) : ∃ a x y, v = .ref a ∧ SqT K H a [.str "list", x, y, .int (l.length : Int), .int (cntR l), .int (depR l)] ∧
    (∀ p r, l = p :: r → Dp K H x (vD p) ∧ Dp K H y (rD r)) := by
  cases l with
  | nil =>
    simp only [rD] at h
    obtain ⟨a, xs, rfl, e, q⟩ := dp_tup h
    obtain ⟨x1, r1, rfl, h1, q⟩ := dpa_cons q
    obtain ⟨x2, r2, rfl, h2, q⟩ := dpa_cons q
    obtain ⟨x3, r3, rfl, h3, q⟩ := dpa_cons q
    obtain ⟨x4, r4, rfl, h4, q⟩ := dpa_cons q
    obtain ⟨x5, r5, rfl, h5, q⟩ := dpa_cons q
    obtain ⟨x6, r6, rfl, h6, q⟩ := dpa_cons q
    cases q
    rw [dp_str h1, dp_int h4, dp_int h5, dp_int h6] at e
    exact ⟨a, x2, x3, rfl, e, fun p r z => by cases z⟩
  | cons p r =>
    simp only [rD] at h
    obtain ⟨a, xs, rfl, e, q⟩ := dp_tup h
    obtain ⟨x1, r1, rfl, h1, q⟩ := dpa_cons q
    obtain ⟨x2, r2, rfl, h2, q⟩ := dpa_cons q
    obtain ⟨x3, r3, rfl, h3, q⟩ := dpa_cons q
    obtain ⟨x4, r4, rfl, h4, q⟩ := dpa_cons q
    obtain ⟨x5, r5, rfl, h5, q⟩ := dpa_cons q
    obtain ⟨x6, r6, rfl, h6, q⟩ := dpa_cons q
    cases q
    rw [dp_str h1, dp_int h4, dp_int h5, dp_int h6] at e
    refine ⟨a, x2, x3, rfl, ?_, fun p' r' z => ?_⟩
    · rw [List.length_cons, Int.natCast_add]
      exact e
    · cases z
      exact ⟨h2, h3⟩
/-- a leaf -/
theorem leaf_at {H : Hp} {v : V} {p : Pl} (hp : isLst p = false) (h : Dp K H v (plD p)) : ∃ a u, v = .ref a ∧ SqT K H a [.str p.kd, u] ∧ Dp K H u p.vl := by
  rw [plD_eq] at h
  obtain ⟨a, xs, rfl, e, q⟩ := dp_tup h
  obtain ⟨x1, r1, rfl, h1, q⟩ := dpa_cons q
  obtain ⟨x2, r2, rfl, h2, q⟩ := dpa_cons q
  cases q
  rw [dp_str h1] at e
  exact ⟨a, x2, rfl, e, h2⟩
theorem kd_lst {p : Pl} (h : isLst p = false) : ¬ p.kd = "list" := by
  cases p with
  | lst l => cases h
  | num i => exact show ¬ (("number" : Str) = "list") by decide +kernel
  | flg b => exact show ¬ (("flag" : Str) = "list") by decide +kernel
  | txt x => exact show ¬ (("text" : Str) = "list") by decide +kernel
theorem dpa_app {H : Hp} : ∀ {vs ws : List V} {ds es : List PyData}, DpAll K H vs ds → DpAll K H ws es → DpAll K H (vs ++ ws) (ds ++ es)
  | _, _, _, _, .nil, s => s
  | _, _, _, _, .cons r t, s => .cons r (dpa_app t s)
theorem sqt_same {H H' : Hp} {a : Addr} {xs : List V} (k : Same H H') (h : SqT K H a xs) : SqT K H' a xs := same_sqT k h
/-! data without lists, while a list changes -/
abbrev SqK (K : PySem.W.Frag) (H H' : Hp) : Prop := ∀ a xs, SqT K H a xs → SqT K H' a xs
theorem sqk_upd {H : Hp} {b : Addr} {us : List V} {o : HO} (h : H b = some (.lst us)) : SqK K H (L2.upd H b o) := fun a xs q => by
  rcases q with q | q
  · rcases q with q | ⟨o2, q⟩
    · exact .inl (.inl (by rw [upd_ne (ne_of q h (fun z => nomatch z))]; exact q))
    · exact .inl (.inr ⟨o2, by rw [upd_ne (ne_of q h (fun z => nomatch z))]; exact q⟩)
  · exact .inr q
mutual
def noL : PyData → Bool
  | .list _ => false
  | .tuple xs => noLs xs
  | .none | .bool _ | .int _ | .str _ | .dict _ => true
def noLs : List PyData → Bool
  | [] => true
  | x :: xs => noL x && noLs xs
end
mutual
theorem dp_sqk {H H' : Hp} (k : SqK K H H') : ∀ (d : PyData) (v : V), noL d = true → Dp K H v d → Dp K H' v d
  | .none, _, _, h => by cases h; exact .non
  | .bool _, _, _, h => by cases h; exact .bl _
  | .int _, _, _, h => by cases h; exact .int _
  | .str _, _, _, h => by cases h; exact .str _
  | .list _, _, n, _ => by simp [noL] at n
  | .tuple ds, _, n, h => by
    cases h with
    | tup e q => exact .tup (k _ _ e) (dpa_sqk k ds _ (by simpa [noL] using n) q)
  | .dict _, _, _, h => by cases h
theorem dpa_sqk {H H' : Hp} (k : SqK K H H') : ∀ (ds : List PyData) (vs : List V), noLs ds = true → DpAll K H vs ds → DpAll K H' vs ds
  | [], _, _, h => by cases h; exact .nil
  | d :: ds, _, n, h => by
    cases h with
    | cons h1 h2 =>
      simp only [noLs, Bool.and_eq_true] at n
      exact .cons (dp_sqk k d _ n.1 h1) (dpa_sqk k ds _ n.2 h2)
end
theorem noLs_map {α : Type} {f : α → PyData} (hf : ∀ x, noL (f x) = true) : ∀ l : List α, noLs (l.map f) = true
  | [] => rfl
  | a :: l => by simp [noLs, hf a, noLs_map hf l]
mutual
theorem noL_v : ∀ p : Pl, noL (vD p) = true
  | .num _ => by simp [vD, noL, noLs]
  | .flg _ => by simp [vD, noL, noLs]
  | .txt _ => by simp [vD, noL, noLs]
  | .lst l => by simp only [vD]; exact noL_r l
theorem noL_r : ∀ l : List Pl, noL (rD l) = true
  | [] => by simp [rD, noL, noLs]
  | p :: r => by simp [rD, noL, noLs, noL_v p, noL_r r]
end
def spFront (K : PySem.W.Frag) : Sp := fun vs H Q _ => ∃ (v r : V) (p : Pl) (l : List Pl), vs = [v, r] ∧ Dp K H v (vD p) ∧ Dp K H r (rD l) ∧ ∀ v' H', Same H H' → Dp K H' v' (rD (p :: l)) → Q v' H'
theorem ok_put_in_front {f : Addr} {fd : FuncData} (F : Dfn K mg "put_in_front" st_put_in_front f fd ["value", "row"]) (M : Mg mg) : Cal P w K mg base 1 "put_in_front" (spFront K) := by
  refine cal_mk F scput_in_front (fun vs H Q E h => ?_) (fun cdv A outer s H vs Q E hr h => ?_)
  · obtain ⟨v, r, p, l, rfl, _⟩ := h
    rfl
  obtain ⟨v, r, p, l, rfl, hv, hrr, q⟩ := h
  refine ⟨_, (pss_cons (ps_if (pt_cmpR op_eq (pe_ix (ixT K rfl) (pv 0) pe_int (fun _ _ => rfl)) pe_str (nomark _)) (pss_one (ps_ret (pe_tup (pa_cons pe_str (pa_cons (pv 0) (pa_cons (pv 1) (pa_cons (pe_op op_add (pe_ix (ixT K rfl) (pv 1) pe_int (fun _ _ => rfl)) pe_int) (pa_cons (pe_op op_add (pe_ix (ixT K rfl) (pv 1) pe_int (fun _ _ => rfl)) (pe_ix (ixT K rfl) (pv 0) pe_int (fun _ _ => rfl))) (pa_cons (pe_callB (call_max2 rfl) (by rfl) M.max b_max (pa_cons (pe_ix (ixT K rfl) (pv 1) pe_int (fun _ _ => rfl)) (pa_cons (pe_op op_add (pe_ix (ixT K rfl) (pv 0) pe_int (fun _ _ => rfl)) pe_int) pa_nil))) pa_nil))))))))) pss_nil)
      (pss_one (ps_ret (pe_tup (pa_cons pe_str (pa_cons (pv 0) (pa_cons (pv 1) (pa_cons (pe_op op_add (pe_ix (ixT K rfl) (pv 1) pe_int (fun _ _ => rfl)) pe_int) (pa_cons (pe_op op_add (pe_ix (ixT K rfl) (pv 1) pe_int (fun _ _ => rfl)) pe_int) (pa_cons (pe_ix (ixT K rfl) (pv 1) pe_int (fun _ _ => rfl)) pa_nil)))))))))), ?_⟩
  obtain ⟨a, x, y, rfl, e, _⟩ := row_at hrr
  cases hp : isLst p with
  | true =>
    cases p with
    | lst l2 =>
      have hv' : Dp K H v (rD l2) := by simpa only [vD] using hv
      obtain ⟨a2, x2, y2, rfl, e2, _⟩ := row_at hv'
      refine ⟨_, rfl, tc (ixk e2 (atI_nat (j := 0) rfl) (tc ⟨rfl, _, rfl, sEq rfl ?_⟩))⟩
      refine ⟨_, rfl, _, rfl, ?_⟩
      refine ⟨_, rfl, tc (ixk e (atI_nat (j := 3) rfl) (tc ?_))⟩
      refine ⟨_, _, rfl, rfl, ?_⟩
      refine ⟨_, rfl, tc (ixk e (atI_nat (j := 4) rfl) ⟨_, rfl, tc (ixk e2 (atI_nat (j := 4) rfl) ⟨_, _, rfl, rfl, ?_⟩)⟩)⟩
      dsimp only [tCons, tCB]
      refine ⟨_, rfl, tc (ixk e (atI_nat (j := 5) rfl) ⟨_, rfl, tc (ixk e2 (atI_nat (j := 5) rfl) (tc ⟨_, _, rfl, rfl, _, _, rfl, ?_⟩))⟩)⟩
      refine ⟨by show 6 ≤ sizeLine; decide, fun b nb => q _ _ (same_upd nb) ?_⟩
      have sm := same_upd (o := .tup [.str "list", .ref a2, .ref a, .int ((l.length : Int) + 1), .int (cntR l + cntR l2), .int (if depR l2 + 1 > depR l then depR l2 + 1 else depR l)]) nb
      have e3 := SqT.of (K := K) (upd_same (H := H) (a := b) (o := .tup [.str "list", .ref a2, .ref a, .int ((l.length : Int) + 1), .int (cntR l + cntR l2), .int (if depR l2 + 1 > depR l then depR l2 + 1 else depR l)]))
      simp only [rD, cntR, cntV, depR, depV, isLst, if_true, vD]
      have em : max (depR l) (depR l2 + 1) = if depR l2 + 1 > depR l then depR l2 + 1 else depR l := by
        split <;> omega
      rw [em]
      exact .tup e3 (.cons (.str _) (.cons (Dp.same sm _ _ hv') (.cons (Dp.same sm _ _ hrr) (.cons (.int _) (.cons (.int _) (.cons (.int _) .nil))))))
    | _ => cases hp
  | false =>
    rw [vD_leaf hp] at hv
    obtain ⟨a2, u, rfl, e2, hu2⟩ := leaf_at hp hv
    refine ⟨_, rfl, tc (ixk e2 (atI_nat (j := 0) rfl) (tc ⟨rfl, _, rfl, sNe (kd_lst hp) ?_⟩))⟩
    dsimp only [tNext]
    refine ⟨_, rfl, _, rfl, ?_⟩
    refine ⟨_, rfl, tc (ixk e (atI_nat (j := 3) rfl) (tc ?_))⟩
    refine ⟨_, _, rfl, rfl, ?_⟩
    refine ⟨_, rfl, tc (ixk e (atI_nat (j := 4) rfl) (tc ⟨_, _, rfl, rfl, ?_⟩))⟩
    dsimp only [tCons]
    refine ⟨_, rfl, tc (ixk e (atI_nat (j := 5) rfl) ?_)⟩
    refine ⟨by show 6 ≤ sizeLine; decide, fun b nb => q _ _ (same_upd nb) ?_⟩
    have sm := same_upd (o := .tup [.str "list", .ref a2, .ref a, .int ((l.length : Int) + 1), .int (cntR l + 1), .int (depR l)]) nb
    have e3 := SqT.of (K := K) (upd_same (H := H) (a := b) (o := .tup [.str "list", .ref a2, .ref a, .int ((l.length : Int) + 1), .int (cntR l + 1), .int (depR l)]))
    have ec : cntV p = 1 := by cases p <;> simp [cntV, isLst] at hp ⊢
    simp only [rD, cntR, depR, hp, ec]
    rw [vD_leaf hp]
    exact .tup e3 (.cons (.str _) (.cons (Dp.same sm _ _ hv) (.cons (Dp.same sm _ _ hrr) (.cons (.int _) (.cons (.int _) (.cons (.int _) .nil))))))
/-! list_of, parts_of -/
def spListOf (K : PySem.W.Frag) : Sp := fun vs H Q _ => ∃ (a : Addr) (us : List V) (l : List Pl), vs = [.ref a] ∧ H a = some (.lst us) ∧ DpAll K H us (l.map vD) ∧ ∀ v' H', Same H H' → Dp K H' v' (rD l) → Q v' H'
theorem ok_list_of {f : Addr} {fd : FuncData} (F : Dfn K mg "list_of" st_list_of f fd ["parts"]) (M : Mg mg) (T : TS8 K mg C fI pE pK) (Gput_in_front : Cal P w K mg base 1 "put_in_front" (spFront K)) : Cal P w K mg base 2 "list_of" (spListOf K) := by
  refine cal_mk F sclist_of (fun vs H Q E h => ?_) (fun cdv A outer s H vs Q E hr h => ?_)
  · obtain ⟨a, us, l, rfl, _⟩ := h
    rfl
  obtain ⟨a, us, l, rfl, ha, du, q⟩ := h
  have hul := DpAll_len du
  rw [List.length_map] at hul
  refine ⟨_, (pss_cons (ps_set (i := 1) sclist_of.nd rfl (.inl rfl) (pe_glob (v := .ref pE) (by rfl) T.gE rfl))
      (pss_cons (ps_for PassesOwn.never rfl (pi_list (pe_revL (pv 0))) (pg_name (i := 2) sclist_of.nd rfl (.inl rfl))
      (pss_one (ps_set (i := 1) sclist_of.nd rfl (.inl rfl) (pe_c Gput_in_front hr (by omega) (by rfl) (pa_cons (pv 2) (pa_cons (pv 1) pa_nil))))))
      (pss_one (ps_ret (pv 1))))), ?_⟩
  dsimp only [gName]
  refine ⟨_, rfl, a, us, rfl, SqL.of ha, fun b nb => ⟨b, rfl, ⟨_, SqL.of upd_same⟩, ?_⟩⟩
  have s1 := same_upd (o := .lst us.reverse) nb
  have e1 := upd_same (H := H) (a := b) (o := .lst us.reverse)
  generalize L2.upd H b (.lst us.reverse) = H1 at s1 e1 ⊢
  refine for_list (xs := us.reverse) (fun i σ H' => ∃ (v : V) (y : Option V), σ = [some (.ref a), some v, y] ∧ Same H1 H' ∧ i ≤ l.length ∧ Dp K H' v (rD (l.drop (l.length - i)))) ⟨.ref pE, none, rfl, Same.refl _, Nat.zero_le _, ?_⟩ (fun i σ H' hi h => ?_) ?_ ?_
  · rw [Nat.sub_zero, List.drop_length]
    simp only [rD]
    exact .tup (T.kE H1) (.cons (.str _) (.cons .non (.cons .non (.cons (.int _) (.cons (.int _) (.cons (.int _) .nil))))))
  · obtain ⟨v, y, rfl, sm, _⟩ := h
    exact SqL.of (sm _ _ e1)
  · rintro i x σ H' hx ⟨v, y, rfl, sm, hil, dv⟩
    have hi := (List.getElem?_eq_some_iff.mp hx).1
    rw [List.length_reverse] at hi
    have hx2 : us[l.length - (i + 1)]? = some x := by
      rw [List.getElem?_reverse hi] at hx
      rw [← hx]
      congr 1
      omega
    obtain ⟨d, hd1, hd2⟩ := DpAll.getE (DpAll.same (Same.trans s1 sm) _ _ du) hx2
    rw [List.getElem?_map] at hd1
    have hlt : l.length - (i + 1) < l.length := by omega
    rw [List.getElem?_eq_getElem hlt] at hd1
    cases hd1
    dsimp only [gName]
    refine ⟨_, rfl, _, rfl, x, v, l[l.length - (i + 1)], l.drop (l.length - i), rfl, hd2, dv, fun v' H3 s3 d3 => ?_⟩
    refine ⟨v', _, rfl, same_trans sm s3, by omega, ?_⟩
    rw [List.drop_eq_getElem_cons hlt, show l.length - (i + 1) + 1 = l.length - i by omega]
    exact d3
  · rintro σ H' ⟨v, y, rfl, sm, hil, dv⟩
    rw [List.length_reverse, hul, Nat.sub_self, List.drop_zero] at dv
    exact ⟨_, rfl, q _ _ (same_trans s1 sm) dv⟩
def spPartsOf (K : PySem.W.Frag) : Sp := fun vs H Q _ => ∃ (v : V) (l : List Pl), vs = [v] ∧ Dp K H v (rD l) ∧ l.length ≤ 100000 ∧ ∀ a us H', Same H H' → H a = none → H' a = some (.lst us) → DpAll K H' us (l.map vD) → Q (.ref a) H'
theorem ok_parts_of {f : Addr} {fd : FuncData} (F : Dfn K mg "parts_of" st_parts_of f fd ["row"]) (M : Mg mg) : Cal P w K mg base 1 "parts_of" (spPartsOf K) := by
  refine cal_mk F scparts_of (fun vs H Q E h => ?_) (fun cdv A outer s H vs Q E hr h => ?_)
  · obtain ⟨v, l, rfl, _⟩ := h
    rfl
  obtain ⟨v, l, rfl, hv, hl, q⟩ := h
  refine ⟨_, (pss_cons (ps_set (i := 1) scparts_of.nd rfl (.inl rfl) (pe_lst pa_nil))
      (pss_cons (ps_while PassesOwn.never (pt_cmpR op_gt (pe_ix (ixT K rfl) (pv 0) pe_int (fun _ _ => rfl)) pe_int (nomark _))
      (pss_cons (ps_expr (pe_bm PySem.F.plainAttrs_list PySem.F.slot_list_append PySem.F.type_list_append mt_append (pv 1) (pa_cons (pe_ix (ixT K rfl) (pv 0) pe_int (fun _ _ => rfl)) pa_nil)))
      (pss_one (ps_set (i := 0) scparts_of.nd rfl (.inl rfl) (pe_ix (ixT K rfl) (pv 0) pe_int (fun _ _ => rfl))))))
      (pss_one (ps_ret (pv 1))))), ?_⟩
  refine ⟨Nat.zero_le _, fun b nb => ?_⟩
  dsimp only [gName]
  have s1 := same_upd (o := .lst []) nb
  have e1 := upd_same (H := H) (a := b) (o := .lst [])
  generalize L2.upd H b (.lst []) = H1 at s1 e1 ⊢
  refine ⟨fun m σ H' => ∃ (v : V) (i : Nat) (us : List V), σ = [some v, some (.ref b)] ∧ Same H H' ∧ H' b = some (.lst us) ∧ i ≤ l.length ∧ DpAll K H us ((l.take i).map vD) ∧ Dp K H v (rD (l.drop i)) ∧ m = l.length - i, ⟨_, v, 0, [], rfl, s1, e1, Nat.zero_le _, .nil, hv, rfl⟩, ?_⟩
  rintro m σ H2 ⟨v, i, us, rfl, s2, hb, hi, du, dv, rfl⟩
  have hul := DpAll_len du
  rw [List.length_map, List.length_take] at hul
  obtain ⟨a, x, y, rfl, e0, hxy⟩ := row_at dv
  have e := sqt_same s2 e0
  refine ⟨_, rfl, tc (ixk e (atI_nat (j := 3) rfl) (tc ⟨_, _, rfl, rfl, _, rfl, ?_⟩))⟩
  by_cases hlt : i < l.length
  · have hd : l.drop i = l[i] :: l.drop (i + 1) := List.drop_eq_getElem_cons hlt
    obtain ⟨hx, hy⟩ := hxy _ _ hd
    refine dT (by rw [List.length_drop]; omega) ?_
    refine ⟨fun σ' H' => ∃ m', m' < l.length - i ∧ ∃ (v : V) (i : Nat) (us : List V), σ' = [some v, some (.ref b)] ∧ Same H H' ∧ H' b = some (.lst us) ∧ i ≤ l.length ∧ DpAll K H us ((l.take i).map vD) ∧ Dp K H v (rD (l.drop i)) ∧ m' = l.length - i, fun σ' H' h => h, ?_⟩
    refine ⟨_, rfl, .inl ⟨rfl, _, SqL.of hb⟩, ?_⟩
    dsimp only [tCons]
    refine ⟨_, rfl, tc (ixk e (atI_nat (j := 1) rfl) ⟨b, _, _, rfl, rfl, hb, by show us.length < 2 ^ 24; omega, ?_⟩)⟩
    have s3 : Same H (L2.upd H2 b (.lst (us ++ [x]))) := fun c o z => by
      rw [upd_ne (ne_of_none z nb)]
      exact s2 c o z
    have e2 := upd_same (H := H2) (a := b) (o := .lst (us ++ [x]))
    have e' := sqt_same s3 e0
    generalize L2.upd H2 b (.lst (us ++ [x])) = H3 at s3 e2 e' ⊢
    dsimp only [tDrop]
    refine ⟨_, rfl, tc (ixk e' (atI_nat (j := 2) rfl) ?_)⟩
    dsimp only [gName]
    refine ⟨l.length - (i + 1), by omega, y, i + 1, us ++ [x], rfl, s3, e2, hlt, ?_, hy, rfl⟩
    rw [List.take_add_one, List.getElem?_eq_getElem hlt, List.map_append]
    exact dpa_app du (.cons hx .nil)
  · refine dF (by rw [List.length_drop]; omega) ?_
    have : i = l.length := by omega
    subst this
    rw [List.take_length] at du
    exact ⟨_, rfl, q b us H2 s2 nb hb (DpAll.same s2 _ _ du)⟩
end
end W8
set_option Elab.async false
set_option linter.all false
set_option maxRecDepth 100000
set_option maxHeartbeats 4000000
namespace W8
open PySem PySem.Spec PyProof.Rows L2 Com Kb Tx SX
section
variable {P : Program} {w : World} {K : PySem.W.Frag} {mg : Str → Option Value} {base : Heap} {C fI pE pK : Addr}
/-! value_of -/
def spValueOf (K : PySem.W.Frag) (n : Nat) : Sp := fun vs H Q _ => ∃ (v : V) (p : Pl), vs = [v] ∧ Dp K H v (plD p) ∧ dpP p < n ∧ szP p ≤ 1000 ∧ ∀ v' H', Same H H' → Dp K H' v' (vD p) → Q v' H'
theorem value0 {f : Addr} {fd : FuncData} {k : Nat} (F : Dfn K mg "value_of" st_value_of f fd ["plain"]) : Cal P w K mg base k "value_of" (spValueOf K 0) := by
  have no : ∀ vs H Q E, ¬ spValueOf K 0 vs H Q E := fun vs H Q E h => by
    obtain ⟨_, _, _, _, h, _⟩ := h
    exact Nat.not_lt_zero _ h
  exact ⟨f, fd, _, ⟨fun vs H Q E h => absurd h (no vs H Q E), fun A outer s H args us vs Q E _ _ _ _ h => absurd h (no vs H Q E)⟩, F.mgf, F.fn.kp, F.b⟩
theorem ok_value_of {f : Addr} {fd : FuncData} {n k : Nat} (F : Dfn K mg "value_of" st_value_of f fd ["plain"]) (M : Mg mg) (Glist_of : Cal P w K mg base (k + 2) "list_of" (spListOf K)) (Gvalue_of : Cal P w K mg base (k + 2) "value_of" (spValueOf K n)) : Cal P w K mg base (k + 3) "value_of" (spValueOf K (n + 1)) := by
  refine cal_mk F scvalue_of (fun vs H Q E h => ?_) (fun cdv A outer s H vs Q E hr h => ?_)
  · obtain ⟨v, p, rfl, _⟩ := h
    rfl
  obtain ⟨v, p, rfl, hv, hd, hz, q⟩ := h
  refine ⟨_, (pss_cons (ps_if (pt_cmpR op_ne (pe_ix (ixT K rfl) (pv 0) pe_int (fun _ _ => rfl)) pe_str (nomark _)) (pss_one (ps_ret (pv 0))) pss_nil)
      (pss_cons (ps_set (i := 1) scvalue_of.nd rfl (.inl rfl) (pe_lst pa_nil))
      (pss_cons (ps_for PassesOwn.never rfl (pi_tup (pe_ix (ixT K rfl) (pv 0) pe_int (fun _ _ => rfl))) (pg_name (i := 2) scvalue_of.nd rfl (.inl rfl))
      (pss_one (ps_expr (pe_bm PySem.F.plainAttrs_list PySem.F.slot_list_append PySem.F.type_list_append mt_append (pv 1) (pa_cons (pe_c Gvalue_of hr (by omega) (by rfl) (pa_cons (pv 2) pa_nil)) pa_nil)))))
      (pss_one (ps_ret (pe_c Glist_of hr (by omega) (by rfl) (pa_cons (pv 1) pa_nil))))))), ?_⟩
  cases hp : isLst p with
  | false =>
    obtain ⟨a, u, rfl, e, _⟩ := leaf_at hp hv
    refine ⟨_, rfl, tc (ixk e (atI_nat (j := 0) rfl) (tc ⟨rfl, _, rfl, nEq (kd_lst hp) ⟨_, rfl, q _ H (Same.refl H) ?_⟩⟩))⟩
    rw [vD_leaf hp]
    exact hv
  | true =>
    obtain ⟨l, rfl⟩ : ∃ l, p = .lst l := by
      cases p with
      | lst l => exact ⟨l, rfl⟩
      | _ => cases hp
    simp only [plD] at hv
    obtain ⟨a, xs, rfl, e, g⟩ := dp_tup hv
    obtain ⟨x1, r1, rfl, h1, g⟩ := dpa_cons g
    obtain ⟨x2, r2, rfl, h2, g⟩ := dpa_cons g
    cases g
    rw [dp_str h1] at e
    obtain ⟨a2, xs, rfl, e2, g⟩ := dp_tup h2
    have hxl := DpAll_len g
    rw [plDs_map, List.length_map] at hxl
    simp only [dpP] at hd
    simp only [szP] at hz
    have hll := szPs_len l
    refine ⟨_, rfl, tc (ixk e (atI_nat (j := 0) rfl) (tc ⟨rfl, _, rfl, nNe rfl ?_⟩))⟩
    dsimp only [tNext]
    refine ⟨Nat.zero_le _, fun b nb => ?_⟩
    dsimp only [gName]
    have s1 := same_upd (o := .lst []) nb
    have e1 := upd_same (H := H) (a := b) (o := .lst [])
    generalize L2.upd H b (.lst []) = H1 at s1 e1 ⊢
    refine ⟨_, rfl, tc (ixk (sqt_same s1 e) (atI_nat (j := 1) rfl) ⟨a2, rfl, ⟨_, sqt_same s1 e2⟩, ?_⟩)⟩
    refine for_tupK (xs := xs) (fun i σ H' => ∃ (y : Option V) (us : List V), σ = [some (.ref a), some (.ref b), y] ∧ Same H H' ∧ H' b = some (.lst us) ∧ DpAll K H' us ((l.take i).map vD)) ⟨none, [], rfl, s1, e1, .nil⟩ (fun i σ H' h => ?_) ?_ ?_
    · obtain ⟨y, us, rfl, sm, _⟩ := h
      exact sqt_same sm e2
    · rintro i x σ H' hx ⟨y, us, rfl, sm, hb, du⟩
      have hul := DpAll_len du
      rw [List.length_map, List.length_take] at hul
      rw [plDs_map] at g
      obtain ⟨d, hd1, hd2⟩ := DpAll.getE g hx
      rw [List.getElem?_map] at hd1
      have hi := (List.getElem?_eq_some_iff.mp hx).1
      have hlt : i < l.length := by omega
      rw [List.getElem?_eq_getElem hlt] at hd1
      cases hd1
      have hm : l[i] ∈ l := List.getElem_mem hlt
      dsimp only [gName]
      refine ⟨_, rfl, .inl ⟨rfl, _, SqL.of hb⟩, _, rfl, x, l[i], rfl, Dp.same sm _ _ hd2, by have := dpPs_mem hm; omega, by have := szPs_mem hm; omega, fun v' H3 s3 d3 => ?_⟩
      have hb3 := s3 _ _ hb
      refine ⟨b, _, _, rfl, rfl, hb3, by show us.length < 2 ^ 24; omega, ?_⟩
      refine ⟨_, us ++ [v'], rfl, fun c o z => ?_, upd_same, ?_⟩
      · rw [upd_ne (ne_of_none z nb)]
        exact s3 _ _ (sm _ _ z)
      · rw [List.take_add_one, List.getElem?_eq_getElem hlt, List.map_append]
        have k := sqk_upd (K := K) (o := .lst (us ++ [v'])) hb3
        exact dpa_app (dpa_sqk k _ _ (noLs_map noL_v _) (DpAll.same s3 _ _ du)) (.cons (dp_sqk k _ _ (noL_v _) d3) .nil)
    · rintro σ H' ⟨y, us, rfl, sm, hb, du⟩
      rw [hxl, List.take_length] at du
      refine ⟨_, rfl, b, us, l, rfl, hb, du, fun v' H3 s3 d3 => q v' H3 (same_trans sm s3) ?_⟩
      simp only [vD]
      exact d3
theorem value_all {f : Addr} {fd : FuncData} (F : Dfn K mg "value_of" st_value_of f fd ["plain"]) (M : Mg mg) (Glist_of : Cal P w K mg base 2 "list_of" (spListOf K)) : ∀ n : Nat, Cal P w K mg base (n + 2) "value_of" (spValueOf K n)
  | 0 => value0 F
  | n + 1 => ok_value_of F M (Glist_of.mono (by omega)) (value_all F M Glist_of n)
/-! shown -/
theorem in_strsK {H : Hp} {p : Addr} {x : Str} {ls : List Str} {Q : VK} (hl : ls.all PyData.strOk = true) (hx : PyData.strOk x = true) (hp : SqT K H p (ls.map V.str)) (q : Q (.bl (decide (x ∈ ls))) H) : rInT K (.str x) (.ref p) H Q := by
  have d1 : Dp K H (.ref p) (.tuple (ls.map PyData.str)) := .tup hp (dt_strs ls).dp
  have lay : ∀ l : List Str, l.all PyData.strOk = true → PyData.canLayAll0 (l.map PyData.str) = true := by
    intro l
    induction l with
    | nil => intro _; simp [PyData.canLayAll0]
    | cons a l ih =>
      intro h
      rw [List.all_cons, Bool.and_eq_true] at h
      simp [PyData.canLayAll0, PyData.canLay0, h.1, ih h.2]
  have dep : ∀ l : List Str, PyData.depthAll (l.map PyData.str) ≤ 1 := by
    intro l
    induction l with
    | nil => simp [PyData.depthAll]
    | cons a l ih =>
      simp only [List.map_cons, PyData.depthAll, PyData.depth]
      omega
  refine ⟨.str x, _, .str _, d1, shp (by simp [PyData.canLay0, hx]) (by simp [PyData.depth]), shp (by simp [PyData.canLay0, lay ls hl]) (by have := dep ls; simp only [PyData.depth]; omega), ?_⟩
  have pls : ∀ l : List Str, plAll (l.map PyData.str) = true := by
    intro l
    induction l with
    | nil => rfl
    | cons a l ih => simp [plAll, pl, ih]
  have e : ((ls.map PyData.str).any fun z => PyData.eqv z (.str x)) = decide (x ∈ ls) := by
    rw [Bool.eq_iff_iff, any_pl (pls ls) rfl, decide_eq_true_iff]
    constructor
    · intro h
      obtain ⟨y, hy, e⟩ := List.mem_map.mp h
      cases e
      exact hy
    · intro h
      exact List.mem_map.mpr ⟨x, h, rfl⟩
  rw [e]
  exact q
theorem kinds_ok : (["number", "flag", "text"] : List Str).all PyData.strOk = true := by decide +kernel
theorem leaf_atom {H : Hp} {u : V} {p : Pl} (hp : isLst p = false) (hg : plG p) (h : Dp K H u p.vl) : AtomIs p.kd u (plT p) := by
  cases p with
  | lst l => cases hp
  | num i =>
    simp only [Pl.vl] at h
    rw [dp_int h]
    simp only [plG] at hg
    simp only [plT]
    refine .num i ?_
    by_cases e : i.natAbs = 0
    · rw [e]; decide
    · refine (Nat.log2_lt e).mpr (Nat.lt_of_lt_of_le hg ?_)
      decide +kernel
  | flg b =>
    simp only [Pl.vl] at h
    rw [dp_bl h]
    simp only [plT]
    exact .flg b
  | txt x =>
    simp only [Pl.vl] at h
    rw [dp_str h]
    simp only [plG] at hg
    simp only [plT]
    exact .txt x hg
def spShown (K : PySem.W.Frag) (n : Nat) : Sp := fun vs H Q _ => ∃ (v : V) (p : Pl), vs = [v] ∧ Dp K H v (vD p) ∧ plG p ∧ dpP p < n ∧ szP p ≤ 1000 ∧ ∀ H', Same H H' → Q (.str (S (plT p))) H'
theorem shown0 {f : Addr} {fd : FuncData} {k : Nat} (F : Dfn K mg "shown" st_shown f fd ["value"]) : Cal P w K mg base k "shown" (spShown K 0) := by
  have no : ∀ vs H Q E, ¬ spShown K 0 vs H Q E := fun vs H Q E h => by
    obtain ⟨_, _, _, _, _, h, _⟩ := h
    exact Nat.not_lt_zero _ h
  exact ⟨f, fd, _, ⟨fun vs H Q E h => absurd h (no vs H Q E), fun A outer s H args us vs Q E _ _ _ _ h => absurd h (no vs H Q E)⟩, F.mgf, F.fn.kp, F.b⟩
theorem ok_shown {f : Addr} {fd : FuncData} {n k : Nat} (F : Dfn K mg "shown" st_shown f fd ["value"]) (M : Mg mg) (T : TS8 K mg C fI pE pK) (Gshow_atom : Cal P w K mg base (k + 1) "show_atom" spAtom) (Gparts_of : Cal P w K mg base (k + 1) "parts_of" (spPartsOf K)) (Gshown : Cal P w K mg base (k + 1) "shown" (spShown K n)) : Cal P w K mg base (k + 2) "shown" (spShown K (n + 1)) := by
  refine cal_mk F scshown (fun vs H Q E h => ?_) (fun cdv A outer s H vs Q E hr h => ?_)
  · obtain ⟨v, p, rfl, _⟩ := h
    rfl
  obtain ⟨v, p, rfl, hv, hg, hd, hz, q⟩ := h
  have hsl : sizeLine = 16777216 := sizeLine_eq
  refine ⟨_, (pss_cons (ps_if (pt_cmpR (opInT K rfl (units65 hr)) (pe_ix (ixT K rfl) (pv 0) pe_int (fun _ _ => rfl)) (pe_glob (v := .ref pK) (by rfl) T.gPK rfl) (by rfl)) (pss_one (ps_ret (pe_c Gshow_atom hr (by omega) (by rfl) (pa_cons (pe_ix (ixT K rfl) (pv 0) pe_int (fun _ _ => rfl)) (pa_cons (pe_ix (ixT K rfl) (pv 0) pe_int (fun _ _ => rfl)) pa_nil))))) pss_nil)
      (pss_cons (ps_if (pt_cmpR op_eq (pe_ix (ixT K rfl) (pv 0) pe_int (fun _ _ => rfl)) pe_str (nomark _)) (pss_cons (ps_set (i := 1) scshown.nd rfl (.inl rfl) (pe_lst pa_nil))
      (pss_cons (ps_for PassesOwn.never rfl (pi_list (pe_c Gparts_of hr (by omega) (by rfl) (pa_cons (pv 0) pa_nil))) (pg_name (i := 2) scshown.nd rfl (.inl rfl))
      (pss_one (ps_expr (pe_bm PySem.F.plainAttrs_list PySem.F.slot_list_append PySem.F.type_list_append mt_append (pv 1) (pa_cons (pe_c Gshown hr (by omega) (by rfl) (pa_cons (pv 2) pa_nil)) pa_nil)))))
      (pss_one (ps_ret (pe_op op_add_str (pe_op op_add_str pe_str (pe_bm PySem.F.plainAttrs_str PySem.F.slot_str_join PySem.F.type_str_join mt_join pe_str (pa_cons (pv 1) pa_nil))) pe_str))))) pss_nil)
      (pss_one (ps_ret (pe_ifExp (pt_cmpR op_eq (pe_ix (ixT K rfl) (pv 0) pe_int (fun _ _ => rfl)) pe_str (nomark _)) pe_str pe_str))))), ?_⟩
  cases hp : isLst p with
  | false =>
    rw [vD_leaf hp] at hv
    obtain ⟨a, u, rfl, e, h2⟩ := leaf_at hp hv
    have hin : p.kd ∈ (["number", "flag", "text"] : List Str) := by
      cases p with
      | lst l => cases hp
      | num i => exact List.mem_cons_self
      | flg i => exact List.mem_cons_of_mem _ List.mem_cons_self
      | txt i => exact List.mem_cons_of_mem _ (List.mem_cons_of_mem _ List.mem_cons_self)
    have hok : PyData.strOk p.kd = true := List.all_eq_true.mp kinds_ok _ hin
    refine ⟨_, rfl, tc (ixk e (atI_nat (j := 0) rfl) (tc (in_strsK kinds_ok hok (T.kP H) ?_)))⟩
    refine ⟨_, rfl, dT hin ?_⟩
    refine ⟨_, rfl, tc (ixk e (atI_nat (j := 0) rfl) ?_)⟩
    refine ⟨_, rfl, tc (ixk e (atI_nat (j := 1) rfl) ?_)⟩
    exact ⟨p.kd, u, plT p, rfl, leaf_atom hp hg h2, q H (Same.refl H)⟩
  | true =>
    obtain ⟨l, rfl⟩ : ∃ l, p = .lst l := by
      cases p with
      | lst l => exact ⟨l, rfl⟩
      | _ => cases hp
    have hv' : Dp K H v (rD l) := by simpa only [vD] using hv
    obtain ⟨a, x, y, rfl, e, _⟩ := row_at hv'
    simp only [plG] at hg
    simp only [dpP] at hd
    simp only [szP] at hz
    have hll := szPs_len l
    refine ⟨_, rfl, tc (ixk e (atI_nat (j := 0) rfl) (tc (in_strsK kinds_ok (by decide +kernel) (T.kP H) ?_)))⟩
    refine ⟨_, rfl, dF (by decide +kernel) ?_⟩
    dsimp only [tNext]
    refine ⟨_, rfl, tc (ixk e (atI_nat (j := 0) rfl) (tc ⟨rfl, _, rfl, sEq rfl ?_⟩))⟩
    refine ⟨Nat.zero_le _, fun b nb => ?_⟩
    dsimp only [gName]
    have s1 := same_upd (o := .lst []) nb
    have e1 := upd_same (H := H) (a := b) (o := .lst [])
    generalize L2.upd H b (.lst []) = H1 at s1 e1 ⊢
    refine ⟨_, rfl, .ref a, l, rfl, Dp.same s1 _ _ hv', by omega, fun c us H2 s2 nc hc du => ⟨c, rfl, ⟨_, SqL.of hc⟩, ?_⟩⟩
    have hul := DpAll_len du
    rw [List.length_map] at hul
    have hcb : c ≠ b := (ne_of_none e1 nc).symm
    have hb2 := s2 _ _ e1
    have s12 := same_trans s1 s2
    have nc0 : H c = none := Same.nn s1 nc
    refine for_list (xs := us) (fun i σ H' => ∃ (y : Option V), σ = [some (.ref a), some (.ref b), y] ∧ Keep b H2 H' ∧ H' b = some (.lst ((((plTs l).take i).map S).map V.str))) ⟨none, rfl, Keep.refl _ _, hb2⟩ (fun i σ H' hi h => ?_) ?_ ?_
    · obtain ⟨y, rfl, kp, _⟩ := h
      exact SqL.of (kp _ _ hc hcb)
    · rintro i x2 σ H' hx ⟨y2, rfl, kp, hb⟩
      obtain ⟨d, hd1, hd2⟩ := DpAll.getE du hx
      rw [List.getElem?_map] at hd1
      have hi := (List.getElem?_eq_some_iff.mp hx).1
      have hlt : i < l.length := by omega
      rw [List.getElem?_eq_getElem hlt] at hd1
      cases hd1
      have hm : l[i] ∈ l := List.getElem_mem hlt
      have kq : SqK K H2 H' := fun a xs q => by
        rcases q with q | q
        · rcases q with q | ⟨o2, q⟩
          · exact .inl (.inl (kp _ _ q (ne_of q hb2 (fun z => nomatch z))))
          · exact .inl (.inr ⟨o2, kp _ _ q (ne_of q hb2 (fun z => nomatch z))⟩)
        · exact .inr q
      dsimp only [gName]
      refine ⟨_, rfl, .inl ⟨rfl, _, SqL.of hb⟩, _, rfl, x2, l[i], rfl, dp_sqk kq _ _ (noL_v _) hd2, plGs_mem hg hm, by have := dpPs_mem hm; omega, by have := szPs_mem hm; omega, fun H3 s3 => ?_⟩
      have hb3 := s3 _ _ hb
      refine ⟨b, _, _, rfl, rfl, hb3, by rw [List.length_map, List.length_map, List.length_take]; show _ < 2 ^ 24; omega, ?_⟩
      refine ⟨_, rfl, (kp.trans (Keep.same s3)).trans Keep.at, ?_⟩
      rw [upd_same, List.take_add_one, plTs_map, List.getElem?_map, List.getElem?_eq_getElem hlt, List.map_append, List.map_append]
      rfl
    · rintro σ H' ⟨y2, rfl, kp, hb⟩
      rw [hul, ← show (plTs l).length = l.length from by rw [plTs_map, List.length_map], List.take_length] at hb
      have hL := plTs_len l hg
      have hj := jn_len (tx " ") (plTs l)
      obtain ⟨e4, e5, e6, _⟩ := t1
      rw [e4] at hj
      have l3 : (" " : Str).length = 1 := by decide +kernel
      have l1 : ("(" : Str).length = 1 := by decide +kernel
      have l2 : (")" : Str).length = 1 := by decide +kernel
      have hle : (S (jn (tx " ") (plTs l))).length = (jn (tx " ") (plTs l)).length := len_S _
      refine ⟨rfl, _, rfl, _, b, (plTs l).map S, rfl, rfl, .inl (SqL.of hb), by rw [sum_S, l3, List.length_map]; omega, _, _, rfl, rfl, by rw [l1, join_jn, hle]; omega, _, _, rfl, rfl, by rw [Str.length_append, l1, l2, join_jn, hle]; omega, ?_⟩
      rw [join_jn, wrap "(" ")" (jn (tx " ") (plTs l))]
      have := q H' (fun c o z => kp _ _ (s12 _ _ z) (ne_of_none z nb))
      simp only [plT] at this
      exact this
theorem shown_all {f : Addr} {fd : FuncData} (F : Dfn K mg "shown" st_shown f fd ["value"]) (M : Mg mg) (T : TS8 K mg C fI pE pK) (Gshow_atom : Cal P w K mg base 1 "show_atom" spAtom) (Gparts_of : Cal P w K mg base 1 "parts_of" (spPartsOf K)) : ∀ n : Nat, Cal P w K mg base (n + 1) "shown" (spShown K n)
  | 0 => shown0 F
  | n + 1 => ok_shown F M T (Gshow_atom.mono (by omega)) (Gparts_of.mono (by omega)) (shown_all F M T Gshow_atom Gparts_of n)
def spShowPlain (K : PySem.W.Frag) (n : Nat) : Sp := fun vs H Q _ => ∃ (v : V) (p : Pl), vs = [v] ∧ Dp K H v (plD p) ∧ plG p ∧ dpP p < n ∧ szP p ≤ 1000 ∧ ∀ H', Same H H' → Q (.str (S (plT p))) H'
theorem ok_show_plain {f : Addr} {fd : FuncData} {n k : Nat} (F : Dfn K mg "show_plain" st_show_plain f fd ["value"]) (M : Mg mg) (Gvalue_of : Cal P w K mg base k "value_of" (spValueOf K n)) (Gshown : Cal P w K mg base k "shown" (spShown K n)) : Cal P w K mg base (k + 1) "show_plain" (spShowPlain K n) := by
  refine cal_mk F scshow_plain (fun vs H Q E h => ?_) (fun cdv A outer s H vs Q E hr h => ?_)
  · obtain ⟨v, p, rfl, _⟩ := h
    rfl
  obtain ⟨v, p, rfl, hv, hg, hd, hz, q⟩ := h
  refine ⟨_, (pss_one (ps_ret (pe_c Gshown hr (by omega) (by rfl) (pa_cons (pe_c Gvalue_of hr (by omega) (by rfl) (pa_cons (pv 0) pa_nil)) pa_nil)))), ?_⟩
  exact ⟨_, rfl, v, p, rfl, hv, hd, hz, fun v' H1 s1 d1 => ⟨v', p, rfl, d1, hg, hd, hz, fun H2 s2 => q H2 (same_trans s1 s2)⟩⟩
end
end W8
set_option Elab.async false
set_option linter.all false
set_option maxRecDepth 100000
set_option maxHeartbeats 4000000
namespace W8
open PySem PySem.Spec PyProof.Rows L2 Com Kb Tx SX ND
/-! syntax shown -/
def keyN (n : T) (sc : Bool) : NestedKey := nk (.tuple [.str (S n), scD sc])
theorem key_kd (n : T) (sc : Bool) : kd (.tuple [.str (S n), scD sc]) = true := by cases sc <;> rfl
theorem key_dep (n : T) (sc : Bool) : (keyN n sc).depth ≤ 8 := by
  cases sc
  · show NestedKey.depth (.tup [.text _, .tup []]) ≤ 8
    simp only [NestedKey.depth, NestedKey.depthAll]
    decide
  · show NestedKey.depth (.tup [.text _, .tup [.tup [.text _, .num _, .num _]]]) ≤ 8
    simp only [NestedKey.depth, NestedKey.depthAll]
    decide
/-- the dict at d numbers names as f does -/
def NumIs (P : Program) (w : World) (H : Hp) (d : Addr) (f : T → Bool → Option Int) : Prop := ∃ kvs, NDict P w H d kvs ∧ ∀ n sc, valN kvs (keyN n sc) = (f n sc).map V.int
theorem NumIs.same {P : Program} {w : World} {H H' : Hp} {d : Addr} {f : T → Bool → Option Int} (h : NumIs P w H d f) (s : Same H H') : NumIs P w H' d f := by
  obtain ⟨kvs, h1, h2⟩ := h
  exact ⟨kvs, h1.same s, h2⟩
theorem sy_id {H : Hp} {v : V} {n m : T} {p : Int} {sc : Bool} (h : Dt H v (syD (.id n m p sc))) : ∃ a x y b xs, v = .ref a ∧ H a = some (.tup [.str "id", .str (S n), x, y]) ∧ x = .ref b ∧ H b = some (.tup [.str (S m), .int p]) ∧ Dt H y (scD sc) ∧ xs = 0 := by
  simp only [syD] at h
  obtain ⟨a, xs, rfl, e, g⟩ := h.tupE
  obtain ⟨x1, r1, rfl, h1, g⟩ := g.consE
  obtain ⟨x2, r2, rfl, h2, g⟩ := g.consE
  obtain ⟨x3, r3, rfl, h3, g⟩ := g.consE
  obtain ⟨x4, r4, rfl, h4, g⟩ := g.consE
  cases g
  rw [h1.strE, h2.strE] at e
  unfold whD at h3
  obtain ⟨b, ys, rfl, e2, g2⟩ := h3.tupE
  obtain ⟨y1, r1, rfl, j1, g2⟩ := g2.consE
  obtain ⟨y2, r2, rfl, j2, g2⟩ := g2.consE
  cases g2
  rw [j1.strE, j2.intE] at e2
  exact ⟨a, _, x4, b, 0, rfl, e, rfl, e2, h4, rfl⟩
def isAt : Sy → Bool
  | .id _ _ _ _ => false
  | .lst _ _ _ => false
  | .num _ _ _ | .txt _ _ _ | .dots _ _ | .wild _ _ | .flg _ _ _ => true
theorem sy_atom {H : Hp} {v : V} {s : Sy} {f : T → Bool → Option Int} {n : Nat} (ha : isAt s = true) (ok : syOk n s) (h : Dt H v (syD s)) : ∃ a k u w, v = .ref a ∧ H a = some (.tup [.str "atom", .str k, u, w]) ∧ AtomIs k u (syT f s) := by
  have key : ∀ (k : Str) (d : PyData) (m : T) (p : Int), Dt H v (.tuple [.str "atom", .str k, d, whD m p]) → ∃ a u w, v = .ref a ∧ H a = some (.tup [.str "atom", .str k, u, w]) ∧ Dt H u d := by
    intro k d m p h
    obtain ⟨a, xs, rfl, e, g⟩ := h.tupE
    obtain ⟨x1, r1, rfl, h1, g⟩ := g.consE
    obtain ⟨x2, r2, rfl, h2, g⟩ := g.consE
    obtain ⟨x3, r3, rfl, h3, g⟩ := g.consE
    obtain ⟨x4, r4, rfl, h4, g⟩ := g.consE
    cases g
    rw [h1.strE, h2.strE] at e
    exact ⟨a, x3, x4, rfl, e, h3⟩
  cases s with
  | id n m p sc => cases ha
  | lst l m p => cases ha
  | num i m p =>
    simp only [syD] at h
    obtain ⟨a, u, w, rfl, e, hu⟩ := key _ _ _ _ h
    rw [hu.intE] at e
    simp only [syOk] at ok
    simp only [syT]
    refine ⟨a, _, _, w, rfl, e, .num i ?_⟩
    by_cases e : i.natAbs = 0
    · rw [e]; decide
    · exact (Nat.log2_lt e).mpr (Nat.lt_of_lt_of_le ok (by decide +kernel))
  | txt x m p =>
    simp only [syD] at h
    obtain ⟨a, u, w, rfl, e, hu⟩ := key _ _ _ _ h
    rw [hu.strE] at e
    simp only [syOk] at ok
    simp only [syT]
    exact ⟨a, _, _, w, rfl, e, .txt x ok⟩
  | dots m p =>
    simp only [syD] at h
    obtain ⟨a, u, w, rfl, e, hu⟩ := key _ _ _ _ h
    rw [hu.nonE] at e
    simp only [syT]
    exact ⟨a, _, _, w, rfl, e, .dots⟩
  | wild m p =>
    simp only [syD] at h
    obtain ⟨a, u, w, rfl, e, hu⟩ := key _ _ _ _ h
    rw [hu.nonE] at e
    simp only [syT]
    exact ⟨a, _, _, w, rfl, e, .wild⟩
  | flg b m p =>
    simp only [syD] at h
    obtain ⟨a, u, w, rfl, e, hu⟩ := key _ _ _ _ h
    rw [hu.blE] at e
    simp only [syT]
    exact ⟨a, _, _, w, rfl, e, .flg b⟩
theorem sy_lst {H : Hp} {v : V} {l : List Sy} {m : T} {p : Int} (h : Dt H v (syD (.lst l m p))) : ∃ a b w xs, v = .ref a ∧ H a = some (.tup [.str "list", .ref b, w]) ∧ H b = some (.tup xs) ∧ DtAll H xs (l.map syD) := by
  simp only [syD] at h
  obtain ⟨a, xs, rfl, e, g⟩ := h.tupE
  obtain ⟨x1, r1, rfl, h1, g⟩ := g.consE
  obtain ⟨x2, r2, rfl, h2, g⟩ := g.consE
  obtain ⟨x3, r3, rfl, h3, g⟩ := g.consE
  cases g
  rw [h1.strE] at e
  obtain ⟨b, ys, rfl, e2, g2⟩ := h2.tupE
  rw [syDs_map] at g2
  exact ⟨a, b, x3, ys, rfl, e, e2, g2⟩
section
variable {P : Program} {w : World} {K : PySem.W.Frag} {mg : Str → Option Value} {base : Heap} {C fI pE pK : Addr}
def spSyn (P : Program) (w : World) (n : Nat) : Sp := fun vs H Q _ => ∃ (v : V) (d : Addr) (s : Sy) (f : T → Bool → Option Int) (m : Nat), vs = [v, .ref d] ∧ Dt H v (syD s) ∧ syOk m s ∧ m < n ∧ m ≤ 4 ∧ NumIs P w H d f ∧ fOk f ∧ ∀ H', Same H H' → Q (.str (S (syT f s))) H'
def spParts (P : Program) (w : World) (n : Nat) : Sp := fun vs H Q _ => ∃ (b d : Addr) (xs : List V) (l : List Sy) (f : T → Bool → Option Int) (m : Nat), vs = [.ref b, .ref d] ∧ H b = some (.tup xs) ∧ DtAll H xs (l.map syD) ∧ syOks m l ∧ l.length ≤ 5 ∧ m < n ∧ m ≤ 4 ∧ NumIs P w H d f ∧ fOk f ∧ ∀ H', Same H H' → Q (.str (S (jn (tx " ") (syTs f l)))) H'
theorem syn0 {f : Addr} {fd : FuncData} {k : Nat} (F : Dfn K mg "_show_syntax" st__show_syntax f fd ["syntax", "numbers"]) : Cal P w K mg base k "_show_syntax" (spSyn P w 0) := by
  have no : ∀ vs H Q E, ¬ spSyn P w 0 vs H Q E := fun vs H Q E h => by
    obtain ⟨_, _, _, _, _, _, _, _, h, _⟩ := h
    exact Nat.not_lt_zero _ h
  exact ⟨f, fd, _, ⟨fun vs H Q E h => absurd h (no vs H Q E), fun A outer s H args us vs Q E _ _ _ _ h => absurd h (no vs H Q E)⟩, F.mgf, F.fn.kp, F.b⟩
theorem sb4 : SB 4 = 1294 := by decide
theorem sb_le {m : Nat} (h : m ≤ 4) : SB m ≤ 1294 := by
  have : m = 0 ∨ m = 1 ∨ m = 2 ∨ m = 3 ∨ m = 4 := by omega
  rcases this with rfl | rfl | rfl | rfl | rfl <;> decide
theorem ok_show_parts {f : Addr} {fd : FuncData} {n k : Nat} (F : Dfn K mg "_show_parts" st__show_parts f fd ["parts", "numbers"]) (M : Mg mg) (G_show_syntax : Cal P w K mg base k "_show_syntax" (spSyn P w n)) : Cal P w K mg base (k + 1) "_show_parts" (spParts P w n) := by
  refine cal_mk F sc_show_parts (fun vs H Q E h => ?_) (fun cdv A outer s H vs Q E hr h => ?_)
  · obtain ⟨b, d, xs, l, f, m, rfl, _⟩ := h
    rfl
  obtain ⟨b, d, xs, l, f, m, rfl, hb, dx, ok, hl, hm, hm4, hN, hf, q⟩ := h
  have hsl : sizeLine = 16777216 := sizeLine_eq
  have hxl := dx.len
  rw [List.length_map] at hxl
  refine ⟨_, (pss_cons (ps_set (i := 2) sc_show_parts.nd rfl (.inl rfl) (pe_lst pa_nil))
      (pss_cons (ps_for PassesOwn.never rfl (pi_tup (pv 0)) (pg_name (i := 3) sc_show_parts.nd rfl (.inl rfl))
      (pss_one (ps_expr (pe_bm PySem.F.plainAttrs_list PySem.F.slot_list_append PySem.F.type_list_append mt_append (pv 2) (pa_cons (pe_c G_show_syntax hr (by omega) (by rfl) (pa_cons (pv 3) (pa_cons (pv 1) pa_nil))) pa_nil)))))
      (pss_one (ps_ret (pe_bm PySem.F.plainAttrs_str PySem.F.slot_str_join PySem.F.type_str_join mt_join pe_str (pa_cons (pv 2) pa_nil)))))), ?_⟩
  refine ⟨Nat.zero_le _, fun c nc => ?_⟩
  dsimp only [gName]
  have s1 := same_upd (o := .lst []) nc
  have e1 := upd_same (H := H) (a := c) (o := .lst [])
  generalize L2.upd H c (.lst []) = H1 at s1 e1 ⊢
  refine ⟨_, rfl, b, rfl, ⟨_, SqT.of (s1 _ _ hb)⟩, ?_⟩
  refine for_tupK (xs := xs) (fun i σ H' => ∃ (y : Option V), σ = [some (.ref b), some (.ref d), some (.ref c), y] ∧ Same H H' ∧ H' c = some (.lst ((((syTs f l).take i).map S).map V.str))) ⟨none, rfl, s1, e1⟩ (fun i σ H' h => ?_) ?_ ?_
  · obtain ⟨y, rfl, sm, _⟩ := h
    exact SqT.of (sm _ _ hb)
  · rintro i x σ H' hx ⟨y, rfl, sm, hc⟩
    obtain ⟨z, hz, dz⟩ := dx.get_map hx
    have hi := (List.getElem?_eq_some_iff.mp hx).1
    have hzm := List.mem_of_getElem? hz
    dsimp only [gName]
    refine ⟨_, rfl, .inl ⟨rfl, _, SqL.of hc⟩, _, rfl, _, rfl, x, d, z, f, m, rfl, dz.tk (same_tk sm), syOks_mem ok hzm, hm, hm4, hN.same sm, hf, fun H3 s3 => ?_⟩
    have hc3 := s3 _ _ hc
    refine ⟨c, _, _, rfl, rfl, hc3, by rw [List.length_map, List.length_map, List.length_take]; show _ < 2 ^ 24; omega, ?_⟩
    refine ⟨_, rfl, fun a o e => ?_, ?_⟩
    · rw [upd_ne (ne_of_none e nc)]
      exact s3 _ _ (sm _ _ e)
    · rw [upd_same, List.take_add_one, syTs_map, List.getElem?_map, hz, List.map_append, List.map_append]
      rfl
  · rintro σ H' ⟨y, rfl, sm, hc⟩
    have hL := syTs_len hf l m ok
    have hj := jn_len (tx " ") (syTs f l)
    have h3 : (syTs f l).length = l.length := by rw [syTs_map, List.length_map]
    have h4 : l.length * SB m ≤ 5 * 1294 := Nat.mul_le_mul hl (sb_le hm4)
    rw [hxl, ← h3, List.take_length] at hc
    have l3 : (" " : Str).length = 1 := by decide +kernel
    refine ⟨rfl, _, rfl, _, c, (syTs f l).map S, rfl, rfl, .inl (SqL.of hc), by rw [sum_S, l3, List.length_map]; omega, ?_⟩
    rw [join_jn]
    exact q H' sm
theorem ok_show_syntax {f : Addr} {fd : FuncData} {n k : Nat} (F : Dfn K mg "_show_syntax" st__show_syntax f fd ["syntax", "numbers"]) (M : Mg mg) (Gshow_atom : Cal P w K mg base (k + 1) "show_atom" spAtom) (G_show_parts : Cal P w K mg base (k + 1) "_show_parts" (spParts P w n)) : Cal P w K mg base (k + 2) "_show_syntax" (spSyn P w (n + 1)) := by
  refine cal_mk F sc_show_syntax (fun vs H Q E h => ?_) (fun cdv A outer s H vs Q E hr h => ?_)
  · obtain ⟨v, d, x, f, m, rfl, _⟩ := h
    rfl
  obtain ⟨v, d, x, f, m, rfl, hv, ok, hm, hm4, hN, hf, q⟩ := h
  have hsl : sizeLine = 16777216 := sizeLine_eq
  refine ⟨_, (pss_cons (ps_if (pt_cmpR op_eq (pe_ix (ixT K rfl) (pv 0) pe_int (fun _ _ => rfl)) pe_str (nomark _)) (pss_one (ps_ret (pe_c Gshow_atom hr (by omega) (by rfl) (pa_cons (pe_ix (ixT K rfl) (pv 0) pe_int (fun _ _ => rfl)) (pa_cons (pe_ix (ixT K rfl) (pv 0) pe_int (fun _ _ => rfl)) pa_nil))))) pss_nil)
      (pss_cons (ps_if (pt_cmpR op_eq (pe_ix (ixT K rfl) (pv 0) pe_int (fun _ _ => rfl)) pe_str (nomark _)) (pss_cons (ps_set (i := 2) sc_show_syntax.nd rfl (.inl rfl) (pe_tup (pa_cons (pe_ix (ixT K rfl) (pv 0) pe_int (fun _ _ => rfl)) (pa_cons (pe_ix (ixT K rfl) (pv 0) pe_int (fun _ _ => rfl)) pa_nil))))
      (pss_cons (ps_if (pt_cmp (ND.pc_ninP (P := P) (w := w) rfl rfl (units9 hr) (pv 2) (pv 1))) (pss_one (ps_ret (pe_op op_add_str pe_str (pe_callTy call_str_int (by rfl) M.str b_str (pa_cons (ND.pe_ngetP (P := P) (w := w) rfl rfl (units9 hr) (pv 1) (pv 2) (fun _ _ => rfl)) pa_nil))))) pss_nil)
      (pss_cons (ps_asg (pe_ix (ixT K rfl) (pv 0) pe_int (fun _ _ => rfl)) (pg_tup rfl (pgs_cons (pg_name (i := 3) sc_show_syntax.nd rfl (.inl rfl)) (pgs_cons (pg_name (i := 4) sc_show_syntax.nd rfl (.inl rfl)) pgs_nil))))
      (pss_one (ps_ret (pe_joined (.cons (pe_fmt (pv 3)) (.cons pe_str (.cons (pe_fmt (pv 4)) .nil))))))))) pss_nil)
      (pss_one (ps_ret (pe_op op_add_str (pe_op op_add_str pe_str (pe_c G_show_parts hr (by omega) (by rfl) (pa_cons (pe_ix (ixT K rfl) (pv 0) pe_int (fun _ _ => rfl)) (pa_cons (pv 1) pa_nil)))) pe_str))))), ?_⟩
  cases ha : isAt x with
  | true =>
    obtain ⟨a, k2, u, wh, rfl, e, hat⟩ := sy_atom (f := f) ha ok hv
    refine ⟨_, rfl, tc (ixt e (atI_nat (j := 0) rfl) (tc ⟨rfl, _, rfl, sEq rfl ?_⟩))⟩
    refine ⟨_, rfl, tc (ixt e (atI_nat (j := 1) rfl) ?_)⟩
    refine ⟨_, rfl, tc (ixt e (atI_nat (j := 2) rfl) ?_)⟩
    exact ⟨k2, u, _, rfl, hat, q H (Same.refl H)⟩
  | false =>
    cases x with
    | num i m p => cases ha
    | txt i m p => cases ha
    | dots m p => cases ha
    | wild m p => cases ha
    | flg b m p => cases ha
    | id n2 m2 p sc =>
      obtain ⟨a, x, y, b, z, rfl, e, rfl, e2, dy, _⟩ := sy_id hv
      refine ⟨_, rfl, tc (ixt e (atI_nat (j := 0) rfl) (tc ⟨rfl, _, rfl, sNe (by decide +kernel) ?_⟩))⟩
      dsimp only [tNext]
      refine ⟨_, rfl, tc (ixt e (atI_nat (j := 0) rfl) (tc ⟨rfl, _, rfl, sEq rfl ?_⟩))⟩
      refine ⟨_, rfl, tc (ixt e (atI_nat (j := 1) rfl) ?_)⟩
      refine ⟨_, rfl, tc (ixt e (atI_nat (j := 3) rfl) ?_)⟩
      refine ⟨by show 2 ≤ sizeLine; decide, fun c nc => ?_⟩
      dsimp only [gName]
      have s1 := same_upd (o := .tup [.str (S n2), y]) nc
      have e1 := upd_same (H := H) (a := c) (o := .tup [.str (S n2), y])
      generalize L2.upd H c (.tup [.str (S n2), y]) = H1 at s1 e1 ⊢
      have dk : Dt H1 (.ref c) (.tuple [.str (S n2), scD sc]) := .tup e1 (.cons (.str _) (.cons (dy.tk (same_tk s1)) .nil))
      have nis := nis_of _ _ (key_kd n2 sc) dk
      obtain ⟨kvs, nd, hval⟩ := hN
      have nd1 := nd.same s1
      have hv2 := hval n2 sc
      simp only [syOk] at ok
      obtain ⟨ok1, ok2, ok3, ok4⟩ := ok
      have := q H1 s1
      simp only [syT] at this
      refine ⟨_, rfl, _, rfl, d, _, rfl, ⟨kvs, keyN n2 sc, c, nd1, rfl, nis, key_dep n2 sc, rfl⟩, _, rfl, ?_⟩
      rw [hv2]
      cases hf2 : f n2 sc with
      | some i =>
        rw [hf2] at this hv2
        have hi := hf n2 sc i hf2
        have hlog : i.natAbs.log2 < 10 := by
          by_cases e : i.natAbs = 0
          · rw [e]; decide
          · exact (Nat.log2_lt e).mpr (by omega)
        have hil := it_len10 (i := i) (k := 1) (by decide) (by omega)
        refine iteT ⟨_, rfl, _, rfl, d, _, rfl, ⟨kvs, keyN n2 sc, c, nd1, rfl, nis, key_dep n2 sc, hv2.symm⟩, _, rfl, by omega, _, _, rfl, rfl, ?_, ?_⟩
        · rw [show ((toString i : String) : Str) = S (it i) from rfl]
          have l1 : ("$" : Str).length = 1 := by decide +kernel
          have l2 : (S (it i)).length = (it i).length := len_S _
          omega
        · rw [show ((toString i : String) : Str) = S (it i) from rfl, lit_app "$" (it i)]
          exact this
      | none =>
        rw [hf2] at this
        refine iteF ?_
        dsimp only [tNext]
        refine ⟨_, rfl, tc (ixt (s1 _ _ e) (atI_nat (j := 2) rfl) ⟨b, _, rfl, SqT.of (s1 _ _ e2), rfl, ?_⟩)⟩
        dsimp only [gCons, gName, gNil]
        refine ⟨_, _, rfl, _, _, rfl, rfl, ?_⟩
        have hlog : p.natAbs.log2 < 10 := by
          by_cases e : p.natAbs = 0
          · rw [e]; decide
          · exact (Nat.log2_lt e).mpr (by omega)
        have hil := it_len10 (i := p) (k := 3) (by decide) (by omega)
        have l0 : (Str.empty : Str).length = 0 := rfl
        have l1 : ("@" : Str).length = 1 := by decide +kernel
        have hml : (S m2).length ≤ 5 := by rw [len_S]; exact ok2
        refine ⟨_, rfl, .inl ⟨_, rfl, by omega, _, rfl, by rw [Str.length_append]; omega, ?_⟩⟩
        dsimp only [tJs, tC]
        refine ⟨_, rfl, by rw [Str.length_append, Str.length_append]; omega, _, rfl, .inr ⟨_, rfl, by omega, _, rfl, ?_, ?_⟩⟩
        · rw [show ((toString p : String) : Str) = S (it p) from rfl, Str.length_append, Str.length_append, Str.length_append]
          have l2 : (S (it p)).length = (it p).length := len_S _
          omega
        · rw [show ((toString p : String) : Str) = S (it p) from rfl]
          rw [show ((Str.empty ++ S m2) ++ ("@" : Str)) ++ S (it p) = S (m2 ++ (tx "@" ++ it p)) from by
            rw [show (Str.empty : Str) = S [] from rfl, S_app, app_lit "@" _, S_app, List.nil_append, List.append_assoc]]
          exact this
    | lst l m2 p =>
      obtain ⟨a, b, wh, xs, rfl, e, e2, dx⟩ := sy_lst hv
      refine ⟨_, rfl, tc (ixt e (atI_nat (j := 0) rfl) (tc ⟨rfl, _, rfl, sNe (by decide +kernel) ?_⟩))⟩
      dsimp only [tNext]
      refine ⟨_, rfl, tc (ixt e (atI_nat (j := 0) rfl) (tc ⟨rfl, _, rfl, sNe (by decide +kernel) ?_⟩))⟩
      dsimp only [tNext]
      cases m with
      | zero => simp [syOk] at ok
      | succ m =>
        simp only [syOk] at ok
        have hL := syTs_len hf l m ok.2
        have hj := jn_len (tx " ") (syTs f l)
        have h3 : (syTs f l).length = l.length := by rw [syTs_map, List.length_map]
        have h4 : l.length * SB m ≤ 5 * 1294 := Nat.mul_le_mul (by omega) (sb_le (by omega))
        have l1 : ("(" : Str).length = 1 := by decide +kernel
        have l2 : (")" : Str).length = 1 := by decide +kernel
        obtain ⟨e4, e5, e6, _⟩ := t1
        rw [e4, h3] at hj
        have hle : (S (jn (tx " ") (syTs f l))).length = (jn (tx " ") (syTs f l)).length := len_S _
        refine ⟨_, rfl, tc (ixt e (atI_nat (j := 1) rfl) ?_)⟩
        refine ⟨_, rfl, b, d, xs, l, f, m, rfl, e2, dx, ok.2, by omega, by omega, by omega, hN, hf, fun H1 s1 => ?_⟩
        refine ⟨_, _, rfl, rfl, by rw [l1, hle]; omega, _, _, rfl, rfl, by rw [Str.length_append, l1, l2, hle]; omega, ?_⟩
        rw [wrap "(" ")" (jn (tx " ") (syTs f l))]
        have := q H1 s1
        simp only [syT] at this
        exact this
end
end W8
set_option Elab.async false
set_option linter.all false
set_option maxRecDepth 100000
set_option maxHeartbeats 4000000
namespace W8
open PySem PySem.Spec PyProof.Rows L2 Com Kb Tx SX ND
theorem scD_inj {a b : Bool} (h : scD a = scD b) : a = b := by cases a <;> cases b <;> first | rfl | (unfold scD at h; simp at h)
theorem key_inj {n n' : T} {sc sc' : Bool} (h : keyN n sc = keyN n' sc') : n = n' ∧ sc = sc' := by
  have := nk_inj _ _ (key_kd n sc) (key_kd n' sc') h
  simp only [PyData.tuple.injEq, List.cons.injEq, PyData.str.injEq, and_true] at this
  exact ⟨Tx.S_inj this.1, scD_inj this.2⟩
theorem row_new : ∀ i : Nat, i < 3 → ∀ r, rowAll[i]? = some r → rowF i r.1 r.2.1 = none
  | 0, _, r, _ => rfl
  | 1, _, r, h => by cases h; decide +kernel
  | 2, _, r, h => by cases h; decide +kernel
  | i + 3, h, _, _ => by omega
theorem row_next {i : Nat} {r : T × Bool × Int × Int} (h : rowAll[i]? = some r) (n : T) (sc : Bool) : rowF (i + 1) n sc = (match rowF i n sc with
    | some k => some k
    | none => if r.1 = n ∧ r.2.1 = sc then some r.2.2.1 else none) := by
  unfold rowF
  rw [List.take_add_one, h, List.find?_append]
  cases (rowAll.take i).find? fun r => decide (r.1 = n) && decide (r.2.1 = sc) with
  | some x => rfl
  | none =>
    simp only [Option.toList, Option.none_or, Option.map_none]
    by_cases e : r.1 = n ∧ r.2.1 = sc
    · rw [if_pos e, List.find?_cons_of_pos (by simp [e])]
      rfl
    · rw [if_neg e, List.find?_cons_of_neg (by simpa using e)]
      rfl
section
variable {P : Program} {w : World} {K : PySem.W.Frag} {mg : Str → Option Value} {base : Heap} {C fI pE pK : Addr}
theorem parts_all {f g : Addr} {fd fd2 : FuncData} (F : Dfn K mg "_show_syntax" st__show_syntax f fd ["syntax", "numbers"]) (F2 : Dfn K mg "_show_parts" st__show_parts g fd2 ["parts", "numbers"]) (M : Mg mg) (Gshow_atom : Cal P w K mg base 1 "show_atom" spAtom) : ∀ n : Nat, Cal P w K mg base (2 * n + 1) "_show_syntax" (spSyn P w n) ∧ Cal P w K mg base (2 * n + 2) "_show_parts" (spParts P w n)
  | 0 => ⟨syn0 F, ok_show_parts F2 M (syn0 F)⟩
  | n + 1 => by
    obtain ⟨_, h⟩ := parts_all F F2 M Gshow_atom n
    have h1 := ok_show_syntax (k := 2 * n + 1) F M (Gshow_atom.mono (by omega)) h
    exact ⟨h1, ok_show_parts F2 M h1⟩
/-! constants -/
def spConst (K : PySem.W.Frag) : Sp := fun vs H Q _ => ∃ (v : V) (p : Pl), vs = [v] ∧ Dt H v (plD p) ∧ lfOk (.const p) ∧ ∀ H', Same H H' → Q (.str (S (lfT (.const p)))) H'
theorem ok_show_const {f : Addr} {fd : FuncData} {k : Nat} (F : Dfn K mg "_show_const" st__show_const f fd ["plain"]) (M : Mg mg) (Gshow_plain : Cal P w K mg base k "show_plain" (spShowPlain K 3)) : Cal P w K mg base (k + 1) "_show_const" (spConst K) := by
  refine cal_mk F sc_show_const (fun vs H Q E h => ?_) (fun cdv A outer s H vs Q E hr h => ?_)
  · obtain ⟨v, p, rfl, _⟩ := h
    rfl
  obtain ⟨v, p, rfl, hv, ⟨h1, h2, h3⟩, q⟩ := h
  have hsl : sizeLine = 16777216 := sizeLine_eq
  refine ⟨_, (pss_cons (ps_set (i := 1) sc_show_const.nd rfl (.inl rfl) (pe_c Gshow_plain hr (by omega) (by rfl) (pa_cons (pv 0) pa_nil)))
      (pss_one (ps_ret (pe_ifExp (pt_cmpR op_eq (pe_ix (ixT K rfl) (pv 0) pe_int (fun _ _ => rfl)) pe_str (nomark _)) (pe_joined (.cons pe_str (.cons (pe_fmt (pv 1)) (.cons pe_str .nil)))) (pv 1))))), ?_⟩
  refine ⟨_, rfl, v, p, rfl, hv.dp, h1, by omega, by omega, fun H1 s1 => ?_⟩
  dsimp only [gName]
  have this := q H1 s1
  simp only [lfT] at this
  have hpl := plT_len p h1
  have hle : (S (plT p)).length = (plT p).length := len_S _
  cases hp : isLst p with
  | false =>
    obtain ⟨a, u, rfl, e, _⟩ := leaf_at (K := K) hp hv.dp
    rw [hp, if_neg (by decide)] at this
    exact ⟨_, rfl, tc (ixk (sqt_same s1 e) (atI_nat (j := 0) rfl) (tc ⟨rfl, _, rfl, sNe (kd_lst hp) ⟨_, rfl, this⟩⟩))⟩
  | true =>
    obtain ⟨l, rfl⟩ : ∃ l, p = .lst l := by
      cases p with
      | lst l => exact ⟨l, rfl⟩
      | _ => cases hp
    simp only [plD] at hv
    obtain ⟨a, xs, rfl, e, g⟩ := hv.tupE
    obtain ⟨x1, r1, rfl, j1, g⟩ := g.consE
    obtain ⟨x2, r2, rfl, j2, g⟩ := g.consE
    cases g
    rw [j1.strE] at e
    rw [hp, if_pos rfl] at this
    have l1 : ((Str.empty ++ ("(quote " : Str)).length) = 7 := by decide +kernel
    have l2 : (")" : Str).length = 1 := by decide +kernel
    refine ⟨_, rfl, tc (ixt (s1 _ _ e) (atI_nat (j := 0) rfl) (tc ⟨rfl, _, rfl, sEq rfl ?_⟩))⟩
    dsimp only [tJs, tC]
    refine ⟨_, rfl, by omega, _, rfl, .inl ⟨_, rfl, by omega, _, rfl, by rw [Str.length_append]; omega, ?_⟩⟩
    refine ⟨_, rfl, by rw [Str.length_append, Str.length_append]; omega, ?_⟩
    rw [show (Str.empty ++ ("(quote " : Str)) = ("(quote " : Str) from by decide +kernel, wrap "(quote " ")" (plT _)]
    exact this
/-! syntax in terms -/
def isSy : Lf → Bool
  | .syn _ | .rules _ _ _ | .pat _ _ _ | .tmpl _ _ => true
  | .const _ | .top _ _ _ _ _ | .prim _ => false
theorem kd_len {l : Lf} (h : isSy l = true) : l.kd.length ≤ 8 := by
  cases l with
  | syn s => exact (by decide +kernel : ("syntax" : Str).length ≤ 8)
  | rules l m p => exact (by decide +kernel : ("rules" : Str).length ≤ 8)
  | pat l m p => exact (by decide +kernel : ("pattern" : Str).length ≤ 8)
  | tmpl s k => exact (by decide +kernel : ("template" : Str).length ≤ 8)
  | _ => cases h
/-- what stands behind the kind -/
def lfR : Lf → List PyData
  | .syn s => [syD s]
  | .rules l m p => [.tuple [.str "list", .tuple (syDs l), whD m p]]
  | .pat l m p => [.tuple [.str "list", .tuple (syDs l), whD m p]]
  | .tmpl s k => [syD s, .tuple ((rowAll.take k).map rowD)]
  | .const p => [plD p]
  | .top m l n wm wp => [.str (S m), .int l, .int n, whD wm wp]
  | .prim x => [.str (S x)]
theorem lfD_eq (l : Lf) : lfD l = .tuple (.str l.kd :: lfR l) := by cases l <;> rfl
theorem inP_S (kind : Str) (t : T) : ((((("(" : Str) ++ kind) ++ (" " : Str)) ++ S t) ++ (")" : Str)) = S (tx "(" ++ (tx kind ++ (tx " " ++ (t ++ tx ")")))) := by
  rw [show kind = S (tx kind) from rfl, show ("(" : Str) = S (tx "(") from rfl, show (" " : Str) = S (tx " ") from rfl, show (")" : Str) = S (tx ")") from rfl, S_app, S_app, S_app, S_app]
  simp only [List.append_assoc]
  rfl
def lfF : Lf → T → Bool → Option Int
  | .tmpl _ k => rowF k
  | .syn _ | .rules _ _ _ | .pat _ _ _ | .const _ | .top _ _ _ _ _ | .prim _ => f0
def spSynIn : Sp := fun vs H Q _ => ∃ (v : V) (l : Lf), vs = [v] ∧ Dt H v (lfD l) ∧ isSy l = true ∧ lfOk l ∧ ∀ H', Same H H' → Q (.str (S (lfT l))) H'
theorem ok_show_syntax_in {f : Addr} {fd : FuncData} {k : Nat} (F : Dfn K mg "_show_syntax_in" st__show_syntax_in f fd ["term"]) (M : Mg mg) (G_show_parts : Cal P w K mg base k "_show_parts" (spParts P w 4)) : Cal P w K mg base (k + 1) "_show_syntax_in" spSynIn := by
  refine cal_mk F sc_show_syntax_in (fun vs H Q E h => ?_) (fun cdv A outer s H vs Q E hr h => ?_)
  · obtain ⟨v, l, rfl, _⟩ := h
    rfl
  obtain ⟨v, l, rfl, hv, hsy, ok, q⟩ := h
  have hsl : sizeLine = 16777216 := sizeLine_eq
  rw [lfD_eq] at hv
  obtain ⟨a, xs, rfl, e, g⟩ := hv.tupE
  obtain ⟨x1, xr, rfl, j1, g⟩ := g.consE
  rw [j1.strE] at e
  obtain ⟨kx, hk⟩ : ∃ kx : Str, kx = l.kd := ⟨_, rfl⟩
  rw [← hk] at e
  refine ⟨_, (pss_cons (ps_set (i := 1) sc_show_syntax_in.nd rfl (.inl rfl) (pe_ix (ixT K rfl) (pv 0) pe_int (fun _ _ => rfl)))
      (pss_cons (ps_set (i := 2) sc_show_syntax_in.nd rfl (.inl rfl) (ND.pe_nnewP (P := P) (w := w) rfl rfl))
      (pss_cons (ps_if (pt_cmpR op_eq (pv 1) pe_str (nomark _)) (pss_one (ps_for PassesOwn.never rfl (pi_tup (pe_ix (ixT K rfl) (pv 0) pe_int (fun _ _ => rfl))) (pg_tup rfl (pgs_cons (pg_name (i := 3) sc_show_syntax_in.nd rfl (.inl rfl)) (pgs_cons (pg_name (i := 4) sc_show_syntax_in.nd rfl (.inl rfl)) (pgs_cons (pg_name (i := 5) sc_show_syntax_in.nd rfl (.inl rfl)) (pgs_cons (pg_name (i := 6) sc_show_syntax_in.nd rfl (.inl rfl)) pgs_nil)))))
      (pss_one (ND.ps_nputP (P := P) (w := w) rfl rfl (units9 hr) (pv 2) (pe_tup (pa_cons (pv 3) (pa_cons (pv 4) pa_nil))) (pv 5) rfl)))) pss_nil)
      (pss_cons (ps_set (i := 7) sc_show_syntax_in.nd rfl (.inl rfl) (pe_tup (pa_cons (pe_ix (ixT K rfl) (pv 0) pe_int (fun _ _ => rfl)) pa_nil)))
      (pss_cons (ps_if (pt_cmpR op_eq (pv 1) pe_str (nomark _)) (pss_one (ps_set (i := 7) sc_show_syntax_in.nd rfl (.inl rfl) (pe_slice (slA K rfl) (pe_ix (ixT K rfl) (pe_ix (ixT K rfl) (pv 0) pe_int (fun _ _ => rfl)) pe_int (fun _ _ => rfl)) (po_some pe_int) po_none))) (pss_one (ps_if (pt_cmpR op_eq (pv 1) pe_str (nomark _)) (pss_one (ps_set (i := 7) sc_show_syntax_in.nd rfl (.inl rfl) (pe_ix (ixT K rfl) (pe_ix (ixT K rfl) (pv 0) pe_int (fun _ _ => rfl)) pe_int (fun _ _ => rfl)))) pss_nil)))
      (pss_one (ps_ret (pe_op op_add_str (pe_op op_add_str (pe_op op_add_str (pe_op op_add_str pe_str (pv 1)) pe_str) (pe_c G_show_parts hr (by omega) (by rfl) (pa_cons (pv 7) (pa_cons (pv 2) pa_nil)))) pe_str)))))))), ?_⟩
  refine ⟨_, rfl, tc (ixt e (atI_nat (j := 0) rfl) ?_)⟩
  dsimp only [gName]
  refine fun d nd => ?_
  have s1 := same_upd (o := ndO P w d []) nd
  have n1 : NDict P w (L2.upd H d (ndO P w d [])) d [] := NDict.new
  generalize L2.upd H d (ndO P w d []) = H1 at s1 n1 ⊢
  dsimp only [gName]
  -- the numbers
  refine seq_split (t1 := tIfS _ _ _) (fun σ' H' => ∃ (y3 y4 y5 y6 : Option V) (f : T → Bool → Option Int), σ' = [some (.ref a), some (.str kx), some (.ref d), y3, y4, y5, y6, none] ∧ Same H H' ∧ NumIs P w H' d f ∧ fOk f ∧ f = lfF l) ?_ (fun J => ?_)
  · rintro σ' H2 ⟨y3, y4, y5, y6, f, rfl, s2, hN, hf, hfl⟩
    cases xr with
    | nil => cases l <;> cases g
    | cons x2 xr2 =>
    have e2 := s2 _ _ e
    refine ⟨_, rfl, tc (ixt e2 (atI_nat (j := 1) rfl) ⟨by show 1 ≤ sizeLine; decide, fun p np => ?_⟩)⟩
    dsimp only [gName]
    have s3 := same_upd (o := .tup [x2]) np
    have e3 := upd_same (H := H2) (a := p) (o := .tup [x2])
    have s23 := same_trans s2 s3
    have g3 := g.tk (same_tk s23)
    have hN3 := hN.same s3
    generalize L2.upd H2 p (.tup [x2]) = H3 at s3 e3 s23 g3 hN3 ⊢
    have e30 := s23 _ _ e
    refine seq_split (t1 := tIfS _ _ _) (fun σ' H' => ∃ (pt : Addr) (ys : List V) (ps : List Sy), σ' = [some (.ref a), some (.str kx), some (.ref d), y3, y4, y5, y6, some (.ref pt)] ∧ Same H3 H' ∧ H' pt = some (.tup ys) ∧ DtAll H' ys (ps.map syD) ∧ syOks 3 ps ∧ ps.length ≤ 5 ∧ lfT l = inP kx (syTs f ps)) ?_ (fun J => ?_)
    · rintro σ' H4 ⟨pt, ys, ps, rfl, s4, e4, d4, ok4, hl4, ht⟩
      have hLs := syTs_len hf ps 3 ok4
      have h3 : (syTs f ps).length = ps.length := by rw [syTs_map, List.length_map]
      have hj := jn_len (tx " ") (syTs f ps)
      have h4 : ps.length * SB 3 ≤ 5 * SB 3 := Nat.mul_le_mul_right _ hl4
      rw [sb3] at hLs h4
      obtain ⟨t4, t5, t6, _⟩ := t1
      rw [t4, h3] at hj
      have l1 : ("(" : Str).length = 1 := by decide +kernel
      have l2 : (")" : Str).length = 1 := by decide +kernel
      have l3 : (" " : Str).length = 1 := by decide +kernel
      have l4 : kx.length ≤ 8 := by rw [hk]; exact kd_len hsy
      have hle : (S (jn (tx " ") (syTs f ps))).length = (jn (tx " ") (syTs f ps)).length := len_S _
      refine ⟨_, rfl, _, _, rfl, rfl, by rw [l1]; omega, _, _, rfl, rfl, by rw [Str.length_append, l1, l3]; omega, ?_⟩
      refine ⟨_, rfl, _, rfl, pt, d, ys, ps, f, 3, rfl, e4, d4, ok4, hl4, by decide, by decide, hN3.same s4, hf, fun H5 s5 => ?_⟩
      refine ⟨_, _, rfl, rfl, by rw [Str.length_append, Str.length_append, l1, l3, hle]; omega, _, _, rfl, rfl, by rw [Str.length_append, Str.length_append, Str.length_append, l1, l2, l3, hle]; omega, ?_⟩
      rw [inP_S]
      have := q H5 (same_trans s23 (same_trans s4 s5))
      rw [ht] at this
      exact this
    · cases l with
      | const p => cases hsy
      | top m l n wm wp => cases hsy
      | prim x => cases hsy
      | syn x =>
        have hk' : kx = ("syntax" : Str) := hk
        subst hk'
        simp only [lfR] at g3
        obtain ⟨z, zs, ez, j2, g4⟩ := g3.consE
        cases ez
        have hff : f = f0 := hfl
        subst hff
        refine ⟨_, rfl, rfl, _, rfl, sNe (by decide +kernel) ?_⟩
        refine ⟨_, rfl, rfl, _, rfl, sNe (by decide +kernel) ?_⟩
        dsimp only [tNext]
        exact J _ _ ⟨p, [x2], [x], rfl, Same.refl _, e3, .one j2, by simp only [syOks]; exact ⟨ok, True.intro⟩, by simp, by simp only [lfT, syTs]⟩
      | tmpl x kk =>
        have hk' : kx = ("template" : Str) := hk
        subst hk'
        simp only [lfR] at g3
        obtain ⟨z, zs, ez, j2, g4⟩ := g3.consE
        cases ez
        have hff : f = rowF kk := hfl
        subst hff
        refine ⟨_, rfl, rfl, _, rfl, sNe (by decide +kernel) ?_⟩
        refine ⟨_, rfl, rfl, _, rfl, sNe (by decide +kernel) ?_⟩
        dsimp only [tNext]
        exact J _ _ ⟨p, [x2], [x], rfl, Same.refl _, e3, .one j2, by simp only [syOks]; exact ⟨ok.1, True.intro⟩, by simp, by simp only [lfT, syTs]⟩
      | rules ps m pp =>
        have hk' : kx = ("rules" : Str) := hk
        subst hk'
        simp only [lfR] at g3
        obtain ⟨z, zs, ez, j2, g4⟩ := g3.consE
        cases ez
        have hff : f = f0 := hfl
        subst hff
        obtain ⟨b, ys, rfl, eb, gb⟩ := j2.tupE
        obtain ⟨z1, zs1, rfl, i1, gb⟩ := gb.consE
        obtain ⟨z2, zs2, rfl, i2, gb⟩ := gb.consE
        obtain ⟨c, ws, rfl, ec, gc⟩ := i2.tupE
        rw [syDs_map] at gc
        obtain ⟨o1, o2, o3⟩ := ok
        cases ps with
        | nil => simp at o1
        | cons p0 ps =>
          obtain ⟨w1, ws1, rfl, _, gc⟩ := gc.consE
          refine ⟨_, rfl, rfl, _, rfl, sEq rfl ?_⟩
          refine ⟨_, rfl, tc (ixt e30 (atI_nat (j := 1) rfl) (tc (ixt eb (atI_nat (j := 1) rfl) ?_)))⟩
          refine ⟨_, rfl, ?_⟩
          dsimp only [tNoPart]
          refine sl_from ec fun r nr => ?_
          have s5 := same_upd (o := .tup ws1) nr
          dsimp only [gName]
          refine J _ _ ⟨r, ws1, ps, rfl, s5, upd_same, gc.tk (same_tk s5), ?_, ?_, ?_⟩
          · simp only [syOks] at o3
            exact o3.2
          · simp only [List.length_cons] at o2
            omega
          · simp only [lfT, List.tail_cons]
      | pat ps m pp =>
        have hk' : kx = ("pattern" : Str) := hk
        subst hk'
        simp only [lfR] at g3
        obtain ⟨z, zs, ez, j2, g4⟩ := g3.consE
        cases ez
        have hff : f = f0 := hfl
        subst hff
        obtain ⟨b, ys, rfl, eb, gb⟩ := j2.tupE
        obtain ⟨z1, zs1, rfl, i1, gb⟩ := gb.consE
        obtain ⟨z2, zs2, rfl, i2, gb⟩ := gb.consE
        obtain ⟨c, ws, rfl, ec, gc⟩ := i2.tupE
        rw [syDs_map] at gc
        refine ⟨_, rfl, rfl, _, rfl, sNe (by decide +kernel) ?_⟩
        refine ⟨_, rfl, rfl, _, rfl, sEq rfl ?_⟩
        refine ⟨_, rfl, tc (ixt e30 (atI_nat (j := 1) rfl) (tc (ixt eb (atI_nat (j := 1) rfl) ?_)))⟩
        exact J _ _ ⟨c, ws, ps, rfl, Same.refl _, ec, gc, ok.2, ok.1, by simp only [lfT]⟩
  · cases ht : decide (kx = "template") with
    | false =>
      have hne := of_decide_eq_false ht
      refine ⟨_, rfl, rfl, _, rfl, sNe hne ?_⟩
      dsimp only [tNext]
      refine J _ _ ⟨none, none, none, none, f0, rfl, s1, ⟨[], n1, fun n sc => rfl⟩, f0_ok, ?_⟩
      cases l with
      | tmpl x kk => exact absurd hk hne
      | _ => rfl
    | true =>
      have hkt := of_decide_eq_true ht
      cases l with
      | tmpl x kk =>
        simp only [lfR] at g
        obtain ⟨z1, zs1, rfl, i1, g⟩ := g.consE
        obtain ⟨z2, zs2, rfl, i2, g⟩ := g.consE
        obtain ⟨c, ws, rfl, ec, gc⟩ := i2.tupE
        have hwl := gc.len
        refine ⟨_, rfl, rfl, _, rfl, sEq hkt ?_⟩
        refine ⟨_, rfl, tc (ixt (s1 _ _ e) (atI_nat (j := 2) rfl) ⟨c, rfl, ⟨_, SqT.of (s1 _ _ ec)⟩, ?_⟩)⟩
        refine for_tupK (xs := ws) (fun i σ H' => ∃ (y3 y4 y5 y6 : Option V) (kvs : List (NestedKey × Addr × V)), σ = [some (.ref a), some (.str kx), some (.ref d), y3, y4, y5, y6, none] ∧ Same H H' ∧ NDict P w H' d kvs ∧ kvs.length ≤ i ∧ ∀ n sc, valN kvs (keyN n sc) = (rowF i n sc).map V.int) ⟨none, none, none, none, [], rfl, s1, n1, Nat.le_refl _, fun n sc => rfl⟩ (fun i σ H' h => ?_) ?_ ?_
        · obtain ⟨_, _, _, _, kvs, rfl, sm, _⟩ := h
          exact SqT.of (sm _ _ ec)
        · rintro i x2 σ H' hx ⟨y3, y4, y5, y6, kvs, rfl, sm, nd2, hkl, hval⟩
          obtain ⟨r, hr1, dr⟩ := gc.get_map hx
          have hi := (List.getElem?_eq_some_iff.mp hr1).1
          rw [List.length_take] at hi
          have hi3 : i < 3 := by
            have : rowAll.length = 3 := rfl
            omega
          have hr2 : rowAll[i]? = some r := by
            rw [List.getElem?_take] at hr1
            split at hr1
            · exact hr1
            · cases hr1
          unfold rowD at dr
          obtain ⟨b, us, rfl, eb, gb⟩ := dr.tupE
          obtain ⟨u1, us1, rfl, v1, gb⟩ := gb.consE
          obtain ⟨u2, us2, rfl, v2, gb⟩ := gb.consE
          obtain ⟨u3, us3, rfl, v3, gb⟩ := gb.consE
          obtain ⟨u4, us4, rfl, v4, gb⟩ := gb.consE
          cases gb
          rw [v1.strE, v3.intE] at eb
          refine ⟨b, _, rfl, SqT.of (sm _ _ eb), rfl, ?_⟩
          dsimp only [gCons, gName, gNil]
          refine ⟨_, _, rfl, _, _, rfl, _, _, rfl, _, _, rfl, rfl, ?_⟩
          refine ⟨_, rfl, _, rfl, _, rfl, _, rfl, by show 2 ≤ sizeLine; decide, fun q nq => ?_⟩
          have s3 := same_upd (o := .tup [.str (S r.1), u2]) nq
          have e3 := upd_same (H := H') (a := q) (o := .tup [.str (S r.1), u2])
          have nd3 := nd2.same s3
          have sm3 := same_trans sm s3
          generalize L2.upd H' q (.tup [.str (S r.1), u2]) = H3 at s3 e3 nd3 sm3 ⊢
          have dk : Dt H3 (.ref q) (.tuple [.str (S r.1), scD r.2.1]) := .tup e3 (.cons (.str _) (.cons (v2.tk (same_tk sm3)) .nil))
          have nis := nis_of _ _ (key_kd r.1 r.2.1) dk
          have hno : valN kvs (keyN r.1 r.2.1) = none := by rw [hval, row_new i hi3 r hr2]; rfl
          refine ⟨d, q, kvs, keyN r.1 r.2.1, rfl, rfl, nd3, nis, key_dep _ _, by show kvs.length < 2 ^ 24; omega, ?_⟩
          refine ⟨_, _, _, _, putN kvs (keyN r.1 r.2.1) q (.int r.2.2.1), rfl, ?_, nd3.put nis (key_dep _ _), ?_, fun n sc => ?_⟩
          · intro b2 o2 z2
            rw [upd_ne (ne_of_none z2 nd)]
            exact sm3 _ _ z2
          · have := length_putN kvs (keyN r.1 r.2.1) q (.int r.2.2.1)
            omega
          · rw [putN_new hno, row_next hr2 n sc]
            have hv := hval n sc
            cases hrf : rowF i n sc with
            | some k2 =>
              rw [hrf] at hv
              rw [valN_some hv]
              rfl
            | none =>
              rw [hrf] at hv
              rw [valN_app (r := []) hv]
              by_cases ee : r.1 = n ∧ r.2.1 = sc
              · obtain ⟨rfl, rfl⟩ := ee
                rw [if_pos rfl, if_pos ⟨rfl, rfl⟩]
                rfl
              · rw [if_neg (fun z => ee (key_inj z)), if_neg ee]
                rfl
        · rintro σ H' ⟨y3, y4, y5, y6, kvs, rfl, sm, nd2, hkl, hval⟩
          have hwk : ws.length = kk := by
            rw [hwl, List.length_map, List.length_take]
            have : rowAll.length = 3 := rfl
            have := ok.2
            omega
          rw [hwk] at hval
          exact J _ _ ⟨y3, y4, y5, y6, rowF kk, rfl, sm, ⟨kvs, nd2, hval⟩, row_ok kk, rfl⟩
      | syn x => exact absurd (show ("syntax" : Str) = "template" from hk.symm.trans hkt) (by decide +kernel)
      | rules x m p => exact absurd (show ("rules" : Str) = "template" from hk.symm.trans hkt) (by decide +kernel)
      | pat x m p => exact absurd (show ("pattern" : Str) = "template" from hk.symm.trans hkt) (by decide +kernel)
      | const p => cases hsy
      | top m l n wm wp => cases hsy
      | prim x => cases hsy
end
end W8
set_option Elab.async false
set_option linter.all false
set_option maxRecDepth 100000
set_option maxHeartbeats 4000000
namespace W8
open PySem PySem.Spec PyProof.Rows L2 Com Kb Tx SX ND
/-! the names of local variables -/
def lnF : Nat → List Int → List (L2.Key × V)
  | _, [] => []
  | k, n :: r => (.inl n, .str (S (vn k))) :: lnF (k + 1) r
theorem lnF_app : ∀ (k : Nat) (a b : List Int), lnF k (a ++ b) = lnF k a ++ lnF (k + a.length) b
  | k, [], b => by simp [lnF]
  | k, n :: r, b => by
    rw [List.cons_append, lnF, lnF, lnF_app (k + 1) r b, List.cons_append, List.length_cons, show k + 1 + r.length = k + (r.length + 1) by omega]
theorem lnF_len : ∀ (k : Nat) (a : List Int), (lnF k a).length = a.length
  | _, [] => rfl
  | k, n :: r => by simp [lnF, lnF_len (k + 1) r]
theorem lnF_in : ∀ {k : Nat} {o : List Int} {n : Int}, n ∈ o → valV (lnF k o) (.inl n) = some (.str (S (vn (k + o.idxOf n))))
  | k, m :: r, n, h => by
    by_cases e : m = n
    · subst e
      rw [List.idxOf_cons_self]
      exact valV_pos rfl
    · rw [lnF, valV_neg (fun z => e (Sum.inl.inj z)), lnF_in ((List.mem_cons.mp h).resolve_left fun z => e z.symm)]
      have : List.idxOf n (m :: r) = List.idxOf n r + 1 := by
        rw [List.idxOf_cons, show (m == n) = false from beq_eq_false_iff_ne.mpr e]
        rfl
      rw [this, show k + 1 + List.idxOf n r = k + (List.idxOf n r + 1) by omega]
theorem lnF_no : ∀ {k : Nat} {o : List Int} {n : Int}, n ∉ o → valV (lnF k o) (.inl n) = none
  | k, [], n, _ => rfl
  | k, m :: r, n, h => by
    rw [lnF, valV_neg (fun z => h (by rw [Sum.inl.inj z]; exact List.mem_cons_self))]
    exact lnF_no fun z => h (List.mem_cons_of_mem _ z)
structure NamesAt (C : Addr) (H : Hp) (a dx ln tn : Addr) (o : List Int) : Prop where
  ins : H a = some (.ins C dx [("local_names", .ref ln), ("top_names", .ref tn)])
  lnD : H ln = some (.dK (lnF 0 o))
  tnD : H tn = some (.dT [])
theorem NamesAt.same {C : Addr} {H H' : Hp} {a dx ln tn : Addr} {o : List Int} (h : NamesAt C H a dx ln tn o) (s : Same H H') : NamesAt C H' a dx ln tn o := ⟨s _ _ h.ins, s _ _ h.lnD, s _ _ h.tnD⟩
theorem NamesAt.ne1 {C : Addr} {H : Hp} {a dx ln tn : Addr} {o : List Int} (h : NamesAt C H a dx ln tn o) : a ≠ ln := ne_of h.ins h.lnD (fun z => nomatch z)
theorem NamesAt.ne2 {C : Addr} {H : Hp} {a dx ln tn : Addr} {o : List Int} (h : NamesAt C H a dx ln tn o) : tn ≠ ln := ne_of h.tnD h.lnD (fun z => nomatch z)
theorem NamesAt.keep {C : Addr} {H H' : Hp} {a dx ln tn : Addr} {o o' : List Int} (h : NamesAt C H a dx ln tn o) (s : Keep ln H H') (e : H' ln = some (.dK (lnF 0 o'))) : NamesAt C H' a dx ln tn o' := ⟨s _ _ h.ins h.ne1, e, s _ _ h.tnD h.ne2⟩
theorem Keep.tkD {t : Addr} {H H' : Hp} {kvs : List (L2.Key × V)} (k : Keep t H H') (h : H t = some (.dK kvs)) : Tk H H' := fun b ys e => k b _ e (ne_of e h (fun z => nomatch z))
theorem stayD {K : PySem.W.Frag} {a t : Addr} {xs : List V} {H H' : Hp} {kvs : List (L2.Key × V)} (s : Keep t H H') (h : H t = some (.dK kvs)) : Stay K a xs H H' := by
  refine ⟨fun q => ?_, fun q => ?_⟩
  · rcases q with q | q
    · rcases q with q | ⟨o, q⟩
      · exact .inl (.inl (s _ _ q (ne_of q h (fun z => nomatch z))))
      · exact .inl (.inr ⟨o, s _ _ q (ne_of q h (fun z => nomatch z))⟩)
    · exact .inr q
  · rcases q with q | q
    · rcases q with q | ⟨o, q⟩
      · exact .inl (.inl (s _ _ q (ne_of q h (fun z => nomatch z))))
      · exact .inl (.inr ⟨o, s _ _ q (ne_of q h (fun z => nomatch z))⟩)
    · exact .inr q
section
variable {P : Program} {w : World} {K : PySem.W.Frag} {mg : Str → Option Value} {base : Heap} {C fI pE pK : Addr}
def spInit (C : Addr) : Sp := fun vs H Q _ => ∃ (a dx t : Addr), vs = [.ref a, .ref t] ∧ H a = some (.ins C dx []) ∧ H t = some (.dK []) ∧ a ≠ t ∧ ∀ ln tn H', Keep a H H' → NamesAt C H' a dx ln tn [] → H ln = none → H tn = none → Q .non H'
theorem ok_init {fd : FuncData} (F : Fun K "__init__" "Names.__init__" st_Names___init__ fI fd) (T : TS8 K mg C fI pE pK) : FnOk P w K mg base CX0 1 fI fd ["self", "tops"] (spInit C) := by
  refine F.ok scNames___init__ (fun vs H Q E h => ?_) (fun cdv A outer s H vs Q E hr h => ?_)
  · obtain ⟨a, dx, t, rfl, _⟩ := h
    rfl
  obtain ⟨a, dx, t, rfl, ha, ht, hat, q⟩ := h
  have hu := units1 hr
  refine ⟨_, (pss_cons (ps_fld (pv 0) pe_dnewK rfl)
      (pss_one (ps_fld (pv 0) (ND.pe_convT (pe_lock (pe_dc (own := [("key", 2)]) (g := gName 2) (by rfl) scNames___init__.nd (pi_keys (pv 1)) (blkOk_by (own := [("key", 2)]) (N := ["self", "tops", "key"]) (sc := defScope st_Names___init__) (by decide +kernel)) (fun _ _ _ _ _ => (pg_name (i := 2) scNames___init__.nd rfl (.inl rfl))) (fun _ _ _ _ _ => pts_nil) (fun _ _ _ _ _ => (pv 2)) (fun _ _ _ _ _ => (pe_dget hu (pv 1) (pv 2) (fun _ _ => rfl)))))) rfl))), ?_⟩
  intro ln nln
  have s1 := same_upd (o := .dK []) nln
  have e1 := upd_same (H := H) (a := ln) (o := .dK [])
  have ha1 := s1 _ _ ha
  have ht1 := s1 _ _ ht
  have hal : ln ≠ a := (ne_of_none ha nln).symm
  have htl : ln ≠ t := (ne_of_none ht nln).symm
  generalize L2.upd H ln (.dK []) = H1 at s1 e1 ha1 ht1 ⊢
  refine ⟨_, rfl, a, C, dx, [], rfl, ha1, T.cl, T.nL, by decide, ?_⟩
  have e2 := upd_same (H := H1) (a := a) (o := .ins C dx (putF "local_names" (.ref ln) []))
  have k2 : Keep a H1 (L2.upd H1 a (.ins C dx (putF "local_names" (.ref ln) []))) := Keep.at
  have ln2 := k2 _ _ e1 hal
  have ht2 := k2 _ _ ht1 (Ne.symm hat)
  generalize L2.upd H1 a (.ins C dx (putF "local_names" (.ref ln) [])) = H2 at e2 k2 ln2 ht2 ⊢
  refine ⟨t, .dK [], ht2, True.intro, fun od => ?_⟩
  refine ⟨_, rfl, t, od, rfl, .inl ⟨[], upd_same, fun D nD => ?_⟩⟩
  refine ⟨fun i m H' => i = 0 ∧ m = 0 ∧ H' = L2.upd (L2.upd H2 t (.frz od (.dK []))) D (.dK []), ⟨0, rfl, rfl, rfl⟩, ?_⟩
  rintro i m H' ⟨rfl, rfl, rfl⟩
  have hDt : D ≠ t := fun z => by rw [z, upd_same] at nD; cases nD
  have nD2 : H2 D = none := by rw [upd_ne hDt] at nD; exact nD
  refine .inl ⟨?_, ?_⟩
  · refine ⟨?_, Nat.zero_le _⟩
    rw [upd_ne hDt.symm]
    exact upd_same
  · refine ⟨by rw [upd_ne hDt.symm]; exact upd_same, D, rfl, by rw [upd_ne hDt, upd_same], ?_⟩
    -- the heap behind
    have hDa : D ≠ a := fun z => by rw [z, e2] at nD2; cases nD2
    have hDl : D ≠ ln := fun z => by rw [z, ln2] at nD2; cases nD2
    have nD0 : H D = none := Same.nn s1 (by
      cases z : H1 D with
      | none => rfl
      | some o => rw [k2 _ _ z hDa] at nD2; cases nD2)
    have kp : ∀ b o, H2 b = some o → b ≠ D → L2.upd (L2.upd (L2.upd (L2.upd H2 t (.frz od (.dK []))) D (.dK [])) t (.dK [])) D (.dT []) b = some o := fun b o hb hn => by
      rw [upd_ne hn]
      by_cases z : b = t
      · subst z
        rw [upd_same, ← ht2]
        exact hb
      · rw [upd_ne z, upd_ne hn, upd_ne z]
        exact hb
    have eD : L2.upd (L2.upd (L2.upd (L2.upd H2 t (.frz od (.dK []))) D (.dK [])) t (.dK [])) D (.dT []) D = some (.dT []) := upd_same
    generalize L2.upd (L2.upd (L2.upd (L2.upd H2 t (.frz od (.dK []))) D (.dK [])) t (.dK [])) D (.dT []) = H3 at kp eD ⊢
    refine ⟨_, rfl, a, C, dx, _, rfl, kp _ _ e2 hDa.symm, T.cl, T.nT, by show 1 < 1000; decide, ?_⟩
    have e4 := upd_same (H := H3) (a := a) (o := .ins C dx (putF "top_names" (V.ref D) (putF "local_names" (V.ref ln) [])))
    have hputs : putF "top_names" (V.ref D) (putF "local_names" (V.ref ln) []) = [(("local_names" : Str), V.ref ln), (("top_names" : Str), V.ref D)] := by
      have hne : ¬ (("local_names" : Str) = "top_names") := by decide +kernel
      simp only [putF, if_neg hne]
    refine q ln D _ (fun b o hb hn => ?_) ⟨by rw [upd_same, hputs], ?_, ?_⟩ nln nD0
    · have hbD : b ≠ D := fun z => by rw [z, nD0] at hb; cases hb
      rw [upd_ne hn]
      exact kp _ _ (k2 _ _ (s1 _ _ hb) hn) hbD
    · rw [upd_ne hal]
      exact kp _ _ ln2 hDl.symm
    · rw [upd_ne hDa]
      exact eD
/-! give -/
def spGive (C : Addr) (K : PySem.W.Frag) : Sp := fun vs H Q _ => ∃ (a dx ln tn t : Addr) (o ns : List Int), vs = [.ref a, .ref t] ∧ NamesAt C H a dx ln tn o ∧ Sq K H t (ns.map V.int) ∧ (o ++ ns).Nodup ∧ (o ++ ns).length < 50000 ∧ ns.length ≤ 3 ∧
  ∀ H', Keep ln H H' → NamesAt C H' a dx ln tn (o ++ ns) → Q (.str (S (jn (tx " ") (vns o.length ns)))) H'
theorem ok_give {f : Addr} {fd : FuncData} (F : DfnM K C "give" "Names.give" st_Names_give f fd ["self", "variables"]) (M : Mg mg) (T : TS8 K mg C fI pE pK) : CalM CX0 P w K mg base 1 C "give" (spGive C K) := by
  refine calm_mk F scNames_give (fun vs H Q E h => ?_) (fun cdv A outer s H vs Q E hr h => ?_)
  · obtain ⟨a, dx, ln, tn, t, o, ns, rfl, _⟩ := h
    rfl
  obtain ⟨a, dx, ln, tn, t, o, ns, rfl, hN, hS, hnd, hlen, h3, q⟩ := h
  have hsl : sizeLine = 16777216 := sizeLine_eq
  have hu := units1 hr
  rw [List.length_append] at hlen
  refine ⟨_, (pss_cons (ps_for PassesOwn.never rfl (Tx.pi_seq (K := K) rfl (pv 1)) (pg_name (i := 2) scNames_give.nd rfl (.inl rfl))
      (pss_one (ps_dput hu (Tx.pe_fldK (K := K) rfl (pv 0) rfl) (pv 2) (pe_joined (.cons pe_str (.cons (pe_fmt (pe_callB call_lenD (by rfl) M.len b_len (pa_cons (Tx.pe_fldK (K := K) rfl (pv 0) rfl) pa_nil))) .nil))) rfl)))
      (pss_one (ps_ret (pe_bm PySem.F.plainAttrs_str PySem.F.slot_str_join PySem.F.type_str_join mt_join pe_str (pa_cons (pe_lc (own := [("variable", 2)]) (g := gName 2) (by rfl) scNames_give.nd (Tx.pi_seq (K := K) rfl (pv 1)) (blkOk_by (own := [("variable", 2)]) (N := ["self", "variables", "variable"]) (sc := defScope st_Names_give) (by decide +kernel)) (fun _ _ _ _ _ => (pg_name (i := 2) scNames_give.nd rfl (.inl rfl))) (fun _ _ _ _ _ => pts_nil) (fun _ _ _ _ _ => (pe_dget hu (Tx.pe_fldK (K := K) rfl (pv 0) rfl) (pv 2) (fun _ _ => rfl)))) pa_nil))))), ?_⟩
  refine ⟨_, rfl, t, rfl, ?_⟩
  refine for_seqK hS (fun i σ H' => ∃ (y : Option V), σ = [some (.ref a), some (.ref t), y] ∧ Keep ln H H' ∧ NamesAt C H' a dx ln tn (o ++ ns.take i)) ⟨none, rfl, Keep.refl _ _, by rw [List.take_zero, List.append_nil]; exact hN⟩ (fun i σ H' h => ?_) ?_ ?_
  · obtain ⟨y, rfl, kp, _⟩ := h
    exact stayD kp hN.lnD
  · rintro i x σ H' hx ⟨y, rfl, kp, hN2⟩
    rw [List.getElem?_map] at hx
    obtain ⟨n, hn, rfl⟩ := Option.map_eq_some_iff.mp hx
    have hi := (List.getElem?_eq_some_iff.mp hn).1
    dsimp only [gName]
    have hl2 : (lnF 0 (o ++ ns.take i)).length = o.length + i := by rw [lnF_len, List.length_append, List.length_take, Nat.min_eq_left (by omega)]
    have hle1 : (it ((o.length + i : Nat) : Int)).length ≤ 6 := it_len10 (k := 5) (by decide) (by omega)
    have hlog : (((lnF 0 (o ++ ns.take i)).length : Nat) : Int).natAbs.log2 < 1920 := by
      rw [hl2]
      show (o.length + i).log2 < 1920
      by_cases e : o.length + i = 0
      · rw [e]; decide
      · exact Nat.lt_trans ((Nat.log2_lt e).mpr (show o.length + i < 2 ^ 20 by omega)) (by decide)
    have l1 : (Str.empty ++ ("v" : Str)).length = 1 := by decide +kernel
    have hnew : n ∉ o ++ ns.take i := by
      have h1 : (o ++ ns.take (i + 1)).Nodup := hnd.sublist (List.Sublist.append (List.Sublist.refl _) (List.take_sublist _ _))
      rw [List.take_add_one, hn, ← List.append_assoc] at h1
      exact fun z => (List.nodup_append.mp h1).2.2 n z n (List.mem_singleton.mpr rfl) rfl
    have hout : (Str.empty ++ ("v" : Str)) ++ Str.ofString (toString (((lnF 0 (o ++ ns.take i)).length : Nat) : Int)) = S (vn (o.length + i)) := by
      rw [hl2]
      show (Str.empty ++ ("v" : Str)) ++ S (it ((o.length + i : Nat) : Int)) = _
      rw [show (Str.empty ++ ("v" : Str)) = ("v" : Str) from by decide +kernel, lit_app "v" _]
      rfl
    dsimp only [sDPut, tJs, tC]
    refine ⟨_, rfl, by omega, ?_⟩
    refine ⟨_, rfl, a, C, dx, _, _, rfl, hN2.ins, T.cl, T.nL, rfl, ln, _, rfl, hN2.lnD, .inr ⟨_, rfl, hlog, _, rfl, ?_, ?_⟩⟩
    · rw [Str.length_append, hl2]
      have : (Str.ofString (toString ((o.length + i : Nat) : Int))).length ≤ 6 := by
        rw [show Str.ofString (toString ((o.length + i : Nat) : Int)) = S (it ((o.length + i : Nat) : Int)) from rfl, len_S]
        exact hle1
      omega
    · refine ⟨_, rfl, a, C, dx, _, _, rfl, hN2.ins, T.cl, T.nL, rfl, _, rfl, ln, _, rfl, DPut.k (k := .inl n) hN2.lnD (by omega), ?_⟩
      have hp : putK (lnF 0 (o ++ ns.take i)) (.inl n) (V.str (S (vn (o.length + i)))) = lnF 0 (o ++ ns.take (i + 1)) := by
        rw [putK_new _ (lnF_no hnew), List.take_add_one, hn, ← List.append_assoc, lnF_app 0 (o ++ ns.take i), Nat.zero_add, List.length_append, List.length_take, Nat.min_eq_left (by omega)]
        rfl
      have hout' : putK (lnF 0 (o ++ ns.take i)) (.inl n) (V.str ((Str.empty ++ ("v" : Str)) ++ Str.ofString (toString (((lnF 0 (o ++ ns.take i)).length : Nat) : Int)))) = lnF 0 (o ++ ns.take (i + 1)) := by rw [hout, hp]
      refine ⟨_, rfl, kp.trans Keep.at, hN2.keep Keep.at ?_⟩
      rw [upd_same]
      exact congrArg (fun z => some (HO.dK z)) hout'
  · rintro σ H' ⟨y, rfl, kp, hN2⟩
    rw [List.length_map, List.take_length] at hN2
    have hS2 : Sq K H' t (ns.map V.int) := hS.imp (stayD kp hN.lnD).1 (stayD kp hN.lnD).2
    refine ⟨rfl, ?_⟩
    refine ⟨_, rfl, t, rfl, ?_⟩
    refine lc_seqK hS2 (fun D i H2 => Same H' H2 ∧ H2 D = some (.lst ((((vns o.length ns).take i).map S).map V.str))) (fun D nD => ⟨same_upd nD, upd_same⟩) (fun D i H2 nD h => Stay.same h.1) ?_ ?_
    · rintro D i v H2 nD hv ⟨sm, hD⟩
      rw [List.getElem?_map] at hv
      obtain ⟨n, hn, rfl⟩ := Option.map_eq_some_iff.mp hv
      have hi := (List.getElem?_eq_some_iff.mp hn).1
      have hmem : n ∈ o ++ ns := List.mem_append_right _ (List.mem_of_getElem? hn)
      have hno : n ∉ o := fun z => by
        have := (List.nodup_append.mp hnd).2.2 n z n (List.mem_of_getElem? hn)
        exact this rfl
      have hnns : ns.Nodup := (List.nodup_append.mp hnd).2.1
      have hidx : (o ++ ns).idxOf n = o.length + i := by
        rw [List.idxOf_append, if_neg hno, Nat.add_comm]
        congr 1
        have e := (List.getElem?_eq_some_iff.mp hn).2
        rw [← e]
        exact hnns.idxOf_getElem i hi
      have hval : valV (lnF 0 (o ++ ns)) (.inl n) = some (.str (S (vn (o.length + i)))) := by rw [lnF_in hmem, hidx, Nat.zero_add]
      dsimp only [gName]
      refine ⟨rfl, ?_⟩
      unfold tYes
      refine iteT ?_
      have hN3 := hN2.same sm
      refine ⟨_, rfl, a, C, dx, _, _, rfl, hN3.ins, T.cl, T.nL, rfl, _, rfl, ln, .str (S (vn (o.length + i))), rfl, ?_, ?_⟩
      · have := DGet.k (k := .inl n) hN3.lnD
        rw [hval] at this
        exact this
      · refine ⟨_, hD, by rw [List.length_map, List.length_map, List.length_take, vns_len]; omega, ?_, ?_⟩
        · intro b2 o2 z2
          rw [upd_ne (ne_of_none z2 nD)]
          exact sm _ _ z2
        · rw [upd_same, List.take_add_one, List.map_append, List.map_append]
          have : (vns o.length ns)[i]? = some (vn (o.length + i)) := by
            unfold vns
            rw [List.getElem?_map, List.getElem?_range hi]
            rfl
          rw [this]
          rfl
    · rintro D H2 nD ⟨sm, hD⟩
      rw [List.length_map, ← vns_len o.length ns, List.take_length] at hD
      have hs := vns_sum (k := o.length) (ns := ns) (by omega)
      have l3 : (" " : Str).length = 1 := by decide +kernel
      refine ⟨_, D, (vns o.length ns).map S, rfl, rfl, .inl (SqL.of hD), by rw [sum_S, l3, List.length_map, vns_len]; omega, ?_⟩
      rw [join_jn]
      exact q H2 (kp.trans (Keep.same sm)) (hN2.same sm)
end
end W8
set_option Elab.async false
set_option linter.all false
set_option maxRecDepth 100000
set_option maxHeartbeats 4000000
namespace W8
open PySem PySem.Spec PyProof.Rows L2 Com Kb Tx SX ND
theorem log_small {i : Int} (h : i.natAbs < 100000) : i.natAbs.log2 < 1920 := by
  by_cases e : i.natAbs = 0
  · rw [e]; decide
  · exact Nat.lt_trans ((Nat.log2_lt e).mpr (show i.natAbs < 2 ^ 17 by omega)) (by decide)
section
variable {P : Program} {w : World} {K : PySem.W.Frag} {mg : Str → Option Value} {base : Heap} {C fI pE pK : Addr}
/-! name_of_top -/
def spTop (C : Addr) : Sp := fun vs H Q _ => ∃ (a dx ln tn : Addr) (o : List Int) (v : V) (m : T) (l n : Int) (wm : T) (wp : Int), vs = [.ref a, v] ∧ NamesAt C H a dx ln tn o ∧ Dt H v (lfD (.top m l n wm wp)) ∧ lfOk (.top m l n wm wp) ∧ ∀ H', Same H H' → Q (.str (S (lfT (.top m l n wm wp)))) H'
theorem ok_top {f : Addr} {fd : FuncData} (F : DfnM K C "name_of_top" "Names.name_of_top" st_Names_name_of_top f fd ["self", "term"]) (M : Mg mg) (T : TS8 K mg C fI pE pK) : CalM CX0 P w K mg base 1 C "name_of_top" (spTop C) := by
  refine calm_mk F scNames_name_of_top (fun vs H Q E h => ?_) (fun cdv A outer s H vs Q E hr h => ?_)
  · obtain ⟨a, dx, ln, tn, o, v, m, l, n, wm, wp, rfl, _⟩ := h
    rfl
  obtain ⟨a, dx, ln, tn, o, v, m, l, n, wm, wp, rfl, hN, hv, ok, q⟩ := h
  have hsl : sizeLine = 16777216 := sizeLine_eq
  have hu := units1 hr
  simp only [lfD] at hv
  obtain ⟨p, xs, rfl, e, g⟩ := hv.tupE
  obtain ⟨x1, r1, rfl, h1, g⟩ := g.consE
  obtain ⟨x2, r2, rfl, h2, g⟩ := g.consE
  obtain ⟨x3, r3, rfl, h3, g⟩ := g.consE
  obtain ⟨x4, r4, rfl, h4, g⟩ := g.consE
  obtain ⟨x5, r5, rfl, h5, g⟩ := g.consE
  cases g
  rw [h1.strE, h2.strE, h3.intE, h4.intE] at e
  obtain ⟨o1, o2, o3⟩ := ok
  have a1 := it_len10 (i := l) (k := 3) (by decide) (by omega)
  have a2 := it_len10 (i := n) (k := 3) (by decide) (by omega)
  refine ⟨_, (pss_cons (ps_asg (pv 1) (pg_tup rfl (pgs_cons (pg_name (i := 2) scNames_name_of_top.nd rfl (.inl rfl)) (pgs_cons (pg_name (i := 3) scNames_name_of_top.nd rfl (.inl rfl)) (pgs_cons (pg_name (i := 4) scNames_name_of_top.nd rfl (.inl rfl)) (pgs_cons (pg_name (i := 5) scNames_name_of_top.nd rfl (.inl rfl)) (pgs_cons (pg_name (i := 2) scNames_name_of_top.nd rfl (.inl rfl)) pgs_nil)))))))
      (pss_cons (ps_if (pt_cmp (pc_din hu (pe_tup (pa_cons (pv 3) (pa_cons (pv 4) (pa_cons (pv 5) pa_nil)))) (Tx.pe_fldK (K := K) rfl (pv 0) rfl))) (pss_one (ps_ret (pe_dget hu (Tx.pe_fldK (K := K) rfl (pv 0) rfl) (pe_tup (pa_cons (pv 3) (pa_cons (pv 4) (pa_cons (pv 5) pa_nil)))) (fun _ _ => rfl)))) pss_nil)
      (pss_one (ps_ret (pe_joined (.cons (pe_fmt (pv 3)) (.cons pe_str (.cons (pe_fmt (pv 4)) (.cons pe_str (.cons (pe_fmt (pv 5)) .nil)))))))))), ?_⟩
  refine ⟨_, rfl, p, _, rfl, SqT.of e, rfl, ?_⟩
  dsimp only [gCons, gName, gNil]
  refine ⟨_, _, rfl, _, _, rfl, _, _, rfl, _, _, rfl, _, _, rfl, rfl, ?_⟩
  refine ⟨_, rfl, _, rfl, _, rfl, by show 3 ≤ sizeLine; decide, fun c nc => ?_⟩
  have s1 := same_upd (o := .tup [.str (S m), .int l, .int n]) nc
  have e1 := upd_same (H := H) (a := c) (o := .tup [.str (S m), .int l, .int n])
  generalize L2.upd H c (.tup [.str (S m), .int l, .int n]) = H1 at s1 e1 ⊢
  have hN1 := hN.same s1
  refine ⟨_, rfl, a, C, dx, _, _, rfl, hN1.ins, T.cl, T.nT, rfl, tn, none, rfl, DGet.t (k := [.inr (S m), .inl l, .inl n]) hN1.tnD e1, _, rfl, iteF ?_⟩
  dsimp only [tNext]
  have l0 : (Str.empty : Str).length = 0 := rfl
  have l1 : (":" : Str).length = 1 := by decide +kernel
  have lm : (S m).length = m.length := len_S _
  have ll : (Str.ofString (toString l)).length = (it l).length := len_S _
  have lnn : (Str.ofString (toString n)).length = (it n).length := len_S _
  refine ⟨_, rfl, .inl ⟨_, rfl, by omega, _, rfl, by rw [Str.length_append]; omega, ?_⟩⟩
  dsimp only [tJs, tC]
  refine ⟨_, rfl, by rw [Str.length_append, Str.length_append]; omega, ?_⟩
  refine ⟨_, rfl, .inr ⟨_, rfl, log_small (by omega), _, rfl, by rw [Str.length_append, Str.length_append, Str.length_append]; omega, ?_⟩⟩
  refine ⟨_, rfl, by rw [Str.length_append, Str.length_append, Str.length_append, Str.length_append]; omega, ?_⟩
  refine ⟨_, rfl, .inr ⟨_, rfl, log_small (by omega), _, rfl, by rw [Str.length_append, Str.length_append, Str.length_append, Str.length_append, Str.length_append]; omega, ?_⟩⟩
  have ht : ((((Str.empty ++ S m) ++ (":" : Str)) ++ Str.ofString (toString l)) ++ (":" : Str)) ++ Str.ofString (toString n) = S (lfT (.top m l n wm wp)) := by
    rw [show (Str.empty : Str) = S [] from rfl, S_it, S_it, show (":" : Str) = S (tx ":") from rfl, S_app, S_app, S_app, S_app, S_app]
    simp only [lfT, List.nil_append, List.append_assoc]
  rw [ht]
  exact q H1 s1
/-! _show_leaf -/
def isLeaf : Tm → Bool
  | .lf _ | .loc _ _ _ => true
  | .fn _ _ | .lrec _ _ _ | .sq _ _ | .doo _ | .call _ _ _ _ => false
def spLeaf (C : Addr) : Sp := fun vs H Q _ => ∃ (v : V) (a dx ln tn : Addr) (o : List Int) (t : Tm), vs = [v, .ref a] ∧ NamesAt C H a dx ln tn o ∧ Dt H v (tmD t) ∧ isLeaf t = true ∧ tmOk 0 t ∧ ws t o ∧ ∀ H', Same H H' → Q (.str (S (tmT t o))) H'
theorem tm_at {H : Hp} {v : V} {k : Str} {ds : List PyData} (h : Dt H v (.tuple (.str k :: ds))) : ∃ p xs, v = .ref p ∧ H p = some (.tup (.str k :: xs)) ∧ DtAll H xs ds := by
  obtain ⟨p, xs, rfl, e, g⟩ := h.tupE
  obtain ⟨x1, r1, rfl, h1, g⟩ := g.consE
  rw [h1.strE] at e
  exact ⟨p, r1, rfl, e, g⟩
theorem ok_leaf {f : Addr} {fd : FuncData} {k : Nat} (F : Dfn K mg "_show_leaf" st__show_leaf f fd ["term", "names"]) (M : Mg mg) (T : TS8 K mg C fI pE pK) (Gname_of_top : CalM CX0 P w K mg base k C "name_of_top" (spTop C)) (G_show_const : Cal P w K mg base k "_show_const" (spConst K)) (G_show_syntax_in : Cal P w K mg base k "_show_syntax_in" spSynIn) : Cal P w K mg base (k + 1) "_show_leaf" (spLeaf C) := by
  refine cal_mk F sc_show_leaf (fun vs H Q E h => ?_) (fun cdv A outer s H vs Q E hr h => ?_)
  · obtain ⟨v, a, dx, ln, tn, o, t, rfl, _⟩ := h
    rfl
  obtain ⟨v, a, dx, ln, tn, o, t, rfl, hN, hv, hl, ok, hw, q⟩ := h
  have hu := units1 hr
  refine ⟨_, (pss_cons (ps_set (i := 2) sc_show_leaf.nd rfl (.inl rfl) (pe_ix (ixT K rfl) (pv 0) pe_int (fun _ _ => rfl)))
      (pss_cons (ps_if (pt_cmpR op_eq (pv 2) pe_str (nomark _)) (pss_one (ps_ret (pe_dget hu (Tx.pe_fldK (K := K) rfl (pv 1) rfl) (pe_ix (ixT K rfl) (pv 0) pe_int (fun _ _ => rfl)) (fun _ _ => rfl)))) pss_nil)
      (pss_cons (ps_if (pt_cmpR op_eq (pv 2) pe_str (nomark _)) (pss_one (ps_ret (pe_m (pv 1) T.cl Gname_of_top hr (by omega) L2.pass0 (pa_cons (pv 0) pa_nil)))) pss_nil)
      (pss_cons (ps_if (pt_cmpR op_eq (pv 2) pe_str (nomark _)) (pss_one (ps_ret (pe_c G_show_const hr (by omega) (by rfl) (pa_cons (pe_ix (ixT K rfl) (pv 0) pe_int (fun _ _ => rfl)) pa_nil)))) pss_nil)
      (pss_cons (ps_if (pt_cmpR op_eq (pv 2) pe_str (nomark _)) (pss_one (ps_ret (pe_ix (ixT K rfl) (pv 0) pe_int (fun _ _ => rfl)))) pss_nil)
      (pss_one (ps_ret (pe_c G_show_syntax_in hr (by omega) (by rfl) (pa_cons (pv 0) pa_nil))))))))), ?_⟩
  cases t with
  | fn ns b => cases hl
  | lrec ns ts b => cases hl
  | sq k l => cases hl
  | doo l => cases hl
  | call f l m p => cases hl
  | loc n m p =>
    simp only [tmD] at hv
    simp only [ws] at hw
    obtain ⟨c, xs, rfl, e, g⟩ := tm_at hv
    obtain ⟨x2, r2, rfl, h2, g⟩ := g.consE
    rw [h2.intE] at e
    refine ⟨_, rfl, tc (ixt e (atI_nat (j := 0) rfl) ?_)⟩
    dsimp only [gName]
    refine ⟨_, rfl, rfl, _, rfl, sEq rfl ?_⟩
    refine ⟨_, rfl, a, C, dx, _, _, rfl, hN.ins, T.cl, T.nL, rfl, _, rfl, tc (ixt e (atI_nat (j := 1) rfl) ⟨ln, .str (S (vn (0 + o.idxOf n))), rfl, ?_, ?_⟩)⟩
    · have := DGet.k (k := .inl n) hN.lnD
      rw [lnF_in hw] at this
      exact this
    · rw [Nat.zero_add]
      have := q H (Same.refl H)
      simp only [tmT] at this
      exact this
  | lf l =>
    simp only [tmD] at hv
    have hv0 := hv
    rw [lfD_eq] at hv
    have ok' : lfOk l := by simpa [tmOk] using ok
    have q' : ∀ H', Same H H' → Q (.str (S (lfT l))) H' := fun H' s' => by
      have := q H' s'
      simp only [tmT] at this
      exact this
    obtain ⟨c, xs, rfl, e, g⟩ := tm_at hv
    refine ⟨_, rfl, tc (ixt e (atI_nat (j := 0) rfl) ?_)⟩
    dsimp only [gName]
    cases l with
    | const p =>
      refine ⟨_, rfl, rfl, _, rfl, sNe (show ¬ (("const" : Str) = "local") by decide +kernel) ?_⟩
      dsimp only [tNext]
      refine ⟨_, rfl, rfl, _, rfl, sNe (show ¬ (("const" : Str) = "top") by decide +kernel) ?_⟩
      dsimp only [tNext]
      refine ⟨_, rfl, rfl, _, rfl, sEq rfl ?_⟩
      obtain ⟨x2, r2, rfl, h2, g⟩ := g.consE
      exact ⟨_, rfl, tc (ixt e (atI_nat (j := 1) rfl) ⟨x2, p, rfl, h2, ok', q'⟩)⟩
    | top m l n wm wp =>
      refine ⟨_, rfl, rfl, _, rfl, sNe (show ¬ (("top" : Str) = "local") by decide +kernel) ?_⟩
      dsimp only [tNext]
      refine ⟨_, rfl, rfl, _, rfl, sEq rfl ?_⟩
      exact ⟨_, rfl, a, dx, _, rfl, hN.ins, rfl, _, rfl, a, dx, ln, tn, o, .ref c, m, l, n, wm, wp, rfl, hN, hv0, ok', q'⟩
    | prim x =>
      refine ⟨_, rfl, rfl, _, rfl, sNe (show ¬ (("prim" : Str) = "local") by decide +kernel) ?_⟩
      dsimp only [tNext]
      refine ⟨_, rfl, rfl, _, rfl, sNe (show ¬ (("prim" : Str) = "top") by decide +kernel) ?_⟩
      dsimp only [tNext]
      refine ⟨_, rfl, rfl, _, rfl, sNe (show ¬ (("prim" : Str) = "const") by decide +kernel) ?_⟩
      dsimp only [tNext]
      refine ⟨_, rfl, rfl, _, rfl, sEq rfl ?_⟩
      obtain ⟨x2, r2, rfl, h2, g⟩ := g.consE
      rw [h2.strE] at e
      exact ⟨_, rfl, tc (ixt e (atI_nat (j := 1) rfl) (q' H (Same.refl H)))⟩
    | syn x =>
      refine ⟨_, rfl, rfl, _, rfl, sNe (show ¬ (("syntax" : Str) = "local") by decide +kernel) ?_⟩
      dsimp only [tNext]
      refine ⟨_, rfl, rfl, _, rfl, sNe (show ¬ (("syntax" : Str) = "top") by decide +kernel) ?_⟩
      dsimp only [tNext]
      refine ⟨_, rfl, rfl, _, rfl, sNe (show ¬ (("syntax" : Str) = "const") by decide +kernel) ?_⟩
      dsimp only [tNext]
      refine ⟨_, rfl, rfl, _, rfl, sNe (show ¬ (("syntax" : Str) = "prim") by decide +kernel) ?_⟩
      dsimp only [tNext]
      exact ⟨_, rfl, .ref c, .syn x, rfl, hv0, rfl, ok', q'⟩
    | rules x m p =>
      refine ⟨_, rfl, rfl, _, rfl, sNe (show ¬ (("rules" : Str) = "local") by decide +kernel) ?_⟩
      dsimp only [tNext]
      refine ⟨_, rfl, rfl, _, rfl, sNe (show ¬ (("rules" : Str) = "top") by decide +kernel) ?_⟩
      dsimp only [tNext]
      refine ⟨_, rfl, rfl, _, rfl, sNe (show ¬ (("rules" : Str) = "const") by decide +kernel) ?_⟩
      dsimp only [tNext]
      refine ⟨_, rfl, rfl, _, rfl, sNe (show ¬ (("rules" : Str) = "prim") by decide +kernel) ?_⟩
      dsimp only [tNext]
      exact ⟨_, rfl, .ref c, .rules x m p, rfl, hv0, rfl, ok', q'⟩
    | pat x m p =>
      refine ⟨_, rfl, rfl, _, rfl, sNe (show ¬ (("pattern" : Str) = "local") by decide +kernel) ?_⟩
      dsimp only [tNext]
      refine ⟨_, rfl, rfl, _, rfl, sNe (show ¬ (("pattern" : Str) = "top") by decide +kernel) ?_⟩
      dsimp only [tNext]
      refine ⟨_, rfl, rfl, _, rfl, sNe (show ¬ (("pattern" : Str) = "const") by decide +kernel) ?_⟩
      dsimp only [tNext]
      refine ⟨_, rfl, rfl, _, rfl, sNe (show ¬ (("pattern" : Str) = "prim") by decide +kernel) ?_⟩
      dsimp only [tNext]
      exact ⟨_, rfl, .ref c, .pat x m p, rfl, hv0, rfl, ok', q'⟩
    | tmpl x k =>
      refine ⟨_, rfl, rfl, _, rfl, sNe (show ¬ (("template" : Str) = "local") by decide +kernel) ?_⟩
      dsimp only [tNext]
      refine ⟨_, rfl, rfl, _, rfl, sNe (show ¬ (("template" : Str) = "top") by decide +kernel) ?_⟩
      dsimp only [tNext]
      refine ⟨_, rfl, rfl, _, rfl, sNe (show ¬ (("template" : Str) = "const") by decide +kernel) ?_⟩
      dsimp only [tNext]
      refine ⟨_, rfl, rfl, _, rfl, sNe (show ¬ (("template" : Str) = "prim") by decide +kernel) ?_⟩
      dsimp only [tNext]
      exact ⟨_, rfl, .ref c, .tmpl x k, rfl, hv0, rfl, ok', q'⟩
end
end W8
set_option Elab.async false
set_option linter.all false
set_option maxRecDepth 100000
set_option maxHeartbeats 4000000
namespace W8
open PySem PySem.Spec PyProof.Rows L2 Com Kb Tx SX ND
/-! pieces in the heap -/
inductive PcA (H : Hp) : V → Pc → Prop
  | txt (x : T) : PcA H (.str (S x)) (.inl x)
  | tm {v : V} {t : Tm} : Dt H v (tmD t) → PcA H v (.inr t)
inductive PcL (H : Hp) : List V → List Pc → Prop
  | nil : PcL H [] []
  | cons {v : V} {p : Pc} {vs : List V} {ps : List Pc} : PcA H v p → PcL H vs ps → PcL H (v :: vs) (p :: ps)
theorem PcA.tk {H H' : Hp} {v : V} {p : Pc} (h : PcA H v p) (k : Tk H H') : PcA H' v p := by
  cases h with
  | txt x => exact .txt x
  | tm d => exact .tm (d.tk k)
theorem PcL.tk {H H' : Hp} (k : Tk H H') : ∀ {vs : List V} {ps : List Pc}, PcL H vs ps → PcL H' vs ps
  | _, _, .nil => .nil
  | _, _, .cons h r => .cons (h.tk k) (r.tk k)
theorem PcL.app {H : Hp} : ∀ {vs ws : List V} {ps qs : List Pc}, PcL H vs ps → PcL H ws qs → PcL H (vs ++ ws) (ps ++ qs)
  | _, _, _, _, .nil, s => s
  | _, _, _, _, .cons h r, s => .cons h (r.app s)
theorem PcL.len {H : Hp} : ∀ {vs : List V} {ps : List Pc}, PcL H vs ps → vs.length = ps.length
  | _, _, .nil => rfl
  | _, _, .cons _ r => congrArg (· + 1) r.len
theorem PcL.one {H : Hp} {v : V} {p : Pc} (h : PcA H v p) : PcL H [v] [p] := .cons h .nil
theorem spR_snoc : ∀ (l : List Tm) (f : Bool) (t : Tm), spR f (l ++ [t]) = spR f l ++ (if l = [] ∧ f = true then [.inr t] else [.inl (tx " "), .inr t])
  | [], true, t => by simp [spR]
  | [], false, t => by simp [spR]
  | x :: r, true, t => by simp [spR, spR_snoc r false t]
  | x :: r, false, t => by simp [spR, spR_snoc r false t]
theorem rcR_snoc : ∀ (l : List Tm) (k : Nat) (f : Bool) (t : Tm), rcR k f (l ++ [t]) = rcR k f l ++ [.inl (if l = [] ∧ f = true then tx "(" else tx " ("), .inl (vn (k + l.length)), .inl (tx " "), .inr t, .inl (tx ")")]
  | [], k, f, t => by cases f <;> simp [rcR]
  | x :: r, k, f, t => by
    rw [List.cons_append, rcR, rcR_snoc r (k + 1) false t, rcR, List.length_cons, show k + 1 + r.length = k + (r.length + 1) by omega]
    simp
section
variable {P : Program} {w : World} {K : PySem.W.Frag} {mg : Str → Option Value} {base : Heap} {C fI pE pK : Addr}
/-! _spaced -/
def spSpaced (K : PySem.W.Frag) : Sp := fun vs H Q _ => ∃ (b : T) (a : Addr) (xs : List V) (l : List Tm), vs = [.str (S b), .ref a] ∧ Sq K H a xs ∧ DtAll H xs (l.map tmD) ∧ l.length ≤ 5 ∧ ∀ c us H', Same H H' → H c = none → H' c = some (.lst us) → PcL H' us (spd b l) → Q (.ref c) H'
theorem ok_spaced {f : Addr} {fd : FuncData} (F : Dfn K mg "_spaced" st__spaced f fd ["begin", "terms"]) (M : Mg mg) : Cal P w K mg base 1 "_spaced" (spSpaced K) := by
  refine cal_mk F sc_spaced (fun vs H Q E h => ?_) (fun cdv A outer s H vs Q E hr h => ?_)
  · obtain ⟨b, a, xs, l, rfl, _⟩ := h
    rfl
  obtain ⟨b, a, xs, l, rfl, hS, dx, hl, q⟩ := h
  have hxl := dx.len
  rw [List.length_map] at hxl
  refine ⟨_, (pss_cons (ps_set (i := 2) sc_spaced.nd rfl (.inl rfl) (pe_lst (pa_cons (pv 0) pa_nil)))
      (pss_cons (ps_for PassesOwn.never rfl (EnumT.pi_enumQ (by rfl) M.enumerate (pa_cons (pv 1) pa_nil)) (pg_tup rfl (pgs_cons (pg_name (i := 3) sc_spaced.nd rfl (.inl rfl)) (pgs_cons (pg_name (i := 4) sc_spaced.nd rfl (.inl rfl)) pgs_nil)))
      (pss_cons (ps_if (pt_cmpR op_gt (pv 3) pe_int (nomark _)) (pss_one (ps_expr (pe_bm PySem.F.plainAttrs_list PySem.F.slot_list_append PySem.F.type_list_append mt_append (pv 2) (pa_cons pe_str pa_nil)))) pss_nil)
      (pss_one (ps_expr (pe_bm PySem.F.plainAttrs_list PySem.F.slot_list_append PySem.F.type_list_append mt_append (pv 2) (pa_cons (pv 4) pa_nil))))))
      (pss_one (ps_ret (pe_lst (StX.pa_star (pv 2) (pa_cons pe_str pa_nil))))))), ?_⟩
  refine ⟨_, rfl, by show 1 ≤ sizeLine; decide, fun c nc => ?_⟩
  dsimp only [gName]
  have s1 := same_upd (o := .lst [.str (S b)]) nc
  have e1 := upd_same (H := H) (a := c) (o := .lst [.str (S b)])
  generalize L2.upd H c (.lst [.str (S b)]) = H1 at s1 e1 ⊢
  have len_sp : ∀ i, (spR true (l.take i)).length ≤ 10 := fun i => by
    have key : ∀ (m : List Tm) (f : Bool), (spR f m).length ≤ 2 * m.length := by
      intro m
      induction m with
      | nil => intro f; cases f <;> simp [spR]
      | cons x r ih =>
        intro f
        have := ih false
        cases f <;> simp only [spR, List.length_cons] <;> omega
    have := key (l.take i) true
    rw [List.length_take] at this
    omega
  refine ⟨_, rfl, a, xs, rfl, ?_⟩
  refine EnumT.for_enumQ hS s1 (fun i σ H' => ∃ (y3 y4 : Option V) (us : List V), σ = [some (.str (S b)), some (.ref a), some (.ref c), y3, y4] ∧ Same H H' ∧ H' c = some (.lst us) ∧ PcL H' us (.inl b :: spR true (l.take i))) ⟨none, none, [.str (S b)], rfl, s1, e1, .one (.txt b)⟩ (fun i σ H' h => ?_) ?_ ?_
  · obtain ⟨y3, y4, us, rfl, sm, _⟩ := h
    exact sm
  · rintro i x σ H' R hx ⟨y3, y4, us, rfl, sm, hc, du⟩ nR
    obtain ⟨z, hz, dz⟩ := dx.get_map hx
    have hi := (List.getElem?_eq_some_iff.mp hz).1
    have sR := same_upd (o := .tup [.int (i : Nat), x]) nR
    have eR := upd_same (H := H') (a := R) (o := .tup [.int (i : Nat), x])
    have sm2 := same_trans sm sR
    have hc2 := sR _ _ hc
    have du2 := du.tk (same_tk sR)
    generalize L2.upd H' R (.tup [.int (i : Nat), x]) = H2 at sR eR sm2 hc2 du2 ⊢
    have hul := du.len
    rw [List.length_cons] at hul
    have := len_sp i
    refine ⟨R, _, rfl, SqT.of eR, rfl, ?_⟩
    dsimp only [gCons, gName, gNil]
    refine ⟨_, _, rfl, _, _, rfl, rfl, ?_⟩
    -- a blank between
    refine seq_split (t1 := tIfS _ _ _) (fun σ' H3 => ∃ us, σ' = [some (.str (S b)), some (.ref a), some (.ref c), some (.int (i : Nat)), some x] ∧ Same H H3 ∧ H3 c = some (.lst us) ∧ PcL H3 us ((.inl b :: spR true (l.take i)) ++ (if l.take i = [] ∧ true = true then [] else [.inl (tx " ")]))) ?_ (fun J => ?_)
    · rintro σ' H3 ⟨us3, rfl, sm3, hc3, du3⟩
      have hul3 := du3.len
      have hif : ((if l.take i = [] ∧ true = true then [] else [.inl (tx " ")] : List Pc)).length ≤ 1 := by split <;> decide
      rw [List.length_append, List.length_cons] at hul3
      refine ⟨_, rfl, .inl ⟨rfl, _, SqL.of hc3⟩, _, rfl, c, _, _, rfl, rfl, hc3, by show us3.length < 2 ^ 24; omega, ?_⟩
      have kp : Keep c H3 (L2.upd H3 c (.lst (us3 ++ [x]))) := Keep.at
      have tk := kp.tk hc3
      refine ⟨_, _, _, rfl, fun b2 o2 z2 => ?_, upd_same, ?_⟩
      · rw [upd_ne (ne_of_none z2 nc)]
        exact sm3 _ _ z2
      · rw [List.take_add_one, hz]
        have h1 : spR true (l.take i ++ (some z).toList) = spR true (l.take i) ++ ((if l.take i = [] ∧ true = true then [] else [.inl (tx " ")]) ++ [.inr z]) := by
          rw [show (some z).toList = [z] from rfl, spR_snoc]
          split <;> rfl
        rw [h1, ← List.append_assoc, ← List.cons_append, ← List.cons_append]
        exact (du3.tk tk).app (.one (.tm ((dz.tk (same_tk sm3)).tk tk)))
    · refine ⟨_, rfl, _, _, rfl, rfl, _, rfl, ?_⟩
      by_cases h0 : 0 < i
      · refine dT (by omega) ?_
        refine ⟨_, rfl, .inl ⟨rfl, _, SqL.of hc2⟩, c, _, _, rfl, rfl, hc2, by show us.length < 2 ^ 24; omega, ?_⟩
        have kp : Keep c H2 (L2.upd H2 c (.lst (us ++ [.str " "]))) := Keep.at
        refine J _ _ ⟨_, rfl, fun b2 o2 z2 => ?_, upd_same, ?_⟩
        · rw [upd_ne (ne_of_none z2 nc)]
          exact sm2 _ _ z2
        · rw [if_neg (fun z => by
            have := congrArg List.length z.1
            rw [List.length_take, List.length_nil] at this
            omega)]
          exact (du2.tk (kp.tk hc2)).app (.one (.txt (tx " ")))
      · refine dF (by omega) ?_
        dsimp only [tNext]
        refine J _ _ ⟨_, rfl, sm2, hc2, ?_⟩
        have : i = 0 := by omega
        subst this
        rw [if_pos ⟨rfl, rfl⟩, List.append_nil]
        exact du2
  · rintro σ H' ⟨y3, y4, us, rfl, sm, hc, du⟩
    have hul := du.len
    rw [List.length_cons] at hul
    have := len_sp xs.length
    rw [hxl, List.take_length] at du
    refine ⟨_, rfl, c, us, rfl, .inr (SqL.of hc), ?_⟩
    dsimp only [tCons, tC, tNil]
    refine ⟨by rw [List.length_append, sizeLine_eq]; simp only [List.length_cons, List.length_nil]; omega, fun d nd => ?_⟩
    have sd := same_upd (o := .lst (us ++ [.str ")"])) nd
    refine q d _ _ (same_trans sm sd) (Same.nn sm nd) upd_same ?_
    exact (du.tk (same_tk sd)).app (.one (.txt (tx ")")))
end
end W8
set_option Elab.async false
set_option linter.all false
set_option maxRecDepth 100000
set_option maxHeartbeats 4000000
namespace W8
open PySem PySem.Spec PyProof.Rows L2 Com Kb Tx SX ND
/-! pairs of letrec -/
theorem prDs_get : ∀ {ns : List Int} {ts : List Tm} {i : Nat} {d : PyData}, (prDs ns ts)[i]? = some d → ∃ n t, ns[i]? = some n ∧ ts[i]? = some t ∧ d = .tuple [.int n, tmD t]
  | [], _, i, d, h => by simp [prDs] at h
  | _ :: _, [], i, d, h => by simp [prDs] at h
  | n :: ns, t :: ts, 0, d, h => by
    simp only [prDs, List.getElem?_cons_zero, Option.some.injEq] at h
    exact ⟨n, t, rfl, rfl, h.symm⟩
  | n :: ns, t :: ts, i + 1, d, h => by
    simp only [prDs, List.getElem?_cons_succ] at h
    obtain ⟨n', t', h1, h2, h3⟩ := prDs_get h
    exact ⟨n', t', by simpa using h1, by simpa using h2, h3⟩
theorem prDs_len : ∀ {ns : List Int} {ts : List Tm}, ts.length = ns.length → (prDs ns ts).length = ns.length
  | [], _, _ => by simp [prDs]
  | n :: ns, [], h => by simp at h
  | n :: ns, t :: ts, h => by
    simp only [prDs, List.length_cons]
    simp only [List.length_cons] at h
    rw [prDs_len (by omega)]
theorem rcR_len : ∀ (l : List Tm) (k : Nat) (f : Bool), (rcR k f l).length = 5 * l.length
  | [], k, f => rfl
  | t :: r, k, f => by
    simp only [rcR, List.length_cons, rcR_len r]
    omega
section
variable {P : Program} {w : World} {K : PySem.W.Frag} {mg : Str → Option Value} {base : Heap} {C fI pE pK : Addr}
/-! _show_rec -/
def spRec (C : Addr) : Sp := fun vs H Q _ => ∃ (v : V) (a dx ln tn : Addr) (o ns : List Int) (ts : List Tm) (b : Tm), vs = [v, .ref a] ∧ NamesAt C H a dx ln tn o ∧ Dt H v (tmD (.lrec ns ts b)) ∧ ts.length = ns.length ∧ ns.length ≤ 3 ∧ (o ++ ns).Nodup ∧ (o ++ ns).length < 50000 ∧
  ∀ c us H', Keep ln H H' → NamesAt C H' a dx ln tn (o ++ ns) → H c = none → H' c = some (.lst us) → PcL H' us (pcs (.lrec ns ts b) o) → Q (.ref c) H'
theorem ok_rec {f : Addr} {fd : FuncData} {k : Nat} (F : Dfn K mg "_show_rec" st__show_rec f fd ["term", "names"]) (M : Mg mg) (T : TS8 K mg C fI pE pK) (Ggive : CalM CX0 P w K mg base k C "give" (spGive C K)) : Cal P w K mg base (k + 1) "_show_rec" (spRec C) := by
  refine cal_mk F sc_show_rec (fun vs H Q E h => ?_) (fun cdv A outer s H vs Q E hr h => ?_)
  · obtain ⟨v, a, dx, ln, tn, o, ns, ts, b, rfl, _⟩ := h
    rfl
  obtain ⟨v, a, dx, ln, tn, o, ns, ts, b, rfl, hN, hv, hts, h3, hnd, hlen, q⟩ := h
  have hsl : sizeLine = 16777216 := sizeLine_eq
  have hu := units1 hr
  simp only [tmD] at hv
  obtain ⟨c, xs, rfl, e, g⟩ := tm_at hv
  obtain ⟨x1, xs, rfl, g1, g⟩ := g.consE
  obtain ⟨x2, xs, rfl, g2, g⟩ := g.consE
  cases g
  obtain ⟨pp, ps, rfl, ep, gp⟩ := g1.tupE
  have hpl := gp.len
  rw [prDs_len hts] at hpl
  refine ⟨_, (pss_cons (ps_expr (pe_m (pv 1) T.cl Ggive hr (by omega) L2.pass0 (pa_cons (pe_lc (own := [("variable", 4), ("_", 6)]) (g := gTup K 2 (gCons (gName 4) (gCons (gName 6) (gNil)))) (by rfl) sc_show_rec.nd (pi_tup (pe_ix (ixT K rfl) (pv 0) pe_int (fun _ _ => rfl))) (blkOk_by (own := [("variable", 4), ("_", 6)]) (N := ["term", "names", "pieces", "at", "variable", "part", "_"]) (sc := defScope st__show_rec) (by decide +kernel)) (fun _ _ _ _ _ => (pg_tup rfl (pgs_cons (pg_name (i := 4) sc_show_rec.nd rfl (.inl rfl)) (pgs_cons (pg_name (i := 6) sc_show_rec.nd rfl (.inl rfl)) pgs_nil)))) (fun _ _ _ _ _ => pts_nil) (fun _ _ _ _ _ => (pv 4))) pa_nil)))
      (pss_cons (ps_set (i := 2) sc_show_rec.nd rfl (.inl rfl) (pe_lst (pa_cons pe_str pa_nil)))
      (pss_cons (ps_for PassesOwn.never rfl (EnumT.pi_enumQ (by rfl) M.enumerate (pa_cons (pe_ix (ixT K rfl) (pv 0) pe_int (fun _ _ => rfl)) pa_nil)) (pg_tup rfl (pgs_cons (pg_name (i := 3) sc_show_rec.nd rfl (.inl rfl)) (pgs_cons (pg_tup rfl (pgs_cons (pg_name (i := 4) sc_show_rec.nd rfl (.inl rfl)) (pgs_cons (pg_name (i := 5) sc_show_rec.nd rfl (.inl rfl)) pgs_nil))) pgs_nil)))
      (pss_one (ps_expr (pe_bm PySem.F.plainAttrs_list PySem.F.slot_list_extend PySem.F.type_list_extend mt_extend (pv 2) (pa_cons (pe_lst (pa_cons (pe_ifExp (pt_cmpR op_gt (pv 3) pe_int (nomark _)) pe_str pe_str) (pa_cons (pe_dget hu (Tx.pe_fldK (K := K) rfl (pv 1) rfl) (pv 4) (fun _ _ => rfl)) (pa_cons pe_str (pa_cons (pv 5) (pa_cons pe_str pa_nil)))))) pa_nil)))))
      (pss_one (ps_ret (pe_lst (StX.pa_star (pv 2) (pa_cons pe_str (pa_cons (pe_ix (ixT K rfl) (pv 0) pe_int (fun _ _ => rfl)) (pa_cons pe_str pa_nil)))))))))), ?_⟩
  -- the names
  refine ⟨_, rfl, a, dx, _, rfl, hN.ins, rfl, ?_⟩
  refine ⟨_, rfl, tc (ixt e (atI_nat (j := 1) rfl) ⟨pp, rfl, ⟨_, SqT.of ep⟩, fun D nD => ?_⟩)⟩
  refine lc_tupK (xs := ps) (fun i H' => Same H H' ∧ H' D = some (.lst ((ns.take i).map V.int))) (fun i H' h => SqT.of (h.1 _ _ ep)) ⟨same_upd nD, upd_same⟩ ?_ ?_
  · rintro i y H' hy ⟨sm, hD⟩
    obtain ⟨d, hd1, hd2⟩ := gp.get hy
    obtain ⟨n, t, hn, ht, rfl⟩ := prDs_get hd1
    obtain ⟨p2, zs, rfl, e2, gz⟩ := hd2.tupE
    obtain ⟨z1, zs, rfl, j1, gz⟩ := gz.consE
    obtain ⟨z2, zs, rfl, j2, gz⟩ := gz.consE
    cases gz
    rw [j1.intE] at e2
    have hi := (List.getElem?_eq_some_iff.mp hn).1
    refine ⟨p2, _, rfl, SqT.of (sm _ _ e2), rfl, ?_⟩
    dsimp only [gCons, gName, gNil]
    refine ⟨_, _, rfl, _, _, rfl, rfl, rfl, ?_⟩
    unfold tYes
    refine iteT ?_
    refine ⟨_, rfl, _, hD, by rw [List.length_map, List.length_take]; omega, ?_, ?_⟩
    · intro b2 o2 q2
      rw [upd_ne (ne_of_none q2 nD)]
      exact sm _ _ q2
    · rw [upd_same, List.take_add_one, hn, List.map_append]
      rfl
  · rintro H1 ⟨sm, hD⟩
    rw [hpl, List.take_length] at hD
    refine ⟨a, dx, ln, tn, D, o, ns, rfl, hN.same sm, .inl (SqL.of hD), hnd, hlen, h3, fun H2 kp hN2 => ?_⟩
    have nD2 : ∀ b o', H b = some o' → b ≠ ln → H2 b = some o' := fun b o' q2 hb => kp _ _ (sm _ _ q2) hb
    have ecl : c ≠ ln := ne_of e hN.lnD (fun z => nomatch z)
    have epl : pp ≠ ln := ne_of ep hN.lnD (fun z => nomatch z)
    have e2 := nD2 _ _ e ecl
    have ep2 := nD2 _ _ ep epl
    have tk2 : Tk H H2 := fun b ys q2 => nD2 b _ q2 (ne_of q2 hN.lnD (fun z => nomatch z))
    refine ⟨Nat.succ_le_of_lt (by decide), fun L nL => ?_⟩
    dsimp only [gName]
    have s3 := same_upd (o := .lst [.str "(letrec ("]) nL
    have e3 := upd_same (H := H2) (a := L) (o := .lst [.str "(letrec ("])
    generalize L2.upd H2 L (.lst [.str "(letrec ("]) = H3 at s3 e3 ⊢
    refine ⟨_, rfl, tc (ixt (s3 _ _ e2) (atI_nat (j := 1) rfl) ⟨pp, ps, rfl, ?_⟩)⟩
    refine EnumT.for_enumQ (H0 := H2) (.inr (SqT.of ep2)) s3 (fun i σ H' => ∃ (y3 y4 y5 : Option V) (us : List V), σ = [some (.ref c), some (.ref a), some (.ref L), y3, y4, y5, none] ∧ Same H2 H' ∧ H' L = some (.lst us) ∧ PcL H' us (.inl (tx "(letrec (") :: rcR o.length true (ts.take i))) ⟨none, none, none, _, rfl, s3, e3, .one (.txt _)⟩ (fun i σ H' h => ?_) ?_ ?_
    · obtain ⟨_, _, _, us, rfl, sm, _⟩ := h
      exact sm
    · rintro i x σ H' R hx ⟨y3, y4, y5, us, rfl, sm4, hL, du⟩ nR
      obtain ⟨d, hd1, hd2⟩ := gp.get hx
      obtain ⟨n, t, hn, ht, rfl⟩ := prDs_get hd1
      obtain ⟨p2, zs, rfl, eb, gz⟩ := hd2.tupE
      obtain ⟨z1, zs, rfl, j1, gz⟩ := gz.consE
      obtain ⟨z2, zs, rfl, j2, gz⟩ := gz.consE
      cases gz
      rw [j1.intE] at eb
      have hi := (List.getElem?_eq_some_iff.mp hn).1
      have eb2 := nD2 _ _ eb (ne_of eb hN.lnD (fun z => nomatch z))
      have sR := same_upd (o := .tup [.int (i : Nat), .ref p2]) nR
      have eR := upd_same (H := H') (a := R) (o := .tup [.int (i : Nat), .ref p2])
      have sm5 := same_trans sm4 sR
      have hL5 := sR _ _ hL
      have du5 := du.tk (same_tk sR)
      generalize L2.upd H' R (.tup [.int (i : Nat), .ref p2]) = H5 at sR eR sm5 hL5 du5 ⊢
      have hul := du.len
      rw [List.length_cons, rcR_len, List.length_take] at hul
      refine ⟨R, _, rfl, SqT.of eR, rfl, ?_⟩
      dsimp only [gCons, gName, gNil]
      refine ⟨_, _, rfl, _, _, rfl, ⟨p2, _, rfl, SqT.of (sm5 _ _ eb2), rfl, ?_⟩⟩
      dsimp only [gCons, gName, gNil]
      refine ⟨_, _, rfl, _, _, rfl, rfl, rfl, ?_⟩
      have hN5 := hN2.same sm5
      have hmem : n ∈ o ++ ns := List.mem_append_right _ (List.mem_of_getElem? hn)
      have hno : n ∉ o := fun z => by
        have := (List.nodup_append.mp hnd).2.2 n z n (List.mem_of_getElem? hn)
        exact this rfl
      have hnns : ns.Nodup := (List.nodup_append.mp hnd).2.1
      have hidx : (o ++ ns).idxOf n = o.length + i := by
        rw [List.idxOf_append, if_neg hno, Nat.add_comm]
        congr 1
        have e := (List.getElem?_eq_some_iff.mp hn).2
        rw [← e]
        exact hnns.idxOf_getElem i hi
      have hval : valV (lnF 0 (o ++ ns)) (.inl n) = some (.str (S (vn (o.length + i)))) := by rw [lnF_in hmem, hidx, Nat.zero_add]
      have hsp : ∀ z : Tx.T, z = (if ts.take i = [] ∧ true = true then tx "(" else tx " (") → PcL H5 ([.str (S z), .str (S (vn (o.length + i))), .str " ", z2, .str ")"]) [.inl (if ts.take i = [] ∧ true = true then tx "(" else tx " ("), .inl (vn (o.length + (ts.take i).length)), .inl (tx " "), .inr t, .inl (tx ")")] := fun z hz => by
        rw [hz, List.length_take, Nat.min_eq_left (by omega)]
        exact .cons (.txt _) (.cons (.txt _) (.cons (.txt (tx " ")) (.cons (.tm ((j2.tk tk2).tk (same_tk sm5))) (.one (.txt (tx ")"))))))
      have hfin : ∀ (z : Tx.T) (D : Addr), H5 D = none → z = (if ts.take i = [] ∧ true = true then tx "(" else tx " (") → ∃ (y3 y4 y5 : Option V) (us' : List V), [some (.ref c), some (.ref a), some (.ref L), some (.int (i : Nat)), some (.int n), some z2, none] = [some (.ref c), some (.ref a), some (.ref L), y3, y4, y5, none] ∧ Same H2 (L2.upd (L2.upd H5 D (.lst [.str (S z), .str (S (vn (o.length + i))), .str " ", z2, .str ")"])) L (.lst (us ++ [.str (S z), .str (S (vn (o.length + i))), .str " ", z2, .str ")"]))) ∧ (L2.upd (L2.upd H5 D (.lst [.str (S z), .str (S (vn (o.length + i))), .str " ", z2, .str ")"])) L (.lst (us ++ [.str (S z), .str (S (vn (o.length + i))), .str " ", z2, .str ")"]))) L = some (.lst us') ∧
          PcL (L2.upd (L2.upd H5 D (.lst [.str (S z), .str (S (vn (o.length + i))), .str " ", z2, .str ")"])) L (.lst (us ++ [.str (S z), .str (S (vn (o.length + i))), .str " ", z2, .str ")"]))) us' (.inl (tx "(letrec (") :: rcR o.length true (ts.take (i + 1))) := fun z D nD5 hz => by
        have s6 := same_upd (o := .lst [.str (S z), .str (S (vn (o.length + i))), .str " ", z2, .str ")"]) nD5
        have hL6 := s6 _ _ hL5
        have kp6 : Keep L (L2.upd H5 D (.lst [.str (S z), .str (S (vn (o.length + i))), .str " ", z2, .str ")"])) (L2.upd (L2.upd H5 D (.lst [.str (S z), .str (S (vn (o.length + i))), .str " ", z2, .str ")"])) L (.lst (us ++ [.str (S z), .str (S (vn (o.length + i))), .str " ", z2, .str ")"]))) := Keep.at
        have tk6 := kp6.tk hL6
        refine ⟨_, _, _, _, rfl, fun b2 o2 q2 => kp6 _ _ (s6 _ _ (sm5 _ _ q2)) (ne_of_none q2 nL), upd_same, ?_⟩
        rw [List.take_add_one, ht]
        rw [show (some t).toList = [t] from rfl, rcR_snoc, ← List.cons_append]
        have d6 := (du5.tk (same_tk s6)).tk tk6
        have d7 : PcL H5 _ _ := hsp z hz
        exact d6.app ((d7.tk (same_tk s6)).tk tk6)
      refine ⟨_, rfl, .inl ⟨rfl, _, SqL.of hL5⟩, ?_⟩
      refine ⟨_, rfl, _, _, rfl, rfl, _, rfl, ?_⟩
      by_cases h0 : 0 < i
      · refine dT (by omega) ?_
        refine ⟨_, rfl, a, C, dx, _, _, rfl, hN5.ins, T.cl, T.nL, rfl, _, rfl, ln, .str (S (vn (o.length + i))), rfl, ?_, ?_⟩
        · have := DGet.k (k := .inl n) hN5.lnD
          rw [hval] at this
          exact this
        refine ⟨_, rfl, by show 5 ≤ sizeLine; decide, fun D nD5 => ?_⟩
        refine ⟨L, D, us, _, rfl, rfl, same_upd nD5 _ _ hL5, upd_same, ?_, ?_⟩
        · rw [sizeLine_eq]
          simp only [List.length_cons, List.length_nil]
          omega
        · exact hfin (tx " (") D nD5 (by rw [if_neg (fun z => by
            have := congrArg List.length z.1
            rw [List.length_take, List.length_nil] at this
            omega)])
      · refine dF (by omega) ?_
        have hi0 : i = 0 := by omega
        refine ⟨_, rfl, a, C, dx, _, _, rfl, hN5.ins, T.cl, T.nL, rfl, _, rfl, ln, .str (S (vn (o.length + i))), rfl, ?_, ?_⟩
        · have := DGet.k (k := .inl n) hN5.lnD
          rw [hval] at this
          exact this
        refine ⟨_, rfl, by show 5 ≤ sizeLine; decide, fun D nD5 => ?_⟩
        refine ⟨L, D, us, _, rfl, rfl, same_upd nD5 _ _ hL5, upd_same, ?_, ?_⟩
        · rw [sizeLine_eq]
          simp only [List.length_cons, List.length_nil]
          omega
        · exact hfin (tx "(") D nD5 (by subst hi0; rfl)
    · rintro σ H' ⟨y3, y4, y5, us, rfl, sm4, hL, du⟩
      have hul := du.len
      rw [List.length_cons, rcR_len, List.length_take] at hul
      rw [hpl, ← hts, List.take_length] at du
      refine ⟨_, rfl, L, us, rfl, .inr (SqL.of hL), ?_⟩
      dsimp only [tCons, tC, tNil]
      refine ⟨_, rfl, tc (ixt (sm4 _ _ e2) (atI_nat (j := 2) rfl) ?_)⟩
      refine ⟨by rw [List.length_append, sizeLine_eq]; simp only [List.length_cons, List.length_nil]; omega, fun d nd => ?_⟩
      have sd := same_upd (o := .lst (us ++ [.str ") ", x2, .str ")"])) nd
      have nd0 : H d = none := by
        cases z : H d with
        | none => rfl
        | some o' =>
          have : d ≠ ln := fun y => by
            rw [y, sm4 _ _ hN2.lnD] at nd
            cases nd
          rw [sm4 _ _ (nD2 _ _ z this)] at nd
          cases nd
      refine q d _ _ (fun b2 o2 q2 hb => sd _ _ (sm4 _ _ (nD2 _ _ q2 hb))) ((hN2.same sm4).same sd) nd0 upd_same ?_
      exact (du.tk (same_tk sd)).app (.cons (.txt (tx ") ")) (.cons (.tm (((g2.tk tk2).tk (same_tk sm4)).tk (same_tk sd))) (.one (.txt (tx ")")))))
end
end W8
set_option Elab.async false
set_option linter.all false
set_option maxRecDepth 100000
set_option maxHeartbeats 4000000
namespace W8
open PySem PySem.Spec PyProof.Rows L2 Com Kb Tx SX ND
theorem lf_kd (l : Lf) : ¬ l.kd = "fn" ∧ ¬ l.kd = "call" ∧ ¬ l.kd = "if" ∧ ¬ l.kd = "do" ∧ ¬ l.kd = "set" ∧ ¬ l.kd = "rec" := by
  have key : ∀ k : Str, k = "const" ∨ k = "syntax" ∨ k = "top" ∨ k = "prim" ∨ k = "rules" ∨ k = "pattern" ∨ k = "template" → ¬ k = "fn" ∧ ¬ k = "call" ∧ ¬ k = "if" ∧ ¬ k = "do" ∧ ¬ k = "set" ∧ ¬ k = "rec" := by
    rintro k (rfl | rfl | rfl | rfl | rfl | rfl | rfl) <;> decide +kernel
  refine key l.kd ?_
  cases l <;> simp [Lf.kd]
theorem dt_ints {H : Hp} : ∀ {ns : List Int} {vs : List V}, DtAll H vs (ns.map PyData.int) → vs = ns.map V.int
  | [], vs, h => h.nilE
  | n :: r, vs, h => by
    obtain ⟨x, xs, rfl, h1, h2⟩ := DtAll.consE h
    rw [h1.intE, dt_ints h2]
    rfl
theorem pcs_sq {k : Str} {l : List Tm} {o : List Int} (b : Tx.T) (e : b = tx "(" ++ (tx k ++ tx " ")) : pcs (.sq k l) o = spd b l := by rw [e]; rfl
section
variable {P : Program} {w : World} {K : PySem.W.Frag} {mg : Str → Option Value} {base : Heap} {C fI pE pK : Addr}
/-! _pieces_of -/
def spPcs (C : Addr) : Sp := fun vs H Q _ => ∃ (v : V) (a dx ln tn : Addr) (o : List Int) (t : Tm) (d : Nat), vs = [v, .ref a] ∧ NamesAt C H a dx ln tn o ∧ Dt H v (tmD t) ∧ tmOk d t ∧ ws t o ∧ (o ++ own t).Nodup ∧ (o ++ own t).length < 50000 ∧
  ∀ c us H', Keep ln H H' → NamesAt C H' a dx ln tn (o ++ own t) → H c = none → H' c = some (.lst us) → PcL H' us (pcs t o) → Q (.ref c) H'
theorem ok_pieces {f : Addr} {fd : FuncData} {k : Nat} (F : Dfn K mg "_pieces_of" st__pieces_of f fd ["term", "names"]) (M : Mg mg) (T : TS8 K mg C fI pE pK) (Ggive : CalM CX0 P w K mg base k C "give" (spGive C K)) (G_spaced : Cal P w K mg base k "_spaced" (spSpaced K)) (G_show_rec : Cal P w K mg base k "_show_rec" (spRec C)) (G_show_leaf : Cal P w K mg base k "_show_leaf" (spLeaf C)) : Cal P w K mg base (k + 1) "_pieces_of" (spPcs C) := by
  refine cal_mk F sc_pieces_of (fun vs H Q E h => ?_) (fun cdv A outer s H vs Q E hr h => ?_)
  · obtain ⟨v, a, dx, ln, tn, o, t, d, rfl, _⟩ := h
    rfl
  obtain ⟨v, a, dx, ln, tn, o, t, d, rfl, hN, hv, ok, hw, hnd, hlen, q⟩ := h
  have hsl : sizeLine = 16777216 := sizeLine_eq
  refine ⟨_, (pss_cons (ps_set (i := 2) sc_pieces_of.nd rfl (.inl rfl) (pe_ix (ixT K rfl) (pv 0) pe_int (fun _ _ => rfl)))
      (pss_cons (ps_if (pt_cmpR op_eq (pv 2) pe_str (nomark _)) (pss_one (ps_ret (pe_lst (pa_cons (pe_op op_add_str (pe_op op_add_str pe_str (pe_m (pv 1) T.cl Ggive hr (by omega) L2.pass0 (pa_cons (pe_ix (ixT K rfl) (pv 0) pe_int (fun _ _ => rfl)) pa_nil))) pe_str) (pa_cons (pe_ix (ixT K rfl) (pv 0) pe_int (fun _ _ => rfl)) (pa_cons pe_str pa_nil)))))) pss_nil)
      (pss_cons (ps_if (pt_cmpR op_eq (pv 2) pe_str (nomark _)) (pss_one (ps_ret (pe_c G_spaced hr (by omega) (by rfl) (pa_cons pe_str (pa_cons (pe_tup (pa_cons (pe_ix (ixT K rfl) (pv 0) pe_int (fun _ _ => rfl)) (StX.pa_star (pe_ix (ixT K rfl) (pv 0) pe_int (fun _ _ => rfl)) pa_nil))) pa_nil))))) pss_nil)
      (pss_cons (ps_if (pt_cmpR op_eq (pv 2) pe_str (nomark _)) (pss_one (ps_ret (pe_c G_spaced hr (by omega) (by rfl) (pa_cons pe_str (pa_cons (pe_slice (slA K rfl) (pv 0) (po_some pe_int) po_none) pa_nil))))) pss_nil)
      (pss_cons (ps_if (pt_cmpR op_eq (pv 2) pe_str (nomark _)) (pss_one (ps_ret (pe_c G_spaced hr (by omega) (by rfl) (pa_cons pe_str (pa_cons (pe_ix (ixT K rfl) (pv 0) pe_int (fun _ _ => rfl)) pa_nil))))) pss_nil)
      (pss_cons (ps_if (pt_cmpR op_eq (pv 2) pe_str (nomark _)) (pss_one (ps_ret (pe_c G_spaced hr (by omega) (by rfl) (pa_cons pe_str (pa_cons (pe_slice (slA K rfl) (pv 0) (po_some pe_int) po_none) pa_nil))))) pss_nil)
      (pss_cons (ps_if (pt_cmpR op_eq (pv 2) pe_str (nomark _)) (pss_one (ps_ret (pe_c G_show_rec hr (by omega) (by rfl) (pa_cons (pv 0) (pa_cons (pv 1) pa_nil))))) pss_nil)
      (pss_one (ps_ret (pe_lst (pa_cons (pe_c G_show_leaf hr (by omega) (by rfl) (pa_cons (pv 0) (pa_cons (pv 1) pa_nil))) pa_nil))))))))))), ?_⟩
  cases t with
  | fn ns b =>
    simp only [tmD] at hv
    obtain ⟨c, xs, rfl, e, g⟩ := tm_at hv
    obtain ⟨x1, xs, rfl, g1, g⟩ := g.consE
    obtain ⟨x2, xs, rfl, g2, g⟩ := g.consE
    cases g
    obtain ⟨pp, ps, rfl, ep, gp⟩ := g1.tupE
    refine ⟨_, rfl, tc (ixt e (atI_nat (j := 0) rfl) ?_)⟩
    dsimp only [gName]
    refine ⟨_, rfl, rfl, _, rfl, sEq rfl ?_⟩
    have hok : ns.length ≤ 3 := by
      cases d with
      | zero => simp [tmOk] at ok
      | succ d =>
        simp only [tmOk] at ok
        exact ok.1
    have hps := dt_ints gp
    subst hps
    simp only [own] at hnd hlen q
    refine ⟨_, rfl, a, dx, _, rfl, hN.ins, rfl, ?_⟩
    refine ⟨_, rfl, tc (ixt e (atI_nat (j := 1) rfl) ⟨a, dx, ln, tn, pp, o, ns, rfl, hN, .inr (SqT.of ep), hnd, hlen, hok, fun H1 kp hN1 => ?_⟩)⟩
    have hlen2 := hlen
    rw [List.length_append] at hlen2
    have hs := vns_sum (k := o.length) (ns := ns) (by omega)
    have hj := jn_len (tx " ") (vns o.length ns)
    obtain ⟨t4, t5, t6, _⟩ := t1
    rw [t4, vns_len] at hj
    have l1 : ("(fn (" : Str).length = 5 := by decide +kernel
    have l2 : (") " : Str).length = 2 := by decide +kernel
    have hle : (S (jn (tx " ") (vns o.length ns))).length = (jn (tx " ") (vns o.length ns)).length := len_S _
    refine ⟨_, _, rfl, rfl, by rw [l1, hle]; omega, _, _, rfl, rfl, by rw [Str.length_append, l1, l2, hle]; omega, ?_⟩
    have e1 := kp _ _ e (ne_of e hN.lnD (fun z => nomatch z))
    have tk1 : Tk H H1 := fun b ys q2 => kp b _ q2 (ne_of q2 hN.lnD (fun z => nomatch z))
    refine ⟨_, rfl, tc (ixt e1 (atI_nat (j := 2) rfl) ⟨by show 3 ≤ sizeLine; decide, fun D nD => ?_⟩)⟩
    rw [wrap "(fn (" ") " (jn (tx " ") (vns o.length ns))]
    have sd := same_upd (o := .lst [.str (S (tx "(fn (" ++ (jn (tx " ") (vns o.length ns) ++ tx ") "))), x2, .str ")"]) nD
    have nD0 : H D = none := by
      cases z : H D with
      | none => rfl
      | some o' =>
        have : D ≠ ln := fun y => by
          rw [y, hN1.lnD] at nD
          cases nD
        rw [kp _ _ z this] at nD
        cases nD
    refine q D _ _ (fun b2 o2 q2 hb => sd _ _ (kp _ _ q2 hb)) (hN1.same sd) nD0 upd_same ?_
    exact .cons (.txt _) (.cons (.tm ((g2.tk tk1).tk (same_tk sd))) (.one (.txt (tx ")"))))
  | lf l =>
    obtain ⟨k1, k2, k3, k4, k5, k6⟩ := lf_kd l
    have hv0 := hv
    simp only [tmD] at hv
    rw [lfD_eq] at hv
    obtain ⟨c, xs, rfl, e, g⟩ := tm_at hv
    obtain ⟨kx, hk⟩ : ∃ kx : Str, kx = l.kd := ⟨_, rfl⟩
    rw [← hk] at e k1 k2 k3 k4 k5 k6
    refine ⟨_, rfl, tc (ixt e (atI_nat (j := 0) rfl) ?_)⟩
    dsimp only [gName]
    refine ⟨_, rfl, rfl, _, rfl, sNe k1 ?_⟩
    dsimp only [tNext]
    refine ⟨_, rfl, rfl, _, rfl, sNe k2 ?_⟩
    dsimp only [tNext]
    refine ⟨_, rfl, rfl, _, rfl, sNe k3 ?_⟩
    dsimp only [tNext]
    refine ⟨_, rfl, rfl, _, rfl, sNe k4 ?_⟩
    dsimp only [tNext]
    refine ⟨_, rfl, rfl, _, rfl, sNe k5 ?_⟩
    dsimp only [tNext]
    refine ⟨_, rfl, rfl, _, rfl, sNe k6 ?_⟩
    dsimp only [tNext]
    refine ⟨_, rfl, _, rfl, .ref c, a, dx, ln, tn, o, .lf l, rfl, hN, hv0, rfl, by simpa [tmOk] using ok, hw, fun H1 s1 => ?_⟩
    refine ⟨by show 1 ≤ sizeLine; decide, fun D nD => ?_⟩
    have sd := same_upd (o := .lst [.str (S (tmT (.lf l) o))]) nD
    simp only [own, List.append_nil] at q
    exact q D _ _ (Keep.same (same_trans s1 sd)) ((hN.same s1).same sd) (Same.nn s1 nD) upd_same (by simp only [pcs, tmT]; exact .one (.txt _))
  | loc n m p =>
    have hv0 := hv
    simp only [tmD] at hv
    obtain ⟨c, xs, rfl, e, g⟩ := tm_at hv
    refine ⟨_, rfl, tc (ixt e (atI_nat (j := 0) rfl) ?_)⟩
    dsimp only [gName]
    refine ⟨_, rfl, rfl, _, rfl, sNe (show ¬ (("local" : Str) = "fn") by decide +kernel) ?_⟩
    dsimp only [tNext]
    refine ⟨_, rfl, rfl, _, rfl, sNe (show ¬ (("local" : Str) = "call") by decide +kernel) ?_⟩
    dsimp only [tNext]
    refine ⟨_, rfl, rfl, _, rfl, sNe (show ¬ (("local" : Str) = "if") by decide +kernel) ?_⟩
    dsimp only [tNext]
    refine ⟨_, rfl, rfl, _, rfl, sNe (show ¬ (("local" : Str) = "do") by decide +kernel) ?_⟩
    dsimp only [tNext]
    refine ⟨_, rfl, rfl, _, rfl, sNe (show ¬ (("local" : Str) = "set") by decide +kernel) ?_⟩
    dsimp only [tNext]
    refine ⟨_, rfl, rfl, _, rfl, sNe (show ¬ (("local" : Str) = "rec") by decide +kernel) ?_⟩
    dsimp only [tNext]
    refine ⟨_, rfl, _, rfl, .ref c, a, dx, ln, tn, o, .loc n m p, rfl, hN, hv0, rfl, by simp [tmOk], hw, fun H1 s1 => ?_⟩
    refine ⟨by show 1 ≤ sizeLine; decide, fun D nD => ?_⟩
    have sd := same_upd (o := .lst [.str (S (tmT (.loc n m p) o))]) nD
    simp only [own, List.append_nil] at q
    exact q D _ _ (Keep.same (same_trans s1 sd)) ((hN.same s1).same sd) (Same.nn s1 nD) upd_same (by simp only [pcs, tmT]; exact .one (.txt _))
  | lrec ns ts b =>
    have hv0 := hv
    simp only [tmD] at hv
    obtain ⟨c, xs, rfl, e, g⟩ := tm_at hv
    have hok : ns.length ≤ 3 ∧ ts.length = ns.length := by
      cases d with
      | zero => simp [tmOk] at ok
      | succ d =>
        simp only [tmOk] at ok
        exact ⟨ok.1, ok.2.1⟩
    refine ⟨_, rfl, tc (ixt e (atI_nat (j := 0) rfl) ?_)⟩
    dsimp only [gName]
    refine ⟨_, rfl, rfl, _, rfl, sNe (show ¬ (("rec" : Str) = "fn") by decide +kernel) ?_⟩
    dsimp only [tNext]
    refine ⟨_, rfl, rfl, _, rfl, sNe (show ¬ (("rec" : Str) = "call") by decide +kernel) ?_⟩
    dsimp only [tNext]
    refine ⟨_, rfl, rfl, _, rfl, sNe (show ¬ (("rec" : Str) = "if") by decide +kernel) ?_⟩
    dsimp only [tNext]
    refine ⟨_, rfl, rfl, _, rfl, sNe (show ¬ (("rec" : Str) = "do") by decide +kernel) ?_⟩
    dsimp only [tNext]
    refine ⟨_, rfl, rfl, _, rfl, sNe (show ¬ (("rec" : Str) = "set") by decide +kernel) ?_⟩
    dsimp only [tNext]
    refine ⟨_, rfl, rfl, _, rfl, sEq rfl ?_⟩
    exact ⟨_, rfl, _, rfl, .ref c, a, dx, ln, tn, o, ns, ts, b, rfl, hN, hv0, hok.2, hok.1, hnd, hlen, q⟩
  | sq k l =>
    simp only [tmD, tmDs_map] at hv
    obtain ⟨c, xs, rfl, e, g⟩ := tm_at hv
    have hok : (k = "if" ∨ k = "set") ∧ l.length ≤ 3 := by
      cases d with
      | zero => simp [tmOk] at ok
      | succ d =>
        simp only [tmOk] at ok
        exact ⟨ok.1, ok.2.2.1⟩
    obtain ⟨hk, hl⟩ := hok
    simp only [own, List.append_nil] at q
    refine ⟨_, rfl, tc (ixt e (atI_nat (j := 0) rfl) ?_)⟩
    dsimp only [gName]
    rcases hk with rfl | rfl
    · refine ⟨_, rfl, rfl, _, rfl, sNe (by decide +kernel) ?_⟩
      dsimp only [tNext]
      refine ⟨_, rfl, rfl, _, rfl, sNe (by decide +kernel) ?_⟩
      dsimp only [tNext]
      refine ⟨_, rfl, rfl, _, rfl, sEq rfl ?_⟩
      refine ⟨_, rfl, _, rfl, ?_⟩
      dsimp only [tNoPart]
      refine sl_from e fun r nr => ?_
      have s5 := same_upd (o := .tup xs) nr
      refine ⟨tx "(if ", r, xs, l, rfl, .inr (SqT.of upd_same), g.tk (same_tk s5), by omega, fun c2 us H2 s2 nc2 hc2 hp => ?_⟩
      exact q c2 us H2 (Keep.same (same_trans s5 s2)) ((hN.same s5).same s2) (Same.nn s5 nc2) hc2 hp
    · refine ⟨_, rfl, rfl, _, rfl, sNe (by decide +kernel) ?_⟩
      dsimp only [tNext]
      refine ⟨_, rfl, rfl, _, rfl, sNe (by decide +kernel) ?_⟩
      dsimp only [tNext]
      refine ⟨_, rfl, rfl, _, rfl, sNe (by decide +kernel) ?_⟩
      dsimp only [tNext]
      refine ⟨_, rfl, rfl, _, rfl, sNe (by decide +kernel) ?_⟩
      dsimp only [tNext]
      refine ⟨_, rfl, rfl, _, rfl, sEq rfl ?_⟩
      refine ⟨_, rfl, _, rfl, ?_⟩
      dsimp only [tNoPart]
      refine sl_from e fun r nr => ?_
      have s5 := same_upd (o := .tup xs) nr
      refine ⟨tx "(set ", r, xs, l, rfl, .inr (SqT.of upd_same), g.tk (same_tk s5), by omega, fun c2 us H2 s2 nc2 hc2 hp => ?_⟩
      exact q c2 us H2 (Keep.same (same_trans s5 s2)) ((hN.same s5).same s2) (Same.nn s5 nc2) hc2 hp
  | doo l =>
    simp only [tmD, tmDs_map] at hv
    obtain ⟨c, xs, rfl, e, g⟩ := tm_at hv
    obtain ⟨x1, xs, rfl, g1, g⟩ := g.consE
    cases g
    obtain ⟨pp, ps, rfl, ep, gp⟩ := g1.tupE
    have hl : l.length ≤ 3 := by
      cases d with
      | zero => simp [tmOk] at ok
      | succ d =>
        simp only [tmOk] at ok
        exact ok.2.1
    simp only [own, List.append_nil] at q
    refine ⟨_, rfl, tc (ixt e (atI_nat (j := 0) rfl) ?_)⟩
    dsimp only [gName]
    refine ⟨_, rfl, rfl, _, rfl, sNe (show ¬ (("do" : Str) = "fn") by decide +kernel) ?_⟩
    dsimp only [tNext]
    refine ⟨_, rfl, rfl, _, rfl, sNe (show ¬ (("do" : Str) = "call") by decide +kernel) ?_⟩
    dsimp only [tNext]
    refine ⟨_, rfl, rfl, _, rfl, sNe (show ¬ (("do" : Str) = "if") by decide +kernel) ?_⟩
    dsimp only [tNext]
    refine ⟨_, rfl, rfl, _, rfl, sEq rfl ?_⟩
    refine ⟨_, rfl, tc (ixt e (atI_nat (j := 1) rfl) ?_)⟩
    exact ⟨tx "(do ", pp, ps, l, rfl, .inr (SqT.of ep), gp, by omega, fun c2 us H2 s2 nc2 hc2 hp => q c2 us H2 (Keep.same s2) (hN.same s2) nc2 hc2 hp⟩
  | call f l m p =>
    simp only [tmD, tmDs_map] at hv
    obtain ⟨c, xs, rfl, e, g⟩ := tm_at hv
    obtain ⟨x1, xs, rfl, g1, g⟩ := g.consE
    obtain ⟨x2, xs, rfl, g2, g⟩ := g.consE
    obtain ⟨x3, xs, rfl, g3, g⟩ := g.consE
    cases g
    obtain ⟨pp, ps, rfl, ep, gp⟩ := g2.tupE
    have hpl := gp.len
    rw [List.length_map] at hpl
    have hl : l.length ≤ 3 := by
      cases d with
      | zero => simp [tmOk] at ok
      | succ d =>
        simp only [tmOk] at ok
        exact ok.1
    simp only [own, List.append_nil] at q
    refine ⟨_, rfl, tc (ixt e (atI_nat (j := 0) rfl) ?_)⟩
    dsimp only [gName]
    refine ⟨_, rfl, rfl, _, rfl, sNe (show ¬ (("call" : Str) = "fn") by decide +kernel) ?_⟩
    dsimp only [tNext]
    refine ⟨_, rfl, rfl, _, rfl, sEq rfl ?_⟩
    refine ⟨_, rfl, tc (ixt e (atI_nat (j := 1) rfl) ?_)⟩
    refine ⟨_, rfl, tc (ixt e (atI_nat (j := 2) rfl) ⟨pp, ps, rfl, .inl (SqT.of ep), ?_⟩)⟩
    refine ⟨by rw [sizeLine_eq]; simp only [List.length_cons, List.length_append, List.length_nil]; omega, fun r nr => ?_⟩
    have s5 := same_upd (o := .tup (x1 :: (ps ++ []))) nr
    refine ⟨tx "(", r, _, f :: l, rfl, .inr (SqT.of upd_same), ?_, by rw [List.length_cons]; omega, fun c2 us H2 s2 nc2 hc2 hp => ?_⟩
    · rw [List.append_nil] at s5 ⊢
      exact .cons (g1.tk (same_tk s5)) (gp.tk (same_tk s5))
    · exact q c2 us H2 (Keep.same (same_trans s5 s2)) ((hN.same s5).same s2) (Same.nn s5 nc2) hc2 hp
end
end W8
set_option Elab.async false
set_option linter.all false
set_option maxRecDepth 100000
set_option maxHeartbeats 4000000
namespace W8
open PySem PySem.Spec PyProof.Rows L2 Com Kb Tx SX ND
theorem spR_mem : ∀ {l : List Tm} {f : Bool} {t : Tm}, Sum.inr t ∈ spR f l → t ∈ l
  | [], f, t, h => by cases f <;> simp [spR] at h
  | x :: r, true, t, h => by
    simp only [spR, List.mem_cons, Sum.inr.injEq] at h
    rcases h with h | h
    · rw [h]; exact List.mem_cons_self
    · exact List.mem_cons_of_mem _ (spR_mem h)
  | x :: r, false, t, h => by
    simp only [spR, List.mem_cons, Sum.inr.injEq, reduceCtorEq, false_or] at h
    rcases h with h | h
    · rw [h]; exact List.mem_cons_self
    · exact List.mem_cons_of_mem _ (spR_mem h)
theorem rcR_mem : ∀ {l : List Tm} {k : Nat} {f : Bool} {t : Tm}, Sum.inr t ∈ rcR k f l → t ∈ l
  | [], k, f, t, h => by simp [rcR] at h
  | x :: r, k, f, t, h => by
    simp only [rcR, List.mem_cons, Sum.inr.injEq, reduceCtorEq, false_or] at h
    rcases h with h | h
    · rw [h]; exact List.mem_cons_self
    · exact List.mem_cons_of_mem _ (rcR_mem h)
theorem pcs_mem {t t' : Tm} {o : List Int} {d : Nat} (ok : tmOk d t) (hw : ws t o) (h : Sum.inr t' ∈ pcs t o) : (∃ d', tmOk d' t') ∧ ws t' (o ++ own t) := by
  cases t with
  | lf l => simp [pcs] at h
  | loc n m p => simp [pcs] at h
  | fn ns b =>
    cases d with
    | zero => simp [tmOk] at ok
    | succ d =>
    simp only [tmOk] at ok
    simp only [ws] at hw
    simp only [pcs, List.mem_cons, Sum.inr.injEq, reduceCtorEq, false_or, List.not_mem_nil, or_false] at h
    subst h
    exact ⟨⟨d, ok.2⟩, hw⟩
  | lrec ns ts b =>
    cases d with
    | zero => simp [tmOk] at ok
    | succ d =>
    simp only [tmOk] at ok
    simp only [ws] at hw
    simp only [pcs, List.cons_append, List.mem_cons, List.mem_append, Sum.inr.injEq, reduceCtorEq, false_or, List.not_mem_nil, or_false] at h
    rcases h with h | h
    · have hm := rcR_mem h
      exact ⟨⟨d, tmOks_mem ok.2.2.1 hm⟩, wss_mem hw.1 hm⟩
    · subst h
      exact ⟨⟨d, ok.2.2.2⟩, hw.2⟩
  | sq k l =>
    cases d with
    | zero => simp [tmOk] at ok
    | succ d =>
    simp only [tmOk] at ok
    simp only [ws] at hw
    simp only [pcs, spd, List.mem_cons, List.mem_append, Sum.inr.injEq, reduceCtorEq, false_or, List.not_mem_nil, or_false] at h
    have hm := spR_mem h
    simp only [own, List.append_nil]
    exact ⟨⟨d, tmOks_mem ok.2.2.2 hm⟩, wss_mem hw hm⟩
  | doo l =>
    cases d with
    | zero => simp [tmOk] at ok
    | succ d =>
    simp only [tmOk] at ok
    simp only [ws] at hw
    simp only [pcs, spd, List.mem_cons, List.mem_append, Sum.inr.injEq, reduceCtorEq, false_or, List.not_mem_nil, or_false] at h
    have hm := spR_mem h
    simp only [own, List.append_nil]
    exact ⟨⟨d, tmOks_mem ok.2.2 hm⟩, wss_mem hw hm⟩
  | call f l m p =>
    cases d with
    | zero => simp [tmOk] at ok
    | succ d =>
    simp only [tmOk] at ok
    simp only [ws] at hw
    simp only [pcs, spd, List.mem_cons, List.mem_append, Sum.inr.injEq, reduceCtorEq, false_or, List.not_mem_nil, or_false] at h
    have hm := spR_mem h
    simp only [own, List.append_nil]
    rcases List.mem_cons.mp hm with e | e
    · rw [e]; exact ⟨⟨d, ok.2.1⟩, hw.1⟩
    · exact ⟨⟨d, tmOks_mem ok.2.2 e⟩, wss_mem hw.2 e⟩
theorem ne_ok {t : Tm} {d : Nat} (ok : tmOk d t) : neT t := by
  cases t with
  | sq k l =>
    cases d with
    | zero => simp [tmOk] at ok
    | succ d =>
      simp only [tmOk] at ok
      exact ok.2.1
  | doo l =>
    cases d with
    | zero => simp [tmOk] at ok
    | succ d =>
      simp only [tmOk] at ok
      exact ok.1
  | _ => exact True.intro
section
variable {P : Program} {w : World} {K : PySem.W.Frag} {mg : Str → Option Value} {base : Heap} {C fI pE pK : Addr}
/-- one turn -/
structure Turn (C : Addr) (H0 : Hp) (t0 : Tm) (a dx ln tn X L : Addr) (ps : List Pc) (H : Hp) : Prop where
  sm : Same H0 H
  ex : ∃ (o : List Int) (acc : List Tx.T) (us : List V), NamesAt C H a dx ln tn o ∧ H X = some (.lst ((acc.map S).map V.str)) ∧ H L = some (.lst us.reverse) ∧ PcL H us ps ∧ acc.flatten ++ pT ps o = tmT t0 [] ∧ o ++ pO ps = od t0 ∧ acc.length + pW ps ≤ WB 6 ∧ ∀ t, Sum.inr t ∈ ps → (∃ d, tmOk d t) ∧ ws t o
def spNamed (K : PySem.W.Frag) : Sp := fun vs H Q _ => ∃ (v : V) (t : Addr) (t0 : Tm), vs = [v, .ref t] ∧ H t = some (.dK []) ∧ Dt H v (tmD t0) ∧ tmOk 6 t0 ∧ ws t0 [] ∧ (od t0).Nodup ∧ ∀ H', Same H H' → Q (.str (S (tmT t0 []))) H'
theorem ok_named {f : Addr} {fd : FuncData} {fdI : FuncData} {k : Nat} (F : Dfn K mg "show_named" st_show_named f fd ["term", "tops"]) (M : Mg mg) (T : TS8 K mg C fI pE pK) (GI : FnOk P w K mg base CX0 k fI fdI ["self", "tops"] (spInit C)) (bI : Binds K fdI ["self", "tops"] []) (G_pieces_of : Cal P w K mg base (k + 1) "_pieces_of" (spPcs C)) : Cal P w K mg base (k + 2) "show_named" (spNamed K) := by
  refine cal_mk F scshow_named (fun vs H Q E h => ?_) (fun cdv A outer s H vs Q E hr h => ?_)
  · obtain ⟨v, t, t0, rfl, _⟩ := h
    rfl
  obtain ⟨v, t, t0, rfl, ht, hv, ok, hw, hnd, q⟩ := h
  have hsl : sizeLine = 16777216 := sizeLine_eq
  have ol := od_len t0 6 ok
  have hNB : NB 6 = 4095 := by decide
  have hWB : WB 6 = 35492 := by decide
  have hLB := tmT_len t0 6 [] ok hw (Nat.lt_of_le_of_lt (Nat.le_of_eq (Nat.zero_add _)) (by omega))
  have hLB6 : LB 6 ≤ 12000000 := by decide
  refine ⟨_, (pss_cons (ps_set (i := 2) scshow_named.nd rfl (.inl rfl) (pe_make T.mkN GI (hr.mono (by omega)) (by rfl) T.mgC bI .nil L2.pass0 (pa_cons (pv 1) pa_nil)))
      (pss_cons (ps_set (i := 3) scshow_named.nd rfl (.inl rfl) (pe_lst pa_nil))
      (pss_cons (ps_set (i := 4) scshow_named.nd rfl (.inl rfl) (pe_lst (pa_cons (pv 0) pa_nil)))
      (pss_cons (ps_while PassesOwn.never (pt_truth (pv 4) (by intro _; rfl))
      (pss_cons (ps_set (i := 5) scshow_named.nd rfl (.inl rfl) (pe_bm0 PySem.F.plainAttrs_list PySem.F.slot_list_pop PySem.F.type_list_pop mt_pop (pv 4)))
      (pss_one (ps_if (pt_val (pe_callB (cIsi K rfl) (by rfl) M.isinstance b_isinstance (pa_cons (pv 5) (pa_cons (pe_bltn (v := .ty "str") (by rfl) M.str b_str rfl) pa_nil)))) (pss_one (ps_expr (pe_bm PySem.F.plainAttrs_list PySem.F.slot_list_append PySem.F.type_list_append mt_append (pv 3) (pa_cons (pv 5) pa_nil)))) (pss_one (ps_expr (pe_bm PySem.F.plainAttrs_list PySem.F.slot_list_extend PySem.F.type_list_extend mt_extend (pv 4) (pa_cons (pe_revL (pe_c G_pieces_of hr (by omega) (by rfl) (pa_cons (pv 5) (pa_cons (pv 2) pa_nil)))) pa_nil))))))))
      (pss_one (ps_ret (pe_bm PySem.F.plainAttrs_str PySem.F.slot_str_join PySem.F.type_str_join mt_join pe_str (pa_cons (pv 3) pa_nil)))))))), ?_⟩
  refine ⟨_, rfl, fun a dx na ndx hda => ?_⟩
  have htd : t ≠ dx := ne_of_none ht ndx
  have hta : t ≠ a := ne_of_none ht na
  refine ⟨a, dx, t, rfl, upd_same, by rw [upd_ne hta, upd_ne htd]; exact ht, hta.symm, fun ln tn H1 kp hN nln ntn => ⟨rfl, ?_⟩⟩
  have s1 : Same H H1 := fun b o e => kp _ _ (by rw [upd_ne (ne_of_none e na), upd_ne (ne_of_none e ndx)]; exact e) (ne_of_none e na)
  dsimp only [gName]
  refine ⟨Nat.zero_le _, fun X nX => ?_⟩
  dsimp only [gName]
  have s2 := same_upd (o := .lst []) nX
  have eX := upd_same (H := H1) (a := X) (o := .lst [])
  have hN2 := hN.same s2
  have nX0 : H X = none := Same.nn s1 nX
  generalize L2.upd H1 X (.lst []) = H2 at s2 eX hN2 ⊢
  refine ⟨_, rfl, by show 1 ≤ sizeLine; decide, fun L nL => ?_⟩
  dsimp only [gName]
  have s3 := same_upd (o := .lst [v]) nL
  have eL := upd_same (H := H2) (a := L) (o := .lst [v])
  have eX3 := s3 _ _ eX
  have hN3 := hN2.same s3
  have nL0 : H L = none := Same.nn (same_trans s1 s2) nL
  have s13 := same_trans s1 (same_trans s2 s3)
  have hLX : L ≠ X := (ne_of_none eX nL).symm
  have hLl : L ≠ ln := (ne_of_none hN2.lnD nL).symm
  have hXl : X ≠ ln := (ne_of_none hN.lnD nX).symm
  have nln0 : H ln = none := by
    cases z : H ln with
    | none => rfl
    | some o =>
      have e1 : L2.upd (L2.upd H dx (.own a)) a (.ins C dx []) ln = some o := by rw [upd_ne (ne_of_none z na), upd_ne (ne_of_none z ndx)]; exact z
      rw [e1] at nln
      cases nln
  generalize L2.upd H2 L (.lst [v]) = H3 at s3 eL eX3 hN3 s13 ⊢
  refine seq_split (t1 := tWhile _ _) (fun σ' H' => ∃ (y5 : Option V), σ' = [some v, some (.ref t), some (.ref a), some (.ref X), some (.ref L), y5] ∧ Turn C H t0 a dx ln tn X L [] H') ?_ (fun J => ?_)
  · rintro σ' H' ⟨y5, rfl, sm, o, acc, us, hN', hX', hL', hp, htx, hod, hle, _⟩
    simp only [pT, List.append_nil] at htx
    simp only [pW] at hle
    have hfl : (acc.map List.length).sum = (tmT t0 []).length := by
      rw [← htx, List.length_flatten]
    refine ⟨rfl, _, rfl, _, X, acc.map S, rfl, rfl, .inl (SqL.of hX'), ?_, ?_⟩
    · rw [sum_S, hfl, show (("" : Str)).length = 0 from by decide +kernel, Nat.mul_zero]
      omega
    · rw [join_jn, show tx ("" : Str) = [] from by decide +kernel, jn_empty, htx]
      exact q H' sm
  · refine ⟨fun m σ' H' => ∃ (y5 : Option V) (ps : List Pc), σ' = [some v, some (.ref t), some (.ref a), some (.ref X), some (.ref L), y5] ∧ m = pW ps ∧ Turn C H t0 a dx ln tn X L ps H', ⟨_, none, [.inr t0], rfl, rfl, s13, [], [], [v], hN3, eX3, eL, .one (.tm (hv.tk (same_tk s13))), by simp [pT], by simp [pO], by have := szM_le t0 6 ok; simp only [pW, List.length_nil]; omega, fun t' ht' => ?_⟩, ?_⟩
    · simp only [List.mem_cons, Sum.inr.injEq, List.not_mem_nil, or_false] at ht'
      subst ht'
      exact ⟨⟨6, ok⟩, hw⟩
    · rintro m σ' H' ⟨y5, ps, rfl, rfl, sm, o, acc, us, hN', hX', hL', hp, htx, hod, hle, hin⟩
      have kL : ∀ (zs : List V), Same H (L2.upd H' L (.lst zs)) ∧ NamesAt C (L2.upd H' L (.lst zs)) a dx ln tn o ∧ L2.upd H' L (.lst zs) X = some (.lst ((acc.map S).map V.str)) ∧ Tk H' (L2.upd H' L (.lst zs)) := fun zs => by
        have kp2 : Keep L H' (L2.upd H' L (.lst zs)) := Keep.at
        refine ⟨fun b2 o2 q2 => kp2 _ _ (sm _ _ q2) (ne_of_none q2 nL0), ⟨kp2 _ _ hN'.ins ?_, kp2 _ _ hN'.lnD hLl.symm, kp2 _ _ hN'.tnD ?_⟩, kp2 _ _ hX' hLX.symm, kp2.tk hL'⟩
        · exact ne_of hN'.ins hL' (fun z => nomatch z)
        · exact ne_of hN'.tnD hL' (fun z => nomatch z)
      cases hp with
      | nil =>
        refine ⟨_, rfl, false, .inl ⟨_, SqL.of hL', rfl⟩, ?_⟩
        dsimp only
        rw [if_neg (by decide)]
        exact J _ _ ⟨y5, rfl, sm, o, acc, [], hN', hX', hL', .nil, htx, hod, hle, hin⟩
      | @cons u p us ps hu hp =>
        refine ⟨_, rfl, true, .inl ⟨_, SqL.of hL', by simp⟩, ?_⟩
        dsimp only
        rw [if_pos rfl]
        refine ⟨fun σ' H' => ∃ (y5 : Option V) (ps' : List Pc), σ' = [some v, some (.ref t), some (.ref a), some (.ref X), some (.ref L), y5] ∧ pW ps' < pW (p :: ps) ∧ Turn C H t0 a dx ln tn X L ps' H', fun σ2 H2 ⟨y6, ps', e1, e2, e3⟩ => ⟨_, e2, y6, ps', e1, rfl, e3⟩, ?_⟩
        have hdl : (u :: us).reverse.dropLast = us.reverse := by rw [List.reverse_cons, List.dropLast_concat]
        refine ⟨_, rfl, .inl ⟨rfl, _, SqL.of hL'⟩, L, _, u, rfl, rfl, hL', ?_, ?_⟩
        · rw [List.reverse_cons, List.length_append, List.length_singleton, Nat.add_sub_cancel, List.getElem?_append_right (Nat.le_refl _), Nat.sub_self]
          rfl
        rw [hdl]
        obtain ⟨sm2, hN2', hX2, tk2⟩ := kL us.reverse
        have hL2 := upd_same (H := H') (a := L) (o := .lst us.reverse)
        have hu2 := hu.tk tk2
        have hp2 := hp.tk tk2
        generalize L2.upd H' L (.lst us.reverse) = H5 at sm2 hN2' hX2 tk2 hL2 hu2 hp2 ⊢
        dsimp only [gName]
        cases hu2 with
        | txt x =>
          refine ⟨_, rfl, _, .ty "str", .type "str", .type "str", true, rfl, .ty _, .base (.str _), kit_ty rfl, ?_⟩
          refine ⟨true, rfl, iteT ?_⟩
          refine ⟨_, rfl, .inl ⟨rfl, _, SqL.of hX2⟩, _, rfl, X, _, _, rfl, rfl, hX2, ?_, ?_⟩
          · rw [List.length_map, List.length_map]
            simp only [pW] at hle
            show _ < 2 ^ 24
            omega
          have kX : Keep X H5 (L2.upd H5 X (.lst ((acc.map S).map V.str ++ [.str (S x)]))) := Keep.at
          refine ⟨_, ps, rfl, ?_, fun b2 o2 q2 => kX _ _ (sm2 _ _ q2) (ne_of_none q2 nX0), o, acc ++ [x], us, ⟨kX _ _ hN2'.ins (ne_of hN2'.ins hX2 (fun z => nomatch z)), kX _ _ hN2'.lnD hXl.symm, kX _ _ hN2'.tnD (ne_of hN2'.tnD hX2 (fun z => nomatch z))⟩, ?_, kX _ _ hL2 hLX, hp2.tk (kX.tk hX2), ?_, ?_, ?_, fun t' ht' => hin t' (List.mem_cons_of_mem _ ht')⟩
          · simp only [pW]
            omega
          · rw [upd_same, List.map_append, List.map_append]
            rfl
          · rw [← htx, List.flatten_append]
            simp only [pT, List.flatten_cons, List.flatten_nil, List.append_nil, List.append_assoc]
          · rw [← hod]
            rfl
          · simp only [pW] at hle
            rw [List.length_append, List.length_singleton]
            omega
        | @tm _ t1' dt =>
          have htin := hin t1' List.mem_cons_self
          obtain ⟨⟨d1, ok1⟩, ws1⟩ := htin
          obtain ⟨p1, xs1, rfl, ep1⟩ : ∃ p1 xs1, u = .ref p1 ∧ H5 p1 = some (.tup xs1) := by
            cases t1' with
            | lf l =>
              simp only [tmD] at dt
              rw [lfD_eq] at dt
              obtain ⟨p1, xs1, e, e2, _⟩ := tm_at dt
              exact ⟨p1, _, e, e2⟩
            | _ =>
              simp only [tmD] at dt
              obtain ⟨p1, xs1, e, e2, _⟩ := tm_at dt
              exact ⟨p1, _, e, e2⟩
          refine ⟨_, rfl, _, .ty "str", .type "tuple", .type "str", false, rfl, .ty _, .base (.tup ep1), kit_ty rfl, ?_⟩
          refine ⟨false, rfl, iteF ?_⟩
          have hod' : (o ++ own t1') ++ (pO (pcs t1' o) ++ pO ps) = od t0 := by
            rw [← hod]
            simp only [pO]
            rw [← own_od t1' o]
            simp only [List.append_assoc]
          have hl1 : (o ++ own t1').length ≤ 4095 := by
            have := congrArg List.length hod'
            rw [List.length_append] at this
            omega
          refine ⟨_, rfl, .inl ⟨rfl, _, SqL.of hL2⟩, _, rfl, _, rfl, .ref p1, a, dx, ln, tn, o, t1', d1, rfl, hN2', dt, ok1, ws1, ?_, by omega, fun c us2 H6 kp6 hN6 nc hc hpc => ?_⟩
          · rw [← hod'] at hnd
            exact (List.nodup_append.mp hnd).1
          have hwp := pW_pcs t1' o
          have hl2 := pW_len (pcs t1' o)
          have hl3 := pW_len ps
          have hl4 := hpc.len
          have hl5 := hp2.len
          simp only [pW] at hle
          have hL6 := kp6 _ _ hL2 hLl
          have hX6 := kp6 _ _ hX2 hXl
          have tk6 : Tk H5 H6 := fun b ys q2 => kp6 b _ q2 (ne_of q2 hN2'.lnD (fun z => nomatch z))
          have nc6 : ∀ b o2, H5 b = some o2 → b ≠ c := fun b o2 q2 => ne_of_none q2 nc
          refine ⟨c, us2, rfl, SqL.of hc, fun r nr => ?_⟩
          have s7 := same_upd (o := .lst us2.reverse) nr
          have er := upd_same (H := H6) (a := r) (o := .lst us2.reverse)
          have hL7 := s7 _ _ hL6
          have hX7 := s7 _ _ hX6
          have hN7 := hN6.same s7
          have hp7 := (hp2.tk tk6).tk (same_tk s7)
          have hpc7 := hpc.tk (same_tk s7)
          have kk7 : ∀ b o2, H b = some o2 → L2.upd H6 r (.lst us2.reverse) b = some o2 := fun b o2 q2 => s7 _ _ (kp6 _ _ (sm2 _ _ q2) (ne_of_none q2 nln0))
          generalize L2.upd H6 r (.lst us2.reverse) = H7 at s7 er hL7 hX7 hN7 hp7 hpc7 kk7 ⊢
          refine ⟨L, r, us.reverse, us2.reverse, rfl, rfl, hL7, er, ?_, ?_⟩
          · rw [List.length_reverse, List.length_reverse]
            omega
          have kL8 : Keep L H7 (L2.upd H7 L (.lst (us.reverse ++ us2.reverse))) := Keep.at
          have tk8 := kL8.tk hL7
          refine ⟨_, pcs t1' o ++ ps, rfl, ?_, fun b2 o2 q2 => kL8 _ _ (kk7 _ _ q2) (ne_of_none q2 nL0), o ++ own t1', acc, us2 ++ us, ⟨kL8 _ _ hN7.ins (ne_of hN7.ins hL7 (fun z => nomatch z)), kL8 _ _ hN7.lnD hLl.symm, kL8 _ _ hN7.tnD (ne_of hN7.tnD hL7 (fun z => nomatch z))⟩, kL8 _ _ hX7 hLX.symm, ?_, (hpc7.tk tk8).app (hp7.tk tk8), ?_, ?_, ?_, fun t' ht' => ?_⟩
          · rw [pW_app]
            simp only [pW]
            omega
          · rw [upd_same, List.reverse_append]
          · rw [pT_app, pcs_ok t1' o (ne_ok ok1), List.append_assoc, own_od]
            exact htx
          · rw [pO_app, ← hod']
          · rw [pW_app]
            omega
          · rcases List.mem_append.mp ht' with z | z
            · exact pcs_mem ok1 ws1 z
            · obtain ⟨z1, z2⟩ := hin t' (List.mem_cons_of_mem _ z)
              exact ⟨z1, ws_up (fun n hn => List.mem_append_left _ hn) t' z2⟩
/-! show_term -/
def spTerm (K : PySem.W.Frag) : Sp := fun vs H Q _ => ∃ (v : V) (t0 : Tm), vs = [v] ∧ Dt H v (tmD t0) ∧ tmOk 6 t0 ∧ ws t0 [] ∧ (od t0).Nodup ∧ ∀ H', Same H H' → Q (.str (S (tmT t0 []))) H'
theorem ok_show_term {f : Addr} {fd : FuncData} {k : Nat} (F : Dfn K mg "show_term" st_show_term f fd ["term"]) (M : Mg mg) (Gshow_named : Cal P w K mg base k "show_named" (spNamed K)) : Cal P w K mg base (k + 1) "show_term" (spTerm K) := by
  refine cal_mk F scshow_term (fun vs H Q E h => ?_) (fun cdv A outer s H vs Q E hr h => ?_)
  · obtain ⟨v, t0, rfl, _⟩ := h
    rfl
  obtain ⟨v, t0, rfl, hv, ok, hw, hnd, q⟩ := h
  refine ⟨_, (pss_one (ps_ret (pe_c Gshow_named hr (by omega) (by rfl) (pa_cons (pv 0) (pa_cons pe_dnewK pa_nil))))), ?_⟩
  refine ⟨_, rfl, fun t nt => ?_⟩
  have s1 := same_upd (o := .dK []) nt
  exact ⟨v, t, t0, rfl, upd_same, hv.tk (same_tk s1), ok, hw, hnd, fun H' s2 => q H' (same_trans s1 s2)⟩
end
end W8
set_option Elab.async false
set_option linter.all false
set_option maxRecDepth 100000
set_option maxHeartbeats 4000000
namespace W8
open PySem PySem.Spec PyProof.Rows L2 Com Kb Tx SX ND
/-- the draws at d, x the last name that was given -/
def TapeAt (H : Hp) (d : Addr) (x : Int) : Prop := ∃ xs : List Int, H d = some (.lst ((x :: xs).map V.int)) ∧ xs.length ≤ 1000
theorem TapeAt.same {H H' : Hp} {d : Addr} {x : Int} (h : TapeAt H d x) (s : Same H H') : TapeAt H' d x := by
  obtain ⟨xs, h1, h2⟩ := h
  exact ⟨xs, s _ _ h1, h2⟩
theorem TapeAt.tk {H H' : Hp} {d : Addr} {x : Int} (h : TapeAt H d x) (k : Keep d H H') : Tk H H' := by
  obtain ⟨xs, h1, h2⟩ := h
  exact k.tk h1
theorem TapeAt.ne {H : Hp} {d b : Addr} {x : Int} (h : TapeAt H d x) (n : H b = none) : d ≠ b := by
  obtain ⟨xs, h1, h2⟩ := h
  exact ne_of_none h1 n
theorem TapeAt.nn {H H' : Hp} {d b : Addr} {x : Int} (h : TapeAt H' d x) (k : Keep d H H') (n : H' b = none) : H b = none := by
  cases z : H b with
  | none => rfl
  | some o =>
    rw [k _ _ z (h.ne n).symm] at n
    cases n
section
variable {P : Program} {w : World} {K : PySem.W.Frag} {mg : Str → Option Value} {base : Heap}
def spNext : Sp := fun vs H Q _ => ∃ (d : Addr) (lim x : Int), vs = [.ref d, .int lim] ∧ 0 < lim ∧ TapeAt H d x ∧ ∀ r H', 0 ≤ r → r < lim → Keep d H H' → TapeAt H' d x → Q (.int r) H'
theorem ok_next {f : Addr} {fd : FuncData} (F : Dfn K mg "_law_next" st__law_next f fd ["draws", "limit"]) (M : Mg mg) : Cal P w K mg base 1 "_law_next" spNext := by
  refine cal_mk F sc_law_next (fun vs H Q E h => ?_) (fun cdv A outer s H vs Q E hr h => ?_)
  · obtain ⟨d, lim, x, rfl, _⟩ := h
    rfl
  obtain ⟨d, lim, x, rfl, h0, ⟨xs, hd, hl⟩, q⟩ := h
  refine ⟨_, (pss_cons (ps_if (pt_cmpR op_eq (pe_callB (cLen K rfl) (by rfl) M.len b_len (pa_cons (pv 0) pa_nil)) pe_int (nomark _)) (pss_one (ps_ret pe_int)) pss_nil)
      (pss_one (ps_ret (pe_op op_mod (pe_callTy call_int1 (by rfl) M.int b_int (pa_cons (pe_bm0 PySem.F.plainAttrs_list PySem.F.slot_list_pop PySem.F.type_list_pop mt_pop (pv 0)) pa_nil)) (pv 1))))), ?_⟩
  refine ⟨_, rfl, d, _, rfl, .inl (SqL.of hd), rfl, _, rfl, ite2 (fun c1 => ?_) (fun c1 => ?_)⟩
  · exact q 0 H (Int.le_refl _) h0 (Keep.refl _ _) ⟨xs, hd, hl⟩
  · dsimp only [tNext]
    have hx : xs ≠ [] := fun z => by
      subst z
      exact c1 (by simp)
    obtain ⟨ys, y, rfl⟩ : ∃ ys y, xs = ys ++ [y] := ⟨xs.dropLast, xs.getLast hx, (List.dropLast_concat_getLast hx).symm⟩
    have e1 : ((x :: (ys ++ [y])).map V.int) = (x :: ys).map V.int ++ [V.int y] := by simp
    refine ⟨_, rfl, .inl ⟨rfl, _, SqL.of hd⟩, d, _, V.int y, rfl, rfl, hd, ?_, .inl ⟨_, rfl, ?_⟩⟩
    · rw [e1, List.length_append, List.length_singleton, Nat.add_sub_cancel, List.getElem?_append_right (Nat.le_refl _), Nat.sub_self]
      rfl
    refine ⟨_, rfl, _, _, rfl, rfl, h0, ?_⟩
    refine q _ _ (Int.emod_nonneg _ (by omega)) (Int.emod_lt_of_pos _ h0) Keep.at ⟨ys, ?_, ?_⟩
    · rw [upd_same, e1, List.dropLast_concat]
    · rw [List.length_append, List.length_singleton] at hl
      omega
def spNew : Sp := fun vs H Q _ => ∃ (d : Addr) (x : Int), vs = [.ref d] ∧ Good x ∧ TapeAt H d x ∧ ∀ H', Keep d H H' → TapeAt H' d (stp x) → Q (.int (stp x)) H'
theorem ok_new {f : Addr} {fd : FuncData} (F : Dfn K mg "_law_new" st__law_new f fd ["draws"]) (M : Mg mg) : Cal P w K mg base 1 "_law_new" spNew := by
  refine cal_mk F sc_law_new (fun vs H Q E h => ?_) (fun cdv A outer s H vs Q E hr h => ?_)
  · obtain ⟨d, x, rfl, _⟩ := h
    rfl
  obtain ⟨d, x, rfl, g, ⟨xs, hd, hl⟩, q⟩ := h
  refine ⟨_, (pss_cons (ps_asg (pe_op op_mod (pe_callTy call_int1 (by rfl) M.int b_int (pa_cons (pe_op op_add (pe_op op_mul (pe_ix (ixL K rfl) (pv 0) pe_int (fun _ _ => rfl)) pe_int) pe_int) pa_nil)) pe_int) (pg_sub (pv 0) pe_int set_list))
      (pss_one (ps_ret (pe_ix (ixL K rfl) (pv 0) pe_int (fun _ _ => rfl))))), ?_⟩
  obtain ⟨g1, g2, _⟩ := g
  refine ⟨_, rfl, tc ⟨d, _, _, _, rfl, rfl, SqL.of hd, atI_nat (j := 0) rfl, ?_⟩⟩
  refine ⟨_, _, rfl, rfl, .inr (by constructor <;> decide), _, _, rfl, rfl, .inl ⟨_, rfl, _, _, rfl, rfl, (by show (0 : Int) < 1000003; decide), ?_⟩⟩
  refine ⟨_, rfl, d, _, 0, 0, rfl, rfl, hd, by simp [ixN], ?_⟩
  have h2 : ((x :: xs).map V.int).set 0 (V.int ((x * 7 + 3) % 1000003)) = (stp x :: xs).map V.int := rfl
  rw [h2]
  have e3 := upd_same (H := H) (a := d) (o := .lst ((stp x :: xs).map V.int))
  refine ⟨_, rfl, tc ⟨d, _, _, _, rfl, rfl, SqL.of e3, atI_nat (j := 0) rfl, ?_⟩⟩
  exact q _ Keep.at ⟨xs, e3, hl⟩
end
end W8
set_option Elab.async false
set_option linter.all false
set_option maxRecDepth 100000
set_option maxHeartbeats 4000000
namespace W8
open PySem PySem.Spec PyProof.Rows L2 Com Kb Tx SX ND
/-! lists of what is drawn -/
def GenI {α : Type} (f : α → PyData) (g : List α → Int) (R : List α → Prop) (H1 : Hp) (d D : Addr) (i : Nat) (H : Hp) : Prop := Keep d H1 H ∧ ∃ (ws : List V) (l : List α), TapeAt H d (g l) ∧ H D = some (.lst ws) ∧ l.length = i ∧ DtAll H ws (l.map f) ∧ R l
section
variable {α : Type} {f : α → PyData} {g : List α → Int} {R : List α → Prop} {H1 H H4 : Hp} {d D : Addr} {i : Nat}
theorem GenI.start (hT : TapeAt H1 d (g [])) (nD : H1 D = none) (r : R []) : GenI f g R H1 d D 0 (L2.upd H1 D (.lst [])) :=
  ⟨Keep.same (same_upd nD), [], [], hT.same (same_upd nD), upd_same, rfl, .nil, r⟩
theorem GenI.step {l : List α} {z : α} {y : V} {ws : List V} (nD : H1 D = none) (hdD : d ≠ D) (hk : Keep d H1 H) (hT : TapeAt H d (g l)) (hD : H D = some (.lst ws)) (hl : l.length = i) (hi : i < 1000) (da : DtAll H ws (l.map f)) (k : Keep d H H4) (hT4 : TapeAt H4 d (g (l ++ [z]))) (dy : Dt H4 y (f z)) (r : R (l ++ [z])) :
    ∃ acc, H4 D = some (.lst acc) ∧ acc.length < sizeLine ∧ GenI f g R H1 d D (i + 1) (L2.upd H4 D (.lst (acc ++ [y]))) := by
  have hD4 := k _ _ hD hdD.symm
  have kp : Keep D H4 (L2.upd H4 D (.lst (ws ++ [y]))) := Keep.at
  have tk := kp.tk hD4
  have hwl := da.len
  rw [List.length_map] at hwl
  refine ⟨ws, hD4, by rw [sizeLine_eq]; omega, fun b o q hb => ?_, ws ++ [y], l ++ [z], ?_, upd_same, by rw [List.length_append, hl]; rfl, ?_, r⟩
  · rw [upd_ne (ne_of_none q nD)]
    exact k _ _ (hk _ _ q hb) hb
  · obtain ⟨xs, h1, h2⟩ := hT4
    exact ⟨xs, kp _ _ h1 hdD, h2⟩
  · rw [List.map_append]
    exact ((da.tk (hT.tk k)).tk tk).app (.one (dy.tk tk))
end
theorem tup_new {H : Hp} {p : Addr} {xs : List V} {ds : List PyData} (h : H p = none) (hx : DtAll H xs ds) : ∃ H', upd H p (.tup xs) = H' ∧ Same H H' ∧ Dt H' (.ref p) (.tuple ds) :=
  ⟨_, rfl, same_upd h, .tup upd_same (hx.tk (same_tk (same_upd h)))⟩
def PZ : Nat → Nat
  | 0 => 1
  | d + 1 => 1 + 3 * PZ d
theorem pz_pos (d : Nat) : 1 ≤ PZ d := by cases d <;> simp only [PZ] <;> omega
theorem dpPs_le {l : List Pl} {n : Nat} (h : ∀ p ∈ l, dpP p ≤ n) : dpPs l ≤ n := by
  induction l with
  | nil => exact Nat.zero_le _
  | cons p r ih =>
    have h1 := h p List.mem_cons_self
    have h2 := ih fun q hq => h q (List.mem_cons_of_mem _ hq)
    simp only [dpPs]
    omega
theorem szPs_le {l : List Pl} {n : Nat} (h : ∀ p ∈ l, szP p ≤ n) : szPs l ≤ l.length * n := by
  induction l with
  | nil => simp [szPs]
  | cons p r ih =>
    have h1 := h p List.mem_cons_self
    have h2 := ih fun q hq => h q (List.mem_cons_of_mem _ hq)
    simp only [szPs, List.length_cons, Nat.add_mul]
    omega
section
variable {P : Program} {w : World} {K : PySem.W.Frag} {mg : Str → Option Value} {base : Heap}
/-! _law_plain -/
def spPlain (n : Nat) : Sp := fun vs H Q _ => ∃ (d : Addr) (x : Int) (dp : Nat), vs = [.ref d, .int (dp : Nat)] ∧ dp < n ∧ TapeAt H d x ∧ ∀ v p H', Keep d H H' → TapeAt H' d x → Dt H' v (plD p) → plG p → dpP p ≤ dp → szP p ≤ PZ dp → Q v H'
theorem plain0 {f : Addr} {fd : FuncData} {k : Nat} (F : Dfn K mg "_law_plain" st__law_plain f fd ["draws", "depth"]) : Cal P w K mg base k "_law_plain" (spPlain 0) := by
  have no : ∀ vs H Q E, ¬ spPlain 0 vs H Q E := fun vs H Q E h => by
    obtain ⟨_, _, _, _, h, _⟩ := h
    exact Nat.not_lt_zero _ h
  exact ⟨f, fd, _, ⟨fun vs H Q E h => absurd h (no vs H Q E), fun A outer s H args us vs Q E _ _ _ _ h => absurd h (no vs H Q E)⟩, F.mgf, F.fn.kp, F.b⟩
theorem ok_plain {f : Addr} {fd : FuncData} {n k : Nat} (F : Dfn K mg "_law_plain" st__law_plain f fd ["draws", "depth"]) (M : Mg mg) (G_law_next : Cal P w K mg base (k + 1) "_law_next" spNext) (G_law_plain : Cal P w K mg base (k + 1) "_law_plain" (spPlain n)) : Cal P w K mg base (k + 2) "_law_plain" (spPlain (n + 1)) := by
  refine cal_mk F sc_law_plain (fun vs H Q E h => ?_) (fun cdv A outer s H vs Q E hr h => ?_)
  · obtain ⟨d, x, dp, rfl, _⟩ := h
    rfl
  obtain ⟨d, x, dp, rfl, hdp, hT, q⟩ := h
  refine ⟨_, (pss_cons (ps_set (i := 2) sc_law_plain.nd rfl (.inl rfl) (pe_c G_law_next hr (by omega) (by rfl) (pa_cons (pv 0) (pa_cons pe_int pa_nil))))
      (pss_cons (ps_if (PW.pt (pw_and (pt_cmpR op_gt (pv 1) pe_int (nomark _)) (pw_and1 (pt_cmpR op_lt (pv 2) pe_int (nomark _))))) (pss_one (ps_ret (pe_tup (pa_cons pe_str (pa_cons (pe_callTy (cTup K rfl) (by rfl) M.tuple b_tuple (pa_cons (pe_lc (own := [("k", 3)]) (g := gName 3) (by rfl) sc_law_plain.nd (pi_range1 (by rfl) M.range (pa_cons (pe_c G_law_next hr (by omega) (by rfl) (pa_cons (pv 0) (pa_cons pe_int pa_nil))) pa_nil)) (blkOk_by (own := [("k", 3)]) (N := ["draws", "depth", "kind", "k"]) (sc := defScope st__law_plain) (by decide +kernel)) (fun _ _ _ _ _ => (pg_name (i := 3) sc_law_plain.nd rfl (.inl rfl))) (fun _ _ _ _ _ => pts_nil) (fun _ _ _ _ _ => (pe_c G_law_plain hr (by omega) (by rfl) (pa_cons (pv 0) (pa_cons (pe_op op_sub (pv 1) pe_int) pa_nil))))) pa_nil)) pa_nil))))) pss_nil)
      (pss_one (ps_ret (pe_ix (ixT K rfl) (pe_tup (pa_cons (pe_tup (pa_cons pe_str (pa_cons (pe_op op_sub (pe_c G_law_next hr (by omega) (by rfl) (pa_cons (pv 0) (pa_cons pe_int pa_nil))) pe_int) pa_nil))) (pa_cons (pe_tup (pa_cons pe_str (pa_cons pe_bl pa_nil))) (pa_cons (pe_tup (pa_cons pe_str (pa_cons pe_bl pa_nil))) (pa_cons (pe_tup (pa_cons pe_str (pa_cons pe_str pa_nil))) (pa_cons (pe_tup (pa_cons pe_str (pa_cons (pe_op op_sub (pe_op op_pow pe_int pe_int) pe_int) pa_nil))) (pa_cons (pe_tup (pa_cons pe_str (pa_cons pe_str pa_nil))) pa_nil))))))) (pv 2) (fun _ _ => rfl)))))), ?_⟩
  refine ⟨_, rfl, d, 6, x, rfl, by decide, hT, fun r H1 r0 r1 k1 hT1 => ?_⟩
  dsimp only [gName]
  refine seq_split (t1 := tIfS _ _ _) (fun σ' H' => σ' = [some (.ref d), some (.int (dp : Nat)), some (.int r), none] ∧ H' = H1) ?_ (fun J => ?_)
  · rintro σ' H' ⟨rfl, rfl⟩
    refine ⟨_, rfl, d, 900, x, rfl, by decide, hT1, fun z H2 z0 z1 k2 hT2 => ?_⟩
    have k12 := k1.trans k2
    refine ⟨_, _, rfl, rfl, ?_⟩
    dsimp only [tNil]
    refine ⟨by show 2 ≤ sizeLine; decide, fun p1 n1 => ?_⟩
    obtain ⟨G1, e1, s1, d1⟩ := tup_new n1 (.cons (.str (Str.ofString "number")) (.cons (.int (z - 400)) .nil))
    rw [e1]
    refine ⟨by show 2 ≤ sizeLine; decide, fun p2 n2 => ?_⟩
    obtain ⟨G2, e2, s2, d2⟩ := tup_new n2 (.cons (.str (Str.ofString "flag")) (.cons (.bl true) .nil))
    rw [e2]
    refine ⟨by show 2 ≤ sizeLine; decide, fun p3 n3 => ?_⟩
    obtain ⟨G3, e3, s3, d3⟩ := tup_new n3 (.cons (.str (Str.ofString "flag")) (.cons (.bl false) .nil))
    rw [e3]
    refine ⟨by show 2 ≤ sizeLine; decide, fun p4 n4 => ?_⟩
    obtain ⟨G4, e4, s4, d4⟩ := tup_new n4 (.cons (.str (Str.ofString "text")) (.cons (.str (Str.ofString "a (b")) .nil))
    rw [e4]
    refine ⟨_, _, rfl, rfl, by constructor <;> decide, _, _, rfl, rfl, ?_⟩
    refine ⟨by show 2 ≤ sizeLine; decide, fun p5 n5 => ?_⟩
    obtain ⟨G5, e5, s5, d5⟩ := tup_new n5 (.cons (.str (Str.ofString "number")) (.cons (.int (10 ^ (30 : Int).toNat - 1)) .nil))
    rw [e5]
    refine ⟨by show 2 ≤ sizeLine; decide, fun p6 n6 => ?_⟩
    obtain ⟨G6, e6, s6, d6⟩ := tup_new n6 (.cons (.str (Str.ofString "text")) (.cons (.str (Str.ofString "")) .nil))
    rw [e6]
    refine ⟨by show 6 ≤ sizeLine; decide, fun p7 n7 => ?_⟩
    have s7 := same_upd (o := .tup [.ref p1, .ref p2, .ref p3, .ref p4, .ref p5, .ref p6]) n7
    have e7 := upd_same (H := G6) (a := p7) (o := .tup [.ref p1, .ref p2, .ref p3, .ref p4, .ref p5, .ref p6])
    generalize L2.upd G6 p7 (.tup [.ref p1, .ref p2, .ref p3, .ref p4, .ref p5, .ref p6]) = G7 at s7 e7 ⊢
    have t6 := same_trans s6 s7
    have t5 := same_trans s5 t6
    have t4 := same_trans s4 t5
    have t3 := same_trans s3 t4
    have t2 := same_trans s2 t3
    have t1 := same_trans s1 t2
    have kk := k12.trans (Keep.same t1)
    have hTT := hT2.same t1
    obtain ⟨rn, rfl⟩ : ∃ rn : Nat, r = (rn : Int) := ⟨r.toNat, by omega⟩
    have hz := pz_pos dp
    have ob : ∀ (pp : Addr) (p : Pl), Dt G7 (.ref pp) (plD p) → plG p → isLst p = false → [V.ref p1, .ref p2, .ref p3, .ref p4, .ref p5, .ref p6][rn]? = some (.ref pp) → rIxT K (.ref p7) (.int (rn : Nat)) G7 Q := fun pp p hd hg hl hi => by
      refine ixt e7 (atI_nat hi) (q _ p G7 kk hTT hd hg ?_ ?_)
      · cases p with
        | lst l => cases hl
        | _ => simp only [dpP]; exact Nat.zero_le _
      · cases p with
        | lst l => cases hl
        | _ => simp only [szP]; exact hz
    have hcase : rn = 0 ∨ rn = 1 ∨ rn = 2 ∨ rn = 3 ∨ rn = 4 ∨ rn = 5 := by omega
    refine ⟨_, rfl, ?_⟩
    rcases hcase with rfl | rfl | rfl | rfl | rfl | rfl
    · exact ob p1 (.num (z - 400)) (d1.tk (same_tk t2)) (by simp only [plG]; have : (1000 : Nat) < 10 ^ 30 := by decide
                                                            omega) rfl rfl
    · exact ob p2 (.flg true) (d2.tk (same_tk t3)) True.intro rfl rfl
    · exact ob p3 (.flg false) (d3.tk (same_tk t4)) True.intro rfl rfl
    · exact ob p4 (.txt (tx "a (b")) (d4.tk (same_tk t5)) (by simp only [plG]; decide +kernel) rfl rfl
    · exact ob p5 (.num _) (d5.tk (same_tk t6)) (by simp only [plG]; decide +kernel) rfl rfl
    · exact ob p6 (.txt (tx "")) (d6.tk (same_tk s7)) (by simp only [plG]; decide +kernel) rfl rfl
  · refine ⟨_, rfl, _, _, rfl, rfl, _, rfl, ?_⟩
    by_cases h0 : dp = 0
    · refine dF (by omega) ?_
      exact iteF (J _ _ ⟨rfl, rfl⟩)
    refine dT (by omega) ?_
    refine ⟨_, rfl, _, _, rfl, rfl, _, rfl, ?_⟩
    by_cases h3 : r < 3
    · refine dT h3 ?_
      refine ⟨_, rfl, d, 4, x, rfl, by decide, hT1, fun m H2 m0 m1 k2 hT2 => ?_⟩
      have k12 := k1.trans k2
      obtain ⟨dq, rfl⟩ : ∃ dq, dp = dq + 1 := ⟨dp - 1, by omega⟩
      have ed : ((dq + 1 : Nat) : Int) - 1 = (dq : Nat) := by omega
      refine ⟨m, rfl, by omega, by omega, fun D nD => ?_⟩
      have hdD := hT2.ne nD
      refine lc_range (lo := 0) (n := m.toNat) (GenI plD (fun _ => x) (fun l => ∀ p ∈ l, plG p ∧ dpP p ≤ dq ∧ szP p ≤ PZ dq) H2 d D) (GenI.start hT2 nD (fun p hp => by cases hp)) ?_ ?_
      · rintro i H3 hi ⟨k3, ws, l, hT3, hD3, hl, da, rr⟩
        refine ⟨rfl, ?_⟩
        unfold tYes
        refine iteT ⟨_, rfl, _, rfl, _, _, rfl, rfl, d, x, dq, congrArg (fun z => [V.ref d, V.int z]) ed, by omega, hT3, fun v p H4 k4 hT4 dv g1 g2 g3 => ?_⟩
        exact GenI.step nD hdD k3 hT3 hD3 hl (by omega) da k4 hT4 dv (fun p' hp' => by
          rcases List.mem_append.mp hp' with z | z
          · exact rr p' z
          · rw [List.mem_singleton.mp z]; exact ⟨g1, g2, g3⟩)
      · rintro H3 ⟨k3, ws, l, hT3, hD3, hl, da, rr⟩
        refine ⟨D, ws, rfl, .inl ⟨SqL.of hD3, fun p np => ?_⟩⟩
        obtain ⟨G1, e1, s1, d1⟩ := tup_new np da
        rw [e1]
        refine ⟨by show 2 ≤ sizeLine; decide, fun p2 n2 => ?_⟩
        obtain ⟨G2, e2, s2, d2⟩ := tup_new n2 (.cons (.str (Str.ofString "list")) (.cons d1 .nil))
        rw [e2]
        have sz := szPs_le (n := PZ dq) fun p hp => (rr p hp).2.2
        have h4 : l.length * PZ dq ≤ 3 * PZ dq := Nat.mul_le_mul_right _ (by omega)
        have hdp := dpPs_le (n := dq) fun p hp => (rr p hp).2.1
        refine q _ (.lst l) G2 (k12.trans (k3.trans (Keep.same (same_trans s1 s2)))) (hT3.same (same_trans s1 s2)) (by simp only [plD, plDs_map]; exact d2) ?_ ?_ ?_
        · simp only [plG]
          exact plGs_of fun p hp => (rr p hp).1
        · simp only [dpP]
          omega
        · simp only [szP, PZ]
          omega
    · refine dF h3 ?_
      exact J _ _ ⟨rfl, rfl⟩
theorem plain_all {f : Addr} {fd : FuncData} (F : Dfn K mg "_law_plain" st__law_plain f fd ["draws", "depth"]) (M : Mg mg) (G_law_next : Cal P w K mg base 1 "_law_next" spNext) : ∀ n : Nat, Cal P w K mg base (n + 1) "_law_plain" (spPlain n)
  | 0 => plain0 F
  | n + 1 => ok_plain (k := n) F M (G_law_next.mono (by omega)) (plain_all F M G_law_next n)
end
end W8
set_option Elab.async false
set_option linter.all false
set_option maxRecDepth 100000
set_option maxHeartbeats 4000000
namespace W8
open PySem PySem.Spec PyProof.Rows L2 Com Kb Tx SX ND
section
variable {P : Program} {w : World} {K : PySem.W.Frag} {mg : Str → Option Value} {base : Heap}
theorem abc_at {H : Hp} {r : Int} {Q : VK} (h0 : 0 ≤ r) (h1 : r < 3) (q : ∀ n, nmOk n → Q (.str (S n)) H) : rIxS (.str ("abc" : Str)) (.int r) H Q := by
  have : r = 0 ∨ r = 1 ∨ r = 2 := by omega
  rcases this with rfl | rfl | rfl
  · exact ⟨_, _, 97, rfl, rfl, by decide +kernel, rfl, q (tx "a") (.inl rfl)⟩
  · exact ⟨_, _, 98, rfl, rfl, by decide +kernel, rfl, q (tx "b") (.inr (.inl rfl))⟩
  · exact ⟨_, _, 99, rfl, rfl, by decide +kernel, rfl, q (tx "c") (.inr (.inr (.inl rfl)))⟩
/-! _law_calm, _law_syntax -/
def spSyG (n : Nat) : Sp := fun vs H Q _ => ∃ (d : Addr) (x : Int) (dp : Nat), vs = [.ref d, .int (dp : Nat)] ∧ dp < n ∧ TapeAt H d x ∧ ∀ v s H', Keep d H H' → TapeAt H' d x → Dt H' v (syD s) → syOk dp s → Q v H'
theorem calm0 {f : Addr} {fd : FuncData} {k : Nat} (F : Dfn K mg "_law_calm" st__law_calm f fd ["draws", "depth"]) : Cal P w K mg base k "_law_calm" (spSyG 0) := by
  have no : ∀ vs H Q E, ¬ spSyG 0 vs H Q E := fun vs H Q E h => by
    obtain ⟨_, _, _, _, h, _⟩ := h
    exact Nat.not_lt_zero _ h
  exact ⟨f, fd, _, ⟨fun vs H Q E h => absurd h (no vs H Q E), fun A outer s H args us vs Q E _ _ _ _ h => absurd h (no vs H Q E)⟩, F.mgf, F.fn.kp, F.b⟩
theorem ok_calm {f : Addr} {fd : FuncData} {n k : Nat} (F : Dfn K mg "_law_calm" st__law_calm f fd ["draws", "depth"]) (M : Mg mg) (G_law_next : Cal P w K mg base (k + 1) "_law_next" spNext) (G_law_calm : Cal P w K mg base (k + 1) "_law_calm" (spSyG n)) : Cal P w K mg base (k + 2) "_law_calm" (spSyG (n + 1)) := by
  refine cal_mk F sc_law_calm (fun vs H Q E h => ?_) (fun cdv A outer s H vs Q E hr h => ?_)
  · obtain ⟨d, x, dp, rfl, _⟩ := h
    rfl
  obtain ⟨d, x, dp, rfl, hdp, hT, q⟩ := h
  refine ⟨_, (pss_cons (ps_set (i := 2) sc_law_calm.nd rfl (.inl rfl) (pe_tup (pa_cons pe_str (pa_cons (pe_c G_law_next hr (by omega) (by rfl) (pa_cons (pv 0) (pa_cons pe_int pa_nil))) pa_nil))))
      (pss_cons (ps_if (PW.pt (pw_and (pt_cmpR op_gt (pv 1) pe_int (nomark _)) (pw_and1 (pt_cmpR op_eq (pe_c G_law_next hr (by omega) (by rfl) (pa_cons (pv 0) (pa_cons pe_int pa_nil))) pe_int (nomark _))))) (pss_one (ps_ret (pe_tup (pa_cons pe_str (pa_cons (pe_callTy (cTup K rfl) (by rfl) M.tuple b_tuple (pa_cons (pe_lc (own := [("k", 3)]) (g := gName 3) (by rfl) sc_law_calm.nd (pi_range1 (by rfl) M.range (pa_cons (pe_c G_law_next hr (by omega) (by rfl) (pa_cons (pv 0) (pa_cons pe_int pa_nil))) pa_nil)) (blkOk_by (own := [("k", 3)]) (N := ["draws", "depth", "where", "k"]) (sc := defScope st__law_calm) (by decide +kernel)) (fun _ _ _ _ _ => (pg_name (i := 3) sc_law_calm.nd rfl (.inl rfl))) (fun _ _ _ _ _ => pts_nil) (fun _ _ _ _ _ => (pe_c G_law_calm hr (by omega) (by rfl) (pa_cons (pv 0) (pa_cons (pe_op op_sub (pv 1) pe_int) pa_nil))))) pa_nil)) (pa_cons (pv 2) pa_nil)))))) pss_nil)
      (pss_cons (ps_if (pt_cmpR op_eq (pe_c G_law_next hr (by omega) (by rfl) (pa_cons (pv 0) (pa_cons pe_int pa_nil))) pe_int (nomark _)) (pss_one (ps_ret (pe_tup (pa_cons pe_str (pa_cons pe_str (pa_cons pe_int (pa_cons (pv 2) pa_nil))))))) pss_nil)
      (pss_one (ps_ret (pe_tup (pa_cons pe_str (pa_cons (pe_ix ix_str pe_str (pe_c G_law_next hr (by omega) (by rfl) (pa_cons (pv 0) (pa_cons pe_int pa_nil))) (fun _ _ => rfl)) (pa_cons (pv 2) (pa_cons (pe_ix (ixT K rfl) (pe_tup (pa_cons (pe_tup pa_nil) (pa_cons (pe_tup (pa_cons (pe_tup (pa_cons pe_str (pa_cons pe_int (pa_cons pe_int pa_nil)))) pa_nil)) pa_nil))) (pe_c G_law_next hr (by omega) (by rfl) (pa_cons (pv 0) (pa_cons pe_int pa_nil))) (fun _ _ => rfl)) pa_nil)))))))))), ?_⟩
  refine ⟨_, rfl, d, 500, x, rfl, by decide, hT, fun p H1 p0 p1 k1 hT1 => ?_⟩
  dsimp only [tCons, tNil]
  refine ⟨by show 2 ≤ sizeLine; decide, fun wa nw => ?_⟩
  obtain ⟨H2, e2, s2, dw⟩ := tup_new nw (.cons (.str (Str.ofString "m")) (.cons (.int p) .nil))
  rw [e2]
  have k2 := k1.trans (Keep.same s2)
  have hT2 := hT1.same s2
  dsimp only [gName]
  refine seq_split (t1 := tIfS _ _ _) (fun σ' H' => σ' = [some (.ref d), some (.int (dp : Nat)), some (.ref wa), none] ∧ Keep d H H' ∧ TapeAt H' d x ∧ Dt H' (.ref wa) (whD (tx "m") p)) ?_ (fun J => ?_)
  · rintro σ' H3 ⟨rfl, k3, hT3, dw3⟩
    refine ⟨_, rfl, d, 5, x, rfl, by decide, hT3, fun r H4 r0 r1 k4 hT4 => ?_⟩
    have k34 := k3.trans k4
    have dw4 := dw3.tk (hT3.tk k4)
    refine ⟨rfl, _, rfl, ite2 (fun c => ?_) (fun c => ?_)⟩
    · refine ⟨_, rfl, by show 4 ≤ sizeLine; decide, fun a na => ?_⟩
      obtain ⟨H5, e5, s5, d5⟩ := tup_new na (.cons (.str (Str.ofString "atom")) (.cons (.str (Str.ofString "number")) (.cons (.int 7) (.cons dw4 .nil))))
      rw [e5]
      exact q _ (.num 7 (tx "m") p) H5 (k34.trans (Keep.same s5)) (hT4.same s5) d5 (by simp only [syOk]; decide)
    · dsimp only [tNext]
      refine ⟨_, rfl, d, 3, x, rfl, by decide, hT4, fun r2 H5 r20 r21 k5 hT5 => ?_⟩
      have k35 := k34.trans k5
      have dw5 := dw4.tk (hT4.tk k5)
      refine abc_at r20 r21 fun nm hnm => ?_
      refine ⟨_, rfl, ?_⟩
      refine ⟨by show 0 ≤ sizeLine; decide, fun t1 n1 => ?_⟩
      obtain ⟨G1, e1, s1, d1⟩ := tup_new n1 (ds := []) .nil
      rw [e1]
      refine ⟨by show 3 ≤ sizeLine; decide, fun t2 n2 => ?_⟩
      obtain ⟨G2, e2', s2', d2⟩ := tup_new n2 (.cons (.str (Str.ofString "m")) (.cons (.int 0) (.cons (.int 0) .nil)))
      rw [e2']
      refine ⟨by show 1 ≤ sizeLine; decide, fun t3 n3 => ?_⟩
      obtain ⟨G3, e3, s3, d3⟩ := tup_new n3 (.cons d2 .nil)
      rw [e3]
      refine ⟨by show 2 ≤ sizeLine; decide, fun t4 n4 => ?_⟩
      have s4 := same_upd (o := .tup [.ref t1, .ref t3]) n4
      have e4 := upd_same (H := G3) (a := t4) (o := .tup [.ref t1, .ref t3])
      generalize L2.upd G3 t4 (.tup [.ref t1, .ref t3]) = G4 at s4 e4 ⊢
      have s24 := same_trans s2' (same_trans s3 s4)
      have s14 := same_trans s1 s24
      have hT6 := hT5.same s14
      refine ⟨_, rfl, d, 2, x, rfl, by decide, hT6, fun r3 H6 r30 r31 k6 hT7 => ?_⟩
      have e46 := hT6.tk k6 _ _ e4
      have dw6 := (dw5.tk (same_tk s14)).tk (hT6.tk k6)
      have kz := (k35.trans (Keep.same s14)).trans k6
      have hcase : r3 = 0 ∨ r3 = 1 := by omega
      have fin : ∀ (sc : Bool) (tt : Addr), Dt H6 (.ref tt) (scD sc) → ∀ a, H6 a = none → Q (.ref a) (L2.upd H6 a (.tup [.str (Str.ofString "id"), .str (S nm), .ref wa, .ref tt])) := fun sc tt dt a na => by
        obtain ⟨G5, e5, s5, d5⟩ := tup_new na (.cons (.str (Str.ofString "id")) (.cons (.str (S nm)) (.cons dw6 (.cons dt .nil))))
        rw [e5]
        exact q _ (.id nm (tx "m") p sc) G5 (kz.trans (Keep.same s5)) (hT7.same s5) (by simp only [syD]; exact d5) (by simp only [syOk]; exact ⟨hnm, by decide +kernel, p0, by omega⟩)
      rcases hcase with rfl | rfl
      · refine ixt e46 (atI_nat (j := 0) rfl) ?_
        refine ⟨by show 4 ≤ sizeLine; decide, fun a na => ?_⟩
        exact fin false t1 ((d1.tk (same_tk s24)).tk (hT6.tk k6)) a na
      · refine ixt e46 (atI_nat (j := 1) rfl) ?_
        refine ⟨by show 4 ≤ sizeLine; decide, fun a na => ?_⟩
        exact fin true t3 ((d3.tk (same_tk s4)).tk (hT6.tk k6)) a na
  · refine ⟨_, rfl, _, _, rfl, rfl, _, rfl, ?_⟩
    by_cases h0 : dp = 0
    · refine dF (by omega) ?_
      exact iteF (J _ _ ⟨rfl, k2, hT2, dw⟩)
    refine dT (by omega) ?_
    refine ⟨_, rfl, d, 2, x, rfl, by decide, hT2, fun r H3 r0 r1 k3 hT3 => ?_⟩
    have k13 := k2.trans k3
    have dw3 := dw.tk (hT2.tk k3)
    refine ⟨rfl, _, rfl, ite2 (fun c => ?_) (fun c => J _ _ ⟨rfl, k13, hT3, dw3⟩)⟩
    refine ⟨_, rfl, d, 4, x, rfl, by decide, hT3, fun m H4 m0 m1 k4 hT4 => ?_⟩
    have k14 := k13.trans k4
    have dw4 := dw3.tk (hT3.tk k4)
    obtain ⟨dq, rfl⟩ : ∃ dq, dp = dq + 1 := ⟨dp - 1, by omega⟩
    have ed : ((dq + 1 : Nat) : Int) - 1 = (dq : Nat) := by omega
    refine ⟨m, rfl, by omega, by omega, fun D nD => ?_⟩
    have hdD := hT4.ne nD
    refine lc_range (lo := 0) (n := m.toNat) (GenI syD (fun _ => x) (fun l => ∀ s ∈ l, syOk dq s) H4 d D) (GenI.start hT4 nD (fun p hp => by cases hp)) ?_ ?_
    · rintro i H5 hi ⟨k5, ws, l, hT5, hD5, hl, da, rr⟩
      refine ⟨rfl, ?_⟩
      unfold tYes
      refine iteT ⟨_, rfl, _, rfl, _, _, rfl, rfl, d, x, dq, congrArg (fun z => [V.ref d, V.int z]) ed, by omega, hT5, fun v s H6 k6 hT6 dv g1 => ?_⟩
      exact GenI.step nD hdD k5 hT5 hD5 hl (by omega) da k6 hT6 dv (fun p' hp' => by
        rcases List.mem_append.mp hp' with z | z
        · exact rr p' z
        · rw [List.mem_singleton.mp z]; exact g1)
    · rintro H5 ⟨k5, ws, l, hT5, hD5, hl, da, rr⟩
      refine ⟨D, ws, rfl, .inl ⟨SqL.of hD5, fun t nt => ?_⟩⟩
      obtain ⟨G1, e1, s1, d1⟩ := tup_new nt da
      rw [e1]
      have dw5 := (dw4.tk (hT4.tk k5)).tk (same_tk s1)
      refine ⟨_, rfl, by show 3 ≤ sizeLine; decide, fun a na => ?_⟩
      obtain ⟨G2, e2, s2, d2⟩ := tup_new na (.cons (.str (Str.ofString "list")) (.cons d1 (.cons dw5 .nil)))
      rw [e2]
      refine q _ (.lst l (tx "m") p) G2 (k14.trans (k5.trans (Keep.same (same_trans s1 s2)))) (hT5.same (same_trans s1 s2)) (by simp only [syD, syDs_map]; exact d2) ?_
      simp only [syOk]
      exact ⟨by omega, syOks_of rr⟩
end
end W8
set_option Elab.async false
set_option linter.all false
set_option maxRecDepth 100000
set_option maxHeartbeats 4000000
namespace W8
open PySem PySem.Spec PyProof.Rows L2 Com Kb Tx SX ND
theorem mod_at {K : PySem.W.Frag} {H : Hp} {a : Addr} {r : Int} {Q : VK} (e : H a = some (.tup [.str (Str.ofString "m"), .str (Str.ofString "other"), .str (Str.ofString "z")])) (h0 : 0 ≤ r) (h1 : r < 3) (q : ∀ m : Tx.T, m.length ≤ 5 → Q (.str (S m)) H) : rIxT K (.ref a) (.int r) H Q := by
  have : r = 0 ∨ r = 1 ∨ r = 2 := by omega
  rcases this with rfl | rfl | rfl
  · exact ixt e (atI_nat (j := 0) rfl) (q (tx "m") (by decide +kernel))
  · exact ixt e (atI_nat (j := 1) rfl) (q (tx "other") (by decide +kernel))
  · exact ixt e (atI_nat (j := 2) rfl) (q (tx "z") (by decide +kernel))
section
variable {P : Program} {w : World} {K : PySem.W.Frag} {mg : Str → Option Value} {base : Heap}
theorem calm_all {f : Addr} {fd : FuncData} (F : Dfn K mg "_law_calm" st__law_calm f fd ["draws", "depth"]) (M : Mg mg) (G_law_next : Cal P w K mg base 1 "_law_next" spNext) : ∀ n : Nat, Cal P w K mg base (n + 1) "_law_calm" (spSyG n)
  | 0 => calm0 F
  | n + 1 => ok_calm (k := n) F M (G_law_next.mono (by omega)) (calm_all F M G_law_next n)
/-! _law_syntax -/
theorem syn00 {f : Addr} {fd : FuncData} {k : Nat} (F : Dfn K mg "_law_syntax" st__law_syntax f fd ["draws", "depth"]) : Cal P w K mg base k "_law_syntax" (spSyG 0) := by
  have no : ∀ vs H Q E, ¬ spSyG 0 vs H Q E := fun vs H Q E h => by
    obtain ⟨_, _, _, _, h, _⟩ := h
    exact Nat.not_lt_zero _ h
  exact ⟨f, fd, _, ⟨fun vs H Q E h => absurd h (no vs H Q E), fun A outer s H args us vs Q E _ _ _ _ h => absurd h (no vs H Q E)⟩, F.mgf, F.fn.kp, F.b⟩
theorem ok_syntax {f : Addr} {fd : FuncData} {n k : Nat} (F : Dfn K mg "_law_syntax" st__law_syntax f fd ["draws", "depth"]) (M : Mg mg) (G_law_next : Cal P w K mg base (k + 1) "_law_next" spNext) (G_law_syntax : Cal P w K mg base (k + 1) "_law_syntax" (spSyG n)) : Cal P w K mg base (k + 2) "_law_syntax" (spSyG (n + 1)) := by
  refine cal_mk F sc_law_syntax (fun vs H Q E h => ?_) (fun cdv A outer s H vs Q E hr h => ?_)
  · obtain ⟨d, x, dp, rfl, _⟩ := h
    rfl
  obtain ⟨d, x, dp, rfl, hdp, hT, q⟩ := h
  refine ⟨_, (pss_cons (ps_set (i := 2) sc_law_syntax.nd rfl (.inl rfl) (pe_c G_law_next hr (by omega) (by rfl) (pa_cons (pv 0) (pa_cons pe_int pa_nil))))
      (pss_cons (ps_set (i := 3) sc_law_syntax.nd rfl (.inl rfl) (pe_tup (pa_cons (pe_ix (ixT K rfl) (pe_tup (pa_cons pe_str (pa_cons pe_str (pa_cons pe_str pa_nil)))) (pe_c G_law_next hr (by omega) (by rfl) (pa_cons (pv 0) (pa_cons pe_int pa_nil))) (fun _ _ => rfl)) (pa_cons (pe_c G_law_next hr (by omega) (by rfl) (pa_cons (pv 0) (pa_cons pe_int pa_nil))) pa_nil))))
      (pss_cons (ps_if (PW.pt (pw_and (pt_cmpR op_gt (pv 1) pe_int (nomark _)) (pw_and1 (pt_cmpR op_lt (pv 2) pe_int (nomark _))))) (pss_one (ps_ret (pe_tup (pa_cons pe_str (pa_cons (pe_callTy (cTup K rfl) (by rfl) M.tuple b_tuple (pa_cons (pe_lc (own := [("k", 4)]) (g := gName 4) (by rfl) sc_law_syntax.nd (pi_range1 (by rfl) M.range (pa_cons (pe_c G_law_next hr (by omega) (by rfl) (pa_cons (pv 0) (pa_cons pe_int pa_nil))) pa_nil)) (blkOk_by (own := [("k", 4)]) (N := ["draws", "depth", "kind", "where", "k"]) (sc := defScope st__law_syntax) (by decide +kernel)) (fun _ _ _ _ _ => (pg_name (i := 4) sc_law_syntax.nd rfl (.inl rfl))) (fun _ _ _ _ _ => pts_nil) (fun _ _ _ _ _ => (pe_c G_law_syntax hr (by omega) (by rfl) (pa_cons (pv 0) (pa_cons (pe_op op_sub (pv 1) pe_int) pa_nil))))) pa_nil)) (pa_cons (pv 3) pa_nil)))))) pss_nil)
      (pss_cons (ps_if (pt_cmpR op_lt (pv 2) pe_int (nomark _)) (pss_one (ps_ret (pe_tup (pa_cons pe_str (pa_cons (pe_ix ix_str pe_str (pe_c G_law_next hr (by omega) (by rfl) (pa_cons (pv 0) (pa_cons pe_int pa_nil))) (fun _ _ => rfl)) (pa_cons (pv 3) (pa_cons (pe_ix (ixT K rfl) (pe_tup (pa_cons (pe_tup pa_nil) (pa_cons (pe_tup (pa_cons (pe_tup (pa_cons pe_str (pa_cons pe_int (pa_cons pe_int pa_nil)))) pa_nil)) pa_nil))) (pe_c G_law_next hr (by omega) (by rfl) (pa_cons (pv 0) (pa_cons pe_int pa_nil))) (fun _ _ => rfl)) pa_nil))))))) pss_nil)
      (pss_one (ps_ret (pe_ix (ixT K rfl) (pe_tup (pa_cons (pe_tup (pa_cons pe_str (pa_cons pe_str (pa_cons (pe_op op_sub pe_int pe_int) (pa_cons (pv 3) pa_nil))))) (pa_cons (pe_tup (pa_cons pe_str (pa_cons pe_str (pa_cons pe_str (pa_cons (pv 3) pa_nil))))) (pa_cons (pe_tup (pa_cons pe_str (pa_cons pe_str (pa_cons pe_non (pa_cons (pv 3) pa_nil))))) (pa_cons (pe_tup (pa_cons pe_str (pa_cons pe_str (pa_cons pe_non (pa_cons (pv 3) pa_nil))))) (pa_cons (pe_tup (pa_cons pe_str (pa_cons pe_str (pa_cons pe_bl (pa_cons (pv 3) pa_nil))))) pa_nil)))))) (pe_c G_law_next hr (by omega) (by rfl) (pa_cons (pv 0) (pa_cons pe_int pa_nil))) (fun _ _ => rfl)))))))), ?_⟩
  refine ⟨_, rfl, d, 8, x, rfl, by decide, hT, fun kd H1 kd0 kd1 k1 hT1 => ?_⟩
  dsimp only [gName]
  refine ⟨by show 3 ≤ sizeLine; decide, fun wt nwt => ?_⟩
  have s2 := same_upd (o := .tup [.str (Str.ofString "m"), .str (Str.ofString "other"), .str (Str.ofString "z")]) nwt
  have e2 := upd_same (H := H1) (a := wt) (o := .tup [.str (Str.ofString "m"), .str (Str.ofString "other"), .str (Str.ofString "z")])
  generalize L2.upd H1 wt (.tup [.str (Str.ofString "m"), .str (Str.ofString "other"), .str (Str.ofString "z")]) = H2 at s2 e2 ⊢
  have k2 := k1.trans (Keep.same s2)
  have hT2 := hT1.same s2
  refine ⟨_, rfl, d, 3, x, rfl, by decide, hT2, fun r H3 r0 r1 k3 hT3 => ?_⟩
  have e3 := hT2.tk k3 _ _ e2
  have k13 := k2.trans k3
  refine mod_at e3 r0 r1 fun m hml => ?_
  refine ⟨_, rfl, d, 500, x, rfl, by decide, hT3, fun p H4 p0 p1 k4 hT4 => ?_⟩
  have k14 := k13.trans k4
  dsimp only [tCons, tNil]
  refine ⟨by show 2 ≤ sizeLine; decide, fun wa nw => ?_⟩
  obtain ⟨H5, e5, s5, dw⟩ := tup_new nw (.cons (.str (S m)) (.cons (.int p) .nil))
  rw [e5]
  have k5 := k14.trans (Keep.same s5)
  have hT5 := hT4.same s5
  dsimp only [gName]
  refine seq_split (t1 := tIfS _ _ _) (fun σ' H' => σ' = [some (.ref d), some (.int (dp : Nat)), some (.int kd), some (.ref wa), none] ∧ Keep d H H' ∧ TapeAt H' d x ∧ Dt H' (.ref wa) (whD m p)) ?_ (fun J => ?_)
  · rintro σ' H4 ⟨rfl, k34, hT4, dw4⟩
    refine ⟨_, rfl, _, _, rfl, rfl, _, rfl, ?_⟩
    by_cases hc : kd < 6
    · refine dT hc ?_
      refine ⟨_, rfl, d, 3, x, rfl, by decide, hT4, fun r2 H5 r20 r21 k5 hT5 => ?_⟩
      have k35 := k34.trans k5
      have dw5 := dw4.tk (hT4.tk k5)
      refine abc_at r20 r21 fun nm hnm => ?_
      refine ⟨_, rfl, ?_⟩
      refine ⟨by show 0 ≤ sizeLine; decide, fun t1 n1 => ?_⟩
      obtain ⟨G1, e1, s1, d1⟩ := tup_new n1 (ds := []) .nil
      rw [e1]
      refine ⟨by show 3 ≤ sizeLine; decide, fun t2 n2 => ?_⟩
      obtain ⟨G2, e2', s2', d2⟩ := tup_new n2 (.cons (.str (Str.ofString "m")) (.cons (.int 0) (.cons (.int 0) .nil)))
      rw [e2']
      refine ⟨by show 1 ≤ sizeLine; decide, fun t3 n3 => ?_⟩
      obtain ⟨G3, e3, s3, d3⟩ := tup_new n3 (.cons d2 .nil)
      rw [e3]
      refine ⟨by show 2 ≤ sizeLine; decide, fun t4 n4 => ?_⟩
      have s4 := same_upd (o := .tup [.ref t1, .ref t3]) n4
      have e4 := upd_same (H := G3) (a := t4) (o := .tup [.ref t1, .ref t3])
      generalize L2.upd G3 t4 (.tup [.ref t1, .ref t3]) = G4 at s4 e4 ⊢
      have s24 := same_trans s2' (same_trans s3 s4)
      have s14 := same_trans s1 s24
      have hT6 := hT5.same s14
      refine ⟨_, rfl, d, 2, x, rfl, by decide, hT6, fun r3 H6 r30 r31 k6 hT7 => ?_⟩
      have e46 := hT6.tk k6 _ _ e4
      have dw6 := (dw5.tk (same_tk s14)).tk (hT6.tk k6)
      have kz := (k35.trans (Keep.same s14)).trans k6
      have hcase : r3 = 0 ∨ r3 = 1 := by omega
      have fin : ∀ (sc : Bool) (tt : Addr), Dt H6 (.ref tt) (scD sc) → ∀ a, H6 a = none → Q (.ref a) (L2.upd H6 a (.tup [.str (Str.ofString "id"), .str (S nm), .ref wa, .ref tt])) := fun sc tt dt a na => by
        obtain ⟨G5, e5, s5, d5⟩ := tup_new na (.cons (.str (Str.ofString "id")) (.cons (.str (S nm)) (.cons dw6 (.cons dt .nil))))
        rw [e5]
        exact q _ (.id nm m p sc) G5 (kz.trans (Keep.same s5)) (hT7.same s5) (by simp only [syD]; exact d5) (by simp only [syOk]; exact ⟨hnm, hml, p0, by omega⟩)
      rcases hcase with rfl | rfl
      · refine ixt e46 (atI_nat (j := 0) rfl) ?_
        refine ⟨by show 4 ≤ sizeLine; decide, fun a na => ?_⟩
        exact fin false t1 ((d1.tk (same_tk s24)).tk (hT6.tk k6)) a na
      · refine ixt e46 (atI_nat (j := 1) rfl) ?_
        refine ⟨by show 4 ≤ sizeLine; decide, fun a na => ?_⟩
        exact fin true t3 ((d3.tk (same_tk s4)).tk (hT6.tk k6)) a na
    · refine dF hc ?_
      dsimp only [tNext]
      refine ⟨_, _, rfl, rfl, ?_⟩
      refine ⟨_, rfl, by show 4 ≤ sizeLine; decide, fun a1 n1 => ?_⟩
      obtain ⟨G1, e1, s1, d1⟩ := tup_new n1 (.cons (.str (Str.ofString "atom")) (.cons (.str (Str.ofString "number")) (.cons (.int (0 - 7)) (.cons dw4 .nil))))
      rw [e1]
      have w1 := dw4.tk (same_tk s1)
      refine ⟨_, rfl, by show 4 ≤ sizeLine; decide, fun a2 n2 => ?_⟩
      obtain ⟨G2, e2, s2, d2⟩ := tup_new n2 (.cons (.str (Str.ofString "atom")) (.cons (.str (Str.ofString "text")) (.cons (.str (Str.ofString "q")) (.cons w1 .nil))))
      rw [e2]
      have w2 := w1.tk (same_tk s2)
      refine ⟨_, rfl, by show 4 ≤ sizeLine; decide, fun a3 n3 => ?_⟩
      obtain ⟨G3, e3, s3, d3⟩ := tup_new n3 (.cons (.str (Str.ofString "atom")) (.cons (.str (Str.ofString "dots")) (.cons .non (.cons w2 .nil))))
      rw [e3]
      have w3 := w2.tk (same_tk s3)
      refine ⟨_, rfl, by show 4 ≤ sizeLine; decide, fun a4 n4 => ?_⟩
      obtain ⟨G4, e4, s4, d4⟩ := tup_new n4 (.cons (.str (Str.ofString "atom")) (.cons (.str (Str.ofString "wild")) (.cons .non (.cons w3 .nil))))
      rw [e4]
      have w4 := w3.tk (same_tk s4)
      refine ⟨_, rfl, by show 4 ≤ sizeLine; decide, fun a5 n5 => ?_⟩
      obtain ⟨G5, e5, s5, d5⟩ := tup_new n5 (.cons (.str (Str.ofString "atom")) (.cons (.str (Str.ofString "flag")) (.cons (.bl true) (.cons w4 .nil))))
      rw [e5]
      refine ⟨by show 5 ≤ sizeLine; decide, fun a6 n6 => ?_⟩
      have s6 := same_upd (o := .tup [.ref a1, .ref a2, .ref a3, .ref a4, .ref a5]) n6
      have e6 := upd_same (H := G5) (a := a6) (o := .tup [.ref a1, .ref a2, .ref a3, .ref a4, .ref a5])
      generalize L2.upd G5 a6 (.tup [.ref a1, .ref a2, .ref a3, .ref a4, .ref a5]) = G6 at s6 e6 ⊢
      have t5 := same_trans s5 s6
      have t4 := same_trans s4 t5
      have t3 := same_trans s3 t4
      have t2 := same_trans s2 t3
      have t1 := same_trans s1 t2
      have hT6 := hT4.same t1
      refine ⟨_, rfl, d, 5, x, rfl, by decide, hT6, fun r3 G7 r30 r31 k6 hT7 => ?_⟩
      have e67 := hT6.tk k6 _ _ e6
      have kz := (k34.trans (Keep.same t1)).trans k6
      have tz := hT6.tk k6
      have hcase : r3 = 0 ∨ r3 = 1 ∨ r3 = 2 ∨ r3 = 3 ∨ r3 = 4 := by omega
      rcases hcase with rfl | rfl | rfl | rfl | rfl
      · exact ixt e67 (atI_nat (j := 0) rfl) (q _ (.num (0 - 7) m p) G7 kz hT7 ((d1.tk (same_tk t2)).tk tz) (by simp only [syOk]; decide))
      · exact ixt e67 (atI_nat (j := 1) rfl) (q _ (.txt (tx "q") m p) G7 kz hT7 ((d2.tk (same_tk t3)).tk tz) (by simp only [syOk]; decide +kernel))
      · exact ixt e67 (atI_nat (j := 2) rfl) (q _ (.dots m p) G7 kz hT7 ((d3.tk (same_tk t4)).tk tz) (by simp only [syOk]))
      · exact ixt e67 (atI_nat (j := 3) rfl) (q _ (.wild m p) G7 kz hT7 ((d4.tk (same_tk t5)).tk tz) (by simp only [syOk]))
      · exact ixt e67 (atI_nat (j := 4) rfl) (q _ (.flg true m p) G7 kz hT7 ((d5.tk (same_tk s6)).tk tz) (by simp only [syOk]))
  · refine ⟨_, rfl, _, _, rfl, rfl, _, rfl, ?_⟩
    by_cases h0 : dp = 0
    · refine dF (by omega) ?_
      exact iteF (J _ _ ⟨rfl, k5, hT5, dw⟩)
    refine dT (by omega) ?_
    refine ⟨_, rfl, _, _, rfl, rfl, _, rfl, ?_⟩
    by_cases hc : kd < 3
    · refine dT hc ?_
      refine ⟨_, rfl, d, 4, x, rfl, by decide, hT5, fun m' H6 m0 m1 k6 hT6 => ?_⟩
      have k16 := k5.trans k6
      have dw6 := dw.tk (hT5.tk k6)
      obtain ⟨dq, rfl⟩ : ∃ dq, dp = dq + 1 := ⟨dp - 1, by omega⟩
      have ed : ((dq + 1 : Nat) : Int) - 1 = (dq : Nat) := by omega
      refine ⟨m', rfl, by omega, by omega, fun D nD => ?_⟩
      have hdD := hT6.ne nD
      refine lc_range (lo := 0) (n := m'.toNat) (GenI syD (fun _ => x) (fun l => ∀ s ∈ l, syOk dq s) H6 d D) (GenI.start hT6 nD (fun p hp => by cases hp)) ?_ ?_
      · rintro i H7 hi ⟨k7, ws, l, hT7, hD7, hl, da, rr⟩
        refine ⟨rfl, ?_⟩
        unfold tYes
        refine iteT ⟨_, rfl, _, rfl, _, _, rfl, rfl, d, x, dq, congrArg (fun z => [V.ref d, V.int z]) ed, by omega, hT7, fun v s H8 k8 hT8 dv g1 => ?_⟩
        exact GenI.step nD hdD k7 hT7 hD7 hl (by omega) da k8 hT8 dv (fun p' hp' => by
          rcases List.mem_append.mp hp' with z | z
          · exact rr p' z
          · rw [List.mem_singleton.mp z]; exact g1)
      · rintro H7 ⟨k7, ws, l, hT7, hD7, hl, da, rr⟩
        refine ⟨D, ws, rfl, .inl ⟨SqL.of hD7, fun t nt => ?_⟩⟩
        obtain ⟨G1, e1, s1, d1⟩ := tup_new nt da
        rw [e1]
        have dw7 := (dw6.tk (hT6.tk k7)).tk (same_tk s1)
        refine ⟨_, rfl, by show 3 ≤ sizeLine; decide, fun a na => ?_⟩
        obtain ⟨G2, e2, s2, d2⟩ := tup_new na (.cons (.str (Str.ofString "list")) (.cons d1 (.cons dw7 .nil)))
        rw [e2]
        refine q _ (.lst l m p) G2 (k16.trans (k7.trans (Keep.same (same_trans s1 s2)))) (hT7.same (same_trans s1 s2)) (by simp only [syD, syDs_map]; exact d2) ?_
        simp only [syOk]
        exact ⟨by omega, syOks_of rr⟩
    · refine dF hc ?_
      exact J _ _ ⟨rfl, k5, hT5, dw⟩
theorem syntax_all {f : Addr} {fd : FuncData} (F : Dfn K mg "_law_syntax" st__law_syntax f fd ["draws", "depth"]) (M : Mg mg) (G_law_next : Cal P w K mg base 1 "_law_next" spNext) : ∀ n : Nat, Cal P w K mg base (n + 1) "_law_syntax" (spSyG n)
  | 0 => syn00 F
  | n + 1 => ok_syntax (k := n) F M (G_law_next.mono (by omega)) (syntax_all F M G_law_next n)
end
end W8
set_option Elab.async false
set_option linter.all false
set_option maxRecDepth 100000
set_option maxHeartbeats 4000000
namespace W8
open PySem PySem.Spec PyProof.Rows L2 Com Kb Tx SX ND
theorem id_dt {H : Hp} {a : Addr} {n m : Tx.T} {p : Int} {sc : Bool} (h : Dt H (.ref a) (.tuple [.str "id", .str (S n), whD m p, scD sc])) : Dt H (.ref a) (syD (.id n m p sc)) := by simp only [syD]; exact h
theorem lst_dt {H : Hp} {v : V} {l : List Sy} {m : Tx.T} {p : Int} (h : Dt H v (.tuple [.str "list", .tuple (l.map syD), whD m p])) : Dt H v (syD (.lst l m p)) := by simp only [syD, syDs_map]; exact h
theorem DtAll.take {H : Hp} : ∀ {vs : List V} {ds : List PyData} (n : Nat), DtAll H vs ds → DtAll H (vs.take n) (ds.take n)
  | _, _, 0, _ => by simp; exact .nil
  | _, _, _ + 1, .nil => by simp; exact .nil
  | _, _, n + 1, .cons h r => by simp; exact .cons h (DtAll.take n r)
section
variable {P : Program} {w : World} {K : PySem.W.Frag} {mg : Str → Option Value} {base : Heap}
/-! _law_formed -/
def spFormed : Sp := fun vs H Q _ => ∃ (d : Addr) (x : Int) (wv : V) (m : Tx.T) (p : Int), vs = [.ref d, wv] ∧ TapeAt H d x ∧ Dt H wv (whD m p) ∧ ∀ v l H', Keep d H H' → TapeAt H' d x → Dt H' v (lfD l) → lfOk l → Q v H'
theorem ok_formed {f : Addr} {fd : FuncData} {k : Nat} (F : Dfn K mg "_law_formed" st__law_formed f fd ["draws", "where"]) (M : Mg mg) (G_law_next : Cal P w K mg base k "_law_next" spNext) (G_law_calm : Cal P w K mg base k "_law_calm" (spSyG 4)) (G_law_syntax : Cal P w K mg base k "_law_syntax" (spSyG 2)) : Cal P w K mg base (k + 1) "_law_formed" spFormed := by
  refine cal_mk F sc_law_formed (fun vs H Q E h => ?_) (fun cdv A outer s H vs Q E hr h => ?_)
  · obtain ⟨d, x, wv, m, p, rfl, _⟩ := h
    rfl
  obtain ⟨d, x, wv, m, p, rfl, hT, hw, q⟩ := h
  refine ⟨_, (pss_cons (ps_asg (pe_tup (pa_cons (pe_tup (pa_cons pe_str (pa_cons pe_str (pa_cons (pe_tup (pa_cons pe_str (pa_cons (pe_c G_law_next hr (by omega) (by rfl) (pa_cons (pv 0) (pa_cons pe_int pa_nil))) pa_nil))) (pa_cons (pe_tup pa_nil) pa_nil))))) (pa_cons (pe_tup (pa_cons pe_str (pa_cons pe_str (pa_cons (pe_tup (pa_cons pe_str (pa_cons (pe_c G_law_next hr (by omega) (by rfl) (pa_cons (pv 0) (pa_cons pe_int pa_nil))) pa_nil))) (pa_cons (pe_tup pa_nil) pa_nil))))) pa_nil))) (pg_tup rfl (pgs_cons (pg_name (i := 2) sc_law_formed.nd rfl (.inr rfl)) (pgs_cons (pg_name (i := 3) sc_law_formed.nd rfl (.inr rfl)) pgs_nil))))
      (pss_cons (ps_set (i := 4) sc_law_formed.nd rfl (.inl rfl) (pe_tup (pa_cons pe_str (pa_cons pe_str (pa_cons pe_non (pa_cons (pv 1) pa_nil))))))
      (pss_cons (ps_set (i := 5) sc_law_formed.nd rfl (.inl rfl) (pe_tup (pa_cons pe_str (pa_cons (pe_slice (slA K rfl) (pe_tup (pa_cons (pe_tup (pa_cons pe_str (pa_cons pe_str (pa_cons (pe_tup (pa_cons pe_str (pa_cons pe_int pa_nil))) (pa_cons (pe_tup pa_nil) pa_nil))))) pa_nil)) po_none (po_some (pe_c G_law_next hr (by omega) (by rfl) (pa_cons (pv 0) (pa_cons pe_int pa_nil))))) (pa_cons (pv 1) pa_nil)))))
      (pss_cons (ps_set (i := 6) sc_law_formed.nd rfl (.inr rfl) (pe_tup (pa_cons pe_str (pa_cons (pe_slice (slA K rfl) (pe_tup (pa_cons (pv 2) (pa_cons (pv 4) (pa_cons (pv 3) pa_nil)))) po_none (po_some (pe_op op_add pe_int (pe_op op_mul pe_int (pe_c G_law_next hr (by omega) (by rfl) (pa_cons (pv 0) (pa_cons pe_int pa_nil))))))) (pa_cons (pe_tup (pa_cons pe_str (pa_cons pe_int pa_nil))) pa_nil)))))
      (pss_cons (ps_set (i := 7) sc_law_formed.nd rfl (.inl rfl) (pe_c G_law_next hr (by omega) (by rfl) (pa_cons (pv 0) (pa_cons pe_int pa_nil))))
      (pss_cons (ps_if (pt_cmpR op_eq (pv 7) pe_int (nomark _)) (pss_cons (ps_setLc (i := 8) (own := [("k", 11)]) (g := gName 11) (by rfl) sc_law_formed.nd rfl rfl (sw_true rfl rfl rfl (by decide +kernel)) (pi_range1 (by rfl) M.range (pa_cons (pe_c G_law_next hr (by omega) (by rfl) (pa_cons (pv 0) (pa_cons pe_int pa_nil))) pa_nil)) (blkOk_by (own := [("k", 11)]) (N := ["draws", "where", "one", "other", "dots", "literals", "pattern", "kind", "clauses", "head", "rows", "k", "clause"]) (sc := defScope st__law_formed) (by decide +kernel)) (fun _ _ _ _ _ => (pg_name (i := 11) sc_law_formed.nd rfl (.inl rfl))) (fun _ _ _ _ _ => pts_nil) (fun _ _ _ _ _ => (pe_tup (pa_cons pe_str (pa_cons (pe_tup (pa_cons (pv 6) (pa_cons (pe_c G_law_calm hr (by omega) (by rfl) (pa_cons (pv 0) (pa_cons pe_int pa_nil))) pa_nil))) (pa_cons (pv 1) pa_nil))))))
      (pss_cons (ps_set (i := 9) sc_law_formed.nd rfl (.inl rfl) (pe_tup (pa_cons (pe_c G_law_syntax hr (by omega) (by rfl) (pa_cons (pv 0) (pa_cons pe_int pa_nil))) (pa_cons (pe_tup (pa_cons pe_str (pa_cons (pe_ix (ixT K rfl) (pv 5) pe_int (fun _ _ => rfl)) (pa_cons (pv 1) pa_nil)))) pa_nil))))
      (pss_one (ps_ret (pe_tup (pa_cons pe_str (pa_cons (pe_tup (pa_cons pe_str (pa_cons (pe_op (opCatT K rfl) (pv 9) (pe_callTy (cTup K rfl) (by rfl) M.tuple b_tuple (pa_cons (pe_lc (own := [("clause", 12)]) (g := gName 12) (by rfl) sc_law_formed.nd (pi_list (pv 8)) (blkOk_by (own := [("clause", 12)]) (N := ["draws", "where", "one", "other", "dots", "literals", "pattern", "kind", "clauses", "head", "rows", "k", "clause"]) (sc := defScope st__law_formed) (by decide +kernel)) (fun _ _ _ _ _ => (pg_name (i := 12) sc_law_formed.nd rfl (.inl rfl))) (fun _ _ _ _ _ => pts_nil) (fun _ _ _ _ _ => (pe_tup (pa_cons pe_str (pa_cons (pe_tup (pa_cons (pe_tup (pa_cons pe_str (pa_cons (pe_tup (pa_cons (pv 2) (pa_cons (pv 3) pa_nil))) (pa_cons (pv 1) pa_nil)))) (pa_cons (pe_ix (ixT K rfl) (pe_ix (ixT K rfl) (pv 12) pe_int (fun _ _ => rfl)) pe_int (fun _ _ => rfl)) pa_nil))) (pa_cons (pv 1) pa_nil)))))) pa_nil))) (pa_cons (pv 1) pa_nil)))) pa_nil))))))) pss_nil)
      (pss_cons (ps_if (pt_cmpR op_eq (pv 7) pe_int (nomark _)) (pss_one (ps_ret (pe_tup (pa_cons pe_str (pa_cons (pe_tup (pa_cons pe_str (pa_cons (pe_tup (pa_cons (pv 5) (pa_cons (pv 6) pa_nil))) (pa_cons (pv 1) pa_nil)))) pa_nil))))) pss_nil)
      (pss_cons (ps_set (i := 10) sc_law_formed.nd rfl (.inl rfl) (pe_slice (slA K rfl) (pe_tup (pa_cons (pe_tup (pa_cons pe_str (pa_cons (pe_tup pa_nil) (pa_cons pe_int (pa_cons pe_int pa_nil))))) (pa_cons (pe_tup (pa_cons pe_str (pa_cons (pe_tup (pa_cons (pe_tup (pa_cons pe_str (pa_cons pe_int (pa_cons pe_int pa_nil)))) pa_nil)) (pa_cons pe_int (pa_cons pe_int pa_nil))))) (pa_cons (pe_tup (pa_cons pe_str (pa_cons (pe_tup pa_nil) (pa_cons pe_int (pa_cons pe_int pa_nil))))) pa_nil)))) po_none (po_some (pe_c G_law_next hr (by omega) (by rfl) (pa_cons (pv 0) (pa_cons pe_int pa_nil))))))
      (pss_one (ps_ret (pe_tup (pa_cons pe_str (pa_cons (pe_c G_law_calm hr (by omega) (by rfl) (pa_cons (pv 0) (pa_cons pe_int pa_nil))) (pa_cons (pv 10) pa_nil)))))))))))))), ?_⟩
  refine ⟨_, rfl, d, 90, x, rfl, by decide, hT, fun r1 H1 r10 r11 k1 hT1 => ?_⟩
  dsimp only [tCons, tNil]
  refine ⟨by show 2 ≤ sizeLine; decide, fun a1 n1 => ?_⟩
  obtain ⟨G1, e1, s1, d1⟩ := tup_new n1 (.cons (.str (Str.ofString "n")) (.cons (.int r1) .nil))
  rw [e1]
  refine ⟨by show 0 ≤ sizeLine; decide, fun a2 n2 => ?_⟩
  obtain ⟨G2, e2, s2, d2⟩ := tup_new n2 (ds := []) .nil
  rw [e2]
  refine ⟨by show 4 ≤ sizeLine; decide, fun a3 n3 => ?_⟩
  obtain ⟨G3, e3, s3, d3⟩ := tup_new n3 (.cons (.str (Str.ofString "id")) (.cons (.str (Str.ofString "x")) (.cons (d1.tk (same_tk s2)) (.cons d2 .nil))))
  rw [e3]
  have k3 := k1.trans (Keep.same (same_trans s1 (same_trans s2 s3)))
  have hT3 := hT1.same (same_trans s1 (same_trans s2 s3))
  refine ⟨_, rfl, d, 90, x, rfl, by decide, hT3, fun r2 H4 r20 r21 k4 hT4 => ?_⟩
  have d34 := d3.tk (hT3.tk k4)
  refine ⟨by show 2 ≤ sizeLine; decide, fun a4 n4 => ?_⟩
  obtain ⟨G5, e5, s5, d5⟩ := tup_new n4 (.cons (.str (Str.ofString "n")) (.cons (.int r2) .nil))
  rw [e5]
  refine ⟨by show 0 ≤ sizeLine; decide, fun a5 n5 => ?_⟩
  obtain ⟨G6, e6, s6, d6⟩ := tup_new n5 (ds := []) .nil
  rw [e6]
  refine ⟨by show 4 ≤ sizeLine; decide, fun a6 n6 => ?_⟩
  obtain ⟨G7, e7, s7, d7⟩ := tup_new n6 (.cons (.str (Str.ofString "id")) (.cons (.str (Str.ofString "y")) (.cons (d5.tk (same_tk s6)) (.cons d6 .nil))))
  rw [e7]
  have s57 := same_trans s5 (same_trans s6 s7)
  have hone := d34.tk (same_tk s57)
  have k7 := (k3.trans k4).trans (Keep.same s57)
  have hT7 := hT4.same s57
  have hw7 := hw.tk (hT.tk k7)
  clear d1 d2 d3 d34 d5 d6 s1 s2 s3 s5 s6 s7 s57 e1 e2 e3 e5 e6 e7
  refine ⟨by show 2 ≤ sizeLine; decide, fun a7 n7 => ?_⟩
  have sp := same_upd (o := .tup [.ref a3, .ref a6]) n7
  have ep := upd_same (H := G7) (a := a7) (o := .tup [.ref a3, .ref a6])
  generalize L2.upd G7 a7 (.tup [.ref a3, .ref a6]) = H8 at sp ep ⊢
  have hone8 := id_dt (n := tx "x") (m := tx "n") (sc := false) (hone.tk (same_tk sp))
  have hoth8 := id_dt (n := tx "y") (m := tx "n") (sc := false) (d7.tk (same_tk sp))
  have k8 := k7.trans (Keep.same sp)
  have hT8 := hT7.same sp
  have hw8 := hw7.tk (same_tk sp)
  refine ⟨a7, _, rfl, SqT.of ep, rfl, ?_⟩
  dsimp only [gCons, gName, gNil]
  refine ⟨_, _, rfl, _, _, rfl, rfl, ?_⟩
  -- dots
  refine ⟨_, rfl, by show 4 ≤ sizeLine; decide, fun a8 n8 => ?_⟩
  obtain ⟨H9, e9, s9, d9⟩ := tup_new n8 (.cons (.str (Str.ofString "atom")) (.cons (.str (Str.ofString "dots")) (.cons .non (.cons hw8 .nil))))
  rw [e9]
  have hdots9 : Dt H9 (.ref a8) (syD (.dots m p)) := d9
  have k9 := k8.trans (Keep.same s9)
  have hT9 := hT8.same s9
  have hw9 := hw8.tk (same_tk s9)
  have hone9 := hone8.tk (same_tk s9)
  have hoth9 := hoth8.tk (same_tk s9)
  clear d9 e9 s9
  dsimp only [gName]
  -- literals
  refine ⟨by show 2 ≤ sizeLine; decide, fun b1 m1 => ?_⟩
  obtain ⟨J1, f1, t1, c1⟩ := tup_new m1 (.cons (.str (Str.ofString "k")) (.cons (.int 5) .nil))
  rw [f1]
  refine ⟨by show 0 ≤ sizeLine; decide, fun b2 m2 => ?_⟩
  obtain ⟨J2, f2, t2, c2⟩ := tup_new m2 (ds := []) .nil
  rw [f2]
  refine ⟨by show 4 ≤ sizeLine; decide, fun b3 m3 => ?_⟩
  obtain ⟨J3, f3, t3, c3⟩ := tup_new m3 (.cons (.str (Str.ofString "id")) (.cons (.str (Str.ofString "l")) (.cons (c1.tk (same_tk t2)) (.cons c2 .nil))))
  rw [f3]
  refine ⟨by show 1 ≤ sizeLine; decide, fun b4 m4 => ?_⟩
  have t4 := same_upd (o := .tup [.ref b3]) m4
  have f4 := upd_same (H := J3) (a := b4) (o := .tup [.ref b3])
  generalize L2.upd J3 b4 (.tup [.ref b3]) = J4 at t4 f4 ⊢
  have tt := same_trans t1 (same_trans t2 (same_trans t3 t4))
  have c34 := id_dt (n := tx "l") (m := tx "k") (sc := false) (c3.tk (same_tk t4))
  have hTj := hT9.same tt
  refine ⟨_, rfl, d, 2, x, rfl, by decide, hTj, fun rl H10 rl0 rl1 k10 hT10 => ?_⟩
  have tk10 : Tk H9 H10 := fun b ys q => hTj.tk k10 _ _ (same_tk tt _ _ q)
  have c310 := c34.tk (hTj.tk k10)
  have f410 := hTj.tk k10 _ _ f4
  have kk10 := (k9.trans (Keep.same tt)).trans k10
  have hone10 := hone9.tk tk10
  have hoth10 := hoth9.tk tk10
  have hdots10 := hdots9.tk tk10
  have hw10 := hw9.tk tk10
  clear c1 c2 c3 c34 t1 t2 t3 t4 tt f1 f2 f3 f4
  obtain ⟨rn, rfl⟩ : ∃ rn : Nat, rl = (rn : Int) := ⟨rl.toNat, by omega⟩
  refine ⟨_, rfl, ?_⟩
  refine sl_to f410 fun b5 H11 s11 e11 => ?_
  dsimp only [tCons, tNil]
  refine ⟨_, rfl, by show 3 ≤ sizeLine; decide, fun b6 m6 => ?_⟩
  have hL11 : Dt H11 (.ref b5) (.tuple ((([.id (tx "l") (tx "k") 5 false] : List Sy).take rn).map syD)) := by
    rw [List.map_take]
    exact .tup e11 (DtAll.take rn (.one (c310.tk (same_tk s11))))
  obtain ⟨H12, e12, s12, d12⟩ := tup_new m6 (.cons (.str (Str.ofString "list")) (.cons hL11 (.cons (hw10.tk (same_tk s11)) .nil)))
  rw [e12]
  have hlit12 := lst_dt (m := m) (p := p) d12
  have s1012 := same_trans s11 s12
  have k12 := kk10.trans (Keep.same s1012)
  have hT12 := hT10.same s1012
  have hw12 := hw10.tk (same_tk s1012)
  have hone12 := hone10.tk (same_tk s1012)
  have hoth12 := hoth10.tk (same_tk s1012)
  have hdots12 := hdots10.tk (same_tk s1012)
  clear d12 e12 s12 s11 hL11 e11 f410 c310 s1012
  dsimp only [gName]
  -- pattern
  refine ⟨_, rfl, _, rfl, _, rfl, by show 3 ≤ sizeLine; decide, fun c1 m1 => ?_⟩
  have s13 := same_upd (o := .tup [.ref a3, .ref a8, .ref a6]) m1
  have f13 := upd_same (H := H12) (a := c1) (o := .tup [.ref a3, .ref a8, .ref a6])
  generalize L2.upd H12 c1 (.tup [.ref a3, .ref a8, .ref a6]) = H13 at s13 f13 ⊢
  have hT13 := hT12.same s13
  refine ⟨_, rfl, d, 2, x, rfl, by decide, hT13, fun rp H14 rp0 rp1 k14 hT14 => ?_⟩
  refine ⟨_, _, rfl, rfl, .inr (by constructor <;> omega), _, _, rfl, rfl, _, rfl, ?_⟩
  have tk14 : Tk H12 H14 := fun b ys q => hT13.tk k14 _ _ (same_tk s13 _ _ q)
  have f14 := hT13.tk k14 _ _ f13
  have k14' := (k12.trans (Keep.same s13)).trans k14
  have hone14 := hone12.tk tk14
  have hoth14 := hoth12.tk tk14
  have hdots14 := hdots12.tk tk14
  have hlit14 := hlit12.tk tk14
  have hw14 := hw12.tk tk14
  obtain ⟨pn, hpn⟩ : ∃ pn : Nat, (1 : Int) + 2 * rp = (pn : Int) := ⟨(1 + 2 * rp).toNat, by omega⟩
  rw [hpn]
  refine sl_to f14 fun c2 H15 s15 e15 => ?_
  dsimp only [tCons, tNil, tC]
  refine ⟨by show 2 ≤ sizeLine; decide, fun c3 m3 => ?_⟩
  obtain ⟨H16, e16, s16, d16⟩ := tup_new m3 (.cons (.str (Str.ofString "k")) (.cons (.int 7) .nil))
  rw [e16]
  refine ⟨by show 3 ≤ sizeLine; decide, fun c4 m4 => ?_⟩
  have hp15 : Dt H15 (.ref c2) (.tuple ((([.id (tx "x") (tx "n") r1 false, .dots m p, .id (tx "y") (tx "n") r2 false] : List Sy).take pn).map syD)) := by
    rw [List.map_take]
    exact .tup e15 (DtAll.take pn (.cons (hone14.tk (same_tk s15)) (.cons (hdots14.tk (same_tk s15)) (.one (hoth14.tk (same_tk s15))))))
  obtain ⟨H17, e17, s17, d17⟩ := tup_new m4 (.cons (.str (Str.ofString "list")) (.cons (hp15.tk (same_tk s16)) (.cons d16 .nil)))
  rw [e17]
  have hpat17 := lst_dt (m := tx "k") (p := 7) d17
  have s1517 := same_trans s15 (same_trans s16 s17)
  have k17 := k14'.trans (Keep.same s1517)
  have hT17 := hT14.same s1517
  have hw17 := hw14.tk (same_tk s1517)
  have hone17 := hone14.tk (same_tk s1517)
  have hoth17 := hoth14.tk (same_tk s1517)
  have hlit17 := hlit14.tk (same_tk s1517)
  clear d17 d16 hp15 e15 e16 e17 s15 s16 s17 s1517 hdots14 hone14 hoth14 hlit14 hw14 f14 f13 hone12 hoth12 hlit12 hw12 hdots12 k14'
  dsimp only [gName]
  -- kind
  refine ⟨_, rfl, d, 3, x, rfl, by decide, hT17, fun kd H18 kd0 kd1 k18 hT18 => ?_⟩
  have tk18 := hT17.tk k18
  have hw18 := hw17.tk tk18
  have hone18 := hone17.tk tk18
  have hoth18 := hoth17.tk tk18
  have hlit18 := hlit17.tk tk18
  have hpat18 := hpat17.tk tk18
  have k18' := k17.trans k18
  have okone : ∀ n, syOk n (.id (tx "x") (tx "n") r1 false) := fun n => by cases n <;> (simp only [syOk]; exact ⟨by simp [nmOk], by decide +kernel, r10, by omega⟩)
  have okoth : ∀ n, syOk n (.id (tx "y") (tx "n") r2 false) := fun n => by cases n <;> (simp only [syOk]; exact ⟨by simp [nmOk], by decide +kernel, r20, by omega⟩)
  have okpat : syOk 1 (.lst (([.id (tx "x") (tx "n") r1 false, .dots m p, .id (tx "y") (tx "n") r2 false] : List Sy).take pn) (tx "k") 7) := by
    simp only [syOk]
    refine ⟨by rw [List.length_take]; exact Nat.min_le_right _ _, syOks_of fun z hz => ?_⟩
    have := List.mem_of_mem_take hz
    simp only [List.mem_cons, List.not_mem_nil, or_false] at this
    rcases this with rfl | rfl | rfl
    · exact okone 0
    · simp only [syOk]
    · exact okoth 0
  have oklit : syOk 1 (.lst (([.id (tx "l") (tx "k") 5 false] : List Sy).take rn) m p) := by
    simp only [syOk]
    refine ⟨by rw [List.length_take]; exact Nat.le_trans (Nat.min_le_right _ _) (by decide), syOks_of fun z hz => ?_⟩
    have := List.mem_of_mem_take hz
    simp only [List.mem_cons, List.not_mem_nil, or_false] at this
    subst this
    simp only [syOk]
    exact ⟨by simp [nmOk], by decide +kernel, by decide, by decide⟩
  generalize hLP : (Sy.lst (([.id (tx "x") (tx "n") r1 false, .dots m p, .id (tx "y") (tx "n") r2 false] : List Sy).take pn) (tx "k") 7) = pat at hpat18 okpat
  generalize hLT : ([.id (tx "l") (tx "k") 5 false] : List Sy).take rn = lits at hlit18 oklit
  generalize hO1 : (Sy.id (tx "x") (tx "n") r1 false) = one at hone18 okone
  generalize hO2 : (Sy.id (tx "y") (tx "n") r2 false) = oth at hoth18 okoth
  clear hone17 hoth17 hlit17 hpat17 hw17
  dsimp only [gName]
  refine ⟨_, rfl, rfl, _, rfl, ite2 (fun c => ?_) (fun c => ?_)⟩
  · have hx0 : TapeAt H18 d x := hT18
    refine ⟨_, rfl, d, 3, x, rfl, by decide, hT18, fun mc H19 mc0 mc1 k19 hT19 => ?_⟩
    refine ⟨mc, rfl, by omega, by omega, fun D nD => ?_⟩
    have hdD := hT19.ne nD
    have k19' := k18'.trans k19
    have tk19 := hT18.tk k19
    have hw19 := hw18.tk tk19
    have hpat19 := hpat18.tk tk19
    refine lc_range (lo := 0) (n := mc.toNat) (GenI syD (fun _ => x) (fun l => ∀ s ∈ l, ∃ c, s = .lst [pat, c] m p ∧ syOk 2 c) H19 d D) (GenI.start hT19 nD (fun p hp => by cases hp)) ?_ ?_
    · rintro i H20 hi ⟨k20, ws, l, hT20, hD20, hl, da, rr⟩
      refine ⟨rfl, ?_⟩
      unfold tYes
      refine iteT ?_
      dsimp only [tCons, tTup, tC]
      refine ⟨_, rfl, _, rfl, d, x, 2, rfl, by decide, hT20, fun v cs H21 k21 hT21 dv okc => ?_⟩
      have hpat21 := (hpat19.tk (hT19.tk k20)).tk (hT20.tk k21)
      have hw21 := (hw19.tk (hT19.tk k20)).tk (hT20.tk k21)
      refine ⟨by show 2 ≤ sizeLine; decide, fun u1 v1 => ?_⟩
      obtain ⟨H22, e22, s22, d22⟩ := tup_new v1 (.cons hpat21 (.one dv))
      rw [e22]
      refine ⟨_, rfl, by show 3 ≤ sizeLine; decide, fun u2 v2 => ?_⟩
      obtain ⟨H23, e23, s23, d23⟩ := tup_new v2 (.cons (.str (Str.ofString "list")) (.cons d22 (.cons (hw21.tk (same_tk s22)) .nil)))
      rw [e23]
      have s223 := same_trans s22 s23
      exact GenI.step nD hdD k20 hT20 hD20 hl (by omega) da (k21.trans (Keep.same s223)) (hT21.same s223) (lst_dt (l := [pat, cs]) (m := m) (p := p) d23) (fun p' hp' => by
        rcases List.mem_append.mp hp' with z | z
        · exact rr p' z
        · rw [List.mem_singleton.mp z]; exact ⟨cs, rfl, okc⟩)
    · rintro H20 ⟨k20, ws, l, hT20, hD20, hl, da, rr⟩
      dsimp only [gName]
      have tk20 := hT19.tk k20
      have hw20 := hw19.tk tk20
      have hlit20 := (hlit18.tk tk19).tk tk20
      have hone20 := (hone18.tk tk19).tk tk20
      have hoth20 := (hoth18.tk tk19).tk tk20
      have hDH : ∀ b o, H b = some o → b ≠ d → H20 b = some o := k19'.trans k20
      refine ⟨_, rfl, d, x, 1, rfl, by decide, hT20, fun v0 s0 H21 k21 hT21 dv0 ok0 => ?_⟩
      have tk21 := hT20.tk k21
      have hw21 := hw20.tk tk21
      have hone21 := hone20.tk tk21
      have hoth21 := hoth20.tk tk21
      have da21 := da.tk tk21
      have hD21 := k21 _ _ hD20 hdD.symm
      have hlit21 := hlit20.tk tk21
      simp only [syD] at hlit21
      obtain ⟨_, _, hb6, el, gl⟩ := hlit21.tupE
      cases hb6
      obtain ⟨y1, ys, rfl, j1, gl⟩ := gl.consE
      obtain ⟨y2, ys, rfl, j2, gl⟩ := gl.consE
      dsimp only [tCons, tTup, tC]
      refine ⟨_, rfl, tc (ixt el (atI_nat (j := 1) rfl) ?_)⟩
      refine ⟨_, rfl, by show 3 ≤ sizeLine; decide, fun u1 v1 => ?_⟩
      obtain ⟨H22, e22, s22, d22⟩ := tup_new v1 (.cons (.str (Str.ofString "list")) (.cons j2 (.cons hw21 .nil)))
      rw [e22]
      refine ⟨by show 2 ≤ sizeLine; decide, fun u2 v2 => ?_⟩
      have s23 := same_upd (o := .tup [v0, .ref u1]) v2
      have e23 := upd_same (H := H22) (a := u2) (o := .tup [v0, .ref u1])
      generalize L2.upd H22 u2 (.tup [v0, .ref u1]) = H23 at s23 e23 ⊢
      have s223 := same_trans s22 s23
      have hdv0 := dv0.tk (same_tk s223)
      have hlit23 : Dt H23 (.ref u1) (syD (.lst lits m p)) := by
        simp only [syD]
        exact d22.tk (same_tk s23)
      have hw23 := hw21.tk (same_tk s223)
      have hone23 := hone21.tk (same_tk s223)
      have hoth23 := hoth21.tk (same_tk s223)
      have da23 := da21.tk (same_tk s223)
      have hD23 := s223 _ _ hD21
      have hT23 := hT21.same s223
      have k23 := ((k19'.trans k20).trans k21).trans (Keep.same s223)
      clear e22 hlit20 hlit21 j1 j2 gl el d22 hone21 hoth21 hw21 da21
      dsimp only [gName]
      refine ⟨_, rfl, ?_⟩
      refine ⟨_, rfl, D, rfl, ⟨_, SqL.of hD23⟩, fun D2 nD2 => ?_⟩
      have hDD2 : D ≠ D2 := ne_of_none hD23 nD2
      have hdD2 := hT23.ne nD2
      refine lc_listK (xs := ws) (fun i H' => Same H23 H' ∧ ∃ us cs, H' D2 = some (.lst us) ∧ DtAll H' us (cs.map syD) ∧ us.length = i ∧ ∀ s ∈ cs, syOk 3 s) (fun i H' h => SqL.of (h.1 _ _ hD23)) ⟨same_upd nD2, [], [], upd_same, .nil, rfl, fun s hs => by cases hs⟩ ?_ ?_
      · rintro i v H24 hv ⟨s24, us, cs, hD24, du, hul, okc⟩
        obtain ⟨z, hz, dz⟩ := da23.get_map hv
        obtain ⟨c0, rfl, okc0⟩ := rr z (List.mem_of_getElem? hz)
        have dz24 := dz.tk (same_tk s24)
        simp only [syD, syDs] at dz24
        obtain ⟨z1, zs, rfl, ez, gz⟩ := dz24.tupE
        obtain ⟨y1, ys, rfl, j1, gz⟩ := gz.consE
        obtain ⟨y2, ys, rfl, j2, gz⟩ := gz.consE
        obtain ⟨z2, zs2, rfl, ez2, gz2⟩ := j2.tupE
        obtain ⟨y3, ys3, rfl, j3, gz2⟩ := gz2.consE
        obtain ⟨y4, ys4, rfl, j4, gz2⟩ := gz2.consE
        refine ⟨rfl, ?_⟩
        unfold tYes
        refine iteT ?_
        dsimp only [tCons, tTup, tC]
        refine ⟨_, rfl, _, rfl, by show 2 ≤ sizeLine; decide, fun g1 w1 => ?_⟩
        obtain ⟨I1, b1', t1', x1⟩ := tup_new w1 (.cons (hone23.tk (same_tk s24)) (.one (hoth23.tk (same_tk s24))))
        rw [b1']
        refine ⟨_, rfl, by show 3 ≤ sizeLine; decide, fun g2 w2 => ?_⟩
        obtain ⟨I2, b2', t2', x2⟩ := tup_new w2 (.cons (.str (Str.ofString "list")) (.cons x1 (.cons ((hw23.tk (same_tk s24)).tk (same_tk t1')) .nil)))
        rw [b2']
        have t12 := same_trans t1' t2'
        refine ⟨_, rfl, tc (ixt (t12 _ _ ez) (atI_nat (j := 1) rfl) (tc (ixt (t12 _ _ ez2) (atI_nat (j := 1) rfl) ?_)))⟩
        refine ⟨by show 2 ≤ sizeLine; decide, fun g3 w3 => ?_⟩
        have x2' := lst_dt (l := [one, oth]) (m := m) (p := p) x2
        obtain ⟨I3, b3', t3', x3⟩ := tup_new w3 (.cons x2' (.one (j4.tk (same_tk t12))))
        rw [b3']
        have t13 := same_trans t12 t3'
        refine ⟨_, rfl, by show 3 ≤ sizeLine; decide, fun g4 w4 => ?_⟩
        obtain ⟨I4, b4', t4', x4⟩ := tup_new w4 (.cons (.str (Str.ofString "list")) (.cons x3 (.cons ((hw23.tk (same_tk s24)).tk (same_tk t13)) .nil)))
        rw [b4']
        have x4' := lst_dt (l := [.lst [one, oth] m p, c0]) (m := m) (p := p) x4
        have t14 := same_trans t13 t4'
        have hD2I := t14 _ _ hD24
        have kp : Keep D2 I4 (L2.upd I4 D2 (.lst (us ++ [.ref g4]))) := Keep.at
        have tkp := kp.tk hD2I
        have hwl := (List.getElem?_eq_some_iff.mp hv).1
        have hwl2 := da23.len
        rw [List.length_map] at hwl2
        refine ⟨us, hD2I, by rw [sizeLine_eq]; omega, fun b o q2 => kp _ _ (t14 _ _ (s24 _ _ q2)) (ne_of_none q2 nD2), us ++ [.ref g4], cs ++ [.lst [.lst [one, oth] m p, c0] m p], upd_same, ?_, by rw [List.length_append, hul]; rfl, fun s hs => ?_⟩
        · rw [List.map_append]
          exact ((du.tk (same_tk t14)).tk tkp).app (.one (x4'.tk tkp))
        · rcases List.mem_append.mp hs with z | z
          · exact okc s z
          · rw [List.mem_singleton.mp z]
            simp only [syOk, syOks]
            exact ⟨by simp, ⟨by simp, okone 1, okoth 1, True.intro⟩, okc0, True.intro⟩
      · rintro H24 ⟨s24, us, cs, hD24, du, hul, okc⟩
        have hcl := du.len
        rw [List.length_map] at hcl
        have hwl2 := da23.len
        rw [List.length_map] at hwl2
        refine ⟨D2, us, rfl, .inl ⟨SqL.of hD24, fun g1 w1 => ?_⟩⟩
        have s25 := same_upd (o := .tup us) w1
        have e25 := upd_same (H := H24) (a := g1) (o := .tup us)
        generalize L2.upd H24 g1 (.tup us) = H25 at s25 e25 ⊢
        have s2325 := same_trans s24 s25
        have fin : ∀ (h : Addr) (H26 : Hp), Same H23 H26 → Dt H26 (.ref h) (.tuple ((s0 :: .lst lits m p :: cs).map syD)) → ∀ p1, H26 p1 = none → ∀ p2, L2.upd H26 p1 (.tup [.str (Str.ofString "list"), .ref h, wv]) p2 = none →
            Q (.ref p2) (L2.upd (L2.upd H26 p1 (.tup [.str (Str.ofString "list"), .ref h, wv])) p2 (.tup [.str (Str.ofString "rules"), .ref p1])) := fun h H26 s26 dh p1 np1 p2 np2 => by
          obtain ⟨I1, b1', t1', x1⟩ := tup_new np1 (.cons (.str (Str.ofString "list")) (.cons dh (.cons (hw23.tk (same_tk s26)) .nil)))
          rw [b1'] at np2 ⊢
          have x1' := lst_dt (m := m) (p := p) x1
          obtain ⟨I2, b2', t2', x2⟩ := tup_new np2 (.cons (.str (Str.ofString "rules")) (.one x1'))
          rw [b2']
          have t12 := same_trans s26 (same_trans t1' t2')
          refine q _ (.rules (s0 :: .lst lits m p :: cs) m p) I2 (k23.trans (Keep.same t12)) (hT23.same t12) (by simp only [lfD]; simp only [syD] at x2; exact x2) ?_
          refine ⟨by simp, by simp only [List.length_cons]; omega, ?_⟩
          simp only [syOks]
          exact ⟨syOk_up (by decide) _ ok0, syOk_up (by decide) _ oklit, syOks_of okc⟩
        refine ⟨u2, g1, _, us, rfl, rfl, SqT.of (s2325 _ _ e23), SqT.of e25, by simp, by rw [sizeLine_eq]; simp only [List.length_cons, List.length_nil]; omega, fun hus => ?_, fun hus h nh => ?_⟩
        · dsimp only [tCons, tNil]
          refine ⟨_, rfl, by show 3 ≤ sizeLine; decide, fun p1 np1 => ?_⟩
          refine ⟨by show 2 ≤ sizeLine; decide, fun p2 np2 => ?_⟩
          refine fin u2 H25 s2325 ?_ p1 np1 p2 np2
          have : cs = [] := by
            cases cs with
            | nil => rfl
            | cons c0 cr => rw [hus] at hcl; simp at hcl
          subst this
          exact .tup (s2325 _ _ e23) (.cons (hdv0.tk (same_tk s2325)) (.one (hlit23.tk (same_tk s2325))))
        · have s26 := same_upd (o := .tup ([v0, .ref u1] ++ us)) nh
          dsimp only [tCons, tNil]
          refine ⟨_, rfl, by show 3 ≤ sizeLine; decide, fun p1 np1 => ?_⟩
          refine ⟨by show 2 ≤ sizeLine; decide, fun p2 np2 => ?_⟩
          refine fin h _ (same_trans s2325 s26) ?_ p1 np1 p2 np2
          have s2326 := same_trans s2325 s26
          exact .tup upd_same (.cons (hdv0.tk (same_tk s2326)) (.cons (hlit23.tk (same_tk s2326)) (du.tk (same_tk (same_trans s25 s26)))))
  · dsimp only [tNext]
    refine ⟨_, rfl, rfl, _, rfl, ite2 (fun c2 => ?_) (fun c2 => ?_)⟩
    · dsimp only [tCons, tTup, tC]
      refine ⟨_, rfl, _, rfl, by show 2 ≤ sizeLine; decide, fun u1 v1 => ?_⟩
      obtain ⟨I1, b1', t1', x1⟩ := tup_new v1 (.cons hlit18 (.one hpat18))
      rw [b1']
      refine ⟨_, rfl, by show 3 ≤ sizeLine; decide, fun u2 v2 => ?_⟩
      obtain ⟨I2, b2', t2', x2⟩ := tup_new v2 (.cons (.str (Str.ofString "list")) (.cons x1 (.cons (hw18.tk (same_tk t1')) .nil)))
      rw [b2']
      refine ⟨by show 2 ≤ sizeLine; decide, fun u3 v3 => ?_⟩
      have x2' := lst_dt (l := [.lst lits m p, pat]) (m := m) (p := p) x2
      obtain ⟨I3, b3', t3', x3⟩ := tup_new v3 (.cons (.str (Str.ofString "pattern")) (.one x2'))
      rw [b3']
      have t13 := same_trans t1' (same_trans t2' t3')
      refine q _ (.pat [.lst lits m p, pat] m p) I3 (k18'.trans (Keep.same t13)) (hT18.same t13) (by simp only [lfD]; simp only [syD] at x3; exact x3) ?_
      refine ⟨by simp, ?_⟩
      simp only [syOks]
      exact ⟨syOk_up (by decide) _ oklit, syOk_up (by decide) _ okpat, True.intro⟩
    · dsimp only [tNext]
      refine ⟨by show 0 ≤ sizeLine; decide, fun u1 v1 => ?_⟩
      obtain ⟨I1, b1', t1', x1⟩ := tup_new v1 (ds := []) .nil
      rw [b1']
      refine ⟨by show 4 ≤ sizeLine; decide, fun u2 v2 => ?_⟩
      obtain ⟨I2, b2', t2', x2⟩ := tup_new v2 (.cons (.str (Str.ofString "a")) (.cons x1 (.cons (.int 3) (.cons (.int 0) .nil))))
      rw [b2']
      refine ⟨by show 3 ≤ sizeLine; decide, fun u3 v3 => ?_⟩
      obtain ⟨I3, b3', t3', x3⟩ := tup_new v3 (.cons (.str (Str.ofString "m")) (.cons (.int 0) (.cons (.int 0) .nil)))
      rw [b3']
      refine ⟨by show 1 ≤ sizeLine; decide, fun u4 v4 => ?_⟩
      obtain ⟨I4, b4', t4', x4⟩ := tup_new v4 (.one x3)
      rw [b4']
      refine ⟨by show 4 ≤ sizeLine; decide, fun u5 v5 => ?_⟩
      obtain ⟨I5, b5', t5', x5⟩ := tup_new v5 (.cons (.str (Str.ofString "b")) (.cons x4 (.cons (.int 0) (.cons (.int 0) .nil))))
      rw [b5']
      refine ⟨by show 0 ≤ sizeLine; decide, fun u6 v6 => ?_⟩
      obtain ⟨I6, b6', t6', x6⟩ := tup_new v6 (ds := []) .nil
      rw [b6']
      refine ⟨by show 4 ≤ sizeLine; decide, fun u7 v7 => ?_⟩
      obtain ⟨I7, b7', t7', x7⟩ := tup_new v7 (.cons (.str (Str.ofString "b")) (.cons x6 (.cons (.int 3) (.cons (.int 0) .nil))))
      rw [b7']
      refine ⟨by show 3 ≤ sizeLine; decide, fun u8 v8 => ?_⟩
      have t8' := same_upd (o := .tup [.ref u2, .ref u5, .ref u7]) v8
      have e8 := upd_same (H := I7) (a := u8) (o := .tup [.ref u2, .ref u5, .ref u7])
      generalize L2.upd I7 u8 (.tup [.ref u2, .ref u5, .ref u7]) = I8 at t8' e8 ⊢
      have s78 := same_trans t7' t8'
      have s58 := same_trans t6' s78
      have s38 := same_trans t3' (same_trans t4' (same_trans t5' s58))
      have s18 := same_trans t1' (same_trans t2' s38)
      have dA : DtAll I8 [.ref u2, .ref u5, .ref u7] (rowAll.map rowD) := .cons (x2.tk (same_tk s38)) (.cons (x5.tk (same_tk s58)) (.one (x7.tk (same_tk t8'))))
      have hT8 := hT18.same s18
      refine ⟨_, rfl, d, 4, x, rfl, by decide, hT8, fun rk I9 rk0 rk1 k19 hT19 => ?_⟩
      obtain ⟨rkn, rfl⟩ : ∃ rkn : Nat, rk = (rkn : Int) := ⟨rk.toNat, by omega⟩
      refine ⟨_, rfl, ?_⟩
      refine sl_to (hT8.tk k19 _ _ e8) fun b5 I10 s11 e11 => ?_
      have hR : Dt I10 (.ref b5) (.tuple ((rowAll.take rkn).map rowD)) := by
        rw [List.map_take]
        exact .tup e11 (DtAll.take rkn ((dA.tk (hT8.tk k19)).tk (same_tk s11)))
      have hT20 := hT19.same s11
      dsimp only [tCons, tTup, tC]
      refine ⟨_, rfl, d, x, 3, rfl, by decide, hT20, fun v0 s0 I11 k21 hT21 dv0 ok0 => ?_⟩
      refine ⟨_, rfl, by show 3 ≤ sizeLine; decide, fun u9 v9 => ?_⟩
      obtain ⟨I12, b12', t12', x12⟩ := tup_new v9 (.cons (.str (Str.ofString "template")) (.cons dv0 (.one (hR.tk (hT20.tk k21)))))
      rw [b12']
      exact q _ (.tmpl s0 rkn) I12 ((((k18'.trans (Keep.same s18)).trans k19).trans (Keep.same s11)).trans (k21.trans (Keep.same t12'))) (hT21.same t12') x12 ⟨ok0, by omega⟩
end
end W8
set_option Elab.async false
set_option linter.all false
set_option maxRecDepth 100000
set_option maxHeartbeats 4000000
namespace W8
open PySem PySem.Spec PyProof.Rows L2 Com Kb Tx SX ND
theorem stn_1 (n : Nat) (x : Int) : stn (n + 1) x = stp (stn n x) := by rw [stn_add n 1 x]; rfl
theorem orb_1 (n : Nat) (x : Int) : orb (n + 1) x = orb n x ++ [stp (stn n x)] := by rw [orb_add n 1 x]; rfl
/-- what is drawn gives its names in this order -/
structure TmR (d : Nat) (sc : List Int) (x : Int) (t : Tm) : Prop where
  ok : tmOk d t
  ws : ws t sc
  od : od t = orb (od t).length x
structure TmsR (d : Nat) (sc : List Int) (x : Int) (l : List Tm) : Prop where
  ok : ∀ t ∈ l, tmOk d t
  ws : ∀ t ∈ l, W8.ws t sc
  od : ods l = orb (ods l).length x
theorem TmsR.nil {d : Nat} {sc : List Int} {x : Int} : TmsR d sc x [] := ⟨fun t h => absurd h List.not_mem_nil, fun t h => absurd h List.not_mem_nil, rfl⟩
theorem TmsR.snoc {d : Nat} {sc : List Int} {x : Int} {l : List Tm} {t : Tm} (h : TmsR d sc x l) (r : TmR d sc (stn (ods l).length x) t) : TmsR d sc x (l ++ [t]) := by
  refine ⟨fun t' ht => ?_, fun t' ht => ?_, ?_⟩
  · rcases List.mem_append.mp ht with z | z
    · exact h.ok t' z
    · rw [List.mem_singleton.mp z]; exact r.ok
  · rcases List.mem_append.mp ht with z | z
    · exact h.ws t' z
    · rw [List.mem_singleton.mp z]; exact r.ws
  · rw [ods_app, List.length_append, orb_add, ← h.od]
    simp only [ods, List.append_nil]
    rw [← r.od]
theorem stn_snoc {x : Int} {l : List Tm} {t : Tm} : stn (ods (l ++ [t])).length x = stn (od t).length (stn (ods l).length x) := by
  rw [ods_app, List.length_append, stn_add]
  simp only [ods, List.append_nil]
theorem catA_sc {K : PySem.W.Frag} {H : Hp} {a b : Addr} {sc ns : List Int} {Q : VK} (ha : H a = some (.tup (sc.map V.int))) (hb : H b = some (.tup (ns.map V.int))) (hl : sc.length + ns.length ≤ 1000) (q : ∀ c H', Same H H' → H' c = some (.tup ((sc ++ ns).map V.int)) → Q (.ref c) H') : rCatA K (.ref a) (.ref b) H Q := by
  refine ⟨a, b, _, _, rfl, rfl, SqT.of ha, SqT.of hb, by rw [List.length_map, List.length_map, sizeLine_eq]; omega, fun h1 => ?_, fun _ h2 => ?_, fun _ _ p np => ?_⟩
  · refine q b H (Same.refl _) ?_
    rw [List.map_append, h1]
    exact hb
  · refine q a H (Same.refl _) ?_
    rw [List.map_append, h2, List.append_nil]
    exact ha
  · refine q p _ (same_upd np) ?_
    rw [upd_same, List.map_append]
def prF (z : Int × Tm) : PyData := .tuple [.int z.1, tmD z.2]
theorem prDs_zip : ∀ l : List (Int × Tm), prDs (l.map Prod.fst) (l.map Prod.snd) = l.map prF
  | [] => by simp [prDs]
  | z :: r => by simp [prDs, prDs_zip r, prF]
def gP (x : Int) (l : List (Int × Tm)) : Int := stn (ods (l.map Prod.snd)).length x
def rP (ns : List Int) (d : Nat) (sc : List Int) (x : Int) (l : List (Int × Tm)) : Prop := l.map Prod.fst = ns.take l.length ∧ TmsR d sc x (l.map Prod.snd)
def gT (x : Int) (l : List Tm) : Int := stn (ods l).length x
theorem ints_dt {H : Hp} : ∀ l : List Int, DtAll H (l.map V.int) (l.map PyData.int)
  | [] => .nil
  | n :: r => .cons (.int n) (ints_dt r)
theorem ifS_or {A B : TT} {a b : TS} {D : Ends} {σ : L2.St} {H : Hp} {p q : Prop} [Decidable p] [Decidable q] (hA : ∀ Q : Bool → Hp → Prop, Q (decide p) H → A σ H Q) (hB : ∀ Q : Bool → Hp → Prop, Q (decide q) H → B σ H Q) (ha : p ∨ q → a D σ H) (hb : ¬ p → ¬ q → b D σ H) : tIfS (tOr A B) a b D σ H := by
  refine hA _ ?_
  by_cases hp : p
  · rw [decide_eq_true hp]
    exact iteT (iteT (ha (.inl hp)))
  · rw [decide_eq_false hp]
    refine iteF (hB _ ?_)
    by_cases hq : q
    · rw [decide_eq_true hq]
      exact iteT (ha (.inr hq))
    · rw [decide_eq_false hq]
      exact iteF (hb hp hq)
theorem ifS_and {A B : TT} {a b : TS} {D : Ends} {σ : L2.St} {H : Hp} {p q : Prop} [Decidable p] [Decidable q] (hA : ∀ Q : Bool → Hp → Prop, Q (decide p) H → A σ H Q) (hB : ∀ Q : Bool → Hp → Prop, Q (decide q) H → B σ H Q) (ha : p → q → a D σ H) (hb : b D σ H) : tIfS (tAnd A B) a b D σ H := by
  refine hA _ ?_
  by_cases hp : p
  · rw [decide_eq_true hp]
    refine iteT (hB _ ?_)
    by_cases hq : q
    · rw [decide_eq_true hq]
      exact iteT (ha hp hq)
    · rw [decide_eq_false hq]
      exact iteF hb
  · rw [decide_eq_false hp]
    exact iteF (iteF hb)
def gN (x : Int) (l : List Int) : Int := stn l.length x
def rN (x : Int) (l : List Int) : Prop := l = orb l.length x
theorem nm_step {x : Int} (g : Good x) {H4 H5 : Hp} {d D : Addr} {i : Nat} (nD : H4 D = none) (hdD : d ≠ D) (hi : i < 1000) (h : GenI PyData.int (gN x) (rN x) H4 d D i H5) : ∃ (l : List Int) (ws : List V), l.length = i ∧ H5 D = some (.lst ws) ∧ TapeAt H5 d (stn l.length x) ∧ Good (stn l.length x) ∧ ∀ H6, Keep d H5 H6 → TapeAt H6 d (stp (stn l.length x)) → ∃ acc, H6 D = some (.lst acc) ∧ acc.length < sizeLine ∧ GenI PyData.int (gN x) (rN x) H4 d D (i + 1) (L2.upd H6 D (.lst (acc ++ [.int (stp (stn l.length x))]))) := by
  obtain ⟨k5, ws, l, hT5, hD5, hl, da, rr⟩ := h
  refine ⟨l, ws, hl, hD5, hT5, g.steps _, fun H6 k6 hT6 => ?_⟩
  refine GenI.step (l := l) (z := stp (stn l.length x)) nD hdD k5 hT5 hD5 hl hi da k6 ?_ (.int _) ?_
  · unfold gN
    rw [List.length_append, List.length_singleton, stn_1]
    exact hT6
  · unfold rN at rr ⊢
    rw [List.length_append, List.length_singleton, orb_1, ← rr]
theorem lf_R {d : Nat} {sc : List Int} {x : Int} {l : Lf} (ok : lfOk l) : TmR d sc x (.lf l) := ⟨by cases d <;> simpa [tmOk] using ok, by simp [W8.ws], rfl⟩
theorem fn_R {d : Nat} {sc ns : List Int} {x : Int} {t : Tm} (h3 : ns.length ≤ 3) (hn : ns = orb ns.length x) (h : TmR d (sc ++ ns) (stn ns.length x) t) : TmR (d + 1) sc x (.fn ns t) := by
  refine ⟨by simp only [tmOk]; exact ⟨h3, h.ok⟩, by simp only [ws]; exact h.ws, ?_⟩
  simp only [od, List.length_append]
  rw [orb_add, ← hn, ← h.od]
theorem rec_R {d : Nat} {sc ns : List Int} {x : Int} {ts : List Tm} {t : Tm} (h3 : ns.length ≤ 3) (hl : ts.length = ns.length) (hn : ns = orb ns.length x) (hs : TmsR d (sc ++ ns) (stn ns.length x) ts) (h : TmR d (sc ++ ns) (stn (ods ts).length (stn ns.length x)) t) : TmR (d + 1) sc x (.lrec ns ts t) := by
  refine ⟨by simp only [tmOk]; exact ⟨h3, hl, tmOks_of hs.ok, h.ok⟩, by simp only [ws]; exact ⟨wss_of hs.ws, h.ws⟩, ?_⟩
  simp only [od, List.length_append]
  rw [orb_add, orb_add, ← hn, ← hs.od, ← h.od]
theorem sq_R {d : Nat} {sc : List Int} {x : Int} {k : Str} {l : List Tm} (hk : k = "if" ∨ k = "set") (h0 : l ≠ []) (h3 : l.length ≤ 3) (h : TmsR d sc x l) : TmR (d + 1) sc x (.sq k l) :=
  ⟨by simp only [tmOk]; exact ⟨hk, h0, h3, tmOks_of h.ok⟩, by simp only [ws]; exact wss_of h.ws, by simp only [od]; exact h.od⟩
theorem doo_R {d : Nat} {sc : List Int} {x : Int} {l : List Tm} (h0 : l ≠ []) (h3 : l.length ≤ 3) (h : TmsR d sc x l) : TmR (d + 1) sc x (.doo l) :=
  ⟨by simp only [tmOk]; exact ⟨h0, h3, tmOks_of h.ok⟩, by simp only [ws]; exact wss_of h.ws, by simp only [od]; exact h.od⟩
theorem call_R {d : Nat} {sc : List Int} {x : Int} {f : Tm} {l : List Tm} {m : Tx.T} {p : Int} (h3 : l.length ≤ 3) (hf : TmR d sc x f) (h : TmsR d sc (stn (W8.od f).length x) l) : TmR (d + 1) sc x (.call f l m p) := by
  refine ⟨by simp only [tmOk]; exact ⟨h3, hf.ok, tmOks_of h.ok⟩, by simp only [ws]; exact ⟨hf.ws, wss_of h.ws⟩, ?_⟩
  simp only [od, List.length_append]
  rw [orb_add, ← hf.od, ← h.od]
section
variable {P : Program} {w : World} {K : PySem.W.Frag} {mg : Str → Option Value} {base : Heap}
/-! _law_term -/
def spTmG (n : Nat) : Sp := fun vs H Q _ => ∃ (d a : Addr) (x : Int) (sc : List Int) (dp : Nat), vs = [.ref d, .ref a, .int (dp : Nat)] ∧ dp < n ∧ Good x ∧ TapeAt H d x ∧ H a = some (.tup (sc.map V.int)) ∧ sc.length + 3 * dp ≤ 100 ∧ ∀ v t H', Keep d H H' → TapeAt H' d (stn (od t).length x) → Dt H' v (tmD t) → TmR dp sc x t → Q v H'
theorem term0 {f : Addr} {fd : FuncData} {k : Nat} (F : Dfn K mg "_law_term" st__law_term f fd ["draws", "scope", "depth"]) : Cal P w K mg base k "_law_term" (spTmG 0) := by
  have no : ∀ vs H Q E, ¬ spTmG 0 vs H Q E := fun vs H Q E h => by
    obtain ⟨_, _, _, _, _, _, h, _⟩ := h
    exact Nat.not_lt_zero _ h
  exact ⟨f, fd, _, ⟨fun vs H Q E h => absurd h (no vs H Q E), fun A outer s H args us vs Q E _ _ _ _ h => absurd h (no vs H Q E)⟩, F.mgf, F.fn.kp, F.b⟩
theorem ok_term {f : Addr} {fd : FuncData} {n k : Nat} (F : Dfn K mg "_law_term" st__law_term f fd ["draws", "scope", "depth"]) (M : Mg mg) (G_law_next : Cal P w K mg base k "_law_next" spNext) (G_law_new : Cal P w K mg base k "_law_new" spNew) (G_law_plain : Cal P w K mg base k "_law_plain" (spPlain 3)) (G_law_syntax : Cal P w K mg base k "_law_syntax" (spSyG 3)) (G_law_formed : Cal P w K mg base k "_law_formed" spFormed) (G_law_term : Cal P w K mg base k "_law_term" (spTmG n)) : Cal P w K mg base (k + 1) "_law_term" (spTmG (n + 1)) := by
  refine cal_mk F sc_law_term (fun vs H Q E h => ?_) (fun cdv A outer s H vs Q E hr h => ?_)
  · obtain ⟨d, a, x, sc, dp, rfl, _⟩ := h
    rfl
  obtain ⟨d, a, x, sc, dp, rfl, hdp, g, hT, ha, hsc, q⟩ := h
  refine ⟨_, (pss_cons (ps_set (i := 3) sc_law_term.nd rfl (.inl rfl) (pe_c G_law_next hr (by omega) (by rfl) (pa_cons (pv 0) (pa_cons pe_int pa_nil))))
      (pss_cons (ps_set (i := 4) sc_law_term.nd rfl (.inl rfl) (pe_tup (pa_cons pe_str (pa_cons (pe_c G_law_next hr (by omega) (by rfl) (pa_cons (pv 0) (pa_cons pe_int pa_nil))) pa_nil))))
      (pss_cons (ps_if (PW.pt (pw_or (pt_cmpR op_eq (pv 2) pe_int (nomark _)) (pw_or1 (pt_cmpR op_lt (pv 3) pe_int (nomark _))))) (pss_cons (ps_if (PW.pt (pw_and (pt_cmpR op_gt (pe_callB (cLen K rfl) (by rfl) M.len b_len (pa_cons (pv 1) pa_nil)) pe_int (nomark _)) (pw_and1 (pt_cmpR op_ne (pv 3) pe_int (nomark _))))) (pss_one (ps_ret (pe_tup (pa_cons pe_str (pa_cons (pe_ix (ixT K rfl) (pv 1) (pe_c G_law_next hr (by omega) (by rfl) (pa_cons (pv 0) (pa_cons (pe_callB (cLen K rfl) (by rfl) M.len b_len (pa_cons (pv 1) pa_nil)) pa_nil))) (fun _ _ => rfl)) (pa_cons (pv 4) pa_nil)))))) pss_nil)
      (pss_cons (ps_set (i := 5) sc_law_term.nd rfl (.inl rfl) (pe_tup (pa_cons (pe_tup (pa_cons pe_str (pa_cons (pe_c G_law_plain hr (by omega) (by rfl) (pa_cons (pv 0) (pa_cons pe_int pa_nil))) pa_nil))) (pa_cons (pe_tup (pa_cons pe_str (pa_cons (pe_c G_law_syntax hr (by omega) (by rfl) (pa_cons (pv 0) (pa_cons pe_int pa_nil))) pa_nil))) (pa_cons (pe_tup (pa_cons pe_str (pa_cons pe_str (pa_cons (pe_c G_law_next hr (by omega) (by rfl) (pa_cons (pv 0) (pa_cons pe_int pa_nil))) (pa_cons (pe_c G_law_next hr (by omega) (by rfl) (pa_cons (pv 0) (pa_cons pe_int pa_nil))) (pa_cons (pv 4) pa_nil)))))) (pa_cons (pe_tup (pa_cons pe_str (pa_cons pe_str pa_nil))) pa_nil))))))
      (pss_one (ps_ret (pe_ix (ixT K rfl) (pv 5) (pe_c G_law_next hr (by omega) (by rfl) (pa_cons (pv 0) (pa_cons pe_int pa_nil))) (fun _ _ => rfl)))))) pss_nil)
      (pss_cons (ps_if (pt_cmpR op_eq (pv 3) pe_int (nomark _)) (pss_one (ps_ret (pe_c G_law_formed hr (by omega) (by rfl) (pa_cons (pv 0) (pa_cons (pv 4) pa_nil))))) pss_nil)
      (pss_cons (ps_if (pt_cmpR op_lt (pv 3) pe_int (nomark _)) (pss_cons (ps_set (i := 6) sc_law_term.nd rfl (.inr rfl) (pe_callTy (cTup K rfl) (by rfl) M.tuple b_tuple (pa_cons (pe_lc (own := [("k", 9)]) (g := gName 9) (by rfl) sc_law_term.nd (pi_range1 (by rfl) M.range (pa_cons (pe_c G_law_next hr (by omega) (by rfl) (pa_cons (pv 0) (pa_cons pe_int pa_nil))) pa_nil)) (blkOk_by (own := [("k", 9)]) (N := ["draws", "scope", "depth", "kind", "where", "leaves", "names", "pairs", "place", "k", "n"]) (sc := defScope st__law_term) (by decide +kernel)) (fun _ _ _ _ _ => (pg_name (i := 9) sc_law_term.nd rfl (.inl rfl))) (fun _ _ _ _ _ => pts_nil) (fun _ _ _ _ _ => (pe_c G_law_new hr (by omega) (by rfl) (pa_cons (pv 0) pa_nil)))) pa_nil)))
      (pss_one (ps_ret (pe_tup (pa_cons pe_str (pa_cons (pv 6) (pa_cons (pe_c G_law_term hr (by omega) (by rfl) (pa_cons (pv 0) (pa_cons (pe_op (opCatA K rfl) (pv 1) (pv 6)) (pa_cons (pe_op op_sub (pv 2) pe_int) pa_nil)))) pa_nil))))))) pss_nil)
      (pss_cons (ps_if (pt_cmpR op_lt (pv 3) pe_int (nomark _)) (pss_cons (ps_set (i := 6) sc_law_term.nd rfl (.inr rfl) (pe_callTy (cTup K rfl) (by rfl) M.tuple b_tuple (pa_cons (pe_lc (own := [("k", 9)]) (g := gName 9) (by rfl) sc_law_term.nd (pi_range1 (by rfl) M.range (pa_cons (pe_c G_law_next hr (by omega) (by rfl) (pa_cons (pv 0) (pa_cons pe_int pa_nil))) pa_nil)) (blkOk_by (own := [("k", 9)]) (N := ["draws", "scope", "depth", "kind", "where", "leaves", "names", "pairs", "place", "k", "n"]) (sc := defScope st__law_term) (by decide +kernel)) (fun _ _ _ _ _ => (pg_name (i := 9) sc_law_term.nd rfl (.inl rfl))) (fun _ _ _ _ _ => pts_nil) (fun _ _ _ _ _ => (pe_c G_law_new hr (by omega) (by rfl) (pa_cons (pv 0) pa_nil)))) pa_nil)))
      (pss_cons (ps_set (i := 7) sc_law_term.nd rfl (.inl rfl) (pe_callTy (cTup K rfl) (by rfl) M.tuple b_tuple (pa_cons (pe_lc (own := [("n", 10)]) (g := gName 10) (by rfl) sc_law_term.nd (pi_tup (pv 6)) (blkOk_by (own := [("n", 10)]) (N := ["draws", "scope", "depth", "kind", "where", "leaves", "names", "pairs", "place", "k", "n"]) (sc := defScope st__law_term) (by decide +kernel)) (fun _ _ _ _ _ => (pg_name (i := 10) sc_law_term.nd rfl (.inl rfl))) (fun _ _ _ _ _ => pts_nil) (fun _ _ _ _ _ => (pe_tup (pa_cons (pv 10) (pa_cons (pe_c G_law_term hr (by omega) (by rfl) (pa_cons (pv 0) (pa_cons (pe_op (opCatA K rfl) (pv 1) (pv 6)) (pa_cons (pe_op op_sub (pv 2) pe_int) pa_nil)))) pa_nil))))) pa_nil)))
      (pss_one (ps_ret (pe_tup (pa_cons pe_str (pa_cons (pv 7) (pa_cons (pe_c G_law_term hr (by omega) (by rfl) (pa_cons (pv 0) (pa_cons (pe_op (opCatA K rfl) (pv 1) (pv 6)) (pa_cons (pe_op op_sub (pv 2) pe_int) pa_nil)))) pa_nil)))))))) pss_nil)
      (pss_cons (ps_if (pt_cmpR op_eq (pv 3) pe_int (nomark _)) (pss_one (ps_ret (pe_tup (pa_cons pe_str (pa_cons (pe_c G_law_term hr (by omega) (by rfl) (pa_cons (pv 0) (pa_cons (pv 1) (pa_cons (pe_op op_sub (pv 2) pe_int) pa_nil)))) (pa_cons (pe_c G_law_term hr (by omega) (by rfl) (pa_cons (pv 0) (pa_cons (pv 1) (pa_cons (pe_op op_sub (pv 2) pe_int) pa_nil)))) (pa_cons (pe_c G_law_term hr (by omega) (by rfl) (pa_cons (pv 0) (pa_cons (pv 1) (pa_cons (pe_op op_sub (pv 2) pe_int) pa_nil)))) pa_nil))))))) pss_nil)
      (pss_cons (ps_if (pt_cmpR op_eq (pv 3) pe_int (nomark _)) (pss_one (ps_ret (pe_tup (pa_cons pe_str (pa_cons (pe_callTy (cTup K rfl) (by rfl) M.tuple b_tuple (pa_cons (pe_lc (own := [("k", 9)]) (g := gName 9) (by rfl) sc_law_term.nd (pi_range1 (by rfl) M.range (pa_cons (pe_op op_add pe_int (pe_c G_law_next hr (by omega) (by rfl) (pa_cons (pv 0) (pa_cons pe_int pa_nil)))) pa_nil)) (blkOk_by (own := [("k", 9)]) (N := ["draws", "scope", "depth", "kind", "where", "leaves", "names", "pairs", "place", "k", "n"]) (sc := defScope st__law_term) (by decide +kernel)) (fun _ _ _ _ _ => (pg_name (i := 9) sc_law_term.nd rfl (.inl rfl))) (fun _ _ _ _ _ => pts_nil) (fun _ _ _ _ _ => (pe_c G_law_term hr (by omega) (by rfl) (pa_cons (pv 0) (pa_cons (pv 1) (pa_cons (pe_op op_sub (pv 2) pe_int) pa_nil)))))) pa_nil)) pa_nil))))) pss_nil)
      (pss_cons (ps_if (pt_cmpR op_eq (pv 3) pe_int (nomark _)) (pss_cons (ps_set (i := 8) sc_law_term.nd rfl (.inl rfl) (pe_ifExp (PW.pt (pw_and (pt_cmpR op_gt (pe_callB (cLen K rfl) (by rfl) M.len b_len (pa_cons (pv 1) pa_nil)) pe_int (nomark _)) (pw_and1 (pt_cmpR op_eq (pe_c G_law_next hr (by omega) (by rfl) (pa_cons (pv 0) (pa_cons pe_int pa_nil))) pe_int (nomark _))))) (pe_tup (pa_cons pe_str (pa_cons (pe_ix (ixT K rfl) (pv 1) (pe_c G_law_next hr (by omega) (by rfl) (pa_cons (pv 0) (pa_cons (pe_callB (cLen K rfl) (by rfl) M.len b_len (pa_cons (pv 1) pa_nil)) pa_nil))) (fun _ _ => rfl)) (pa_cons (pv 4) pa_nil)))) (pe_tup (pa_cons pe_str (pa_cons pe_str (pa_cons pe_int (pa_cons (pe_c G_law_next hr (by omega) (by rfl) (pa_cons (pv 0) (pa_cons pe_int pa_nil))) (pa_cons (pv 4) pa_nil))))))))
      (pss_one (ps_ret (pe_tup (pa_cons pe_str (pa_cons (pv 8) (pa_cons (pe_c G_law_term hr (by omega) (by rfl) (pa_cons (pv 0) (pa_cons (pv 1) (pa_cons (pe_op op_sub (pv 2) pe_int) pa_nil)))) pa_nil))))))) pss_nil)
      (pss_one (ps_ret (pe_tup (pa_cons pe_str (pa_cons (pe_c G_law_term hr (by omega) (by rfl) (pa_cons (pv 0) (pa_cons (pv 1) (pa_cons (pe_op op_sub (pv 2) pe_int) pa_nil)))) (pa_cons (pe_callTy (cTup K rfl) (by rfl) M.tuple b_tuple (pa_cons (pe_lc (own := [("k", 9)]) (g := gName 9) (by rfl) sc_law_term.nd (pi_range1 (by rfl) M.range (pa_cons (pe_c G_law_next hr (by omega) (by rfl) (pa_cons (pv 0) (pa_cons pe_int pa_nil))) pa_nil)) (blkOk_by (own := [("k", 9)]) (N := ["draws", "scope", "depth", "kind", "where", "leaves", "names", "pairs", "place", "k", "n"]) (sc := defScope st__law_term) (by decide +kernel)) (fun _ _ _ _ _ => (pg_name (i := 9) sc_law_term.nd rfl (.inl rfl))) (fun _ _ _ _ _ => pts_nil) (fun _ _ _ _ _ => (pe_c G_law_term hr (by omega) (by rfl) (pa_cons (pv 0) (pa_cons (pv 1) (pa_cons (pe_op op_sub (pv 2) pe_int) pa_nil)))))) pa_nil)) (pa_cons (pv 4) pa_nil)))))))))))))))), ?_⟩
  refine ⟨_, rfl, d, 13, x, rfl, by decide, hT, fun kd H1 kd0 kd1 k1 hT1 => ?_⟩
  have ha1 := hT.tk k1 _ _ ha
  dsimp only [gName]
  refine ⟨_, rfl, d, 99, x, rfl, by decide, hT1, fun p H2 p0 p1 k2 hT2 => ?_⟩
  have ha2 := hT1.tk k2 _ _ ha1
  dsimp only [tCons, tNil]
  refine ⟨by show 2 ≤ sizeLine; decide, fun wa nw => ?_⟩
  obtain ⟨H3, e3, s3, dw⟩ := tup_new nw (.cons (.str (Str.ofString "m")) (.cons (.int p) .nil))
  rw [e3]
  have k3 := (k1.trans k2).trans (Keep.same s3)
  have hT3 := hT2.same s3
  have ha3 := s3 _ _ ha2
  clear e3 s3 ha2 ha1 k1 k2
  have hw3 : Dt H3 (.ref wa) (whD (tx "m") p) := dw
  dsimp only [gName]
  refine seq_split (t1 := tIfS _ _ _) (fun σ' H' => σ' = [some (.ref d), some (.ref a), some (.int (dp : Nat)), some (.int kd), some (.ref wa), none, none, none, none, none, none] ∧ H' = H3 ∧ dp ≠ 0 ∧ 3 ≤ kd) ?_ (fun J => ?_)
  · rintro σ' H' ⟨rfl, rfl, hd0, hkd⟩
    obtain ⟨dq, rfl⟩ : ∃ dq, dp = dq + 1 := ⟨dp - 1, by omega⟩
    have ed : ((dq + 1 : Nat) : Int) - 1 = (dq : Nat) := by omega
    refine ⟨_, rfl, rfl, _, rfl, ite2 (fun c => ?_) (fun c => ?_)⟩
    · refine ⟨_, rfl, _, rfl, d, x, .ref wa, tx "m", p, rfl, hT3, hw3, fun v l H4 k4 hT4 dv ok => ?_⟩
      exact q v (.lf l) H4 (k3.trans k4) hT4 (by simp only [tmD]; exact dv) ⟨by simpa [tmOk] using ok, by simp [ws], rfl⟩
    dsimp only [tNext]
    refine ⟨_, rfl, _, _, rfl, rfl, _, rfl, ?_⟩
    by_cases h6 : kd < 6
    · refine dT h6 ?_
      refine ⟨_, rfl, d, 4, x, rfl, by decide, hT3, fun m H4 m0 m1 k4 hT4 => ?_⟩
      refine ⟨m, rfl, by omega, by omega, fun D nD => ?_⟩
      have hdD := hT4.ne nD
      refine lc_range (lo := 0) (n := m.toNat) (GenI PyData.int (gN x) (rN x) H4 d D) (GenI.start hT4 nD rfl) ?_ ?_
      · intro i H5 hi hG
        obtain ⟨l, ws, _, _, hT5, g5, st⟩ := nm_step g nD hdD (by omega) hG
        refine ⟨rfl, ?_⟩
        unfold tYes
        exact iteT ⟨_, rfl, d, _, rfl, g5, hT5, st⟩
      · rintro H5 ⟨k5, ws, ns, hT5, hD5, hl, da, hn⟩
        have hws := dt_ints da
        subst hws
        refine ⟨D, _, rfl, .inl ⟨SqL.of hD5, fun b nb => ?_⟩⟩
        have s6 := same_upd (o := .tup (ns.map V.int)) nb
        have e6 := upd_same (H := H5) (a := b) (o := .tup (ns.map V.int))
        generalize L2.upd H5 b (.tup (ns.map V.int)) = H6 at s6 e6 ⊢
        have ha6 := s6 _ _ (hT4.tk k5 _ _ (hT3.tk k4 _ _ ha3))
        have hT6 := hT5.same s6
        have k36 := ((k3.trans k4).trans k5).trans (Keep.same s6)
        have hn3 : ns.length ≤ 3 := by omega
        dsimp only [gName]
        refine ⟨_, rfl, _, rfl, _, rfl, _, rfl, ?_⟩
        refine catA_sc ha6 e6 (by omega) fun c H7 s7 e7 => ?_
        refine ⟨_, rfl, _, _, rfl, rfl, d, c, stn ns.length x, sc ++ ns, dq, congrArg (fun z => [V.ref d, V.ref c, V.int z]) ed, by omega, g.steps _, hT6.same s7, e7, by rw [List.length_append]; omega, fun v t H8 k8 hT8 dv hR => ?_⟩
        refine ⟨by show 3 ≤ sizeLine; decide, fun r nr => ?_⟩
        have e8 := (hT6.same s7).tk k8 _ _ (s7 _ _ e6)
        have db : Dt H8 (.ref b) (.tuple (ns.map PyData.int)) := by
          refine .tup e8 ?_
          have key : ∀ l : List Int, DtAll H8 (l.map V.int) (l.map PyData.int) := fun l => by
            induction l with
            | nil => exact .nil
            | cons n r ih => exact .cons (.int n) ih
          exact key ns
        obtain ⟨H9, e9, s9, d9⟩ := tup_new nr (.cons (.str (Str.ofString "fn")) (.cons db (.one dv)))
        rw [e9]
        refine q _ (.fn ns t) H9 (((k36.trans (Keep.same s7)).trans k8).trans (Keep.same s9)) ?_ (by simp only [tmD]; exact d9) (fn_R hn3 hn hR)
        simp only [W8.od, List.length_append]
        rw [stn_add]
        exact hT8.same s9
    refine dF h6 ?_
    dsimp only [tNext]
    refine ⟨_, rfl, _, _, rfl, rfl, _, rfl, ?_⟩
    by_cases h8 : kd < 8
    · refine dT h8 ?_
      refine ⟨_, rfl, d, 4, x, rfl, by decide, hT3, fun m H4 m0 m1 k4 hT4 => ?_⟩
      refine ⟨m, rfl, by omega, by omega, fun D nD => ?_⟩
      have hdD := hT4.ne nD
      refine lc_range (lo := 0) (n := m.toNat) (GenI PyData.int (gN x) (rN x) H4 d D) (GenI.start hT4 nD rfl) ?_ ?_
      · intro i H5 hi hG
        obtain ⟨l, ws, _, _, hT5, g5, st⟩ := nm_step g nD hdD (by omega) hG
        refine ⟨rfl, ?_⟩
        unfold tYes
        exact iteT ⟨_, rfl, d, _, rfl, g5, hT5, st⟩
      · rintro H5 ⟨k5, ws, ns, hT5, hD5, hl, da, hn⟩
        have hws := dt_ints da
        subst hws
        refine ⟨D, _, rfl, .inl ⟨SqL.of hD5, fun b nb => ?_⟩⟩
        have s6 := same_upd (o := .tup (ns.map V.int)) nb
        have e6 := upd_same (H := H5) (a := b) (o := .tup (ns.map V.int))
        generalize L2.upd H5 b (.tup (ns.map V.int)) = H6 at s6 e6 ⊢
        have ha6 := s6 _ _ (hT4.tk k5 _ _ (hT3.tk k4 _ _ ha3))
        have hT6 : TapeAt H6 d (stn ns.length x) := hT5.same s6
        have k36 := ((k3.trans k4).trans k5).trans (Keep.same s6)
        have hn3 : ns.length ≤ 3 := by omega
        have g6 := g.steps ns.length
        generalize hx1 : stn ns.length x = x1 at hT6 g6
        dsimp only [gName]
        -- the pairs
        refine ⟨_, rfl, b, rfl, ⟨_, SqT.of e6⟩, fun D2 nD2 => ?_⟩
        have hdD2 := hT6.ne nD2
        have hbD2 : b ≠ D2 := ne_of_none e6 nD2
        refine lc_tupK (xs := ns.map V.int) (GenI prF (gP x1) (rP ns dq (sc ++ ns) x1) H6 d D2) (fun i H' h => SqT.of (hT6.tk h.1 _ _ e6)) (GenI.start hT6 nD2 ⟨rfl, TmsR.nil⟩) ?_ ?_
        · rintro i y H7 hy ⟨k7, ws, l, hT7, hD7, hl7, da7, hf7, hr7⟩
          rw [List.getElem?_map] at hy
          obtain ⟨n0, hn0, rfl⟩ := Option.map_eq_some_iff.mp hy
          have hi := (List.getElem?_eq_some_iff.mp hn0).1
          refine ⟨rfl, ?_⟩
          unfold tYes
          refine iteT ?_
          refine ⟨_, rfl, _, rfl, _, rfl, _, rfl, ?_⟩
          refine catA_sc (hT6.tk k7 _ _ ha6) (hT6.tk k7 _ _ e6) (by omega) fun c H8 s8 e8 => ?_
          refine ⟨_, rfl, _, _, rfl, rfl, d, c, _, sc ++ ns, dq, congrArg (fun z => [V.ref d, V.ref c, V.int z]) ed, by omega, g6.steps _, hT7.same s8, e8, by rw [List.length_append]; omega, fun v t H9 k9 hT9 dv hR => ?_⟩
          refine ⟨by show 2 ≤ sizeLine; decide, fun r nr => ?_⟩
          obtain ⟨G1, f1, t1, c1⟩ := tup_new nr (.cons (.int n0) (.one dv))
          rw [f1]
          refine GenI.step (l := l) (z := (n0, t)) nD2 hdD2 k7 hT7 hD7 hl7 (by omega) da7 ((Keep.same s8).trans (k9.trans (Keep.same t1))) ?_ c1 ⟨?_, ?_⟩
          · unfold gP
            rw [List.map_append]
            show TapeAt G1 d (stn (ods (l.map Prod.snd ++ [t])).length x1)
            rw [stn_snoc]
            exact hT9.same t1
          · rw [List.map_append, List.length_append, hf7, hl7]
            show _ = ns.take (i + 1)
            rw [List.take_add_one, hn0]
            rfl
          · rw [List.map_append]
            exact hr7.snoc hR
        · rintro H7 ⟨k7, ws, l, hT7, hD7, hl7, da7, hf7, hr7⟩
          rw [List.length_map] at hl7
          rw [hl7, List.take_length] at hf7
          refine ⟨D2, _, rfl, .inl ⟨SqL.of hD7, fun b2 nb2 => ?_⟩⟩
          obtain ⟨H8, f8, s8, d8⟩ := tup_new nb2 da7
          rw [f8]
          dsimp only [gName]
          refine ⟨_, rfl, _, rfl, _, rfl, _, rfl, ?_⟩
          refine catA_sc (s8 _ _ (hT6.tk k7 _ _ ha6)) (s8 _ _ (hT6.tk k7 _ _ e6)) (by omega) fun c H9 s9 e9 => ?_
          refine ⟨_, rfl, _, _, rfl, rfl, d, c, _, sc ++ ns, dq, congrArg (fun z => [V.ref d, V.ref c, V.int z]) ed, by omega, g6.steps _, (hT7.same s8).same s9, e9, by rw [List.length_append]; omega, fun v t H10 k10 hT10 dv hR => ?_⟩
          refine ⟨by show 3 ≤ sizeLine; decide, fun r nr => ?_⟩
          have d10 := (d8.tk (same_tk s9)).tk (((hT7.same s8).same s9).tk k10)
          obtain ⟨H11, e11, s11, d11⟩ := tup_new nr (.cons (.str (Str.ofString "rec")) (.cons d10 (.one dv)))
          rw [e11]
          have hkk := ((((k36.trans k7).trans (Keep.same s8)).trans (Keep.same s9)).trans k10).trans (Keep.same s11)
          refine q _ (.lrec ns (l.map Prod.snd) t) H11 hkk ?_ ?_ (rec_R hn3 (by rw [List.length_map, hl7]) hn (by rw [hx1]; exact hr7) (by rw [hx1]; exact hR))
          · simp only [W8.od, List.length_append]
            rw [stn_add, stn_add, hx1]
            exact hT10.same s11
          · simp only [tmD]
            have hz := prDs_zip l
            rw [hf7] at hz
            rw [hz]
            exact d11
    refine dF h8 ?_
    dsimp only [tNext]
    refine ⟨_, rfl, rfl, _, rfl, ite2 (fun c => ?_) (fun c => ?_)⟩
    · dsimp only [tCons, tTup, tC]
      refine ⟨_, rfl, _, rfl, _, rfl, _, _, rfl, rfl, d, a, x, sc, dq, congrArg (fun z => [V.ref d, V.ref a, V.int z]) ed, by omega, g, hT3, ha3, by omega, fun v1 t1 H4 k4 hT4 dv1 hR1 => ?_⟩
      have ha4 := hT3.tk k4 _ _ ha3
      have g4 := g.steps (od t1).length
      refine ⟨_, rfl, _, rfl, _, rfl, _, _, rfl, rfl, d, a, _, sc, dq, congrArg (fun z => [V.ref d, V.ref a, V.int z]) ed, by omega, g4, hT4, ha4, by omega, fun v2 t2 H5 k5 hT5 dv2 hR2 => ?_⟩
      have ha5 := hT4.tk k5 _ _ ha4
      have g5 := g4.steps (od t2).length
      have dv15 := dv1.tk (hT4.tk k5)
      refine ⟨_, rfl, _, rfl, _, rfl, _, _, rfl, rfl, d, a, _, sc, dq, congrArg (fun z => [V.ref d, V.ref a, V.int z]) ed, by omega, g5, hT5, ha5, by omega, fun v3 t3 H6 k6 hT6 dv3 hR3 => ?_⟩
      refine ⟨by show 4 ≤ sizeLine; decide, fun r nr => ?_⟩
      obtain ⟨H7, e7, s7, d7⟩ := tup_new nr (.cons (.str (Str.ofString "if")) (.cons (dv15.tk (hT5.tk k6)) (.cons (dv2.tk (hT5.tk k6)) (.one dv3))))
      rw [e7]
      have r1 : TmsR dq sc x ([] ++ [t1]) := TmsR.nil.snoc hR1
      have e1 : ods ([] ++ [t1]) = od t1 := by simp [ods]
      have r2 : TmsR dq sc x (([] ++ [t1]) ++ [t2]) := r1.snoc (by rw [e1]; exact hR2)
      have e2 : stn (ods (([] ++ [t1]) ++ [t2])).length x = stn (od t2).length (stn (od t1).length x) := by rw [stn_snoc, e1]
      have r3 : TmsR dq sc x ((([] ++ [t1]) ++ [t2]) ++ [t3]) := r2.snoc (by rw [e2]; exact hR3)
      refine q _ (.sq "if" [t1, t2, t3]) H7 ((((k3.trans k4).trans k5).trans k6).trans (Keep.same s7)) ?_ (by simp only [tmD, tmDs]; exact d7) (sq_R (.inl rfl) (by simp) (by simp) r3)
      simp only [W8.od]
      have e3 : stn (ods ((([] ++ [t1]) ++ [t2]) ++ [t3])).length x = _ := stn_snoc
      rw [e2] at e3
      show TapeAt H7 d (stn (ods ((([] ++ [t1]) ++ [t2]) ++ [t3])).length x)
      rw [e3]
      exact hT6.same s7
    dsimp only [tNext]
    -- lists of terms
    have hstep : ∀ {H4 H5 H6 : Hp} {D : Addr} {i : Nat} {x1 : Int} {l : List Tm} {ws : List V} {v : V} {t : Tm}, H4 D = none → d ≠ D → i < 1000 → Keep d H4 H5 → TapeAt H5 d (gT x1 l) → H5 D = some (.lst ws) → l.length = i → DtAll H5 ws (l.map tmD) → TmsR dq sc x1 l → Keep d H5 H6 → TapeAt H6 d (stn (od t).length (gT x1 l)) → Dt H6 v (tmD t) → TmR dq sc (gT x1 l) t →
        ∃ acc, H6 D = some (.lst acc) ∧ acc.length < sizeLine ∧ GenI tmD (gT x1) (TmsR dq sc x1) H4 d D (i + 1) (L2.upd H6 D (.lst (acc ++ [v]))) := fun nD hdD hi k5 hT5 hD5 hl da hr k6 hT6 dv hR =>
      GenI.step nD hdD k5 hT5 hD5 hl hi da k6 (by unfold gT; rw [stn_snoc]; exact hT6) dv (hr.snoc hR)
    refine ⟨_, rfl, rfl, _, rfl, ite2 (fun c => ?_) (fun c => ?_)⟩
    · refine ⟨_, rfl, d, 3, x, rfl, by decide, hT3, fun m H4 m0 m1 k4 hT4 => ?_⟩
      refine ⟨_, _, rfl, rfl, ?_⟩
      refine ⟨1 + m, rfl, by omega, by omega, fun D nD => ?_⟩
      have hdD := hT4.ne nD
      have ha4 := hT3.tk k4 _ _ ha3
      refine lc_range (lo := 0) (n := (1 + m).toNat) (GenI tmD (gT x) (TmsR dq sc x) H4 d D) (GenI.start hT4 nD TmsR.nil) ?_ ?_
      · rintro i H5 hi ⟨k5, ws, l, hT5, hD5, hl, da, hr⟩
        refine ⟨rfl, ?_⟩
        unfold tYes
        refine iteT ⟨_, rfl, _, rfl, _, rfl, _, _, rfl, rfl, d, a, _, sc, dq, congrArg (fun z => [V.ref d, V.ref a, V.int z]) ed, by omega, g.steps _, hT5, hT4.tk k5 _ _ ha4, by omega, fun v t H6 k6 hT6 dv hR => ?_⟩
        exact hstep nD hdD (by omega) k5 hT5 hD5 hl da hr k6 hT6 dv hR
      · rintro H5 ⟨k5, ws, l, hT5, hD5, hl, da, hr⟩
        refine ⟨D, _, rfl, .inl ⟨SqL.of hD5, fun b nb => ?_⟩⟩
        obtain ⟨H6, e6, s6, d6⟩ := tup_new nb da
        rw [e6]
        refine ⟨by show 2 ≤ sizeLine; decide, fun r nr => ?_⟩
        obtain ⟨H7, e7, s7, d7⟩ := tup_new nr (.cons (.str (Str.ofString "do")) (.one d6))
        rw [e7]
        have hln : l ≠ [] := fun z => by
          rw [z, List.length_nil] at hl
          omega
        refine q _ (.doo l) H7 (((k3.trans k4).trans k5).trans (Keep.same (same_trans s6 s7))) ?_ (by simp only [tmD, tmDs_map]; exact d7) (doo_R hln (by omega) hr)
        simp only [W8.od]
        exact hT5.same (same_trans s6 s7)
    dsimp only [tNext]
    refine ⟨_, rfl, rfl, _, rfl, ite2 (fun c => ?_) (fun c => ?_)⟩
    · refine seq_split (t1 := tAsg _ _) (fun σ' H' => ∃ (pv : V) (pt : Tm), σ' = [some (.ref d), some (.ref a), some (.int ((dq + 1 : Nat) : Int)), some (.int kd), some (.ref wa), none, none, none, some pv, none, none] ∧ Keep d H H' ∧ TapeAt H' d x ∧ H' a = some (.tup (sc.map V.int)) ∧ Dt H' pv (tmD pt) ∧ TmR dq sc x pt ∧ od pt = []) ?_ (fun J => ?_)
      · rintro σ' H4 ⟨pv, pt, rfl, k4, hT4, ha4, dp4, hR4, ho4⟩
        dsimp only [tCons, tTup, tC]
        refine ⟨_, rfl, _, rfl, _, rfl, _, rfl, _, _, rfl, rfl, d, a, x, sc, dq, congrArg (fun z => [V.ref d, V.ref a, V.int z]) ed, by omega, g, hT4, ha4, by omega, fun v t H5 k5 hT5 dv hR => ?_⟩
        refine ⟨by show 3 ≤ sizeLine; decide, fun r nr => ?_⟩
        obtain ⟨H6, e6, s6, d6⟩ := tup_new nr (.cons (.str (Str.ofString "set")) (.cons (dp4.tk (hT4.tk k5)) (.one dv)))
        rw [e6]
        have r1 : TmsR dq sc x ([] ++ [pt]) := TmsR.nil.snoc hR4
        have e1 : ods ([] ++ [pt]) = [] := by simp [ods, ho4]
        have r2 : TmsR dq sc x (([] ++ [pt]) ++ [t]) := r1.snoc (by rw [e1]; exact hR)
        refine q _ (.sq "set" [pt, t]) H6 ((k4.trans k5).trans (Keep.same s6)) ?_ (by simp only [tmD, tmDs]; exact d6) (sq_R (.inr rfl) (by simp) (by simp) r2)
        simp only [W8.od, ods, ho4, List.append_nil, List.nil_append]
        exact hT5.same s6
      · have top : ∀ (H4 : Hp) (r : Int), Keep d H H4 → TapeAt H4 d x → H4 a = some (.tup (sc.map V.int)) → 0 ≤ r → r < 9 → Dt H4 (.ref wa) (whD (tx "m") p) → ∀ c, H4 c = none → ∃ (pv : V) (pt : Tm), [some (V.ref d), some (V.ref a), some (V.int ((dq + 1 : Nat) : Int)), some (V.int kd), some (V.ref wa), none, none, none, some (V.ref c), none, none] = [some (.ref d), some (.ref a), some (.int ((dq + 1 : Nat) : Int)), some (.int kd), some (.ref wa), none, none, none, some pv, none, none] ∧ Keep d H (L2.upd H4 c (.tup [.str (Str.ofString "top"), .str (Str.ofString "m"), .int 0, .int r, .ref wa])) ∧ TapeAt (L2.upd H4 c (.tup [.str (Str.ofString "top"), .str (Str.ofString "m"), .int 0, .int r, .ref wa])) d x ∧ (L2.upd H4 c (.tup [.str (Str.ofString "top"), .str (Str.ofString "m"), .int 0, .int r, .ref wa])) a = some (.tup (sc.map V.int)) ∧ Dt (L2.upd H4 c (.tup [.str (Str.ofString "top"), .str (Str.ofString "m"), .int 0, .int r, .ref wa])) pv (tmD pt) ∧ TmR dq sc x pt ∧ od pt = [] := fun H4 r k4 hT4 ha4 r0 r1 hw4 c nc => by
          obtain ⟨H5, e5, s5, d5⟩ := tup_new nc (.cons (.str (Str.ofString "top")) (.cons (.str (Str.ofString "m")) (.cons (.int 0) (.cons (.int r) (.one hw4)))))
          rw [e5]
          exact ⟨_, .lf (.top (tx "m") 0 r (tx "m") p), rfl, k4.trans (Keep.same s5), hT4.same s5, s5 _ _ ha4, d5, lf_R (l := .top (tx "m") 0 r (tx "m") p) ⟨by decide +kernel, by decide, by omega⟩, rfl⟩
        refine ⟨_, rfl, a, _, rfl, .inr (SqT.of ha3), _, _, rfl, rfl, _, rfl, ?_⟩
        by_cases hsc0 : (((sc.map V.int).length : Nat) : Int) > 0
        · refine dT hsc0 ?_
          refine ⟨_, rfl, d, 2, x, rfl, by decide, hT3, fun r H4 r0 r1 k4 hT4 => ?_⟩
          have ha4 := hT3.tk k4 _ _ ha3
          have hw4 := hw3.tk (hT3.tk k4)
          refine ⟨rfl, _, rfl, ite2 (fun c => ?_) (fun c => ?_)⟩
          · dsimp only [tCons, tTup, tC]
            rw [List.length_map] at hsc0
            refine ⟨_, rfl, _, rfl, _, rfl, a, _, rfl, .inr (SqT.of ha4), d, (((sc.map V.int).length : Nat) : Int), x, rfl, by rw [List.length_map]; exact hsc0, hT4, fun r2 H5 r20 r21 k5 hT5 => ?_⟩
            have ha5 := hT4.tk k5 _ _ ha4
            rw [List.length_map] at r21
            obtain ⟨j, rfl⟩ : ∃ j : Nat, r2 = (j : Int) := ⟨r2.toNat, by omega⟩
            have hj : j < sc.length := by omega
            refine ixt ha5 (atI_nat (iV_get hj)) ?_
            refine ⟨_, rfl, by show 3 ≤ sizeLine; decide, fun c nc => ?_⟩
            obtain ⟨H6, e6, s6, d6⟩ := tup_new nc (.cons (.str (Str.ofString "local")) (.cons (.int sc[j]) (.one (hw4.tk (hT4.tk k5)))))
            rw [e6]
            exact J _ _ ⟨_, .loc sc[j] (tx "m") p, rfl, ((k3.trans k4).trans k5).trans (Keep.same s6), hT5.same s6, s6 _ _ ha5, by simp only [tmD]; exact d6, ⟨by simp [tmOk], by simp only [ws]; exact List.getElem_mem hj, rfl⟩, rfl⟩
          · dsimp only [tCons, tTup, tC]
            refine ⟨_, rfl, d, 9, x, rfl, by decide, hT4, fun r2 H5 r20 r21 k5 hT5 => ?_⟩
            refine ⟨_, rfl, by show 5 ≤ sizeLine; decide, fun c nc => ?_⟩
            exact J _ _ (top H5 r2 ((k3.trans k4).trans k5) hT5 (hT4.tk k5 _ _ ha4) r20 r21 (hw4.tk (hT4.tk k5)) c nc)
        · refine dF hsc0 ?_
          refine iteF ?_
          dsimp only [tCons, tTup, tC]
          refine ⟨_, rfl, d, 9, x, rfl, by decide, hT3, fun r2 H5 r20 r21 k5 hT5 => ?_⟩
          refine ⟨_, rfl, by show 5 ≤ sizeLine; decide, fun c nc => ?_⟩
          exact J _ _ (top H5 r2 (k3.trans k5) hT5 (hT3.tk k5 _ _ ha3) r20 r21 (hw3.tk (hT3.tk k5)) c nc)
    dsimp only [tNext]
    refine ⟨_, rfl, _, rfl, _, rfl, _, _, rfl, rfl, d, a, x, sc, dq, congrArg (fun z => [V.ref d, V.ref a, V.int z]) ed, by omega, g, hT3, ha3, by omega, fun v1 t1 H4 k4 hT4 dv1 hR1 => ?_⟩
    have ha4 := hT3.tk k4 _ _ ha3
    have g4 := g.steps (od t1).length
    refine ⟨_, rfl, d, 4, _, rfl, by decide, hT4, fun m H5 m0 m1 k5 hT5 => ?_⟩
    refine ⟨m, rfl, by omega, by omega, fun D nD => ?_⟩
    have hdD := hT5.ne nD
    have ha5 := hT4.tk k5 _ _ ha4
    refine lc_range (lo := 0) (n := m.toNat) (GenI tmD (gT (stn (od t1).length x)) (TmsR dq sc (stn (od t1).length x)) H5 d D) (GenI.start hT5 nD TmsR.nil) ?_ ?_
    · rintro i H6 hi ⟨k6, ws, l, hT6, hD6, hl, da, hr⟩
      refine ⟨rfl, ?_⟩
      unfold tYes
      refine iteT ⟨_, rfl, _, rfl, _, rfl, _, _, rfl, rfl, d, a, _, sc, dq, congrArg (fun z => [V.ref d, V.ref a, V.int z]) ed, by omega, g4.steps _, hT6, hT5.tk k6 _ _ ha5, by omega, fun v t H7 k7 hT7 dv hR => ?_⟩
      exact hstep nD hdD (by omega) k6 hT6 hD6 hl da hr k7 hT7 dv hR
    · rintro H6 ⟨k6, ws, l, hT6, hD6, hl, da, hr⟩
      refine ⟨D, _, rfl, .inl ⟨SqL.of hD6, fun b nb => ?_⟩⟩
      obtain ⟨H7, e7, s7, d7⟩ := tup_new nb da
      rw [e7]
      have kk : Keep d H4 H7 := (k5.trans k6).trans (Keep.same s7)
      refine ⟨_, rfl, by show 4 ≤ sizeLine; decide, fun r nr => ?_⟩
      obtain ⟨H8, e8, s8, d8⟩ := tup_new nr (.cons (.str (Str.ofString "call")) (.cons (dv1.tk (hT4.tk kk)) (.cons d7 (.one ((hw3.tk (hT3.tk k4)).tk (hT4.tk kk))))))
      rw [e8]
      refine q _ (.call t1 l (tx "m") p) H8 (((k3.trans k4).trans kk).trans (Keep.same s8)) ?_ (by simp only [tmD, tmDs_map]; exact d8) (call_R (by omega) hR1 hr)
      simp only [W8.od, List.length_append]
      rw [stn_add]
      exact hT6.same (same_trans s7 s8)
  · refine ifS_or (p := V.int (dp : Nat) = V.int 0) (q := kd < 3) (fun Q' h => ⟨_, rfl, rfl, _, rfl, h⟩) (fun Q' h => ⟨_, rfl, _, _, rfl, rfl, _, rfl, h⟩) (fun _ => ?_) (fun h1 h2 => J _ _ ⟨rfl, rfl, fun z => h1 (by rw [z]; rfl), by omega⟩)
    refine seq_split (t1 := tIfS _ _ _) (fun σ' H' => σ' = [some (.ref d), some (.ref a), some (.int (dp : Nat)), some (.int kd), some (.ref wa), none, none, none, none, none, none] ∧ H' = H3) ?_ (fun J2 => ?_)
    · rintro σ' H' ⟨rfl, rfl⟩
      dsimp only [tCons, tTup, tC]
      refine ⟨_, rfl, d, x, 2, rfl, by decide, hT3, fun v1 pl H4 k4 hT4 dv1 g1 g2 g3 => ?_⟩
      have hw4 := hw3.tk (hT3.tk k4)
      refine ⟨by show 2 ≤ sizeLine; decide, fun a1 n1 => ?_⟩
      obtain ⟨H5, e5, s5, d5⟩ := tup_new n1 (.cons (.str (Str.ofString "const")) (.one dv1))
      rw [e5]
      refine ⟨_, rfl, d, x, 2, rfl, by decide, hT4.same s5, fun v2 sy H6 k6 hT6 dv2 g4 => ?_⟩
      have d56 := d5.tk ((hT4.same s5).tk k6)
      have hw6 := (hw4.tk (same_tk s5)).tk ((hT4.same s5).tk k6)
      refine ⟨by show 2 ≤ sizeLine; decide, fun a2 n2 => ?_⟩
      obtain ⟨H7, e7, s7, d7⟩ := tup_new n2 (.cons (.str (Str.ofString "syntax")) (.one dv2))
      rw [e7]
      refine ⟨_, rfl, d, 4, x, rfl, by decide, hT6.same s7, fun r1 H8 r10 r11 k8 hT8 => ?_⟩
      refine ⟨_, rfl, d, 30, x, rfl, by decide, hT8, fun r2 H9 r20 r21 k9 hT9 => ?_⟩
      have tk79 : Tk H7 H9 := fun b ys q => hT8.tk k9 _ _ ((hT6.same s7).tk k8 _ _ q)
      have d59 := (d56.tk (same_tk s7)).tk tk79
      have d79 := d7.tk tk79
      have hw9 := (hw6.tk (same_tk s7)).tk tk79
      have k39 := (((((k3.trans k4).trans (Keep.same s5)).trans k6).trans (Keep.same s7)).trans k8).trans k9
      refine ⟨_, rfl, by show 5 ≤ sizeLine; decide, fun a3 n3 => ?_⟩
      obtain ⟨H10, e10, s10, d10⟩ := tup_new n3 (.cons (.str (Str.ofString "top")) (.cons (.str (Str.ofString "mod")) (.cons (.int r1) (.cons (.int r2) (.one hw9)))))
      rw [e10]
      refine ⟨by show 2 ≤ sizeLine; decide, fun a4 n4 => ?_⟩
      obtain ⟨H11, e11, s11, d11⟩ := tup_new n4 (.cons (.str (Str.ofString "prim")) (.one (.str (Str.ofString "free=?"))))
      rw [e11]
      refine ⟨by show 4 ≤ sizeLine; decide, fun a5 n5 => ?_⟩
      have s12 := same_upd (o := .tup [.ref a1, .ref a2, .ref a3, .ref a4]) n5
      have e12 := upd_same (H := H11) (a := a5) (o := .tup [.ref a1, .ref a2, .ref a3, .ref a4])
      generalize L2.upd H11 a5 (.tup [.ref a1, .ref a2, .ref a3, .ref a4]) = H12 at s12 e12 ⊢
      have s1112 := same_trans s11 s12
      have s1012 := same_trans s10 s1112
      have hT12 := hT9.same s1012
      dsimp only [gName]
      refine ⟨_, rfl, _, rfl, d, 4, x, rfl, by decide, hT12, fun r3 H13 r30 r31 k13 hT13 => ?_⟩
      have e13 := hT12.tk k13 _ _ e12
      have tz := hT12.tk k13
      have kz := (k39.trans (Keep.same s1012)).trans k13
      have leaf : ∀ (c : Addr) (l : Lf), Dt H13 (.ref c) (lfD l) → lfOk l → Q (.ref c) H13 := fun c l dl ok => q _ (.lf l) H13 kz hT13 (by simp only [tmD]; exact dl) ⟨by simpa [tmOk] using ok, by simp [ws], rfl⟩
      have hcase : r3 = 0 ∨ r3 = 1 ∨ r3 = 2 ∨ r3 = 3 := by omega
      rcases hcase with rfl | rfl | rfl | rfl
      · exact ixt e13 (atI_nat (j := 0) rfl) (leaf a1 (.const pl) ((d59.tk (same_tk s1012)).tk tz) ⟨g1, g2, g3⟩)
      · exact ixt e13 (atI_nat (j := 1) rfl) (leaf a2 (.syn sy) ((d79.tk (same_tk s1012)).tk tz) (syOk_up (by decide) _ g4))
      · exact ixt e13 (atI_nat (j := 2) rfl) (leaf a3 (.top (tx "mod") r1 r2 (tx "m") p) ((d10.tk (same_tk s1112)).tk tz) ⟨by decide +kernel, by omega, by omega⟩)
      · exact ixt e13 (atI_nat (j := 3) rfl) (leaf a4 (.prim (tx "free=?")) ((d11.tk (same_tk s12)).tk tz) (show (tx "free=?").length ≤ 10 by decide +kernel))
    · refine ifS_and (p := (((sc.map V.int).length : Nat) : Int) > 0) (q := ¬ V.int kd = V.int 1) (fun Q' h => ⟨_, rfl, a, _, rfl, .inr (SqT.of ha3), _, _, rfl, rfl, _, rfl, h⟩) (fun Q' h => ⟨_, rfl, rfl, _, rfl, by rw [decide_not] at h; exact h⟩) (fun h1 h2 => ?_) (J2 _ _ ⟨rfl, rfl⟩)
      rw [List.length_map] at h1
      dsimp only [tCons, tTup, tC]
      refine ⟨_, rfl, _, rfl, _, rfl, a, _, rfl, .inr (SqT.of ha3), d, (((sc.map V.int).length : Nat) : Int), x, rfl, by rw [List.length_map]; exact h1, hT3, fun r2 H5 r20 r21 k5 hT5 => ?_⟩
      have ha5 := hT3.tk k5 _ _ ha3
      rw [List.length_map] at r21
      obtain ⟨j, rfl⟩ : ∃ j : Nat, r2 = (j : Int) := ⟨r2.toNat, by omega⟩
      have hj : j < sc.length := by omega
      refine ixt ha5 (atI_nat (iV_get hj)) ?_
      refine ⟨_, rfl, by show 3 ≤ sizeLine; decide, fun c nc => ?_⟩
      obtain ⟨H6, e6, s6, d6⟩ := tup_new nc (.cons (.str (Str.ofString "local")) (.cons (.int sc[j]) (.one (hw3.tk (hT3.tk k5)))))
      rw [e6]
      exact q _ (.loc sc[j] (tx "m") p) H6 ((k3.trans k5).trans (Keep.same s6)) (hT5.same s6) (by simp only [tmD]; exact d6) ⟨by simp [tmOk], by simp only [ws]; exact List.getElem_mem hj, rfl⟩
theorem term_all {f : Addr} {fd : FuncData} {k0 : Nat} (F : Dfn K mg "_law_term" st__law_term f fd ["draws", "scope", "depth"]) (M : Mg mg) (G_law_next : Cal P w K mg base k0 "_law_next" spNext) (G_law_new : Cal P w K mg base k0 "_law_new" spNew) (G_law_plain : Cal P w K mg base k0 "_law_plain" (spPlain 3)) (G_law_syntax : Cal P w K mg base k0 "_law_syntax" (spSyG 3)) (G_law_formed : Cal P w K mg base k0 "_law_formed" spFormed) : ∀ n : Nat, Cal P w K mg base (k0 + n) "_law_term" (spTmG n)
  | 0 => term0 F
  | n + 1 => ok_term (k := k0 + n) F M (G_law_next.mono (by omega)) (G_law_new.mono (by omega)) (G_law_plain.mono (by omega)) (G_law_syntax.mono (by omega)) (G_law_formed.mono (by omega)) (term_all F M G_law_next G_law_new G_law_plain G_law_syntax G_law_formed n)
end
end W8
set_option Elab.async false
set_option linter.all false
set_option maxRecDepth 100000
set_option maxHeartbeats 4000000
namespace W8
open PySem PySem.Spec PyProof.Rows L2 Com Kb Tx SX ND
section
variable {P : Program} {w : World} {K : PySem.W.Frag} {mg : Str → Option Value} {base : Heap}
/-! _law_plain_text -/
def spPT (n : Nat) : Sp := fun vs H Q _ => ∃ (v : V) (p : Pl), vs = [v] ∧ Dt H v (plD p) ∧ plG p ∧ dpP p < n ∧ szP p ≤ 1000 ∧ ∀ H', Same H H' → Q (.str (S (plT p))) H'
theorem pt0 {f : Addr} {fd : FuncData} {k : Nat} (F : Dfn K mg "_law_plain_text" st__law_plain_text f fd ["value"]) : Cal P w K mg base k "_law_plain_text" (spPT 0) := by
  have no : ∀ vs H Q E, ¬ spPT 0 vs H Q E := fun vs H Q E h => by
    obtain ⟨_, _, _, _, _, h, _⟩ := h
    exact Nat.not_lt_zero _ h
  exact ⟨f, fd, _, ⟨fun vs H Q E h => absurd h (no vs H Q E), fun A outer s H args us vs Q E _ _ _ _ h => absurd h (no vs H Q E)⟩, F.mgf, F.fn.kp, F.b⟩
theorem ok_pt {f : Addr} {fd : FuncData} {n k : Nat} (F : Dfn K mg "_law_plain_text" st__law_plain_text f fd ["value"]) (M : Mg mg) (G_law_plain_text : Cal P w K mg base k "_law_plain_text" (spPT n)) : Cal P w K mg base (k + 1) "_law_plain_text" (spPT (n + 1)) := by
  refine cal_mk F sc_law_plain_text (fun vs H Q E h => ?_) (fun cdv A outer s H vs Q E hr h => ?_)
  · obtain ⟨v, p, rfl, _⟩ := h
    rfl
  obtain ⟨v, p, rfl, hv, hg, hd, hz, q⟩ := h
  have hsl : sizeLine = 16777216 := sizeLine_eq
  refine ⟨_, (pss_cons (ps_if (pt_cmpR op_eq (pe_ix (ixT K rfl) (pv 0) pe_int (fun _ _ => rfl)) pe_str (nomark _)) (pss_one (ps_ret (pe_op op_add_str (pe_op op_add_str pe_str (pe_bm PySem.F.plainAttrs_str PySem.F.slot_str_join PySem.F.type_str_join mt_join pe_str (pa_cons (pe_lc (own := [("part", 1)]) (g := gName 1) (by rfl) sc_law_plain_text.nd (pi_tup (pe_ix (ixT K rfl) (pv 0) pe_int (fun _ _ => rfl))) (blkOk_by (own := [("part", 1)]) (N := ["value", "part"]) (sc := defScope st__law_plain_text) (by decide +kernel)) (fun _ _ _ _ _ => (pg_name (i := 1) sc_law_plain_text.nd rfl (.inl rfl))) (fun _ _ _ _ _ => pts_nil) (fun _ _ _ _ _ => (pe_c G_law_plain_text hr (by omega) (by rfl) (pa_cons (pv 1) pa_nil)))) pa_nil))) pe_str))) pss_nil)
      (pss_cons (ps_if (pt_cmpR op_eq (pe_ix (ixT K rfl) (pv 0) pe_int (fun _ _ => rfl)) pe_str (nomark _)) (pss_one (ps_ret (pe_ifExp (pt_truth (pe_ix (ixT K rfl) (pv 0) pe_int (fun _ _ => rfl)) (by intro _; rfl)) pe_str pe_str))) pss_nil)
      (pss_one (ps_ret (pe_ifExp (pt_cmpR op_eq (pe_ix (ixT K rfl) (pv 0) pe_int (fun _ _ => rfl)) pe_str (nomark _)) (pe_callTy call_str_int (by rfl) M.str b_str (pa_cons (pe_ix (ixT K rfl) (pv 0) pe_int (fun _ _ => rfl)) pa_nil)) (pe_op op_add_str (pe_op op_add_str pe_str (pe_ix (ixT K rfl) (pv 0) pe_int (fun _ _ => rfl))) pe_str)))))), ?_⟩
  cases p with
  | lst l =>
    simp only [plD, plDs_map] at hv
    obtain ⟨c, xs, rfl, e, g⟩ := tm_at hv
    obtain ⟨x1, xs, rfl, g1, g⟩ := g.consE
    cases g
    obtain ⟨b, ys, rfl, eb, gb⟩ := g1.tupE
    have hyl := gb.len
    rw [List.length_map] at hyl
    simp only [plG] at hg
    simp only [dpP] at hd
    simp only [szP] at hz
    have hsl2 := szPs_len l
    have hT := plTs_len l hg
    have hj := jn_len (tx " ") (plTs l)
    have hpl : (plTs l).length = l.length := by rw [plTs_map, List.length_map]
    obtain ⟨t4, t5, t6, _⟩ := t1
    rw [t4, hpl] at hj
    have l1 : ("(" : Str).length = 1 := by decide +kernel
    have l2 : (")" : Str).length = 1 := by decide +kernel
    have hle : (S (jn (tx " ") (plTs l))).length = (jn (tx " ") (plTs l)).length := len_S _
    refine ⟨_, rfl, tc (ixt e (atI_nat (j := 0) rfl) (tc ⟨rfl, _, rfl, sEq rfl ?_⟩))⟩
    refine ⟨rfl, _, rfl, tc (ixt e (atI_nat (j := 1) rfl) ⟨b, rfl, ⟨_, SqT.of eb⟩, fun D nD => ?_⟩)⟩
    refine lc_tupK (xs := ys) (fun i H' => Same H H' ∧ H' D = some (.lst ((((plTs l).take i).map S).map V.str))) (fun i H' h => SqT.of (h.1 _ _ eb)) ⟨same_upd nD, upd_same⟩ ?_ ?_
    · rintro i y H' hy ⟨sm, hD⟩
      obtain ⟨z, hzz, dz⟩ := gb.get_map hy
      have hm := List.mem_of_getElem? hzz
      have hi := (List.getElem?_eq_some_iff.mp hzz).1
      refine ⟨rfl, ?_⟩
      unfold tYes
      have := dpPs_mem hm
      have := szPs_mem hm
      refine iteT ⟨_, rfl, y, z, rfl, dz.tk (same_tk sm), plGs_mem hg hm, by omega, by omega, fun H3 s3 => ?_⟩
      refine ⟨_, s3 _ _ hD, by rw [List.length_map, List.length_map, List.length_take]; omega, fun b2 o2 q2 => ?_, ?_⟩
      · rw [upd_ne (ne_of_none q2 nD)]
        exact s3 _ _ (sm _ _ q2)
      · rw [upd_same, List.take_add_one, plTs_map, List.getElem?_map, hzz, List.map_append, List.map_append]
        rfl
    · rintro H' ⟨sm, hD⟩
      rw [hyl, ← hpl, List.take_length] at hD
      refine ⟨_, D, (plTs l).map S, rfl, rfl, .inl (SqL.of hD), ?_, ?_⟩
      · rw [sum_S, show ((" " : Str)).length = 1 from by decide +kernel, List.length_map]
        omega
      · rw [join_jn]
        refine ⟨_, _, rfl, rfl, by rw [l1, hle]; omega, _, _, rfl, rfl, by rw [Str.length_append, l1, l2, hle]; omega, ?_⟩
        rw [wrap "(" ")" (jn (tx " ") (plTs l))]
        have := q H' sm
        simp only [plT] at this
        exact this
  | num i =>
    simp only [plD] at hv
    obtain ⟨c, xs, rfl, e, g⟩ := tm_at hv
    obtain ⟨x1, xs, rfl, g1, g⟩ := g.consE
    cases g
    rw [g1.intE] at e
    refine ⟨_, rfl, tc (ixt e (atI_nat (j := 0) rfl) (tc ⟨rfl, _, rfl, sNe (show ¬ (("number" : Str) = "list") by decide +kernel) ?_⟩))⟩
    dsimp only [tNext]
    refine ⟨_, rfl, tc (ixt e (atI_nat (j := 0) rfl) (tc ⟨rfl, _, rfl, sNe (show ¬ (("number" : Str) = "flag") by decide +kernel) ?_⟩))⟩
    dsimp only [tNext]
    refine ⟨_, rfl, tc (ixt e (atI_nat (j := 0) rfl) (tc ⟨rfl, _, rfl, sEq rfl ?_⟩))⟩
    have hi : i.natAbs.log2 < 1920 := by
      simp only [plG] at hg
      by_cases z : i.natAbs = 0
      · rw [z]; decide
      · exact Nat.lt_trans ((Nat.log2_lt z).mpr (show i.natAbs < 2 ^ 100 from Nat.lt_trans hg (by decide))) (by decide)
    refine ⟨_, rfl, tc (ixt e (atI_nat (j := 1) rfl) ?_)⟩
    refine ⟨_, rfl, hi, ?_⟩
    have := q H (Same.refl H)
    simp only [plT] at this
    exact this
  | flg b =>
    simp only [plD] at hv
    obtain ⟨c, xs, rfl, e, g⟩ := tm_at hv
    obtain ⟨x1, xs, rfl, g1, g⟩ := g.consE
    cases g
    rw [g1.blE] at e
    refine ⟨_, rfl, tc (ixt e (atI_nat (j := 0) rfl) (tc ⟨rfl, _, rfl, sNe (show ¬ (("flag" : Str) = "list") by decide +kernel) ?_⟩))⟩
    dsimp only [tNext]
    refine ⟨_, rfl, tc (ixt e (atI_nat (j := 0) rfl) (tc ⟨rfl, _, rfl, sEq rfl ?_⟩))⟩
    refine ⟨_, rfl, tc (ixt e (atI_nat (j := 1) rfl) ⟨b, rfl, ?_⟩)⟩
    have := q H (Same.refl H)
    simp only [plT] at this
    cases b with
    | true => exact iteT this
    | false => exact iteF this
  | txt x =>
    simp only [plD] at hv
    obtain ⟨c, xs, rfl, e, g⟩ := tm_at hv
    obtain ⟨x1, xs, rfl, g1, g⟩ := g.consE
    cases g
    rw [g1.strE] at e
    refine ⟨_, rfl, tc (ixt e (atI_nat (j := 0) rfl) (tc ⟨rfl, _, rfl, sNe (show ¬ (("text" : Str) = "list") by decide +kernel) ?_⟩))⟩
    dsimp only [tNext]
    refine ⟨_, rfl, tc (ixt e (atI_nat (j := 0) rfl) (tc ⟨rfl, _, rfl, sNe (show ¬ (("text" : Str) = "flag") by decide +kernel) ?_⟩))⟩
    dsimp only [tNext]
    refine ⟨_, rfl, tc (ixt e (atI_nat (j := 0) rfl) (tc ⟨rfl, _, rfl, sNe (show ¬ (("text" : Str) = "number") by decide +kernel) ?_⟩))⟩
    simp only [plG] at hg
    have l1 : ("\"" : Str).length = 1 := by decide +kernel
    have l2 : (S x).length ≤ 10 := by rw [len_S]; exact hg
    refine ⟨_, rfl, tc (ixt e (atI_nat (j := 1) rfl) ⟨_, _, rfl, rfl, by rw [l1]; omega, _, _, rfl, rfl, by rw [Str.length_append, l1]; omega, ?_⟩)⟩
    rw [wrap "\"" "\"" x]
    have := q H (Same.refl H)
    simp only [plT] at this
    exact this
theorem pt_all {f : Addr} {fd : FuncData} {k0 : Nat} (F : Dfn K mg "_law_plain_text" st__law_plain_text f fd ["value"]) (M : Mg mg) : ∀ n : Nat, Cal P w K mg base (k0 + n) "_law_plain_text" (spPT n)
  | 0 => pt0 F
  | n + 1 => ok_pt (k := k0 + n) F M (pt_all F M n)
end
end W8
set_option Elab.async false
set_option linter.all false
set_option maxRecDepth 100000
set_option maxHeartbeats 4000000
namespace W8
open PySem PySem.Spec PyProof.Rows L2 Com Kb Tx SX ND
/-- what is not a list nor an identifier -/
theorem sy_at2 {H : Hp} {v : V} {s : Sy} {n : Nat} (f : Tx.T → Bool → Option Int) (ha : isAt s = true) (ok : syOk n s) (h : Dt H v (syD s)) : ∃ a k u w, v = .ref a ∧ H a = some (.tup [.str "atom", .str k, u, w]) ∧
    ((k = "dots" ∧ syT f s = tx "...") ∨ (k = "wild" ∧ syT f s = tx "_") ∨ (¬ k = "dots" ∧ ¬ k = "wild" ∧ ∃ p : Pl, p.kd = k ∧ Dt H u p.vl ∧ plG p ∧ dpP p = 0 ∧ szP p = 1 ∧ syT f s = plT p)) := by
  have key : ∀ (k : Str) (d : PyData) (m : Tx.T) (p : Int), Dt H v (.tuple [.str "atom", .str k, d, whD m p]) → ∃ a u w, v = .ref a ∧ H a = some (.tup [.str "atom", .str k, u, w]) ∧ Dt H u d := by
    intro k d m p h
    obtain ⟨a, xs, rfl, e, g⟩ := h.tupE
    obtain ⟨x1, r1, rfl, h1, g⟩ := g.consE
    obtain ⟨x2, r2, rfl, h2, g⟩ := g.consE
    obtain ⟨x3, r3, rfl, h3, g⟩ := g.consE
    obtain ⟨x4, r4, rfl, h4, g⟩ := g.consE
    cases g
    rw [h1.strE, h2.strE] at e
    exact ⟨a, x3, x4, rfl, e, h3⟩
  cases s with
  | id n m p sc => cases ha
  | lst l m p => cases ha
  | num i m p =>
    simp only [syD] at h
    obtain ⟨a, u, w, rfl, e, hu⟩ := key _ _ _ _ h
    have ok' : i.natAbs < 10 := by cases n <;> simpa [syOk] using ok
    refine ⟨a, _, u, w, rfl, e, .inr (.inr ⟨by decide +kernel, by decide +kernel, .num i, rfl, hu, ?_, by simp [dpP], by simp [szP], by simp [syT, plT]⟩)⟩
    simp only [plG]
    exact Nat.lt_trans ok' (by decide)
  | txt x m p =>
    simp only [syD] at h
    obtain ⟨a, u, w, rfl, e, hu⟩ := key _ _ _ _ h
    have ok' : x.length ≤ 10 := by cases n <;> simpa [syOk] using ok
    exact ⟨a, _, u, w, rfl, e, .inr (.inr ⟨by decide +kernel, by decide +kernel, .txt x, rfl, hu, by simpa [plG] using ok', by simp [dpP], by simp [szP], by simp [syT, plT]⟩)⟩
  | flg b m p =>
    simp only [syD] at h
    obtain ⟨a, u, w, rfl, e, hu⟩ := key _ _ _ _ h
    exact ⟨a, _, u, w, rfl, e, .inr (.inr ⟨by decide +kernel, by decide +kernel, .flg b, rfl, hu, by simp [plG], by simp [dpP], by simp [szP], by simp [syT, plT]⟩)⟩
  | dots m p =>
    simp only [syD] at h
    obtain ⟨a, u, w, rfl, e, hu⟩ := key _ _ _ _ h
    exact ⟨a, _, u, w, rfl, e, .inl ⟨rfl, by simp [syT]⟩⟩
  | wild m p =>
    simp only [syD] at h
    obtain ⟨a, u, w, rfl, e, hu⟩ := key _ _ _ _ h
    exact ⟨a, _, u, w, rfl, e, .inr (.inl ⟨rfl, by simp [syT]⟩)⟩
section
variable {P : Program} {w : World} {K : PySem.W.Frag} {mg : Str → Option Value} {base : Heap}
/-! _law_syntax_text -/
def spST (n : Nat) : Sp := fun vs H Q _ => ∃ (v : V) (s : Sy) (m : Nat), vs = [v] ∧ Dt H v (syD s) ∧ syOk m s ∧ m < n ∧ m ≤ 4 ∧ ∀ H', Same H H' → Q (.str (S (syT f0 s))) H'
theorem st0 {f : Addr} {fd : FuncData} {k : Nat} (F : Dfn K mg "_law_syntax_text" st__law_syntax_text f fd ["syntax"]) : Cal P w K mg base k "_law_syntax_text" (spST 0) := by
  have no : ∀ vs H Q E, ¬ spST 0 vs H Q E := fun vs H Q E h => by
    obtain ⟨_, _, _, _, _, _, h, _⟩ := h
    exact Nat.not_lt_zero _ h
  exact ⟨f, fd, _, ⟨fun vs H Q E h => absurd h (no vs H Q E), fun A outer s H args us vs Q E _ _ _ _ h => absurd h (no vs H Q E)⟩, F.mgf, F.fn.kp, F.b⟩
theorem ok_st {f : Addr} {fd : FuncData} {n k : Nat} (F : Dfn K mg "_law_syntax_text" st__law_syntax_text f fd ["syntax"]) (M : Mg mg) (G_law_plain_text : Cal P w K mg base k "_law_plain_text" (spPT 1)) (G_law_syntax_text : Cal P w K mg base k "_law_syntax_text" (spST n)) : Cal P w K mg base (k + 1) "_law_syntax_text" (spST (n + 1)) := by
  refine cal_mk F sc_law_syntax_text (fun vs H Q E h => ?_) (fun cdv A outer s H vs Q E hr h => ?_)
  · obtain ⟨v, s, m, rfl, _⟩ := h
    rfl
  obtain ⟨v, x, m, rfl, hv, ok, hm, hm4, q⟩ := h
  have hsl : sizeLine = 16777216 := sizeLine_eq
  refine ⟨_, (pss_cons (ps_if (pt_cmpR op_eq (pe_ix (ixT K rfl) (pv 0) pe_int (fun _ _ => rfl)) pe_str (nomark _)) (pss_one (ps_ret (pe_op op_add_str (pe_op op_add_str pe_str (pe_bm PySem.F.plainAttrs_str PySem.F.slot_str_join PySem.F.type_str_join mt_join pe_str (pa_cons (pe_lc (own := [("part", 1)]) (g := gName 1) (by rfl) sc_law_syntax_text.nd (pi_tup (pe_ix (ixT K rfl) (pv 0) pe_int (fun _ _ => rfl))) (blkOk_by (own := [("part", 1)]) (N := ["syntax", "part"]) (sc := defScope st__law_syntax_text) (by decide +kernel)) (fun _ _ _ _ _ => (pg_name (i := 1) sc_law_syntax_text.nd rfl (.inl rfl))) (fun _ _ _ _ _ => pts_nil) (fun _ _ _ _ _ => (pe_c G_law_syntax_text hr (by omega) (by rfl) (pa_cons (pv 1) pa_nil)))) pa_nil))) pe_str))) pss_nil)
      (pss_cons (ps_if (pt_cmpR op_eq (pe_ix (ixT K rfl) (pv 0) pe_int (fun _ _ => rfl)) pe_str (nomark _)) (pss_one (ps_ret (pe_op op_add_str (pe_op op_add_str (pe_ix (ixT K rfl) (pe_ix (ixT K rfl) (pv 0) pe_int (fun _ _ => rfl)) pe_int (fun _ _ => rfl)) pe_str) (pe_callTy call_str_int (by rfl) M.str b_str (pa_cons (pe_ix (ixT K rfl) (pe_ix (ixT K rfl) (pv 0) pe_int (fun _ _ => rfl)) pe_int (fun _ _ => rfl)) pa_nil))))) pss_nil)
      (pss_cons (ps_if (PW.pt (pw_or (pt_cmpR op_eq (pe_ix (ixT K rfl) (pv 0) pe_int (fun _ _ => rfl)) pe_str (nomark _)) (pw_or1 (pt_cmpR op_eq (pe_ix (ixT K rfl) (pv 0) pe_int (fun _ _ => rfl)) pe_str (nomark _))))) (pss_one (ps_ret (pe_ifExp (pt_cmpR op_eq (pe_ix (ixT K rfl) (pv 0) pe_int (fun _ _ => rfl)) pe_str (nomark _)) pe_str pe_str))) pss_nil)
      (pss_one (ps_ret (pe_c G_law_plain_text hr (by omega) (by rfl) (pa_cons (pe_tup (pa_cons (pe_ix (ixT K rfl) (pv 0) pe_int (fun _ _ => rfl)) (pa_cons (pe_ix (ixT K rfl) (pv 0) pe_int (fun _ _ => rfl)) pa_nil))) pa_nil))))))), ?_⟩
  cases ha : isAt x with
  | true =>
    obtain ⟨a, kx, u, wv, rfl, e, hc⟩ := sy_at2 f0 ha ok hv
    refine ⟨_, rfl, tc (ixt e (atI_nat (j := 0) rfl) (tc ⟨rfl, _, rfl, sNe (show ¬ (("atom" : Str) = "list") by decide +kernel) ?_⟩))⟩
    dsimp only [tNext]
    refine ⟨_, rfl, tc (ixt e (atI_nat (j := 0) rfl) (tc ⟨rfl, _, rfl, sNe (show ¬ (("atom" : Str) = "id") by decide +kernel) ?_⟩))⟩
    dsimp only [tNext]
    refine ifS_or (p := V.str kx = V.str "dots") (q := V.str kx = V.str "wild") (fun Q' h => ⟨_, rfl, tc (ixt e (atI_nat (j := 1) rfl) (tc ⟨rfl, _, rfl, h⟩))⟩) (fun Q' h => ⟨_, rfl, tc (ixt e (atI_nat (j := 1) rfl) (tc ⟨rfl, _, rfl, h⟩))⟩) (fun hk => ?_) (fun h1 h2 => ?_)
    · refine ⟨_, rfl, tc (ixt e (atI_nat (j := 1) rfl) (tc ⟨rfl, _, rfl, ?_⟩))⟩
      have q0 := q H (Same.refl H)
      rcases hc with ⟨rfl, ht⟩ | ⟨rfl, ht⟩ | ⟨n1, n2, _⟩
      · rw [ht] at q0
        exact sEq rfl q0
      · rw [ht] at q0
        exact sNe (by decide +kernel) q0
      · rcases hk with z | z
        · exact absurd (V.str.inj z) n1
        · exact absurd (V.str.inj z) n2
    · rcases hc with ⟨rfl, ht⟩ | ⟨rfl, ht⟩ | ⟨n1, n2, p, rfl, hu, g1, g2, g3, ht⟩
      · exact absurd rfl h1
      · exact absurd rfl h2
      dsimp only [tNext]
      refine ⟨_, rfl, tc (ixt e (atI_nat (j := 1) rfl) ?_)⟩
      refine ⟨_, rfl, tc (ixt e (atI_nat (j := 2) rfl) ?_)⟩
      refine ⟨by show 2 ≤ sizeLine; decide, fun c nc => ?_⟩
      obtain ⟨H1, e1, s1, d1⟩ := tup_new nc (.cons (.str p.kd) (.one hu))
      rw [e1]
      refine ⟨.ref c, p, rfl, by rw [plD_eq]; exact d1, g1, by omega, by omega, fun H2 s2 => ?_⟩
      have q0 := q H2 (same_trans s1 s2)
      rw [ht] at q0
      exact q0
  | false =>
  cases x with
  | lst l wm wp =>
    simp only [syD, syDs_map] at hv
    obtain ⟨c, xs, rfl, e, g⟩ := tm_at hv
    obtain ⟨x1, xs, rfl, g1, g⟩ := g.consE
    obtain ⟨x2, xs, rfl, g2, g⟩ := g.consE
    cases g
    obtain ⟨b, ys, rfl, eb, gb⟩ := g1.tupE
    have hyl := gb.len
    rw [List.length_map] at hyl
    cases m with
    | zero => simp [syOk] at ok
    | succ m =>
    simp only [syOk] at ok
    have hL := syTs_len f0_ok l m ok.2
    have hj := jn_len (tx " ") (syTs f0 l)
    have hpl : (syTs f0 l).length = l.length := by rw [syTs_map, List.length_map]
    have h4 : l.length * SB m ≤ 5 * 1294 := Nat.mul_le_mul (by omega) (sb_le (by omega))
    obtain ⟨t4, t5, t6, _⟩ := t1
    rw [t4, hpl] at hj
    have l1 : ("(" : Str).length = 1 := by decide +kernel
    have l2 : (")" : Str).length = 1 := by decide +kernel
    have hle : (S (jn (tx " ") (syTs f0 l))).length = (jn (tx " ") (syTs f0 l)).length := len_S _
    refine ⟨_, rfl, tc (ixt e (atI_nat (j := 0) rfl) (tc ⟨rfl, _, rfl, sEq rfl ?_⟩))⟩
    refine ⟨rfl, _, rfl, tc (ixt e (atI_nat (j := 1) rfl) ⟨b, rfl, ⟨_, SqT.of eb⟩, fun D nD => ?_⟩)⟩
    refine lc_tupK (xs := ys) (fun i H' => Same H H' ∧ H' D = some (.lst ((((syTs f0 l).take i).map S).map V.str))) (fun i H' h => SqT.of (h.1 _ _ eb)) ⟨same_upd nD, upd_same⟩ ?_ ?_
    · rintro i y H' hy ⟨sm, hD⟩
      obtain ⟨z, hzz, dz⟩ := gb.get_map hy
      have hmm := List.mem_of_getElem? hzz
      have hi := (List.getElem?_eq_some_iff.mp hzz).1
      refine ⟨rfl, ?_⟩
      unfold tYes
      refine iteT ⟨_, rfl, y, z, m, rfl, dz.tk (same_tk sm), syOks_mem ok.2 hmm, by omega, by omega, fun H3 s3 => ?_⟩
      refine ⟨_, s3 _ _ hD, by rw [List.length_map, List.length_map, List.length_take]; omega, fun b2 o2 q2 => ?_, ?_⟩
      · rw [upd_ne (ne_of_none q2 nD)]
        exact s3 _ _ (sm _ _ q2)
      · rw [upd_same, List.take_add_one, syTs_map, List.getElem?_map, hzz, List.map_append, List.map_append]
        rfl
    · rintro H' ⟨sm, hD⟩
      rw [hyl, ← hpl, List.take_length] at hD
      refine ⟨_, D, (syTs f0 l).map S, rfl, rfl, .inl (SqL.of hD), ?_, ?_⟩
      · rw [sum_S, show ((" " : Str)).length = 1 from by decide +kernel, List.length_map]
        omega
      · rw [join_jn]
        refine ⟨_, _, rfl, rfl, by rw [l1, hle]; omega, _, _, rfl, rfl, by rw [Str.length_append, l1, l2, hle]; omega, ?_⟩
        rw [wrap "(" ")" (jn (tx " ") (syTs f0 l))]
        have := q H' sm
        simp only [syT] at this
        exact this
  | id nm wm wp sc =>
    simp only [syD, whD] at hv
    obtain ⟨c, xs, rfl, e, g⟩ := tm_at hv
    obtain ⟨x1, xs, rfl, g1, g⟩ := g.consE
    obtain ⟨x2, xs, rfl, g2, g⟩ := g.consE
    obtain ⟨x3, xs, rfl, g3, g⟩ := g.consE
    cases g
    obtain ⟨b, ys, rfl, eb, gb⟩ := g2.tupE
    obtain ⟨y1, ys, rfl, j1, gb⟩ := gb.consE
    obtain ⟨y2, ys, rfl, j2, gb⟩ := gb.consE
    cases gb
    rw [j1.strE, j2.intE] at eb
    have ok' : nmOk nm ∧ wm.length ≤ 5 ∧ 0 ≤ wp ∧ wp < 1000 := by cases m <;> simpa [syOk] using ok
    obtain ⟨o1, o2, o3, o4⟩ := ok'
    refine ⟨_, rfl, tc (ixt e (atI_nat (j := 0) rfl) (tc ⟨rfl, _, rfl, sNe (show ¬ (("id" : Str) = "list") by decide +kernel) ?_⟩))⟩
    dsimp only [tNext]
    refine ⟨_, rfl, tc (ixt e (atI_nat (j := 0) rfl) (tc ⟨rfl, _, rfl, sEq rfl ?_⟩))⟩
    refine ⟨_, rfl, tc (ixt e (atI_nat (j := 2) rfl) (tc (ixt eb (atI_nat (j := 0) rfl) ?_)))⟩
    refine ⟨_, _, rfl, rfl, ?_, ?_⟩
    · rw [len_S, show ("@" : Str).length = 1 from by decide +kernel]
      omega
    have hil := it_len10 (i := wp) (k := 3) (by decide) (by omega)
    refine ⟨_, rfl, tc (ixt e (atI_nat (j := 2) rfl) (tc (ixt eb (atI_nat (j := 1) rfl) ?_)))⟩
    refine ⟨_, rfl, log_small (by omega), _, _, rfl, rfl, ?_, ?_⟩
    · have l1 : ("@" : Str).length = 1 := by decide +kernel
      have l2 : (S wm).length = wm.length := len_S _
      have l3 : (S (it wp)).length = (it wp).length := len_S _
      rw [show Str.ofString (toString wp) = S (it wp) from rfl, Str.length_append]
      omega
    · rw [show Str.ofString (toString wp) = S (it wp) from rfl, show ((S wm ++ ("@" : Str)) ++ S (it wp)) = S (wm ++ (tx "@" ++ it wp)) from by
        rw [app_lit "@" _, S_app, List.append_assoc]]
      have := q H (Same.refl H)
      simp only [syT, f0] at this
      exact this
  | _ => cases ha
theorem st_all {f : Addr} {fd : FuncData} {k0 : Nat} (F : Dfn K mg "_law_syntax_text" st__law_syntax_text f fd ["syntax"]) (M : Mg mg) (G_law_plain_text : Cal P w K mg base k0 "_law_plain_text" (spPT 1)) : ∀ n : Nat, Cal P w K mg base (k0 + n) "_law_syntax_text" (spST n)
  | 0 => st0 F
  | n + 1 => ok_st (k := k0 + n) F M (G_law_plain_text.mono (by omega)) (st_all F M G_law_plain_text n)
/-! _law_shown_rows -/
theorem rowF_up {i j : Nat} {nm : Tx.T} {sc : Bool} {k : Int} (h : rowF i nm sc = some k) (hij : i ≤ j) : rowF j nm sc = some k := by
  unfold rowF at h ⊢
  have e : rowAll.take j = rowAll.take i ++ (rowAll.take j).drop i := by
    have := (List.take_append_drop i (rowAll.take j)).symm
    rw [List.take_take, Nat.min_eq_left hij] at this
    exact this
  rw [e, List.find?_append]
  obtain ⟨r, hr, hk⟩ := Option.map_eq_some_iff.mp h
  rw [hr]
  exact congrArg some hk
theorem nm_str {nm : Tx.T} (h : nmOk nm) : PyData.strOk (S nm) = true := by
  rcases h with rfl | rfl | rfl | rfl | rfl | rfl <;> decide +kernel
theorem pair_shp {nm : Tx.T} {sc : Bool} (h : nmOk nm) : SeqAt.shaped (.tuple [.str (S nm), scD sc]) = true := by
  refine shp ?_ ?_
  · have := nm_str h
    cases sc <;> simp [PyData.canLay0, PyData.canLayAll0, scD, this]
    all_goals decide +kernel
  · cases sc <;> simp [PyData.depth, PyData.depthAll, scD]
theorem pair_pl {nm : Tx.T} {sc : Bool} : pl (.tuple [.str (S nm), scD sc]) = true := by cases sc <;> simp [pl, plAll, scD]
theorem pair_eq {nm nm' : Tx.T} {sc sc' : Bool} : PyData.eqv (.tuple [.str (S nm), scD sc]) (.tuple [.str (S nm'), scD sc']) = decide (nm = nm' ∧ sc = sc') := by
  have h := eqv_pl _ _ (pair_pl (nm := nm) (sc := sc)) (pair_pl (nm := nm') (sc := sc'))
  by_cases e : nm = nm' ∧ sc = sc'
  · rw [decide_eq_true e]
    exact h.mpr (by rw [e.1, e.2])
  · rw [decide_eq_false e]
    refine Bool.eq_false_iff.mpr fun z => e ?_
    have := h.mp z
    simp only [PyData.tuple.injEq, List.cons.injEq, PyData.str.injEq, and_true] at this
    exact ⟨Tx.S_inj this.1, scD_inj this.2⟩
theorem row_nm {i : Nat} {r : Tx.T × Bool × Int × Int} (h : rowAll[i]? = some r) : nmOk r.1 ∧ 0 ≤ r.2.2.1 ∧ r.2.2.1 ≤ 3 := by
  have : i = 0 ∨ i = 1 ∨ i = 2 := by
    have := (List.getElem?_eq_some_iff.mp h).1
    have e : rowAll.length = 3 := rfl
    omega
  rcases this with rfl | rfl | rfl <;> cases h
  · exact ⟨.inl rfl, by decide, by decide⟩
  · exact ⟨.inr (.inl rfl), by decide, by decide⟩
  · exact ⟨.inr (.inl rfl), by decide, by decide⟩

def spSR (n : Nat) : Sp := fun vs H Q _ => ∃ (v : V) (rw : Addr) (s : Sy) (m k : Nat), vs = [v, .ref rw] ∧ Dt H v (syD s) ∧ syOk m s ∧ m < n ∧ m ≤ 4 ∧ k ≤ 3 ∧ Dt H (.ref rw) (.tuple ((rowAll.take k).map rowD)) ∧ ∀ H', Same H H' → Q (.str (S (syT (rowF k) s))) H'
theorem sr0 {f : Addr} {fd : FuncData} {k : Nat} (F : Dfn K mg "_law_shown_rows" st__law_shown_rows f fd ["syntax", "rows"]) : Cal P w K mg base k "_law_shown_rows" (spSR 0) := by
  have no : ∀ vs H Q E, ¬ spSR 0 vs H Q E := fun vs H Q E h => by
    obtain ⟨_, _, _, _, _, _, _, _, h, _⟩ := h
    exact Nat.not_lt_zero _ h
  exact ⟨f, fd, _, ⟨fun vs H Q E h => absurd h (no vs H Q E), fun A outer s H args us vs Q E _ _ _ _ h => absurd h (no vs H Q E)⟩, F.mgf, F.fn.kp, F.b⟩
theorem ok_sr {f : Addr} {fd : FuncData} {n k : Nat} (F : Dfn K mg "_law_shown_rows" st__law_shown_rows f fd ["syntax", "rows"]) (M : Mg mg) (G_law_syntax_text : Cal P w K mg base k "_law_syntax_text" (spST 5)) (G_law_shown_rows : Cal P w K mg base k "_law_shown_rows" (spSR n)) : Cal P w K mg base (k + 1) "_law_shown_rows" (spSR (n + 1)) := by
  refine cal_mk F sc_law_shown_rows (fun vs H Q E h => ?_) (fun cdv A outer s H vs Q E hr h => ?_)
  · obtain ⟨v, rw', s, m, k', rfl, _⟩ := h
    rfl
  obtain ⟨v, ra, x, m, kk, rfl, hv, ok, hm, hm4, hk3, hR, q⟩ := h
  have hsl : sizeLine = 16777216 := sizeLine_eq
  refine ⟨_, (pss_cons (ps_if (pt_cmpR op_eq (pe_ix (ixT K rfl) (pv 0) pe_int (fun _ _ => rfl)) pe_str (nomark _)) (pss_one (ps_ret (pe_op op_add_str (pe_op op_add_str pe_str (pe_bm PySem.F.plainAttrs_str PySem.F.slot_str_join PySem.F.type_str_join mt_join pe_str (pa_cons (pe_lc (own := [("part", 3)]) (g := gName 3) (by rfl) sc_law_shown_rows.nd (pi_tup (pe_ix (ixT K rfl) (pv 0) pe_int (fun _ _ => rfl))) (blkOk_by (own := [("part", 3)]) (N := ["syntax", "rows", "row", "part"]) (sc := defScope st__law_shown_rows) (by decide +kernel)) (fun _ _ _ _ _ => (pg_name (i := 3) sc_law_shown_rows.nd rfl (.inl rfl))) (fun _ _ _ _ _ => pts_nil) (fun _ _ _ _ _ => (pe_c G_law_shown_rows hr (by omega) (by rfl) (pa_cons (pv 3) (pa_cons (pv 1) pa_nil))))) pa_nil))) pe_str))) pss_nil)
      (pss_cons (ps_for PassesOwn.never rfl (pi_tup (pv 1)) (pg_name (i := 2) sc_law_shown_rows.nd rfl (.inl rfl))
      (pss_one (ps_if (PW.pt (pw_and (pt_cmpR op_eq (pe_ix (ixT K rfl) (pv 0) pe_int (fun _ _ => rfl)) pe_str (nomark _)) (pw_and1 (pt_cmpR (opEqD K rfl hr.units) (pe_slice (slA K rfl) (pv 2) po_none (po_some pe_int)) (pe_tup (pa_cons (pe_ix (ixT K rfl) (pv 0) pe_int (fun _ _ => rfl)) (pa_cons (pe_ix (ixT K rfl) (pv 0) pe_int (fun _ _ => rfl)) pa_nil))) (nomark _))))) (pss_one (ps_ret (pe_op op_add_str pe_str (pe_callTy call_str_int (by rfl) M.str b_str (pa_cons (pe_ix (ixT K rfl) (pv 2) pe_int (fun _ _ => rfl)) pa_nil))))) pss_nil)))
      (pss_one (ps_ret (pe_c G_law_syntax_text hr (by omega) (by rfl) (pa_cons (pv 0) pa_nil)))))), ?_⟩
  have hv0 := hv
  obtain ⟨_, rs, hra, er, gr⟩ := hR.tupE
  cases hra
  -- what is no list
  have kind : ∃ (c : Addr) (kx : Str) (xs : List V), v = .ref c ∧ H c = some (.tup (.str kx :: xs)) ∧ ((kx = "list" ∧ ∃ l wm wp, x = .lst l wm wp) ∨ (kx = "id" ∧ ∃ nm wm wp sc, x = .id nm wm wp sc) ∨ (¬ kx = "list" ∧ ¬ kx = "id" ∧ isAt x = true)) := by
    cases x with
    | lst l wm wp =>
      simp only [syD] at hv
      obtain ⟨c, xs, rfl, e, g⟩ := tm_at hv
      exact ⟨c, _, xs, rfl, e, .inl ⟨rfl, l, wm, wp, rfl⟩⟩
    | id nm wm wp sc =>
      simp only [syD] at hv
      obtain ⟨c, xs, rfl, e, g⟩ := tm_at hv
      exact ⟨c, _, xs, rfl, e, .inr (.inl ⟨rfl, nm, wm, wp, sc, rfl⟩)⟩
    | _ =>
      simp only [syD] at hv
      obtain ⟨c, xs, rfl, e, g⟩ := tm_at hv
      exact ⟨c, _, xs, rfl, e, .inr (.inr ⟨by decide +kernel, by decide +kernel, rfl⟩)⟩
  obtain ⟨c, kx, xs, rfl, e, hc⟩ := kind
  rcases hc with ⟨rfl, l, wm, wp, rfl⟩ | hc
  · clear e
    simp only [syD, syDs_map] at hv
    obtain ⟨c', xs', hcc, e, g⟩ := tm_at hv
    cases hcc
    obtain ⟨x1, xs'', rfl, g1, g⟩ := g.consE
    obtain ⟨x2, xs''', rfl, g2, g⟩ := g.consE
    cases g
    obtain ⟨b, ys, rfl, eb, gb⟩ := g1.tupE
    have hyl := gb.len
    rw [List.length_map] at hyl
    cases m with
    | zero => simp [syOk] at ok
    | succ m =>
    simp only [syOk] at ok
    have hL := syTs_len (row_ok kk) l m ok.2
    have hj := jn_len (tx " ") (syTs (rowF kk) l)
    have hpl : (syTs (rowF kk) l).length = l.length := by rw [syTs_map, List.length_map]
    have h4 : l.length * SB m ≤ 5 * 1294 := Nat.mul_le_mul (by omega) (sb_le (by omega))
    obtain ⟨t4, t5, t6, _⟩ := t1
    rw [t4, hpl] at hj
    have l1 : ("(" : Str).length = 1 := by decide +kernel
    have l2 : (")" : Str).length = 1 := by decide +kernel
    have hle : (S (jn (tx " ") (syTs (rowF kk) l))).length = (jn (tx " ") (syTs (rowF kk) l)).length := len_S _
    refine ⟨_, rfl, tc (ixt e (atI_nat (j := 0) rfl) (tc ⟨rfl, _, rfl, sEq rfl ?_⟩))⟩
    refine ⟨rfl, _, rfl, tc (ixt e (atI_nat (j := 1) rfl) ⟨b, rfl, ⟨_, SqT.of eb⟩, fun D nD => ?_⟩)⟩
    refine lc_tupK (xs := ys) (fun i H' => Same H H' ∧ H' D = some (.lst ((((syTs (rowF kk) l).take i).map S).map V.str))) (fun i H' h => SqT.of (h.1 _ _ eb)) ⟨same_upd nD, upd_same⟩ ?_ ?_
    · rintro i y H' hy ⟨sm, hD⟩
      obtain ⟨z, hzz, dz⟩ := gb.get_map hy
      have hmm := List.mem_of_getElem? hzz
      have hi := (List.getElem?_eq_some_iff.mp hzz).1
      refine ⟨rfl, ?_⟩
      unfold tYes
      refine iteT ⟨_, rfl, _, rfl, y, ra, z, m, kk, rfl, dz.tk (same_tk sm), syOks_mem ok.2 hmm, by omega, by omega, hk3, hR.tk (same_tk sm), fun H3 s3 => ?_⟩
      refine ⟨_, s3 _ _ hD, by rw [List.length_map, List.length_map, List.length_take]; omega, fun b2 o2 q2 => ?_, ?_⟩
      · rw [upd_ne (ne_of_none q2 nD)]
        exact s3 _ _ (sm _ _ q2)
      · rw [upd_same, List.take_add_one, syTs_map, List.getElem?_map, hzz, List.map_append, List.map_append]
        rfl
    · rintro H' ⟨sm, hD⟩
      rw [hyl, ← hpl, List.take_length] at hD
      refine ⟨_, D, (syTs (rowF kk) l).map S, rfl, rfl, .inl (SqL.of hD), ?_, ?_⟩
      · rw [sum_S, show ((" " : Str)).length = 1 from by decide +kernel, List.length_map]
        omega
      · rw [join_jn]
        refine ⟨_, _, rfl, rfl, by rw [l1, hle]; omega, _, _, rfl, rfl, by rw [Str.length_append, l1, l2, hle]; omega, ?_⟩
        rw [wrap "(" ")" (jn (tx " ") (syTs (rowF kk) l))]
        have := q H' sm
        simp only [syT] at this
        exact this
  · have hkl : ¬ kx = "list" := by
      rcases hc with ⟨z, _⟩ | ⟨z, _⟩
      · rw [z]; decide +kernel
      · exact z
    refine ⟨_, rfl, tc (ixt e (atI_nat (j := 0) rfl) (tc ⟨rfl, _, rfl, sNe hkl ?_⟩))⟩
    dsimp only [tNext]
    have hrl := gr.len
    rw [List.length_map, List.length_take, Nat.min_eq_left (show kk ≤ rowAll.length from hk3)] at hrl
    refine ⟨_, rfl, ra, rfl, ⟨_, SqT.of er⟩, ?_⟩
    refine for_tupK (xs := rs) (fun i σ H' => ∃ (y : Option V), σ = [some (.ref c), some (.ref ra), y, none] ∧ Same H H' ∧ i ≤ kk ∧ ∀ nm wm wp sc, x = .id nm wm wp sc → rowF i nm sc = none) ⟨none, rfl, Same.refl _, Nat.zero_le _, fun nm wm wp sc _ => rfl⟩ (fun i σ H' h => ?_) ?_ ?_
    · obtain ⟨y, rfl, sm, _⟩ := h
      exact SqT.of (sm _ _ er)
    · rintro i y σ H' hy ⟨y2, rfl, sm, hik, hno⟩
      obtain ⟨r, hr1, dr⟩ := gr.get_map hy
      have hi := (List.getElem?_eq_some_iff.mp hy).1
      have hr2 : rowAll[i]? = some r := by
        rw [List.getElem?_take] at hr1
        split at hr1
        · exact hr1
        · cases hr1
      obtain ⟨rn1, rn2, rn3⟩ := row_nm hr2
      unfold rowD at dr
      have dr' := dr.tk (same_tk sm)
      obtain ⟨b, us, rfl, eb, gb⟩ := dr'.tupE
      obtain ⟨u1, us1, rfl, v1, gb⟩ := gb.consE
      obtain ⟨u2, us2, rfl, v2, gb⟩ := gb.consE
      obtain ⟨u3, us3, rfl, v3, gb⟩ := gb.consE
      obtain ⟨u4, us4, rfl, v4, gb⟩ := gb.consE
      cases gb
      rw [v1.strE, v3.intE] at eb
      dsimp only [gName]
      rcases hc with ⟨rfl, nm, wm, wp, sc, rfl⟩ | ⟨_, hn2, hat⟩
      · simp only [syD] at hv0
        obtain ⟨_, _, hcc, e9, g⟩ := tm_at hv0
        cases hcc
        obtain ⟨x1, ws, rfl, g1, g⟩ := g.consE
        obtain ⟨x2, ws, rfl, g2, g⟩ := g.consE
        obtain ⟨x3, ws, rfl, g3, g⟩ := g.consE
        cases g
        rw [g1.strE] at e9
        have e' := sm _ _ e9
        have oknm : nmOk nm := by
          have : nmOk nm ∧ wm.length ≤ 5 ∧ 0 ≤ wp ∧ wp < 1000 := by cases m <;> simpa [syOk] using ok
          exact this.1
        refine ⟨_, rfl, tc (ixt e' (atI_nat (j := 0) rfl) (tc ⟨rfl, _, rfl, sEq rfl ?_⟩))⟩
        refine ⟨_, rfl, _, rfl, ?_⟩
        refine sl_to (k := 2) eb fun r1 H2 s2 e2 => ?_
        refine ⟨_, rfl, tc (ixt (s2 _ _ e') (atI_nat (j := 1) rfl) ?_)⟩
        refine ⟨_, rfl, tc (ixt (s2 _ _ e') (atI_nat (j := 3) rfl) ?_)⟩
        refine ⟨by show 2 ≤ sizeLine; decide, fun r2 nr2 => ?_⟩
        have sm2 := same_trans sm s2
        obtain ⟨H3, e3, s3, d3⟩ := tup_new nr2 (.cons (.str (S nm)) (.one (g3.tk (same_tk sm2))))
        rw [e3]
        have sm3 := same_trans sm2 s3
        have d2 : Dt H3 (.ref r1) (.tuple [.str (S r.1), scD r.2.1]) := .tup (s3 _ _ e2) (.cons (.str _) (.one ((v2.tk (same_tk s2)).tk (same_tk s3))))
        refine ⟨_, _, d2.dp, d3.dp, pair_shp rn1, pair_shp oknm, _, rfl, ?_⟩
        rw [pair_eq]
        by_cases hm2 : r.1 = nm ∧ r.2.1 = sc
        · refine dT hm2 ?_
          have hnx := row_next hr2 nm sc
          rw [hno nm wm wp sc rfl] at hnx
          simp only [if_pos hm2] at hnx
          have hup := rowF_up hnx (show i + 1 ≤ kk by omega)
          have hil := it_len10 (i := r.2.2.1) (k := 1) (by decide) (by omega)
          refine ⟨_, rfl, tc (ixt (s3 _ _ (s2 _ _ eb)) (atI_nat (j := 2) rfl) ?_)⟩
          refine ⟨_, rfl, log_small (by omega), _, _, rfl, rfl, ?_, ?_⟩
          · have l1 : ("$" : Str).length = 1 := by decide +kernel
            have l3 : (S (it r.2.2.1)).length = (it r.2.2.1).length := len_S _
            rw [show Str.ofString (toString r.2.2.1) = S (it r.2.2.1) from rfl]
            omega
          · rw [show Str.ofString (toString r.2.2.1) = S (it r.2.2.1) from rfl, lit_app "$" (it r.2.2.1)]
            have := q H3 sm3
            simp only [syT, hup] at this
            exact this
        · refine dF hm2 ?_
          dsimp only [tNext]
          refine ⟨_, rfl, sm3, by omega, fun nm2 wm2 wp2 sc2 z => ?_⟩
          cases z
          rw [row_next hr2 nm sc, hno nm wm wp sc rfl]
          simp only [if_neg hm2]
      · refine ⟨_, rfl, tc (ixt (sm _ _ e) (atI_nat (j := 0) rfl) (tc ⟨rfl, _, rfl, sNe hn2 (iteF ?_)⟩))⟩
        exact ⟨_, rfl, sm, by omega, fun nm wm wp sc z => by rw [z] at hat; cases hat⟩
    · rintro σ H' ⟨y2, rfl, sm, hik, hno⟩
      have hi : rs.length = kk := hrl
      rw [hi] at hno
      refine ⟨_, rfl, .ref c, x, m, rfl, hv0.tk (same_tk sm), ok, by omega, hm4, fun H2 s2 => ?_⟩
      have q0 := q H2 (same_trans sm s2)
      have ht : syT (rowF kk) x = syT f0 x := by
        rcases hc with ⟨_, nm, wm, wp, sc, rfl⟩ | ⟨_, _, hat⟩
        · simp only [syT, hno nm wm wp sc rfl, f0]
        · cases x with
          | lst l wm wp => cases hat
          | id nm wm wp sc => cases hat
          | _ => simp only [syT]
      rw [ht] at q0
      exact q0
theorem sr_all {f : Addr} {fd : FuncData} {k0 : Nat} (F : Dfn K mg "_law_shown_rows" st__law_shown_rows f fd ["syntax", "rows"]) (M : Mg mg) (G_law_syntax_text : Cal P w K mg base k0 "_law_syntax_text" (spST 5)) : ∀ n : Nat, Cal P w K mg base (k0 + n) "_law_shown_rows" (spSR n)
  | 0 => sr0 F
  | n + 1 => ok_sr (k := k0 + n) F M (G_law_syntax_text.mono (by omega)) (sr_all F M G_law_syntax_text n)
end
end W8
set_option Elab.async false
set_option linter.all false
set_option maxRecDepth 100000
set_option maxHeartbeats 4000000
namespace W8
open PySem PySem.Spec PyProof.Rows L2 Com Kb Tx SX ND
theorem ifk_no {s kx : Str} {a : TS} {D : Ends} {σ : L2.St} {H : Hp} (hs : tVar 2 σ H fun v H1 => v = .str kx ∧ H1 = H) (hne : ¬ kx = s) (h : D.nx σ H) : tIfS (tTest (tOp rEq (tVar 2) (tC (.str s)))) a tNext D σ H := by
  obtain ⟨v, hv, rfl, _⟩ := hs
  exact ⟨_, hv, rfl, _, rfl, sNe hne h⟩
theorem ifk_yes {s : Str} {a : TS} {D : Ends} {σ : L2.St} {H : Hp} (hs : tVar 2 σ H fun v H1 => v = .str s ∧ H1 = H) (h : a D σ H) : tIfS (tTest (tOp rEq (tVar 2) (tC (.str s)))) a tNext D σ H := by
  obtain ⟨v, hv, rfl, _⟩ := hs
  exact ⟨_, hv, rfl, _, rfl, sEq rfl h⟩
theorem idx_ne {n : Int} : ∀ {o : List Int} {m : Nat} {h : m < o.length}, m < o.idxOf n → (o[m] == n) = false
  | [], m, h, _ => by simp at h
  | x :: r, m, h, hm => by
    rw [List.idxOf_cons] at hm
    cases hx : (x == n) with
    | true =>
      rw [hx] at hm
      simp at hm
    | false =>
      rw [hx] at hm
      cases m with
      | zero => exact hx
      | succ m => exact idx_ne (o := r) (m := m) (h := by simpa using h) (by simp at hm; omega)
theorem catT_sq {K : PySem.W.Frag} {H : Hp} {a b : Addr} {xs ys : List V} {Q : VK} (ha : H a = some (.tup xs)) (hb : H b = some (.tup ys)) (hx : xs ≠ []) (hl : xs.length + ys.length ≤ 1000) (q : ∀ c H', Same H H' → H' c = some (.tup (xs ++ ys)) → Q (.ref c) H') : rCatT K (.ref a) (.ref b) H Q := by
  refine ⟨a, b, _, _, rfl, rfl, SqT.of ha, SqT.of hb, hx, by rw [sizeLine_eq]; omega, fun h2 => ?_, fun _ p np => ?_⟩
  · refine q a H (Same.refl _) ?_
    rw [h2, List.append_nil]
    exact ha
  · exact q p _ (same_upd np) upd_same
theorem cat3 (a b c : Str) (x y : Tx.T) : ((((a ++ S x) ++ b) ++ S y) ++ c) = S (tx a ++ (x ++ (tx b ++ (y ++ tx c)))) := by
  rw [lit_app a x, app_lit b (tx a ++ x), S_app ((tx a ++ x) ++ tx b) y, app_lit c (((tx a ++ x) ++ tx b) ++ y)]
  simp only [List.append_assoc]
theorem lb_le {d : Nat} (h : d ≤ 6) : LB d ≤ 12000000 := by
  have : d = 0 ∨ d = 1 ∨ d = 2 ∨ d = 3 ∨ d = 4 ∨ d = 5 ∨ d = 6 := by omega
  rcases this with rfl | rfl | rfl | rfl | rfl | rfl | rfl <;> decide
theorem tmTs_get : ∀ {l : List Tm} {o : List Int} {i : Nat} {t : Tm}, l[i]? = some t → (tmTs l o)[i]? = some (tmT t (o ++ ods (l.take i)))
  | [], o, i, t, h => by simp at h
  | x :: r, o, 0, t, h => by
    simp only [List.getElem?_cons_zero, Option.some.injEq] at h
    subst h
    simp [tmTs, ods]
  | x :: r, o, i + 1, t, h => by
    simp only [List.getElem?_cons_succ] at h
    simp only [tmTs, List.getElem?_cons_succ, List.take_succ_cons, ods]
    rw [tmTs_get h, List.append_assoc]
theorem prTs_get : ∀ {l : List Tm} {k : Nat} {o : List Int} {i : Nat} {t : Tm}, l[i]? = some t → (prTs k l o)[i]? = some (tx "(" ++ (vn (k + i) ++ (tx " " ++ (tmT t (o ++ ods (l.take i)) ++ tx ")"))))
  | [], k, o, i, t, h => by simp at h
  | x :: r, k, o, 0, t, h => by
    simp only [List.getElem?_cons_zero, Option.some.injEq] at h
    subst h
    simp [prTs, ods]
  | x :: r, k, o, i + 1, t, h => by
    simp only [List.getElem?_cons_succ] at h
    simp only [prTs, List.getElem?_cons_succ, List.take_succ_cons, ods]
    rw [prTs_get h, List.append_assoc, show k + 1 + i = k + (i + 1) by omega]
theorem ods_take {l : List Tm} {i : Nat} {t : Tm} (h : l[i]? = some t) : ods (l.take (i + 1)) = ods (l.take i) ++ od t := by
  rw [List.take_add_one, h, ods_app]
  simp [ods]
theorem ods_take_le (l : List Tm) (i : Nat) : (ods (l.take i)).length ≤ (ods l).length := by
  have := congrArg (fun z => (ods z).length) (List.take_append_drop i l)
  simp only [ods_app, List.length_append] at this
  omega
/-- the texts of the first i, one after the other -/
def PvT (p D : Addr) (H : Hp) (l : List Tm) (o : List Int) (i : Nat) (H' : Hp) : Prop := Keep p H H' ∧ H' p = some (.lst ((o ++ ods (l.take i)).map V.int)) ∧ H' D = some (.lst ((((tmTs l o).take i).map S).map V.str))
theorem ne_of_none2 {H H2 : Hp} {a b : Addr} {o o2 : HO} (_e : H2 a = some o) (n : H a = none) (h : H b = some o2) : a ≠ b := (ne_of_none h n).symm
theorem PvT.start {p D : Addr} {H : Hp} {l : List Tm} {o : List Int} (nD : H D = none) (hp : H p = some (.lst (o.map V.int))) : PvT p D H l o 0 (L2.upd H D (.lst [])) :=
  ⟨Keep.same (same_upd nD), by rw [List.take_zero]; simp only [ods, List.append_nil]; exact same_upd nD _ _ hp, upd_same⟩
section
variable {P : Program} {w : World} {K : PySem.W.Frag} {mg : Str → Option Value} {base : Heap}
/-! _law_text -/
def spLT (n : Nat) : Sp := fun vs H Q _ => ∃ (v : V) (p : Addr) (o : List Int) (t : Tm) (d : Nat), vs = [v, .ref p] ∧ H p = some (.lst (o.map V.int)) ∧ Dt H v (tmD t) ∧ tmOk d t ∧ d < n ∧ d ≤ 6 ∧ ws t o ∧ (o ++ od t).length < 50000 ∧ ∀ H', Keep p H H' → H' p = some (.lst ((o ++ od t).map V.int)) → Q (.str (S (tmT t o))) H'
theorem lt0 {f : Addr} {fd : FuncData} {k : Nat} (F : Dfn K mg "_law_text" st__law_text f fd ["term", "order"]) : Cal P w K mg base k "_law_text" (spLT 0) := by
  have no : ∀ vs H Q E, ¬ spLT 0 vs H Q E := fun vs H Q E h => by
    obtain ⟨_, _, _, _, _, _, _, _, _, h, _⟩ := h
    exact Nat.not_lt_zero _ h
  exact ⟨f, fd, _, ⟨fun vs H Q E h => absurd h (no vs H Q E), fun A outer s H args us vs Q E _ _ _ _ h => absurd h (no vs H Q E)⟩, F.mgf, F.fn.kp, F.b⟩
theorem lt_step {n d i : Nat} {p D : Addr} {H H' : Hp} {l : List Tm} {o : List Int} {y : V} {t : Tm} {E : XK} (nD : H D = none) (hp : H p = some (.lst (o.map V.int))) (h : PvT p D H l o i H') (hy : l[i]? = some t) (dy : Dt H y (tmD t)) (ok : tmOk d t) (hd : d < n) (hd6 : d ≤ 6) (hw : ws t o) (hlen : o.length + (ods l).length < 50000) (hl : l.length ≤ 1000) :
    spLT n [y, .ref p] H' (fun y H4 => ∃ acc, H4 D = some (.lst acc) ∧ acc.length < sizeLine ∧ PvT p D H l o (i + 1) (L2.upd H4 D (.lst (acc ++ [y])))) E := by
  obtain ⟨kp, hpo, hD⟩ := h
  have hDp : D ≠ p := (ne_of_none hp nD).symm
  have hle := ods_take_le l (i + 1)
  rw [ods_take hy, List.length_append] at hle
  refine ⟨y, p, o ++ ods (l.take i), t, d, rfl, hpo, dy.tk (kp.tk hp), ok, hd, hd6, ws_up (fun n hn => List.mem_append_left _ hn) t hw, by rw [List.length_append, List.length_append]; omega, fun H3 k3 hp3 => ?_⟩
  have hD3 := k3 _ _ hD hDp
  refine ⟨_, hD3, by rw [List.length_map, List.length_map, List.length_take, sizeLine_eq, tmTs_len]; omega, fun b2 o2 q2 hb => ?_, ?_, ?_⟩
  · rw [upd_ne (ne_of_none q2 nD)]
    exact k3 _ _ (kp _ _ q2 hb) hb
  · rw [upd_ne hDp.symm, hp3, ods_take hy, List.append_assoc]
  · rw [upd_same, List.take_add_one, tmTs_get hy, List.map_append, List.map_append]
    rfl
theorem ok_lt {f : Addr} {fd : FuncData} {n k : Nat} (F : Dfn K mg "_law_text" st__law_text f fd ["term", "order"]) (M : Mg mg) (G_law_plain_text : Cal P w K mg base k "_law_plain_text" (spPT 3)) (G_law_syntax_text : Cal P w K mg base k "_law_syntax_text" (spST 5)) (G_law_shown_rows : Cal P w K mg base k "_law_shown_rows" (spSR 5)) (G_law_text : Cal P w K mg base k "_law_text" (spLT n)) : Cal P w K mg base (k + 1) "_law_text" (spLT (n + 1)) := by
  refine cal_mk F sc_law_text (fun vs H Q E h => ?_) (fun cdv A outer s H vs Q E hr h => ?_)
  · obtain ⟨v, p, o, t, d, rfl, _⟩ := h
    rfl
  obtain ⟨v, p, o, t, d, rfl, hp, hv, ok, hd, hd6, hw, hlen, q⟩ := h
  have hsl : sizeLine = 16777216 := sizeLine_eq
  have hlb := lb_le hd6
  have hlen' := hlen
  rw [List.length_append] at hlen'
  have htl := tmT_len t d o ok hw hlen'
  refine ⟨_, (pss_cons (ps_set (i := 2) sc_law_text.nd rfl (.inl rfl) (pe_ix (ixT K rfl) (pv 0) pe_int (fun _ _ => rfl)))
      (pss_cons (ps_if (pt_cmpR op_eq (pv 2) pe_str (nomark _)) (pss_cons (ps_set (i := 3) sc_law_text.nd rfl (.inl rfl) (pe_c G_law_plain_text hr (by omega) (by rfl) (pa_cons (pe_ix (ixT K rfl) (pv 0) pe_int (fun _ _ => rfl)) pa_nil)))
      (pss_one (ps_ret (pe_ifExp (pt_cmpR op_eq (pe_ix (ixT K rfl) (pe_ix (ixT K rfl) (pv 0) pe_int (fun _ _ => rfl)) pe_int (fun _ _ => rfl)) pe_str (nomark _)) (pe_op op_add_str (pe_op op_add_str pe_str (pv 3)) pe_str) (pv 3))))) pss_nil)
      (pss_cons (ps_if (pt_cmpR op_eq (pv 2) pe_str (nomark _)) (pss_one (ps_ret (pe_op op_add_str (pe_op op_add_str pe_str (pe_c G_law_syntax_text hr (by omega) (by rfl) (pa_cons (pe_ix (ixT K rfl) (pv 0) pe_int (fun _ _ => rfl)) pa_nil))) pe_str))) pss_nil)
      (pss_cons (ps_if (pt_cmpR op_eq (pv 2) pe_str (nomark _)) (pss_one (ps_ret (pe_op op_add_str (pe_op op_add_str pe_str (pe_bm PySem.F.plainAttrs_str PySem.F.slot_str_join PySem.F.type_str_join mt_join pe_str (pa_cons (pe_lc (own := [("part", 6)]) (g := gName 6) (by rfl) sc_law_text.nd (pi_tup (pe_slice (slA K rfl) (pe_ix (ixT K rfl) (pe_ix (ixT K rfl) (pv 0) pe_int (fun _ _ => rfl)) pe_int (fun _ _ => rfl)) (po_some pe_int) po_none)) (blkOk_by (own := [("part", 6)]) (N := ["term", "order", "kind", "text", "words", "n", "part", "pairs", "parts", "k"]) (sc := defScope st__law_text) (by decide +kernel)) (fun _ _ _ _ _ => (pg_name (i := 6) sc_law_text.nd rfl (.inl rfl))) (fun _ _ _ _ _ => pts_nil) (fun _ _ _ _ _ => (pe_c G_law_syntax_text hr (by omega) (by rfl) (pa_cons (pv 6) pa_nil)))) pa_nil))) pe_str))) pss_nil)
      (pss_cons (ps_if (pt_cmpR op_eq (pv 2) pe_str (nomark _)) (pss_one (ps_ret (pe_op op_add_str (pe_op op_add_str pe_str (pe_bm PySem.F.plainAttrs_str PySem.F.slot_str_join PySem.F.type_str_join mt_join pe_str (pa_cons (pe_lc (own := [("part", 6)]) (g := gName 6) (by rfl) sc_law_text.nd (pi_tup (pe_ix (ixT K rfl) (pe_ix (ixT K rfl) (pv 0) pe_int (fun _ _ => rfl)) pe_int (fun _ _ => rfl))) (blkOk_by (own := [("part", 6)]) (N := ["term", "order", "kind", "text", "words", "n", "part", "pairs", "parts", "k"]) (sc := defScope st__law_text) (by decide +kernel)) (fun _ _ _ _ _ => (pg_name (i := 6) sc_law_text.nd rfl (.inl rfl))) (fun _ _ _ _ _ => pts_nil) (fun _ _ _ _ _ => (pe_c G_law_syntax_text hr (by omega) (by rfl) (pa_cons (pv 6) pa_nil)))) pa_nil))) pe_str))) pss_nil)
      (pss_cons (ps_if (pt_cmpR op_eq (pv 2) pe_str (nomark _)) (pss_one (ps_ret (pe_op op_add_str (pe_op op_add_str pe_str (pe_c G_law_shown_rows hr (by omega) (by rfl) (pa_cons (pe_ix (ixT K rfl) (pv 0) pe_int (fun _ _ => rfl)) (pa_cons (pe_ix (ixT K rfl) (pv 0) pe_int (fun _ _ => rfl)) pa_nil)))) pe_str))) pss_nil)
      (pss_cons (ps_if (pt_cmpR op_eq (pv 2) pe_str (nomark _)) (pss_one (ps_ret (pe_op op_add_str pe_str (pe_callTy call_str_int (by rfl) M.str b_str (pa_cons (pe_bm PySem.F.plainAttrs_list PySem.F.slot_list_index PySem.F.type_list_index mt_index (pv 1) (pa_cons (pe_ix (ixT K rfl) (pv 0) pe_int (fun _ _ => rfl)) pa_nil)) pa_nil))))) pss_nil)
      (pss_cons (ps_if (pt_cmpR op_eq (pv 2) pe_str (nomark _)) (pss_one (ps_ret (pe_op op_add_str (pe_op op_add_str (pe_op op_add_str (pe_op op_add_str (pe_ix (ixT K rfl) (pv 0) pe_int (fun _ _ => rfl)) pe_str) (pe_callTy call_str_int (by rfl) M.str b_str (pa_cons (pe_ix (ixT K rfl) (pv 0) pe_int (fun _ _ => rfl)) pa_nil))) pe_str) (pe_callTy call_str_int (by rfl) M.str b_str (pa_cons (pe_ix (ixT K rfl) (pv 0) pe_int (fun _ _ => rfl)) pa_nil))))) pss_nil)
      (pss_cons (ps_if (pt_cmpR op_eq (pv 2) pe_str (nomark _)) (pss_one (ps_ret (pe_ix (ixT K rfl) (pv 0) pe_int (fun _ _ => rfl)))) pss_nil)
      (pss_cons (ps_if (pt_cmpR op_eq (pv 2) pe_str (nomark _)) (pss_cons (ps_set (i := 4) sc_law_text.nd rfl (.inr rfl) (pe_lst pa_nil))
      (pss_cons (ps_for PassesOwn.never rfl (pi_tup (pe_ix (ixT K rfl) (pv 0) pe_int (fun _ _ => rfl))) (pg_name (i := 5) sc_law_text.nd rfl (.inl rfl))
      (pss_cons (ps_expr (pe_bm PySem.F.plainAttrs_list PySem.F.slot_list_append PySem.F.type_list_append mt_append (pv 4) (pa_cons (pe_op op_add_str pe_str (pe_callTy call_str_int (by rfl) M.str b_str (pa_cons (pe_callB (cLen K rfl) (by rfl) M.len b_len (pa_cons (pv 1) pa_nil)) pa_nil))) pa_nil)))
      (pss_one (ps_expr (pe_bm PySem.F.plainAttrs_list PySem.F.slot_list_append PySem.F.type_list_append mt_append (pv 1) (pa_cons (pv 5) pa_nil))))))
      (pss_one (ps_ret (pe_op op_add_str (pe_op op_add_str (pe_op op_add_str (pe_op op_add_str pe_str (pe_bm PySem.F.plainAttrs_str PySem.F.slot_str_join PySem.F.type_str_join mt_join pe_str (pa_cons (pv 4) pa_nil))) pe_str) (pe_c G_law_text hr (by omega) (by rfl) (pa_cons (pe_ix (ixT K rfl) (pv 0) pe_int (fun _ _ => rfl)) (pa_cons (pv 1) pa_nil)))) pe_str))))) pss_nil)
      (pss_cons (ps_if (pt_cmpR op_eq (pv 2) pe_str (nomark _)) (pss_cons (ps_set (i := 4) sc_law_text.nd rfl (.inr rfl) (pe_lc (own := [("k", 9)]) (g := gName 9) (by rfl) sc_law_text.nd (pi_range1 (by rfl) M.range (pa_cons (pe_callB (cLen K rfl) (by rfl) M.len b_len (pa_cons (pe_ix (ixT K rfl) (pv 0) pe_int (fun _ _ => rfl)) pa_nil)) pa_nil)) (blkOk_by (own := [("k", 9)]) (N := ["term", "order", "kind", "text", "words", "n", "part", "pairs", "parts", "k"]) (sc := defScope st__law_text) (by decide +kernel)) (fun _ _ _ _ _ => (pg_name (i := 9) sc_law_text.nd rfl (.inl rfl))) (fun _ _ _ _ _ => pts_nil) (fun _ _ _ _ _ => (pe_op op_add_str pe_str (pe_callTy call_str_int (by rfl) M.str b_str (pa_cons (pe_op op_add (pe_callB (cLen K rfl) (by rfl) M.len b_len (pa_cons (pv 1) pa_nil)) (pv 9)) pa_nil))))))
      (pss_cons (ps_for PassesOwn.never rfl (pi_tup (pe_ix (ixT K rfl) (pv 0) pe_int (fun _ _ => rfl))) (pg_tup rfl (pgs_cons (pg_name (i := 5) sc_law_text.nd rfl (.inl rfl)) (pgs_cons (pg_name (i := 6) sc_law_text.nd rfl (.inl rfl)) pgs_nil)))
      (pss_one (ps_expr (pe_bm PySem.F.plainAttrs_list PySem.F.slot_list_append PySem.F.type_list_append mt_append (pv 1) (pa_cons (pv 5) pa_nil)))))
      (pss_cons (ps_setLc (i := 7) (own := [("k", 9)]) (g := gName 9) (by rfl) sc_law_text.nd rfl rfl (sw_true rfl rfl rfl (by decide +kernel)) (pi_range1 (by rfl) M.range (pa_cons (pe_callB (cLen K rfl) (by rfl) M.len b_len (pa_cons (pv 4) pa_nil)) pa_nil)) (blkOk_by (own := [("k", 9)]) (N := ["term", "order", "kind", "text", "words", "n", "part", "pairs", "parts", "k"]) (sc := defScope st__law_text) (by decide +kernel)) (fun _ _ _ _ _ => (pg_name (i := 9) sc_law_text.nd rfl (.inl rfl))) (fun _ _ _ _ _ => pts_nil) (fun _ _ _ _ _ => (pe_op op_add_str (pe_op op_add_str (pe_op op_add_str (pe_op op_add_str pe_str (pe_ix (ixL K rfl) (pv 4) (pv 9) (fun _ _ => rfl))) pe_str) (pe_c G_law_text hr (by omega) (by rfl) (pa_cons (pe_ix (ixT K rfl) (pe_ix (ixT K rfl) (pe_ix (ixT K rfl) (pv 0) pe_int (fun _ _ => rfl)) (pv 9) (fun _ _ => rfl)) pe_int (fun _ _ => rfl)) (pa_cons (pv 1) pa_nil)))) pe_str)))
      (pss_one (ps_ret (pe_op op_add_str (pe_op op_add_str (pe_op op_add_str (pe_op op_add_str pe_str (pe_bm PySem.F.plainAttrs_str PySem.F.slot_str_join PySem.F.type_str_join mt_join pe_str (pa_cons (pv 7) pa_nil))) pe_str) (pe_c G_law_text hr (by omega) (by rfl) (pa_cons (pe_ix (ixT K rfl) (pv 0) pe_int (fun _ _ => rfl)) (pa_cons (pv 1) pa_nil)))) pe_str)))))) pss_nil)
      (pss_cons (ps_set (i := 8) sc_law_text.nd rfl (.inl rfl) (pe_slice (slA K rfl) (pv 0) (po_some pe_int) po_none))
      (pss_cons (ps_if (pt_cmpR op_eq (pv 2) pe_str (nomark _)) (pss_one (ps_set (i := 8) sc_law_text.nd rfl (.inl rfl) (pe_ix (ixT K rfl) (pv 0) pe_int (fun _ _ => rfl)))) pss_nil)
      (pss_cons (ps_if (pt_cmpR op_eq (pv 2) pe_str (nomark _)) (pss_one (ps_ret (pe_op op_add_str (pe_op op_add_str pe_str (pe_bm PySem.F.plainAttrs_str PySem.F.slot_str_join PySem.F.type_str_join mt_join pe_str (pa_cons (pe_lc (own := [("part", 6)]) (g := gName 6) (by rfl) sc_law_text.nd (pi_tup (pe_op (opCatT K rfl) (pe_tup (pa_cons (pe_ix (ixT K rfl) (pv 0) pe_int (fun _ _ => rfl)) pa_nil)) (pe_ix (ixT K rfl) (pv 0) pe_int (fun _ _ => rfl)))) (blkOk_by (own := [("part", 6)]) (N := ["term", "order", "kind", "text", "words", "n", "part", "pairs", "parts", "k"]) (sc := defScope st__law_text) (by decide +kernel)) (fun _ _ _ _ _ => (pg_name (i := 6) sc_law_text.nd rfl (.inl rfl))) (fun _ _ _ _ _ => pts_nil) (fun _ _ _ _ _ => (pe_c G_law_text hr (by omega) (by rfl) (pa_cons (pv 6) (pa_cons (pv 1) pa_nil))))) pa_nil))) pe_str))) pss_nil)
      (pss_one (ps_ret (pe_op op_add_str (pe_op op_add_str pe_str (pe_bm PySem.F.plainAttrs_str PySem.F.slot_str_join PySem.F.type_str_join mt_join pe_str (pa_cons (pe_op op_cat (pe_lst (pa_cons (pv 2) pa_nil)) (pe_lc (own := [("part", 6)]) (g := gName 6) (by rfl) sc_law_text.nd (pi_tup (pv 8)) (blkOk_by (own := [("part", 6)]) (N := ["term", "order", "kind", "text", "words", "n", "part", "pairs", "parts", "k"]) (sc := defScope st__law_text) (by decide +kernel)) (fun _ _ _ _ _ => (pg_name (i := 6) sc_law_text.nd rfl (.inl rfl))) (fun _ _ _ _ _ => pts_nil) (fun _ _ _ _ _ => (pe_c G_law_text hr (by omega) (by rfl) (pa_cons (pv 6) (pa_cons (pv 1) pa_nil)))))) pa_nil))) pe_str))))))))))))))))), ?_⟩
  cases t with
  | fn ns b =>
    simp only [tmD] at hv
    obtain ⟨c, xs, rfl, e, g⟩ := tm_at hv
    obtain ⟨x1, xs, rfl, g1, g⟩ := g.consE
    obtain ⟨x2, xs, rfl, g2, g⟩ := g.consE
    cases g
    refine ⟨_, rfl, tc (ixt e (atI_nat (j := 0) rfl) ?_)⟩
    dsimp only [gName]
    refine ifk_no ⟨_, rfl, rfl, rfl⟩ (show ¬ (("fn" : Str) = "const") by decide +kernel) ?_
    refine ifk_no ⟨_, rfl, rfl, rfl⟩ (show ¬ (("fn" : Str) = "syntax") by decide +kernel) ?_
    refine ifk_no ⟨_, rfl, rfl, rfl⟩ (show ¬ (("fn" : Str) = "rules") by decide +kernel) ?_
    refine ifk_no ⟨_, rfl, rfl, rfl⟩ (show ¬ (("fn" : Str) = "pattern") by decide +kernel) ?_
    refine ifk_no ⟨_, rfl, rfl, rfl⟩ (show ¬ (("fn" : Str) = "template") by decide +kernel) ?_
    refine ifk_no ⟨_, rfl, rfl, rfl⟩ (show ¬ (("fn" : Str) = "local") by decide +kernel) ?_
    refine ifk_no ⟨_, rfl, rfl, rfl⟩ (show ¬ (("fn" : Str) = "top") by decide +kernel) ?_
    refine ifk_no ⟨_, rfl, rfl, rfl⟩ (show ¬ (("fn" : Str) = "prim") by decide +kernel) ?_
    refine ifk_yes ⟨_, rfl, rfl, rfl⟩ ?_
    obtain ⟨pp, ps, rfl, ep, gp⟩ := g1.tupE
    have hps := dt_ints gp
    subst hps
    cases d with
    | zero => simp [tmOk] at ok
    | succ d =>
    simp only [tmOk] at ok
    simp only [ws] at hw
    simp only [od, ← List.append_assoc] at q
    simp only [od, List.length_append] at hlen'
    simp only [tmT, List.length_append] at htl
    have hn3 := ok.1
    have hcp : c ≠ p := ne_of e hp (fun z => nomatch z)
    have hpp : pp ≠ p := ne_of ep hp (fun z => nomatch z)
    refine ⟨Nat.zero_le _, fun L nL => ?_⟩
    dsimp only [gName]
    have s1 := same_upd (o := .lst []) nL
    have e1 := upd_same (H := H) (a := L) (o := .lst [])
    have hp1 := s1 _ _ hp
    have hLp : L ≠ p := (ne_of_none hp nL).symm
    generalize L2.upd H L (.lst []) = H1 at s1 e1 hp1 ⊢
    refine ⟨_, rfl, tc (ixt (s1 _ _ e) (atI_nat (j := 1) rfl) ⟨pp, rfl, ⟨_, SqT.of (s1 _ _ ep)⟩, ?_⟩)⟩
    refine for_tupK (xs := ns.map V.int) (fun i σ H' => ∃ (y : Option V), σ = [some (.ref c), some (.ref p), some (.str "fn"), none, some (.ref L), y, none, none, none, none] ∧ Keep p H H' ∧ H' p = some (.lst ((o ++ ns.take i).map V.int)) ∧ H' L = some (.lst ((((vns o.length ns).take i).map S).map V.str))) ⟨none, rfl, Keep.same s1, by rw [List.take_zero, List.append_nil]; exact hp1, e1⟩ (fun i σ H' h => ?_) ?_ ?_
    · obtain ⟨y, rfl, kp, _⟩ := h
      exact SqT.of (kp _ _ ep hpp)
    · rintro i x σ H' hx ⟨y, rfl, kp, hpo, hL⟩
      rw [List.getElem?_map] at hx
      obtain ⟨n, hn, rfl⟩ := Option.map_eq_some_iff.mp hx
      have hi := (List.getElem?_eq_some_iff.mp hn).1
      dsimp only [gName]
      have hol : (((o ++ ns.take i).map V.int).length : Int) = ((o.length + i : Nat) : Int) := by rw [List.length_map, List.length_append, List.length_take, Nat.min_eq_left (by omega)]
      have hil : (it ((o.length + i : Nat) : Int)).length ≤ 6 := it_len10 (k := 5) (by decide) (by omega)
      have l1 : ("v" : Str).length = 1 := by decide +kernel
      refine ⟨_, rfl, .inl ⟨rfl, _, SqL.of hL⟩, ?_⟩
      refine ⟨_, rfl, p, _, rfl, .inl (SqL.of hpo), ?_⟩
      rw [hol]
      refine ⟨_, rfl, log_small (by omega), _, _, rfl, rfl, ?_, ?_⟩
      · rw [show Str.ofString (toString ((o.length + i : Nat) : Int)) = S (it ((o.length + i : Nat) : Int)) from rfl, l1]
        have l3 : (S (it ((o.length + i : Nat) : Int))).length = (it ((o.length + i : Nat) : Int)).length := len_S _
        omega
      rw [show Str.ofString (toString ((o.length + i : Nat) : Int)) = S (it ((o.length + i : Nat) : Int)) from rfl, lit_app "v" _]
      refine ⟨L, _, _, rfl, rfl, hL, by rw [List.length_map, List.length_map, List.length_take]; show _ < 2 ^ 24; omega, ?_⟩
      have kL : Keep L H' (L2.upd H' L (.lst ((((vns o.length ns).take i).map S).map V.str ++ [.str (S (tx "v" ++ it ((o.length + i : Nat) : Int)))]))) := Keep.at
      have hp4 := kL _ _ hpo hLp.symm
      refine ⟨_, rfl, .inl ⟨rfl, _, SqL.of hp4⟩, _, rfl, p, _, _, rfl, rfl, hp4, by rw [List.length_map, List.length_append, List.length_take]; show _ < 2 ^ 24; omega, ?_⟩
      refine ⟨_, rfl, fun b2 o2 q2 hb => ?_, ?_, ?_⟩
      · rw [upd_ne hb]
        exact kL _ _ (kp _ _ q2 hb) (ne_of_none q2 nL)
      · rw [upd_same, List.take_add_one, hn]
        simp
      · rw [upd_ne hLp, upd_same, List.take_add_one, List.map_append, List.map_append]
        have : (vns o.length ns)[i]? = some (vn (o.length + i)) := by
          unfold vns
          rw [List.getElem?_map, List.getElem?_range hi]
          rfl
        rw [this]
        rfl
    · rintro σ H2 ⟨y, rfl, kp, hpo, hL⟩
      rw [List.length_map, List.take_length] at hpo
      rw [List.length_map, ← vns_len o.length ns, List.take_length] at hL
      have hs := vns_sum (k := o.length) (ns := ns) (by omega)
      have e2 := kp _ _ e hcp
      have d2 := g2.tk (kp.tk hp)
      refine ⟨rfl, _, rfl, _, L, (vns o.length ns).map S, rfl, rfl, .inl (SqL.of hL), by rw [sum_S, show ((" " : Str)).length = 1 from by decide +kernel, List.length_map, vns_len]; omega, ?_⟩
      rw [join_jn]
      have l1 : ("(fn (" : Str).length = 5 := by decide +kernel
      have l2 : (") " : Str).length = 2 := by decide +kernel
      have l3 : (")" : Str).length = 1 := by decide +kernel
      have t1' : (tx "(fn (").length = 5 := by decide +kernel
      have t2' : (tx ") ").length = 2 := by decide +kernel
      have t3' : (tx ")").length = 1 := by decide +kernel
      rw [t1', t2', t3'] at htl
      have hle : (S (jn (tx " ") (vns o.length ns))).length = (jn (tx " ") (vns o.length ns)).length := len_S _
      refine ⟨_, _, rfl, rfl, by rw [l1]; show 5 + (S (jn (tx " ") (vns o.length ns))).length ≤ _; rw [hle]; omega, _, _, rfl, rfl, by rw [Str.length_append, l1, l2]; show 5 + (S (jn (tx " ") (vns o.length ns))).length + 2 ≤ _; rw [hle]; omega, ?_⟩
      refine ⟨_, rfl, tc (ixt e2 (atI_nat (j := 2) rfl) ?_)⟩
      refine ⟨_, rfl, x2, p, o ++ ns, b, d, rfl, hpo, d2, ok.2, by omega, by omega, hw, by rw [List.length_append, List.length_append]; omega, fun H3 k3 hp3 => ?_⟩
      have hle2 : (S (tmT b (o ++ ns))).length = (tmT b (o ++ ns)).length := len_S _
      refine ⟨_, _, rfl, rfl, by rw [Str.length_append, Str.length_append, l1, l2]; show 5 + (S (jn (tx " ") (vns o.length ns))).length + 2 + (S (tmT b (o ++ ns))).length ≤ _; rw [hle, hle2]; omega, _, _, rfl, rfl, by rw [Str.length_append, Str.length_append, Str.length_append, l1, l2, l3]; show 5 + (S (jn (tx " ") (vns o.length ns))).length + 2 + (S (tmT b (o ++ ns))).length + 1 ≤ _; rw [hle, hle2]; omega, ?_⟩
      have q0 := q H3 (kp.trans k3) hp3
      simp only [tmT] at q0
      have hS := cat3 "(fn (" ") " ")" (jn (tx " ") (vns o.length ns)) (tmT b (o ++ ns))
      rw [← hS] at q0
      exact q0
  | loc n m wp =>
    simp only [tmD] at hv
    simp only [ws] at hw
    obtain ⟨c, xs, rfl, e, g⟩ := tm_at hv
    obtain ⟨x1, xs, rfl, g1, g⟩ := g.consE
    obtain ⟨x2, xs, rfl, g2, g⟩ := g.consE
    cases g
    refine ⟨_, rfl, tc (ixt e (atI_nat (j := 0) rfl) ?_)⟩
    dsimp only [gName]
    refine ifk_no ⟨_, rfl, rfl, rfl⟩ (show ¬ (("local" : Str) = "const") by decide +kernel) ?_
    refine ifk_no ⟨_, rfl, rfl, rfl⟩ (show ¬ (("local" : Str) = "syntax") by decide +kernel) ?_
    refine ifk_no ⟨_, rfl, rfl, rfl⟩ (show ¬ (("local" : Str) = "rules") by decide +kernel) ?_
    refine ifk_no ⟨_, rfl, rfl, rfl⟩ (show ¬ (("local" : Str) = "pattern") by decide +kernel) ?_
    refine ifk_no ⟨_, rfl, rfl, rfl⟩ (show ¬ (("local" : Str) = "template") by decide +kernel) ?_
    refine ifk_yes ⟨_, rfl, rfl, rfl⟩ ?_
    rw [g1.intE] at e
    have hlt := List.idxOf_lt_length_of_mem hw
    have hil : (it ((o.idxOf n : Nat) : Int)).length ≤ 6 := it_len10 (k := 5) (by decide) (by omega)
    refine ⟨_, rfl, .inl ⟨rfl, _, SqL.of hp⟩, ?_⟩
    refine ⟨_, rfl, tc (ixt e (atI_nat (j := 1) rfl) ?_)⟩
    refine ⟨p, o.map V.int, .int n, o.idxOf n, .int n, rfl, rfl, SqL.of hp, rfl, ?_, ?_, ?_, ?_, ?_⟩
    · rw [List.all_map]
      exact List.all_eq_true.mpr fun _ _ => rfl
    · rw [List.getElem?_map, List.getElem?_eq_getElem hlt, List.getElem_idxOf hlt]
      rfl
    · show (n == n) = true
      exact beq_self_eq_true n
    · intro m z' hm hz
      rw [List.getElem?_map] at hz
      obtain ⟨y, hy, rfl⟩ := Option.map_eq_some_iff.mp hz
      show (y == n) = false
      obtain ⟨hml, rfl⟩ := List.getElem?_eq_some_iff.mp hy
      exact idx_ne hm
    · have l1 : ("v" : Str).length = 1 := by decide +kernel
      have l3 : (S (it ((o.idxOf n : Nat) : Int))).length = (it ((o.idxOf n : Nat) : Int)).length := len_S _
      refine ⟨_, rfl, log_small (by omega), _, _, rfl, rfl, ?_, ?_⟩
      · rw [S_it, l1]
        omega
      · rw [S_it, lit_app "v" _]
        have q0 := q H (Keep.refl _ _) (by simp only [od, List.append_nil]; exact hp)
        simp only [tmT] at q0
        exact q0
  | lf l =>
    simp only [tmD] at hv
    have hv0 := hv
    have ok' : lfOk l := by cases d <;> simpa [tmOk] using ok
    have hft := lfT_len l ok'
    have q' : ∀ H', Same H H' → Q (.str (S (lfT l))) H' := fun H' s' => by
      have := q H' (Keep.same s') (by simp only [od, List.append_nil]; exact s' _ _ hp)
      simp only [tmT] at this
      exact this
    clear q htl hw
    cases l with
    | const pl =>
      simp only [lfD] at hv
      obtain ⟨c, xs, rfl, e, g⟩ := tm_at hv
      obtain ⟨x1, xs, rfl, g1, g⟩ := g.consE
      cases g
      refine ⟨_, rfl, tc (ixt e (atI_nat (j := 0) rfl) ?_)⟩
      dsimp only [gName]
      obtain ⟨o1, o2, o3⟩ := ok'
      refine ifk_yes ⟨_, rfl, rfl, rfl⟩ ?_
      refine ⟨_, rfl, tc (ixt e (atI_nat (j := 1) rfl) ⟨x1, pl, rfl, g1, o1, by omega, by omega, fun H1 s1 => ?_⟩)⟩
      dsimp only [gName]
      have q0 := q' H1 s1
      simp only [lfT] at q0 hft
      have hle : (S (plT pl)).length = (plT pl).length := len_S _
      have e' := s1 _ _ e
      cases hpl : isLst pl with
      | false =>
        obtain ⟨a, u, rfl, ea, _⟩ := leaf_at (K := K) hpl g1.dp
        rw [hpl, if_neg (by decide)] at q0
        refine ⟨_, rfl, tc (ixt e' (atI_nat (j := 1) rfl) (tc (ixk (sqt_same s1 ea) (atI_nat (j := 0) rfl) (tc ⟨rfl, _, rfl, sNe (kd_lst hpl) ?_⟩))))⟩
        exact ⟨_, rfl, q0⟩
      | true =>
        obtain ⟨l, rfl⟩ : ∃ l, pl = .lst l := by
          cases pl with
          | lst l => exact ⟨l, rfl⟩
          | _ => cases hpl
        simp only [plD] at g1
        obtain ⟨a, ys, rfl, ea, gb⟩ := tm_at g1
        rw [hpl, if_pos rfl] at q0 hft
        refine ⟨_, rfl, tc (ixt e' (atI_nat (j := 1) rfl) (tc (ixt (s1 _ _ ea) (atI_nat (j := 0) rfl) (tc ⟨rfl, _, rfl, sEq rfl ?_⟩))))⟩
        have l1 : ("(quote " : Str).length = 7 := by decide +kernel
        have l2 : (")" : Str).length = 1 := by decide +kernel
        have t1' : (tx "(quote ").length = 7 := by decide +kernel
        simp only [List.length_append] at hft
        refine ⟨_, rfl, _, _, rfl, rfl, by omega, _, _, rfl, rfl, by rw [Str.length_append]; omega, ?_⟩
        rw [wrap "(quote " ")" (plT _)]
        exact q0
    | syn x =>
      simp only [lfD] at hv
      obtain ⟨c, xs, rfl, e, g⟩ := tm_at hv
      obtain ⟨x1, xs, rfl, g1, g⟩ := g.consE
      cases g
      refine ⟨_, rfl, tc (ixt e (atI_nat (j := 0) rfl) ?_)⟩
      dsimp only [gName]
      refine ifk_no ⟨_, rfl, rfl, rfl⟩ (show ¬ (("syntax" : Str) = "const") by decide +kernel) ?_
      refine ifk_yes ⟨_, rfl, rfl, rfl⟩ ?_
      have oks : syOk 3 x := ok'
      refine ⟨_, rfl, tc (ixt e (atI_nat (j := 1) rfl) ⟨x1, x, 3, rfl, g1, oks, by decide, by decide, fun H1 s1 => ?_⟩)⟩
      have hL := syT_len f0_ok x 3 oks
      rw [sb3] at hL
      have hle : (S (syT f0 x)).length = (syT f0 x).length := len_S _
      have l1 : ("(syntax " : Str).length = 8 := by decide +kernel
      have l2 : (")" : Str).length = 1 := by decide +kernel
      refine ⟨_, _, rfl, rfl, by omega, _, _, rfl, rfl, by rw [Str.length_append]; omega, ?_⟩
      rw [wrap "(syntax " ")" (syT f0 x)]
      have q0 := q' H1 s1
      simp only [lfT, inP, jn_one] at q0
      rw [show tx "(syntax " = tx "(" ++ (tx "syntax" ++ tx " ") from by decide +kernel]
      simpa only [List.append_assoc] using q0
    | tmpl x kk =>
      simp only [lfD] at hv
      obtain ⟨c, xs, rfl, e, g⟩ := tm_at hv
      obtain ⟨x1, xs, rfl, g1, g⟩ := g.consE
      obtain ⟨x2, xs, rfl, g2, g⟩ := g.consE
      cases g
      refine ⟨_, rfl, tc (ixt e (atI_nat (j := 0) rfl) ?_)⟩
      dsimp only [gName]
      refine ifk_no ⟨_, rfl, rfl, rfl⟩ (show ¬ (("template" : Str) = "const") by decide +kernel) ?_
      refine ifk_no ⟨_, rfl, rfl, rfl⟩ (show ¬ (("template" : Str) = "syntax") by decide +kernel) ?_
      refine ifk_no ⟨_, rfl, rfl, rfl⟩ (show ¬ (("template" : Str) = "rules") by decide +kernel) ?_
      refine ifk_no ⟨_, rfl, rfl, rfl⟩ (show ¬ (("template" : Str) = "pattern") by decide +kernel) ?_
      refine ifk_yes ⟨_, rfl, rfl, rfl⟩ ?_
      obtain ⟨oks, okk⟩ := ok'
      obtain ⟨rr, rs, rfl, er, gr⟩ := g2.tupE
      refine ⟨_, rfl, tc (ixt e (atI_nat (j := 1) rfl) ?_)⟩
      refine ⟨_, rfl, tc (ixt e (atI_nat (j := 2) rfl) ⟨x1, rr, x, 3, kk, rfl, g1, oks, by decide, by decide, okk, g2, fun H1 s1 => ?_⟩)⟩
      have hL := syT_len (row_ok kk) x 3 oks
      rw [sb3] at hL
      have hle : (S (syT (rowF kk) x)).length = (syT (rowF kk) x).length := len_S _
      have l1 : ("(template " : Str).length = 10 := by decide +kernel
      have l2 : (")" : Str).length = 1 := by decide +kernel
      refine ⟨_, _, rfl, rfl, by omega, _, _, rfl, rfl, by rw [Str.length_append]; omega, ?_⟩
      rw [wrap "(template " ")" (syT (rowF kk) x)]
      have q0 := q' H1 s1
      simp only [lfT, inP, jn_one] at q0
      rw [show tx "(template " = tx "(" ++ (tx "template" ++ tx " ") from by decide +kernel]
      simpa only [List.append_assoc] using q0
    | prim x =>
      simp only [lfD] at hv
      obtain ⟨c, xs, rfl, e, g⟩ := tm_at hv
      obtain ⟨x1, xs, rfl, g1, g⟩ := g.consE
      cases g
      refine ⟨_, rfl, tc (ixt e (atI_nat (j := 0) rfl) ?_)⟩
      dsimp only [gName]
      refine ifk_no ⟨_, rfl, rfl, rfl⟩ (show ¬ (("prim" : Str) = "const") by decide +kernel) ?_
      refine ifk_no ⟨_, rfl, rfl, rfl⟩ (show ¬ (("prim" : Str) = "syntax") by decide +kernel) ?_
      refine ifk_no ⟨_, rfl, rfl, rfl⟩ (show ¬ (("prim" : Str) = "rules") by decide +kernel) ?_
      refine ifk_no ⟨_, rfl, rfl, rfl⟩ (show ¬ (("prim" : Str) = "pattern") by decide +kernel) ?_
      refine ifk_no ⟨_, rfl, rfl, rfl⟩ (show ¬ (("prim" : Str) = "template") by decide +kernel) ?_
      refine ifk_no ⟨_, rfl, rfl, rfl⟩ (show ¬ (("prim" : Str) = "local") by decide +kernel) ?_
      refine ifk_no ⟨_, rfl, rfl, rfl⟩ (show ¬ (("prim" : Str) = "top") by decide +kernel) ?_
      refine ifk_yes ⟨_, rfl, rfl, rfl⟩ ?_
      rw [g1.strE] at e
      exact ⟨_, rfl, tc (ixt e (atI_nat (j := 1) rfl) (q' H (Same.refl H)))⟩
    | top m l n wm wp =>
      simp only [lfD] at hv
      obtain ⟨c, xs, rfl, e, g⟩ := tm_at hv
      obtain ⟨x1, xs, rfl, g1, g⟩ := g.consE
      obtain ⟨x2, xs, rfl, g2, g⟩ := g.consE
      obtain ⟨x3, xs, rfl, g3, g⟩ := g.consE
      obtain ⟨x4, xs, rfl, g4, g⟩ := g.consE
      cases g
      refine ⟨_, rfl, tc (ixt e (atI_nat (j := 0) rfl) ?_)⟩
      dsimp only [gName]
      refine ifk_no ⟨_, rfl, rfl, rfl⟩ (show ¬ (("top" : Str) = "const") by decide +kernel) ?_
      refine ifk_no ⟨_, rfl, rfl, rfl⟩ (show ¬ (("top" : Str) = "syntax") by decide +kernel) ?_
      refine ifk_no ⟨_, rfl, rfl, rfl⟩ (show ¬ (("top" : Str) = "rules") by decide +kernel) ?_
      refine ifk_no ⟨_, rfl, rfl, rfl⟩ (show ¬ (("top" : Str) = "pattern") by decide +kernel) ?_
      refine ifk_no ⟨_, rfl, rfl, rfl⟩ (show ¬ (("top" : Str) = "template") by decide +kernel) ?_
      refine ifk_no ⟨_, rfl, rfl, rfl⟩ (show ¬ (("top" : Str) = "local") by decide +kernel) ?_
      refine ifk_yes ⟨_, rfl, rfl, rfl⟩ ?_
      rw [g1.strE, g2.intE, g3.intE] at e
      obtain ⟨o1, o2, o3⟩ := ok'
      have a1 := it_len10 (i := l) (k := 3) (by decide) (by omega)
      have a2 := it_len10 (i := n) (k := 3) (by decide) (by omega)
      have l1 : (":" : Str).length = 1 := by decide +kernel
      have lm : (S m).length = m.length := len_S _
      have ll : (S (it l)).length = (it l).length := len_S _
      have lnn : (S (it n)).length = (it n).length := len_S _
      refine ⟨_, rfl, tc (ixt e (atI_nat (j := 1) rfl) ?_)⟩
      refine ⟨_, _, rfl, rfl, by omega, ?_⟩
      refine ⟨_, rfl, tc (ixt e (atI_nat (j := 2) rfl) ?_)⟩
      refine ⟨_, rfl, log_small (by omega), _, _, rfl, rfl, by rw [S_it, Str.length_append]; omega, ?_⟩
      refine ⟨_, _, rfl, rfl, by rw [S_it, Str.length_append, Str.length_append]; omega, ?_⟩
      refine ⟨_, rfl, tc (ixt e (atI_nat (j := 3) rfl) ?_)⟩
      refine ⟨_, rfl, log_small (by omega), _, _, rfl, rfl, by rw [S_it, S_it, Str.length_append, Str.length_append, Str.length_append]; omega, ?_⟩
      rw [S_it, S_it, app_lit ":" m, S_app (m ++ tx ":") (it l), app_lit ":" ((m ++ tx ":") ++ it l), S_app (((m ++ tx ":") ++ it l) ++ tx ":") (it n)]
      have q0 := q' H (Same.refl H)
      simp only [lfT] at q0
      simpa only [List.append_assoc] using q0
    | rules l wm wp =>
      simp only [lfD] at hv
      obtain ⟨c, xs, rfl, e, g⟩ := tm_at hv
      obtain ⟨x1, xs, rfl, g1, g⟩ := g.consE
      cases g
      refine ⟨_, rfl, tc (ixt e (atI_nat (j := 0) rfl) ?_)⟩
      dsimp only [gName]
      refine ifk_no ⟨_, rfl, rfl, rfl⟩ (show ¬ (("rules" : Str) = "const") by decide +kernel) ?_
      refine ifk_no ⟨_, rfl, rfl, rfl⟩ (show ¬ (("rules" : Str) = "syntax") by decide +kernel) ?_
      refine ifk_yes ⟨_, rfl, rfl, rfl⟩ ?_
      obtain ⟨o0, o1, o2⟩ := ok'
      rw [syDs_map] at g1
      obtain ⟨e1a, e1x, rfl, e1, gg⟩ := tm_at g1
      obtain ⟨y1, ys, rfl, j1, gg⟩ := gg.consE
      obtain ⟨b, bs, rfl, eb, gb0⟩ := j1.tupE
      cases l with
      | nil => simp at o0
      | cons l0 lr =>
      obtain ⟨b0, br, rfl, _, gb1⟩ := gb0.consE
      simp only [syOks] at o2
      simp only [List.length_cons] at o1
      refine ⟨rfl, _, rfl, tc (ixt e (atI_nat (j := 1) rfl) (tc (ixt e1 (atI_nat (j := 1) rfl) ?_)))⟩
      refine ⟨_, rfl, ?_⟩
      dsimp only [tNoPart]
      refine sl_from eb fun r nr => ?_
      have s1 := same_upd (o := .tup br) nr
      have er := upd_same (H := H) (a := r) (o := .tup br)
      generalize L2.upd H r (.tup br) = H1 at s1 er ⊢
      have gb := gb1.tk (same_tk s1)
      refine ⟨r, rfl, ⟨_, SqT.of er⟩, fun D nD => ?_⟩
      have hL := syTs_len f0_ok lr 3 o2.2
      rw [sb3] at hL
      have hj := jn_len (tx " ") (syTs f0 lr)
      have hpl : (syTs f0 lr).length = (lr).length := by rw [syTs_map, List.length_map]
      have h4 : (lr).length * 430 ≤ 5 * 430 := Nat.mul_le_mul_right _ (by omega)
      obtain ⟨t4, t5, t6, _⟩ := t1
      rw [t4, hpl] at hj
      have l1 : ("(rules " : Str).length = 7 := by decide +kernel
      have l2 : (")" : Str).length = 1 := by decide +kernel
      have hle : (S (jn (tx " ") (syTs f0 lr))).length = (jn (tx " ") (syTs f0 lr)).length := len_S _
      have hyl := gb.len
      rw [List.length_map] at hyl
      refine lc_tupK (xs := br) (fun i H' => Same H1 H' ∧ H' D = some (.lst ((((syTs f0 lr).take i).map S).map V.str))) (fun i H' h => SqT.of (h.1 _ _ er)) ⟨same_upd nD, upd_same⟩ ?_ ?_
      · rintro i y H' hy ⟨sm, hD⟩
        obtain ⟨z, hzz, dz⟩ := gb.get_map hy
        have hmm := List.mem_of_getElem? hzz
        have hi := (List.getElem?_eq_some_iff.mp hzz).1
        refine ⟨rfl, ?_⟩
        unfold tYes
        refine iteT ⟨_, rfl, y, z, 3, rfl, dz.tk (same_tk sm), syOks_mem o2.2 hmm, by omega, by omega, fun H3 s3 => ?_⟩
        refine ⟨_, s3 _ _ hD, by rw [List.length_map, List.length_map, List.length_take]; omega, fun b2 o2 q2 => ?_, ?_⟩
        · rw [upd_ne (ne_of_none q2 nD)]
          exact s3 _ _ (sm _ _ q2)
        · rw [upd_same, List.take_add_one, syTs_map, List.getElem?_map, hzz, List.map_append, List.map_append]
          rfl
      · rintro H' ⟨sm, hD⟩
        rw [hyl, ← hpl, List.take_length] at hD
        refine ⟨_, D, (syTs f0 lr).map S, rfl, rfl, .inl (SqL.of hD), ?_, ?_⟩
        · rw [sum_S, show ((" " : Str)).length = 1 from by decide +kernel, List.length_map]
          omega
        · rw [join_jn]
          refine ⟨_, _, rfl, rfl, by rw [l1]; show 7 + (S (jn (tx " ") (syTs f0 lr))).length ≤ _; rw [hle]; omega, _, _, rfl, rfl, by rw [Str.length_append, l1, l2]; show 7 + (S (jn (tx " ") (syTs f0 lr))).length + 1 ≤ _; rw [hle]; omega, ?_⟩
          have q0 := q' H' (same_trans s1 sm)
          simp only [lfT, inP, List.tail_cons] at q0
          have hS := wrap "(rules " ")" (jn (tx " ") (syTs f0 lr))
          rw [show tx "(rules " = tx "(" ++ (tx "rules" ++ tx " ") from by decide +kernel] at hS
          simp only [List.append_assoc] at hS
          rw [← hS] at q0
          exact q0
    | pat l wm wp =>
      simp only [lfD] at hv
      obtain ⟨c, xs, rfl, e, g⟩ := tm_at hv
      obtain ⟨x1, xs, rfl, g1, g⟩ := g.consE
      cases g
      refine ⟨_, rfl, tc (ixt e (atI_nat (j := 0) rfl) ?_)⟩
      dsimp only [gName]
      refine ifk_no ⟨_, rfl, rfl, rfl⟩ (show ¬ (("pattern" : Str) = "const") by decide +kernel) ?_
      refine ifk_no ⟨_, rfl, rfl, rfl⟩ (show ¬ (("pattern" : Str) = "syntax") by decide +kernel) ?_
      refine ifk_no ⟨_, rfl, rfl, rfl⟩ (show ¬ (("pattern" : Str) = "rules") by decide +kernel) ?_
      refine ifk_yes ⟨_, rfl, rfl, rfl⟩ ?_
      obtain ⟨o1, o2⟩ := ok'
      rw [syDs_map] at g1
      obtain ⟨e1a, e1x, rfl, e1, gg⟩ := tm_at g1
      obtain ⟨y1, ys, rfl, j1, gg⟩ := gg.consE
      obtain ⟨b, bs, rfl, eb, gb⟩ := j1.tupE
      refine ⟨rfl, _, rfl, tc (ixt e (atI_nat (j := 1) rfl) (tc (ixt e1 (atI_nat (j := 1) rfl) ⟨b, rfl, ⟨_, SqT.of eb⟩, fun D nD => ?_⟩)))⟩
      have hL := syTs_len f0_ok l 3 o2
      rw [sb3] at hL
      have hj := jn_len (tx " ") (syTs f0 l)
      have hpl : (syTs f0 l).length = (l).length := by rw [syTs_map, List.length_map]
      have h4 : (l).length * 430 ≤ 5 * 430 := Nat.mul_le_mul_right _ o1
      obtain ⟨t4, t5, t6, _⟩ := t1
      rw [t4, hpl] at hj
      have l1 : ("(pattern " : Str).length = 9 := by decide +kernel
      have l2 : (")" : Str).length = 1 := by decide +kernel
      have hle : (S (jn (tx " ") (syTs f0 l))).length = (jn (tx " ") (syTs f0 l)).length := len_S _
      have hyl := gb.len
      rw [List.length_map] at hyl
      refine lc_tupK (xs := bs) (fun i H' => Same H H' ∧ H' D = some (.lst ((((syTs f0 l).take i).map S).map V.str))) (fun i H' h => SqT.of (h.1 _ _ eb)) ⟨same_upd nD, upd_same⟩ ?_ ?_
      · rintro i y H' hy ⟨sm, hD⟩
        obtain ⟨z, hzz, dz⟩ := gb.get_map hy
        have hmm := List.mem_of_getElem? hzz
        have hi := (List.getElem?_eq_some_iff.mp hzz).1
        refine ⟨rfl, ?_⟩
        unfold tYes
        refine iteT ⟨_, rfl, y, z, 3, rfl, dz.tk (same_tk sm), syOks_mem o2 hmm, by omega, by omega, fun H3 s3 => ?_⟩
        refine ⟨_, s3 _ _ hD, by rw [List.length_map, List.length_map, List.length_take]; omega, fun b2 o2 q2 => ?_, ?_⟩
        · rw [upd_ne (ne_of_none q2 nD)]
          exact s3 _ _ (sm _ _ q2)
        · rw [upd_same, List.take_add_one, syTs_map, List.getElem?_map, hzz, List.map_append, List.map_append]
          rfl
      · rintro H' ⟨sm, hD⟩
        rw [hyl, ← hpl, List.take_length] at hD
        refine ⟨_, D, (syTs f0 l).map S, rfl, rfl, .inl (SqL.of hD), ?_, ?_⟩
        · rw [sum_S, show ((" " : Str)).length = 1 from by decide +kernel, List.length_map]
          omega
        · rw [join_jn]
          refine ⟨_, _, rfl, rfl, by rw [l1]; show 9 + (S (jn (tx " ") (syTs f0 l))).length ≤ _; rw [hle]; omega, _, _, rfl, rfl, by rw [Str.length_append, l1, l2]; show 9 + (S (jn (tx " ") (syTs f0 l))).length + 1 ≤ _; rw [hle]; omega, ?_⟩
          have q0 := q' H' sm
          simp only [lfT, inP] at q0
          have hS := wrap "(pattern " ")" (jn (tx " ") (syTs f0 l))
          rw [show tx "(pattern " = tx "(" ++ (tx "pattern" ++ tx " ") from by decide +kernel] at hS
          simp only [List.append_assoc] at hS
          rw [← hS] at q0
          exact q0
  | doo l =>
    simp only [tmD, tmDs_map] at hv
    obtain ⟨c, xs, rfl, e, g⟩ := tm_at hv
    obtain ⟨x1, xs, rfl, g1, g⟩ := g.consE
    cases g
    refine ⟨_, rfl, tc (ixt e (atI_nat (j := 0) rfl) ?_)⟩
    dsimp only [gName]
    refine ifk_no ⟨_, rfl, rfl, rfl⟩ (show ¬ (("do" : Str) = "const") by decide +kernel) ?_
    refine ifk_no ⟨_, rfl, rfl, rfl⟩ (show ¬ (("do" : Str) = "syntax") by decide +kernel) ?_
    refine ifk_no ⟨_, rfl, rfl, rfl⟩ (show ¬ (("do" : Str) = "rules") by decide +kernel) ?_
    refine ifk_no ⟨_, rfl, rfl, rfl⟩ (show ¬ (("do" : Str) = "pattern") by decide +kernel) ?_
    refine ifk_no ⟨_, rfl, rfl, rfl⟩ (show ¬ (("do" : Str) = "template") by decide +kernel) ?_
    refine ifk_no ⟨_, rfl, rfl, rfl⟩ (show ¬ (("do" : Str) = "local") by decide +kernel) ?_
    refine ifk_no ⟨_, rfl, rfl, rfl⟩ (show ¬ (("do" : Str) = "top") by decide +kernel) ?_
    refine ifk_no ⟨_, rfl, rfl, rfl⟩ (show ¬ (("do" : Str) = "prim") by decide +kernel) ?_
    refine ifk_no ⟨_, rfl, rfl, rfl⟩ (show ¬ (("do" : Str) = "fn") by decide +kernel) ?_
    refine ifk_no ⟨_, rfl, rfl, rfl⟩ (show ¬ (("do" : Str) = "rec") by decide +kernel) ?_
    obtain ⟨b, bs, rfl, eb, gb⟩ := g1.tupE
    cases d with
    | zero => simp [tmOk] at ok
    | succ d =>
    simp only [tmOk] at ok
    simp only [ws] at hw
    simp only [od] at q hlen'
    obtain ⟨hl0, hl3, okl⟩ := ok
    refine ⟨_, rfl, _, rfl, ?_⟩
    dsimp only [tNoPart]
    refine sl_from e fun r nr => ?_
    have s1 := same_upd (o := .tup [.ref b]) nr
    generalize L2.upd H r (.tup [.ref b]) = H1 at s1 ⊢
    dsimp only [gName]
    refine ifk_yes ⟨_, rfl, rfl, rfl⟩ ?_
    refine ⟨_, rfl, tc (ixt (s1 _ _ e) (atI_nat (j := 1) rfl) ?_)⟩
    dsimp only [gName]
    refine ifk_no ⟨_, rfl, rfl, rfl⟩ (show ¬ (("do" : Str) = "call") by decide +kernel) ?_
    have hp1 := s1 _ _ hp
    have dx := gb.tk (same_tk s1)
    have hpa := s1 _ _ eb
    refine ⟨rfl, ?_⟩
    refine ⟨_, rfl, by show 1 ≤ sizeLine; decide, fun L0 nL0 => ?_⟩
    have s2 := same_upd (o := .lst [.str "do"]) nL0
    have eL0 := upd_same (H := H1) (a := L0) (o := .lst [.str "do"])
    generalize L2.upd H1 L0 (.lst [.str "do"]) = H2 at s2 eL0 ⊢
    have hp2 := s2 _ _ hp1
    have dx2 := dx.tk (same_tk s2)
    have hpa2 := s2 _ _ hpa
    have hxl := dx2.len
    rw [List.length_map] at hxl
    have hpap : b ≠ p := ne_of hpa2 hp2 (fun z => nomatch z)
    have hL0p : L0 ≠ p := ne_of_none2 eL0 nL0 hp1
    refine ⟨_, rfl, b, rfl, ⟨_, SqT.of hpa2⟩, fun D nD => ?_⟩
    refine lc_tupK (xs := bs) (PvT p D H2 l o) (fun i H' h => SqT.of (h.1 _ _ hpa2 hpap)) (PvT.start nD hp2) ?_ ?_
    · rintro i y H' hy hP
      obtain ⟨z, hzz, dz⟩ := dx2.get_map hy
      have hmm := List.mem_of_getElem? hzz
      refine ⟨rfl, ?_⟩
      unfold tYes
      refine iteT ⟨_, rfl, _, rfl, ?_⟩
      exact lt_step (E := E0) nD hp2 hP hzz dz (tmOks_mem okl hmm) (by omega) (by omega) (wss_mem hw hmm) hlen' (by omega)
    · rintro H' ⟨kp, hpo, hD⟩
      have hlt := tmTs_len l o
      rw [hxl, ← hlt, List.take_length] at hD
      rw [hxl, List.take_length] at hpo
      have hsum := tmTs_sum l d o okl hw hlen'
      have h4 : l.length * LB d ≤ 3 * LB d := Nat.mul_le_mul_right _ hl3
      simp only [tmT, LB, List.length_append] at htl
      simp only [LB] at hlb
      have hkl : (tx "do").length ≤ 5 := by decide +kernel
      have hL0' := kp _ _ eL0 hL0p
      refine ⟨L0, D, _, _, rfl, rfl, hL0', hD, by rw [List.length_map, List.length_map, hlt, sizeLine_eq]; simp only [List.length_cons, List.length_nil]; omega, fun J nJ => ?_⟩
      have s3 := same_upd (o := .lst ([.str "do"] ++ ((tmTs l o).map S).map V.str)) nJ
      have eJ := upd_same (H := H') (a := J) (o := .lst ([.str "do"] ++ ((tmTs l o).map S).map V.str))
      generalize L2.upd H' J (.lst ([.str "do"] ++ ((tmTs l o).map S).map V.str)) = H3 at s3 eJ ⊢
      have hle : (S (jn (tx " ") (tx "do" :: tmTs l o))).length = (jn (tx " ") (tx "do" :: tmTs l o)).length := len_S _
      have l1 : ("(" : Str).length = 1 := by decide +kernel
      have l2 : (")" : Str).length = 1 := by decide +kernel
      refine ⟨_, J, (tx "do" :: tmTs l o).map S, rfl, rfl, .inl (SqL.of eJ), ?_, ?_⟩
      · rw [sum_S, show ((" " : Str)).length = 1 from by decide +kernel, List.length_map, List.map_cons, List.sum_cons, List.length_cons, hlt]
        omega
      · rw [join_jn]
        have hle' : (S (jn (tx (" " : Str)) (tx "do" :: tmTs l o))).length ≤ 12000000 := by
          rw [hle]
          omega
        refine ⟨_, _, rfl, rfl, by rw [l1]; exact Nat.le_trans (Nat.add_le_add_left hle' 1) (by rw [sizeLine_eq]; decide), _, _, rfl, rfl, by rw [Str.length_append, l1, l2]; exact Nat.le_trans (Nat.add_le_add_right (Nat.add_le_add_left hle' 1) 1) (by rw [sizeLine_eq]; decide), ?_⟩
        have q0 := q H3 (fun b2 o2 q2 hb => s3 _ _ (kp _ _ (s2 _ _ (s1 _ _ q2)) hb)) (s3 _ _ hpo)
        simp only [tmT] at q0
        have hS := wrap "(" ")" (jn (tx " ") (tx "do" :: tmTs l o))
        rw [← hS] at q0
        exact q0
  | sq k l =>
    simp only [tmD, tmDs_map] at hv
    obtain ⟨c, xs, rfl, e, g⟩ := tm_at hv
    cases d with
    | zero => simp [tmOk] at ok
    | succ d =>
    simp only [tmOk] at ok
    simp only [ws] at hw
    simp only [od] at q hlen'
    obtain ⟨hk, hl0, hl3, okl⟩ := ok
    rcases hk with rfl | rfl
    · refine ⟨_, rfl, tc (ixt e (atI_nat (j := 0) rfl) ?_)⟩
      dsimp only [gName]
      refine ifk_no ⟨_, rfl, rfl, rfl⟩ (show ¬ (("if" : Str) = "const") by decide +kernel) ?_
      refine ifk_no ⟨_, rfl, rfl, rfl⟩ (show ¬ (("if" : Str) = "syntax") by decide +kernel) ?_
      refine ifk_no ⟨_, rfl, rfl, rfl⟩ (show ¬ (("if" : Str) = "rules") by decide +kernel) ?_
      refine ifk_no ⟨_, rfl, rfl, rfl⟩ (show ¬ (("if" : Str) = "pattern") by decide +kernel) ?_
      refine ifk_no ⟨_, rfl, rfl, rfl⟩ (show ¬ (("if" : Str) = "template") by decide +kernel) ?_
      refine ifk_no ⟨_, rfl, rfl, rfl⟩ (show ¬ (("if" : Str) = "local") by decide +kernel) ?_
      refine ifk_no ⟨_, rfl, rfl, rfl⟩ (show ¬ (("if" : Str) = "top") by decide +kernel) ?_
      refine ifk_no ⟨_, rfl, rfl, rfl⟩ (show ¬ (("if" : Str) = "prim") by decide +kernel) ?_
      refine ifk_no ⟨_, rfl, rfl, rfl⟩ (show ¬ (("if" : Str) = "fn") by decide +kernel) ?_
      refine ifk_no ⟨_, rfl, rfl, rfl⟩ (show ¬ (("if" : Str) = "rec") by decide +kernel) ?_
      refine ⟨_, rfl, _, rfl, ?_⟩
      dsimp only [tNoPart]
      refine sl_from e fun pa npa => ?_
      have s1 := same_upd (o := .tup xs) npa
      have hpa := upd_same (H := H) (a := pa) (o := .tup xs)
      generalize L2.upd H pa (.tup xs) = H1 at s1 hpa ⊢
      dsimp only [gName]
      refine ifk_no ⟨_, rfl, rfl, rfl⟩ (show ¬ (("if" : Str) = "do") by decide +kernel) ?_
      refine ifk_no ⟨_, rfl, rfl, rfl⟩ (show ¬ (("if" : Str) = "call") by decide +kernel) ?_
      have hp1 := s1 _ _ hp
      have dx := g.tk (same_tk s1)
      refine ⟨rfl, ?_⟩
      refine ⟨_, rfl, by show 1 ≤ sizeLine; decide, fun L0 nL0 => ?_⟩
      have s2 := same_upd (o := .lst [.str "if"]) nL0
      have eL0 := upd_same (H := H1) (a := L0) (o := .lst [.str "if"])
      generalize L2.upd H1 L0 (.lst [.str "if"]) = H2 at s2 eL0 ⊢
      have hp2 := s2 _ _ hp1
      have dx2 := dx.tk (same_tk s2)
      have hpa2 := s2 _ _ hpa
      have hxl := dx2.len
      rw [List.length_map] at hxl
      have hpap : pa ≠ p := ne_of hpa2 hp2 (fun z => nomatch z)
      have hL0p : L0 ≠ p := ne_of_none2 eL0 nL0 hp1
      refine ⟨_, rfl, pa, rfl, ⟨_, SqT.of hpa2⟩, fun D nD => ?_⟩
      refine lc_tupK (xs := xs) (PvT p D H2 l o) (fun i H' h => SqT.of (h.1 _ _ hpa2 hpap)) (PvT.start nD hp2) ?_ ?_
      · rintro i y H' hy hP
        obtain ⟨z, hzz, dz⟩ := dx2.get_map hy
        have hmm := List.mem_of_getElem? hzz
        refine ⟨rfl, ?_⟩
        unfold tYes
        refine iteT ⟨_, rfl, _, rfl, ?_⟩
        exact lt_step (E := E0) nD hp2 hP hzz dz (tmOks_mem okl hmm) (by omega) (by omega) (wss_mem hw hmm) hlen' (by omega)
      · rintro H' ⟨kp, hpo, hD⟩
        have hlt := tmTs_len l o
        rw [hxl, ← hlt, List.take_length] at hD
        rw [hxl, List.take_length] at hpo
        have hsum := tmTs_sum l d o okl hw hlen'
        have h4 : l.length * LB d ≤ 3 * LB d := Nat.mul_le_mul_right _ hl3
        simp only [tmT, LB, List.length_append] at htl
        simp only [LB] at hlb
        have hkl : (tx "if").length ≤ 5 := by decide +kernel
        have hL0' := kp _ _ eL0 hL0p
        refine ⟨L0, D, _, _, rfl, rfl, hL0', hD, by rw [List.length_map, List.length_map, hlt, sizeLine_eq]; simp only [List.length_cons, List.length_nil]; omega, fun J nJ => ?_⟩
        have s3 := same_upd (o := .lst ([.str "if"] ++ ((tmTs l o).map S).map V.str)) nJ
        have eJ := upd_same (H := H') (a := J) (o := .lst ([.str "if"] ++ ((tmTs l o).map S).map V.str))
        generalize L2.upd H' J (.lst ([.str "if"] ++ ((tmTs l o).map S).map V.str)) = H3 at s3 eJ ⊢
        have hle : (S (jn (tx " ") (tx "if" :: tmTs l o))).length = (jn (tx " ") (tx "if" :: tmTs l o)).length := len_S _
        have l1 : ("(" : Str).length = 1 := by decide +kernel
        have l2 : (")" : Str).length = 1 := by decide +kernel
        refine ⟨_, J, (tx "if" :: tmTs l o).map S, rfl, rfl, .inl (SqL.of eJ), ?_, ?_⟩
        · rw [sum_S, show ((" " : Str)).length = 1 from by decide +kernel, List.length_map, List.map_cons, List.sum_cons, List.length_cons, hlt]
          omega
        · rw [join_jn]
          have hle' : (S (jn (tx (" " : Str)) (tx "if" :: tmTs l o))).length ≤ 12000000 := by
            rw [hle]
            omega
          refine ⟨_, _, rfl, rfl, by rw [l1]; exact Nat.le_trans (Nat.add_le_add_left hle' 1) (by rw [sizeLine_eq]; decide), _, _, rfl, rfl, by rw [Str.length_append, l1, l2]; exact Nat.le_trans (Nat.add_le_add_right (Nat.add_le_add_left hle' 1) 1) (by rw [sizeLine_eq]; decide), ?_⟩
          have q0 := q H3 (fun b2 o2 q2 hb => s3 _ _ (kp _ _ (s2 _ _ (s1 _ _ q2)) hb)) (s3 _ _ hpo)
          simp only [tmT] at q0
          have hS := wrap "(" ")" (jn (tx " ") (tx "if" :: tmTs l o))
          rw [← hS] at q0
          exact q0
    · refine ⟨_, rfl, tc (ixt e (atI_nat (j := 0) rfl) ?_)⟩
      dsimp only [gName]
      refine ifk_no ⟨_, rfl, rfl, rfl⟩ (show ¬ (("set" : Str) = "const") by decide +kernel) ?_
      refine ifk_no ⟨_, rfl, rfl, rfl⟩ (show ¬ (("set" : Str) = "syntax") by decide +kernel) ?_
      refine ifk_no ⟨_, rfl, rfl, rfl⟩ (show ¬ (("set" : Str) = "rules") by decide +kernel) ?_
      refine ifk_no ⟨_, rfl, rfl, rfl⟩ (show ¬ (("set" : Str) = "pattern") by decide +kernel) ?_
      refine ifk_no ⟨_, rfl, rfl, rfl⟩ (show ¬ (("set" : Str) = "template") by decide +kernel) ?_
      refine ifk_no ⟨_, rfl, rfl, rfl⟩ (show ¬ (("set" : Str) = "local") by decide +kernel) ?_
      refine ifk_no ⟨_, rfl, rfl, rfl⟩ (show ¬ (("set" : Str) = "top") by decide +kernel) ?_
      refine ifk_no ⟨_, rfl, rfl, rfl⟩ (show ¬ (("set" : Str) = "prim") by decide +kernel) ?_
      refine ifk_no ⟨_, rfl, rfl, rfl⟩ (show ¬ (("set" : Str) = "fn") by decide +kernel) ?_
      refine ifk_no ⟨_, rfl, rfl, rfl⟩ (show ¬ (("set" : Str) = "rec") by decide +kernel) ?_
      refine ⟨_, rfl, _, rfl, ?_⟩
      dsimp only [tNoPart]
      refine sl_from e fun pa npa => ?_
      have s1 := same_upd (o := .tup xs) npa
      have hpa := upd_same (H := H) (a := pa) (o := .tup xs)
      generalize L2.upd H pa (.tup xs) = H1 at s1 hpa ⊢
      dsimp only [gName]
      refine ifk_no ⟨_, rfl, rfl, rfl⟩ (show ¬ (("set" : Str) = "do") by decide +kernel) ?_
      refine ifk_no ⟨_, rfl, rfl, rfl⟩ (show ¬ (("set" : Str) = "call") by decide +kernel) ?_
      have hp1 := s1 _ _ hp
      have dx := g.tk (same_tk s1)
      refine ⟨rfl, ?_⟩
      refine ⟨_, rfl, by show 1 ≤ sizeLine; decide, fun L0 nL0 => ?_⟩
      have s2 := same_upd (o := .lst [.str "set"]) nL0
      have eL0 := upd_same (H := H1) (a := L0) (o := .lst [.str "set"])
      generalize L2.upd H1 L0 (.lst [.str "set"]) = H2 at s2 eL0 ⊢
      have hp2 := s2 _ _ hp1
      have dx2 := dx.tk (same_tk s2)
      have hpa2 := s2 _ _ hpa
      have hxl := dx2.len
      rw [List.length_map] at hxl
      have hpap : pa ≠ p := ne_of hpa2 hp2 (fun z => nomatch z)
      have hL0p : L0 ≠ p := ne_of_none2 eL0 nL0 hp1
      refine ⟨_, rfl, pa, rfl, ⟨_, SqT.of hpa2⟩, fun D nD => ?_⟩
      refine lc_tupK (xs := xs) (PvT p D H2 l o) (fun i H' h => SqT.of (h.1 _ _ hpa2 hpap)) (PvT.start nD hp2) ?_ ?_
      · rintro i y H' hy hP
        obtain ⟨z, hzz, dz⟩ := dx2.get_map hy
        have hmm := List.mem_of_getElem? hzz
        refine ⟨rfl, ?_⟩
        unfold tYes
        refine iteT ⟨_, rfl, _, rfl, ?_⟩
        exact lt_step (E := E0) nD hp2 hP hzz dz (tmOks_mem okl hmm) (by omega) (by omega) (wss_mem hw hmm) hlen' (by omega)
      · rintro H' ⟨kp, hpo, hD⟩
        have hlt := tmTs_len l o
        rw [hxl, ← hlt, List.take_length] at hD
        rw [hxl, List.take_length] at hpo
        have hsum := tmTs_sum l d o okl hw hlen'
        have h4 : l.length * LB d ≤ 3 * LB d := Nat.mul_le_mul_right _ hl3
        simp only [tmT, LB, List.length_append] at htl
        simp only [LB] at hlb
        have hkl : (tx "set").length ≤ 5 := by decide +kernel
        have hL0' := kp _ _ eL0 hL0p
        refine ⟨L0, D, _, _, rfl, rfl, hL0', hD, by rw [List.length_map, List.length_map, hlt, sizeLine_eq]; simp only [List.length_cons, List.length_nil]; omega, fun J nJ => ?_⟩
        have s3 := same_upd (o := .lst ([.str "set"] ++ ((tmTs l o).map S).map V.str)) nJ
        have eJ := upd_same (H := H') (a := J) (o := .lst ([.str "set"] ++ ((tmTs l o).map S).map V.str))
        generalize L2.upd H' J (.lst ([.str "set"] ++ ((tmTs l o).map S).map V.str)) = H3 at s3 eJ ⊢
        have hle : (S (jn (tx " ") (tx "set" :: tmTs l o))).length = (jn (tx " ") (tx "set" :: tmTs l o)).length := len_S _
        have l1 : ("(" : Str).length = 1 := by decide +kernel
        have l2 : (")" : Str).length = 1 := by decide +kernel
        refine ⟨_, J, (tx "set" :: tmTs l o).map S, rfl, rfl, .inl (SqL.of eJ), ?_, ?_⟩
        · rw [sum_S, show ((" " : Str)).length = 1 from by decide +kernel, List.length_map, List.map_cons, List.sum_cons, List.length_cons, hlt]
          omega
        · rw [join_jn]
          have hle' : (S (jn (tx (" " : Str)) (tx "set" :: tmTs l o))).length ≤ 12000000 := by
            rw [hle]
            omega
          refine ⟨_, _, rfl, rfl, by rw [l1]; exact Nat.le_trans (Nat.add_le_add_left hle' 1) (by rw [sizeLine_eq]; decide), _, _, rfl, rfl, by rw [Str.length_append, l1, l2]; exact Nat.le_trans (Nat.add_le_add_right (Nat.add_le_add_left hle' 1) 1) (by rw [sizeLine_eq]; decide), ?_⟩
          have q0 := q H3 (fun b2 o2 q2 hb => s3 _ _ (kp _ _ (s2 _ _ (s1 _ _ q2)) hb)) (s3 _ _ hpo)
          simp only [tmT] at q0
          have hS := wrap "(" ")" (jn (tx " ") (tx "set" :: tmTs l o))
          rw [← hS] at q0
          exact q0
  | call f l wm wp =>
    simp only [tmD, tmDs_map] at hv
    obtain ⟨c, xs, rfl, e, g⟩ := tm_at hv
    obtain ⟨x1, xs, rfl, g1, g⟩ := g.consE
    obtain ⟨x2, xs, rfl, g2, g⟩ := g.consE
    obtain ⟨x3, xs, rfl, g3, g⟩ := g.consE
    cases g
    refine ⟨_, rfl, tc (ixt e (atI_nat (j := 0) rfl) ?_)⟩
    dsimp only [gName]
    refine ifk_no ⟨_, rfl, rfl, rfl⟩ (show ¬ (("call" : Str) = "const") by decide +kernel) ?_
    refine ifk_no ⟨_, rfl, rfl, rfl⟩ (show ¬ (("call" : Str) = "syntax") by decide +kernel) ?_
    refine ifk_no ⟨_, rfl, rfl, rfl⟩ (show ¬ (("call" : Str) = "rules") by decide +kernel) ?_
    refine ifk_no ⟨_, rfl, rfl, rfl⟩ (show ¬ (("call" : Str) = "pattern") by decide +kernel) ?_
    refine ifk_no ⟨_, rfl, rfl, rfl⟩ (show ¬ (("call" : Str) = "template") by decide +kernel) ?_
    refine ifk_no ⟨_, rfl, rfl, rfl⟩ (show ¬ (("call" : Str) = "local") by decide +kernel) ?_
    refine ifk_no ⟨_, rfl, rfl, rfl⟩ (show ¬ (("call" : Str) = "top") by decide +kernel) ?_
    refine ifk_no ⟨_, rfl, rfl, rfl⟩ (show ¬ (("call" : Str) = "prim") by decide +kernel) ?_
    refine ifk_no ⟨_, rfl, rfl, rfl⟩ (show ¬ (("call" : Str) = "fn") by decide +kernel) ?_
    refine ifk_no ⟨_, rfl, rfl, rfl⟩ (show ¬ (("call" : Str) = "rec") by decide +kernel) ?_
    obtain ⟨pp, ps, rfl, ep, gp⟩ := g2.tupE
    have hpl := gp.len
    rw [List.length_map] at hpl
    cases d with
    | zero => simp [tmOk] at ok
    | succ d =>
    simp only [tmOk] at ok
    simp only [ws] at hw
    simp only [od] at q hlen'
    obtain ⟨hl3, okf, okl⟩ := ok
    refine ⟨_, rfl, _, rfl, ?_⟩
    dsimp only [tNoPart]
    refine sl_from e fun pa npa => ?_
    have s0 := same_upd (o := .tup [x1, .ref pp, x3]) npa
    generalize L2.upd H pa (.tup [x1, .ref pp, x3]) = H0 at s0 ⊢
    dsimp only [gName]
    refine ifk_no ⟨_, rfl, rfl, rfl⟩ (show ¬ (("call" : Str) = "do") by decide +kernel) ?_
    refine ifk_yes ⟨_, rfl, rfl, rfl⟩ ?_
    refine ⟨rfl, ?_⟩
    refine ⟨_, rfl, tc (ixt (s0 _ _ e) (atI_nat (j := 1) rfl) ?_)⟩
    refine ⟨by show 1 ≤ sizeLine; decide, fun u nu => ?_⟩
    have su := same_upd (o := .tup [x1]) nu
    have eu := upd_same (H := H0) (a := u) (o := .tup [x1])
    generalize L2.upd H0 u (.tup [x1]) = H1 at su eu ⊢
    have s01 := same_trans s0 su
    refine ⟨_, rfl, tc (ixt (s01 _ _ e) (atI_nat (j := 2) rfl) ?_)⟩
    refine catT_sq eu (s01 _ _ ep) (by simp) (by simp only [List.length_cons, List.length_nil]; omega) fun pb H2 s12 epb => ?_
    have s02 := same_trans s01 s12
    have hp2 := s02 _ _ hp
    have dx2 : DtAll H2 ([x1] ++ ps) ((f :: l).map tmD) := .cons (g1.tk (same_tk s02)) (gp.tk (same_tk s02))
    have hxl := dx2.len
    rw [List.length_map] at hxl
    have hpap : pb ≠ p := ne_of epb hp2 (fun z => nomatch z)
    have hlen2 : o.length + (ods (f :: l)).length < 50000 := by simp only [ods]; exact hlen'
    have okl2 : tmOks d (f :: l) := by simp only [tmOks]; exact ⟨okf, okl⟩
    have hw2 : wss (f :: l) o := by simp only [wss]; exact hw
    have hl4 : (f :: l).length ≤ 4 := by rw [List.length_cons]; omega
    refine ⟨pb, rfl, ⟨_, SqT.of epb⟩, fun D nD => ?_⟩
    refine lc_tupK (xs := [x1] ++ ps) (PvT p D H2 (f :: l) o) (fun i H' h => SqT.of (h.1 _ _ epb hpap)) (PvT.start nD hp2) ?_ ?_
    · rintro i y H' hy hP
      obtain ⟨z, hzz, dz⟩ := dx2.get_map hy
      have hmm := List.mem_of_getElem? hzz
      refine ⟨rfl, ?_⟩
      unfold tYes
      refine iteT ⟨_, rfl, _, rfl, ?_⟩
      exact lt_step (E := E0) nD hp2 hP hzz dz (tmOks_mem okl2 hmm) (by omega) (by omega) (wss_mem hw2 hmm) hlen2 (by omega)
    · rintro H' ⟨kp, hpo, hD⟩
      have hlt := tmTs_len (f :: l) o
      rw [hxl, ← hlt, List.take_length] at hD
      rw [hxl, List.take_length] at hpo
      have hsum := tmTs_sum (f :: l) d o okl2 hw2 hlen2
      have h4 : (f :: l).length * LB d ≤ 4 * LB d := Nat.mul_le_mul_right _ hl4
      have ht : tmT (.call f l wm wp) o = tx "(" ++ (jn (tx " ") (tmTs (f :: l) o) ++ tx ")") := by simp only [tmT, tmTs]
      rw [ht] at htl q
      simp only [LB, List.length_append] at htl
      simp only [LB] at hlb
      have hle : (S (jn (tx " ") (tmTs (f :: l) o))).length = (jn (tx " ") (tmTs (f :: l) o)).length := len_S _
      have l1 : ("(" : Str).length = 1 := by decide +kernel
      have l2 : (")" : Str).length = 1 := by decide +kernel
      refine ⟨_, D, (tmTs (f :: l) o).map S, rfl, rfl, .inl (SqL.of hD), ?_, ?_⟩
      · rw [sum_S, show ((" " : Str)).length = 1 from by decide +kernel, List.length_map, hlt]
        omega
      · rw [join_jn]
        have hle' : (S (jn (tx (" " : Str)) (tmTs (f :: l) o))).length ≤ 12000000 := by
          rw [hle]
          omega
        refine ⟨_, _, rfl, rfl, by rw [l1]; exact Nat.le_trans (Nat.add_le_add_left hle' 1) (by rw [sizeLine_eq]; decide), _, _, rfl, rfl, by rw [Str.length_append, l1, l2]; exact Nat.le_trans (Nat.add_le_add_right (Nat.add_le_add_left hle' 1) 1) (by rw [sizeLine_eq]; decide), ?_⟩
        have q0 := q H' (fun b2 o2 q2 hb => kp _ _ (s02 _ _ q2) hb) (by simp only [ods] at hpo; exact hpo)
        have hS := wrap "(" ")" (jn (tx " ") (tmTs (f :: l) o))
        rw [← hS] at q0
        exact q0
  | lrec ns ts b =>
    simp only [tmD] at hv
    obtain ⟨c, xs, rfl, e, g⟩ := tm_at hv
    obtain ⟨x1, xs, rfl, g1, g⟩ := g.consE
    obtain ⟨x2, xs, rfl, g2, g⟩ := g.consE
    cases g
    refine ⟨_, rfl, tc (ixt e (atI_nat (j := 0) rfl) ?_)⟩
    dsimp only [gName]
    refine ifk_no ⟨_, rfl, rfl, rfl⟩ (show ¬ (("rec" : Str) = "const") by decide +kernel) ?_
    refine ifk_no ⟨_, rfl, rfl, rfl⟩ (show ¬ (("rec" : Str) = "syntax") by decide +kernel) ?_
    refine ifk_no ⟨_, rfl, rfl, rfl⟩ (show ¬ (("rec" : Str) = "rules") by decide +kernel) ?_
    refine ifk_no ⟨_, rfl, rfl, rfl⟩ (show ¬ (("rec" : Str) = "pattern") by decide +kernel) ?_
    refine ifk_no ⟨_, rfl, rfl, rfl⟩ (show ¬ (("rec" : Str) = "template") by decide +kernel) ?_
    refine ifk_no ⟨_, rfl, rfl, rfl⟩ (show ¬ (("rec" : Str) = "local") by decide +kernel) ?_
    refine ifk_no ⟨_, rfl, rfl, rfl⟩ (show ¬ (("rec" : Str) = "top") by decide +kernel) ?_
    refine ifk_no ⟨_, rfl, rfl, rfl⟩ (show ¬ (("rec" : Str) = "prim") by decide +kernel) ?_
    refine ifk_no ⟨_, rfl, rfl, rfl⟩ (show ¬ (("rec" : Str) = "fn") by decide +kernel) ?_
    refine ifk_yes ⟨_, rfl, rfl, rfl⟩ ?_
    obtain ⟨pp, ps, rfl, ep, gp⟩ := g1.tupE
    cases d with
    | zero => simp [tmOk] at ok
    | succ d =>
    simp only [tmOk] at ok
    simp only [ws] at hw
    obtain ⟨hn3, hts, okts, okb⟩ := ok
    obtain ⟨hwt, hwb⟩ := hw
    have hpl := gp.len
    rw [prDs_len hts] at hpl
    simp only [od, List.length_append] at hlen'
    simp only [od] at q
    simp only [tmT, LB, List.length_append] at htl
    simp only [LB] at hlb
    have hcp : c ≠ p := ne_of e hp (fun z => nomatch z)
    have hpp : pp ≠ p := ne_of ep hp (fun z => nomatch z)
    -- words
    refine ⟨_, rfl, tc (ixt e (atI_nat (j := 1) rfl) ?_)⟩
    refine ⟨pp, ps, rfl, .inr (SqT.of ep), (ps.length : Int), rfl, by omega, by omega, fun W nW => ?_⟩
    have hWp : W ≠ p := (ne_of_none hp nW).symm
    refine lc_range (lo := 0) (n := ((ps.length : Nat) : Int).toNat) (fun i H' => Same H H' ∧ H' W = some (.lst ((((vns o.length ns).take i).map S).map V.str))) ⟨same_upd nW, upd_same⟩ ?_ ?_
    · rintro i H' hi ⟨sm, hW⟩
      have hi' : i < ns.length := by rw [← hpl]; simpa using hi
      refine ⟨rfl, ?_⟩
      unfold tYes
      refine iteT ?_
      rw [Int.zero_add]
      have hle : (((o.map V.int).length : Nat) : Int) + (i : Int) = ((o.length + i : Nat) : Int) := by rw [List.length_map]; omega
      have hil : (it ((o.length + i : Nat) : Int)).length ≤ 6 := it_len10 (k := 5) (by decide) (by omega)
      have l1 : ("v" : Str).length = 1 := by decide +kernel
      have l3 : (S (it ((o.length + i : Nat) : Int))).length = (it ((o.length + i : Nat) : Int)).length := len_S _
      refine ⟨_, rfl, p, _, rfl, .inl (SqL.of (sm _ _ hp)), _, rfl, _, _, rfl, rfl, ?_⟩
      dsimp only
      rw [hle]
      refine ⟨_, rfl, log_small (by omega), _, _, rfl, rfl, by rw [S_it, l1]; omega, ?_⟩
      rw [S_it, lit_app "v" _]
      refine ⟨_, hW, by rw [List.length_map, List.length_map, List.length_take, sizeLine_eq]; omega, fun b2 o2 q2 => ?_, ?_⟩
      · rw [upd_ne (ne_of_none q2 nW)]
        exact sm _ _ q2
      · rw [upd_same, List.take_add_one, List.map_append, List.map_append]
        have : (vns o.length ns)[i]? = some (vn (o.length + i)) := by
          unfold vns
          rw [List.getElem?_map, List.getElem?_range hi']
          rfl
        rw [this]
        rfl
    · rintro H1 ⟨s1, hW1⟩
      rw [show ((ps.length : Nat) : Int).toNat = ns.length from by rw [hpl]; rfl, ← vns_len o.length ns, List.take_length] at hW1
      have hp1 := s1 _ _ hp
      dsimp only [gName]
      refine ⟨_, rfl, tc (ixt (s1 _ _ e) (atI_nat (j := 1) rfl) ⟨pp, rfl, ⟨_, SqT.of (s1 _ _ ep)⟩, ?_⟩)⟩
      refine for_tupK (xs := ps) (fun i σ H' => ∃ (y5 y6 : Option V), σ = [some (.ref c), some (.ref p), some (.str "rec"), none, some (.ref W), y5, y6, none, none, none] ∧ Keep p H1 H' ∧ H' p = some (.lst ((o ++ ns.take i).map V.int))) ⟨none, none, rfl, Keep.refl _ _, by rw [List.take_zero, List.append_nil]; exact hp1⟩ (fun i σ H' h => ?_) ?_ ?_
      · obtain ⟨_, _, rfl, kp, _⟩ := h
        exact SqT.of (kp _ _ (s1 _ _ ep) hpp)
      · rintro i x σ H' hx ⟨y5, y6, rfl, kp, hpo⟩
        obtain ⟨dd, hd1, hd2⟩ := gp.get hx
        obtain ⟨n1, t2, hn, ht, rfl⟩ := prDs_get hd1
        have hi := (List.getElem?_eq_some_iff.mp hn).1
        obtain ⟨b2, zs, rfl, ez, gz⟩ := ((hd2.tk (same_tk s1)).tk (kp.tk hp1)).tupE
        obtain ⟨z1, zs, rfl, j1, gz⟩ := gz.consE
        obtain ⟨z2, zs, rfl, j2, gz⟩ := gz.consE
        cases gz
        rw [j1.intE] at ez
        refine ⟨b2, _, rfl, SqT.of ez, rfl, ?_⟩
        dsimp only [gCons, gName, gNil]
        refine ⟨_, _, rfl, _, _, rfl, rfl, ?_⟩
        refine ⟨_, rfl, .inl ⟨rfl, _, SqL.of hpo⟩, _, rfl, p, _, _, rfl, rfl, hpo, by rw [List.length_map, List.length_append, List.length_take]; show _ < 2 ^ 24; omega, ?_⟩
        refine ⟨_, _, rfl, kp.trans Keep.at, ?_⟩
        rw [upd_same, List.take_add_one, hn]
        simp
      · rintro σ H2 ⟨y5, y6, rfl, kp2, hp2⟩
        rw [hpl, List.take_length] at hp2
        have k02 : Keep p H H2 := fun b2 o2 q2 hb => kp2 _ _ (s1 _ _ q2) hb
        have hW2 := kp2 _ _ hW1 hWp
        -- pairs
        refine ⟨_, rfl, W, _, rfl, .inl (SqL.of hW2), ?_⟩
        rw [List.length_map, List.length_map, vns_len]
        refine ⟨(ns.length : Int), rfl, by omega, by omega, fun D nD => ?_⟩
        have hDp : D ≠ p := (ne_of_none hp2 nD).symm
        have hDW : D ≠ W := (ne_of_none hW2 nD).symm
        refine lc_range (lo := 0) (n := ((ns.length : Nat) : Int).toNat) (fun i H' => Keep p H2 H' ∧ H' p = some (.lst (((o ++ ns) ++ ods (ts.take i)).map V.int)) ∧ H' D = some (.lst ((((prTs o.length ts (o ++ ns)).take i).map S).map V.str))) ⟨Keep.same (same_upd nD), by rw [List.take_zero]; simp only [ods, List.append_nil]; exact same_upd nD _ _ hp2, upd_same⟩ ?_ ?_
        · rintro i H' hi ⟨kp3, hp3, hD3⟩
          have hi' : i < ns.length := by simpa using hi
          have hit : i < ts.length := by omega
          have ht : ts[i]? = some ts[i] := List.getElem?_eq_getElem hit
          have hpi : ps[i]? = some (ps[i]'(by omega)) := List.getElem?_eq_getElem (by omega)
          obtain ⟨dd, hd1, hd2⟩ := gp.get hpi
          obtain ⟨n1, t2, hn, ht2, rfl⟩ := prDs_get hd1
          rw [ht] at ht2
          cases ht2
          have k03 : Keep p H H' := k02.trans kp3
          obtain ⟨b2, zs, hb2, ez, gz⟩ := (hd2.tk (k03.tk hp)).tupE
          rw [hb2] at hpi
          obtain ⟨z1, zs, rfl, j1, gz⟩ := gz.consE
          obtain ⟨z2, zs, rfl, j2, gz⟩ := gz.consE
          cases gz
          have hW3 := kp3 _ _ hW2 hWp
          have hwi : (((vns o.length ns).map S).map V.str)[i]? = some (.str (S (vn (o.length + i)))) := by
            rw [List.getElem?_map, List.getElem?_map]
            have : (vns o.length ns)[i]? = some (vn (o.length + i)) := by
              unfold vns
              rw [List.getElem?_map, List.getElem?_range hi']
              rfl
            rw [this]
            rfl
          have htm := List.getElem_mem hit
          have hol := ods_take_le ts (i + 1)
          rw [ods_take ht, List.length_append] at hol
          have hvl := vn_len (k := o.length + i) (by omega)
          have hv1 : (S (vn (o.length + i))).length = (vn (o.length + i)).length := len_S _
          have ok1 := tmOks_mem okts htm
          have ws1 := ws_up (fun n hn => List.mem_append_left (ods (ts.take i)) hn) _ (wss_mem hwt htm)
          have htl1 := tmT_len ts[i] d ((o ++ ns) ++ ods (ts.take i)) ok1 ws1 (by rw [List.length_append, List.length_append]; omega)
          have ht1 : (S (tmT ts[i] ((o ++ ns) ++ ods (ts.take i)))).length = (tmT ts[i] ((o ++ ns) ++ ods (ts.take i))).length := len_S _
          have l1 : ("(" : Str).length = 1 := by decide +kernel
          have l2 : (" " : Str).length = 1 := by decide +kernel
          have l3 : (")" : Str).length = 1 := by decide +kernel
          refine ⟨rfl, ?_⟩
          unfold tYes
          refine iteT ?_
          rw [Int.zero_add]
          refine ⟨_, rfl, _, rfl, W, _, _, _, rfl, rfl, SqL.of hW3, atN hwi, ?_⟩
          refine ⟨_, _, rfl, rfl, by rw [l1, hv1]; omega, _, _, rfl, rfl, by rw [Str.length_append, l1, l2, hv1]; omega, ?_⟩
          refine ⟨_, rfl, tc (ixt (k03 _ _ e hcp) (atI_nat (j := 1) rfl) ⟨_, rfl, ixt (k03 _ _ ep hpp) (atI_nat hpi) (tc (ixt ez (atI_nat (j := 1) rfl) ?_))⟩)⟩
          refine ⟨_, rfl, z2, p, (o ++ ns) ++ ods (ts.take i), ts[i], d, rfl, hp3, j2, ok1, by omega, by omega, ws1, by rw [List.length_append, List.length_append, List.length_append]; omega, fun H4 k4 hp4 => ?_⟩
          refine ⟨_, _, rfl, rfl, by rw [Str.length_append, Str.length_append, l1, l2, hv1, ht1]; omega, _, _, rfl, rfl, by rw [Str.length_append, Str.length_append, Str.length_append, l1, l2, l3, hv1, ht1]; omega, ?_⟩
          have hD4 := k4 _ _ hD3 hDp
          refine ⟨_, hD4, by rw [List.length_map, List.length_map, List.length_take, prTs_len, sizeLine_eq]; omega, fun b3 o3 q3 hb => ?_, ?_, ?_⟩
          · rw [upd_ne (ne_of_none q3 nD)]
            exact k4 _ _ (kp3 _ _ q3 hb) hb
          · rw [upd_ne hDp.symm, hp4, ods_take ht, ← List.append_assoc]
          · rw [upd_same, List.take_add_one, prTs_get ht, cat3]
            simp
        · rintro H3 ⟨kp3, hp3, hD3⟩
          rw [show ((ns.length : Nat) : Int).toNat = ts.length from by rw [hts]; rfl] at hp3 hD3
          rw [List.take_length] at hp3
          rw [← prTs_len o.length ts (o ++ ns), List.take_length] at hD3
          have k03 : Keep p H H3 := k02.trans kp3
          have hsum := prTs_sum ts d o.length (o ++ ns) okts hwt (by rw [List.length_append]; omega) (by omega)
          have h4 : ts.length * (LB d + 20) ≤ 3 * (LB d + 20) := Nat.mul_le_mul_right _ (by omega)
          dsimp only [gName]
          refine ⟨rfl, _, rfl, _, D, (prTs o.length ts (o ++ ns)).map S, rfl, rfl, .inl (SqL.of hD3), by rw [sum_S, show ((" " : Str)).length = 1 from by decide +kernel, List.length_map, prTs_len]; omega, ?_⟩
          rw [join_jn]
          have l1 : ("(letrec (" : Str).length = 9 := by decide +kernel
          have l2 : (") " : Str).length = 2 := by decide +kernel
          have l3 : (")" : Str).length = 1 := by decide +kernel
          have t1' : (tx "(letrec (").length = 9 := by decide +kernel
          have t2' : (tx ") ").length = 2 := by decide +kernel
          have t3' : (tx ")").length = 1 := by decide +kernel
          rw [t1', t2', t3', show o ++ (ns ++ ods ts) = (o ++ ns) ++ ods ts from (List.append_assoc _ _ _).symm] at htl
          have hle : (S (jn (tx " ") (prTs o.length ts (o ++ ns)))).length = (jn (tx " ") (prTs o.length ts (o ++ ns))).length := len_S _
          refine ⟨_, _, rfl, rfl, by rw [l1]; show 9 + (S (jn (tx " ") (prTs o.length ts (o ++ ns)))).length ≤ _; rw [hle]; omega, _, _, rfl, rfl, by rw [Str.length_append, l1, l2]; show 9 + (S (jn (tx " ") (prTs o.length ts (o ++ ns)))).length + 2 ≤ _; rw [hle]; omega, ?_⟩
          refine ⟨_, rfl, tc (ixt (k03 _ _ e hcp) (atI_nat (j := 2) rfl) ?_)⟩
          refine ⟨_, rfl, x2, p, (o ++ ns) ++ ods ts, b, d, rfl, hp3, g2.tk (k03.tk hp), okb, by omega, by omega, ws_up (fun n hn => List.mem_append_left (ods ts) hn) _ hwb, by rw [List.length_append, List.length_append, List.length_append]; omega, fun H4 k4 hp4 => ?_⟩
          have hle2 : (S (tmT b ((o ++ ns) ++ ods ts))).length = (tmT b ((o ++ ns) ++ ods ts)).length := len_S _
          refine ⟨_, _, rfl, rfl, by rw [Str.length_append, Str.length_append, l1, l2]; show 9 + (S (jn (tx " ") (prTs o.length ts (o ++ ns)))).length + 2 + (S (tmT b ((o ++ ns) ++ ods ts))).length ≤ _; rw [hle, hle2]; omega, _, _, rfl, rfl, by rw [Str.length_append, Str.length_append, Str.length_append, l1, l2, l3]; show 9 + (S (jn (tx " ") (prTs o.length ts (o ++ ns)))).length + 2 + (S (tmT b ((o ++ ns) ++ ods ts))).length + 1 ≤ _; rw [hle, hle2]; omega, ?_⟩
          have q0 := q H4 (k03.trans k4) (by rw [hp4]; simp only [List.append_assoc])
          simp only [tmT] at q0
          rw [show o ++ (ns ++ ods ts) = (o ++ ns) ++ ods ts from (List.append_assoc _ _ _).symm] at q0
          have hS := cat3 "(letrec (" ") " ")" (jn (tx " ") (prTs o.length ts (o ++ ns))) (tmT b ((o ++ ns) ++ ods ts))
          rw [← hS] at q0
          exact q0
theorem lt_all {f : Addr} {fd : FuncData} {k0 : Nat} (F : Dfn K mg "_law_text" st__law_text f fd ["term", "order"]) (M : Mg mg) (G_law_plain_text : Cal P w K mg base k0 "_law_plain_text" (spPT 3)) (G_law_syntax_text : Cal P w K mg base k0 "_law_syntax_text" (spST 5)) (G_law_shown_rows : Cal P w K mg base k0 "_law_shown_rows" (spSR 5)) : ∀ n : Nat, Cal P w K mg base (k0 + n) "_law_text" (spLT n)
  | 0 => lt0 F
  | n + 1 => ok_lt (k := k0 + n) F M (G_law_plain_text.mono (by omega)) (G_law_syntax_text.mono (by omega)) (G_law_shown_rows.mono (by omega)) (lt_all F M G_law_plain_text G_law_syntax_text G_law_shown_rows n)
end
end W8
set_option Elab.async false
set_option linter.all false
set_option maxRecDepth 100000
set_option maxHeartbeats 4000000
namespace W8
open PySem PySem.Spec PyProof.Rows L2 Com Kb Tx SX ND
section
variable {P : Program} {w : World} {K : PySem.W.Frag} {mg : Str → Option Value} {base : Heap} {C fI pE pK : Addr}
/-! law -/
def spLaw (K : PySem.W.Frag) : Sp := fun vs H Q _ => ∃ (a : Addr) (ns : List Int), vs = [.ref a] ∧ SqL K H a (ns.map V.int) ∧ ns.length ≤ 1000 ∧ ∀ H', Q (.bl true) H'
theorem ok_law {f : Addr} {fd : FuncData} {k : Nat} (F : Dfn K mg "law" st_law f fd ["script"]) (M : Mg mg) (G_law_draws : Cal P w K mg base k "_law_draws" (spDraws K)) (G_law_next : Cal P w K mg base k "_law_next" spNext) (G_law_term : Cal P w K mg base k "_law_term" (spTmG 7)) (Gshow_term : Cal P w K mg base k "show_term" (spTerm K)) (G_law_text : Cal P w K mg base k "_law_text" (spLT 7)) (G_law_plain : Cal P w K mg base k "_law_plain" (spPlain 4)) (Gshow_plain : Cal P w K mg base k "show_plain" (spShowPlain K 50)) (G_law_plain_text : Cal P w K mg base k "_law_plain_text" (spPT 50)) : FnOk P w K mg base CX0 (k + 1) f fd ["script"] (spLaw K) := by
  refine F.fn.ok sclaw (fun vs H Q E h => ?_) (fun cdv A outer s H vs Q E hr h => ?_)
  · obtain ⟨a, ns, rfl, _⟩ := h
    rfl
  obtain ⟨a, ns, rfl, hS, hl, q⟩ := h
  have hsl : sizeLine = 16777216 := sizeLine_eq
  refine ⟨_, (pss_cons (ps_set (i := 1) sclaw.nd rfl (.inl rfl) (pe_op op_cat (pe_lst (pa_cons (pe_op op_add pe_int (pe_callB (cLen K rfl) (by rfl) M.len b_len (pa_cons (pv 0) pa_nil))) pa_nil)) (pe_c G_law_draws hr (by omega) (by rfl) (pa_cons (pv 0) (pa_cons pe_int pa_nil)))))
      (pss_cons (ps_for PassesOwn.never rfl (pi_range1 (by rfl) M.range (pa_cons pe_int pa_nil)) (pg_name (i := 2) sclaw.nd rfl (.inl rfl))
      (pss_cons (ps_set (i := 3) sclaw.nd rfl (.inl rfl) (pe_c G_law_term hr (by omega) (by rfl) (pa_cons (pv 1) (pa_cons (pe_tup pa_nil) (pa_cons pe_int pa_nil)))))
      (pss_cons (ps_set (i := 4) sclaw.nd rfl (.inl rfl) (pe_c Gshow_term hr (by omega) (by rfl) (pa_cons (pv 3) pa_nil)))
      (pss_one (ps_if (PW.pt (pw_or (pt_not (pt_val (pe_callB (cIsi K rfl) (by rfl) M.isinstance b_isinstance (pa_cons (pv 4) (pa_cons (pe_bltn (v := .ty "str") (by rfl) M.str b_str rfl) pa_nil))))) (pw_or (pt_cmpR op_ne (pv 4) (pe_c G_law_text hr (by omega) (by rfl) (pa_cons (pv 3) (pa_cons (pe_lst pa_nil) pa_nil))) (nomark _)) (pw_or1 (pt_cmpR op_ne (pe_c Gshow_term hr (by omega) (by rfl) (pa_cons (pv 3) pa_nil)) (pv 4) (nomark _)))))) (pss_one (ps_ret pe_bl)) pss_nil)))))
      (pss_cons (ps_set (i := 5) sclaw.nd rfl (.inl rfl) (pe_c G_law_plain hr (by omega) (by rfl) (pa_cons (pv 1) (pa_cons pe_int pa_nil))))
      (pss_cons (ps_for PassesOwn.never rfl (pi_range1 (by rfl) M.range (pa_cons (pe_ifExp (pt_cmpR op_eq (pe_c G_law_next hr (by omega) (by rfl) (pa_cons (pv 1) (pa_cons pe_int pa_nil))) pe_int (nomark _)) pe_int pe_int) pa_nil)) (pg_name (i := 6) sclaw.nd rfl (.inl rfl))
      (pss_one (ps_set (i := 5) sclaw.nd rfl (.inl rfl) (pe_tup (pa_cons pe_str (pa_cons (pe_tup (pa_cons (pv 5) pa_nil)) pa_nil))))))
      (pss_cons (ps_set (i := 4) sclaw.nd rfl (.inl rfl) (pe_c Gshow_plain hr (by omega) (by rfl) (pa_cons (pv 5) pa_nil)))
      (pss_one (ps_ret (pe_and (pe_callB (cIsi K rfl) (by rfl) M.isinstance b_isinstance (pa_cons (pv 4) (pa_cons (pe_bltn (v := .ty "str") (by rfl) M.str b_str rfl) pa_nil))) (pe_one (pe_cmpR op_eq (pv 4) (pe_c G_law_plain_text hr (by omega) (by rfl) (pa_cons (pv 5) pa_nil)) (nomark _))))))))))), ?_⟩
  -- draws
  refine ⟨_, rfl, a, _, rfl, .inl hS, _, _, rfl, rfl, ?_⟩
  refine ⟨by show 1 ≤ sizeLine; decide, fun l1 nl1 => ?_⟩
  have s1 := same_upd (o := .lst [.int (1 + ((ns.map V.int).length : Int))]) nl1
  have e1 := upd_same (H := H) (a := l1) (o := .lst [.int (1 + ((ns.map V.int).length : Int))])
  dsimp only
  generalize L2.upd H l1 (.lst [.int (1 + ((ns.map V.int).length : Int))]) = H1 at s1 e1 ⊢
  refine ⟨_, rfl, a, ns, 800, rfl, s1.seq hS, hl, by decide, fun l2 H2 xs hxs s2 nl2 hl2 => ?_⟩
  refine ⟨l1, l2, _, _, rfl, rfl, s2 _ _ e1, hl2, by simp only [List.length_map, hxs, sizeLine_eq, List.length_cons, List.length_nil]; omega, fun d nd => ?_⟩
  have hlen : (((ns.map V.int).length : Nat) : Int) = (ns.length : Int) := by rw [List.length_map]
  have hT0 : TapeAt (L2.upd H2 d (.lst ([.int (1 + (((ns.map V.int).length : Nat) : Int))] ++ xs.map V.int))) d (1 + (ns.length : Int)) := by
    refine ⟨xs, ?_, by omega⟩
    rw [upd_same, hlen]
    rfl
  have g0 : Good (1 + (ns.length : Int)) := good0 hl
  generalize L2.upd H2 d (.lst ([.int (1 + (((ns.map V.int).length : Nat) : Int))] ++ xs.map V.int)) = H3 at hT0 ⊢
  generalize 1 + (ns.length : Int) = x0 at hT0 g0
  dsimp only [gName]
  -- the terms
  refine ⟨(3 : Int), rfl, by decide, by decide, ?_⟩
  refine for_range (lo := 0) (n := (3 : Int).toNat) (fun i σ H' => ∃ (y2 y3 y4 : Option V) (x : Int), σ = [some (.ref a), some (.ref d), y2, y3, y4, none, none] ∧ Good x ∧ TapeAt H' d x) ⟨none, none, none, x0, rfl, g0, hT0⟩ ?_ ?_
  · rintro i σ H4 hi ⟨y2, y3, y4, x, rfl, g, hT⟩
    dsimp only [gName]
    refine ⟨_, rfl, by show 0 ≤ sizeLine; decide, fun e ne => ?_⟩
    have s5 := same_upd (o := .tup []) ne
    have e5 := upd_same (H := H4) (a := e) (o := .tup [])
    generalize L2.upd H4 e (.tup []) = H5 at s5 e5 ⊢
    have hT5 := hT.same s5
    refine ⟨d, e, x, [], 6, rfl, by decide, g, hT5, e5, by decide, fun v tm H6 k6 hT6 dv hR => ?_⟩
    have ol := od_len tm 6 hR.ok
    have hNB : NB 6 = 4095 := by decide
    have hnd : (od tm).Nodup := by
      rw [hR.od]
      exact orb_nodup g (by omega)
    dsimp only [gName]
    refine ⟨_, rfl, v, tm, rfl, dv, hR.ok, hR.ws, hnd, fun H7 s7 => ?_⟩
    dsimp only [gName]
    have dv7 := dv.tk (same_tk s7)
    have hT7 := hT6.same s7
    refine ⟨_, rfl, _, .ty "str", .type "str", .type "str", true, rfl, .ty _, .base (.str _), kit_ty rfl, true, rfl, ?_⟩
    refine iteF ?_
    refine ⟨_, rfl, _, rfl, Nat.zero_le _, fun p np => ?_⟩
    have s8 := same_upd (o := .lst []) np
    have e8 := upd_same (H := H7) (a := p) (o := .lst [])
    have hdp := hT7.ne np
    generalize L2.upd H7 p (.lst []) = H8 at s8 e8 ⊢
    have hT8 := hT7.same s8
    refine ⟨v, p, [], tm, 6, rfl, e8, dv7.tk (same_tk s8), hR.ok, by decide, by decide, hR.ws, by rw [List.nil_append]; omega, fun H9 k9 hp9 => ?_⟩
    have hT9 : TapeAt H9 d (stn (od tm).length x) := by
      obtain ⟨zs, z1, z2⟩ := hT8
      exact ⟨zs, k9 _ _ z1 hdp, z2⟩
    have dv9 := (dv7.tk (same_tk s8)).tk (k9.tk e8)
    refine ⟨rfl, _, rfl, ?_⟩
    rw [decide_eq_true rfl]
    refine iteF ?_
    refine ⟨_, rfl, v, tm, rfl, dv9, hR.ok, hR.ws, hnd, fun H10 s10 => ?_⟩
    refine ⟨_, rfl, rfl, _, rfl, ?_⟩
    rw [decide_eq_true rfl]
    refine iteF ?_
    dsimp only [tNext]
    exact ⟨_, _, _, _, rfl, g.steps _, hT9.same s10⟩
  · rintro σ H4 ⟨y2, y3, y4, x, rfl, g, hT⟩
    -- a plain value
    refine ⟨_, rfl, d, x, 3, rfl, by decide, hT, fun v pl H5 k5 hT5 dv g1 g2 g3 => ?_⟩
    dsimp only [gName]
    have hpz : PZ 3 = 40 := by decide
    refine seq_split (t1 := tFor _ _ _) (fun σ' H' => ∃ (y6 : Option V) (v' : V) (p' : Pl), σ' = [some (.ref a), some (.ref d), y2, y3, y4, some v', y6] ∧ Dt H' v' (plD p') ∧ plG p' ∧ dpP p' ≤ 49 ∧ szP p' ≤ 86) ?_ (fun J => ?_)
    · rintro σ' H' ⟨y6, v', p', rfl, dv', h1, h2, h3⟩
      refine ⟨_, rfl, v', p', rfl, dv'.dp, h1, by omega, by omega, fun H7 s7 => ?_⟩
      dsimp only [gName]
      refine ⟨_, rfl, _, .ty "str", .type "str", .type "str", true, rfl, .ty _, .base (.str _), kit_ty rfl, true, rfl, ?_⟩
      refine iteT ?_
      refine ⟨_, rfl, _, rfl, v', p', rfl, dv'.tk (same_tk s7), h1, by omega, by omega, fun H8 s8 => ?_⟩
      refine ⟨rfl, ?_⟩
      rw [decide_eq_true rfl]
      exact q _
    · refine ⟨_, rfl, d, 6, x, rfl, by decide, hT5, fun r H6 r0 r1 k6 hT6 => ?_⟩
      have dv6 := dv.tk (hT5.tk k6)
      have step : ∀ {i : Nat} {σ : L2.St} {H7 : Hp}, i < 46 → (∃ (y6 : Option V) (v' : V) (p' : Pl), σ = [some (.ref a), some (.ref d), y2, y3, y4, some v', y6] ∧ Dt H7 v' (plD p') ∧ plG p' ∧ dpP p' ≤ 3 + i ∧ szP p' ≤ 40 + i) → ∀ (D : Ends), D.nx = (fun σ H7 => ∃ (y6 : Option V) (v' : V) (p' : Pl), σ = [some (.ref a), some (.ref d), y2, y3, y4, some v', y6] ∧ Dt H7 v' (plD p') ∧ plG p' ∧ dpP p' ≤ 3 + (i + 1) ∧ szP p' ≤ 40 + (i + 1)) → ∀ z : Int, gName 6 (.int z) σ H7 (fun σ2 H2 => tAsg (tTup (tCons (tC (V.str (Str.ofString "list"))) (tCons (tTup (tCons (tVar 5) tNil)) tNil))) (gName 5) D σ2 H2) := by
        rintro i σ H7 hi ⟨y6, v', p', rfl, dv', h1, h2, h3⟩ D hD z
        dsimp only [gName]
        refine ⟨_, rfl, by show 1 ≤ sizeLine; decide, fun c1 nc1 => ?_⟩
        obtain ⟨G1, e1, t1, d1⟩ := tup_new nc1 (.one dv')
        rw [e1]
        refine ⟨by show 2 ≤ sizeLine; decide, fun c2 nc2 => ?_⟩
        obtain ⟨G2, e2, t2, d2⟩ := tup_new nc2 (.cons (.str (Str.ofString "list")) (.one d1))
        rw [e2]
        dsimp only [gName]
        rw [hD]
        refine ⟨_, .ref c2, .lst [p'], rfl, by simp only [plD, plDs]; exact d2, by simp only [plG, plGs]; exact ⟨h1, True.intro⟩, by simp only [dpP, dpPs]; omega, by simp only [szP, szPs]; omega⟩
      refine ⟨rfl, _, rfl, ite2 (fun c => ?_) (fun c => ?_)⟩
      · refine ⟨(46 : Int), rfl, by decide, by decide, ?_⟩
        refine for_range (lo := 0) (n := (46 : Int).toNat) (fun i σ H7 => ∃ (y6 : Option V) (v' : V) (p' : Pl), σ = [some (.ref a), some (.ref d), y2, y3, y4, some v', y6] ∧ Dt H7 v' (plD p') ∧ plG p' ∧ dpP p' ≤ 3 + i ∧ szP p' ≤ 40 + i) ⟨none, v, pl, rfl, dv6, g1, by omega, by omega⟩ ?_ ?_
        · intro i σ H7 hi h
          exact step hi h _ rfl _
        · rintro σ H7 ⟨y6, v', p', e, dv', h1, h2, h3⟩
          exact J _ _ ⟨y6, v', p', e, dv', h1, h2, h3⟩
      · refine ⟨(0 : Int), rfl, by decide, by decide, ?_⟩
        refine for_range (lo := 0) (n := (0 : Int).toNat) (fun i σ H7 => ∃ (y6 : Option V) (v' : V) (p' : Pl), σ = [some (.ref a), some (.ref d), y2, y3, y4, some v', y6] ∧ Dt H7 v' (plD p') ∧ plG p' ∧ dpP p' ≤ 3 + i ∧ szP p' ≤ 40 + i) ⟨none, v, pl, rfl, dv6, g1, by omega, by omega⟩ ?_ ?_
        · intro i σ H7 hi h
          exact absurd hi (Nat.not_lt_zero i)
        · rintro σ H7 ⟨y6, v', p', e, dv', h1, h2, h3⟩
          have h2' : dpP p' ≤ 3 := h2
          have h3' : szP p' ≤ 40 := h3
          exact J _ _ ⟨y6, v', p', e, dv', h1, by omega, by omega⟩
end
end W8
set_option Elab.async false
set_option linter.all false
set_option maxRecDepth 100000
set_option maxHeartbeats 4000000
namespace W8
open PySem PySem.Spec PyProof.Rows L2 Com Kb Tx SX ND
theorem sq_kt {K : PySem.W.Frag} {a : Addr} {d : Option Addr} {its : Array Value} {n : Nat} {sl : Array (Option Value)} {xs : List V} (h : K.lookup a = some ⟨.type "tuple", d, .seq its n, sl⟩) (hs : its.size ≤ sizeLine) (hv : Vals xs its.toList) : ∀ H, SqT K H a xs := fun H => .inr ⟨_, its, n, h, rfl, rfl, hs, hv⟩
theorem all_mk {l : PySem.W.OpenLaw} {w : World} {K : PySem.W.Frag} {h : Heap} {mg : Str → Option Value} {fa C pE pK : Addr} {f1 f2 f3 f4 f5 f6 f7 f8 f9 f10 f11 f12 f13 f14 f15 f16 f17 f18 f19 f20 f21 f22 f23 f24 f25 f26 f27 f28 f29 f30 m1 m2 m3 : Addr}
    {od1 an1 od2 an2 od3 an3 od4 an4 od5 an5 od6 an6 od7 an7 od8 an8 od9 an9 od10 an10 od11 an11 od12 an12 od13 an13 od14 an14 od15 an15 od16 an16 od17 an17 od18 an18 od19 an19 od20 an20 od21 an21 od22 an22 od23 an23 od24 an24 od25 an25 od26 an26 od27 an27 od28 an28 od29 an29 od30 an30 odm1 anm1 odm2 anm2 odm3 anm3 dE dK : Option Addr} {sl1 sl2 sl3 sl4 sl5 sl6 sl7 sl8 sl9 sl10 sl11 sl12 sl13 sl14 sl15 sl16 sl17 sl18 sl19 sl20 sl21 sl22 sl23 sl24 sl25 sl26 sl27 sl28 sl29 sl30 slm1 slm2 slm3 sE sK : Array (Option Value)} {nE nK : Nat} {ta tb tc td te tf tg : PySem.Tok}
    {cd1 oc1 kV1 dc1 pm1 ct1 cd2 oc2 kV2 dc2 pm2 ct2 cd3 oc3 kV3 dc3 pm3 ct3 cd4 oc4 kV4 dc4 pm4 ct4 cd5 oc5 kV5 dc5 pm5 ct5 cd6 oc6 kV6 dc6 pm6 ct6 cd7 oc7 kV7 dc7 pm7 ct7 cd8 oc8 kV8 dc8 pm8 ct8 cd9 oc9 kV9 dc9 pm9 ct9 cd10 oc10 kV10 dc10 pm10 ct10 cd11 oc11 kV11 dc11 pm11 ct11 cd12 oc12 kV12 dc12 pm12 ct12 cd13 oc13 kV13 dc13 pm13 ct13 cd14 oc14 kV14 dc14 pm14 ct14 cd15 oc15 kV15 dc15 pm15 ct15 cd16 oc16 kV16 dc16 pm16 ct16 cd17 oc17 kV17 dc17 pm17 ct17 cd18 oc18 kV18 dc18 pm18 ct18 cd19 oc19 kV19 dc19 pm19 ct19 cd20 oc20 kV20 dc20 pm20 ct20 cd21 oc21 kV21 dc21 pm21 ct21 cd22 oc22 kV22 dc22 pm22 ct22 cd23 oc23 kV23 dc23 pm23 ct23 cd24 oc24 kV24 dc24 pm24 ct24 cd25 oc25 kV25 dc25 pm25 ct25 cd26 oc26 kV26 dc26 pm26 ct26 cd27 oc27 kV27 dc27 pm27 ct27 cd28 oc28 kV28 dc28 pm28 ct28 cd29 oc29 kV29 dc29 pm29 ct29 cd30 oc30 kV30 dc30 pm30 ct30 cdm1 ocm1 kVm1 dcm1 pmm1 ctm1 cdm2 ocm2 kVm2 dcm2 pmm2 ctm2 cdm3 ocm3 kVm3 dcm3 pmm3 ctm3 : Value} (X : K.In h) (G : h.Ns mainGlobals mg) (hfa : mg "law" = some (.ref fa))
    (a1 : PySem.W.nsIn K mainGlobals "show_atom" = some (some (.ref f1))) (l1 : K.lookup f1 = some ⟨oc1, od1, .func (PySem.W.fnOf "show_atom" "show_atom" (defArgs st_show_atom) (defBody st_show_atom) (defScope st_show_atom) .none kV1 dc1 pm1 an1 cd1 ct1), sl1⟩) (c1 : PySem.W.codeIn K cd1 "show_atom" = true) (k1 : PySem.W.keepIn K (.ref f1) = true)
    (a2 : PySem.W.nsIn K mainGlobals "put_in_front" = some (some (.ref f2))) (l2 : K.lookup f2 = some ⟨oc2, od2, .func (PySem.W.fnOf "put_in_front" "put_in_front" (defArgs st_put_in_front) (defBody st_put_in_front) (defScope st_put_in_front) .none kV2 dc2 pm2 an2 cd2 ct2), sl2⟩) (c2 : PySem.W.codeIn K cd2 "put_in_front" = true) (k2 : PySem.W.keepIn K (.ref f2) = true)
    (a3 : PySem.W.nsIn K mainGlobals "list_of" = some (some (.ref f3))) (l3 : K.lookup f3 = some ⟨oc3, od3, .func (PySem.W.fnOf "list_of" "list_of" (defArgs st_list_of) (defBody st_list_of) (defScope st_list_of) .none kV3 dc3 pm3 an3 cd3 ct3), sl3⟩) (c3 : PySem.W.codeIn K cd3 "list_of" = true) (k3 : PySem.W.keepIn K (.ref f3) = true)
    (a4 : PySem.W.nsIn K mainGlobals "parts_of" = some (some (.ref f4))) (l4 : K.lookup f4 = some ⟨oc4, od4, .func (PySem.W.fnOf "parts_of" "parts_of" (defArgs st_parts_of) (defBody st_parts_of) (defScope st_parts_of) .none kV4 dc4 pm4 an4 cd4 ct4), sl4⟩) (c4 : PySem.W.codeIn K cd4 "parts_of" = true) (k4 : PySem.W.keepIn K (.ref f4) = true)
    (a5 : PySem.W.nsIn K mainGlobals "value_of" = some (some (.ref f5))) (l5 : K.lookup f5 = some ⟨oc5, od5, .func (PySem.W.fnOf "value_of" "value_of" (defArgs st_value_of) (defBody st_value_of) (defScope st_value_of) .none kV5 dc5 pm5 an5 cd5 ct5), sl5⟩) (c5 : PySem.W.codeIn K cd5 "value_of" = true) (k5 : PySem.W.keepIn K (.ref f5) = true)
    (a6 : PySem.W.nsIn K mainGlobals "shown" = some (some (.ref f6))) (l6 : K.lookup f6 = some ⟨oc6, od6, .func (PySem.W.fnOf "shown" "shown" (defArgs st_shown) (defBody st_shown) (defScope st_shown) .none kV6 dc6 pm6 an6 cd6 ct6), sl6⟩) (c6 : PySem.W.codeIn K cd6 "shown" = true) (k6 : PySem.W.keepIn K (.ref f6) = true)
    (a7 : PySem.W.nsIn K mainGlobals "show_plain" = some (some (.ref f7))) (l7 : K.lookup f7 = some ⟨oc7, od7, .func (PySem.W.fnOf "show_plain" "show_plain" (defArgs st_show_plain) (defBody st_show_plain) (defScope st_show_plain) .none kV7 dc7 pm7 an7 cd7 ct7), sl7⟩) (c7 : PySem.W.codeIn K cd7 "show_plain" = true) (k7 : PySem.W.keepIn K (.ref f7) = true)
    (a8 : PySem.W.nsIn K mainGlobals "_show_syntax" = some (some (.ref f8))) (l8 : K.lookup f8 = some ⟨oc8, od8, .func (PySem.W.fnOf "_show_syntax" "_show_syntax" (defArgs st__show_syntax) (defBody st__show_syntax) (defScope st__show_syntax) .none kV8 dc8 pm8 an8 cd8 ct8), sl8⟩) (c8 : PySem.W.codeIn K cd8 "_show_syntax" = true) (k8 : PySem.W.keepIn K (.ref f8) = true)
    (a9 : PySem.W.nsIn K mainGlobals "_show_parts" = some (some (.ref f9))) (l9 : K.lookup f9 = some ⟨oc9, od9, .func (PySem.W.fnOf "_show_parts" "_show_parts" (defArgs st__show_parts) (defBody st__show_parts) (defScope st__show_parts) .none kV9 dc9 pm9 an9 cd9 ct9), sl9⟩) (c9 : PySem.W.codeIn K cd9 "_show_parts" = true) (k9 : PySem.W.keepIn K (.ref f9) = true)
    (a10 : PySem.W.nsIn K mainGlobals "_show_const" = some (some (.ref f10))) (l10 : K.lookup f10 = some ⟨oc10, od10, .func (PySem.W.fnOf "_show_const" "_show_const" (defArgs st__show_const) (defBody st__show_const) (defScope st__show_const) .none kV10 dc10 pm10 an10 cd10 ct10), sl10⟩) (c10 : PySem.W.codeIn K cd10 "_show_const" = true) (k10 : PySem.W.keepIn K (.ref f10) = true)
    (a11 : PySem.W.nsIn K mainGlobals "_show_syntax_in" = some (some (.ref f11))) (l11 : K.lookup f11 = some ⟨oc11, od11, .func (PySem.W.fnOf "_show_syntax_in" "_show_syntax_in" (defArgs st__show_syntax_in) (defBody st__show_syntax_in) (defScope st__show_syntax_in) .none kV11 dc11 pm11 an11 cd11 ct11), sl11⟩) (c11 : PySem.W.codeIn K cd11 "_show_syntax_in" = true) (k11 : PySem.W.keepIn K (.ref f11) = true)
    (a12 : PySem.W.nsIn K mainGlobals "_show_leaf" = some (some (.ref f12))) (l12 : K.lookup f12 = some ⟨oc12, od12, .func (PySem.W.fnOf "_show_leaf" "_show_leaf" (defArgs st__show_leaf) (defBody st__show_leaf) (defScope st__show_leaf) .none kV12 dc12 pm12 an12 cd12 ct12), sl12⟩) (c12 : PySem.W.codeIn K cd12 "_show_leaf" = true) (k12 : PySem.W.keepIn K (.ref f12) = true)
    (a13 : PySem.W.nsIn K mainGlobals "_show_rec" = some (some (.ref f13))) (l13 : K.lookup f13 = some ⟨oc13, od13, .func (PySem.W.fnOf "_show_rec" "_show_rec" (defArgs st__show_rec) (defBody st__show_rec) (defScope st__show_rec) .none kV13 dc13 pm13 an13 cd13 ct13), sl13⟩) (c13 : PySem.W.codeIn K cd13 "_show_rec" = true) (k13 : PySem.W.keepIn K (.ref f13) = true)
    (a14 : PySem.W.nsIn K mainGlobals "_spaced" = some (some (.ref f14))) (l14 : K.lookup f14 = some ⟨oc14, od14, .func (PySem.W.fnOf "_spaced" "_spaced" (defArgs st__spaced) (defBody st__spaced) (defScope st__spaced) .none kV14 dc14 pm14 an14 cd14 ct14), sl14⟩) (c14 : PySem.W.codeIn K cd14 "_spaced" = true) (k14 : PySem.W.keepIn K (.ref f14) = true)
    (a15 : PySem.W.nsIn K mainGlobals "_pieces_of" = some (some (.ref f15))) (l15 : K.lookup f15 = some ⟨oc15, od15, .func (PySem.W.fnOf "_pieces_of" "_pieces_of" (defArgs st__pieces_of) (defBody st__pieces_of) (defScope st__pieces_of) .none kV15 dc15 pm15 an15 cd15 ct15), sl15⟩) (c15 : PySem.W.codeIn K cd15 "_pieces_of" = true) (k15 : PySem.W.keepIn K (.ref f15) = true)
    (a16 : PySem.W.nsIn K mainGlobals "show_named" = some (some (.ref f16))) (l16 : K.lookup f16 = some ⟨oc16, od16, .func (PySem.W.fnOf "show_named" "show_named" (defArgs st_show_named) (defBody st_show_named) (defScope st_show_named) .none kV16 dc16 pm16 an16 cd16 ct16), sl16⟩) (c16 : PySem.W.codeIn K cd16 "show_named" = true) (k16 : PySem.W.keepIn K (.ref f16) = true)
    (a17 : PySem.W.nsIn K mainGlobals "show_term" = some (some (.ref f17))) (l17 : K.lookup f17 = some ⟨oc17, od17, .func (PySem.W.fnOf "show_term" "show_term" (defArgs st_show_term) (defBody st_show_term) (defScope st_show_term) .none kV17 dc17 pm17 an17 cd17 ct17), sl17⟩) (c17 : PySem.W.codeIn K cd17 "show_term" = true) (k17 : PySem.W.keepIn K (.ref f17) = true)
    (a18 : PySem.W.nsIn K mainGlobals "_law_draws" = some (some (.ref f18))) (l18 : K.lookup f18 = some ⟨oc18, od18, .func (PySem.W.fnOf "_law_draws" "_law_draws" (defArgs st__law_draws) (defBody st__law_draws) (defScope st__law_draws) .none kV18 dc18 pm18 an18 cd18 ct18), sl18⟩) (c18 : PySem.W.codeIn K cd18 "_law_draws" = true) (k18 : PySem.W.keepIn K (.ref f18) = true)
    (a19 : PySem.W.nsIn K mainGlobals "_law_next" = some (some (.ref f19))) (l19 : K.lookup f19 = some ⟨oc19, od19, .func (PySem.W.fnOf "_law_next" "_law_next" (defArgs st__law_next) (defBody st__law_next) (defScope st__law_next) .none kV19 dc19 pm19 an19 cd19 ct19), sl19⟩) (c19 : PySem.W.codeIn K cd19 "_law_next" = true) (k19 : PySem.W.keepIn K (.ref f19) = true)
    (a20 : PySem.W.nsIn K mainGlobals "_law_new" = some (some (.ref f20))) (l20 : K.lookup f20 = some ⟨oc20, od20, .func (PySem.W.fnOf "_law_new" "_law_new" (defArgs st__law_new) (defBody st__law_new) (defScope st__law_new) .none kV20 dc20 pm20 an20 cd20 ct20), sl20⟩) (c20 : PySem.W.codeIn K cd20 "_law_new" = true) (k20 : PySem.W.keepIn K (.ref f20) = true)
    (a21 : PySem.W.nsIn K mainGlobals "_law_shown_rows" = some (some (.ref f21))) (l21 : K.lookup f21 = some ⟨oc21, od21, .func (PySem.W.fnOf "_law_shown_rows" "_law_shown_rows" (defArgs st__law_shown_rows) (defBody st__law_shown_rows) (defScope st__law_shown_rows) .none kV21 dc21 pm21 an21 cd21 ct21), sl21⟩) (c21 : PySem.W.codeIn K cd21 "_law_shown_rows" = true) (k21 : PySem.W.keepIn K (.ref f21) = true)
    (a22 : PySem.W.nsIn K mainGlobals "_law_calm" = some (some (.ref f22))) (l22 : K.lookup f22 = some ⟨oc22, od22, .func (PySem.W.fnOf "_law_calm" "_law_calm" (defArgs st__law_calm) (defBody st__law_calm) (defScope st__law_calm) .none kV22 dc22 pm22 an22 cd22 ct22), sl22⟩) (c22 : PySem.W.codeIn K cd22 "_law_calm" = true) (k22 : PySem.W.keepIn K (.ref f22) = true)
    (a23 : PySem.W.nsIn K mainGlobals "_law_formed" = some (some (.ref f23))) (l23 : K.lookup f23 = some ⟨oc23, od23, .func (PySem.W.fnOf "_law_formed" "_law_formed" (defArgs st__law_formed) (defBody st__law_formed) (defScope st__law_formed) .none kV23 dc23 pm23 an23 cd23 ct23), sl23⟩) (c23 : PySem.W.codeIn K cd23 "_law_formed" = true) (k23 : PySem.W.keepIn K (.ref f23) = true)
    (a24 : PySem.W.nsIn K mainGlobals "_law_plain" = some (some (.ref f24))) (l24 : K.lookup f24 = some ⟨oc24, od24, .func (PySem.W.fnOf "_law_plain" "_law_plain" (defArgs st__law_plain) (defBody st__law_plain) (defScope st__law_plain) .none kV24 dc24 pm24 an24 cd24 ct24), sl24⟩) (c24 : PySem.W.codeIn K cd24 "_law_plain" = true) (k24 : PySem.W.keepIn K (.ref f24) = true)
    (a25 : PySem.W.nsIn K mainGlobals "_law_plain_text" = some (some (.ref f25))) (l25 : K.lookup f25 = some ⟨oc25, od25, .func (PySem.W.fnOf "_law_plain_text" "_law_plain_text" (defArgs st__law_plain_text) (defBody st__law_plain_text) (defScope st__law_plain_text) .none kV25 dc25 pm25 an25 cd25 ct25), sl25⟩) (c25 : PySem.W.codeIn K cd25 "_law_plain_text" = true) (k25 : PySem.W.keepIn K (.ref f25) = true)
    (a26 : PySem.W.nsIn K mainGlobals "_law_syntax" = some (some (.ref f26))) (l26 : K.lookup f26 = some ⟨oc26, od26, .func (PySem.W.fnOf "_law_syntax" "_law_syntax" (defArgs st__law_syntax) (defBody st__law_syntax) (defScope st__law_syntax) .none kV26 dc26 pm26 an26 cd26 ct26), sl26⟩) (c26 : PySem.W.codeIn K cd26 "_law_syntax" = true) (k26 : PySem.W.keepIn K (.ref f26) = true)
    (a27 : PySem.W.nsIn K mainGlobals "_law_syntax_text" = some (some (.ref f27))) (l27 : K.lookup f27 = some ⟨oc27, od27, .func (PySem.W.fnOf "_law_syntax_text" "_law_syntax_text" (defArgs st__law_syntax_text) (defBody st__law_syntax_text) (defScope st__law_syntax_text) .none kV27 dc27 pm27 an27 cd27 ct27), sl27⟩) (c27 : PySem.W.codeIn K cd27 "_law_syntax_text" = true) (k27 : PySem.W.keepIn K (.ref f27) = true)
    (a28 : PySem.W.nsIn K mainGlobals "_law_term" = some (some (.ref f28))) (l28 : K.lookup f28 = some ⟨oc28, od28, .func (PySem.W.fnOf "_law_term" "_law_term" (defArgs st__law_term) (defBody st__law_term) (defScope st__law_term) .none kV28 dc28 pm28 an28 cd28 ct28), sl28⟩) (c28 : PySem.W.codeIn K cd28 "_law_term" = true) (k28 : PySem.W.keepIn K (.ref f28) = true)
    (a29 : PySem.W.nsIn K mainGlobals "_law_text" = some (some (.ref f29))) (l29 : K.lookup f29 = some ⟨oc29, od29, .func (PySem.W.fnOf "_law_text" "_law_text" (defArgs st__law_text) (defBody st__law_text) (defScope st__law_text) .none kV29 dc29 pm29 an29 cd29 ct29), sl29⟩) (c29 : PySem.W.codeIn K cd29 "_law_text" = true) (k29 : PySem.W.keepIn K (.ref f29) = true)
    (a30 : PySem.W.nsIn K mainGlobals "law" = some (some (.ref f30))) (l30 : K.lookup f30 = some ⟨oc30, od30, .func (PySem.W.fnOf "law" "law" (defArgs st_law) (defBody st_law) (defScope st_law) .none kV30 dc30 pm30 an30 cd30 ct30), sl30⟩) (c30 : PySem.W.codeIn K cd30 "law" = true) (k30 : PySem.W.keepIn K (.ref f30) = true)
    (am1 : PySem.W.findIn K (.ref C) "__init__" = some (some (.ref m1))) (im1 : PySem.W.isFn K (.ref m1) = true) (lm1 : K.lookup m1 = some ⟨ocm1, odm1, .func (PySem.W.fnOf "__init__" "Names.__init__" (defArgs st_Names___init__) (defBody st_Names___init__) (defScope st_Names___init__) .none kVm1 dcm1 pmm1 anm1 cdm1 ctm1), slm1⟩) (cm1 : PySem.W.codeIn K cdm1 "Names.__init__" = true) (km1 : PySem.W.keepIn K (.ref m1) = true)
    (am2 : PySem.W.findIn K (.ref C) "give" = some (some (.ref m2))) (im2 : PySem.W.isFn K (.ref m2) = true) (lm2 : K.lookup m2 = some ⟨ocm2, odm2, .func (PySem.W.fnOf "give" "Names.give" (defArgs st_Names_give) (defBody st_Names_give) (defScope st_Names_give) .none kVm2 dcm2 pmm2 anm2 cdm2 ctm2), slm2⟩) (cm2 : PySem.W.codeIn K cdm2 "Names.give" = true) (km2 : PySem.W.keepIn K (.ref m2) = true)
    (am3 : PySem.W.findIn K (.ref C) "name_of_top" = some (some (.ref m3))) (im3 : PySem.W.isFn K (.ref m3) = true) (lm3 : K.lookup m3 = some ⟨ocm3, odm3, .func (PySem.W.fnOf "name_of_top" "Names.name_of_top" (defArgs st_Names_name_of_top) (defBody st_Names_name_of_top) (defScope st_Names_name_of_top) .none kVm3 dcm3 pmm3 anm3 cdm3 ctm3), slm3⟩) (cm3 : PySem.W.codeIn K cdm3 "Names.name_of_top" = true) (km3 : PySem.W.keepIn K (.ref m3) = true)
    (aC : PySem.W.nsIn K mainGlobals "Names" = some (some (.ref C))) (aE : PySem.W.nsIn K mainGlobals "EMPTY" = some (some (.ref pE))) (aK : PySem.W.nsIn K mainGlobals "PLAIN_KINDS" = some (some (.ref pK)))
    (lE : K.lookup pE = some ⟨.type "tuple", dE, .seq #[.str "list" ta, .none, .none, .int 0 tb, .int 1 tc, .int 1 td] nE, sE⟩) (lK : K.lookup pK = some ⟨.type "tuple", dK, .seq #[.str "number" te, .str "flag" tf, .str "text" tg] nK, sK⟩)
    (pg : PySem.W.plainGet K C Str.empty = true) (hd : PySem.W.hasDictIn K C = true) (po : PySem.W.plainOver K C = true) (sa : PySem.W.findIn K (.ref C) "__setattr__" = some (some (.builtin "object.__setattr__"))) (mk : PySem.W.makesIn K C = true) (kc : PySem.W.keepIn K (.ref C) = true)
    (n1 : PySem.W.findIn K (.ref C) "local_names" = some none) (n2 : PySem.W.findIn K (.ref C) "top_names" = some none)
    (z1 : PySem.W.nsIn K mainGlobals "len" = some none) (z2 : PySem.W.nsIn K mainGlobals "int" = some none) (z3 : PySem.W.nsIn K mainGlobals "str" = some none) (z4 : PySem.W.nsIn K mainGlobals "tuple" = some none) (z5 : PySem.W.nsIn K mainGlobals "list" = some none) (z6 : PySem.W.nsIn K mainGlobals "range" = some none) (z7 : PySem.W.nsIn K mainGlobals "isinstance" = some none) (z8 : PySem.W.nsIn K mainGlobals "max" = some none) (z9 : PySem.W.nsIn K mainGlobals "enumerate" = some none) : 
    ∃ fd : FuncData, (∀ (s : Shared) (u : Value), BindsTo s fd ⟨[u], []⟩ [("script", u)]) ∧ ∀ base : Heap, K.In base → base.Ns mainGlobals mg → FnOk l.prog w K mg base CX0 54 fa fd ["script"] (spLaw K) := by
  have e := hfa.symm.trans (PySem.W.mg_of X G a30)
  cases e
  have M : Mg mg := ⟨PySem.W.mg_none_of X G z1, PySem.W.mg_none_of X G z2, PySem.W.mg_none_of X G z3, PySem.W.mg_none_of X G z4, PySem.W.mg_none_of X G z5, PySem.W.mg_none_of X G z6, PySem.W.mg_none_of X G z7, PySem.W.mg_none_of X G z8, PySem.W.mg_none_of X G z9⟩
  have E1 := fun_mk (st := st_show_atom) l1 c1 k1
  have b1 := E1.binds (ps := ["kind", "value"]) fun _ _ _ _ _ _ us hl => match us, hl with | [_, _], _ => rfl
  have F1 : Dfn K mg "show_atom" st_show_atom f1 _ ["kind", "value"] := ⟨E1, PySem.W.mg_of X G a1, b1⟩
  have E2 := fun_mk (st := st_put_in_front) l2 c2 k2
  have b2 := E2.binds (ps := ["value", "row"]) fun _ _ _ _ _ _ us hl => match us, hl with | [_, _], _ => rfl
  have F2 : Dfn K mg "put_in_front" st_put_in_front f2 _ ["value", "row"] := ⟨E2, PySem.W.mg_of X G a2, b2⟩
  have E3 := fun_mk (st := st_list_of) l3 c3 k3
  have b3 := E3.binds (ps := ["parts"]) fun _ _ _ _ _ _ us hl => match us, hl with | [_], _ => rfl
  have F3 : Dfn K mg "list_of" st_list_of f3 _ ["parts"] := ⟨E3, PySem.W.mg_of X G a3, b3⟩
  have E4 := fun_mk (st := st_parts_of) l4 c4 k4
  have b4 := E4.binds (ps := ["row"]) fun _ _ _ _ _ _ us hl => match us, hl with | [_], _ => rfl
  have F4 : Dfn K mg "parts_of" st_parts_of f4 _ ["row"] := ⟨E4, PySem.W.mg_of X G a4, b4⟩
  have E5 := fun_mk (st := st_value_of) l5 c5 k5
  have b5 := E5.binds (ps := ["plain"]) fun _ _ _ _ _ _ us hl => match us, hl with | [_], _ => rfl
  have F5 : Dfn K mg "value_of" st_value_of f5 _ ["plain"] := ⟨E5, PySem.W.mg_of X G a5, b5⟩
  have E6 := fun_mk (st := st_shown) l6 c6 k6
  have b6 := E6.binds (ps := ["value"]) fun _ _ _ _ _ _ us hl => match us, hl with | [_], _ => rfl
  have F6 : Dfn K mg "shown" st_shown f6 _ ["value"] := ⟨E6, PySem.W.mg_of X G a6, b6⟩
  have E7 := fun_mk (st := st_show_plain) l7 c7 k7
  have b7 := E7.binds (ps := ["value"]) fun _ _ _ _ _ _ us hl => match us, hl with | [_], _ => rfl
  have F7 : Dfn K mg "show_plain" st_show_plain f7 _ ["value"] := ⟨E7, PySem.W.mg_of X G a7, b7⟩
  have E8 := fun_mk (st := st__show_syntax) l8 c8 k8
  have b8 := E8.binds (ps := ["syntax", "numbers"]) fun _ _ _ _ _ _ us hl => match us, hl with | [_, _], _ => rfl
  have F8 : Dfn K mg "_show_syntax" st__show_syntax f8 _ ["syntax", "numbers"] := ⟨E8, PySem.W.mg_of X G a8, b8⟩
  have E9 := fun_mk (st := st__show_parts) l9 c9 k9
  have b9 := E9.binds (ps := ["parts", "numbers"]) fun _ _ _ _ _ _ us hl => match us, hl with | [_, _], _ => rfl
  have F9 : Dfn K mg "_show_parts" st__show_parts f9 _ ["parts", "numbers"] := ⟨E9, PySem.W.mg_of X G a9, b9⟩
  have E10 := fun_mk (st := st__show_const) l10 c10 k10
  have b10 := E10.binds (ps := ["plain"]) fun _ _ _ _ _ _ us hl => match us, hl with | [_], _ => rfl
  have F10 : Dfn K mg "_show_const" st__show_const f10 _ ["plain"] := ⟨E10, PySem.W.mg_of X G a10, b10⟩
  have E11 := fun_mk (st := st__show_syntax_in) l11 c11 k11
  have b11 := E11.binds (ps := ["term"]) fun _ _ _ _ _ _ us hl => match us, hl with | [_], _ => rfl
  have F11 : Dfn K mg "_show_syntax_in" st__show_syntax_in f11 _ ["term"] := ⟨E11, PySem.W.mg_of X G a11, b11⟩
  have E12 := fun_mk (st := st__show_leaf) l12 c12 k12
  have b12 := E12.binds (ps := ["term", "names"]) fun _ _ _ _ _ _ us hl => match us, hl with | [_, _], _ => rfl
  have F12 : Dfn K mg "_show_leaf" st__show_leaf f12 _ ["term", "names"] := ⟨E12, PySem.W.mg_of X G a12, b12⟩
  have E13 := fun_mk (st := st__show_rec) l13 c13 k13
  have b13 := E13.binds (ps := ["term", "names"]) fun _ _ _ _ _ _ us hl => match us, hl with | [_, _], _ => rfl
  have F13 : Dfn K mg "_show_rec" st__show_rec f13 _ ["term", "names"] := ⟨E13, PySem.W.mg_of X G a13, b13⟩
  have E14 := fun_mk (st := st__spaced) l14 c14 k14
  have b14 := E14.binds (ps := ["begin", "terms"]) fun _ _ _ _ _ _ us hl => match us, hl with | [_, _], _ => rfl
  have F14 : Dfn K mg "_spaced" st__spaced f14 _ ["begin", "terms"] := ⟨E14, PySem.W.mg_of X G a14, b14⟩
  have E15 := fun_mk (st := st__pieces_of) l15 c15 k15
  have b15 := E15.binds (ps := ["term", "names"]) fun _ _ _ _ _ _ us hl => match us, hl with | [_, _], _ => rfl
  have F15 : Dfn K mg "_pieces_of" st__pieces_of f15 _ ["term", "names"] := ⟨E15, PySem.W.mg_of X G a15, b15⟩
  have E16 := fun_mk (st := st_show_named) l16 c16 k16
  have b16 := E16.binds (ps := ["term", "tops"]) fun _ _ _ _ _ _ us hl => match us, hl with | [_, _], _ => rfl
  have F16 : Dfn K mg "show_named" st_show_named f16 _ ["term", "tops"] := ⟨E16, PySem.W.mg_of X G a16, b16⟩
  have E17 := fun_mk (st := st_show_term) l17 c17 k17
  have b17 := E17.binds (ps := ["term"]) fun _ _ _ _ _ _ us hl => match us, hl with | [_], _ => rfl
  have F17 : Dfn K mg "show_term" st_show_term f17 _ ["term"] := ⟨E17, PySem.W.mg_of X G a17, b17⟩
  have E18 := fun_mk (st := st__law_draws) l18 c18 k18
  have b18 := E18.binds (ps := ["script", "count"]) fun _ _ _ _ _ _ us hl => match us, hl with | [_, _], _ => rfl
  have F18 : Dfn K mg "_law_draws" st__law_draws f18 _ ["script", "count"] := ⟨E18, PySem.W.mg_of X G a18, b18⟩
  have E19 := fun_mk (st := st__law_next) l19 c19 k19
  have b19 := E19.binds (ps := ["draws", "limit"]) fun _ _ _ _ _ _ us hl => match us, hl with | [_, _], _ => rfl
  have F19 : Dfn K mg "_law_next" st__law_next f19 _ ["draws", "limit"] := ⟨E19, PySem.W.mg_of X G a19, b19⟩
  have E20 := fun_mk (st := st__law_new) l20 c20 k20
  have b20 := E20.binds (ps := ["draws"]) fun _ _ _ _ _ _ us hl => match us, hl with | [_], _ => rfl
  have F20 : Dfn K mg "_law_new" st__law_new f20 _ ["draws"] := ⟨E20, PySem.W.mg_of X G a20, b20⟩
  have E21 := fun_mk (st := st__law_shown_rows) l21 c21 k21
  have b21 := E21.binds (ps := ["syntax", "rows"]) fun _ _ _ _ _ _ us hl => match us, hl with | [_, _], _ => rfl
  have F21 : Dfn K mg "_law_shown_rows" st__law_shown_rows f21 _ ["syntax", "rows"] := ⟨E21, PySem.W.mg_of X G a21, b21⟩
  have E22 := fun_mk (st := st__law_calm) l22 c22 k22
  have b22 := E22.binds (ps := ["draws", "depth"]) fun _ _ _ _ _ _ us hl => match us, hl with | [_, _], _ => rfl
  have F22 : Dfn K mg "_law_calm" st__law_calm f22 _ ["draws", "depth"] := ⟨E22, PySem.W.mg_of X G a22, b22⟩
  have E23 := fun_mk (st := st__law_formed) l23 c23 k23
  have b23 := E23.binds (ps := ["draws", "where"]) fun _ _ _ _ _ _ us hl => match us, hl with | [_, _], _ => rfl
  have F23 : Dfn K mg "_law_formed" st__law_formed f23 _ ["draws", "where"] := ⟨E23, PySem.W.mg_of X G a23, b23⟩
  have E24 := fun_mk (st := st__law_plain) l24 c24 k24
  have b24 := E24.binds (ps := ["draws", "depth"]) fun _ _ _ _ _ _ us hl => match us, hl with | [_, _], _ => rfl
  have F24 : Dfn K mg "_law_plain" st__law_plain f24 _ ["draws", "depth"] := ⟨E24, PySem.W.mg_of X G a24, b24⟩
  have E25 := fun_mk (st := st__law_plain_text) l25 c25 k25
  have b25 := E25.binds (ps := ["value"]) fun _ _ _ _ _ _ us hl => match us, hl with | [_], _ => rfl
  have F25 : Dfn K mg "_law_plain_text" st__law_plain_text f25 _ ["value"] := ⟨E25, PySem.W.mg_of X G a25, b25⟩
  have E26 := fun_mk (st := st__law_syntax) l26 c26 k26
  have b26 := E26.binds (ps := ["draws", "depth"]) fun _ _ _ _ _ _ us hl => match us, hl with | [_, _], _ => rfl
  have F26 : Dfn K mg "_law_syntax" st__law_syntax f26 _ ["draws", "depth"] := ⟨E26, PySem.W.mg_of X G a26, b26⟩
  have E27 := fun_mk (st := st__law_syntax_text) l27 c27 k27
  have b27 := E27.binds (ps := ["syntax"]) fun _ _ _ _ _ _ us hl => match us, hl with | [_], _ => rfl
  have F27 : Dfn K mg "_law_syntax_text" st__law_syntax_text f27 _ ["syntax"] := ⟨E27, PySem.W.mg_of X G a27, b27⟩
  have E28 := fun_mk (st := st__law_term) l28 c28 k28
  have b28 := E28.binds (ps := ["draws", "scope", "depth"]) fun _ _ _ _ _ _ us hl => match us, hl with | [_, _, _], _ => rfl
  have F28 : Dfn K mg "_law_term" st__law_term f28 _ ["draws", "scope", "depth"] := ⟨E28, PySem.W.mg_of X G a28, b28⟩
  have E29 := fun_mk (st := st__law_text) l29 c29 k29
  have b29 := E29.binds (ps := ["term", "order"]) fun _ _ _ _ _ _ us hl => match us, hl with | [_, _], _ => rfl
  have F29 : Dfn K mg "_law_text" st__law_text f29 _ ["term", "order"] := ⟨E29, PySem.W.mg_of X G a29, b29⟩
  have E30 := fun_mk (st := st_law) l30 c30 k30
  have b30 := E30.binds (ps := ["script"]) fun _ _ _ _ _ _ us hl => match us, hl with | [_], _ => rfl
  have F30 : Dfn K mg "law" st_law fa _ ["script"] := ⟨E30, PySem.W.mg_of X G a30, b30⟩
  have Em1 := fun_mk (st := st_Names___init__) lm1 cm1 km1
  have bm1 := Em1.binds (ps := ["self", "tops"]) fun _ _ _ _ _ _ us hl => match us, hl with | [_, _], _ => rfl
  have Em2 := fun_mk (st := st_Names_give) lm2 cm2 km2
  have bm2 := Em2.binds (ps := ["self", "variables"]) fun _ _ _ _ _ _ us hl => match us, hl with | [_, _], _ => rfl
  have Fm2 : DfnM K C "give" "Names.give" st_Names_give m2 _ ["self", "variables"] := ⟨Em2, ⟨am2, im2, km2⟩, bm2⟩
  have Em3 := fun_mk (st := st_Names_name_of_top) lm3 cm3 km3
  have bm3 := Em3.binds (ps := ["self", "term"]) fun _ _ _ _ _ _ us hl => match us, hl with | [_, _], _ => rfl
  have Fm3 : DfnM K C "name_of_top" "Names.name_of_top" st_Names_name_of_top m3 _ ["self", "term"] := ⟨Em3, ⟨am3, im3, km3⟩, bm3⟩
  have hE := sq_kt (xs := [.str "list", .non, .non, .int 0, .int 1, .int 1]) lE (by show 6 ≤ sizeLine; decide) (.cons ⟨_, rfl⟩ (.cons rfl (.cons rfl (.cons ⟨_, rfl⟩ (.cons ⟨_, rfl⟩ (.cons ⟨_, rfl⟩ .nil))))))
  have hK := sq_kt (xs := ([("number" : Str), "flag", "text"]).map V.str) lK (by show 3 ≤ sizeLine; decide) (.cons ⟨_, rfl⟩ (.cons ⟨_, rfl⟩ (.cons ⟨_, rfl⟩ .nil)))
  have T : TS8 K mg C m1 pE pK := ⟨⟨pg, hd, po, sa⟩, ⟨mk, am1, im1, kc⟩, PySem.W.mg_of X G aC, n1, n2, PySem.W.mg_of X G aE, PySem.W.mg_of X G aK, hE, hK⟩
  refine ⟨PySem.W.fnOf "law" "law" (defArgs st_law) (defBody st_law) (defScope st_law) .none kV30 dc30 pm30 an30 cd30 ct30, fun s v => .of_eq rfl, fun base _ _ => ?_⟩
  have Cat : Cal l.prog w K mg base 1 "show_atom" spAtom := ok_show_atom F1 M
  have Cpf : Cal l.prog w K mg base 1 "put_in_front" (spFront K) := ok_put_in_front F2 M
  have Clo := ok_list_of F3 M T Cpf
  have Cpo : Cal l.prog w K mg base 1 "parts_of" (spPartsOf K) := ok_parts_of F4 M
  have Cv3 := (value_all F5 M Clo 3)
  have Cv50 := (value_all F5 M Clo 50)
  have Cs3 := (shown_all F6 M T Cat Cpo 3)
  have Cs50 := (shown_all F6 M T Cat Cpo 50)
  have Csp3 : Cal l.prog w K mg base 6 "show_plain" (spShowPlain K 3) := ok_show_plain F7 M Cv3 (Cs3.mono (by decide))
  have Csp50 : Cal l.prog w K mg base 53 "show_plain" (spShowPlain K 50) := ok_show_plain F7 M Cv50 (Cs50.mono (by decide))
  have Cpa := (parts_all F8 F9 M Cat 4).2
  have Cco := ok_show_const F10 M Csp3
  have Csi := ok_show_syntax_in F11 M Cpa
  have Cgi : CalM CX0 l.prog w K mg base 1 C "give" (spGive C K) := ok_give Fm2 M T
  have Cto : CalM CX0 l.prog w K mg base 1 C "name_of_top" (spTop C) := ok_top Fm3 M T
  have Cle : Cal l.prog w K mg base 12 "_show_leaf" (spLeaf C) := ok_leaf F12 M T (Cto.mono (by decide)) (Cco.mono (by decide)) Csi
  have Csc : Cal l.prog w K mg base 1 "_spaced" (spSpaced K) := ok_spaced F14 M
  have Cre := ok_rec F13 M T Cgi
  have Cpi : Cal l.prog w K mg base 13 "_pieces_of" (spPcs C) := ok_pieces F15 M T (Cgi.mono (by decide)) (Csc.mono (by decide)) (Cre.mono (by decide)) Cle
  have CIn : FnOk l.prog w K mg base CX0 1 m1 _ ["self", "tops"] (spInit C) := ok_init Em1 T
  have Cna : Cal l.prog w K mg base 14 "show_named" (spNamed K) := ok_named F16 M T (CIn.mono (by decide)) bm1 Cpi
  have Cst := ok_show_term F17 M Cna
  have Cdr : Cal l.prog w K mg base 1 "_law_draws" (spDraws K) := ok_law_draws F18 M
  have Cn : Cal l.prog w K mg base 1 "_law_next" spNext := ok_next F19 M
  have Cw : Cal l.prog w K mg base 1 "_law_new" spNew := ok_new F20 M
  have Cpl := plain_all F24 M Cn
  have Csy := syntax_all F26 M Cn
  have Cca := calm_all F22 M Cn
  have Cfo : Cal l.prog w K mg base 6 "_law_formed" spFormed := ok_formed F23 M (Cn.mono (by decide)) (Cca 4) ((Csy 2).mono (by decide))
  have Ctm := term_all (k0 := 6) F28 M (Cn.mono (by decide)) (Cw.mono (by decide)) ((Cpl 3).mono (by decide)) ((Csy 3).mono (by decide)) Cfo 7
  have Cpt := pt_all (P := l.prog) (w := w) (base := base) (k0 := 0) F25 M
  have Cstx := st_all (k0 := 1) F27 M ((Cpt 1).mono (by decide)) 5
  have Csr := sr_all (k0 := 6) F21 M (Cstx.mono (by decide)) 5
  have Clt := lt_all (k0 := 11) F29 M ((Cpt 3).mono (by decide)) (Cstx.mono (by decide)) Csr 7
  exact ok_law (k := 53) F30 M (Cdr.mono (by decide)) (Cn.mono (by decide)) (Ctm.mono (by decide)) (Cst.mono (by decide)) (Clt.mono (by decide)) ((Cpl 4).mono (by decide)) Csp50 ((Cpt 50).mono (by decide))
end W8
open PySem PySem.W PyProof.Rows
set_option maxRecDepth 100000 in
set_option maxHeartbeats 0 in
theorem PySem.Challenge.cw_wherewritten_k18_shown_terms_holds : PySem.Challenge.rw_wherewritten_k18_shown_terms.Holds := by
  w_on; o_law; k_head; (case hw => w_witness2)
  k_fill
  refine L2.walk_of (l := PySem.Challenge.rw_wherewritten_k18_shown_terms) (n := 63) (k := 54) (x := "script") (CX := fun _ => L2.CX0) (sp := fun w => W8.spLaw _) rfl (by decide) rfl ⟨rfl, by decide, by decide⟩ (fun w h Y => PySem.W.kIn_of Y) ?F (fun w H a ns hl hO hS => ⟨a, ns, rfl, hS, Nat.le_trans hl (by decide), fun _ => rfl⟩) (fun _ _ _ _ _ h => h)
  case F =>
    intro w mg fa h KX G hmg
    refine' W8.all_mk KX G hmg ?a1 ?l1 ?c1 ?k1 ?a2 ?l2 ?c2 ?k2 ?a3 ?l3 ?c3 ?k3 ?a4 ?l4 ?c4 ?k4 ?a5 ?l5 ?c5 ?k5 ?a6 ?l6 ?c6 ?k6 ?a7 ?l7 ?c7 ?k7 ?a8 ?l8 ?c8 ?k8 ?a9 ?l9 ?c9 ?k9 ?a10 ?l10 ?c10 ?k10 ?a11 ?l11 ?c11 ?k11 ?a12 ?l12 ?c12 ?k12 ?a13 ?l13 ?c13 ?k13 ?a14 ?l14 ?c14 ?k14 ?a15 ?l15 ?c15 ?k15 ?a16 ?l16 ?c16 ?k16 ?a17 ?l17 ?c17 ?k17 ?a18 ?l18 ?c18 ?k18 ?a19 ?l19 ?c19 ?k19 ?a20 ?l20 ?c20 ?k20 ?a21 ?l21 ?c21 ?k21 ?a22 ?l22 ?c22 ?k22 ?a23 ?l23 ?c23 ?k23 ?a24 ?l24 ?c24 ?k24 ?a25 ?l25 ?c25 ?k25 ?a26 ?l26 ?c26 ?k26 ?a27 ?l27 ?c27 ?k27 ?a28 ?l28 ?c28 ?k28 ?a29 ?l29 ?c29 ?k29 ?a30 ?l30 ?c30 ?k30 ?am1 ?im1 ?lm1 ?cm1 ?km1 ?am2 ?im2 ?lm2 ?cm2 ?km2 ?am3 ?im3 ?lm3 ?cm3 ?km3 ?aC ?aE ?aK ?lE ?lK ?pg ?hd ?po ?sa ?mk ?kc ?n1 ?n2 ?z1 ?z2 ?z3 ?z4 ?z5 ?z6 ?z7 ?z8 ?z9
    (case aC => k_is)
    (case aE => k_is)
    (case aK => k_is)
    (case a1 => k_is)
    (case l1 => k_is)
    (case c1 => k_is)
    (case k1 => k_is)
    (case a2 => k_is)
    (case l2 => k_is)
    (case c2 => k_is)
    (case k2 => k_is)
    (case a3 => k_is)
    (case l3 => k_is)
    (case c3 => k_is)
    (case k3 => k_is)
    (case a4 => k_is)
    (case l4 => k_is)
    (case c4 => k_is)
    (case k4 => k_is)
    (case a5 => k_is)
    (case l5 => k_is)
    (case c5 => k_is)
    (case k5 => k_is)
    (case a6 => k_is)
    (case l6 => k_is)
    (case c6 => k_is)
    (case k6 => k_is)
    (case a7 => k_is)
    (case l7 => k_is)
    (case c7 => k_is)
    (case k7 => k_is)
    (case a8 => k_is)
    (case l8 => k_is)
    (case c8 => k_is)
    (case k8 => k_is)
    (case a9 => k_is)
    (case l9 => k_is)
    (case c9 => k_is)
    (case k9 => k_is)
    (case a10 => k_is)
    (case l10 => k_is)
    (case c10 => k_is)
    (case k10 => k_is)
    (case a11 => k_is)
    (case l11 => k_is)
    (case c11 => k_is)
    (case k11 => k_is)
    (case a12 => k_is)
    (case l12 => k_is)
    (case c12 => k_is)
    (case k12 => k_is)
    (case a13 => k_is)
    (case l13 => k_is)
    (case c13 => k_is)
    (case k13 => k_is)
    (case a14 => k_is)
    (case l14 => k_is)
    (case c14 => k_is)
    (case k14 => k_is)
    (case a15 => k_is)
    (case l15 => k_is)
    (case c15 => k_is)
    (case k15 => k_is)
    (case a16 => k_is)
    (case l16 => k_is)
    (case c16 => k_is)
    (case k16 => k_is)
    (case a17 => k_is)
    (case l17 => k_is)
    (case c17 => k_is)
    (case k17 => k_is)
    (case a18 => k_is)
    (case l18 => k_is)
    (case c18 => k_is)
    (case k18 => k_is)
    (case a19 => k_is)
    (case l19 => k_is)
    (case c19 => k_is)
    (case k19 => k_is)
    (case a20 => k_is)
    (case l20 => k_is)
    (case c20 => k_is)
    (case k20 => k_is)
    (case a21 => k_is)
    (case l21 => k_is)
    (case c21 => k_is)
    (case k21 => k_is)
    (case a22 => k_is)
    (case l22 => k_is)
    (case c22 => k_is)
    (case k22 => k_is)
    (case a23 => k_is)
    (case l23 => k_is)
    (case c23 => k_is)
    (case k23 => k_is)
    (case a24 => k_is)
    (case l24 => k_is)
    (case c24 => k_is)
    (case k24 => k_is)
    (case a25 => k_is)
    (case l25 => k_is)
    (case c25 => k_is)
    (case k25 => k_is)
    (case a26 => k_is)
    (case l26 => k_is)
    (case c26 => k_is)
    (case k26 => k_is)
    (case a27 => k_is)
    (case l27 => k_is)
    (case c27 => k_is)
    (case k27 => k_is)
    (case a28 => k_is)
    (case l28 => k_is)
    (case c28 => k_is)
    (case k28 => k_is)
    (case a29 => k_is)
    (case l29 => k_is)
    (case c29 => k_is)
    (case k29 => k_is)
    (case a30 => k_is)
    (case l30 => k_is)
    (case c30 => k_is)
    (case k30 => k_is)
    (case am1 => k_is)
    (case im1 => k_is)
    (case lm1 => k_is)
    (case cm1 => k_is)
    (case km1 => k_is)
    (case am2 => k_is)
    (case im2 => k_is)
    (case lm2 => k_is)
    (case cm2 => k_is)
    (case km2 => k_is)
    (case am3 => k_is)
    (case im3 => k_is)
    (case lm3 => k_is)
    (case cm3 => k_is)
    (case km3 => k_is)
    (case lE => k_is)
    (case lK => k_is)
    (case pg => k_is)
    (case hd => k_is)
    (case po => k_is)
    (case sa => k_is)
    (case mk => k_is)
    (case kc => k_is)
    (case n1 => k_is)
    (case n2 => k_is)
    (case z1 => k_is)
    (case z2 => k_is)
    (case z3 => k_is)
    (case z4 => k_is)
    (case z5 => k_is)
    (case z6 => k_is)
    (case z7 => k_is)
    (case z8 => k_is)
    (case z9 => k_is)
