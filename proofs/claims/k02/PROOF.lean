import PyProof.Rows.All
import Wide.All
import OpenK.AllK
import Wide.FinOn
import HandS.Base
import HandS.Call
import HandS.List
import HandS.Words
import HandS.WordsList
import HandS.WordsDict
import HandS.Comp
import HandS.Dict
import HandS.Iter
import HandS.Ends
import HandS.IsInst
import HandS.Deep
import HandS.Style
import HandS.Flow
import HandS.TupAny
import HandS.SortInts
import HandS.EndTab
import KE.SortData
import HandS.ExcInit
import HandS.ExcField
import HandS.ExcOwn
import HandS.TryOnly
import HandS.WordsExc
import HandS.Text
import HandS.Codes
import HandS.Steps
import HandS.StrMore
import KE.IntTextLaws
import HandS.AnyAll
import PyProof.StrOps2
import HandS.WrittenGet
import PySem.Challenge.RW_wherewritten_k02_forms_and_their_texts
import HandS.FStr
import KE.IntTextText
import KE.KNest
set_option Elab.async false
set_option linter.all false
set_option maxRecDepth 100000
set_option maxHeartbeats 4000000
namespace Com
open PySem PySem.Spec PyProof.Rows L2
/-! data that are tuples all the way down -/
mutual
inductive Dt (H : Hp) : V → PyData → Prop
  | non : Dt H .non .none
  | bl (b : Bool) : Dt H (.bl b) (.bool b)
  | int (i : Int) : Dt H (.int i) (.int i)
  | str (x : Str) : Dt H (.str x) (.str x)
  | tup {a : Addr} {xs : List V} {ds : List PyData} : H a = some (.tup xs) → DtAll H xs ds → Dt H (.ref a) (.tuple ds)
inductive DtAll (H : Hp) : List V → List PyData → Prop
  | nil : DtAll H [] []
  | cons {v : V} {vs : List V} {d : PyData} {ds : List PyData} : Dt H v d → DtAll H vs ds → DtAll H (v :: vs) (d :: ds)
end
/-- the tuples stand -/
def Tk (H H' : Hp) : Prop := ∀ a xs, H a = some (.tup xs) → H' a = some (.tup xs)
theorem Tk.refl (H : Hp) : Tk H H := fun _ _ h => h
theorem Tk.trans {H1 H2 H3 : Hp} (a : Tk H1 H2) (b : Tk H2 H3) : Tk H1 H3 := fun c xs h => b c xs (a c xs h)
theorem Tk.upd {H : Hp} {a : Addr} {o : HO} (h : ∀ xs, H a ≠ some (.tup xs)) : Tk H (upd H a o) := fun b xs e => by
  have : b ≠ a := fun z => h xs (z ▸ e)
  rw [upd_ne this]
  exact e
theorem Tk.new {H : Hp} {a : Addr} {o : HO} (h : H a = none) : Tk H (L2.upd H a o) := Tk.upd fun xs e => by rw [h] at e; cases e
mutual
theorem Dt.mono {H H' : Hp} (k : Tk H H') : ∀ (d : PyData) (v : V), Dt H v d → Dt H' v d
  | .none, _, h => by cases h; exact .non
  | .bool _, _, h => by cases h; exact .bl _
  | .int _, _, h => by cases h; exact .int _
  | .str _, _, h => by cases h; exact .str _
  | .list _, _, h => by cases h
  | .tuple ds, _, h => by
    cases h with
    | tup e q => exact .tup (k _ _ e) (DtAll.mono k ds _ q)
  | .dict _, _, h => by cases h
theorem DtAll.mono {H H' : Hp} (k : Tk H H') : ∀ (ds : List PyData) (vs : List V), DtAll H vs ds → DtAll H' vs ds
  | [], _, h => by cases h; exact .nil
  | d :: ds, _, h => by
    cases h with
    | cons h1 h2 => exact .cons (Dt.mono k d _ h1) (DtAll.mono k ds _ h2)
end
theorem Dt.tk {H H' : Hp} {v : V} {d : PyData} (h : Dt H v d) (k : Tk H H') : Dt H' v d := Dt.mono k d v h
theorem DtAll.tk {H H' : Hp} {v : List V} {d : List PyData} (h : DtAll H v d) (k : Tk H H') : DtAll H' v d := DtAll.mono k d v h
mutual
theorem Dt.toDp {K : PySem.W.Frag} {H : Hp} : ∀ (d : PyData) (v : V), Dt H v d → Dp K H v d
  | .none, _, h => by cases h; exact .non
  | .bool _, _, h => by cases h; exact .bl _
  | .int _, _, h => by cases h; exact .int _
  | .str _, _, h => by cases h; exact .str _
  | .list _, _, h => by cases h
  | .tuple ds, _, h => by
    cases h with
    | tup e q => exact .tup (SqT.of e) (DtAll.toDp ds _ q)
  | .dict _, _, h => by cases h
theorem DtAll.toDp {K : PySem.W.Frag} {H : Hp} : ∀ (ds : List PyData) (vs : List V), DtAll H vs ds → DpAll K H vs ds
  | [], _, h => by cases h; exact .nil
  | d :: ds, _, h => by
    cases h with
    | cons h1 h2 => exact .cons (Dt.toDp d _ h1) (DtAll.toDp ds _ h2)
end
theorem Dt.dp {K : PySem.W.Frag} {H : Hp} {v : V} {d : PyData} (h : Dt H v d) : Dp K H v d := Dt.toDp d v h
theorem DtAll.dp {K : PySem.W.Frag} {H : Hp} {v : List V} {d : List PyData} (h : DtAll H v d) : DpAll K H v d := DtAll.toDp d v h
theorem DtAll.len {H : Hp} : ∀ {vs : List V} {ds : List PyData}, DtAll H vs ds → vs.length = ds.length
  | _, _, .nil => rfl
  | _, _, .cons _ h => congrArg (· + 1) h.len
theorem DtAll.get {H : Hp} : ∀ {vs : List V} {ds : List PyData} {i : Nat} {x : V}, DtAll H vs ds → vs[i]? = some x → ∃ d, ds[i]? = some d ∧ Dt H x d
  | _, _, _, _, .nil, e => by simp at e
  | _, _, 0, _, .cons h _, e => by
    simp at e
    subst e
    exact ⟨_, rfl, h⟩
  | _, _, i + 1, _, .cons _ t, e => by
    have e' := e
    simp only [List.getElem?_cons_succ] at e'
    obtain ⟨d, h1, h2⟩ := DtAll.get t e'
    exact ⟨d, by simpa using h1, h2⟩
theorem DtAll.at {H : Hp} {vs : List V} {ds : List PyData} {i : Nat} {d : PyData} (h : DtAll H vs ds) (e : ds[i]? = some d) : ∃ x, vs[i]? = some x ∧ Dt H x d := by
  have hi := (List.getElem?_eq_some_iff.mp e).1
  have hv : i < vs.length := by rw [h.len]; exact hi
  obtain ⟨d', e', q⟩ := h.get (List.getElem?_eq_getElem hv)
  rw [e] at e'
  cases e'
  exact ⟨_, List.getElem?_eq_getElem hv, q⟩
theorem DtAll.get_map {H : Hp} {α : Type} {f : α → PyData} {l : List α} {vs : List V} {i : Nat} {x : V} (h : DtAll H vs (l.map f)) (e : vs[i]? = some x) : ∃ a, l[i]? = some a ∧ Dt H x (f a) := by
  obtain ⟨d, h1, h2⟩ := h.get e
  rw [List.getElem?_map] at h1
  cases q : l[i]? with
  | none => rw [q] at h1; cases h1
  | some a =>
    rw [q] at h1
    cases h1
    exact ⟨a, rfl, h2⟩
theorem DtAll.app {H : Hp} : ∀ {vs ws : List V} {ds es : List PyData}, DtAll H vs ds → DtAll H ws es → DtAll H (vs ++ ws) (ds ++ es)
  | _, _, _, _, .nil, s => s
  | _, _, _, _, .cons r t, s => .cons r (t.app s)
theorem DtAll.one {H : Hp} {v : V} {d : PyData} (h : Dt H v d) : DtAll H [v] [d] := .cons h .nil
theorem Dt.intE {H : Hp} {v : V} {i : Int} (h : Dt H v (.int i)) : v = .int i := by cases h; rfl
theorem Dt.strE {H : Hp} {v : V} {x : Str} (h : Dt H v (.str x)) : v = .str x := by cases h; rfl
theorem Dt.nonE {H : Hp} {v : V} (h : Dt H v .none) : v = .non := by cases h; rfl
theorem Dt.blE {H : Hp} {v : V} {b : Bool} (h : Dt H v (.bool b)) : v = .bl b := by cases h; rfl
theorem Dt.tupE {H : Hp} {v : V} {ds : List PyData} (h : Dt H v (.tuple ds)) : ∃ a xs, v = .ref a ∧ H a = some (.tup xs) ∧ DtAll H xs ds := by
  cases h with
  | tup e q => exact ⟨_, _, rfl, e, q⟩
theorem DtAll.consE {H : Hp} {vs : List V} {d : PyData} {ds : List PyData} (h : DtAll H vs (d :: ds)) : ∃ x r, vs = x :: r ∧ Dt H x d ∧ DtAll H r ds := by
  cases h with
  | cons h1 h2 => exact ⟨_, _, rfl, h1, h2⟩
theorem DtAll.nilE {H : Hp} {vs : List V} (h : DtAll H vs []) : vs = [] := by cases h; rfl
/-! == of data without truth values is their being one -/
mutual
def pl : PyData → Bool
  | .none | .int _ | .str _ => true
  | .bool _ | .dict _ => false
  | .list xs | .tuple xs => plAll xs
def plAll : List PyData → Bool
  | [] => true
  | x :: xs => pl x && plAll xs
end
mutual
theorem eqv_pl : ∀ (d e : PyData), pl d = true → pl e = true → (PyData.eqv d e = true ↔ d = e)
  | .none, e, _, h => by cases e <;> simp [PyData.eqv, pl] at h ⊢
  | .int i, e, _, h => by cases e <;> simp [PyData.eqv, pl] at h ⊢
  | .str i, e, _, h => by cases e <;> simp [PyData.eqv, pl] at h ⊢
  | .bool b, _, h, _ => by simp [pl] at h
  | .dict b, _, h, _ => by simp [pl] at h
  | .list xs, e, h, h' => by
    cases e with
    | list ys =>
      have q := eqvAll_pl xs ys (by simpa [pl] using h) (by simpa [pl] using h')
      simp only [PyData.eqv, PyData.list.injEq]
      exact q
    | _ => simp [PyData.eqv]
  | .tuple xs, e, h, h' => by
    cases e with
    | tuple ys =>
      have q := eqvAll_pl xs ys (by simpa [pl] using h) (by simpa [pl] using h')
      simp only [PyData.eqv, PyData.tuple.injEq]
      exact q
    | _ => simp [PyData.eqv]
theorem eqvAll_pl : ∀ (d e : List PyData), plAll d = true → plAll e = true → (PyData.eqvAll d e = true ↔ d = e)
  | [], e, _, _ => by cases e <;> simp [PyData.eqvAll]
  | x :: xs, [], _, _ => by simp [PyData.eqvAll]
  | x :: xs, y :: ys, h, h' => by
    simp only [plAll, Bool.and_eq_true] at h h'
    simp only [PyData.eqvAll, Bool.and_eq_true, List.cons.injEq]
    rw [eqv_pl x y h.1 h'.1, eqvAll_pl xs ys h.2 h'.2]
end
theorem any_pl {ds : List PyData} {d : PyData} (h : plAll ds = true) (hd : pl d = true) : (ds.any fun z => PyData.eqv z d) = true ↔ d ∈ ds := by
  induction ds with
  | nil => simp
  | cons x xs ih =>
    simp only [plAll, Bool.and_eq_true] at h
    rw [List.any_cons, Bool.or_eq_true, ih h.2, eqv_pl x d h.1 hd, List.mem_cons]
    constructor
    · rintro (q | q)
      · exact .inl q.symm
      · exact .inr q
    · rintro (q | q)
      · exact .inl q.symm
      · exact .inr q
/-! in, not in, of a tuple of data -/
section
variable {X : Cx}
def rInT (K : PySem.W.Frag) : R2 := fun x y H Q => ∃ d ds, Dp K H x d ∧ Dp K H y (.tuple ds) ∧ SeqAt.shaped d = true ∧ SeqAt.shaped (.tuple ds) = true ∧ Q (.bl (ds.any fun z => PyData.eqv z d)) H
def rNotInT (K : PySem.W.Frag) : R2 := fun x y H Q => ∃ d ds, Dp K H x d ∧ Dp K H y (.tuple ds) ∧ SeqAt.shaped d = true ∧ SeqAt.shaped (.tuple ds) = true ∧ Q (.bl (!ds.any fun z => PyData.eqv z d)) H
theorem room_in {A : Around} {d : PyData} {ds : List PyData} (sd : SeqAt.shaped d = true) (hu : A.units + 65 < cLine) : A.units + 1 + min (PyData.depthAll ds) d.depth < cLine := by
  have h : d.depth ≤ 64 := by
    have q : (d.canLay0 && decide (d.depth ≤ 64)) = true := sd
    rw [Bool.and_eq_true] at q
    exact of_decide_eq_true q.2
  have := Nat.min_le_right (PyData.depthAll ds) d.depth
  omega
theorem op_inT (hu : X.A.units + 65 < cLine) : OpR X (compareOp .In) (rInT X.K) := by
  intro pins s σ H x y v u Q I rx ry h
  obtain ⟨d, ds, hd, he, sd, se, q⟩ := h
  obtain ⟨as, r1⟩ := Dp.reads I d x v hd rx
  obtain ⟨bs, r2⟩ := Dp.reads I (.tuple ds) y u he ry
  exact SeqAt.in_tuple_reads r2 r1 (SeqAt.canLay_of_shaped se) (SeqAt.canLay_of_shaped sd) (room_in sd hu) ⟨.bl _, H, I, rfl, q⟩
theorem op_notInT (hu : X.A.units + 65 < cLine) : OpR X (compareOp .NotIn) (rNotInT X.K) := by
  intro pins s σ H x y v u Q I rx ry h
  obtain ⟨d, ds, hd, he, sd, se, q⟩ := h
  obtain ⟨as, r1⟩ := Dp.reads I d x v hd rx
  obtain ⟨bs, r2⟩ := Dp.reads I (.tuple ds) y u he ry
  exact SeqAt.notIn_tuple_reads r2 r1 (SeqAt.canLay_of_shaped se) (SeqAt.canLay_of_shaped sd) (room_in sd hu) ⟨.bl _, H, I, rfl, q⟩
theorem units65 {k : Nat} {A : Around} (r : Room k A) : A.units + 65 < cLine := by have := r.un; omega
end
end Com
set_option Elab.async false
set_option linter.all false
set_option maxRecDepth 100000
set_option maxHeartbeats 4000000
namespace Com
open PySem PySem.Spec PyProof.Rows L2
theorem b_len : bootBuiltins "len" = some (.builtin "len") := by decide +kernel
theorem b_abs : bootBuiltins "abs" = some (.builtin "abs") := by decide +kernel
theorem b_int : bootBuiltins "int" = some (.type "int") := by decide +kernel
theorem b_bool : bootBuiltins "bool" = some (.type "bool") := by decide +kernel
theorem b_str : bootBuiltins "str" = some (.type "str") := by decide +kernel
theorem b_tuple : bootBuiltins "tuple" = some (.type "tuple") := by decide +kernel
theorem b_list : bootBuiltins "list" = some (.type "list") := by decide +kernel
theorem b_dict : bootBuiltins "dict" = some (.type "dict") := by decide +kernel
theorem b_range : bootBuiltins "range" = some (.type "range") := by decide +kernel
theorem b_enumerate : bootBuiltins "enumerate" = some (.type "enumerate") := by decide +kernel
theorem b_isinstance : bootBuiltins "isinstance" = some (.builtin "isinstance") := by decide +kernel
theorem b_sorted : bootBuiltins "sorted" = some (.builtin "sorted") := by decide +kernel
theorem b_any : bootBuiltins "any" = some (.builtin "any") := by decide +kernel
theorem b_all : bootBuiltins "all" = some (.builtin "all") := by decide +kernel
theorem b_max : bootBuiltins "max" = some (.builtin "max") := by decide +kernel
theorem b_min : bootBuiltins "min" = some (.builtin "min") := by decide +kernel
/-! defs by name -/
structure Dfn (K : PySem.W.Frag) (mg : Str → Option Value) (x : Str) (st : Stmt) (f : Addr) (fd : FuncData) (ps : List Str) : Prop where
  fn : Fun K x x st f fd
  mgf : mg x = some (.ref f)
  b : Binds K fd ps []
def Cal (P : Program) (w : World) (K : PySem.W.Frag) (mg : Str → Option Value) (base : Heap) (k : Nat) (x : Str) (sp : Sp) : Prop :=
  ∃ (f : Addr) (fd : FuncData) (ps : List Str), FnOk P w K mg base CX0 k f fd ps sp ∧ mg x = some (.ref f) ∧ PySem.W.keepIn K (.ref f) = true ∧ Binds K fd ps []
section
variable {P : Program} {w : World} {K : PySem.W.Frag} {mg : Str → Option Value} {base : Heap}
theorem Cal.mono {j k : Nat} {x : Str} {sp : Sp} (c : Cal P w K mg base j x sp) (h : j ≤ k) : Cal P w K mg base k x sp := by
  obtain ⟨f, fd, ps, F, r⟩ := c
  exact ⟨f, fd, ps, F.mono h, r⟩
theorem Cal.imp {k : Nat} {x : Str} {sp sp' : Sp} (c : Cal P w K mg base k x sp) (h : ∀ vs H Q E, sp' vs H Q E → sp vs H Q E) : Cal P w K mg base k x sp' := by
  obtain ⟨f, fd, ps, F, r⟩ := c
  exact ⟨f, fd, ps, F.imp h, r⟩
theorem cal_mk {x : Str} {st : Stmt} {f : Addr} {fd : FuncData} {N ps : List Str} {k : Nat} {sp : Sp} (F : Dfn K mg x st f fd ps) (S : FnScope N ps (defScope st)) (len : ∀ vs H Q E, sp vs H Q E → vs.length = ps.length)
    (hbody : ∀ (cdv : Value) (A : Around) (outer : List Env) (s : Shared) (H : Hp) (vs : List V) (Q : VK) (E : XK), Room k (A.deeper (envOfC x (defScope st) s.heap.objs.size f cdv)) → sp vs H Q E →
      ∃ t, PSs (cxOf CX0 P w K mg base N x (defScope st) f cdv A outer s H E).nox (defBody st) t ∧ t { nx := fun _ H' => Q .non H', rt := Q } (start N vs) H) : Cal P w K mg base (k + 1) x sp :=
  ⟨f, fd, ps, F.fn.ok S len hbody, F.mgf, F.fn.kp, F.b⟩
end
section
variable {X : Cx} {k j : Nat} {x : Str} {sp : Sp} {p pos : Pos} {e : Expr} {es : List Expr} {t : TA}
theorem pe_c (c : Cal X.prog X.w X.K X.mg X.base k x sp) (hr : Room j X.A) (hk : k ≤ j) (hg : Gl X x) (ha : PA X (e :: es) t)
    (hdb : (x == ("__debug__" : Str)) = false := by decide) (he : starEach (e :: es) X.env = (false, eval e X.env) :: starEach es X.env := by rfl) (hpl : (backTo pos (starEach es X.env)).any (·.1) = false := by rfl) :
    PE X (.Call (.Name x p) (e :: es) [] pos) (tCall sp [] E0 t) := by
  obtain ⟨f, fd, ps, F, hm, kp, b⟩ := c
  exact pe_call F (hr.mono hk) hg hm kp b .nil pass0 ha hdb he hpl
end
/-! sorted of a list of data -/
section
variable {X : Cx}
def rSortedD (K : PySem.W.Frag) : List V → Hp → VK → Prop := fun xs H Q => ∃ (a : Addr) (vs : List V) (ds : List PyData), xs = [.ref a] ∧ SqL K H a vs ∧ DpAll K H vs ds ∧ PySem.W.AllAlike ds ∧ PySem.W.Sortable ds ∧ (∀ d ∈ ds, d.depth ≤ 8) ∧
  ∀ p, H p = none → Q (.ref p) (upd H p (.lst (((vs.zip ds).mergeSort (PySem.W.dataLe false Prod.snd)).map Prod.fst)))
theorem each_zip {h : Heap} : ∀ {vs : List V} {us : List Value} {ds : List PyData}, Vals vs us → vs.length = ds.length → PySem.W.EachIs (fun (v : Value) (b : V × PyData) => RelV b.1 v) us (vs.zip ds)
  | _, _, [], .nil, _ => .nil
  | _, _, d :: ds, .cons r t, e => .cons r (each_zip (h := h) t (by simpa using e))
theorem each_zip_reads {h : Heap} : ∀ {vs : List V} {us : List Value} {ds : List PyData} {as : List Addr}, vs.length = ds.length → ReadsAll h us ds as → PySem.W.EachIs (fun (v : Value) (b : V × PyData) => ∃ as, Reads h v b.2 as) us (vs.zip ds)
  | [], _, [], _, _, r => by cases r; exact .nil
  | v :: vs, _, d :: ds, _, e, r => by
    cases r with
    | cons h1 h2 => exact .cons ⟨_, h1⟩ (each_zip_reads (by simpa using e) h2)
theorem vals_of_each : ∀ {out : List Value} {bs : List (V × PyData)}, PySem.W.EachIs (fun (v : Value) (b : V × PyData) => RelV b.1 v) out bs → Vals (bs.map Prod.fst) out
  | _, _, .nil => .nil
  | _, _, .cons h t => .cons h (vals_of_each t)
theorem zip_snd {vs : List V} {ds : List PyData} (e : vs.length = ds.length) : (vs.zip ds).map Prod.snd = ds := by
  rw [List.map_snd_zip]
  omega
theorem DpAll_len {K : PySem.W.Frag} {H : Hp} : ∀ {vs : List V} {ds : List PyData}, DpAll K H vs ds → vs.length = ds.length
  | _, _, .nil => rfl
  | _, _, .cons _ h => congrArg (· + 1) (DpAll_len h)
theorem call_sortedD (hu : X.A.units + 65 < cLine) : CallR X (.builtin "sorted") (rSortedD X.K) := by
  intro pins s σ H xs us Q I r h
  obtain ⟨a, vs, ds, rfl, hl, hd, hal, hk, hdp, q⟩ := h
  obtain ⟨u, rfl, ru⟩ := vals1 r
  cases (show u = Value.ref a from ru)
  obtain ⟨its, rv, pl, hlen⟩ := I.list hl
  obtain ⟨as, rd⟩ := Dp.readsAll I ds vs its hd rv
  have el := DpAll_len hd
  have es := zip_snd el
  refine PySem.W.sorted_data (R := fun (v : Value) (b : V × PyData) => RelV b.1 v) (enc := Prod.snd) (bs := vs.zip ds) (vs := its) pl.isList (each_zip (h := s.heap) rv el) (each_zip_reads el rd) (by rw [es]; exact hal) (by rw [es]; exact hk) (by rw [List.length_zip]; omega) (fun b hb => ?_) fun out ho eo => ?_
  · have hb2 : b.2 ∈ ds := by
      rw [← es]
      exact List.mem_map.mpr ⟨b, hb, rfl⟩
    have := hdp _ hb2
    omega
  · obtain ⟨ep, he'⟩ := PyProof.Rows.sortedAll_at s.heap its (List.toArray out)
    refine ⟨.ref _, upd H (s.heap.objs.size + 1) (.lst (((vs.zip ds).mergeSort (PySem.W.dataLe false Prod.snd)).map Prod.fst)), I.laid (t' := s.toks) (fun _ _ => PyProof.Rows.sortedAll_old) (Nat.le_succ _) ⟨?_, out, ep, vals_of_each eo, he'⟩, rfl, q _ (I.hok.fresh (Nat.le_succ _))⟩
    rw [List.length_map, List.length_mergeSort, List.length_zip]
    omega
end
/-! sorted lists told by what they are made of -/
theorem DtAll.of_pairs {H : Hp} {α : Type} {f : α → PyData} : ∀ {zs : List (V × α)}, (∀ z ∈ zs, Dt H z.1 (f z.2)) → DtAll H (zs.map Prod.fst) ((zs.map Prod.snd).map f)
  | [], _ => .nil
  | z :: zs, h => .cons (h z List.mem_cons_self) (DtAll.of_pairs fun y hy => h y (List.mem_cons_of_mem _ hy))
theorem DtAll.pairs {H : Hp} {α : Type} {f : α → PyData} : ∀ {vs : List V} {l : List α}, DtAll H vs (l.map f) → ∀ z ∈ vs.zip l, Dt H z.1 (f z.2)
  | [], _, _, z, hz => by simp at hz
  | v :: vs, [], h, z, hz => by simp at hz
  | v :: vs, a :: l, h, z, hz => by
    have h' : DtAll H (v :: vs) (f a :: l.map f) := h
    cases h' with
    | cons h1 h2 =>
      rw [List.zip_cons_cons] at hz
      rcases List.mem_cons.mp hz with e | hz
      · rw [e]; exact h1
      · exact DtAll.pairs h2 z hz
theorem zip_map_r {α β γ : Type} (f : β → γ) : ∀ (vs : List α) (l : List β), vs.zip (l.map f) = (vs.zip l).map fun p => (p.1, f p.2)
  | [], _ => by simp
  | _ :: _, [] => by simp
  | v :: vs, a :: l => by simp [zip_map_r f vs l]
/-- the list of an encoded list, sorted, stands for the sorted list -/
theorem sorted_enc {H : Hp} {α : Type} {f : α → PyData} {vs : List V} {l : List α} (h : DtAll H vs (l.map f)) :
    DtAll H (((vs.zip (l.map f)).mergeSort (PySem.W.dataLe false Prod.snd)).map Prod.fst) ((l.mergeSort (PySem.W.dataLe false f)).map f) := by
  have el : vs.length = l.length := by rw [h.len, List.length_map]
  rw [zip_map_r]
  rw [← PySem.W.sort_maps (r := PySem.W.dataLe false fun p : V × α => f p.2) (s := PySem.W.dataLe false Prod.snd) (fun p : V × α => (p.1, f p.2)) (fun _ _ _ _ => rfl), List.map_map]
  have e2 : (l.mergeSort (PySem.W.dataLe false f)) = ((vs.zip l).mergeSort (PySem.W.dataLe false fun p : V × α => f p.2)).map Prod.snd := by
    rw [PySem.W.sort_maps (r := PySem.W.dataLe false fun p : V × α => f p.2) (s := PySem.W.dataLe false f) Prod.snd (fun _ _ _ _ => rfl), List.map_snd_zip (by omega)]
  rw [e2]
  exact DtAll.of_pairs fun z hz => DtAll.pairs h z (by rw [List.mem_mergeSort] at hz; exact hz)
/-- lists of whole numbers -/
def natV (l : List Nat) : List V := l.map fun n => .int (n : Nat)
theorem nat_dt (H : Hp) : ∀ l : List Nat, DtAll H (natV l) (l.map fun n => .int (n : Nat))
  | [] => .nil
  | n :: l => .cons (.int _) (nat_dt H l)
theorem dt_nat {H : Hp} : ∀ {l : List Nat} {vs : List V}, DtAll H vs (l.map fun n => PyData.int (n : Nat)) → vs = natV l
  | [], _, h => by cases h; rfl
  | n :: l, _, h => by
    have h' : DtAll H _ (PyData.int (n : Nat) :: l.map fun n => PyData.int (n : Nat)) := h
    cases h' with
    | cons h1 h2 =>
      rw [h1.intE, dt_nat h2]
      rfl
theorem natV_get {l : List Nat} {i : Nat} {v : V} (h : (natV l)[i]? = some v) : ∃ n, l[i]? = some n ∧ v = .int (n : Nat) := by
  unfold natV at h
  rw [List.getElem?_map] at h
  cases e : l[i]? with
  | none => rw [e] at h; cases h
  | some n => rw [e] at h; exact ⟨n, rfl, (Option.some.inj h).symm⟩
theorem natV_at {l : List Nat} {i n : Nat} (h : l[i]? = some n) : (natV l)[i]? = some (.int (n : Nat)) := by
  unfold natV
  rw [List.getElem?_map, h]
  rfl
theorem natV_app (l m : List Nat) : natV (l ++ m) = natV l ++ natV m := List.map_append
theorem natV_len (l : List Nat) : (natV l).length = l.length := List.length_map _
/-! rules with the written part named: for comprehensions' blocks, too -/
section
variable {X : Cx} (K : PySem.W.Frag)
theorem ixT (h : X.K = K) : IxR X (rIxT K) := h ▸ ix_tup
theorem ixL (h : X.K = K) : IxR X (rIxL K) := h ▸ ix_list
theorem ixQ (h : X.K = K) : IxR X (rIx K) := h ▸ ix_seq
theorem opInT (h : X.K = K) (hu : X.A.units + 65 < cLine) : OpR X (compareOp .In) (rInT K) := h ▸ op_inT hu
theorem opNotInT (h : X.K = K) (hu : X.A.units + 65 < cLine) : OpR X (compareOp .NotIn) (rNotInT K) := h ▸ op_notInT hu
theorem opInD (h : X.K = K) (hu : X.A.units + 65 < cLine) : OpR X (compareOp .In) (rInD K) := h ▸ op_inD hu
theorem opNotInD (h : X.K = K) (hu : X.A.units + 65 < cLine) : OpR X (compareOp .NotIn) (rNotInD K) := h ▸ op_notInD hu
theorem opEqD (h : X.K = K) (hu : X.A.units + 64 < cLine) : OpR X (compareOp .Eq) (rEqD K) := h ▸ op_eqD hu
theorem opNeD (h : X.K = K) (hu : X.A.units + 64 < cLine) : OpR X (compareOp .NotEq) (rNeD K) := h ▸ op_neD hu
theorem opCatT (h : X.K = K) : OpR X (binaryOp .Add) (rCatT K) := h ▸ op_catT
def rLen (K : PySem.W.Frag) : List V → Hp → VK → Prop := fun xs H Q => ∃ p ys, xs = [.ref p] ∧ (SqL K H p ys ∨ SqT K H p ys) ∧ Q (.int ys.length) H
theorem cLen (h : X.K = K) : CallR X (.builtin "len") (rLen K) := h ▸ call_len_seq
def rListOf (K : PySem.W.Frag) : List V → Hp → VK → Prop := fun xs H Q => ∃ p ys, xs = [.ref p] ∧ (SqL K H p ys ∨ SqT K H p ys) ∧ ∀ l, H l = none → Q (.ref l) (upd H l (.lst ys))
theorem cList (h : X.K = K) : CallR X (.type "list") (rListOf K) := h ▸ call_list_of
def rTupOf (K : PySem.W.Frag) : List V → Hp → VK → Prop := fun xs H Q => ∃ p ys, xs = [.ref p] ∧ ((SqL K H p ys ∧ ∀ l, H l = none → Q (.ref l) (upd H l (.tup ys))) ∨ (SqT K H p ys ∧ Q (.ref p) H))
theorem cTup (h : X.K = K) : CallR X (.type "tuple") (rTupOf K) := h ▸ call_tuple_of
theorem cSort (h : X.K = K) (hu : X.A.units + 65 < cLine) : CallR X (.builtin "sorted") (rSortedD K) := h ▸ call_sortedD hu
theorem cIsi (h : X.K = K) : CallR X (.builtin "isinstance") (rIsi K) := h ▸ call_isi
theorem slT (h : X.K = K) : SlR X (rSlT K) := h ▸ sl_tup
theorem slA (h : X.K = K) : SlR X (rSlA K) := h ▸ sl_tupA
end
/-! small lemmas -/
def Sq (K : PySem.W.Frag) (H : Hp) (a : Addr) (xs : List V) : Prop := SqL K H a xs ∨ SqT K H a xs
theorem ixq {K : PySem.W.Frag} {H : Hp} {a : Addr} {xs : List V} {i : Int} {v : V} {Q : VK} (h : Sq K H a xs) (e : atI xs i = some v) (q : Q v H) : rIx K (.ref a) (.int i) H Q :=
  h.elim (fun h => .inl ⟨a, xs, i, v, rfl, rfl, h, e, q⟩) fun h => .inr (.inl ⟨a, xs, i, v, rfl, rfl, h, e, q⟩)
theorem atN {xs : List V} {i : Nat} {v : V} (h : xs[i]? = some v) : atI xs (i : Int) = some v := atI_nat h
theorem same_upd {H : Hp} {p : Addr} {o : HO} (h : H p = none) : Same H (upd H p o) := fun b x e => by rw [upd_ne (ne_of_none e h)]; exact e
theorem same_tk {H H' : Hp} (h : Same H H') : Tk H H' := fun a xs e => h a _ e
theorem same_sqT {K : PySem.W.Frag} {H H' : Hp} {a : Addr} {xs : List V} (e : Same H H') (h : SqT K H a xs) : SqT K H' a xs := by
  rcases h with h | h
  · rcases h with h | ⟨o, h⟩
    · exact .inl (.inl (e _ _ h))
    · exact .inl (.inr ⟨o, e _ _ h⟩)
  · exact .inr h
theorem same_sq {K : PySem.W.Frag} {H H' : Hp} {a : Addr} {xs : List V} (e : Same H H') (h : Sq K H a xs) : Sq K H' a xs := h.elim (fun h => .inl (e.seq h)) fun h => .inr (same_sqT e h)
end Com
set_option Elab.async false
set_option linter.all false
set_option maxRecDepth 100000
set_option maxHeartbeats 4000000
namespace Com
open PySem PySem.Spec PyProof.Rows L2
mutual
theorem Dp.same {K : PySem.W.Frag} {H H' : Hp} (k : Same H H') : ∀ (d : PyData) (v : V), Dp K H v d → Dp K H' v d
  | .none, _, h => by cases h; exact .non
  | .bool _, _, h => by cases h; exact .bl _
  | .int _, _, h => by cases h; exact .int _
  | .str _, _, h => by cases h; exact .str _
  | .list ds, _, h => by
    cases h with
    | lst e q => exact .lst (k.seq e) (DpAll.same k ds _ q)
  | .tuple ds, _, h => by
    cases h with
    | tup e q => exact .tup (same_sqT k e) (DpAll.same k ds _ q)
  | .dict _, _, h => by cases h
theorem DpAll.same {K : PySem.W.Frag} {H H' : Hp} (k : Same H H') : ∀ (ds : List PyData) (vs : List V), DpAll K H vs ds → DpAll K H' vs ds
  | [], _, h => by cases h; exact .nil
  | d :: ds, _, h => by
    cases h with
    | cons h1 h2 => exact .cons (Dp.same k d _ h1) (DpAll.same k ds _ h2)
end
mutual
/-- no list in it is huge -/
def smD : PyData → Bool
  | .list xs | .tuple xs => decide (xs.length ≤ 1000000) && smAll xs
  | .none | .bool _ | .int _ | .str _ | .dict _ => true
def smAll : List PyData → Bool
  | [] => true
  | x :: xs => smD x && smAll xs
end
theorem smAll_mem : ∀ {ds : List PyData} {d : PyData}, smAll ds = true → d ∈ ds → smD d = true
  | x :: xs, d, h, hm => by
    simp only [smAll, Bool.and_eq_true] at h
    rcases List.mem_cons.mp hm with e | hm
    · rw [e]; exact h.1
    · exact smAll_mem h.2 hm
theorem smAll_map {α : Type} {f : α → PyData} (hf : ∀ x, smD (f x) = true) : ∀ l : List α, smAll (l.map f) = true
  | [] => rfl
  | a :: l => by simp [smAll, hf a, smAll_map hf l]
theorem DpAll.getE {K : PySem.W.Frag} {H : Hp} : ∀ {vs : List V} {ds : List PyData} {i : Nat} {x : V}, DpAll K H vs ds → vs[i]? = some x → ∃ d, ds[i]? = some d ∧ Dp K H x d
  | _, _, _, _, .nil, e => by simp at e
  | _, _, 0, _, .cons h _, e => by
    simp at e
    subst e
    exact ⟨_, rfl, h⟩
  | _, _, i + 1, _, .cons _ t, e => by
    simp only [List.getElem?_cons_succ] at e
    obtain ⟨d, h1, h2⟩ := DpAll.getE t e
    exact ⟨d, by simpa using h1, h2⟩
theorem depth_mem : ∀ {ds : List PyData} {d : PyData}, d ∈ ds → d.depth ≤ PyData.depthAll ds
  | x :: xs, d, h => by
    simp only [PyData.depthAll]
    rcases List.mem_cons.mp h with e | h
    · rw [e]; omega
    · have := depth_mem h
      omega
theorem depAll_map {α : Type} {f : α → PyData} {n : Nat} (hf : ∀ x, (f x).depth ≤ n) : ∀ l : List α, PyData.depthAll (l.map f) ≤ n
  | [] => by simp [PyData.depthAll]
  | a :: l => by
    have h1 := hf a
    have h2 := depAll_map hf l
    simp only [List.map_cons, PyData.depthAll]
    omega
theorem k_bb : kitB "bool" "bool" = some true := by decide +kernel
theorem k_ib : kitB "int" "bool" = some false := by decide +kernel
theorem k_ii : kitB "int" "int" = some true := by decide +kernel
theorem k_sb : kitB "str" "bool" = some false := by decide +kernel
theorem k_si : kitB "str" "int" = some false := by decide +kernel
theorem k_ss : kitB "str" "str" = some true := by decide +kernel
theorem k_tb : kitB "tuple" "bool" = some false := by decide +kernel
theorem k_ti : kitB "tuple" "int" = some false := by decide +kernel
theorem k_ts : kitB "tuple" "str" = some false := by decide +kernel
theorem k_tt : kitB "tuple" "tuple" = some true := by decide +kernel
theorem k_tl : kitB "tuple" "list" = some false := by decide +kernel
theorem k_lb : kitB "list" "bool" = some false := by decide +kernel
theorem k_li : kitB "list" "int" = some false := by decide +kernel
theorem k_ls : kitB "list" "str" = some false := by decide +kernel
theorem k_lt : kitB "list" "tuple" = some false := by decide +kernel
theorem k_ll : kitB "list" "list" = some true := by decide +kernel
theorem tyT {K : PySem.W.Frag} {H : Hp} {a : Addr} {xs : List V} (h : SqT K H a xs) : TyX K H (.ref a) (.type "tuple") := by
  rcases h with (h | ⟨o, h⟩) | ⟨o, its, n, h, hc, _⟩
  · exact .base (.tup h)
  · exact .fTuple h
  · exact .kTuple h hc
theorem tyL {K : PySem.W.Frag} {H : Hp} {a : Addr} {xs : List V} (h : SqL K H a xs) : TyX K H (.ref a) (.type "list") := by
  rcases h with (h | ⟨o, h⟩) | ⟨o, its, n, h, hc, _⟩
  · exact .base (.lst h)
  · exact .base (.frz h)
  · exact .kList h hc
theorem cAll {X : Cx} (K : PySem.W.Frag) (h : X.K = K) (hc : X.calm = true := by rfl) : CallR X (.builtin "all") (rAll K) := h ▸ cr_all hc
end Com
set_option Elab.async false
set_option linter.all false
set_option maxRecDepth 100000
set_option maxHeartbeats 4000000
namespace Com
open PySem PySem.Spec PyProof.Rows L2
/-! methods, and defs that may raise, by name -/
def CalM (CX : CXT) (P : Program) (w : World) (K : PySem.W.Frag) (mg : Str → Option Value) (base : Heap) (k : Nat) (C : Addr) (m : Str) (sp : Sp) : Prop :=
  ∃ (f : Addr) (fd : FuncData) (ps : List Str), FnOk P w K mg base CX k f fd ps sp ∧ Meth K C m f ∧ Binds K fd ps []
def CalX (P : Program) (w : World) (K : PySem.W.Frag) (mg : Str → Option Value) (base : Heap) (k : Nat) (x : Str) (sp : Sp) : Prop :=
  ∃ (f : Addr) (fd : FuncData) (ps : List Str), FnOk P w K mg base (L2.CX P w) k f fd ps sp ∧ mg x = some (.ref f) ∧ PySem.W.keepIn K (.ref f) = true ∧ Binds K fd ps []
/-- a method of the text -/
structure DfnM (K : PySem.W.Frag) (C : Addr) (m qual : Str) (st : Stmt) (f : Addr) (fd : FuncData) (ps : List Str) : Prop where
  fn : Fun K m qual st f fd
  me : Meth K C m f
  b : Binds K fd ps []
section
variable {P : Program} {w : World} {K : PySem.W.Frag} {mg : Str → Option Value} {base : Heap} {C : Addr}
theorem CalM.mono {CX : CXT} {j k : Nat} {x : Str} {sp : Sp} (c : CalM CX P w K mg base j C x sp) (h : j ≤ k) : CalM CX P w K mg base k C x sp := by
  obtain ⟨f, fd, ps, F, r⟩ := c
  exact ⟨f, fd, ps, F.mono h, r⟩
theorem calm_mk {m qual : Str} {st : Stmt} {f : Addr} {fd : FuncData} {N ps : List Str} {k : Nat} {sp : Sp} (F : DfnM K C m qual st f fd ps) (S : FnScope N ps (defScope st)) (len : ∀ vs H Q E, sp vs H Q E → vs.length = ps.length)
    (hbody : ∀ (cdv : Value) (A : Around) (outer : List Env) (s : Shared) (H : Hp) (vs : List V) (Q : VK) (E : XK), Room k (A.deeper (envOfC qual (defScope st) s.heap.objs.size f cdv)) → sp vs H Q E →
      ∃ t, PSs (cxOf CX0 P w K mg base N qual (defScope st) f cdv A outer s H E).nox (defBody st) t ∧ t { nx := fun _ H' => Q .non H', rt := Q } (start N vs) H) : CalM CX0 P w K mg base (k + 1) C m sp :=
  ⟨f, fd, ps, F.fn.ok S len hbody, F.me, F.b⟩
theorem calm_mkX {m qual : Str} {st : Stmt} {f : Addr} {fd : FuncData} {N ps : List Str} {k : Nat} {sp : Sp} (F : DfnM K C m qual st f fd ps) (S : FnScope N ps (defScope st)) (len : ∀ vs H Q E, sp vs H Q E → vs.length = ps.length)
    (hbody : ∀ (cdv : Value) (A : Around) (outer : List Env) (s : Shared) (H : Hp) (vs : List V) (Q : VK) (E : XK), Room k (A.deeper (envOfC qual (defScope st) s.heap.objs.size f cdv)) → sp vs H Q E →
      ∃ t, PSs (cxOf (L2.CX P w) P w K mg base N qual (defScope st) f cdv A outer s H E) (defBody st) t ∧ t { nx := fun _ H' => Q .non H', rt := Q } (start N vs) H) : CalM (L2.CX P w) P w K mg base (k + 1) C m sp :=
  ⟨f, fd, ps, F.fn.okX S len hbody, F.me, F.b⟩
theorem cal_mkX {x : Str} {st : Stmt} {f : Addr} {fd : FuncData} {N ps : List Str} {k : Nat} {sp : Sp} (F : Dfn K mg x st f fd ps) (S : FnScope N ps (defScope st)) (len : ∀ vs H Q E, sp vs H Q E → vs.length = ps.length)
    (hbody : ∀ (cdv : Value) (A : Around) (outer : List Env) (s : Shared) (H : Hp) (vs : List V) (Q : VK) (E : XK), Room k (A.deeper (envOfC x (defScope st) s.heap.objs.size f cdv)) → sp vs H Q E →
      ∃ t, PSs (cxOf (L2.CX P w) P w K mg base N x (defScope st) f cdv A outer s H E) (defBody st) t ∧ t { nx := fun _ H' => Q .non H', rt := Q } (start N vs) H) : CalX P w K mg base (k + 1) x sp :=
  ⟨f, fd, ps, F.fn.okX S len hbody, F.mgf, F.fn.kp, F.b⟩
end
section
variable {X : Cx} {CX : CXT} {k j : Nat} {x m : Str} {C : Addr} {sp : Sp} {E : XK} {p pos apos : Pos} {o e : Expr} {es : List Expr} {t : TA} {ta : TE} {pl : Sem Bool}
theorem pe_m (he : PE X o ta) (cl : Cls X.K C) (c : CalM CX X.prog X.w X.K X.mg X.base k C m sp) (hr : Room j X.A) (hk : k ≤ j) (hx : Passes CX X E) (ha : PA X (e :: es) t)
    (hst : starEach (e :: es) X.env = (false, eval e X.env) :: starEach es X.env := by rfl) (hpl : (backTo pos (starEach es X.env)).any (·.1) = false := by rfl)
    (ht : eval (.Call (.Attribute o m apos) (e :: es) [] pos) X.env = (do
      let ov ← eval o X.env
      standAt apos.atName
      let (f, first) ← holding [ov] (getMethod ov m pl)
      callWith pos f first (backTo pos (starEach (e :: es) X.env)) (backToKw pos (keywordEach [] X.env))) := by rfl) :
    PE X (.Call (.Attribute o m apos) (e :: es) [] pos) (tMeth C m sp [] E ta t) := by
  obtain ⟨f, fd, ps, F, hm, b⟩ := c
  exact pe_meth he cl hm F (hr.mono hk) b .nil hx ha hst hpl ht
theorem pe_m0c (he : PE X o ta) (cl : Cls X.K C) (c : CalM CX X.prog X.w X.K X.mg X.base k C m sp) (hr : Room j X.A) (hk : k ≤ j) (hx : Passes CX X E)
    (ht : eval (.Call (.Attribute o m apos) [] [] pos) X.env = (do
      let ov ← eval o X.env
      standAt apos.atName
      let (f, first) ← holding [ov] (getMethod ov m pl)
      callWith pos f first (backTo pos (starEach [] X.env)) (backToKw pos (keywordEach [] X.env))) := by rfl) :
    PE X (.Call (.Attribute o m apos) [] [] pos) (tMeth C m sp [] E ta tNil) := by
  obtain ⟨f, fd, ps, F, hm, b⟩ := c
  exact pe_meth0 he cl hm F (hr.mono hk) b .nil hx ht
theorem pe_cx (c : CalX X.prog X.w X.K X.mg X.base k x sp) (hr : Room j X.A) (hk : k ≤ j) (hg : Gl X x) (hx : Passes (L2.CX X.prog X.w) X E) (ha : PA X (e :: es) t)
    (hdb : (x == ("__debug__" : Str)) = false := by decide) (he : starEach (e :: es) X.env = (false, eval e X.env) :: starEach es X.env := by rfl) (hpl : (backTo pos (starEach es X.env)).any (·.1) = false := by rfl) :
    PE X (.Call (.Name x p) (e :: es) [] pos) (tCall sp [] E t) := by
  obtain ⟨f, fd, ps, F, hm, kp, b⟩ := c
  exact pe_call F (hr.mono hk) hg hm kp b .nil hx ha hdb he hpl
theorem pe_cxS {W : WX} (c : CalX X.prog X.w X.K X.mg X.base k x sp) (hr : Room j X.A) (hk : k ≤ j) (hg : Gl X x) (tk : Takes X W) (ha : PA X (e :: es) t)
    (hdb : (x == ("__debug__" : Str)) = false := by decide) (he : starEach (e :: es) X.env = (false, eval e X.env) :: starEach es X.env := by rfl) (hpl : (backTo pos (starEach es X.env)).any (·.1) = false := by rfl) :
    PE X (.Call (.Name x p) (e :: es) [] pos) (tCallS sp (WE W) t) := by
  obtain ⟨f, fd, ps, F, hm, kp, b⟩ := c
  exact pe_callS F (hr.mono hk) hg hm kp b (fun σ => passAt tk σ) ha hdb he hpl
/-- W.__init__(self, ..), W an own class that inherits ValueError's -/
theorem pe_weinit {Wn : Str} {Cw : Addr} {p1 p2 : Pos} (hg : Gl X Wn) (hm : X.mg Wn = some (.ref Cw)) (gg : PySem.W.specialIn X.K (.ref Cw) "__getattribute__" = some (some (.builtin "type.__getattribute__"))) (rd : PySem.W.readsIn X.K Cw (.type "type") = true)
    (vV : PySem.W.findCls X.K (.ref Cw) (.type "type") "__init__" = some (.val (.builtin "ValueError.__init__"))) (ha : PA X (e :: es) t)
    (hc : eval (.Call (.Attribute (.Name Wn p1) "__init__" p2) (e :: es) [] pos) X.env = (do
      let ov ← eval (.Name Wn p1) X.env
      standAt p2.atName
      let (f, first) ← holding [ov] (getMethod ov "__init__" pl)
      callWith pos f first (backTo pos (starEach (e :: es) X.env)) (backToKw pos (keywordEach [] X.env))) := by rfl)
    (hdb : (Wn == ("__debug__" : Str)) = false := by decide) (he : starEach (e :: es) X.env = (false, eval e X.env) :: starEach es X.env := by rfl) (hpl : (backTo pos (starEach es X.env)).any (·.1) = false := by rfl) :
    PE X (.Call (.Attribute (.Name Wn p1) "__init__" p2) (e :: es) [] pos) (tVeI X.K t) := by
  refine ⟨fun pins s σ H Q I h => ?_⟩
  refine PySem.W.methodCall_KW (ld_glob I hg hm ?_ hdb) hc
  refine PySem.W.method_cls I.kIn gg (PySem.W.cls_value I.kIn rd vV (by decide +kernel) ?_)
  show wpAny _ _ (callWith pos (Value.builtin "ValueError.__init__") [] (backTo pos (starEach (e :: es) X.env)) []) _ _ _
  refine PyProof.Rows.callWith_method1 (thn (ha.run pos pins _ σ H _ (I.tok _) h) fun us s1 ⟨vs, H1, I1, r1, a, C, ws, ev, hl, T, ea, q⟩ => ?_) he hpl
  subst ev
  cases r1 with
  | @cons _ u0 _ ur ra rw' =>
    obtain rfl : u0 = Value.ref a := ra
    have hlen : ur.length ≤ sizeLine := by
      rw [← Paired.length rw', sizeLine_eq]
      omega
    exact oinit_ok T I1 ea hlen fun s' J => ⟨.non, H1, J, rfl, q⟩
end
end Com
set_option Elab.async false
set_option linter.all false
set_option maxRecDepth 100000
set_option maxHeartbeats 4000000
namespace W4
open PySem PySem.Spec PyProof.Rows L2 Com SX
abbrev T := List Nat
/-! signs -/
def digC : T := [48, 49, 50, 51, 52, 53, 54, 55, 56, 57]
def namC : T := [97, 98, 99, 100, 101, 102, 103, 104, 105, 106, 107, 108, 109, 110, 111, 112, 113, 114, 115, 116, 117, 118, 119, 120, 121, 122, 48, 49, 50, 51, 52, 53, 54, 55, 56, 57, 33, 42, 43, 45, 46, 47, 58, 60, 61, 62, 63, 95]
def endC : T := [32, 10, 40, 41, 39, 34, 59]
def isD (c : Nat) : Bool := decide (c ∈ digC)
def isN (c : Nat) : Bool := decide (c ∈ namC)
def noE (c : Nat) : Bool := !decide (c ∈ endC)
def noL (c : Nat) : Bool := !decide (c = 10)
def noQ (c : Nat) : Bool := !decide (c = 10) && !decide (c = 34)
theorem dig_lit : (("0123456789" : Str)).cps.toList = digC := by decide +kernel
theorem nam_lit : (("abcdefghijklmnopqrstuvwxyz0123456789!*+-./:<=>?_" : Str)).cps.toList = namC := by decide +kernel
theorem end_lit : ((" \n()'\";" : Str)).cps.toList = endC := by decide +kernel
/-! runs of signs -/
def runE (p : Nat → Bool) (t : T) (a : Nat) : Nat := a + ((t.drop a).takeWhile p).length
theorem runE_step {p : Nat → Bool} {t : T} {a c : Nat} (h : t[a]? = some c) (hp : p c = true) : runE p t a = runE p t (a + 1) := by
  obtain ⟨ha, e⟩ := List.getElem?_eq_some_iff.mp h
  unfold runE
  rw [List.drop_eq_getElem_cons ha, e, List.takeWhile_cons_of_pos hp, List.length_cons]
  omega
theorem runE_stop {p : Nat → Bool} {t : T} {a c : Nat} (h : t[a]? = some c) (hp : p c = false) : runE p t a = a := by
  obtain ⟨ha, e⟩ := List.getElem?_eq_some_iff.mp h
  unfold runE
  rw [List.drop_eq_getElem_cons ha, e, List.takeWhile_cons_of_neg (by rw [hp]; exact Bool.false_ne_true)]
  rfl
theorem runE_end {p : Nat → Bool} {t : T} {a : Nat} (h : t.length ≤ a) : runE p t a = a := by
  unfold runE
  rw [List.drop_eq_nil_of_le h]
  rfl
theorem runE_ge (p : Nat → Bool) (t : T) (a : Nat) : a ≤ runE p t a := Nat.le_add_right _ _
theorem tw_le (p : Nat → Bool) : ∀ l : T, (l.takeWhile p).length ≤ l.length
  | [] => Nat.le_refl _
  | c :: l => by
    by_cases h : p c = true
    · rw [List.takeWhile_cons_of_pos h]
      exact Nat.succ_le_succ (tw_le p l)
    · rw [List.takeWhile_cons_of_neg h]
      exact Nat.zero_le _
theorem runE_le {p : Nat → Bool} {t : T} {a : Nat} (h : a ≤ t.length) : runE p t a ≤ t.length := by
  have := tw_le p (t.drop a)
  rw [List.length_drop] at this
  unfold runE
  omega
/-- where a run ends: the text's end, or a sign that stops it -/
theorem runE_at {p : Nat → Bool} : ∀ (n : Nat) {t : T} {a : Nat}, t.length - a = n → a ≤ t.length → runE p t a = t.length ∨ ∃ c, t[runE p t a]? = some c ∧ p c = false
  | 0, t, a, hn, ha => .inl (by rw [runE_end (by omega)]; omega)
  | n + 1, t, a, hn, ha => by
    have hl : a < t.length := by omega
    have h := List.getElem?_eq_getElem hl
    by_cases hp : p t[a] = true
    · rw [runE_step h hp]
      exact runE_at n (by omega) hl
    · have hp' : p t[a] = false := by simpa using hp
      refine .inr ⟨t[a], ?_, hp'⟩
      rw [runE_stop h hp']
      exact h
theorem runE_in {p : Nat → Bool} : ∀ (n : Nat) {t : T} {a v c : Nat}, t.length - a = n → a ≤ v → v < runE p t a → t[v]? = some c → p c = true
  | 0, t, a, v, c, hn, hv, h, hc => by
    rw [runE_end (by omega)] at h
    omega
  | n + 1, t, a, v, c, hn, hv, h, hc => by
    have hl : a < t.length := by omega
    have ha := List.getElem?_eq_getElem hl
    by_cases hp : p t[a] = true
    · by_cases e : v = a
      · subst e
        rw [ha] at hc
        cases hc
        exact hp
      · rw [runE_step ha hp] at h
        exact runE_in n (by omega) (by omega) h hc
    · have hp' : p t[a] = false := by simpa using hp
      rw [runE_stop ha hp'] at h
      omega
/-! pieces of a text -/
def wrd (t : T) (a b : Nat) : T := (t.drop a).take (b - a)
theorem wrd_len {t : T} {a b : Nat} (h1 : a ≤ b) (h2 : b ≤ t.length) : (wrd t a b).length = b - a := by
  unfold wrd
  rw [List.length_take, List.length_drop]
  omega
theorem cut_wrd {t : T} {a b : Nat} (h1 : a ≤ b) (h2 : b ≤ t.length) : cutS (S t) (some (a : Int)) (some (b : Int)) = S (wrd t a b) := by
  unfold cutS wrd
  have e : (S t).length = t.length := S_len t
  rw [HT.sIx_nat, HT.sIx_nat, e, Nat.min_eq_left (show a ≤ t.length by omega), Nat.min_eq_left h2]
theorem cut_one {t : T} {a : Nat} (h : a ≤ t.length) : cutS (S t) (some (a : Int)) (some ((a : Int) + 1)) = S ((t.drop a).take 1) := by
  unfold cutS
  have e : (S t).length = t.length := S_len t
  rw [show ((a : Int) + 1) = ((a + 1 : Nat) : Int) from rfl, HT.sIx_nat, HT.sIx_nat, e, Nat.min_eq_left h]
  show S ((t.drop a).take (min (a + 1) t.length - a)) = _
  by_cases hh : a < t.length
  · rw [Nat.min_eq_left (by omega), Nat.add_sub_cancel_left]
  · rw [List.drop_eq_nil_of_le (by omega)]
    simp
/-! sorts of words -/
def body (w : T) : T := if w.head? = some 45 then w.tail else w
def isNum (w : T) : Bool := decide (w = [48]) || (decide (1 ≤ (body w).length) && decide ((body w).length ≤ 30) && !decide ((body w).head? = some 48) && (body w).all isD)
def begN (w : T) : Bool := match (body w).head? with | some c => isD c | none => false
def isNam (w : T) : Bool := decide (1 ≤ w.length) && decide (w.length ≤ 20) && !decide (w = [46, 46, 46]) && !decide (w = [95]) && !begN w && w.all isN
def sortW (w : T) : Str :=
  if w = [35, 116] ∨ w = [35, 102] then "flag" else if w = [46, 46, 46] then "dots" else if w = [95] then "wild" else if isNum w = true then "number" else if isNam w = true then "name" else "wrong"
/-! tokens -/
abbrev Tok := Str × Nat × Nat
def tokA (t : T) (a c : Nat) : Str × Nat :=
  if c = 40 ∨ c = 41 ∨ c = 39 then ("sign", a + 1)
  else if c = 34 then
    (if t[runE noQ t (a + 1)]? = some 34 then (if runE noQ t (a + 1) - a - 1 ≤ 100 then "string" else "wrong", runE noQ t (a + 1) + 1) else ("wrong", runE noQ t (a + 1)))
  else if wrd t a (runE noE t a) = [35] ∧ t[runE noE t a]? = some 39 then ("sign", runE noE t a + 1)
  else (sortW (wrd t a (runE noE t a)), runE noE t a)
def nxt (t : T) (a c : Nat) : Nat := if c = 32 ∨ c = 10 then a + 1 else if c = 59 then runE noL t a else (tokA t a c).2
theorem tokA_gt {t : T} {a c : Nat} (h : t[a]? = some c) (h1 : ¬ (c = 32 ∨ c = 10)) (h2 : c ≠ 59) : a < (tokA t a c).2 := by
  unfold tokA
  have r1 := runE_ge noQ t (a + 1)
  split
  · exact Nat.lt_succ_self _
  · split
    · split
      · split <;> (show a < _ + 1; omega)
      · show a < runE noQ t (a + 1)
        omega
    · rename_i n1 n2
      have hp : noE c = true := by
        unfold noE endC
        simp only [List.mem_cons, List.not_mem_nil, or_false]
        have : ¬ (c = 32 ∨ c = 10 ∨ c = 40 ∨ c = 41 ∨ c = 39 ∨ c = 34 ∨ c = 59) := by omega
        simp [this]
      have r2 := runE_step h hp
      have r3 := runE_ge noE t (a + 1)
      split
      · show a < runE noE t a + 1
        omega
      · show a < runE noE t a
        omega
theorem nxt_gt {t : T} {a c : Nat} (h : t[a]? = some c) : a < nxt t a c := by
  unfold nxt
  split
  · exact Nat.lt_succ_self _
  · rename_i h1
    split
    · rename_i h2
      rw [runE_step h (by rw [h2]; rfl)]
      have := runE_ge noL t (a + 1)
      omega
    · rename_i h2
      exact tokA_gt h h1 h2
theorem tokA_le {t : T} {a c : Nat} (h : t[a]? = some c) : (tokA t a c).2 ≤ t.length := by
  have ha := (List.getElem?_eq_some_iff.mp h).1
  have r1 : runE noQ t (a + 1) ≤ t.length := runE_le ha
  have r2 : runE noE t a ≤ t.length := runE_le (Nat.le_of_lt ha)
  unfold tokA
  split
  · exact ha
  · split
    · split
      · rename_i e
        have := (List.getElem?_eq_some_iff.mp e).1
        split <;> (show _ + 1 ≤ _; omega)
      · exact r1
    · split
      · rename_i e
        have := (List.getElem?_eq_some_iff.mp e.2).1
        show _ + 1 ≤ _
        omega
      · exact r2
theorem nxt_le {t : T} {a c : Nat} (h : t[a]? = some c) : nxt t a c ≤ t.length := by
  have ha := (List.getElem?_eq_some_iff.mp h).1
  unfold nxt
  split
  · exact ha
  · split
    · exact runE_le (Nat.le_of_lt ha)
    · exact tokA_le h
def toksN (t : T) : Nat → Nat → List Tok
  | 0, _ => []
  | n + 1, a => match t[a]? with
    | none => []
    | some c => if c = 32 ∨ c = 10 ∨ c = 59 then toksN t n (nxt t a c) else ((tokA t a c).1, a, (tokA t a c).2) :: toksN t n (nxt t a c)
theorem toksN_more {t : T} : ∀ (n m a : Nat), t.length - a < n → t.length - a < m → toksN t n a = toksN t m a
  | 0, _, _, h, _ => absurd h (Nat.not_lt_zero _)
  | _, 0, _, _, h => absurd h (Nat.not_lt_zero _)
  | n + 1, m + 1, a, hn, hm => by
    unfold toksN
    cases e : t[a]? with
    | none => rfl
    | some c =>
      have ha := (List.getElem?_eq_some_iff.mp e).1
      have h1 := nxt_gt e
      have ih := toksN_more (t := t) n m (nxt t a c) (by omega) (by omega)
      simp only [ih]
def toksF (t : T) (a : Nat) : List Tok := toksN t (t.length - a + 1) a
theorem toksF_end {t : T} {a : Nat} (h : t.length ≤ a) : toksF t a = [] := by
  unfold toksF toksN
  rw [List.getElem?_eq_none h]
theorem toksF_at {t : T} {a c : Nat} (h : t[a]? = some c) : toksF t a = if c = 32 ∨ c = 10 ∨ c = 59 then toksF t (nxt t a c) else ((tokA t a c).1, a, (tokA t a c).2) :: toksF t (nxt t a c) := by
  have ha := (List.getElem?_eq_some_iff.mp h).1
  have h1 := nxt_gt h
  have e := toksN_more (t := t) (t.length - a) (t.length - nxt t a c + 1) (nxt t a c) (by omega) (by omega)
  unfold toksF
  rw [show toksN t (t.length - a + 1) a = match t[a]? with
    | none => []
    | some c => if c = 32 ∨ c = 10 ∨ c = 59 then toksN t (t.length - a) (nxt t a c) else ((tokA t a c).1, a, (tokA t a c).2) :: toksN t (t.length - a) (nxt t a c) from rfl, h]
  dsimp only
  rw [e]
theorem toksF_blank {t : T} {a c : Nat} (h : t[a]? = some c) (hc : c = 32 ∨ c = 10) : toksF t a = toksF t (a + 1) := by
  rw [toksF_at h, if_pos (by omega)]
  unfold nxt
  rw [if_pos hc]
theorem toksF_rem {t : T} {a : Nat} (h : t[a]? = some 59) : toksF t a = toksF t (runE noL t a) := by
  rw [toksF_at h, if_pos (by omega)]
  unfold nxt
  rw [if_neg (by omega), if_pos rfl]
theorem toksF_tok {t : T} {a c : Nat} (h : t[a]? = some c) (h1 : ¬ (c = 32 ∨ c = 10)) (h2 : c ≠ 59) : toksF t a = ((tokA t a c).1, a, (tokA t a c).2) :: toksF t (tokA t a c).2 := by
  rw [toksF_at h, if_neg (by omega)]
  unfold nxt
  rw [if_neg h1, if_neg h2]
theorem toksF_len {t : T} : ∀ (n : Nat) {a : Nat}, t.length - a = n → (toksF t a).length ≤ t.length - a := by
  intro n
  induction n using Nat.strongRecOn with
  | _ n ih =>
    intro a hn
    cases e : t[a]? with
    | none =>
      rw [toksF_end (List.getElem?_eq_none_iff.mp e)]
      exact Nat.zero_le _
    | some c =>
      have ha := (List.getElem?_eq_some_iff.mp e).1
      have h1 := nxt_gt e
      have h2 := ih (t.length - nxt t a c) (by omega) rfl
      rw [toksF_at e]
      split
      · omega
      · rw [List.length_cons]
        omega
def tokD (k : Tok) : PyData := .tuple [.str k.1, .int (k.2.1 : Nat), .int (k.2.2 : Nat)]
/-- what tokens stand within a text -/
theorem toksF_ok {t : T} : ∀ (n : Nat) {a : Nat}, t.length - a = n → ∀ k ∈ toksF t a, a ≤ k.2.1 ∧ k.2.1 < k.2.2 ∧ k.2.2 ≤ t.length := by
  intro n
  induction n using Nat.strongRecOn with
  | _ n ih =>
    intro a hn k hk
    cases e : t[a]? with
    | none =>
      rw [toksF_end (List.getElem?_eq_none_iff.mp e)] at hk
      cases hk
    | some c =>
      have ha := (List.getElem?_eq_some_iff.mp e).1
      have h1 := nxt_gt e
      have h2 := ih (t.length - nxt t a c) (by omega) (a := nxt t a c) rfl
      rw [toksF_at e] at hk
      split at hk
      · have := h2 k hk
        omega
      · rename_i hc
        rcases List.mem_cons.mp hk with hk | hk
        · subst hk
          exact ⟨Nat.le_refl _, tokA_gt e (by omega) (by omega), tokA_le e⟩
        · have := h2 k hk
          omega
/-! data, and the machine that reads tokens -/
def lstD (ps : List PyData) (pl : Nat) : PyData := .tuple [.str "list", .tuple ps, .int (pl : Nat)]
def namD (s : Str) (pl : Nat) : PyData := .tuple [.str "name", .str s, .int (pl : Nat)]
def intW (w : T) : Int := (intText? (S w)).getD 0
def atomD (s : Str) (w : T) (pl : Nat) : PyData :=
  if s = "number" then .tuple [.str "number", .int (intW w), .int (pl : Nat)] else if s = "flag" then .tuple [.str "flag", .bool (decide (w = [35, 116])), .int (pl : Nat)]
  else if s = "string" then .tuple [.str "text", .str (S (wrd w 1 (w.length - 1))), .int (pl : Nat)] else if s = "name" then .tuple [.str "name", .str (S w), .int (pl : Nat)] else .tuple [.str s, .none, .int (pl : Nat)]
structure Fr where
  sg : T
  pl : Nat
  ps : List PyData
structure Cf where
  st : List Fr
  fm : List PyData
  ss : List Nat
def put : List Fr → List PyData → List Nat → PyData → Cf
  | [], fm, ss, D => ⟨[], fm ++ [D], ss⟩
  | f :: r, fm, ss, D => if f.sg = [40] then ⟨⟨f.sg, f.pl, f.ps ++ [D]⟩ :: r, fm, ss⟩ else put r fm ss (lstD (f.ps.take 1 ++ [D]) f.pl)
def sgN (w : T) : Str := if w = [39] then "quote" else "syntax"
def step (t : T) (cf : Cf) (k : Tok) : Except Nat Cf :=
  if k.1 = "wrong" then .error k.2.1
  else if ¬ k.1 = "sign" then .ok (put cf.st cf.fm (cf.ss ++ [k.2.1]) (atomD k.1 (wrd t k.2.1 k.2.2) cf.ss.length))
  else if wrd t k.2.1 k.2.2 = [41] then
    match cf.st with
    | [] => .error k.2.1
    | f :: r => if f.sg = [40] then .ok (put r cf.fm cf.ss (lstD f.ps f.pl)) else .error k.2.1
  else if cf.st.length = 60 then .error k.2.1
  else if wrd t k.2.1 k.2.2 = [40] then .ok ⟨⟨[40], cf.ss.length, []⟩ :: cf.st, cf.fm, cf.ss ++ [k.2.1]⟩
  else .ok ⟨⟨wrd t k.2.1 k.2.2, cf.ss.length, [namD (sgN (wrd t k.2.1 k.2.2)) (cf.ss.length + 1)]⟩ :: cf.st, cf.fm, cf.ss ++ [k.2.1, k.2.1]⟩
def runM (t : T) : Cf → List Tok → Except Nat Cf
  | cf, [] => .ok cf
  | cf, k :: ks => match step t cf k with
    | .error b => .error b
    | .ok cf' => runM t cf' ks
/-- reading a text: its forms and where their parts begin, or the index of an error -/
def readM (t : T) : Except Nat (List PyData × List Nat) :=
  if 6000 < t.length then .error 6000
  else match runM t ⟨[], [], []⟩ (toksF t 0) with
    | .error b => .error b
    | .ok cf => match cf.st with
      | [] => .ok (cf.fm, cf.ss)
      | _ :: _ => .error t.length
end W4
set_option Elab.async false
set_option linter.all false
set_option maxRecDepth 100000
set_option maxHeartbeats 4000000
namespace GenU
open PySem PySem.Spec PyProof.Rows L2 GxR
/-- the element as a test of what the name x holds; the globals and the built-ins may be read -/
def EltB (X : Cx) (scope : Scope) (x : Str) (elt : Expr) (ok : Value → Prop) (pb : Value → Bool) : Prop :=
  ∀ (cenv : Env) (A' : Around) (E' : Value → Shared → Prop) (u : Value) (s₂ : Shared) (m₂ : Str → Option Value), cenv.scope = scope → cenv.globals = mainGlobals → cenv.builtins = builtinsNs → A'.handled = none → L2.Mod X.K X.mg X.base →
    (∀ b o, X.base.get? b = some o → s₂.heap.get? b = some o) → ok u → s₂.heap.Ns cenv.locals m₂ → m₂ x = some u →
    wpAny (model X.prog X.w) A' (eval elt cenv) (fun y s₃ => y = .bool (pb u) ∧ Keeps s₂ s₃) E' s₂
/-- the generator g over the items, ready to be walked -/
def ReadyV (X : Cx) (pins : List (Addr × Obj)) (σ : L2.St) (H1 : Hp) (P : Addr) (n : Nat) (tr : Nat → Bool) (g : Addr) (s5 : Shared) : Prop :=
  ∃ (fp wr : List Addr) (G : Array GenState → Array GenState → Prop) (F : Nat → Value → Prop) (St : Nat → Shared → Prop),
    WalksS X.prog X.w X.A.in1 g fp wr G n F St ∧ St 0 s5 ∧
    TruthOf X.prog X.w X.A.in1 F tr ∧
    ∀ s', Moved wr G s5 s' → ∃ H2, Tabbed P H1 H2 ∧ Inv X pins σ H2 s'
/-- how a source is walked: the iterator is one new object -/
def Src (X : Cx) (H1 : Hp) (s1 : Shared) (u : Value) (n : Nat) (It : Nat → Value → Prop) : Prop :=
  ∀ (Q : Value → Shared → Prop), (∀ (o : Obj) (fp : List Addr) (St : Nat → Heap → Prop), (∀ b ∈ fp, b = s1.heap.objs.size ∨ ∃ ob, s1.heap.get? b = some ob ∧ ob.data ≠ .fields #[] ∧ H1 b ≠ some (.tbl #[]) ∧ ∀ ps, H1 b ≠ some (.tbl ps)) →
      (∀ A' : Around, A'.handled = none → Walks X.prog X.w A' s1.heap.objs.size fp [s1.heap.objs.size] n It St) → St 0 (s1.heap.push o) →
      Q (.ref s1.heap.objs.size) { s1 with heap := s1.heap.push o }) → ∀ E, wpAny (model X.prog X.w) X.A (pyIter u) Q E s1
section
variable {X : Cx} {pins : List (Addr × Obj)} {σ : L2.St} {H : Hp} {s : Shared}
theorem gen_src {c P : Addr} {elt iter : Expr} {x : Str} {px gpos : Pos} {scope : Scope} {pb : Value → Bool} {ok : Value → Prop} {te : TE} {k : Nat} {Q' : Value → Shared → Prop} {B : V → Hp → Prop} {R : V → Nat → (Nat → Bool) → Hp → Prop}
    (hB : ∀ (v : V) (H1 : Hp), B v H1 → TabG H1 P ∧ ∀ (u : Value) (s1 : Shared), RelV v u → Inv X pins σ H1 s1 → ∃ (n : Nat) (It : Nat → Value → Prop) (tr : Nat → Bool), (∀ i z, It i z → ok z ∧ pb z = tr i) ∧ Src X H1 s1 u n It ∧ R v n tr H1)
    (hr : Room k X.A) (TB : TabB X.base X.mg c P) (hcode : X.env.code = .ref c) (S : GenS X.env scope x) (hi : PE X iter te) (hel : EltB X scope x elt ok pb)
    (hs : ∀ v, genFold iter X.env v = pure v) (I : Inv X pins σ H s)
    (h : te σ H B)
    (hQ : ∀ v n tr H1 g s5, R v n tr H1 → ReadyV X pins σ H1 P n tr g s5 → Q' (.ref g) s5) :
    wpAny (model X.prog X.w) X.A (eval (.GeneratorExp elt [⟨.Name x px, iter, [], 0⟩] scope gpos) X.env) Q' X.xe s := by
  refine wpAny_GeneratorExp_walksQ hr.hd S.co (closure_ok S.free) S.cell S.dot S.loc S.kind (by have := hr.dp; omega) ?_ hs
  refine thn (hi.run pins s σ H _ I h) fun xv s1 ⟨v, H1, I1, r1, q1⟩ => ?_
  obtain ⟨⟨ps, hP, ht⟩, q1⟩ := hB v H1 q1
  obtain ⟨nn, It, tr, hok, hsrc, q1⟩ := q1 xv s1 r1 I1
  refine hsrc _ (fun o fp0 St hfp W hst => ?_) _
  have hPs : s1.heap.get? P = some { cls := .none, data := .fields ps } := I1.hok P _ hP
  have hPlt : P < s1.heap.objs.size := Heap.lt_size hPs
  have hP2 : (s1.heap.push o).get? P = some { cls := .none, data := .fields ps } := Heap.get?_push_of_some _ hPs
  have cd : PySem.W.CodeHd (s1.heap.push o) c P := TB.code.keeps fun b u e => Heap.get?_push_of_some _ (I1.bk b u e)
  have lim2 : (s1.heap.push o).NoLimit := I1.nolimit.push o
  have cont : ∀ (code : Value) (h3 : Heap) (tk : Nat) (ps' : Array Value), Heap.ExtBut P (s1.heap.push o) h3 → (s1.heap.push o).objs.size ≤ h3.objs.size → h3.get? P = some { cls := .none, data := .fields ps' } → (∃ more, ps' = ps ++ more) → TriplesOk ps'.toList →
      wpAny (model X.prog X.w) X.A (builtinsFor X.env.globals X.env.builtins) (fun bi s₄ =>
        ∃ Ia fp wr n₀ Pf St₀ pz F, Value.ref s1.heap.objs.size = .ref Ia ∧ (∀ A' : Around, A'.handled = none → Walks X.prog X.w A' Ia fp wr n₀ Pf St₀) ∧ St₀ 0 s₄.heap ∧ (∀ b ∈ fp, b < s₄.heap.objs.size) ∧ s₄.heap.NoLimit ∧ cStatics ∉ wr ∧
          (∀ href : Heap, (∀ b o, s₄.heap.get? b = some o → href.get? b = some o) →
            QuietGen X.prog X.w (genEnv scope (cloFrom X.env.cells scope.names []) s₄.heap.objs.size code bi X.env) x [] elt (List.range s₄.heap.objs.size) wr Pf pz F href) ∧
          (∀ a h₅ tk gs, gs.bare = true → s₄.heap.objs.size < a → h₅.objs.size = a + 1 → (∀ b o, s₄.heap.get? b = some o → h₅.get? b = some o) →
            WalksS X.prog X.w X.A.in4 a (a :: s₄.heap.objs.size :: List.range s₄.heap.objs.size) (s₄.heap.objs.size :: wr) (GenOnlyQ s₄.gens.size) (passing pz n₀ 0).length
              (fun j y => ∃ i, (passing pz n₀ 0)[j]? = some i ∧ F i y) (GenAt X.prog X.w X.A.in4 a s₄.gens.size s₄.heap.objs.size (List.range s₄.heap.objs.size) wr pz n₀ F) →
            GenAt X.prog X.w X.A.in4 a s₄.gens.size s₄.heap.objs.size (List.range s₄.heap.objs.size) wr pz n₀ F 0 { s₄ with gens := s₄.gens.push gs, toks := tk, heap := h₅ } →
            Q' (.ref a) { s₄ with gens := s₄.gens.push gs, toks := tk, heap := h₅ })) X.xe { s1 with heap := h3, toks := tk } := by
    intro code h3 tk ps' hx hsz hP3 hmore ht3
    obtain ⟨bm, ob, e1, e2, e3, e4, e5, e6, e7, e8⟩ := TB.bm
    have hcP : cStatics ≠ P := fun e => by
      obtain ⟨_, hns, _⟩ := I1.nolimit
      obtain ⟨o', es, ep, ho, hd, _⟩ := hns
      rw [e, hPs] at ho
      cases ho
      cases hd
    have hcl : cStatics < s1.heap.objs.size := let ⟨_, hns, _⟩ := I1.nolimit; hns.lt
    have sz2 : (s1.heap.push o).objs.size = s1.heap.objs.size + 1 := Heap.size_push ..
    have keep3 : ∀ b u, b ≠ P → s1.heap.get? b = some u → h3.get? b = some u := fun b u hb e => hx b u hb (Heap.get?_push_of_some _ e)
    refine wpAny_builtinsFor (m := X.mg) (by rw [I1.ok.glob]; exact ((I1.mod.glob.keeps I1.bk).push o).extBut hx TB.gP) e1 e2 (keep3 _ _ e4 (I1.bk _ _ e5)) e6 e7 e8 ?_
    have hfpP : ∀ b ∈ fp0, b ≠ P := fun b hb z => by
      rcases hfp b hb with e | ⟨ob', q1', q2', _, q4'⟩
      · exact Nat.ne_of_lt hPlt (z.symm.trans e)
      · exact q4' ps (z ▸ hP)
    refine ⟨s1.heap.objs.size, fp0, [s1.heap.objs.size], nn, It, St, (fun _ => true), (fun i y => y = .bool (tr i)), rfl, W, ?_, ?_, lim2.extBut hx hcP, ?_, ?_, ?_⟩
    · refine (W X.A hr.hd).frame _ _ _ hst fun b hb u e => hx b u (hfpP b hb) e
    · intro b hb
      show b < h3.objs.size
      have hlt3 : s1.heap.objs.size < h3.objs.size := by omega
      rcases hfp b hb with z | ⟨ob', q1', _⟩
      · rw [z]
        exact hlt3
      · exact Nat.lt_trans (Heap.lt_size q1') hlt3
    · intro z
      rcases List.mem_cons.mp z with z | z
      · exact Nat.ne_of_lt hcl z
      · cases z
    · intro href hhref
      refine ⟨fun A' E' i v s₂ m₂ hA hPv hn hm hk => ?_, fun A' E' i v s₂ m₂ hA hPv hp hn hm hk => ?_⟩
      · simp only [List.forIn_nil]
        exact wpAny_pure ⟨rfl, keeps_refl _⟩
      · obtain ⟨hov, hpv⟩ := hok i v hPv
        have hb2 : ∀ b o', X.base.get? b = some o' → s₂.heap.get? b = some o' := fun b o' e => by
          have e1' := I1.bk b o' e
          have hlt := Heap.lt_size e1'
          have hbP : b ≠ P := fun z => by
            have z2 := (I1.bs b o' e).2
            rw [z, hP] at z2
            cases z2
          have e3' : h3.get? b = some o' := keep3 b o' hbP e1'
          have hl3 : b < h3.objs.size := Heap.lt_size e3'
          refine hk b (List.mem_range.mpr hl3) (fun z => ?_) o' (hhref b o' e3')
          rcases List.mem_cons.mp z with z | z
          · rw [z] at hlt
            exact Nat.lt_irrefl _ hlt
          · cases z
        exact wpAny_mono (hel _ A' E' v s₂ m₂ rfl I1.ok.glob rfl hA I1.mod hb2 hov hn hm) (fun y s3 r => ⟨by rw [r.1, hpv], r.2⟩) fun _ _ e => e
    · intro g h5 tk5 gs hgb hag hsz5 hk5 W5 hat
      simp only [GxR.passing_true, List.length_range] at W5
      refine hQ v nn tr H1 g _ q1 ⟨_, _, _, _, _, W5.in4_1, hat, ?_, fun s' hm => ?_⟩
      · intro j y sj Qj Ej hy hQj
        obtain ⟨i, hij, hyb⟩ := hy
        have hyb : y = .bool (tr i) := hyb
        subst hyb
        obtain ⟨hj, ej⟩ := List.getElem?_eq_some_iff.mp hij
        rw [List.getElem_range] at ej
        subst ej
        exact wpAny_truthy_bool hQj
      · obtain ⟨more, em⟩ := hmore
        have nwr : ∀ b u, s1.heap.get? b = some u → b ∉ h3.objs.size :: [s1.heap.objs.size] := fun b u e hb => by
          have hl := Heap.lt_size e
          rcases List.mem_cons.mp hb with z | z
          · rw [z] at hl
            have h9 : (h3.objs.size : Nat) < s1.heap.objs.size := hl
            omega
          · rcases List.mem_cons.mp z with z | z
            · rw [z] at hl
              exact Nat.lt_irrefl _ hl
            · cases z
        have J := inv_tab (more := more) (h' := s'.heap) (g' := s'.gens) (d' := s'.drawn) (t' := s'.toks) I1 hP (fun b u hb e => hm.heap b u (nwr b u e) (hk5 b u (keep3 b u hb e)))
          (by rw [← em]; exact hm.heap P _ (nwr P _ hPs) (hk5 P _ hP3)) (AllBare.movedS (I1.bare.push hgb) hm)
        rw [sh_eta s1 s' hm.os] at J
        refine ⟨upd H1 P (.tbl (ps ++ more)), ⟨⟨ps ++ more, upd_same, by rw [← em]; exact ht3⟩, fun b hb => upd_ne hb⟩, J⟩
  refine ⟨lim2, ?_⟩
  cases hf : codeAmong gpos ps.toList with
  | none =>
    refine wpAny_genexprCodeX hcode (cd.code hP2 ht) (cd.tab hP2) hf fun c' h' tk hx hge hlt hco' _ htab' _ => ?_
    obtain ⟨o1, vs, f1, tf, fl, tg, inF, tx, tt, op, _, _, _, _, _, _, _, _, _, htr, _⟩ := hco'
    exact cont _ h' tk _ hx (Nat.le_trans hge (Nat.le_of_lt hlt)) htab'.2 ⟨_, rfl⟩ htr
  | some cv =>
    refine wpAny_genexprCode_hit hcode (cd.code hP2 ht) hf ?_
    exact cont cv (s1.heap.push o) s1.toks ps (Heap.ExtBut.refl _ _) (Nat.le_refl _) hP2 ⟨#[], by simp⟩ ht
/-- all(test for x in e), e a text, the test may read globals -/
def tAllU (P : Addr) (pc : Nat → Bool) (te : TE) : TE := fun σ H Q => te σ H fun v H1 => TabG H1 P ∧ ∃ a : Str, v = .str a ∧ ∀ H2, Tabbed P H1 H2 → Q (.bl (a.cps.toList.all pc)) H2
def OneSign (u : Value) : Prop := ∃ c t, u = .str ⟨#[c]⟩ t
theorem all_at (a : Str) (pc : Nat → Bool) : (List.range a.cps.size).all (fun i => match a.cps[i]? with | some c => pc c | none => false) = a.cps.toList.all pc := by
  rw [Bool.eq_iff_iff, List.all_eq_true, List.all_eq_true]
  constructor
  · intro h b hb
    obtain ⟨j, hj, e⟩ := List.getElem_of_mem hb
    have hj' : j < a.cps.size := by simpa using hj
    have q := h j (List.mem_range.mpr hj')
    rw [Array.getElem?_eq_getElem hj'] at q
    have e2 : a.cps[j] = b := by rw [← e]; simp
    rw [← e2]
    exact q
  · intro h j hj
    have hj' := List.mem_range.mp hj
    rw [Array.getElem?_eq_getElem hj']
    exact h _ (by simp)
theorem pe_allU {c P : Addr} {elt iter : Expr} {x : Str} {px p pos gpos : Pos} {scope : Scope} {pb : Value → Bool} {pc : Nat → Bool} {te : TE} {k : Nat}
    (hr : Room k X.A) (hg : Gl X "all") (hm : X.mg "all" = none) (hb : bootBuiltins "all" = some (.builtin "all")) (TB : TabB X.base X.mg c P) (hcode : X.env.code = .ref c) (S : GenS X.env scope x) (hi : PE X iter te) (hel : EltB X scope x elt OneSign pb)
    (hp : ∀ c t, pb (.str ⟨#[c]⟩ t) = pc c)
    (hs : ∀ v, genFold iter X.env v = pure v)
    (he : starEach [.GeneratorExp elt [⟨.Name x px, iter, [], 0⟩] scope gpos] X.env = (false, eval (.GeneratorExp elt [⟨.Name x px, iter, [], 0⟩] scope gpos) X.env) :: starEach [] X.env := by rfl) :
    PE X (.Call (.Name "all" p) [.GeneratorExp elt [⟨.Name x px, iter, [], 0⟩] scope gpos] [] pos) (tAllU P pc te) := by
  refine ⟨fun pins s σ H Q I h => ?_⟩
  refine wpAny_Call_Name_kw (ld_blt I hg hm hb ?_)
  refine PyProof.Rows.callWith_builtin1 ?_ he (by rfl)
  rw [he]
  show wpAny _ _ (spliced ((false, eval (.GeneratorExp elt [⟨.Name x px, iter, [], 0⟩] scope gpos) X.env) :: backTo pos (starEach [] X.env))) _ _ s
  refine Calls.spliced_cons (gen_src (te := te) (R := fun v n tr H1 => ∃ a : Str, n = a.cps.size ∧ tr = (fun i => match a.cps[i]? with | some c => pc c | none => false) ∧ ∀ H2, Tabbed P H1 H2 → Q (.bl (a.cps.toList.all pc)) H2) (hB := ?_) hr TB hcode S hi hel hs I h fun v n tr H1 g s5 hR hG => ?_)
  · rintro v H1 ⟨hT, a, rfl, hq⟩
    refine ⟨hT, fun u s1 ru I1 => ?_⟩
    obtain ⟨t, rfl⟩ := _root_.id ru
    refine ⟨a.cps.size, SignAt a, _, fun i z hz => ?_, fun Q2 hQ2 E => wpAny_pyIter_str fun o St W hst => ?_, a, rfl, rfl, hq⟩
    · obtain ⟨c, u, hc, rfl⟩ := hz
      refine ⟨⟨c, u, rfl⟩, ?_⟩
      rw [hp, hc]
    · exact hQ2 o _ St (fun b hb => .inl (List.mem_singleton.mp hb)) W hst
  obtain ⟨a, rfl, rfl, hR⟩ := hR
  obtain ⟨fp, wr, G, F, St, W, hst, htr, hI⟩ := hG
  refine Calls.spliced_nil ?_
  refine call_all_walkS (W.self 0 _ _ _ hst ⟨g, fp, wr, G, _, F, St, _, rfl, W, hst, htr, fun s' hmv => ?_⟩)
  obtain ⟨H2, hT, J⟩ := hI s' hmv
  refine ⟨.bl _, H2, J, rfl, ?_⟩
  rw [all_at a pc]
  exact hR H2 hT
end
/-- x in G, G a global text -/
def pbIn (y : Str) : Value → Bool
  | .str x _ => !(Builtin.Str.occurrences y x 0 y.length 1).isEmpty
  | _ => false
theorem elt_inG {X : Cx} {scope : Scope} {x g y : Str} {tk : Tok} {p1 p2 p3 : Pos} (hk : scope.kind = .function) (hl : scope.names.lookup x = some .local) (hi : scope.names.lookup g = some .globalImplicit) (mg' : X.mg g = some (.str y tk)) (hd : (x == ("__debug__" : Str)) = false := by decide) (hdg : (g == ("__debug__" : Str)) = false := by decide) :
    EltB X scope x (.Compare (.Name x p1) [.In] [.Name g p2] p3) OneSign (pbIn y) := by
  intro cenv A' E' u s₂ m₂ hs hgl hbn hA M hkp hok hn hm
  obtain ⟨c, t, rfl⟩ := hok
  refine wpAny_Compare1 ?_ (by rfl)
  refine wpAny_Name (wpAny_loadName_local (by rw [hs]; exact hk) (show cenv.scope.names.lookup x = some .local by rw [hs]; exact hl) hn hm ?_) hd
  refine Calls.Name_function_global (by rw [hs]; exact hk) (show cenv.scope.names.lookup g = some .globalImplicit by rw [hs]; exact hi) (Calls.loadGlobal_global (by rw [hgl]; exact M.glob.keeps hkp) mg' ?_) hdg
  exact in_str ⟨rfl, keeps_refl _⟩
end GenU
set_option Elab.async false
set_option linter.all false
set_option maxRecDepth 100000
set_option maxHeartbeats 4000000
namespace Com
open PySem PySem.Spec PyProof.Rows L2 GxR
/-! a def whose code object is known: it holds a generator expression -/
structure FunC (K : PySem.W.Frag) (x qual : Str) (st : Stmt) (f : Addr) (fd : FuncData) (c : Addr) : Prop where
  ex : ∃ (oc : Value) (od : Option Addr) (kV doc pm : Value) (an : Option Addr) (ct : Value) (osl : Array (Option Value)),
    fd = PySem.W.fnOf x qual (defArgs st) (defBody st) (defScope st) .none kV doc pm an (.ref c) ct ∧ K.lookup f = some ⟨oc, od, .func fd, osl⟩ ∧ PySem.W.codeIn K (.ref c) qual = true
  kp : PySem.W.keepIn K (.ref f) = true
structure DfnC (K : PySem.W.Frag) (mg : Str → Option Value) (x : Str) (st : Stmt) (f : Addr) (fd : FuncData) (ps : List Str) (c : Addr) : Prop where
  fn : FunC K x x st f fd c
  mgf : mg x = some (.ref f)
  b : Binds K fd ps []
theorem funC_mk {K : PySem.W.Frag} {x qual : Str} {st : Stmt} {f c : Addr} {oc : Value} {od an : Option Addr} {osl : Array (Option Value)} {kV doc pm ct : Value} (l : K.lookup f = some ⟨oc, od, .func (PySem.W.fnOf x qual (defArgs st) (defBody st) (defScope st) .none kV doc pm an (.ref c) ct), osl⟩)
    (cc : PySem.W.codeIn K (.ref c) qual = true) (k : PySem.W.keepIn K (.ref f) = true) : FunC K x qual st f (PySem.W.fnOf x qual (defArgs st) (defBody st) (defScope st) .none kV doc pm an (.ref c) ct) c := ⟨⟨oc, od, kV, doc, pm, an, ct, osl, rfl, l, cc⟩, k⟩
theorem FunC.fun {K : PySem.W.Frag} {x qual : Str} {st : Stmt} {f c : Addr} {fd : FuncData} (F : FunC K x qual st f fd c) : Fun K x qual st f fd := by
  obtain ⟨oc, od, kV, doc, pm, an, ct, osl, e, l, cc⟩ := F.ex
  exact ⟨⟨oc, od, kV, doc, pm, an, .ref c, ct, osl, e, l, cc⟩, F.kp⟩
theorem cal_mkC {P : Program} {w : World} {K : PySem.W.Frag} {mg : Str → Option Value} {base : Heap} {x : Str} {st : Stmt} {f c : Addr} {fd : FuncData} {N ps : List Str} {k : Nat} {sp : Sp} (F : DfnC K mg x st f fd ps c) (S : FnScope N ps (defScope st)) (len : ∀ vs H Q E, sp vs H Q E → vs.length = ps.length)
    (hbody : ∀ (A : Around) (outer : List Env) (s : Shared) (H : Hp) (vs : List V) (Q : VK) (E : XK), Room k (A.deeper (envOfC x (defScope st) s.heap.objs.size f (.ref c))) → sp vs H Q E →
      ∃ t, PSs (cxOf CX0 P w K mg base N x (defScope st) f (.ref c) A outer s H E).nox (defBody st) t ∧ t { nx := fun _ H' => Q .non H', rt := Q } (start N vs) H) : Cal P w K mg base (k + 1) x sp := by
  obtain ⟨oc, od, kV, doc, pm, an, ct, osl, rfl, lk, hcd⟩ := F.fn.ex
  refine ⟨f, _, ps, fn_of lk hcd S len fun A outer s H vs Q E hr hsp => ?_, F.mgf, F.fn.kp, F.b⟩
  obtain ⟨t, h, q⟩ := hbody A outer s H vs Q E hr hsp
  exact ⟨t, h.nox, q⟩
def noCF (sc : Scope) : Bool := sc.names.all fun y => decide (y.2 ≠ .cell) && decide (y.2 ≠ .free)
theorem genS_mk {env : Env} {scope : Scope} {x : Str} (k : scope.kind = .function) (co : scope.isCoroutine = false) (h : noCF scope = true) (dot : scope.names.lookup (".0" : Str) = some NameKind.local) (loc : scope.names.lookup x = some .local) : GenS env scope x := by
  unfold noCF at h
  rw [List.all_eq_true] at h
  refine ⟨k, co, fun y hy => ?_, dot, loc, fun y hy e => ?_⟩
  · have := h y hy
    rw [Bool.and_eq_true] at this
    exact of_decide_eq_true this.1
  · have := h y hy
    rw [Bool.and_eq_true] at this
    exact absurd e (of_decide_eq_true this.2)
end Com
set_option Elab.async false
set_option linter.all false
set_option maxRecDepth 100000
set_option maxHeartbeats 4000000
namespace Com
open PySem PySem.Spec PyProof.Rows L2
/-! a text times a number -/
def rMulS : V → V → Hp → VK → Prop := fun x y H Q => ∃ (z : Str) (n : Nat), x = .str z ∧ y = .int (n : Nat) ∧ 1 ≤ n ∧ n ≤ 16777216 ∧ z.length * n ≤ 16777216 ∧ ∀ r : Str, r.cps.toList.length ≤ z.length * n → (∀ c ∈ r.cps.toList, c ∈ z.cps.toList) → Q (.str r) H
theorem rep_len (a : Array Nat) : ∀ (n : Nat) (b : Array Nat), ((List.replicate n a).foldl (· ++ ·) b).toList = b.toList ++ (List.replicate n a.toList).flatten
  | 0, b => by simp
  | n + 1, b => by
    rw [List.replicate_succ, List.foldl_cons, rep_len a n (b ++ a)]
    simp [List.replicate_succ]
theorem op_mulS {X : Cx} : OpR X (binaryOp .Mult) rMulS := by
  intro pins s σ H x y v u Q I rx ry h
  obtain ⟨z, n, rfl, rfl, h1, hn, hz, q⟩ := h
  obtain ⟨t, rfl⟩ := rx
  obtain ⟨t', rfl⟩ := ry
  have hl : z.cps.toList.length = z.length := Array.length_toList
  have hb : ∀ m : Nat, (List.replicate m z.cps.toList).flatten.length = z.length * m := fun m => by
    rw [List.length_flatten]
    simp [hl, Nat.mul_comm]
  refine P.mul_str (by rw [decide_eq_false (by omega), decide_eq_false (by omega)]; rfl) (fun _ _ => ?_) (fun _ _ => ?_) ?_
  · refine Int.not_lt.mpr ((Int.le_ediv_iff_mul_le (by omega)).mpr ?_)
    rw [← Int.natCast_mul]
    omega
  · unfold Builtin.Str.tooLong
    rw [Int.toNat_natCast]
    refine decide_eq_false ?_
    rw [sizeLine_eq]
    omega
  · rw [if_neg (by omega)]
    split
    · exact ⟨.str z, H, I, ⟨_, rfl⟩, q z (by rw [hl]; exact Nat.le_mul_of_pos_right _ h1) fun c hc => hc⟩
    · rw [Int.toNat_natCast]
      have e := rep_len z.cps n #[]
      rw [List.nil_append] at e
      refine ⟨?_, .str _, H, I.tok _, ⟨_, rfl⟩, q _ ?_ fun c hc => ?_⟩
      · show (Array.size _) ≤ _
        rw [← Array.length_toList, e, hb, sizeLine_eq]
        exact hz
      · rw [e, hb]
        exact Nat.le_refl _
      · rw [e] at hc
        obtain ⟨l, h1, h2⟩ := List.mem_flatten.mp hc
        rw [List.eq_of_mem_replicate h1] at h2
        exact h2
end Com
set_option Elab.async false
set_option linter.all false
set_option maxRecDepth 100000
set_option maxHeartbeats 4000000
namespace W4
open PySem PySem.Spec PyProof.Rows L2 Com
def topS (i : Nat) : Stmt := PySem.Challenge.pw_wherewritten_k02_forms_and_their_texts.main.body.getD i (.Pass ⟨0, 0, 0, 0⟩)
abbrev st_is_name : Stmt := topS 13
theorem scis_name : FnScope ["text"] ["text"] (defScope st_is_name) := ⟨rfl, rfl, rfl, by decide +kernel, rfl, by decide +kernel, by decide +kernel⟩
abbrev st__begins_as_number : Stmt := topS 14
theorem sc_begins_as_number : FnScope ["word", "first"] ["word"] (defScope st__begins_as_number) := ⟨rfl, rfl, rfl, by decide +kernel, rfl, by decide +kernel, by decide +kernel⟩
abbrev st__is_number : Stmt := topS 15
theorem sc_is_number : FnScope ["word", "digits"] ["word"] (defScope st__is_number) := ⟨rfl, rfl, rfl, by decide +kernel, rfl, by decide +kernel, by decide +kernel⟩
abbrev st__sort_of_word : Stmt := topS 16
theorem sc_sort_of_word : FnScope ["word"] ["word"] (defScope st__sort_of_word) := ⟨rfl, rfl, rfl, by decide +kernel, rfl, by decide +kernel, by decide +kernel⟩
abbrev st__line_end : Stmt := topS 17
theorem sc_line_end : FnScope ["text", "at", "end"] ["text", "at"] (defScope st__line_end) := ⟨rfl, rfl, rfl, by decide +kernel, rfl, by decide +kernel, by decide +kernel⟩
abbrev st__string_at : Stmt := topS 18
theorem sc_string_at : FnScope ["text", "at", "line_end", "last", "sort"] ["text", "at"] (defScope st__string_at) := ⟨rfl, rfl, rfl, by decide +kernel, rfl, by decide +kernel, by decide +kernel⟩
abbrev st__word_at : Stmt := topS 19
theorem sc_word_at : FnScope ["text", "at", "end", "word"] ["text", "at"] (defScope st__word_at) := ⟨rfl, rfl, rfl, by decide +kernel, rfl, by decide +kernel, by decide +kernel⟩
abbrev st__token_at : Stmt := topS 20
theorem sc_token_at : FnScope ["text", "at"] ["text", "at"] (defScope st__token_at) := ⟨rfl, rfl, rfl, by decide +kernel, rfl, by decide +kernel, by decide +kernel⟩
abbrev st_tokens : Stmt := topS 21
theorem sctokens : FnScope ["text", "found", "at", "token"] ["text"] (defScope st_tokens) := ⟨rfl, rfl, rfl, by decide +kernel, rfl, by decide +kernel, by decide +kernel⟩
abbrev st__atom : Stmt := topS 22
theorem sc_atom : FnScope ["sort", "word", "place"] ["sort", "word", "place"] (defScope st__atom) := ⟨rfl, rfl, rfl, by decide +kernel, rfl, by decide +kernel, by decide +kernel⟩
abbrev st_Reader___init__ : Stmt := inClass (topS 23) 0
theorem scReader___init__ : FnScope ["self", "text"] ["self", "text"] (defScope st_Reader___init__) := ⟨rfl, rfl, rfl, by decide +kernel, rfl, by decide +kernel, by decide +kernel⟩
abbrev st_Reader_new_place : Stmt := inClass (topS 23) 3
theorem scReader_new_place : FnScope ["self", "start"] ["self", "start"] (defScope st_Reader_new_place) := ⟨rfl, rfl, rfl, by decide +kernel, rfl, by decide +kernel, by decide +kernel⟩
abbrev st_Reader_put : Stmt := inClass (topS 23) 6
theorem scReader_put : FnScope ["self", "datum", "_", "place", "parts"] ["self", "datum"] (defScope st_Reader_put) := ⟨rfl, rfl, rfl, by decide +kernel, rfl, by decide +kernel, by decide +kernel⟩
abbrev st_Reader_end_list : Stmt := inClass (topS 23) 5
theorem scReader_end_list : FnScope ["self", "start", "_", "place", "parts"] ["self", "start"] (defScope st_Reader_end_list) := ⟨rfl, rfl, rfl, by decide +kernel, rfl, by decide +kernel, by decide +kernel⟩
abbrev st_Reader_begin_list : Stmt := inClass (topS 23) 4
theorem scReader_begin_list : FnScope ["self", "sign", "start", "place", "parts"] ["self", "sign", "start"] (defScope st_Reader_begin_list) := ⟨rfl, rfl, rfl, by decide +kernel, rfl, by decide +kernel, by decide +kernel⟩
abbrev st_Reader_take : Stmt := inClass (topS 23) 2
theorem scReader_take : FnScope ["self", "sort", "start", "end", "word"] ["self", "sort", "start", "end"] (defScope st_Reader_take) := ⟨rfl, rfl, rfl, by decide +kernel, rfl, by decide +kernel, by decide +kernel⟩
abbrev st_Reader_read_all : Stmt := inClass (topS 23) 1
theorem scReader_read_all : FnScope ["self", "sort", "start", "end"] ["self"] (defScope st_Reader_read_all) := ⟨rfl, rfl, rfl, by decide +kernel, rfl, by decide +kernel, by decide +kernel⟩
abbrev st_read : Stmt := topS 24
theorem scread : FnScope ["text", "reader"] ["text"] (defScope st_read) := ⟨rfl, rfl, rfl, by decide +kernel, rfl, by decide +kernel, by decide +kernel⟩
abbrev st_offsets : Stmt := topS 25
theorem scoffsets : FnScope ["text", "reader"] ["text"] (defScope st_offsets) := ⟨rfl, rfl, rfl, by decide +kernel, rfl, by decide +kernel, by decide +kernel⟩
abbrev st_ReadError___init__ : Stmt := inClass (topS 2) 0
theorem scReadError___init__ : FnScope ["self", "at"] ["self", "at"] (defScope st_ReadError___init__) := ⟨rfl, rfl, rfl, by decide +kernel, rfl, by decide +kernel, by decide +kernel⟩
abbrev st__law_draws : Stmt := topS 33
theorem sc_law_draws : FnScope ["script", "count", "cells", "found", "mixed", "k", "j", "cell", "again"] ["script", "count"] (defScope st__law_draws) := ⟨rfl, rfl, rfl, by decide +kernel, rfl, by decide +kernel, by decide +kernel⟩
abbrev st__law_take : Stmt := topS 34
theorem sc_law_take : FnScope ["draws", "limit"] ["draws", "limit"] (defScope st__law_take) := ⟨rfl, rfl, rfl, by decide +kernel, rfl, by decide +kernel, by decide +kernel⟩
abbrev st__law_same : Stmt := topS 35
theorem sc_law_same : FnScope ["found", "due", "k"] ["found", "due"] (defScope st__law_same) := ⟨rfl, rfl, rfl, by decide +kernel, rfl, by decide +kernel, by decide +kernel⟩
abbrev st_show_atom : Stmt := topS 27
theorem scshow_atom : FnScope ["kind", "value"] ["kind", "value"] (defScope st_show_atom) := ⟨rfl, rfl, rfl, by decide +kernel, rfl, by decide +kernel, by decide +kernel⟩
abbrev st_show : Stmt := topS 28
theorem scshow : FnScope ["datum", "shown", "part"] ["datum"] (defScope st_show) := ⟨rfl, rfl, rfl, by decide +kernel, rfl, by decide +kernel, by decide +kernel⟩
abbrev st_show_text : Stmt := topS 29
theorem scshow_text : FnScope ["forms", "lines", "form"] ["forms"] (defScope st_show_text) := ⟨rfl, rfl, rfl, by decide +kernel, rfl, by decide +kernel, by decide +kernel⟩
abbrev st_count_data : Stmt := topS 30
theorem sccount_data : FnScope ["datum", "many", "part"] ["datum"] (defScope st_count_data) := ⟨rfl, rfl, rfl, by decide +kernel, rfl, by decide +kernel, by decide +kernel⟩
abbrev st_deepest : Stmt := topS 31
theorem scdeepest : FnScope ["datum", "deep", "part"] ["datum"] (defScope st_deepest) := ⟨rfl, rfl, rfl, by decide +kernel, rfl, by decide +kernel, by decide +kernel⟩
abbrev st__law_atom : Stmt := topS 36
theorem sc_law_atom : FnScope ["draws", "kind", "size", "word", "figures", "number", "k"] ["draws"] (defScope st__law_atom) := ⟨rfl, rfl, rfl, by decide +kernel, rfl, by decide +kernel, by decide +kernel⟩
abbrev st__law_tree : Stmt := topS 37
theorem sc_law_tree : FnScope ["draws", "depth", "k"] ["draws", "depth"] (defScope st__law_tree) := ⟨rfl, rfl, rfl, by decide +kernel, rfl, by decide +kernel, by decide +kernel⟩
abbrev st__law_chain : Stmt := topS 38
theorem sc_law_chain : FnScope ["draws", "depth", "tree", "k", "kind", "j"] ["draws", "depth"] (defScope st__law_chain) := ⟨rfl, rfl, rfl, by decide +kernel, rfl, by decide +kernel, by decide +kernel⟩
abbrev st__law_placed : Stmt := topS 39
theorem sc_law_placed : FnScope ["tree", "count", "place", "parts", "part"] ["tree", "count"] (defScope st__law_placed) := ⟨rfl, rfl, rfl, by decide +kernel, rfl, by decide +kernel, by decide +kernel⟩
abbrev st__law_plain : Stmt := topS 40
theorem sc_law_plain : FnScope ["tree", "part"] ["tree"] (defScope st__law_plain) := ⟨rfl, rfl, rfl, by decide +kernel, rfl, by decide +kernel, by decide +kernel⟩
abbrev st__law_gap : Stmt := topS 41
theorem sc_law_gap : FnScope ["draws", "must", "gap"] ["draws", "must"] (defScope st__law_gap) := ⟨rfl, rfl, rfl, by decide +kernel, rfl, by decide +kernel, by decide +kernel⟩
abbrev st__law_written : Stmt := topS 42
theorem sc_law_written : FnScope ["draws", "tree", "pieces", "starts", "size", "first", "k", "piece"] ["draws", "tree", "pieces", "starts"] (defScope st__law_written) := ⟨rfl, rfl, rfl, by decide +kernel, rfl, by decide +kernel, by decide +kernel⟩
abbrev st__law_count : Stmt := topS 43
theorem sc_law_count : FnScope ["tree", "part"] ["tree"] (defScope st__law_count) := ⟨rfl, rfl, rfl, by decide +kernel, rfl, by decide +kernel, by decide +kernel⟩
abbrev st__law_depth : Stmt := topS 44
theorem sc_law_depth : FnScope ["tree", "part"] ["tree"] (defScope st__law_depth) := ⟨rfl, rfl, rfl, by decide +kernel, rfl, by decide +kernel, by decide +kernel⟩
abbrev st_law : Stmt := topS 45
theorem sclaw : FnScope ["script", "draws", "trees", "count", "forms", "pieces", "starts", "tree", "text", "plain", "k"] ["script"] (defScope st_law) := ⟨rfl, rfl, rfl, by decide +kernel, rfl, by decide +kernel, by decide +kernel⟩
end W4
set_option Elab.async false
set_option linter.all false
set_option maxRecDepth 100000
set_option maxHeartbeats 4000000
namespace W4
open PySem PySem.Spec PyProof.Rows L2 Com SX GxR
/-! heaps: all but the tables of code stands -/
structure KT (H H' : Hp) : Prop where
  k : ∀ b o, H b = some o → (∀ ps, o ≠ .tbl ps) → H' b = some o
  t : ∀ b ps, H b = some (.tbl ps) → ∃ ps', H' b = some (.tbl ps')
theorem KT.refl (H : Hp) : KT H H := ⟨fun _ _ h _ => h, fun _ ps h => ⟨ps, h⟩⟩
theorem KT.trans {H1 H2 H3 : Hp} (a : KT H1 H2) (b : KT H2 H3) : KT H1 H3 := ⟨fun c o h n => b.k c o (a.k c o h n) n, fun c ps h => by
  obtain ⟨ps', h'⟩ := a.t c ps h
  exact b.t c ps' h'⟩
theorem KT.same {H H' : Hp} (h : Same H H') : KT H H' := ⟨fun b o e _ => h b o e, fun b ps e => ⟨ps, h b _ e⟩⟩
theorem KT.new {H : Hp} {p : Addr} {o : HO} (h : H p = none) : KT H (upd H p o) := KT.same (same_upd h)
theorem KT.tk {H H' : Hp} (k : KT H H') : Tk H H' := fun a xs e => k.k a _ e fun ps z => by cases z
theorem KT.lst {H H' : Hp} {a : Addr} {xs : List V} (k : KT H H') (h : H a = some (.lst xs)) : H' a = some (.lst xs) := k.k a _ h fun ps z => by cases z
theorem KT.tup {H H' : Hp} {a : Addr} {xs : List V} (k : KT H H') (h : H a = some (.tup xs)) : H' a = some (.tup xs) := k.k a _ h fun ps z => by cases z
theorem KT.ins {H H' : Hp} {a C dx : Addr} {fs : List (Str × V)} (k : KT H H') (h : H a = some (.ins C dx fs)) : H' a = some (.ins C dx fs) := k.k a _ h fun ps z => by cases z
theorem KT.dK {H H' : Hp} {a : Addr} {xs : List (Key × V)} (k : KT H H') (h : H a = some (.dK xs)) : H' a = some (.dK xs) := k.k a _ h fun ps z => by cases z
theorem KT.nn {H H' : Hp} {p : Addr} (k : KT H H') (n : H' p = none) : H p = none := by
  cases e : H p with
  | none => rfl
  | some o =>
    by_cases h : ∃ ps, o = .tbl ps
    · obtain ⟨ps, rfl⟩ := h
      obtain ⟨ps', e'⟩ := k.t p ps e
      rw [n] at e'
      cases e'
    · rw [k.k _ _ e fun ps z => h ⟨ps, z⟩] at n
      cases n
structure TT (PN PD : Addr) (H : Hp) : Prop where
  n : TabG H PN
  d : TabG H PD
theorem TT.put {PN PD a : Addr} {H : Hp} {o : HO} (h : TT PN PD H) (ha : ∀ ps, H a ≠ some (.tbl ps)) : TT PN PD (upd H a o) := by
  obtain ⟨⟨p1, h1, h2⟩, ⟨p2, h3, h4⟩⟩ := h
  refine ⟨⟨p1, ?_, h2⟩, ⟨p2, ?_, h4⟩⟩
  · rw [upd_ne (fun e => ha p1 (by rw [← e]; exact h1))]
    exact h1
  · rw [upd_ne (fun e => ha p2 (by rw [← e]; exact h3))]
    exact h3
theorem TT.new {PN PD a : Addr} {H : Hp} {o : HO} (h : TT PN PD H) (ha : H a = none) : TT PN PD (upd H a o) := h.put fun ps e => by rw [ha] at e; cases e
theorem TT.same {PN PD : Addr} {H H' : Hp} (h : TT PN PD H) (k : Same H H') : TT PN PD H' := by
  obtain ⟨⟨p1, h1, h2⟩, ⟨p2, h3, h4⟩⟩ := h
  exact ⟨⟨p1, k _ _ h1, h2⟩, ⟨p2, k _ _ h3, h4⟩⟩
theorem kt_tab {P : Addr} {H H' : Hp} (g : TabG H P) (h : Tabbed P H H') : KT H H' := by
  obtain ⟨ps0, g, _⟩ := g
  obtain ⟨⟨ps1, g1, _⟩, h2⟩ := h
  refine ⟨fun b o e n => ?_, fun b ps e => ?_⟩
  · rw [h2 b (fun z => by rw [z, g] at e; cases e; exact n ps0 rfl)]
    exact e
  · by_cases z : b = P
    · exact ⟨ps1, by rw [z]; exact g1⟩
    · exact ⟨ps, by rw [h2 b z]; exact e⟩
theorem TT.tabN {PN PD : Addr} {H H' : Hp} (h : TT PN PD H) (g : Tabbed PN H H') : TT PN PD H' := by
  refine ⟨g.1, ?_⟩
  by_cases e : PD = PN
  · rw [e]; exact g.1
  · obtain ⟨ps, h1, h2⟩ := h.d
    exact ⟨ps, by rw [g.2 _ e]; exact h1, h2⟩
theorem TT.tabD {PN PD : Addr} {H H' : Hp} (h : TT PN PD H) (g : Tabbed PD H H') : TT PN PD H' := by
  refine ⟨?_, g.1⟩
  by_cases e : PN = PD
  · rw [e]; exact g.1
  · obtain ⟨ps, h1, h2⟩ := h.n
    exact ⟨ps, by rw [g.2 _ e]; exact h1, h2⟩
theorem seq_split {t1 t2 : TS} {D : Ends} {σ : L2.St} {H : Hp} (J : L2.St → Hp → Prop) (hJ : ∀ σ' H', J σ' H' → t2 D σ' H') (h1 : (∀ σ' H', J σ' H' → t2 D σ' H') → tSeq t1 t2 D σ H) : tSeq t1 t2 D σ H := h1 hJ
theorem tc {v : V} {σ : L2.St} {H : Hp} {Q : VK} (h : Q v H) : tC v σ H Q := h
theorem ixt {K : PySem.W.Frag} {H : Hp} {p : Addr} {xs : List V} {i : Int} {v : V} {Q : VK} (h : H p = some (.tup xs)) (e : atI xs i = some v) (q : Q v H) : rIxT K (.ref p) (.int i) H Q := ⟨p, xs, i, v, rfl, rfl, SqT.of h, e, q⟩
theorem ixl {K : PySem.W.Frag} {H : Hp} {p : Addr} {xs : List V} {i : Int} {v : V} {Q : VK} (h : H p = some (.lst xs)) (e : atI xs i = some v) (q : Q v H) : rIxL K (.ref p) (.int i) H Q := ⟨p, xs, i, v, rfl, rfl, SqL.of h, e, q⟩
/-! signs compared -/
theorem sgE {c k : Nat} {l : Str} (h : l = S [k]) : decide (V.str ⟨#[c]⟩ = V.str l) = decide (c = k) := by
  subst h
  by_cases e : c = k
  · subst e
    rw [decide_eq_true rfl, decide_eq_true rfl]
  · rw [decide_eq_false e, decide_eq_false]
    intro z
    have := S_inj (a := [c]) (b := [k]) (V.str.inj z)
    exact e (List.cons.inj this).1
theorem wdE {a b : T} {l : Str} (h : l = S b) : decide (V.str (S a) = V.str l) = decide (a = b) := by
  subst h
  by_cases e : a = b
  · subst e
    rw [decide_eq_true rfl, decide_eq_true rfl]
  · rw [decide_eq_false e, decide_eq_false]
    intro z
    exact e (S_inj (V.str.inj z))
theorem q_min : ("-" : Str) = S [45] := by decide +kernel
theorem q_zero : ("0" : Str) = S [48] := by decide +kernel
theorem q_emp : ("" : Str) = S [] := by decide +kernel
theorem q_dots : ("..." : Str) = S [46, 46, 46] := by decide +kernel
theorem q_wild : ("_" : Str) = S [95] := by decide +kernel
theorem q_t : ("#t" : Str) = S [35, 116] := by decide +kernel
theorem q_f : ("#f" : Str) = S [35, 102] := by decide +kernel
theorem q_sh : ("#" : Str) = S [35] := by decide +kernel
theorem q_ap : ("'" : Str) = S [39] := by decide +kernel
theorem q_qq : ("\"" : Str) = S [34] := by decide +kernel
theorem q_semi : (";" : Str) = S [59] := by decide +kernel
theorem q_open : ("(" : Str) = S [40] := by decide +kernel
theorem q_close : (")" : Str) = S [41] := by decide +kernel
theorem q_nl : ("\n" : Str) = S [10] := by decide +kernel
theorem q_sp : (" " : Str) = S [32] := by decide +kernel
theorem w_sig : (("()'" : Str)).cps.toList = [40, 41, 39] := by decide +kernel
theorem w_bl : ((" \n" : Str)).cps.toList = [32, 10] := by decide +kernel
theorem atS {w : T} {i c : Nat} (h : w[i]? = some c) : atI ((S w).cps.toList) (i : Int) = some c := atI_nat h
theorem len_S (w : T) : (S w).length = w.length := S_len w
/-- the names that the module does not bind -/
structure Mg (mg : Str → Option Value) : Prop where
  len : mg "len" = none
  int : mg "int" = none
  bool : mg "bool" = none
  str : mg "str" = none
  tuple : mg "tuple" = none
  list : mg "list" = none
  range : mg "range" = none
  isinstance : mg "isinstance" = none
  all : mg "all" = none
/-- the constants of the module -/
structure Gb (mg : Str → Option Value) : Type where
  t2 : PySem.Tok
  t3 : PySem.Tok
  t4 : PySem.Tok
  t5 : PySem.Tok
  t6 : PySem.Tok
  t7 : PySem.Tok
  t8 : PySem.Tok
  t9 : PySem.Tok
  dig : mg "DIGITS" = some (.str "0123456789" t2)
  sig : mg "NAME_SIGNS" = some (.str "abcdefghijklmnopqrstuvwxyz0123456789!*+-./:<=>?_" t3)
  wend : mg "WORD_ENDS" = some (.str " \n()'\";" t4)
  lname : mg "LONGEST_NAME" = some (.int 20 t5)
  mdig : mg "MOST_DIGITS" = some (.int 30 t6)
  lstr : mg "LONGEST_STRING" = some (.int 100 t7)
  ltext : mg "LONGEST_TEXT" = some (.int 6000 t8)
  deep : mg "DEEPEST_LIST" = some (.int 60 t9)
def sigS : Str := "abcdefghijklmnopqrstuvwxyz0123456789!*+-./:<=>?_"
def digS : Str := "0123456789"
def pcN (c : Nat) : Bool := !(Builtin.Str.occurrences sigS ⟨#[c]⟩ 0 sigS.length 1).isEmpty
def pcD (c : Nat) : Bool := !(Builtin.Str.occurrences digS ⟨#[c]⟩ 0 digS.length 1).isEmpty
theorem pcN_eq (c : Nat) : pcN c = isN c := by
  have h := StrLaws.found_one sigS c
  unfold pcN isN
  rw [h, show sigS.cps.toList = namC from nam_lit]
theorem pcD_eq (c : Nat) : pcD c = isD c := by
  have h := StrLaws.found_one digS c
  unfold pcD isD
  rw [h, show digS.cps.toList = digC from dig_lit]
section
variable {P : Program} {w : World} {K : PySem.W.Frag} {mg : Str → Option Value} {base : Heap}
/-! _begins_as_number -/
def spBeg : Sp := fun vs H Q _ => ∃ w : T, vs = [.str (S w)] ∧ w ≠ [] ∧ w.length ≤ 1000000 ∧ Q (.bl (begN w)) H
theorem ok_begins {f : Addr} {fd : FuncData} (F : Dfn K mg "_begins_as_number" st__begins_as_number f fd ["word"]) (M : Mg mg) (G : Gb mg) : Cal P w K mg base 1 "_begins_as_number" spBeg := by
  refine cal_mk F sc_begins_as_number (fun vs H Q E h => ?_) (fun cdv A outer s H vs Q E hr h => ?_)
  · obtain ⟨w, rfl, _⟩ := h
    rfl
  obtain ⟨w, rfl, hne, hl, q⟩ := h
  obtain ⟨c, r, rfl⟩ := List.exists_cons_of_ne_nil hne
  have hz : (S (c :: r)).length ≤ sizeLine := by rw [len_S]; show _ ≤ 2 ^ 24; omega
  have h0 : atI ((S (c :: r)).cps.toList) 0 = some c := atS (w := c :: r) (i := 0) rfl
  refine ⟨_, (pss_cons (ps_set (i := 1) sc_begins_as_number.nd rfl (.inl rfl) (pe_ifExp (pt_cmpR op_eq (pe_ix ix_str (pv 0) pe_int (fun _ _ => rfl)) pe_str (nomark _)) (pe_slice sl_str (pv 0) (po_some pe_int) (po_some pe_int)) (pe_ix ix_str (pv 0) pe_int (fun _ _ => rfl))))
      (pss_one (ps_ret (pe_and (pe_cmpR op_ne (pv 1) pe_str (nomark _)) (pe_one (pe_cmpR op_inS (pv 1) (pe_glob (v := .str "0123456789") (by rfl) G.dig ⟨_, rfl⟩) (by rfl))))))), ?_⟩
  refine ⟨_, rfl, tc ⟨_, 0, c, rfl, rfl, hz, h0, rfl, _, rfl, ?_⟩⟩
  rw [sgE q_min]
  by_cases hc : c = 45
  · subst hc
    rw [decide_eq_true rfl]
    refine iteT ⟨_, rfl, _, rfl, _, rfl, _, rfl, hz, ?_⟩
    have e1 : cutS (S (45 :: r)) (some 1) (some 2) = S (r.take 1) := by
      have h := cut_one (t := 45 :: r) (a := 1) (by simp)
      rw [show ((1 : Nat) : Int) + 1 = 2 from rfl] at h
      exact h
    have e2 : begN (45 :: r) = match r.head? with | some c => isD c | none => false := rfl
    dsimp only [gName]
    refine ⟨_, rfl, rfl, _, rfl, ?_⟩
    rw [e1, wdE q_emp]
    cases r with
    | nil =>
      rw [e2] at q
      exact q
    | cons d r =>
      rw [decide_eq_false (show ¬ List.take 1 (d :: r) = [] by simp)]
      refine iteT ⟨_, rfl, tc ⟨d, _, rfl, rfl, ?_⟩⟩
      rw [e2] at q
      rw [dig_lit]
      exact q
  · rw [decide_eq_false hc]
    refine iteF ⟨_, rfl, tc ⟨_, 0, c, rfl, rfl, hz, h0, ?_⟩⟩
    have e2 : begN (c :: r) = isD c := by
      unfold begN body
      rw [if_neg (show ¬ (c :: r).head? = some 45 from fun e => hc (Option.some.inj e))]
      rfl
    dsimp only [gName]
    refine ⟨_, rfl, rfl, _, rfl, ?_⟩
    rw [show V.str ({ cps := #[c] } : Str) = V.str (S [c]) from rfl, wdE q_emp, decide_eq_false (show ¬ [c] = [] by simp)]
    refine iteT ⟨_, rfl, tc ⟨c, _, rfl, rfl, ?_⟩⟩
    rw [e2] at q
    rw [dig_lit]
    exact q
/-! words -/
structure Ok (w : T) : Prop where
  len : w.length ≤ 1000000
  sg : ∀ c ∈ w, c < 1114112
theorem Ok.str {w : T} (h : Ok w) : PyData.strOk (S w) = true := by
  unfold PyData.strOk
  rw [← Array.all_toList]
  rw [List.all_eq_true]
  intro c hc
  exact decide_eq_true (h.sg c hc)
theorem Ok.z {w : T} (h : Ok w) : (S w).length ≤ sizeLine := by
  rw [len_S]
  have := h.len
  show _ ≤ 2 ^ 24
  omega
theorem Ok.sub {w : T} (h : Ok w) {v : T} (hl : v.length ≤ w.length) (hs : ∀ c ∈ v, c ∈ w) : Ok v := ⟨Nat.le_trans hl h.len, fun c hc => h.sg c (hs c hc)⟩
theorem Ok.wrd {t : T} (h : Ok t) (a b : Nat) : Ok (wrd t a b) := h.sub (by unfold W4.wrd; rw [List.length_take, List.length_drop]; omega) fun c hc => List.mem_of_mem_drop (List.mem_of_mem_take hc)
theorem Ok.body {w : T} (h : Ok w) : Ok (body w) := by
  unfold W4.body
  split
  · exact h.sub (by rw [List.length_tail]; omega) fun c hc => List.mem_of_mem_tail hc
  · exact h
theorem shpS {w : T} (h : Ok w) : SeqAt.shaped (.str (S w)) = true := by
  show ((PyData.str (S w)).canLay0 && decide ((PyData.str (S w)).depth ≤ 64)) = true
  rw [Bool.and_eq_true]
  exact ⟨by simp [PyData.canLay0, h.str], decide_eq_true (by simp [PyData.depth])⟩
theorem tup_new {H : Hp} {p : Addr} {xs : List V} {ds : List PyData} (h : H p = none) (hx : DtAll H xs ds) : ∃ H', upd H p (.tup xs) = H' ∧ Same H H' ∧ Dt H' (.ref p) (.tuple ds) :=
  ⟨_, rfl, same_upd h, .tup upd_same (hx.tk (same_tk (same_upd h)))⟩
/-- a word in a written pair of words -/
theorem in_two {K : PySem.W.Frag} {H : Hp} {p : Addr} {w a b : T} {la lb : Str} {Q : VK} (ha : la = S a) (hb : lb = S b) (oa : Ok a) (ob : Ok b) (ow : Ok w) (hp : H p = some (.tup [.str la, .str lb])) (q : Q (.bl (decide (w = a ∨ w = b))) H) : rInT K (.str (S w)) (.ref p) H Q := by
  subst ha hb
  have d1 : Dt H (.ref p) (.tuple [.str (S a), .str (S b)]) := .tup hp (.cons (.str _) (.cons (.str _) .nil))
  refine ⟨.str (S w), _, .str _, d1.dp, shpS ow, ?_, ?_⟩
  · show ((PyData.tuple [.str (S a), .str (S b)]).canLay0 && decide ((PyData.tuple [.str (S a), .str (S b)]).depth ≤ 64)) = true
    rw [Bool.and_eq_true]
    exact ⟨by simp [PyData.canLay0, PyData.canLayAll0, oa.str, ob.str], decide_eq_true (by simp [PyData.depth, PyData.depthAll])⟩
  · have e : ([PyData.str (S a), PyData.str (S b)].any fun z => PyData.eqv z (.str (S w))) = decide (w = a ∨ w = b) := by
      rw [Bool.eq_iff_iff, any_pl (by rfl) (by rfl), decide_eq_true_iff]
      simp only [List.mem_cons, List.not_mem_nil, or_false, PyData.str.injEq]
      constructor
      · rintro (h | h)
        · exact .inl (S_inj h)
        · exact .inr (S_inj h)
      · rintro (h | h)
        · exact .inl (by rw [h])
        · exact .inr (by rw [h])
    rw [e]
    exact q
theorem ok3 {a b c : Nat} (h : a < 1000 ∧ b < 1000 ∧ c < 1000) : Ok [a, b, c] := ⟨by simp, fun x hx => by simp at hx; omega⟩
theorem ok2 {a b : Nat} (h : a < 1000 ∧ b < 1000) : Ok [a, b] := ⟨by simp, fun x hx => by simp at hx; omega⟩
theorem ok1 {a : Nat} (h : a < 1000) : Ok [a] := ⟨by simp, fun x hx => by simp at hx; omega⟩
/-! is_name -/
def spName (PN PD : Addr) : Sp := fun vs H Q _ => ∃ w : T, vs = [.str (S w)] ∧ w ≠ [] ∧ Ok w ∧ TT PN PD H ∧ ∀ H', KT H H' → TT PN PD H' → Q (.bl (isNam w)) H'
theorem ok_is_name {f cN PN PD : Addr} {fd : FuncData} (F : DfnC K mg "is_name" st_is_name f fd ["text"] cN) (M : Mg mg) (G : Gb mg) (TB : TabB base mg cN PN) (G_begins_as_number : Cal P w K mg base 1 "_begins_as_number" spBeg) : Cal P w K mg base 2 "is_name" (spName PN PD) := by
  refine cal_mkC F scis_name (fun vs H Q E h => ?_) (fun A outer s H vs Q E hr h => ?_)
  · obtain ⟨w, rfl, _⟩ := h
    rfl
  obtain ⟨w, rfl, hne, ok, hT, q⟩ := h
  have hl0 : 1 ≤ w.length := List.length_pos_iff.mpr hne
  refine ⟨_, (pss_cons (ps_if (PW.pt (pw_or (pt_not (pt_chain op_le op_le pe_int (pe_callB call_len_str (by rfl) M.len b_len (pa_cons (pv 0) pa_nil)) (pe_glob (v := .int 20) (by rfl) G.lname ⟨_, rfl⟩))) (pw_or1 (pt_cmpR (opInT K rfl (units65 hr)) (pv 0) (pe_tup (pa_cons pe_str (pa_cons pe_str pa_nil))) (by rfl))))) (pss_one (ps_ret pe_bl)) pss_nil)
      (pss_cons (ps_if (pt_val (pe_c G_begins_as_number hr (by omega) (by rfl) (pa_cons (pv 0) pa_nil))) (pss_one (ps_ret pe_bl)) pss_nil)
      (pss_one (ps_ret (GenU.pe_allU (c := cN) (P := PN) (pc := pcN) hr (by rfl) M.all b_all TB rfl (genS_mk rfl rfl (by decide +kernel) rfl rfl) (pv 0) (GenU.elt_inG rfl rfl rfl G.sig) (fun _ _ => rfl) (fun _ => rfl)))))), ?_⟩
  refine ⟨_, rfl, S w, rfl, ok.z, _, _, rfl, rfl, _, rfl, ?_⟩
  rw [len_S, decide_eq_true (show (1 : Int) ≤ (w.length : Int) by omega)]
  refine iteT (tc ⟨_, _, rfl, rfl, _, rfl, ?_⟩)
  by_cases h20 : w.length ≤ 20
  · rw [decide_eq_true (show (w.length : Int) ≤ (20 : Int) by omega)]
    refine iteF ?_
    refine ⟨_, rfl, by show 2 ≤ sizeLine; decide, fun p np => ?_⟩
    have k1 := same_upd (o := .tup [.str "...", .str "_"]) np
    have hp : upd H p (.tup [.str "...", .str "_"]) p = some (.tup [.str "...", .str "_"]) := upd_same
    have hT1 := hT.same k1
    generalize upd H p (.tup [.str "...", .str "_"]) = H1 at k1 hp hT1 ⊢
    refine in_two q_dots q_wild (ok3 (by decide)) (ok1 (by decide)) ok hp ⟨_, rfl, ?_⟩
    by_cases hd : w = [46, 46, 46] ∨ w = [95]
    · rw [decide_eq_true hd]
      have e : isNam w = false := by
        unfold isNam
        rcases hd with hd | hd
        · simp [hd]
        · simp [hd]
      rw [e] at q
      exact iteT (q H1 (KT.same k1) hT1)
    · rw [decide_eq_false hd]
      refine iteF ⟨_, rfl, w, rfl, hne, ok.len, _, rfl, ?_⟩
      have d1 : decide (w = [46, 46, 46]) = false := decide_eq_false fun e => hd (.inl e)
      have d2 : decide (w = [95]) = false := decide_eq_false fun e => hd (.inr e)
      cases hb : begN w with
      | true =>
        have e : isNam w = false := by unfold isNam; rw [hb]; simp
        rw [e] at q
        exact iteT (q H1 (KT.same k1) hT1)
      | false =>
        have e : isNam w = w.all isN := by
          unfold isNam
          rw [hb, decide_eq_true hl0, decide_eq_true h20, d1, d2]
          simp
        rw [e] at q
        refine iteF ⟨_, rfl, hT1.n, S w, rfl, fun H2 hTb => ?_⟩
        have ea : ((S w).cps.toList.all pcN) = w.all isN := by
          show w.all pcN = w.all isN
          congr 1
          funext c
          exact pcN_eq c
        rw [ea]
        exact q H2 ((KT.same k1).trans (kt_tab hT1.n hTb)) (hT1.tabN hTb)
  · rw [decide_eq_false (show ¬ (w.length : Int) ≤ (20 : Int) by omega)]
    have e : isNam w = false := by
      unfold isNam
      rw [decide_eq_false h20]
      simp
    rw [e] at q
    exact iteT (q H (KT.refl H) hT)
/-! _is_number -/
def spNum (PN PD : Addr) : Sp := fun vs H Q _ => ∃ w : T, vs = [.str (S w)] ∧ w ≠ [] ∧ Ok w ∧ TT PN PD H ∧ ∀ H', KT H H' → TT PN PD H' → Q (.bl (isNum w)) H'
theorem cut_tail {w : T} : cutS (S w) (some 1) none = S w.tail := by
  unfold cutS
  have e : (S w).length = w.length := S_len w
  rw [show (some 1 : Option Int) = some ((1 : Nat) : Int) from rfl, HT.sIx_nat, HT.sIx_none, e]
  cases w with
  | nil => rfl
  | cons c r =>
    have : min 1 (c :: r).length = 1 := Nat.min_eq_left (by simp)
    rw [this]
    show S ((r).take ((r.length + 1) - 1)) = S r
    rw [Nat.add_sub_cancel, List.take_length]
theorem ok_is_number {f cD PN PD : Addr} {fd : FuncData} (F : DfnC K mg "_is_number" st__is_number f fd ["word"] cD) (M : Mg mg) (G : Gb mg) (TB : TabB base mg cD PD) : Cal P w K mg base 1 "_is_number" (spNum PN PD) := by
  refine cal_mkC F sc_is_number (fun vs H Q E h => ?_) (fun A outer s H vs Q E hr h => ?_)
  · obtain ⟨w, rfl, _⟩ := h
    rfl
  obtain ⟨w, rfl, hne, ok, hT, q⟩ := h
  refine ⟨_, (pss_cons (ps_if (pt_cmpR op_eq (pv 0) pe_str (nomark _)) (pss_one (ps_ret pe_bl)) pss_nil)
      (pss_cons (ps_set (i := 1) sc_is_number.nd rfl (.inl rfl) (pe_ifExp (pt_cmpR op_eq (pe_ix ix_str (pv 0) pe_int (fun _ _ => rfl)) pe_str (nomark _)) (pe_slice sl_str (pv 0) (po_some pe_int) po_none) (pv 0)))
      (pss_cons (ps_if (PW.pt (pw_or (pt_not (pt_chain op_le op_le pe_int (pe_callB call_len_str (by rfl) M.len b_len (pa_cons (pv 1) pa_nil)) (pe_glob (v := .int 30) (by rfl) G.mdig ⟨_, rfl⟩))) (pw_or1 (pt_cmpR op_eq (pe_ix ix_str (pv 1) pe_int (fun _ _ => rfl)) pe_str (nomark _))))) (pss_one (ps_ret pe_bl)) pss_nil)
      (pss_one (ps_ret (GenU.pe_allU (c := cD) (P := PD) (pc := pcD) hr (by rfl) M.all b_all TB rfl (genS_mk rfl rfl (by decide +kernel) rfl rfl) (pv 1) (GenU.elt_inG rfl rfl rfl G.dig) (fun _ _ => rfl) (fun _ => rfl))))))), ?_⟩
  refine ⟨_, rfl, rfl, _, rfl, ?_⟩
  rw [wdE q_zero]
  by_cases h0 : w = [48]
  · rw [decide_eq_true h0]
    have e : isNum w = true := by unfold isNum; rw [decide_eq_true h0]; rfl
    rw [e] at q
    exact iteT (q H (KT.refl H) hT)
  rw [decide_eq_false h0]
  refine iteF ?_
  dsimp only [tNext]
  refine seq_split (t1 := tAsg _ _) (fun σ' H' => σ' = [some (.str (S w)), some (.str (S (body w)))] ∧ H' = H) ?_ (fun rest => ?_)
  · rintro σ' H' ⟨rfl, rfl⟩
    have okb := ok.body
    have hzb := okb.z
    obtain ⟨b, hb⟩ : ∃ b, b = body w := ⟨_, rfl⟩
    have hw0 : decide (w = [48]) = false := decide_eq_false h0
    rw [← hb] at okb hzb ⊢
    refine ⟨_, rfl, S b, rfl, hzb, _, _, rfl, rfl, _, rfl, ?_⟩
    rw [len_S]
    by_cases hl1 : 1 ≤ b.length
    case neg =>
      rw [decide_eq_false (show ¬ (1 : Int) ≤ (b.length : Int) by omega)]
      have e : isNum w = false := by unfold isNum; rw [hw0, ← hb, decide_eq_false hl1]; rfl
      rw [e] at q
      exact iteF ⟨false, rfl, iteT (q H' (KT.refl H') hT)⟩
    case pos =>
    rw [decide_eq_true (show (1 : Int) ≤ (b.length : Int) by omega)]
    refine iteT (tc ⟨_, _, rfl, rfl, _, rfl, ?_⟩)
    by_cases hl2 : b.length ≤ 30
    case neg =>
      rw [decide_eq_false (show ¬ (b.length : Int) ≤ (30 : Int) by omega)]
      have e : isNum w = false := by unfold isNum; rw [hw0, ← hb, decide_eq_true hl1, decide_eq_false hl2]; rfl
      rw [e] at q
      exact iteT (q H' (KT.refl H') hT)
    case pos =>
    rw [decide_eq_true (show (b.length : Int) ≤ (30 : Int) by omega)]
    refine iteF ?_
    obtain ⟨c, r, hcr⟩ := List.exists_cons_of_ne_nil (List.length_pos_iff.mp hl1)
    have hc0 : atI ((S b).cps.toList) 0 = some c := by rw [hcr]; exact atS (w := c :: r) (i := 0) rfl
    have hh : b.head? = some c := by rw [hcr]; rfl
    refine ⟨_, rfl, tc ⟨S b, 0, c, rfl, rfl, hzb, hc0, rfl, _, rfl, ?_⟩⟩
    rw [sgE q_zero]
    by_cases h48 : c = 48
    · rw [decide_eq_true h48]
      have e : isNum w = false := by unfold isNum; rw [hw0, ← hb, decide_eq_true hl1, decide_eq_true hl2, decide_eq_true (show b.head? = some 48 by rw [hh, h48])]; rfl
      rw [e] at q
      exact iteT (q H' (KT.refl H') hT)
    · rw [decide_eq_false h48]
      have e : isNum w = b.all isD := by
        unfold isNum
        rw [hw0, ← hb, decide_eq_true hl1, decide_eq_true hl2, decide_eq_false (show ¬ b.head? = some 48 by rw [hh]; intro z; exact h48 (Option.some.inj z))]
        simp
      rw [e] at q
      refine iteF ⟨_, rfl, hT.d, S b, rfl, fun H2 hTb => ?_⟩
      have ea : ((S b).cps.toList.all pcD) = b.all isD := by
        show b.all pcD = b.all isD
        congr 1
        funext c
        exact pcD_eq c
      rw [ea]
      exact q H2 (kt_tab hT.d hTb) (hT.tabD hTb)
  · obtain ⟨c, r, rfl⟩ := List.exists_cons_of_ne_nil hne
    have hz := ok.z
    have hc0 : atI ((S (c :: r)).cps.toList) 0 = some c := atS (w := c :: r) (i := 0) rfl
    refine ⟨_, rfl, tc ⟨_, 0, c, rfl, rfl, hz, hc0, rfl, _, rfl, ?_⟩⟩
    rw [sgE q_min]
    by_cases hc : c = 45
    · subst hc
      rw [decide_eq_true rfl]
      refine iteT ⟨_, rfl, _, rfl, _, rfl, hz, ?_⟩
      rw [cut_tail]
      exact rest _ _ ⟨rfl, rfl⟩
    · rw [decide_eq_false hc]
      refine iteF ⟨_, rfl, rest _ _ ⟨?_, rfl⟩⟩
      have e2 : body (c :: r) = c :: r := by
        unfold body
        rw [if_neg (show ¬ (c :: r).head? = some 45 from fun e => hc (Option.some.inj e))]
      rw [e2]
      rfl
end
end W4
set_option Elab.async false
set_option linter.all false
set_option maxRecDepth 100000
set_option maxHeartbeats 4000000
namespace W4
open PySem PySem.Spec PyProof.Rows L2 Com SX GxR
/-! where a run ends, told by find -/
theorem fromI (n a : Nat) : fromIndex n (a : Int) = a := by
  unfold fromIndex
  rw [if_neg (by omega)]
  omega
theorem getD_S {t : T} {v c : Nat} (h : t[v]? = some c) : (S t).cps.getD v 0 = c := by
  obtain ⟨hv, e⟩ := List.getElem?_eq_some_iff.mp h
  show (t.toArray).getD v 0 = c
  simp [Array.getD, hv, e]
theorem find_run {p : Nat → Bool} {t : T} {a k0 : Nat} (hp : ∀ c, p c = !decide (c = k0)) (ha : a ≤ t.length) :
    (Txt.find3 (S t) (S [k0]) (a : Int) = -1 ∧ runE p t a = t.length) ∨ ∃ k : Nat, Txt.find3 (S t) (S [k0]) (a : Int) = (k : Int) ∧ runE p t a = k ∧ k < t.length ∧ a ≤ k ∧ t[k]? = some k0 := by
  have h := StrLaws.find3_spec (S t) k0 (a : Int)
  rw [fromI, len_S] at h
  have hat := runE_at (p := p) (t.length - a) (t := t) (a := a) rfl ha
  rcases h with ⟨h1, h2⟩ | ⟨k, h1, h2, h3, h4, h5⟩
  · refine .inl ⟨h1, ?_⟩
    rcases hat with e | ⟨c, hc, hpc⟩
    · exact e
    · exfalso
      have hl := (List.getElem?_eq_some_iff.mp hc).1
      rw [hp] at hpc
      have ek : c = k0 := by simpa using hpc
      exact h2 _ (runE_ge p t a) hl (by rw [getD_S hc]; exact ek)
  · have hk : t[k]? = some k0 := by
      rw [List.getElem?_eq_getElem h3]
      have := getD_S (t := t) (List.getElem?_eq_getElem h3)
      rw [h4] at this
      rw [← this]
    refine .inr ⟨k, h1, ?_, h3, h2, hk⟩
    have hge := runE_ge p t a
    rcases Nat.lt_trichotomy (runE p t a) k with hlt | heq | hgt
    · exfalso
      rcases hat with e | ⟨c, hc, hpc⟩
      · omega
      · rw [hp] at hpc
        have ek : c = k0 := by simpa using hpc
        exact h5 _ hge hlt (by rw [getD_S hc]; exact ek)
    · exact heq
    · exfalso
      have := runE_in (t.length - a) rfl h2 hgt hk
      rw [hp] at this
      simp at this
section
variable {P : Program} {w : World} {K : PySem.W.Frag} {mg : Str → Option Value} {base : Heap}
/-! _sort_of_word -/
def spSort (PN PD : Addr) : Sp := fun vs H Q _ => ∃ w : T, vs = [.str (S w)] ∧ w ≠ [] ∧ Ok w ∧ TT PN PD H ∧ ∀ H', KT H H' → TT PN PD H' → Q (.str (sortW w)) H'
theorem ok_sort_of_word {f PN PD : Addr} {fd : FuncData} (F : Dfn K mg "_sort_of_word" st__sort_of_word f fd ["word"]) (M : Mg mg) (G_is_number : Cal P w K mg base 1 "_is_number" (spNum PN PD)) (Gis_name : Cal P w K mg base 2 "is_name" (spName PN PD)) : Cal P w K mg base 3 "_sort_of_word" (spSort PN PD) := by
  refine cal_mk F sc_sort_of_word (fun vs H Q E h => ?_) (fun cdv A outer s H vs Q E hr h => ?_)
  · obtain ⟨w, rfl, _⟩ := h
    rfl
  obtain ⟨w, rfl, hne, ok, hT, q⟩ := h
  refine ⟨_, (pss_cons (ps_if (pt_cmpR (opInT K rfl (units65 hr)) (pv 0) (pe_tup (pa_cons pe_str (pa_cons pe_str pa_nil))) (by rfl)) (pss_one (ps_ret pe_str)) pss_nil)
      (pss_cons (ps_if (pt_cmpR op_eq (pv 0) pe_str (nomark _)) (pss_one (ps_ret pe_str)) pss_nil)
      (pss_cons (ps_if (pt_cmpR op_eq (pv 0) pe_str (nomark _)) (pss_one (ps_ret pe_str)) pss_nil)
      (pss_cons (ps_if (pt_val (pe_c G_is_number hr (by omega) (by rfl) (pa_cons (pv 0) pa_nil))) (pss_one (ps_ret pe_str)) pss_nil)
      (pss_one (ps_ret (pe_ifExp (pt_val (pe_c Gis_name hr (by omega) (by rfl) (pa_cons (pv 0) pa_nil))) pe_str pe_str))))))), ?_⟩
  refine ⟨_, rfl, by show 2 ≤ sizeLine; decide, fun p np => ?_⟩
  have k1 := same_upd (o := .tup [.str "#t", .str "#f"]) np
  have hp : upd H p (.tup [.str "#t", .str "#f"]) p = some (.tup [.str "#t", .str "#f"]) := upd_same
  have hT1 := hT.same k1
  generalize upd H p (.tup [.str "#t", .str "#f"]) = H1 at k1 hp hT1 ⊢
  refine in_two q_t q_f (ok2 (by decide)) (ok2 (by decide)) ok hp ⟨_, rfl, ?_⟩
  by_cases hd : w = [35, 116] ∨ w = [35, 102]
  · rw [decide_eq_true hd]
    have e : sortW w = "flag" := by unfold sortW; rw [if_pos hd]
    rw [e] at q
    exact iteT (q H1 (KT.same k1) hT1)
  rw [decide_eq_false hd]
  refine iteF ⟨_, rfl, rfl, _, rfl, ?_⟩
  rw [wdE q_dots]
  by_cases h1 : w = [46, 46, 46]
  · rw [decide_eq_true h1]
    have e : sortW w = "dots" := by unfold sortW; rw [if_neg hd, if_pos h1]
    rw [e] at q
    exact iteT (q H1 (KT.same k1) hT1)
  rw [decide_eq_false h1]
  refine iteF ⟨_, rfl, rfl, _, rfl, ?_⟩
  rw [wdE q_wild]
  by_cases h2 : w = [95]
  · rw [decide_eq_true h2]
    have e : sortW w = "wild" := by unfold sortW; rw [if_neg hd, if_neg h1, if_pos h2]
    rw [e] at q
    exact iteT (q H1 (KT.same k1) hT1)
  rw [decide_eq_false h2]
  refine iteF ⟨_, rfl, w, rfl, hne, ok, hT1, fun H2 k2 hT2 => ⟨_, rfl, ?_⟩⟩
  have kk2 := (KT.same k1).trans k2
  cases h3 : isNum w with
  | true =>
    have e : sortW w = "number" := by unfold sortW; rw [if_neg hd, if_neg h1, if_neg h2, if_pos h3]
    rw [e] at q
    exact iteT (q H2 kk2 hT2)
  | false =>
    refine iteF ⟨_, rfl, w, rfl, hne, ok, hT2, fun H3 k3 hT3 => ⟨_, rfl, ?_⟩⟩
    have kk3 := kk2.trans k3
    have h3' : ¬ isNum w = true := by rw [h3]; exact Bool.false_ne_true
    cases h4 : isNam w with
    | true =>
      have e : sortW w = "name" := by unfold sortW; rw [if_neg hd, if_neg h1, if_neg h2, if_neg h3', if_pos h4]
      rw [e] at q
      exact iteT (q H3 kk3 hT3)
    | false =>
      have e : sortW w = "wrong" := by unfold sortW; rw [if_neg hd, if_neg h1, if_neg h2, if_neg h3', if_neg (by rw [h4]; exact Bool.false_ne_true)]
      rw [e] at q
      exact iteF (q H3 kk3 hT3)
/-! _line_end -/
def spLine : Sp := fun vs H Q _ => ∃ (t : T) (a : Nat), vs = [.str (S t), .int (a : Nat)] ∧ a ≤ t.length ∧ Ok t ∧ Q (.int (runE noL t a : Nat)) H
theorem ok_line_end {f : Addr} {fd : FuncData} (F : Dfn K mg "_line_end" st__line_end f fd ["text", "at"]) (M : Mg mg) : Cal P w K mg base 1 "_line_end" spLine := by
  refine cal_mk F sc_line_end (fun vs H Q E h => ?_) (fun cdv A outer s H vs Q E hr h => ?_)
  · obtain ⟨t, a, rfl, _⟩ := h
    rfl
  obtain ⟨t, a, rfl, ha, ok, q⟩ := h
  refine ⟨_, (pss_cons (ps_set (i := 2) sc_line_end.nd rfl (.inl rfl) (pe_bm PySem.F.plainAttrs_str PySem.F.slot_str_find PySem.F.type_str_find mt_find3 (pv 0) (pa_cons pe_str (pa_cons (pv 1) pa_nil))))
      (pss_one (ps_ret (pe_ifExp (pt_cmpR op_eq (pv 2) (pe_un un_neg pe_int) (nomark _)) (pe_callB call_len_str (by rfl) M.len b_len (pa_cons (pv 0) pa_nil)) (pv 2))))), ?_⟩
  refine ⟨_, rfl, rfl, _, rfl, S t, S [10], (a : Int), rfl, by rw [q_nl], ?_⟩
  rcases find_run (p := noL) (k0 := 10) (fun c => rfl) ha with ⟨e1, e2⟩ | ⟨k, e1, e2, hk, _, _⟩
  · rw [e1]
    rw [e2] at q
    dsimp only [gName]
    refine ⟨_, rfl, _, rfl, rfl, _, rfl, ?_⟩
    rw [decide_eq_true rfl]
    refine iteT ⟨_, rfl, S t, rfl, ok.z, ?_⟩
    rw [len_S]
    exact q
  · rw [e1]
    rw [e2] at q
    dsimp only [gName]
    refine ⟨_, rfl, _, rfl, rfl, _, rfl, ?_⟩
    have : ¬ V.int (k : Int) = V.int (-1) := fun z => by have := V.int.inj z; omega
    rw [decide_eq_false this]
    exact iteF ⟨_, rfl, q⟩
end
end W4
set_option Elab.async false
set_option linter.all false
set_option maxRecDepth 100000
set_option maxHeartbeats 4000000
namespace W4
open PySem PySem.Spec PyProof.Rows L2 Com SX GxR
theorem runE_uniq {p : Nat → Bool} {t : T} {a e : Nat} (h1 : a ≤ e) (h2 : e ≤ t.length) (hi : ∀ v c, a ≤ v → v < e → t[v]? = some c → p c = true) (he : e = t.length ∨ ∃ c, t[e]? = some c ∧ p c = false) : runE p t a = e := by
  have hat := runE_at (p := p) (t.length - a) (t := t) (a := a) rfl (Nat.le_trans h1 h2)
  have hge := runE_ge p t a
  rcases Nat.lt_trichotomy (runE p t a) e with h | h | h
  · exfalso
    rcases hat with z | ⟨c, hc, hp⟩
    · omega
    · have := hi _ c hge h hc
      rw [hp] at this
      cases this
  · exact h
  · exfalso
    rcases he with z | ⟨c, hc, hp⟩
    · have := runE_le (p := p) (Nat.le_trans h1 h2)
      omega
    · have := runE_in (t.length - a) rfl h1 h hc
      rw [hp] at this
      cases this
theorem noQ_ne {c : Nat} (h : noQ c = true) : c ≠ 10 ∧ c ≠ 34 := by
  unfold noQ at h
  simp only [Bool.and_eq_true, Bool.not_eq_true', decide_eq_false_iff_not] at h
  exact h
theorem noQ_no {c : Nat} (h : noQ c = false) : c = 10 ∨ c = 34 := by
  unfold noQ at h
  by_cases h1 : c = 10
  · exact .inl h1
  · by_cases h2 : c = 34
    · exact .inr h2
    · simp [h1, h2] at h
def p34 (c : Nat) : Bool := !decide (c = 34)
theorem str_cases {t : T} {a : Nat} (ha : t[a]? = some 34) :
    (t[runE noQ t (a + 1)]? = some 34 ∧ Txt.find3 (S t) (S [34]) ((a : Int) + 1) = ((runE noQ t (a + 1) : Nat) : Int) ∧ runE noQ t (a + 1) ≤ runE noL t a) ∨
    (¬ t[runE noQ t (a + 1)]? = some 34 ∧ runE noL t a = runE noQ t (a + 1) ∧ (Txt.find3 (S t) (S [34]) ((a : Int) + 1) = -1 ∨ ∃ k : Nat, Txt.find3 (S t) (S [34]) ((a : Int) + 1) = (k : Int) ∧ runE noL t a < k)) := by
  have hal := (List.getElem?_eq_some_iff.mp ha).1
  have hf := find_run (p := p34) (k0 := 34) (t := t) (a := a + 1) (fun c => rfl) hal
  rw [show ((a + 1 : Nat) : Int) = (a : Int) + 1 from rfl] at hf
  have hq := runE_at (p := noQ) (t.length - (a + 1)) (t := t) (a := a + 1) rfl hal
  have hqg := runE_ge noQ t (a + 1)
  have hqn := runE_le (p := noQ) (t := t) (a := a + 1) hal
  have hin : ∀ v c, a + 1 ≤ v → v < runE noQ t (a + 1) → t[v]? = some c → noQ c = true := fun v c h1 h2 h3 => runE_in (t.length - (a + 1)) rfl h1 h2 h3
  generalize runE noQ t (a + 1) = q at hq hqg hqn hin ⊢
  have hL : ∀ e, a ≤ e → e ≤ t.length → (∀ v c, a ≤ v → v < e → t[v]? = some c → noL c = true) → (e = t.length ∨ ∃ c, t[e]? = some c ∧ noL c = false) → runE noL t a = e := fun e h1 h2 h3 h4 => runE_uniq h1 h2 h3 h4
  have hin2 : ∀ v c, a ≤ v → v < q → t[v]? = some c → noL c = true := fun v c h1 h2 h3 => by
    by_cases e : v = a
    · subst e
      rw [ha] at h3
      cases h3
      rfl
    · have := (noQ_ne (hin v c (by omega) h2 h3)).1
      unfold noL
      rw [decide_eq_false this]
      rfl
  rcases hq with hq | ⟨c, hc, hp⟩
  · refine .inr ⟨(by rw [List.getElem?_eq_none (by omega)]; intro z; cases z), hL q (by omega) hqn hin2 (.inl hq), ?_⟩
    rw [hL q (by omega) hqn hin2 (.inl hq)]
    rcases hf with ⟨h1, _⟩ | ⟨k, h1, _, h3, h4, h5⟩
    · exact .inl h1
    · exfalso
      exact (noQ_ne (hin k 34 h4 (by omega) h5)).2 rfl
  · rcases noQ_no hp with e | e
    · subst e
      have eL := hL q (by omega) hqn hin2 (.inr ⟨10, hc, rfl⟩)
      refine .inr ⟨(by rw [hc]; intro z; cases z), eL, ?_⟩
      rw [eL]
      rcases hf with ⟨h1, _⟩ | ⟨k, h1, _, h3, h4, h5⟩
      · exact .inl h1
      · refine .inr ⟨k, h1, ?_⟩
        rcases Nat.lt_trichotomy k q with h | h | h
        · exact absurd rfl (noQ_ne (hin k 34 h4 h h5)).2
        · rw [h, hc] at h5
          cases h5
        · exact h
    · subst e
      refine .inl ⟨hc, ?_, ?_⟩
      · have er : runE p34 t (a + 1) = q := runE_uniq hqg hqn (fun v c h1 h2 h3 => by
          have := (noQ_ne (hin v c h1 h2 h3)).2
          unfold p34
          rw [decide_eq_false this]
          rfl) (.inr ⟨34, hc, rfl⟩)
        have hql := (List.getElem?_eq_some_iff.mp hc).1
        rcases hf with ⟨_, h2⟩ | ⟨k, h1, h2, _⟩
        · omega
        · rw [h1, ← h2, er]
      · rcases Nat.lt_or_ge (runE noL t a) q with h | h
        · exfalso
          have hge := runE_ge noL t a
          rcases runE_at (p := noL) (t.length - a) (t := t) (a := a) rfl (Nat.le_of_lt hal) with z | ⟨c, hc2, hp2⟩
          · omega
          · have := hin2 _ c hge h hc2
            rw [hp2] at this
            cases this
        · exact h
theorem take1 {t : T} {e k : Nat} : (t.drop e).take 1 = [k] ↔ t[e]? = some k := by
  by_cases h : e < t.length
  · rw [List.drop_eq_getElem_cons h, List.getElem?_eq_getElem h, List.take_succ_cons, List.take_zero]
    simp
  · rw [List.drop_eq_nil_of_le (by omega), List.getElem?_eq_none (by omega)]
    simp
/-- a token's tuple -/
def TokAt (H : Hp) (p : Addr) (k : Tok) : Prop := H p = some (.tup [.str k.1, .int (k.2.1 : Nat), .int (k.2.2 : Nat)])
theorem TokAt.dt {H : Hp} {p : Addr} {k : Tok} (h : TokAt H p k) : Dt H (.ref p) (tokD k) := .tup h (.cons (.str _) (.cons (.int _) (.cons (.int _) .nil)))
section
variable {P : Program} {w : World} {K : PySem.W.Frag} {mg : Str → Option Value} {base : Heap}
def spString : Sp := fun vs H Q _ => ∃ (t : T) (a : Nat), vs = [.str (S t), .int (a : Nat)] ∧ t[a]? = some 34 ∧ Ok t ∧ ∀ p H', Same H H' → H p = none → TokAt H' p ((tokA t a 34).1, a, (tokA t a 34).2) → Q (.ref p) H'
theorem ok_string_at {f : Addr} {fd : FuncData} (F : Dfn K mg "_string_at" st__string_at f fd ["text", "at"]) (M : Mg mg) (G : Gb mg) (G_line_end : Cal P w K mg base 1 "_line_end" spLine) : Cal P w K mg base 2 "_string_at" spString := by
  refine cal_mk F sc_string_at (fun vs H Q E h => ?_) (fun cdv A outer s H vs Q E hr h => ?_)
  · obtain ⟨t, a, rfl, _⟩ := h
    rfl
  obtain ⟨t, a, rfl, ha, ok, q⟩ := h
  have hal := (List.getElem?_eq_some_iff.mp ha).1
  have et : tokA t a 34 = if t[runE noQ t (a + 1)]? = some 34 then (if runE noQ t (a + 1) - a - 1 ≤ 100 then ("string" : Str) else ("wrong" : Str), runE noQ t (a + 1) + 1) else (("wrong" : Str), runE noQ t (a + 1)) := by
    unfold tokA
    rw [if_neg (by decide), if_pos rfl]
  have hqg := runE_ge noQ t (a + 1)
  refine ⟨_, (pss_cons (ps_set (i := 2) sc_string_at.nd rfl (.inl rfl) (pe_c G_line_end hr (by omega) (by rfl) (pa_cons (pv 0) (pa_cons (pv 1) pa_nil))))
      (pss_cons (ps_set (i := 3) sc_string_at.nd rfl (.inl rfl) (pe_bm PySem.F.plainAttrs_str PySem.F.slot_str_find PySem.F.type_str_find mt_find3 (pv 0) (pa_cons pe_str (pa_cons (pe_op op_add (pv 1) pe_int) pa_nil))))
      (pss_cons (ps_if (PW.pt (pw_or (pt_cmpR op_eq (pv 3) (pe_un un_neg pe_int) (nomark _)) (pw_or1 (pt_cmpR op_gt (pv 3) (pv 2) (nomark _))))) (pss_one (ps_ret (pe_tup (pa_cons pe_str (pa_cons (pv 1) (pa_cons (pv 2) pa_nil)))))) pss_nil)
      (pss_cons (ps_set (i := 4) sc_string_at.nd rfl (.inl rfl) (pe_ifExp (pt_cmpR op_le (pe_op op_sub (pe_op op_sub (pv 3) (pv 1)) pe_int) (pe_glob (v := .int 100) (by rfl) G.lstr ⟨_, rfl⟩) (nomark _)) pe_str pe_str))
      (pss_one (ps_ret (pe_tup (pa_cons (pv 4) (pa_cons (pv 1) (pa_cons (pe_op op_add (pv 3) pe_int) pa_nil)))))))))), ?_⟩
  refine ⟨_, rfl, _, rfl, t, a, rfl, Nat.le_of_lt hal, ok, ?_⟩
  dsimp only [gName]
  refine ⟨_, rfl, rfl, _, rfl, _, _, rfl, rfl, S t, S [34], (a : Int) + 1, rfl, by rw [q_qq], ?_⟩
  rcases str_cases ha with ⟨h1, h2, h3⟩ | ⟨h1, h2, h3⟩
  · rw [if_pos h1] at et
    rw [et] at q
    rw [h2]
    generalize runE noQ t (a + 1) = e at hqg h1 h3 q ⊢
    dsimp only [gName]
    refine ⟨_, rfl, _, rfl, rfl, _, rfl, ?_⟩
    rw [decide_eq_false (show ¬ V.int (e : Int) = V.int (-1) from fun z => by have := V.int.inj z; omega)]
    refine iteF ⟨_, rfl, _, rfl, _, _, rfl, rfl, _, rfl, ?_⟩
    rw [decide_eq_false (show ¬ ((runE noL t a : Nat) : Int) < (e : Int) by omega)]
    refine iteF ?_
    refine ⟨_, rfl, _, rfl, _, _, rfl, rfl, _, _, rfl, rfl, _, _, rfl, rfl, _, rfl, ?_⟩
    have ei : ((e : Int) - (a : Int) - 1 ≤ 100) ↔ e - a - 1 ≤ 100 := by omega
    by_cases hs : e - a - 1 ≤ 100
    · rw [decide_eq_true (ei.mpr hs)]
      rw [if_pos hs] at q
      refine iteT ?_
      dsimp only [gName]
      refine ⟨_, rfl, _, rfl, _, rfl, _, _, rfl, rfl, by show 3 ≤ sizeLine; decide, fun p np => q p _ (same_upd np) np upd_same⟩
    · rw [decide_eq_false (fun z => hs (ei.mp z))]
      rw [if_neg hs] at q
      refine iteF ?_
      dsimp only [gName]
      refine ⟨_, rfl, _, rfl, _, rfl, _, _, rfl, rfl, by show 3 ≤ sizeLine; decide, fun p np => q p _ (same_upd np) np upd_same⟩
  · rw [if_neg h1] at et
    rw [et, ← h2] at q
    have fin : ∀ (y : V) (o : Option V), tRet (tTup (tCons (tC (.str "wrong")) (tCons (tVar 1) (tCons (tVar 2) tNil)))) { nx := fun _ H' => Q .non H', rt := Q } [some (.str (S t)), some (.int (a : Int)), some (.int ((runE noL t a : Nat) : Int)), some y, o] H := fun y o =>
      ⟨_, rfl, _, rfl, by show 3 ≤ sizeLine; decide, fun p np => q p _ (same_upd np) np upd_same⟩
    rcases h3 with h3 | ⟨k, h3, hk⟩
    · rw [h3]
      dsimp only [gName]
      refine ⟨_, rfl, _, rfl, rfl, _, rfl, ?_⟩
      rw [decide_eq_true rfl]
      exact iteT (iteT (fin _ _))
    · rw [h3]
      dsimp only [gName]
      refine ⟨_, rfl, _, rfl, rfl, _, rfl, ?_⟩
      rw [decide_eq_false (show ¬ V.int (k : Int) = V.int (-1) from fun z => by have := V.int.inj z; omega)]
      refine iteF ⟨_, rfl, _, rfl, _, _, rfl, rfl, _, rfl, ?_⟩
      rw [decide_eq_true (show ((runE noL t a : Nat) : Int) < (k : Int) by omega)]
      exact iteT (fin _ _)
end
end W4
set_option Elab.async false
set_option linter.all false
set_option maxRecDepth 100000
set_option maxHeartbeats 4000000
namespace W4
open PySem PySem.Spec PyProof.Rows L2 Com SX GxR
theorem noE_eq (c : Nat) : (!decide (c ∈ endC)) = noE c := rfl
section
variable {P : Program} {w : World} {K : PySem.W.Frag} {mg : Str → Option Value} {base : Heap}
def spTok (PN PD : Addr) : Sp := fun vs H Q _ => ∃ (t : T) (a c : Nat), vs = [.str (S t), .int (a : Nat)] ∧ t[a]? = some c ∧ ¬ (c = 32 ∨ c = 10) ∧ c ≠ 59 ∧ Ok t ∧ TT PN PD H ∧ ∀ p H', KT H H' → TT PN PD H' → H p = none → TokAt H' p ((tokA t a c).1, a, (tokA t a c).2) → Q (.ref p) H'
def spWord (PN PD : Addr) : Sp := fun vs H Q E => spTok PN PD vs H Q E ∧ ∃ (t : T) (a c : Nat), vs = [.str (S t), .int (a : Nat)] ∧ t[a]? = some c ∧ ¬ (c = 40 ∨ c = 41 ∨ c = 39) ∧ c ≠ 34
theorem ok_word_at {f PN PD : Addr} {fd : FuncData} (F : Dfn K mg "_word_at" st__word_at f fd ["text", "at"]) (M : Mg mg) (G : Gb mg) (G_sort_of_word : Cal P w K mg base 3 "_sort_of_word" (spSort PN PD)) : Cal P w K mg base 4 "_word_at" (spWord PN PD) := by
  refine cal_mk F sc_word_at (fun vs H Q E h => ?_) (fun cdv A outer s H vs Q E hr h => ?_)
  · obtain ⟨⟨t, a, c, rfl, _⟩, _⟩ := h
    rfl
  obtain ⟨⟨t, a, c, rfl, ha, n1, n2, ok, hT, q⟩, t', a', c', ev, ha', n3, n4⟩ := h
  obtain rfl : t = t' := S_inj (V.str.inj (List.cons.inj ev).1)
  obtain rfl : a = a' := by have := V.int.inj (List.cons.inj (List.cons.inj ev).2).1; omega
  rw [ha] at ha'
  cases ha'
  have hal := (List.getElem?_eq_some_iff.mp ha).1
  have et : tokA t a c = if wrd t a (runE noE t a) = [35] ∧ t[runE noE t a]? = some 39 then (("sign" : Str), runE noE t a + 1) else (sortW (wrd t a (runE noE t a)), runE noE t a) := by
    unfold tokA
    rw [if_neg n3, if_neg n4]
  have hgt : a < runE noE t a := by
    have hp : noE c = true := by
      unfold noE endC
      simp only [List.mem_cons, List.not_mem_nil, or_false]
      have : ¬ (c = 32 ∨ c = 10 ∨ c = 40 ∨ c = 41 ∨ c = 39 ∨ c = 34 ∨ c = 59) := by omega
      simp [this]
    have r2 := runE_step ha hp
    have r3 := runE_ge noE t (a + 1)
    omega
  have hle : runE noE t a ≤ t.length := runE_le (Nat.le_of_lt hal)
  rw [et] at q
  obtain ⟨e, he⟩ : ∃ e, e = runE noE t a := ⟨_, rfl⟩
  rw [← he] at q hgt hle
  have hz := ok.z
  refine ⟨_, (pss_cons (ps_set (i := 2) sc_word_at.nd rfl (.inl rfl) (pv 1))
      (pss_cons (ps_while PassesOwn.never (PW.pt (pw_and (pt_cmpR op_lt (pv 2) (pe_callB call_len_str (by rfl) M.len b_len (pa_cons (pv 0) pa_nil)) (nomark _)) (pw_and1 (pt_cmpR op_notInS (pe_ix ix_str (pv 0) (pv 2) (fun _ _ => rfl)) (pe_glob (v := .str " \n()'\";") (by rfl) G.wend ⟨_, rfl⟩) (by rfl)))))
      (pss_one (ps_aug (i := 2) sc_word_at.nd rfl (.inl rfl) pe_int ip_add)))
      (pss_cons (ps_set (i := 3) sc_word_at.nd rfl (.inl rfl) (pe_slice sl_str (pv 0) (po_some (pv 1)) (po_some (pv 2))))
      (pss_cons (ps_if (PW.pt (pw_and (pt_cmpR op_eq (pv 3) pe_str (nomark _)) (pw_and1 (pt_cmpR op_eq (pe_slice sl_str (pv 0) (po_some (pv 2)) (po_some (pe_op op_add (pv 2) pe_int))) pe_str (nomark _))))) (pss_one (ps_ret (pe_tup (pa_cons pe_str (pa_cons (pv 1) (pa_cons (pe_op op_add (pv 2) pe_int) pa_nil)))))) pss_nil)
      (pss_one (ps_ret (pe_tup (pa_cons (pe_c G_sort_of_word hr (by omega) (by rfl) (pa_cons (pv 3) pa_nil)) (pa_cons (pv 1) (pa_cons (pv 2) pa_nil)))))))))), ?_⟩
  refine ⟨_, rfl, ?_⟩
  dsimp only [gName]
  refine seq_split (t1 := tWhile _ _) (fun σ' H' => σ' = [some (.str (S t)), some (.int (a : Nat)), some (.int (e : Nat)), none] ∧ H' = H) ?_ (fun rest => ?_)
  · rintro σ' H' ⟨rfl, rfl⟩
    refine ⟨_, rfl, _, rfl, _, rfl, _, rfl, _, rfl, _, rfl, hz, ?_⟩
    rw [cut_wrd (Nat.le_of_lt hgt) hle]
    dsimp only [gName]
    refine ⟨_, rfl, rfl, _, rfl, ?_⟩
    rw [wdE q_sh]
    have owd := ok.wrd a e
    have hwl := wrd_len (Nat.le_of_lt hgt) hle
    generalize wrd t a e = wd at q owd hwl ⊢
    have hwne : wd ≠ [] := fun z => by rw [z] at hwl; simp at hwl; omega
    have wordy : ¬ (wd = [35] ∧ t[e]? = some 39) → tRet (tTup (tCons (tCall (spSort PN PD) [] E0 (tCons (tVar 3) tNil)) (tCons (tVar 1) (tCons (tVar 2) tNil)))) { nx := fun _ H' => Q .non H', rt := Q } [some (.str (S t)), some (.int (a : Nat)), some (.int (e : Nat)), some (.str (S wd))] H' := fun hn => by
      rw [if_neg hn] at q
      exact ⟨_, rfl, wd, rfl, hwne, owd, hT, fun H2 k2 hT2 => ⟨_, rfl, _, rfl, by show 3 ≤ sizeLine; decide, fun p np => q p _ (k2.trans (KT.new np)) (hT2.new np) (k2.nn np) upd_same⟩⟩
    by_cases h1 : wd = [35]
    · rw [decide_eq_true h1]
      refine iteT ⟨_, rfl, _, rfl, _, rfl, _, rfl, _, _, rfl, rfl, _, rfl, _, rfl, hz, ?_⟩
      rw [cut_one hle]
      refine ⟨rfl, _, rfl, ?_⟩
      rw [wdE q_ap]
      by_cases h2 : t[e]? = some 39
      · rw [decide_eq_true (take1.mpr h2)]
        rw [if_pos ⟨h1, h2⟩] at q
        exact iteT ⟨_, rfl, _, rfl, _, _, rfl, rfl, by show 3 ≤ sizeLine; decide, fun p np => q p _ (KT.new np) (hT.new np) np upd_same⟩
      · rw [decide_eq_false (fun z => h2 (take1.mp z))]
        exact iteF (wordy fun z => h2 z.2)
    · rw [decide_eq_false h1]
      exact iteF (iteF (wordy fun z => h1 z.1))
  · refine ⟨fun m σ H' => ∃ b : Nat, σ = [some (.str (S t)), some (.int (a : Nat)), some (.int (b : Nat)), none] ∧ H' = H ∧ a ≤ b ∧ b ≤ t.length ∧ runE noE t b = e ∧ m = t.length - b, ⟨t.length - a, a, rfl, rfl, Nat.le_refl _, Nat.le_of_lt hal, he.symm, rfl⟩, ?_⟩
    rintro m σ H' ⟨b, rfl, rfl, hab, hbn, hrb, rfl⟩
    refine ⟨_, rfl, _, rfl, S t, rfl, hz, _, _, rfl, rfl, _, rfl, ?_⟩
    rw [len_S]
    by_cases hb : b < t.length
    · rw [decide_eq_true (show (b : Int) < (t.length : Int) by omega)]
      have hc := List.getElem?_eq_getElem hb
      refine iteT ⟨_, rfl, _, rfl, S t, _, _, rfl, rfl, hz, atS hc, tc ⟨_, _, rfl, rfl, _, rfl, ?_⟩⟩
      rw [end_lit, noE_eq]
      cases hp : noE t[b] with
      | true =>
        have r2 := runE_step hc hp
        refine iteT ⟨fun σ' H'' => ∃ m', m' < t.length - b ∧ ∃ b : Nat, σ' = [some (.str (S t)), some (.int (a : Nat)), some (.int (b : Nat)), none] ∧ H'' = H' ∧ a ≤ b ∧ b ≤ t.length ∧ runE noE t b = e ∧ m' = t.length - b, fun σ' H' h => h, ?_⟩
        exact ⟨_, rfl, _, _, rfl, rfl, t.length - (b + 1), by omega, b + 1, rfl, rfl, by omega, hb, by rw [← r2]; exact hrb, rfl⟩
      | false =>
        rw [runE_stop hc hp] at hrb
        subst hrb
        exact iteF (rest _ _ ⟨rfl, rfl⟩)
    · rw [decide_eq_false (show ¬ (b : Int) < (t.length : Int) by omega)]
      rw [runE_end (by omega)] at hrb
      subst hrb
      exact iteF (iteF (rest _ _ ⟨rfl, rfl⟩))
end
end W4
set_option Elab.async false
set_option linter.all false
set_option maxRecDepth 100000
set_option maxHeartbeats 4000000
namespace W4
open PySem PySem.Spec PyProof.Rows L2 Com SX GxR
theorem KT.put {H H' : Hp} {B : Addr} {o : HO} (k : KT H H') (h : H B = none) : KT H (upd H' B o) :=
  ⟨fun b u e n => by rw [upd_ne (ne_of_none e h)]; exact k.k _ _ e n, fun b ps e => by
    obtain ⟨ps', e'⟩ := k.t b ps e
    exact ⟨ps', by rw [upd_ne (ne_of_none e h)]; exact e'⟩⟩
theorem strE (a b : Str) : decide (V.str a = V.str b) = decide (a = b) := by
  by_cases e : a = b
  · subst e
    rw [decide_eq_true rfl, decide_eq_true rfl]
  · rw [decide_eq_false e, decide_eq_false (fun z => e (V.str.inj z))]
theorem blank_in (c : Nat) : decide (c ∈ [32, 10]) = decide (c = 32 ∨ c = 10) := by
  congr 1
  simp
theorem sig_in (c : Nat) : decide (c ∈ [40, 41, 39]) = decide (c = 40 ∨ c = 41 ∨ c = 39) := by
  congr 1
  simp
section
variable {P : Program} {w : World} {K : PySem.W.Frag} {mg : Str → Option Value} {base : Heap}
theorem ok_token_at {f PN PD : Addr} {fd : FuncData} (F : Dfn K mg "_token_at" st__token_at f fd ["text", "at"]) (M : Mg mg) (G_string_at : Cal P w K mg base 2 "_string_at" spString) (G_word_at : Cal P w K mg base 4 "_word_at" (spWord PN PD)) : Cal P w K mg base 5 "_token_at" (spTok PN PD) := by
  refine cal_mk F sc_token_at (fun vs H Q E h => ?_) (fun cdv A outer s H vs Q E hr h => ?_)
  · obtain ⟨t, a, c, rfl, _⟩ := h
    rfl
  obtain ⟨t, a, c, rfl, ha, n1, n2, ok, hT, q⟩ := h
  have hz := ok.z
  refine ⟨_, (pss_cons (ps_if (pt_cmpR op_inS (pe_ix ix_str (pv 0) (pv 1) (fun _ _ => rfl)) pe_str (by rfl)) (pss_one (ps_ret (pe_tup (pa_cons pe_str (pa_cons (pv 1) (pa_cons (pe_op op_add (pv 1) pe_int) pa_nil)))))) pss_nil)
      (pss_cons (ps_if (pt_cmpR op_eq (pe_ix ix_str (pv 0) (pv 1) (fun _ _ => rfl)) pe_str (nomark _)) (pss_one (ps_ret (pe_c G_string_at hr (by omega) (by rfl) (pa_cons (pv 0) (pa_cons (pv 1) pa_nil))))) pss_nil)
      (pss_one (ps_ret (pe_c G_word_at hr (by omega) (by rfl) (pa_cons (pv 0) (pa_cons (pv 1) pa_nil))))))), ?_⟩
  refine ⟨_, rfl, _, rfl, S t, _, _, rfl, rfl, hz, atS ha, tc ⟨c, _, rfl, rfl, _, rfl, ?_⟩⟩
  rw [w_sig, sig_in]
  by_cases h1 : c = 40 ∨ c = 41 ∨ c = 39
  · rw [decide_eq_true h1]
    have et : tokA t a c = (("sign" : Str), a + 1) := by unfold tokA; rw [if_pos h1]
    rw [et] at q
    exact iteT ⟨_, rfl, _, rfl, _, _, rfl, rfl, by show 3 ≤ sizeLine; decide, fun p np => q p _ (KT.new np) (hT.new np) np upd_same⟩
  · rw [decide_eq_false h1]
    refine iteF ⟨_, rfl, _, rfl, S t, _, _, rfl, rfl, hz, atS ha, rfl, _, rfl, ?_⟩
    rw [sgE q_qq]
    by_cases h2 : c = 34
    · subst h2
      rw [decide_eq_true rfl]
      exact iteT ⟨_, rfl, _, rfl, t, a, rfl, ha, ok, fun p H' s' np hp => q p H' (KT.same s') (hT.same s') np hp⟩
    · rw [decide_eq_false h2]
      exact iteF ⟨_, rfl, _, rfl, ⟨t, a, c, rfl, ha, n1, n2, ok, hT, q⟩, t, a, c, rfl, ha, h1, h2⟩
def spToks (PN PD : Addr) : Sp := fun vs H Q _ => ∃ t : T, vs = [.str (S t)] ∧ Ok t ∧ TT PN PD H ∧ ∀ r H' ys, KT H H' → TT PN PD H' → H r = none → H' r = some (.lst ys) → DtAll H' ys ((toksF t 0).map tokD) → Q (.ref r) H'
theorem ok_tokens {f PN PD : Addr} {fd : FuncData} (F : Dfn K mg "tokens" st_tokens f fd ["text"]) (M : Mg mg) (G_line_end : Cal P w K mg base 1 "_line_end" spLine) (G_token_at : Cal P w K mg base 5 "_token_at" (spTok PN PD)) : Cal P w K mg base 6 "tokens" (spToks PN PD) := by
  refine cal_mk F sctokens (fun vs H Q E h => ?_) (fun cdv A outer s H vs Q E hr h => ?_)
  · obtain ⟨t, rfl, _⟩ := h
    rfl
  obtain ⟨t, rfl, ok, hT, q⟩ := h
  have hz := ok.z
  have hn := ok.len
  refine ⟨_, (pss_cons (ps_set (i := 1) sctokens.nd rfl (.inl rfl) (pe_lst pa_nil))
      (pss_cons (ps_set (i := 2) sctokens.nd rfl (.inl rfl) pe_int)
      (pss_cons (ps_while PassesOwn.never (pt_cmpR op_lt (pv 2) (pe_callB call_len_str (by rfl) M.len b_len (pa_cons (pv 0) pa_nil)) (nomark _))
      (pss_one (ps_if (pt_cmpR op_inS (pe_ix ix_str (pv 0) (pv 2) (fun _ _ => rfl)) pe_str (by rfl)) (pss_one (ps_aug (i := 2) sctokens.nd rfl (.inl rfl) pe_int ip_add)) (pss_one (ps_if (pt_cmpR op_eq (pe_ix ix_str (pv 0) (pv 2) (fun _ _ => rfl)) pe_str (nomark _)) (pss_one (ps_set (i := 2) sctokens.nd rfl (.inl rfl) (pe_c G_line_end hr (by omega) (by rfl) (pa_cons (pv 0) (pa_cons (pv 2) pa_nil))))) (pss_cons (ps_set (i := 3) sctokens.nd rfl (.inl rfl) (pe_c G_token_at hr (by omega) (by rfl) (pa_cons (pv 0) (pa_cons (pv 2) pa_nil))))
      (pss_cons (ps_expr (pe_bm PySem.F.plainAttrs_list PySem.F.slot_list_append PySem.F.type_list_append mt_append (pv 1) (pa_cons (pv 3) pa_nil)))
      (pss_one (ps_set (i := 2) sctokens.nd rfl (.inl rfl) (pe_ix (ixT K rfl) (pv 3) pe_int (fun _ _ => rfl)))))))))))
      (pss_one (ps_ret (pv 1)))))), ?_⟩
  refine ⟨by decide, fun B nB => ?_⟩
  have k1 := KT.new (o := .lst []) nB
  have hB1 : upd H B (.lst []) B = some (.lst []) := upd_same
  have T1 := hT.new (o := .lst []) nB
  generalize upd H B (.lst []) = H1 at k1 hB1 T1 ⊢
  refine ⟨fun m σ H' => ∃ (a : Nat) (y : Option V) (vs : List V) (ks : List Tok), σ = [some (.str (S t)), some (.ref B), some (.int (a : Nat)), y] ∧ KT H H' ∧ TT PN PD H' ∧ H' B = some (.lst vs) ∧ DtAll H' vs (ks.map tokD) ∧ ks ++ toksF t a = toksF t 0 ∧ a ≤ t.length ∧ m = t.length - a,
    ⟨_, 0, none, [], [], rfl, k1, T1, hB1, .nil, rfl, Nat.zero_le _, rfl⟩, ?_⟩
  rintro m σ H' ⟨a, y, vs, ks, rfl, kk, hT', hB', dv, hks, han, rfl⟩
  refine ⟨_, rfl, _, rfl, S t, rfl, hz, _, _, rfl, rfl, _, rfl, ?_⟩
  rw [len_S]
  by_cases hb : a < t.length
  case neg =>
    rw [decide_eq_false (show ¬ (a : Int) < (t.length : Int) by omega)]
    rw [toksF_end (by omega), List.append_nil] at hks
    rw [hks] at dv
    exact iteF ⟨_, rfl, q B H' vs kk hT' nB hB' dv⟩
  rw [decide_eq_true (show (a : Int) < (t.length : Int) by omega)]
  have ha := List.getElem?_eq_getElem hb
  obtain ⟨c, hc⟩ : ∃ c, c = t[a] := ⟨_, rfl⟩
  rw [← hc] at ha
  refine iteT ⟨fun σ' H'' => ∃ m', m' < t.length - a ∧ ∃ (a : Nat) (y : Option V) (vs : List V) (ks : List Tok), σ' = [some (.str (S t)), some (.ref B), some (.int (a : Nat)), y] ∧ KT H H'' ∧ TT PN PD H'' ∧ H'' B = some (.lst vs) ∧ DtAll H'' vs (ks.map tokD) ∧ ks ++ toksF t a = toksF t 0 ∧ a ≤ t.length ∧ m' = t.length - a, fun σ' H' h => h, ?_⟩
  refine ⟨_, rfl, _, rfl, S t, _, _, rfl, rfl, hz, atS ha, tc ⟨c, _, rfl, rfl, _, rfl, ?_⟩⟩
  rw [w_bl, blank_in]
  by_cases h1 : c = 32 ∨ c = 10
  · rw [decide_eq_true h1]
    rw [toksF_blank ha h1] at hks
    exact iteT ⟨_, rfl, _, _, rfl, rfl, t.length - (a + 1), by omega, a + 1, y, vs, ks, rfl, kk, hT', hB', dv, hks, hb, rfl⟩
  rw [decide_eq_false h1]
  refine iteF ⟨_, rfl, _, rfl, S t, _, _, rfl, rfl, hz, atS ha, rfl, _, rfl, ?_⟩
  rw [sgE q_semi]
  by_cases h2 : c = 59
  · rw [decide_eq_true h2]
    rw [h2] at ha
    rw [toksF_rem ha] at hks
    have hgt := nxt_gt ha
    have hle := nxt_le ha
    have en : nxt t a 59 = runE noL t a := by unfold nxt; rw [if_neg (by omega), if_pos rfl]
    rw [en] at hgt hle
    refine iteT ⟨_, rfl, _, rfl, t, a, rfl, han, ok, t.length - runE noL t a, by omega, runE noL t a, y, vs, ks, rfl, kk, hT', hB', dv, hks, hle, rfl⟩
  rw [decide_eq_false h2]
  have hgt := tokA_gt ha h1 h2
  have hle := tokA_le ha
  rw [toksF_tok ha h1 h2] at hks
  refine iteF ⟨_, rfl, _, rfl, t, a, c, rfl, ha, h1, h2, ok, hT', fun p H2 k2 hT2 np hp => ?_⟩
  have hB2 := k2.lst hB'
  have dv2 := dv.tk k2.tk
  have kk2 := kk.trans k2
  have hlen : ks.length < t.length + 1 := by
    have := congrArg List.length hks
    rw [List.length_append, List.length_cons] at this
    have h3 := toksF_len (t := t) t.length (a := 0) (by omega)
    omega
  have hvl := dv2.len
  rw [List.length_map] at hvl
  dsimp only [gName]
  refine ⟨_, rfl, .inl ⟨rfl, _, SqL.of hB2⟩, _, rfl, B, vs, _, rfl, rfl, hB2, by show _ < 2 ^ 24; omega, ?_⟩
  have tk3 : Tk H2 (upd H2 B (.lst (vs ++ [.ref p]))) := Tk.upd fun xs z => by rw [hB2] at z; cases z
  have h3 : TokAt (upd H2 B (.lst (vs ++ [.ref p]))) p ((tokA t a c).1, a, (tokA t a c).2) := tk3 _ _ hp
  refine ⟨_, rfl, tc (ixt h3 (atI_nat (j := 2) rfl) ⟨t.length - (tokA t a c).2, by omega, (tokA t a c).2, _, vs ++ [.ref p], ks ++ [((tokA t a c).1, a, (tokA t a c).2)], rfl, kk2.put nB, hT2.put (fun ps z => by rw [hB2] at z; cases z), upd_same, ?_, ?_, hle, rfl⟩)⟩
  · rw [List.map_append]
    exact (dv2.tk tk3).app (.one h3.dt)
  · rw [List.append_assoc]
    exact hks
end
end W4
set_option Elab.async false
set_option linter.all false
set_option maxRecDepth 100000
set_option maxHeartbeats 4000000
namespace W4
open PySem PySem.Spec PyProof.Rows L2 Com SX GxR
/-! what tokens are worth -/
theorem sort_num {w : T} (h : sortW w = "number") : isNum w = true := by
  unfold sortW at h
  split at h
  · exact absurd h (by decide +kernel)
  · split at h
    · exact absurd h (by decide +kernel)
    · split at h
      · exact absurd h (by decide +kernel)
      · split at h
        · assumption
        · split at h
          · exact absurd h (by decide +kernel)
          · exact absurd h (by decide +kernel)
theorem sort_six (w : T) : sortW w = "flag" ∨ sortW w = "dots" ∨ sortW w = "wild" ∨ sortW w = "number" ∨ sortW w = "name" ∨ sortW w = "wrong" := by
  unfold sortW
  split
  · exact .inl rfl
  · split
    · exact .inr (.inl rfl)
    · split
      · exact .inr (.inr (.inl rfl))
      · split
        · exact .inr (.inr (.inr (.inl rfl)))
        · split
          · exact .inr (.inr (.inr (.inr (.inl rfl))))
          · exact .inr (.inr (.inr (.inr (.inr rfl))))
theorem sort_ns (w : T) : sortW w ≠ "sign" ∧ sortW w ≠ "string" := by
  rcases sort_six w with h | h | h | h | h | h <;> rw [h] <;> constructor <;> decide +kernel
structure TokOk (t : T) (k : Tok) : Prop where
  le : k.2.1 < k.2.2 ∧ k.2.2 ≤ t.length
  num : k.1 = "number" → isNum (wrd t k.2.1 k.2.2) = true
  str : k.1 = "string" → 2 ≤ (wrd t k.2.1 k.2.2).length
  sig : k.1 = "sign" → wrd t k.2.1 k.2.2 = [40] ∨ wrd t k.2.1 k.2.2 = [41] ∨ wrd t k.2.1 k.2.2 = [39] ∨ wrd t k.2.1 k.2.2 = [35, 39]
  nsg : k.1 ≠ "sign" → wrd t k.2.1 k.2.2 ≠ [41]
theorem wrd_one {t : T} {a c : Nat} (h : t[a]? = some c) : wrd t a (a + 1) = [c] := by
  unfold wrd
  rw [Nat.add_sub_cancel_left]
  exact take1.mpr h
theorem wrd_head {t : T} {a b c : Nat} (h : t[a]? = some c) (hb : a < b) : ∃ r, wrd t a b = c :: r := by
  obtain ⟨ha, e⟩ := List.getElem?_eq_some_iff.mp h
  unfold wrd
  rw [List.drop_eq_getElem_cons ha, e, show b - a = (b - a - 1) + 1 by omega, List.take_succ_cons]
  exact ⟨_, rfl⟩
theorem wrd_snoc {t : T} {a b c : Nat} (h : t[b]? = some c) (hab : a ≤ b) : wrd t a (b + 1) = wrd t a b ++ [c] := by
  unfold wrd
  rw [show b + 1 - a = (b - a) + 1 by omega, List.take_add_one, List.getElem?_drop, show a + (b - a) = b by omega, h]
  rfl
theorem k1 : ¬ (("sign" : Str) = "number") := by decide +kernel
theorem k2 : ¬ (("sign" : Str) = "string") := by decide +kernel
theorem k3 : ¬ (("string" : Str) = "number") := by decide +kernel
theorem k4 : ¬ (("wrong" : Str) = "number") := by decide +kernel
theorem k5 : ¬ (("wrong" : Str) = "string") := by decide +kernel
theorem k6 : ¬ (("string" : Str) = "sign") := by decide +kernel
theorem k7 : ¬ (("wrong" : Str) = "sign") := by decide +kernel
theorem tokA_ok {t : T} {a c : Nat} (h : t[a]? = some c) (h1 : ¬ (c = 32 ∨ c = 10)) (h2 : c ≠ 59) : TokOk t ((tokA t a c).1, a, (tokA t a c).2) := by
  have hgt := tokA_gt h h1 h2
  have hle := tokA_le h
  have hal := (List.getElem?_eq_some_iff.mp h).1
  obtain ⟨r, hr⟩ := wrd_head h hgt
  refine ⟨⟨hgt, hle⟩, ?_, ?_, ?_, ?_⟩
  all_goals dsimp only
  · intro e
    unfold tokA at e ⊢
    split at e
    · (first | exact absurd e k1 | exact absurd e k2 | exact absurd e k3 | exact absurd e k4 | exact absurd e k5 | exact absurd e k6 | exact absurd e k7)
    · split at e
      · split at e
        · split at e <;> (first | exact absurd e k1 | exact absurd e k2 | exact absurd e k3 | exact absurd e k4 | exact absurd e k5 | exact absurd e k6 | exact absurd e k7)
        · (first | exact absurd e k1 | exact absurd e k2 | exact absurd e k3 | exact absurd e k4 | exact absurd e k5 | exact absurd e k6 | exact absurd e k7)
      · split at e
        · (first | exact absurd e k1 | exact absurd e k2 | exact absurd e k3 | exact absurd e k4 | exact absurd e k5 | exact absurd e k6 | exact absurd e k7)
        · rename_i n1 n2 n3
          rw [if_neg n1, if_neg n2, if_neg n3]
          exact sort_num e
  · intro e
    have hq := runE_ge noQ t (a + 1)
    unfold tokA at e hle ⊢
    split at e
    · (first | exact absurd e k1 | exact absurd e k2 | exact absurd e k3 | exact absurd e k4 | exact absurd e k5 | exact absurd e k6 | exact absurd e k7)
    · split at e
      · rename_i n1 n2
        rw [if_neg n1, if_pos n2] at hle ⊢
        split at e
        · rename_i n3
          rw [if_pos n3] at hle ⊢
          have hle' : runE noQ t (a + 1) + 1 ≤ t.length := hle
          rw [wrd_len (by omega) hle']
          omega
        · (first | exact absurd e k1 | exact absurd e k2 | exact absurd e k3 | exact absurd e k4 | exact absurd e k5 | exact absurd e k6 | exact absurd e k7)
      · split at e
        · (first | exact absurd e k1 | exact absurd e k2 | exact absurd e k3 | exact absurd e k4 | exact absurd e k5 | exact absurd e k6 | exact absurd e k7)
        · exact absurd e (sort_ns _).2
  · intro e
    unfold tokA at e ⊢
    split at e
    · rename_i n1
      rw [if_pos n1]
      show wrd t a (a + 1) = [40] ∨ _
      rw [wrd_one h]
      rcases n1 with rfl | rfl | rfl
      · exact .inl rfl
      · exact .inr (.inl rfl)
      · exact .inr (.inr (.inl rfl))
    · split at e
      · split at e
        · split at e <;> (first | exact absurd e k1 | exact absurd e k2 | exact absurd e k3 | exact absurd e k4 | exact absurd e k5 | exact absurd e k6 | exact absurd e k7)
        · (first | exact absurd e k1 | exact absurd e k2 | exact absurd e k3 | exact absurd e k4 | exact absurd e k5 | exact absurd e k6 | exact absurd e k7)
      · split at e
        · rename_i n1 n2 n3
          rw [if_neg n1, if_neg n2, if_pos n3]
          show wrd t a (runE noE t a + 1) = [40] ∨ wrd t a (runE noE t a + 1) = [41] ∨ wrd t a (runE noE t a + 1) = [39] ∨ wrd t a (runE noE t a + 1) = [35, 39]
          rw [wrd_snoc n3.2 (runE_ge noE t a), n3.1]
          exact .inr (.inr (.inr rfl))
        · exact absurd e (sort_ns _).1
  · intro e z
    rw [hr] at z
    have hc : c = 41 := (List.cons.inj z).1
    unfold tokA at e
    rw [if_pos (by omega)] at e
    exact e rfl
theorem toks_ok {t : T} : ∀ (n : Nat) {a : Nat}, t.length - a = n → ∀ k ∈ toksF t a, TokOk t k := by
  intro n
  induction n using Nat.strongRecOn with
  | _ n ih =>
    intro a hn k hk
    cases e : t[a]? with
    | none =>
      rw [toksF_end (List.getElem?_eq_none_iff.mp e)] at hk
      cases hk
    | some c =>
      have ha := (List.getElem?_eq_some_iff.mp e).1
      have h1 := nxt_gt e
      have h2 := ih (t.length - nxt t a c) (by omega) (a := nxt t a c) rfl
      rw [toksF_at e] at hk
      split at hk
      · exact h2 k hk
      · rename_i hc
        rcases List.mem_cons.mp hk with hk | hk
        · subst hk
          exact tokA_ok e (by omega) (by omega)
        · exact h2 k hk
theorem dig_iff (c : Nat) : isD c = true ↔ 48 ≤ c ∧ c ≤ 57 := by
  unfold isD digC
  rw [decide_eq_true_iff]
  simp only [List.mem_cons, List.not_mem_nil, or_false]
  omega
theorem num_int {w : T} (h : isNum w = true) : intText? (S w) = some (intW w) ∧ w.length ≤ 31 := by
  have key : (∃ n, intText? (S w) = some n) ∧ w.length ≤ 31 := by
    unfold isNum at h
    rw [Bool.or_eq_true, decide_eq_true_iff] at h
    rcases h with h | h
    · subst h
      exact ⟨⟨_, intText_digits (x := S [48]) (fun c hc => by have : c = 48 := List.mem_singleton.mp hc; omega) (by simp) (by rw [len_S]; decide)⟩, by decide⟩
    · simp only [Bool.and_eq_true, decide_eq_true_eq, Bool.not_eq_true', decide_eq_false_iff_not, List.all_eq_true] at h
      obtain ⟨⟨⟨h1, h2⟩, _⟩, h4⟩ := h
      have hd : ∀ c ∈ body w, 48 ≤ c ∧ c ≤ 57 := fun c hc => (dig_iff c).mp (h4 c hc)
      have hne : body w ≠ [] := fun z => by rw [z] at h1; simp at h1
      cases w with
      | nil => exact absurd rfl hne
      | cons c r =>
        by_cases hc : c = 45
        · subst hc
          have eb : body (45 :: r) = r := rfl
          rw [eb] at hd hne h2
          exact ⟨⟨_, intText_neg (x := S (45 :: r)) (cs := r) rfl hd hne (by rw [len_S, List.length_cons]; omega)⟩, by rw [List.length_cons]; omega⟩
        · have eb : body (c :: r) = c :: r := by
            unfold body
            rw [if_neg (show ¬ (c :: r).head? = some 45 from fun e => hc (Option.some.inj e))]
          rw [eb] at hd h2
          exact ⟨⟨_, intText_digits (x := S (c :: r)) hd (by simp) (by rw [len_S]; omega)⟩, by omega⟩
  obtain ⟨⟨n, hn⟩, hl⟩ := key
  refine ⟨?_, hl⟩
  unfold intW
  rw [hn]
  rfl
section
variable {P : Program} {w : World} {K : PySem.W.Frag} {mg : Str → Option Value} {base : Heap}
/-! _atom -/
def spAtom : Sp := fun vs H Q _ => ∃ (s : Str) (w : T) (p : Nat), vs = [.str s, .str (S w), .int (p : Nat)] ∧ Ok w ∧ (s = "number" → isNum w = true) ∧ (s = "string" → 2 ≤ w.length) ∧ ∀ r H', Same H H' → Dt H' (.ref r) (atomD s w p) → Q (.ref r) H'
theorem cut_str {w : T} (h : 1 ≤ w.length) : cutS (S w) (some 1) (some (-1)) = S (wrd w 1 (w.length - 1)) := by
  unfold cutS wrd
  have e : (S w).length = w.length := S_len w
  rw [show (some 1 : Option Int) = some ((1 : Nat) : Int) from rfl, HT.sIx_nat, e, Nat.min_eq_left h]
  have e2 : HT.sIx w.length w.length (some (-1)) = w.length - 1 := by
    show (if (-1 : Int) < 0 then ((-1 : Int) + (w.length : Int)).toNat else min (-1 : Int).toNat w.length) = w.length - 1
    rw [if_pos (by decide)]
    omega
  rw [e2]
theorem ok_atom {f : Addr} {fd : FuncData} (F : Dfn K mg "_atom" st__atom f fd ["sort", "word", "place"]) (M : Mg mg) : Cal P w K mg base 1 "_atom" spAtom := by
  refine cal_mk F sc_atom (fun vs H Q E h => ?_) (fun cdv A outer s H vs Q E hr h => ?_)
  · obtain ⟨s, w, p, rfl, _⟩ := h
    rfl
  obtain ⟨s, w, p, rfl, ok, hnum, hstr, q⟩ := h
  refine ⟨_, (pss_cons (ps_if (pt_cmpR op_eq (pv 0) pe_str (nomark _)) (pss_one (ps_ret (pe_tup (pa_cons pe_str (pa_cons (pe_callTy call_int_str (by rfl) M.int b_int (pa_cons (pv 1) pa_nil)) (pa_cons (pv 2) pa_nil)))))) pss_nil)
      (pss_cons (ps_if (pt_cmpR op_eq (pv 0) pe_str (nomark _)) (pss_one (ps_ret (pe_tup (pa_cons pe_str (pa_cons (pe_cmpR op_eq (pv 1) pe_str (nomark _)) (pa_cons (pv 2) pa_nil)))))) pss_nil)
      (pss_cons (ps_if (pt_cmpR op_eq (pv 0) pe_str (nomark _)) (pss_one (ps_ret (pe_tup (pa_cons pe_str (pa_cons (pe_slice sl_str (pv 1) (po_some pe_int) (po_some (pe_un un_neg pe_int))) (pa_cons (pv 2) pa_nil)))))) pss_nil)
      (pss_cons (ps_if (pt_cmpR op_eq (pv 0) pe_str (nomark _)) (pss_one (ps_ret (pe_tup (pa_cons pe_str (pa_cons (pv 1) (pa_cons (pv 2) pa_nil)))))) pss_nil)
      (pss_one (ps_ret (pe_tup (pa_cons (pv 0) (pa_cons pe_non (pa_cons (pv 2) pa_nil)))))))))), ?_⟩
  refine ⟨_, rfl, rfl, _, rfl, ?_⟩
  rw [strE]
  unfold atomD at q
  by_cases h1 : s = "number"
  · rw [decide_eq_true h1]
    rw [if_pos h1] at q
    obtain ⟨hi, hl⟩ := num_int (hnum h1)
    exact iteT ⟨_, rfl, S w, _, rfl, hi, by rw [len_S]; omega, _, rfl, by show 3 ≤ sizeLine; decide, fun r nr => q r _ (same_upd nr) (.tup upd_same (.cons (.str _) (.cons (.int _) (.cons (.int _) .nil))))⟩
  rw [decide_eq_false h1]
  rw [if_neg h1] at q
  refine iteF ⟨_, rfl, rfl, _, rfl, ?_⟩
  rw [strE]
  by_cases h2 : s = "flag"
  · rw [decide_eq_true h2]
    rw [if_pos h2] at q
    refine iteT ⟨_, rfl, rfl, ?_⟩
    rw [wdE q_t]
    exact ⟨_, rfl, by show 3 ≤ sizeLine; decide, fun r nr => q r _ (same_upd nr) (.tup upd_same (.cons (.str _) (.cons (.bl _) (.cons (.int _) .nil))))⟩
  rw [decide_eq_false h2]
  rw [if_neg h2] at q
  refine iteF ⟨_, rfl, rfl, _, rfl, ?_⟩
  rw [strE]
  by_cases h3 : s = "string"
  · rw [decide_eq_true h3]
    rw [if_pos h3] at q
    have := hstr h3
    refine iteT ⟨_, rfl, _, rfl, _, rfl, _, rfl, S w, rfl, ok.z, ?_⟩
    rw [cut_str (by omega)]
    exact ⟨_, rfl, by show 3 ≤ sizeLine; decide, fun r nr => q r _ (same_upd nr) (.tup upd_same (.cons (.str _) (.cons (.str _) (.cons (.int _) .nil))))⟩
  rw [decide_eq_false h3]
  rw [if_neg h3] at q
  refine iteF ⟨_, rfl, rfl, _, rfl, ?_⟩
  rw [strE]
  by_cases h4 : s = "name"
  · rw [decide_eq_true h4]
    rw [if_pos h4] at q
    exact iteT ⟨_, rfl, _, rfl, by show 3 ≤ sizeLine; decide, fun r nr => q r _ (same_upd nr) (.tup upd_same (.cons (.str _) (.cons (.str _) (.cons (.int _) .nil))))⟩
  rw [decide_eq_false h4]
  rw [if_neg h4] at q
  exact iteF ⟨_, rfl, _, rfl, by show 3 ≤ sizeLine; decide, fun r nr => q r _ (same_upd nr) (.tup upd_same (.cons (.str _) (.cons .non (.cons (.int _) .nil))))⟩
end
end W4
set_option Elab.async false
set_option linter.all false
set_option maxRecDepth 100000
set_option maxHeartbeats 4000000
namespace W4
open PySem PySem.Spec PyProof.Rows L2 Com SX GxR
/-! the reader's state -/
structure KM (M0 : List Addr) (H0 H : Hp) : Prop where
  k : ∀ b o, b ∉ M0 → H0 b = some o → (∀ ps, o ≠ .tbl ps) → H b = some o
  t : ∀ b ps, H0 b = some (.tbl ps) → ∃ ps', H b = some (.tbl ps')
theorem KM.kt {M0 : List Addr} {H0 H H' : Hp} (a : KM M0 H0 H) (b : KT H H') : KM M0 H0 H' := ⟨fun c o hc h n => b.k c o (a.k c o hc h n) n, fun c ps h => by
  obtain ⟨ps', h'⟩ := a.t c ps h
  exact b.t c ps' h'⟩
theorem KM.of {M0 : List Addr} {H H' : Hp} (b : KT H H') : KM M0 H H' := ⟨fun c o _ h n => b.k c o h n, b.t⟩
theorem KM.kt' {H0 H : Hp} (a : KM [] H0 H) : KT H0 H := ⟨fun b o h n => a.k b o (fun z => by cases z) h n, a.t⟩
theorem KM.put {M0 : List Addr} {H0 H : Hp} {p : Addr} {xs ys : List V} (a : KM M0 H0 H) (h : H p = some (.lst xs)) (hp : p ∈ M0 ∨ H0 p = none) : KM M0 H0 (upd H p (.lst ys)) := by
  refine ⟨fun b o hb e n => ?_, fun b ps e => ?_⟩
  · rw [upd_ne]
    · exact a.k b o hb e n
    · intro z
      rcases hp with hp | hp
      · exact hb (z ▸ hp)
      · rw [z, hp] at e
        cases e
  · obtain ⟨ps', e'⟩ := a.t b ps e
    refine ⟨ps', ?_⟩
    rw [upd_ne]
    · exact e'
    · intro z
      rw [z, h] at e'
      cases e'
theorem KM.nn {M0 : List Addr} {H0 H : Hp} {b : Addr} (a : KM M0 H0 H) (hb : b ∉ M0) (n : H b = none) : H0 b = none := by
  cases e : H0 b with
  | none => rfl
  | some o =>
    by_cases h : ∃ ps, o = .tbl ps
    · obtain ⟨ps, rfl⟩ := h
      obtain ⟨ps', e'⟩ := a.t b ps e
      rw [n] at e'
      cases e'
    · rw [a.k _ _ hb e fun ps z => h ⟨ps, z⟩] at n
      cases n
structure Rdr where
  a : Addr
  dx : Addr
  fa : Addr
  sa : Addr
  oa : Addr
def Rdr.M (R : Rdr) (ps : List Addr) : List Addr := R.fa :: R.sa :: R.oa :: ps
def FrsAt (H : Hp) : List V → List Fr → List Addr → Prop
  | [], [], [] => True
  | x :: xs, f :: fs, p :: ps => (∃ b, x = .ref b ∧ H b = some (.tup [.str (S f.sg), .int (f.pl : Nat), .ref p])) ∧ (∃ ys, H p = some (.lst ys) ∧ DtAll H ys f.ps) ∧ FrsAt H xs fs ps
  | _, _, _ => False
theorem FrsAt.keep {H H' : Hp} (k : Tk H H') : ∀ {xs : List V} {fs : List Fr} {ps : List Addr}, (∀ p ∈ ps, ∀ ys, H p = some (.lst ys) → H' p = some (.lst ys)) → FrsAt H xs fs ps → FrsAt H' xs fs ps
  | [], [], [], _, _ => True.intro
  | x :: xs, f :: fs, p :: ps, hk, ⟨⟨b, e, h1⟩, ⟨ys, h2, h3⟩, h4⟩ => ⟨⟨b, e, k _ _ h1⟩, ⟨ys, hk p (List.mem_cons_self) ys h2, h3.tk k⟩, FrsAt.keep k (fun q hq => hk q (List.mem_cons_of_mem _ hq)) h4⟩
theorem FrsAt.len {H : Hp} : ∀ {xs : List V} {fs : List Fr} {ps : List Addr}, FrsAt H xs fs ps → xs.length = fs.length
  | [], [], [], _ => rfl
  | x :: xs, f :: fs, p :: ps, ⟨_, _, h⟩ => congrArg Nat.succ h.len
theorem FrsAt.isLst {H : Hp} : ∀ {xs : List V} {fs : List Fr} {ps : List Addr}, FrsAt H xs fs ps → ∀ p ∈ ps, ∃ ys, H p = some (.lst ys)
  | [], [], [], _, p, hp => by cases hp
  | x :: xs, f :: fs, p :: ps, ⟨_, ⟨ys, h2, _⟩, h⟩, q, hq => by
    rcases List.mem_cons.mp hq with rfl | hq
    · exact ⟨ys, h2⟩
    · exact h.isLst q hq
theorem FrsAt.nil {H : Hp} {xs : List V} {ps : List Addr} (h : FrsAt H xs [] ps) : xs = [] ∧ ps = [] := by
  cases xs with
  | nil => cases ps with
    | nil => exact ⟨rfl, rfl⟩
    | cons p ps => exact False.elim h
  | cons x xs => cases ps with
    | nil => exact False.elim h
    | cons p ps => exact False.elim h
theorem FrsAt.cons {H : Hp} {xs : List V} {f : Fr} {fs : List Fr} {ps : List Addr} (h : FrsAt H xs (f :: fs) ps) : ∃ b xs' p ps' ys, xs = .ref b :: xs' ∧ ps = p :: ps' ∧ H b = some (.tup [.str (S f.sg), .int (f.pl : Nat), .ref p]) ∧ H p = some (.lst ys) ∧ DtAll H ys f.ps ∧ FrsAt H xs' fs ps' := by
  cases xs with
  | nil => exact False.elim h
  | cons x xs => cases ps with
    | nil => exact False.elim h
    | cons p ps =>
      obtain ⟨⟨b, rfl, h1⟩, ⟨ys, h2, h3⟩, h4⟩ := h
      exact ⟨b, xs, p, ps, ys, rfl, rfl, h1, h2, h3, h4⟩
def flds (R : Rdr) (t : T) : List (Str × V) := [("source", .str (S t)), ("forms", .ref R.fa), ("starts", .ref R.sa), ("open_lists", .ref R.oa)]
structure RdAt (C : Addr) (R : Rdr) (t : T) (H : Hp) (ps : List Addr) (st : List Fr) (fm : List PyData) (ss : List Nat) : Prop where
  ins : H R.a = some (.ins C R.dx (flds R t))
  fm : ∃ xs, H R.fa = some (.lst xs) ∧ DtAll H xs fm
  ss : H R.sa = some (.lst (ss.map fun n => V.int (n : Nat)))
  st : ∃ xs, H R.oa = some (.lst xs.reverse) ∧ FrsAt H xs st ps
  nd : (R.M ps).Nodup
theorem RdAt.kt {C : Addr} {R : Rdr} {t : T} {H H' : Hp} {ps : List Addr} {st : List Fr} {fm : List PyData} {ss : List Nat} (h : RdAt C R t H ps st fm ss) (k : KT H H') : RdAt C R t H' ps st fm ss := by
  obtain ⟨h1, ⟨xs, h2, h3⟩, h4, ⟨ys, h5, h6⟩, h7⟩ := h
  exact ⟨k.ins h1, ⟨xs, k.lst h2, h3.tk k.tk⟩, k.lst h4, ⟨ys, k.lst h5, h6.keep k.tk fun p _ ys e => k.lst e⟩, h7⟩
structure RS (C PN PD : Addr) (M0 : List Addr) (H0 : Hp) (R : Rdr) (t : T) (H : Hp) (st : List Fr) (fm : List PyData) (ss : List Nat) : Prop where
  ex : ∃ ps, RdAt C R t H ps st fm ss ∧ ∀ b ∈ R.M ps, b ∈ M0 ∨ H0 b = none
  km : KM M0 H0 H
  tt : TT PN PD H
/-- bounds -/
structure Bd (n : Nat) (st : List Fr) (fm : List PyData) (ss : List Nat) : Prop where
  bs : ss.length ≤ 2 * n
  bf : fm.length ≤ n
  bt : st.length ≤ 60
  bp : ∀ f ∈ st, f.ps.length ≤ n + 1
  bn : ∀ f ∈ st, f.sg ≠ [40] → f.ps ≠ []
theorem Bd.mono {n m : Nat} {st : List Fr} {fm : List PyData} {ss : List Nat} (h : Bd n st fm ss) (k : n ≤ m) : Bd m st fm ss := ⟨Nat.le_trans h.bs (by omega), Nat.le_trans h.bf k, h.bt, fun f hf => Nat.le_trans (h.bp f hf) (by omega), h.bn⟩
theorem Bd.put {n : Nat} {fm : List PyData} {ss : List Nat} : ∀ {st : List Fr} {D : PyData}, Bd n st fm ss → Bd (n + 1) (put st fm ss D).st (put st fm ss D).fm (put st fm ss D).ss
  | [], D, h => ⟨Nat.le_trans h.bs (by omega), by show (fm ++ [D]).length ≤ n + 1; rw [List.length_append]; exact Nat.succ_le_succ h.bf, (by show 0 ≤ 60; omega), fun f hf => (nomatch hf), fun f hf => (nomatch hf)⟩
  | f :: r, D, h => by
    unfold W4.put
    split
    · rename_i e
      refine ⟨Nat.le_trans h.bs (by omega), Nat.le_trans h.bf (by omega), h.bt, fun g hg => ?_, fun g hg ng => ?_⟩
      · rcases List.mem_cons.mp hg with rfl | hg
        · show (f.ps ++ [D]).length ≤ _
          rw [List.length_append]
          exact Nat.succ_le_succ (h.bp f List.mem_cons_self)
        · exact Nat.le_trans (h.bp g (List.mem_cons_of_mem _ hg)) (by omega)
      · rcases List.mem_cons.mp hg with rfl | hg
        · exact absurd e ng
        · exact h.bn g (List.mem_cons_of_mem _ hg) ng
    · exact Bd.put (st := r) ⟨h.bs, h.bf, Nat.le_trans (Nat.le_succ _) h.bt, fun g hg => h.bp g (List.mem_cons_of_mem _ hg), fun g hg => h.bn g (List.mem_cons_of_mem _ hg)⟩
theorem RdAt.isLst {C : Addr} {R : Rdr} {t : T} {H : Hp} {ps : List Addr} {st : List Fr} {fm : List PyData} {ss : List Nat} (h : RdAt C R t H ps st fm ss) : ∀ b ∈ R.M ps, ∃ ys, H b = some (.lst ys) := by
  obtain ⟨h1, ⟨xs, h2, h3⟩, h4, ⟨ys, h5, h6⟩, h7⟩ := h
  intro b hb
  rcases List.mem_cons.mp hb with rfl | hb
  · exact ⟨_, h2⟩
  rcases List.mem_cons.mp hb with rfl | hb
  · exact ⟨_, h4⟩
  rcases List.mem_cons.mp hb with rfl | hb
  · exact ⟨_, h5⟩
  exact h6.isLst b hb
section
variable {C PN PD : Addr} {M0 : List Addr} {H0 H H' : Hp} {R : Rdr} {t : T} {st st' : List Fr} {fm fm' : List PyData} {ss ss' : List Nat}
theorem RS.kt (h : RS C PN PD M0 H0 R t H st fm ss) (k : KT H H') (k2 : TT PN PD H') : RS C PN PD M0 H0 R t H' st fm ss := by
  obtain ⟨⟨ps, h1, h2⟩, h3, _⟩ := h
  exact ⟨⟨ps, h1.kt k, h2⟩, h3.kt k, k2⟩
theorem RS.upd {ps ps' : List Addr} {p : Addr} {ys : List V} (h1 : RdAt C R t H ps st fm ss) (h2 : ∀ b ∈ R.M ps, b ∈ M0 ∨ H0 b = none) (h3 : KM M0 H0 H) (h4 : TT PN PD H) (hp : p ∈ R.M ps)
    (h' : RdAt C R t (L2.upd H p (.lst ys)) ps' st' fm' ss') (hps : ∀ b ∈ R.M ps', b ∈ M0 ∨ H0 b = none) : RS C PN PD M0 H0 R t (L2.upd H p (.lst ys)) st' fm' ss' := by
  obtain ⟨zs, hz⟩ := h1.isLst p hp
  exact ⟨⟨ps', h', hps⟩, h3.put hz (h2 p hp), h4.put fun ps e => by rw [hz] at e; cases e⟩
/-- as it stands, anew -/
theorem RS.here {ps : List Addr} (h : RdAt C R t H ps st fm ss) (k : TT PN PD H) : RS C PN PD (R.M ps) H R t H st fm ss := ⟨⟨ps, h, fun b hb => .inl hb⟩, .of (.refl H), k⟩
theorem RS.comp {ps : List Addr} (h1 : ∀ b ∈ R.M ps, b ∈ M0 ∨ H0 b = none) (km : KM M0 H0 H) (h2 : RS C PN PD (R.M ps) H R t H' st fm ss) : RS C PN PD M0 H0 R t H' st fm ss := by
  obtain ⟨⟨ps', a1, a2⟩, a3, a4⟩ := h2
  refine ⟨⟨ps', a1, fun b hb => ?_⟩, ⟨fun b o hb e n => ?_, fun b ps e => ?_⟩, a4⟩
  · rcases a2 b hb with z | z
    · exact h1 b z
    · by_cases hm : b ∈ M0
      · exact .inl hm
      · exact .inr (km.nn hm z)
  · refine a3.k b o (fun z => ?_) (km.k b o hb e n) n
    rcases h1 b z with z | z
    · exact hb z
    · rw [z] at e
      cases e
  · obtain ⟨ps', e'⟩ := km.t b ps e
    exact a3.t b ps' e'
end
section
variable {P : Program} {w : World} {K : PySem.W.Frag} {mg : Str → Option Value} {base : Heap} {C PN PD : Addr}
/-! new_place -/
def spNew (C PN PD : Addr) : Sp := fun vs H Q _ => ∃ (M0 : List Addr) (H0 : Hp) (R : Rdr) (t : T) (st : List Fr) (fm : List PyData) (ss : List Nat) (s : Nat), vs = [.ref R.a, .int (s : Nat)] ∧ RS C PN PD M0 H0 R t H st fm ss ∧ ss.length ≤ 20000 ∧
  ∀ H', RS C PN PD M0 H0 R t H' st fm (ss ++ [s]) → Q (.int (ss.length : Nat)) H'
theorem RdAt.starts {R : Rdr} {t : T} {H : Hp} {ps : List Addr} {st : List Fr} {fm : List PyData} {ss ss' : List Nat} (h : RdAt C R t H ps st fm ss) : RdAt C R t (upd H R.sa (.lst (ss'.map fun n => V.int (n : Nat)))) ps st fm ss' := by
  have nd := h.nd
  obtain ⟨h1, ⟨xs, h2, h3⟩, h4, ⟨ys, h5, h6⟩, h7⟩ := h
  have nd' : (R.fa :: R.sa :: R.oa :: ps).Nodup := nd
  simp only [List.nodup_cons, List.mem_cons, not_or] at nd'
  obtain ⟨⟨n1, n2, n3⟩, ⟨n4, n5⟩, n6, n7⟩ := nd'
  have tk : Tk H (upd H R.sa (.lst (ss'.map fun n => V.int (n : Nat)))) := Tk.upd fun xs z => by rw [h4] at z; cases z
  refine ⟨?_, ⟨xs, ?_, h3.tk tk⟩, upd_same, ⟨ys, ?_, h6.keep tk fun p hp ys e => ?_⟩, nd⟩
  · rw [upd_ne (fun z => by rw [z, h4] at h1; cases h1)]
    exact h1
  · rw [upd_ne n1]
    exact h2
  · rw [upd_ne (Ne.symm n4)]
    exact h5
  · rw [upd_ne (fun z : p = R.sa => n5 (by rw [← z]; exact hp))]
    exact e
theorem ok_new {f : Addr} {fd : FuncData} (F : DfnM K C "new_place" "Reader.new_place" st_Reader_new_place f fd ["self", "start"]) (M : Mg mg) (T : Cls K C) (nS : NoAttr K C "starts") : CalM CX0 P w K mg base 1 C "new_place" (spNew C PN PD) := by
  refine calm_mk F scReader_new_place (fun vs H Q E h => ?_) (fun cdv A outer s H vs Q E hr h => ?_)
  · obtain ⟨M0, H0, R, t, st, fm, ss, s, rfl, _⟩ := h
    rfl
  obtain ⟨M0, H0, R, t, st, fm, ss, s, rfl, h, hl, q⟩ := h
  refine ⟨_, (pss_cons (ps_expr (pe_bm PySem.F.plainAttrs_list PySem.F.slot_list_append PySem.F.type_list_append mt_append (pe_fld (pv 0) rfl) (pa_cons (pv 1) pa_nil)))
      (pss_one (ps_ret (pe_op op_sub (pe_callB (cLen K rfl) (by rfl) M.len b_len (pa_cons (pe_fld (pv 0) rfl) pa_nil)) pe_int)))), ?_⟩
  obtain ⟨⟨ps, h1, h2⟩, h3, h4⟩ := h
  refine ⟨_, rfl, R.a, C, R.dx, _, _, rfl, h1.ins, T, nS, rfl, .inl ⟨rfl, _, SqL.of h1.ss⟩, _, rfl, R.sa, _, _, rfl, rfl, h1.ss, by rw [List.length_map]; show _ < 2 ^ 24; omega, ?_⟩
  have e : (ss.map fun n => V.int (n : Nat)) ++ [V.int (s : Nat)] = (ss ++ [s]).map fun n => V.int (n : Nat) := by rw [List.map_append]; rfl
  rw [e]
  have h1' := h1.starts (ss' := ss ++ [s])
  refine ⟨_, rfl, R.a, C, R.dx, _, _, rfl, h1'.ins, T, nS, rfl, R.sa, _, rfl, .inl (SqL.of h1'.ss), _, _, rfl, rfl, ?_⟩
  have q1 := q _ (RS.upd h1 h2 h3 h4 (p := R.sa) (by unfold Rdr.M; simp) h1' h2)
  rw [List.length_map, List.length_append, List.length_singleton]
  dsimp only
  rw [show (((ss.length + 1 : Nat) : Int) - 1) = ((ss.length : Nat) : Int) by omega]
  exact q1
/-! put -/
def spPut (C PN PD : Addr) : Sp := fun vs H Q _ => ∃ (M0 : List Addr) (H0 : Hp) (R : Rdr) (t : T) (st : List Fr) (fm : List PyData) (ss : List Nat) (n : Nat) (v : V) (D : PyData), vs = [.ref R.a, v] ∧ RS C PN PD M0 H0 R t H st fm ss ∧ Bd n st fm ss ∧ n ≤ 7000 ∧ Dt H v D ∧
  ∀ H', RS C PN PD M0 H0 R t H' (put st fm ss D).st (put st fm ss D).fm (put st fm ss D).ss → Q .non H'
theorem RdAt.opens {R : Rdr} {t : T} {H : Hp} {ps ps' : List Addr} {st st' : List Fr} {fm : List PyData} {ss : List Nat} {xs' : List V} (h : RdAt C R t H ps st fm ss) (g : FrsAt H xs' st' ps') (nd : (R.M ps').Nodup) : RdAt C R t (upd H R.oa (.lst xs'.reverse)) ps' st' fm ss := by
  obtain ⟨h1, ⟨xs, h2, h3⟩, h4, ⟨ys, h5, h6⟩, h7⟩ := h
  have nd' : (R.fa :: R.sa :: R.oa :: ps').Nodup := nd
  simp only [List.nodup_cons, List.mem_cons, not_or] at nd'
  obtain ⟨⟨n1, n2, n3⟩, ⟨n4, n5⟩, n6, n7⟩ := nd'
  have tk : Tk H (upd H R.oa (.lst xs'.reverse)) := Tk.upd fun xs z => by rw [h5] at z; cases z
  refine ⟨?_, ⟨xs, ?_, h3.tk tk⟩, ?_, ⟨xs', upd_same, g.keep tk fun p hp ys e => ?_⟩, nd⟩
  · rw [upd_ne (fun z => by rw [z, h5] at h1; cases h1)]
    exact h1
  · rw [upd_ne n2]
    exact h2
  · rw [upd_ne n4]
    exact h4
  · rw [upd_ne (fun z : p = R.oa => n6 (by rw [← z]; exact hp))]
    exact e
theorem RdAt.forms {R : Rdr} {t : T} {H : Hp} {ps : List Addr} {st : List Fr} {fm fm' : List PyData} {ss : List Nat} {xs' : List V} (h : RdAt C R t H ps st fm ss) (g : DtAll H xs' fm') : RdAt C R t (upd H R.fa (.lst xs')) ps st fm' ss := by
  have nd := h.nd
  obtain ⟨h1, ⟨xs, h2, h3⟩, h4, ⟨ys, h5, h6⟩, h7⟩ := h
  have nd' : (R.fa :: R.sa :: R.oa :: ps).Nodup := nd
  simp only [List.nodup_cons, List.mem_cons, not_or] at nd'
  obtain ⟨⟨n1, n2, n3⟩, ⟨n4, n5⟩, n6, n7⟩ := nd'
  have tk : Tk H (upd H R.fa (.lst xs')) := Tk.upd fun xs z => by rw [h2] at z; cases z
  refine ⟨?_, ⟨xs', upd_same, g.tk tk⟩, ?_, ⟨ys, ?_, h6.keep tk fun p hp ys e => ?_⟩, nd⟩
  · rw [upd_ne (fun z => by rw [z, h2] at h1; cases h1)]
    exact h1
  · rw [upd_ne (Ne.symm n1)]
    exact h4
  · rw [upd_ne (Ne.symm n2)]
    exact h5
  · rw [upd_ne (fun z : p = R.fa => n3 (by rw [← z]; exact hp))]
    exact e
theorem RdAt.parts {R : Rdr} {t : T} {H : Hp} {p : Addr} {ps : List Addr} {f : Fr} {st : List Fr} {fm : List PyData} {ss : List Nat} {xs' : List V} {ds : List PyData} (h : RdAt C R t H (p :: ps) (f :: st) fm ss) (g : DtAll H xs' ds) : RdAt C R t (upd H p (.lst xs')) (p :: ps) (⟨f.sg, f.pl, ds⟩ :: st) fm ss := by
  have nd := h.nd
  obtain ⟨h1, ⟨xs, h2, h3⟩, h4, ⟨ys, h5, h6⟩, h7⟩ := h
  have nd' : (R.fa :: R.sa :: R.oa :: p :: ps).Nodup := nd
  simp only [List.nodup_cons, List.mem_cons, not_or] at nd'
  obtain ⟨⟨n1, n2, n3, n4⟩, ⟨n5, n6, n7⟩, ⟨n8, n9⟩, n10, n11⟩ := nd'
  obtain ⟨b, ys', p', ps', zs, rfl, e, g1, g2, g3, g4⟩ := h6.cons
  obtain ⟨rfl, rfl⟩ := List.cons.inj e
  have tk : Tk H (upd H p (.lst xs')) := Tk.upd fun xs z => by rw [g2] at z; cases z
  refine ⟨?_, ⟨xs, ?_, h3.tk tk⟩, ?_, ⟨.ref b :: ys', ?_, ⟨b, rfl, tk _ _ g1⟩, ⟨xs', upd_same, g.tk tk⟩, g4.keep tk fun q hq ys e => ?_⟩, nd⟩
  · rw [upd_ne (fun z => by rw [z, g2] at h1; cases h1)]
    exact h1
  · rw [upd_ne n3]
    exact h2
  · rw [upd_ne n6]
    exact h4
  · rw [upd_ne n8]
    exact h5
  · rw [upd_ne (fun z : q = p => n10 (by rw [← z]; exact hq))]
    exact e
theorem iteTr {c : Bool} {A B : Prop} (hc : c = true) (h : A) : if c = true then A else B := by rw [if_pos hc]; exact h
theorem atI_last (l : List V) (v : V) : atI (l ++ [v]) (-1) = some v := by
  unfold atI ixN
  rw [if_neg (by omega), List.length_append, List.length_singleton, if_pos (by omega)]
  show (l ++ [v])[((-1 : Int) + ((l.length + 1 : Nat) : Int)).toNat]? = some v
  rw [show ((-1 : Int) + ((l.length + 1 : Nat) : Int)).toNat = l.length by omega]
  exact List.getElem?_concat_length
theorem top_at {xs : List V} {v : V} : atI (v :: xs).reverse (-1) = some v := by
  rw [List.reverse_cons]
  exact atI_last _ _
theorem top_pop {xs : List V} {v : V} : (v :: xs).reverse[(v :: xs).reverse.length - 1]? = some v := by
  rw [List.reverse_cons, List.length_append, List.length_singleton, Nat.add_sub_cancel]
  exact List.getElem?_concat_length
theorem top_drop {xs : List V} {v : V} : (v :: xs).reverse.dropLast = xs.reverse := by
  rw [List.reverse_cons, List.dropLast_concat]
theorem ok_put {f : Addr} {fd : FuncData} (F : DfnM K C "put" "Reader.put" st_Reader_put f fd ["self", "datum"]) (M : Mg mg) (T : Cls K C) (nO : NoAttr K C "open_lists") (nF : NoAttr K C "forms") : CalM CX0 P w K mg base 1 C "put" (spPut C PN PD) := by
  refine calm_mk F scReader_put (fun vs H Q E h => ?_) (fun cdv A outer s H vs Q E hr h => ?_)
  · obtain ⟨M0, H0, R, t, st, fm, ss, n, v, D, rfl, _⟩ := h
    rfl
  obtain ⟨M0, H0, R, t, st, fm, ss, n, v, D, rfl, h, hb, hn, hv, q⟩ := h
  refine ⟨_, (pss_cons (ps_while PassesOwn.never (PW.pt (pw_and (pt_truth (pe_fld (pv 0) rfl) (by intro _; rfl)) (pw_and1 (pt_cmpR op_ne (pe_ix (ixT K rfl) (pe_ix (ixL K rfl) (pe_fld (pv 0) rfl) (pe_un un_neg pe_int) (fun _ _ => rfl)) pe_int (fun _ _ => rfl)) pe_str (nomark _)))))
      (pss_cons (ps_asg (pe_bm0 PySem.F.plainAttrs_list PySem.F.slot_list_pop PySem.F.type_list_pop mt_pop (pe_fld (pv 0) rfl)) (pg_tup rfl (pgs_cons (pg_name (i := 2) scReader_put.nd rfl (.inl rfl)) (pgs_cons (pg_name (i := 3) scReader_put.nd rfl (.inl rfl)) (pgs_cons (pg_name (i := 4) scReader_put.nd rfl (.inl rfl)) pgs_nil)))))
      (pss_one (ps_set (i := 1) scReader_put.nd rfl (.inl rfl) (pe_tup (pa_cons pe_str (pa_cons (pe_tup (pa_cons (pe_ix (ixL K rfl) (pv 4) pe_int (fun _ _ => rfl)) (pa_cons (pv 1) pa_nil))) (pa_cons (pv 3) pa_nil))))))))
      (pss_one (ps_if (pt_truth (pe_fld (pv 0) rfl) (by intro _; rfl)) (pss_one (ps_expr (pe_bm PySem.F.plainAttrs_list PySem.F.slot_list_append PySem.F.type_list_append mt_append (pe_ix (ixT K rfl) (pe_ix (ixL K rfl) (pe_fld (pv 0) rfl) (pe_un un_neg pe_int) (fun _ _ => rfl)) pe_int (fun _ _ => rfl)) (pa_cons (pv 1) pa_nil)))) (pss_one (ps_expr (pe_bm PySem.F.plainAttrs_list PySem.F.slot_list_append PySem.F.type_list_append mt_append (pe_fld (pv 0) rfl) (pa_cons (pv 1) pa_nil))))))), ?_⟩
  refine ⟨fun m σ H' => ∃ (st' : List Fr) (v' : V) (D' : PyData) (y1 y2 y3 : Option V), σ = [some (.ref R.a), some v', y1, y2, y3] ∧ RS C PN PD M0 H0 R t H' st' fm ss ∧ Bd n st' fm ss ∧ Dt H' v' D' ∧ W4.put st' fm ss D' = W4.put st fm ss D ∧ m = st'.length,
    ⟨_, st, v, D, none, none, none, rfl, h, hb, hv, rfl, rfl⟩, ?_⟩
  rintro m σ H' ⟨st', v', D', y1, y2, y3, rfl, ⟨⟨ps, h1, h2⟩, h3, h4⟩, hb', hv', he, rfl⟩
  rw [← he] at q
  obtain ⟨xs, h5, h6⟩ := h1.st
  refine ⟨_, rfl, R.a, C, R.dx, _, _, rfl, h1.ins, T, nO, rfl, _, .inl ⟨_, SqL.of h5, rfl⟩, ?_⟩
  cases st' with
  | nil =>
    obtain ⟨rfl, rfl⟩ := h6.nil
    refine iteF (iteF ⟨_, rfl, R.a, C, R.dx, _, _, rfl, h1.ins, T, nO, rfl, _, .inl ⟨_, SqL.of h5, rfl⟩, ?_⟩)
    obtain ⟨zs, h7, h8⟩ := h1.fm
    have hl := h8.len
    have hbf := hb'.bf
    refine iteF ⟨_, rfl, R.a, C, R.dx, _, _, rfl, h1.ins, T, nF, rfl, .inl ⟨rfl, _, SqL.of h7⟩, _, rfl, R.fa, _, _, rfl, rfl, h7, by show _ < 2 ^ 24; omega, ?_⟩
    exact q _ (RS.upd h1 h2 h3 h4 (p := R.fa) (by unfold Rdr.M; simp) (h1.forms (h8.app (.one hv'))) h2)
  | cons f r =>
    obtain ⟨b, xs', p, ps', ys, rfl, rfl, g1, g2, g3, g4⟩ := h6.cons
    refine iteTr (by simp) ?_
    refine ⟨_, rfl, R.a, C, R.dx, _, _, rfl, h1.ins, T, nO, rfl, _, rfl, ixl h5 top_at (tc (ixt g1 (atI_nat (j := 0) rfl) (tc ⟨rfl, _, rfl, ?_⟩)))⟩
    rw [wdE q_open]
    by_cases hsg : f.sg = [40]
    · rw [decide_eq_true hsg]
      have e : W4.put (f :: r) fm ss D' = ⟨⟨f.sg, f.pl, f.ps ++ [D']⟩ :: r, fm, ss⟩ := by unfold W4.put; rw [if_pos hsg]
      rw [e] at q
      have hl := g3.len
      have hbf := hb'.bp f List.mem_cons_self
      refine iteF ⟨_, rfl, R.a, C, R.dx, _, _, rfl, h1.ins, T, nO, rfl, _, .inl ⟨_, SqL.of h5, rfl⟩, ?_⟩
      refine iteTr (by simp) ?_
      refine ⟨_, rfl, R.a, C, R.dx, _, _, rfl, h1.ins, T, nO, rfl, _, rfl, ixl h5 top_at (tc (ixt g1 (atI_nat (j := 2) rfl) ⟨.inl ⟨rfl, _, SqL.of g2⟩, _, rfl, p, _, _, rfl, rfl, g2, by show _ < 2 ^ 24; omega, ?_⟩))⟩
      exact q _ (RS.upd h1 h2 h3 h4 (p := p) (by unfold Rdr.M; simp) (h1.parts (g3.app (.one hv'))) h2)
    rw [decide_eq_false hsg]
    have e : W4.put (f :: r) fm ss D' = W4.put r fm ss (lstD (f.ps.take 1 ++ [D']) f.pl) := by rw [show W4.put (f :: r) fm ss D' = if f.sg = [40] then (⟨⟨f.sg, f.pl, f.ps ++ [D']⟩ :: r, fm, ss⟩ : Cf) else W4.put r fm ss (lstD (f.ps.take 1 ++ [D']) f.pl) from rfl, if_neg hsg]
    have hne := hb'.bn f List.mem_cons_self hsg
    cases efp : f.ps with
    | nil => exact absurd efp hne
    | cons d0 dr =>
    rw [efp] at g3 e
    cases g3 with
    | @cons y0 yr _ _ gy0 gyr =>
    have nd' := h1.nd
    have nd0 : (R.fa :: R.sa :: R.oa :: p :: ps').Nodup := nd'
    simp only [List.nodup_cons, List.mem_cons, not_or] at nd0
    obtain ⟨⟨n1, n2, n3, n4⟩, ⟨n5, n6, n7⟩, ⟨n8, n9⟩, n10, n11⟩ := nd0
    have ndp : (R.M ps').Nodup := by
      unfold Rdr.M
      simp only [List.nodup_cons, List.mem_cons, not_or]
      exact ⟨⟨n1, n2, n4⟩, ⟨n5, n7⟩, n9, n11⟩
    have h2' : ∀ b ∈ R.M ps', b ∈ M0 ∨ H0 b = none := fun b hb => h2 b (by
      unfold Rdr.M at hb ⊢
      simp only [List.mem_cons] at hb ⊢
      rcases hb with h | h | h | h
      · exact .inl h
      · exact .inr (.inl h)
      · exact .inr (.inr (.inl h))
      · exact .inr (.inr (.inr (.inr h))))
    refine iteT ⟨fun σ' H'' => ∃ m', m' < (f :: r).length ∧ ∃ (st' : List Fr) (v' : V) (D' : PyData) (y1 y2 y3 : Option V), σ' = [some (.ref R.a), some v', y1, y2, y3] ∧ RS C PN PD M0 H0 R t H'' st' fm ss ∧ Bd n st' fm ss ∧ Dt H'' v' D' ∧ W4.put st' fm ss D' = W4.put st fm ss D ∧ m' = st'.length, fun σ' H' h => h, ?_⟩
    refine ⟨_, rfl, R.a, C, R.dx, _, _, rfl, h1.ins, T, nO, rfl, .inl ⟨rfl, _, SqL.of h5⟩, R.oa, _, _, rfl, rfl, h5, top_pop, ?_⟩
    rw [top_drop]
    have tk1 : Tk H' (L2.upd H' R.oa (.lst xs'.reverse)) := Tk.upd fun xs z => by rw [h5] at z; cases z
    have r1 := RS.upd h1 h2 h3 h4 (p := R.oa) (by unfold Rdr.M; simp) (h1.opens g4 ndp) h2'
    have g1' := tk1 _ _ g1
    have g2' : L2.upd H' R.oa (.lst xs'.reverse) p = some (.lst (y0 :: yr)) := by rw [upd_ne (Ne.symm n8)]; exact g2
    have hv1 := hv'.tk tk1
    have gy1 := gy0.tk tk1
    generalize L2.upd H' R.oa (.lst xs'.reverse) = H1 at r1 g1' g2' hv1 gy1 ⊢
    refine ⟨b, _, rfl, SqT.of g1', rfl, ?_⟩
    dsimp only [gCons, gName, gNil]
    refine ⟨_, _, rfl, _, _, rfl, _, _, rfl, rfl, ?_⟩
    refine ⟨_, rfl, tc (ixl g2' (atI_nat (j := 0) rfl) ⟨_, rfl, by show 2 ≤ sizeLine; decide, fun p1 np1 => ⟨_, rfl, by show 3 ≤ sizeLine; decide, fun p2 np2 => ?_⟩⟩)⟩
    have k1 : KT H1 (L2.upd H1 p1 (.tup [y0, v'])) := .new np1
    have e1 := upd_same (H := H1) (a := p1) (o := .tup [y0, v'])
    have T1 := r1.tt.new (o := .tup [y0, v']) np1
    have r2 := r1.kt k1 T1
    have d1 : Dt (L2.upd H1 p1 (.tup [y0, v'])) (.ref p1) (.tuple [d0, D']) := .tup e1 (.cons (gy1.tk k1.tk) (.cons (hv1.tk k1.tk) .nil))
    generalize L2.upd H1 p1 (.tup [y0, v']) = H2 at np2 r2 d1 ⊢
    have k2 : KT H2 (L2.upd H2 p2 (.tup [.str "list", .ref p1, .int (f.pl : Nat)])) := .new np2
    have T2 := r2.tt.new (o := .tup [.str "list", .ref p1, .int (f.pl : Nat)]) np2
    refine ⟨r.length, Nat.lt_succ_self _, r, .ref p2, lstD ([d0] ++ [D']) f.pl, _, _, _, rfl, r2.kt k2 T2, ⟨hb'.bs, hb'.bf, Nat.le_trans (Nat.le_succ _) hb'.bt, fun g hg => hb'.bp g (List.mem_cons_of_mem _ hg), fun g hg => hb'.bn g (List.mem_cons_of_mem _ hg)⟩, .tup upd_same (.cons (.str _) (.cons (d1.tk k2.tk) (.cons (.int _) .nil))), ?_, rfl⟩
    rw [← he, e]
    rfl
end
end W4
set_option Elab.async false
set_option linter.all false
set_option maxRecDepth 100000
set_option maxHeartbeats 4000000
namespace W4
open PySem PySem.Spec PyProof.Rows L2 Com SX GxR
/-- what the module says of the reader and of errors -/
structure ReT (w : World) (K : PySem.W.Frag) (mg : Str → Option Value) (C CE CW fI fR pS : Addr) : Prop where
  cl : Cls K C
  mkR : Mk K C fR
  mgC : mg "Reader" = some (.ref C)
  nS : NoAttr K C "source"
  nF : NoAttr K C "forms"
  nT : NoAttr K C "starts"
  nO : NoAttr K C "open_lists"
  ox : OexC K CE
  iR : PySem.W.findIn K (.ref CE) "__init__" = some (some (.ref fI))
  tR : PySem.W.typeIn K (.ref fI) = some (.type "function")
  nAt : PySem.W.findIn K (.ref CE) "at" = some none
  mR : mg "ReadError" = some (.ref CE)
  mW : mg "WhereError" = some (.ref CW)
  wgg : PySem.W.specialIn K (.ref CW) "__getattribute__" = some (some (.builtin "type.__getattribute__"))
  wrd : PySem.W.readsIn K CW (.type "type") = true
  wV : PySem.W.findCls K (.ref CW) (.type "type") "__init__" = some (.val (.builtin "ValueError.__init__"))
  xf : XfC K CE
  ex : PySem.W.exmOne K (.ref CE) (.ref CE) = some true
  gSN : mg "SIGN_NAMES" = some (.ref pS)
  kq : KDct K w pS (S [39]) (.str "quote")
  ks : KDct K w pS (S [35, 39]) (.str "syntax")
section
variable {P : Program} {w : World} {K : PySem.W.Frag} {mg : Str → Option Value} {base : Heap} {C CE CW fI fR pS PN PD : Addr}
def atX (n : Nat) : HO := .xd [("at", .int (n : Nat))]
def spRE (CE : Addr) : Sp := fun vs H Q _ => ∃ (a : Addr) (n : Nat), vs = [.ref a, .int (n : Nat)] ∧ n ≤ 7000 ∧ H a = some (exo a CE none) ∧ ∀ dx, H dx = none → dx ≠ a → Q .non (upd (upd H dx (exd dx [("at", .int (n : Nat))])) a (exo a CE (some dx)))
theorem raise_at {n : Nat} {H : Hp} {Q : XK} (hn : n ≤ 7000) (h : ∀ d H', Same H H' → H' d = some (atX n) → Q (.ref CE) (some d) H') {a : Addr} (na : H a = none) :
    spRE CE (.ref a :: ([.int (n : Nat)] ++ [])) (upd H a (exo a CE none)) (fun v H2 => v = .non ∧ ∃ (d : Addr) (fs : List (Str × V)), H2 a = some (exo a CE (some d)) ∧ H2 d = some (exd d fs) ∧ H d = none ∧ Q (.ref CE) (some d) (upd (del H2 a) d (.xd fs))) (fun _ _ _ => False) := by
  refine ⟨a, n, rfl, hn, upd_same, fun dx nd da => ⟨rfl, dx, [("at", .int (n : Nat))], upd_same, ?_, ?_, ?_⟩⟩
  · rw [upd_ne da, upd_same]
  · rw [upd_ne da] at nd
    exact nd
  · refine h dx _ (fun b o e => ?_) upd_same
    have h1 : b ≠ a := fun z => by rw [z, na] at e; cases e
    have h2 : b ≠ dx := fun z => by
      rw [upd_ne da] at nd
      rw [z, nd] at e
      cases e
    rw [upd_ne h2, del_ne h1, upd_ne h1, upd_ne h2, upd_ne h1]
    exact e
theorem log_small {n : Nat} (h : n ≤ 7000) : ((n : Nat) : Int).natAbs.log2 < 13 := by
  show n.log2 < 13
  by_cases e : n = 0
  · subst e
    decide
  · exact (Nat.log2_lt e).mpr (by omega)
theorem ok_re {fd : FuncData} (F : Fun K "__init__" "ReadError.__init__" st_ReadError___init__ fI fd) (T : ReT w K mg C CE CW fI fR pS) : FnOk P w K mg base CX0 1 fI fd ["self", "at"] (spRE CE) := by
  refine F.ok scReadError___init__ (fun vs H Q E h => ?_) (fun cdv A outer s H vs Q E hr h => ?_)
  · obtain ⟨a, n, rfl, _⟩ := h
    rfl
  obtain ⟨a, n, rfl, hn, ha, q⟩ := h
  refine ⟨_, (pss_cons (ps_expr (pe_weinit (by rfl) T.mW T.wgg T.wrd T.wV (pa_cons (pv 0) (pa_cons (pe_joined (.cons pe_str (.cons (pe_fmt (pv 1)) .nil))) pa_nil))))
      (pss_one (ps_ost (pv 0) (pv 1)))), ?_⟩
  have hlen : (Str.ofString (toString ((n : Nat) : Int))).length ≤ 14 := by
    rw [PySem.ofString_length]
    exact int_text_length_le (k := 13) (by decide) (log_small hn)
  have l1 : ((Str.empty ++ ("the text cannot be read at " : Str)).length) ≤ 40 := by decide +kernel
  have hs : sizeLine = 16777216 := sizeLine_eq
  refine ⟨_, rfl, ?_⟩
  dsimp only [tJs, tC, tCons]
  refine ⟨_, rfl, by omega, _, rfl, .inr ⟨_, rfl, by have := log_small hn; omega, _, rfl, by rw [Str.length_append]; omega, a, CE, _, rfl, by show 1 ≤ 1000; decide, T.ox, ha, _, rfl, _, rfl, a, CE, rfl, T.ox, T.nAt, .inl ⟨ha, q⟩⟩⟩
end
end W4
set_option Elab.async false
set_option linter.all false
set_option maxRecDepth 100000
set_option maxHeartbeats 4000000
namespace W4
open PySem PySem.Spec PyProof.Rows L2 Com SX GxR
theorem iteFr {c : Bool} {A B : Prop} (hc : c = false) (h : B) : if c = true then A else B := by rw [hc, if_neg (by decide)]; exact h
theorem nd_tail {R : Rdr} {p : Addr} {ps : List Addr} (h : (R.M (p :: ps)).Nodup) : (R.M ps).Nodup := by
  unfold Rdr.M at h ⊢
  simp only [List.nodup_cons, List.mem_cons, not_or] at h ⊢
  obtain ⟨⟨n1, n2, n3, n4⟩, ⟨n5, n6, n7⟩, ⟨n8, n9⟩, n10, n11⟩ := h
  exact ⟨⟨n1, n2, n4⟩, ⟨n5, n7⟩, n9, n11⟩
theorem nd_oa {R : Rdr} {p : Addr} {ps : List Addr} (h : (R.M (p :: ps)).Nodup) : R.oa ≠ p := by
  unfold Rdr.M at h
  simp only [List.nodup_cons, List.mem_cons, not_or] at h
  exact h.2.2.1.1
theorem mem_tail {R : Rdr} {p b : Addr} {ps : List Addr} (h : b ∈ R.M ps) : b ∈ R.M (p :: ps) := by
  unfold Rdr.M at h ⊢
  simp only [List.mem_cons] at h ⊢
  rcases h with h | h | h | h
  · exact .inl h
  · exact .inr (.inl h)
  · exact .inr (.inr (.inl h))
  · exact .inr (.inr (.inr (.inr h)))
theorem Bd.tail {n : Nat} {f : Fr} {r : List Fr} {fm : List PyData} {ss : List Nat} (h : Bd n (f :: r) fm ss) : Bd n r fm ss := ⟨h.bs, h.bf, Nat.le_trans (Nat.le_succ _) h.bt, fun g hg => h.bp g (List.mem_cons_of_mem _ hg), fun g hg => h.bn g (List.mem_cons_of_mem _ hg)⟩
section
variable {P : Program} {w : World} {K : PySem.W.Frag} {mg : Str → Option Value} {base : Heap} {C CE CW fI fR pS PN PD : Addr}
/-! end_list -/
def spEnd (C CE PN PD : Addr) : Sp := fun vs H Q E => ∃ (M0 : List Addr) (H0 : Hp) (R : Rdr) (t : T) (st : List Fr) (fm : List PyData) (ss : List Nat) (n s : Nat), vs = [.ref R.a, .int (s : Nat)] ∧ RS C PN PD M0 H0 R t H st fm ss ∧ Bd n st fm ss ∧ n ≤ 6500 ∧ s ≤ 7000 ∧
  (∀ f r, st = f :: r → f.sg = [40] → ∀ H', RS C PN PD M0 H0 R t H' (put r fm ss (lstD f.ps f.pl)).st (put r fm ss (lstD f.ps f.pl)).fm (put r fm ss (lstD f.ps f.pl)).ss → Q .non H') ∧
  ((st = [] ∨ ∃ f r, st = f :: r ∧ f.sg ≠ [40]) → ∀ d H', Same H H' → H' d = some (atX s) → E (.ref CE) (some d) H')
theorem ok_end {f : Addr} {fd fdI : FuncData} (F : DfnM K C "end_list" "Reader.end_list" st_Reader_end_list f fd ["self", "start"]) (M : Mg mg) (T : ReT w K mg C CE CW fI fR pS) (bRE : Binds K fdI ["self", "at"] []) (GRE : FnOk P w K mg base CX0 1 fI fdI ["self", "at"] (spRE CE))
    (Gput : CalM CX0 P w K mg base 1 C "put" (spPut C PN PD)) : CalM (L2.CX P w) P w K mg base 3 C "end_list" (spEnd C CE PN PD) := by
  refine calm_mkX F scReader_end_list (fun vs H Q E h => ?_) (fun cdv A outer s H vs Q E hr h => ?_)
  · obtain ⟨M0, H0, R, t, st, fm, ss, n, s, rfl, _⟩ := h
    rfl
  obtain ⟨M0, H0, R, t, st, fm, ss, n, s, rfl, h, hb, hn, hs, q1, q2⟩ := h
  refine ⟨_, (pss_cons (ps_if (PW.pt (pw_or (pt_not (pt_truth (pe_fld (pv 0) rfl) (by intro _; rfl))) (pw_or1 (pt_cmpR op_ne (pe_ix (ixT K rfl) (pe_ix (ixL K rfl) (pe_fld (pv 0) rfl) (pe_un un_neg pe_int) (fun _ _ => rfl)) pe_int (fun _ _ => rfl)) pe_str (nomark _))))) (pss_one (ps_raise rfl (takes_of rfl rfl rfl rfl) (pmk_oex T.ox T.iR T.tR GRE (hr.mono (by omega)) bRE .nil L2.pass0 (by rfl) T.mR (pa_cons (pv 1) pa_nil)))) pss_nil)
      (pss_cons (ps_asg (pe_bm0 PySem.F.plainAttrs_list PySem.F.slot_list_pop PySem.F.type_list_pop mt_pop (pe_fld (pv 0) rfl)) (pg_tup rfl (pgs_cons (pg_name (i := 2) scReader_end_list.nd rfl (.inl rfl)) (pgs_cons (pg_name (i := 3) scReader_end_list.nd rfl (.inl rfl)) (pgs_cons (pg_name (i := 4) scReader_end_list.nd rfl (.inl rfl)) pgs_nil)))))
      (pss_one (ps_expr (pe_m (pv 0) T.cl Gput hr (by omega) L2.pass0 (pa_cons (pe_tup (pa_cons pe_str (pa_cons (pe_callTy (cTup K rfl) (by rfl) M.tuple b_tuple (pa_cons (pv 4) pa_nil)) (pa_cons (pv 3) pa_nil)))) pa_nil)))))), ?_⟩
  obtain ⟨⟨ps, h1, h2⟩, h3, h4⟩ := h
  obtain ⟨xs, h5, h6⟩ := h1.st
  refine ⟨_, rfl, R.a, C, R.dx, _, _, rfl, h1.ins, T.cl, T.nO, rfl, _, .inl ⟨_, SqL.of h5, rfl⟩, ?_⟩
  cases st with
  | nil =>
    obtain ⟨rfl, rfl⟩ := h6.nil
    refine iteT (iteT ⟨_, rfl, by show 1 ≤ 1000; decide, fun a na => ?_⟩)
    exact raise_at hs (fun d H' k e => q2 (.inl rfl) d H' k e) na
  | cons f r =>
    obtain ⟨b, xs', p, ps', ys, rfl, rfl, g1, g2, g3, g4⟩ := h6.cons
    refine iteFr (by simp) ?_
    refine ⟨_, rfl, R.a, C, R.dx, _, _, rfl, h1.ins, T.cl, T.nO, rfl, _, rfl, ixl h5 top_at (tc (ixt g1 (atI_nat (j := 0) rfl) (tc ⟨rfl, _, rfl, ?_⟩)))⟩
    rw [wdE q_open]
    by_cases hsg : f.sg = [40]
    case neg =>
      rw [decide_eq_false hsg]
      refine iteT ⟨_, rfl, by show 1 ≤ 1000; decide, fun a na => ?_⟩
      exact raise_at hs (fun d H' k e => q2 (.inr ⟨f, r, rfl, hsg⟩) d H' k e) na
    rw [decide_eq_true hsg]
    have ndp := nd_tail h1.nd
    have h2' : ∀ b ∈ R.M ps', b ∈ M0 ∨ H0 b = none := fun b hb => h2 b (mem_tail hb)
    refine iteF ?_
    refine ⟨_, rfl, R.a, C, R.dx, _, _, rfl, h1.ins, T.cl, T.nO, rfl, .inl ⟨rfl, _, SqL.of h5⟩, R.oa, _, _, rfl, rfl, h5, top_pop, ?_⟩
    rw [top_drop]
    have tk1 : Tk H (L2.upd H R.oa (.lst xs'.reverse)) := Tk.upd fun xs z => by rw [h5] at z; cases z
    have r1 := RS.upd h1 h2 h3 h4 (p := R.oa) (by unfold Rdr.M; simp) (h1.opens g4 ndp) h2'
    have g1' := tk1 _ _ g1
    have g2' : L2.upd H R.oa (.lst xs'.reverse) p = some (.lst ys) := by rw [upd_ne (fun z => nd_oa h1.nd z.symm)]; exact g2
    have g3' := g3.tk tk1
    generalize L2.upd H R.oa (.lst xs'.reverse) = H1 at r1 g1' g2' g3' ⊢
    refine ⟨b, _, rfl, SqT.of g1', rfl, ?_⟩
    dsimp only [gCons, gName, gNil]
    refine ⟨_, _, rfl, _, _, rfl, _, _, rfl, rfl, ?_⟩
    have ins1 : H1 R.a = some (.ins C R.dx (flds R t)) := by
      obtain ⟨⟨_, z, _⟩, _, _⟩ := r1
      exact z.ins
    refine ⟨_, rfl, R.a, R.dx, _, rfl, ins1, rfl, ?_⟩
    dsimp only [tCons, tC, tTup]
    refine ⟨_, rfl, p, _, rfl, .inl ⟨SqL.of g2', fun l nl => ⟨_, rfl, by show 3 ≤ sizeLine; decide, fun p2 np2 => ?_⟩⟩⟩
    have k1 : KT H1 (L2.upd H1 l (.tup ys)) := .new nl
    have e1 := upd_same (H := H1) (a := l) (o := .tup ys)
    have r2 := r1.kt k1 (r1.tt.new nl)
    have d1 : Dt (L2.upd H1 l (.tup ys)) (.ref l) (.tuple f.ps) := .tup e1 (g3'.tk k1.tk)
    generalize L2.upd H1 l (.tup ys) = H2 at np2 r2 d1 ⊢
    have k2 : KT H2 (L2.upd H2 p2 (.tup [.str "list", .ref l, .int (f.pl : Nat)])) := .new np2
    exact ⟨M0, H0, R, t, r, fm, ss, n, .ref p2, lstD f.ps f.pl, rfl, r2.kt k2 (r2.tt.new np2), hb.tail, by omega, .tup upd_same (.cons (.str _) (.cons (d1.tk k2.tk) (.cons (.int _) .nil))), fun H' h' => q1 f r rfl hsg H' h'⟩
end
end W4
set_option Elab.async false
set_option linter.all false
set_option maxRecDepth 100000
set_option maxHeartbeats 4000000
namespace W4
open PySem PySem.Spec PyProof.Rows L2 Com SX GxR
theorem nd_push {R : Rdr} {q : Addr} {ps : List Addr} (h : (R.M ps).Nodup) (hq : q ∉ R.M ps) : (R.M (q :: ps)).Nodup := by
  unfold Rdr.M at h hq ⊢
  simp only [List.nodup_cons, List.mem_cons, not_or] at h hq ⊢
  obtain ⟨⟨n1, n2, n3⟩, ⟨n4, n5⟩, n6, n7⟩ := h
  obtain ⟨m1, m2, m3, m4⟩ := hq
  exact ⟨⟨n1, n2, Ne.symm m1, n3⟩, ⟨n4, Ne.symm m2, n5⟩, ⟨Ne.symm m3, n6⟩, m4, n7⟩
theorem mem_push {R : Rdr} {q b : Addr} {ps : List Addr} (h : b ∈ R.M (q :: ps)) : b = q ∨ b ∈ R.M ps := by
  unfold Rdr.M at h ⊢
  simp only [List.mem_cons] at h ⊢
  rcases h with h | h | h | h | h
  · exact .inr (.inl h)
  · exact .inr (.inr (.inl h))
  · exact .inr (.inr (.inr (.inl h)))
  · exact .inl h
  · exact .inr (.inr (.inr (.inr h)))
theorem RdAt.other {C : Addr} {R : Rdr} {t : T} {H : Hp} {ps : List Addr} {st : List Fr} {fm : List PyData} {ss : List Nat} {q : Addr} {xs ys : List V} (h : RdAt C R t H ps st fm ss) (hq : q ∉ R.M ps) (e : H q = some (.lst xs)) : RdAt C R t (upd H q (.lst ys)) ps st fm ss := by
  have nd := h.nd
  obtain ⟨h1, ⟨zs, h2, h3⟩, h4, ⟨us, h5, h6⟩, h7⟩ := h
  have tk : Tk H (upd H q (.lst ys)) := Tk.upd fun xs z => by rw [e] at z; cases z
  unfold Rdr.M at hq
  simp only [List.mem_cons, not_or] at hq
  obtain ⟨m1, m2, m3, m4⟩ := hq
  refine ⟨?_, ⟨zs, ?_, h3.tk tk⟩, ?_, ⟨us, ?_, h6.keep tk fun p hp ys g => ?_⟩, nd⟩
  · rw [upd_ne (fun z => by rw [z, e] at h1; cases h1)]
    exact h1
  · rw [upd_ne (Ne.symm m1)]
    exact h2
  · rw [upd_ne (Ne.symm m2)]
    exact h4
  · rw [upd_ne (Ne.symm m3)]
    exact h5
  · rw [upd_ne (fun z : p = q => m4 (by rw [← z]; exact hp))]
    exact g
section
variable {P : Program} {w : World} {K : PySem.W.Frag} {mg : Str → Option Value} {base : Heap} {C CE CW fI fR pS PN PD : Addr}
/-! begin_list -/
def begDs (w : T) (n : Nat) : List PyData := if w = [40] then [] else [namD (sgN w) (n + 1)]
def begSs (w : T) (ss : List Nat) (s : Nat) : List Nat := if w = [40] then ss ++ [s] else ss ++ [s, s]
def spBegin (C CE PN PD : Addr) : Sp := fun vs H Q E => ∃ (M0 : List Addr) (H0 : Hp) (R : Rdr) (t : T) (st : List Fr) (fm : List PyData) (ss : List Nat) (n s : Nat) (wd : T), vs = [.ref R.a, .str (S wd), .int (s : Nat)] ∧ (wd = [40] ∨ wd = [39] ∨ wd = [35, 39]) ∧ RS C PN PD M0 H0 R t H st fm ss ∧ Bd n st fm ss ∧ n ≤ 6500 ∧ s ≤ 7000 ∧
  (st.length ≠ 60 → ∀ H', RS C PN PD M0 H0 R t H' (⟨wd, ss.length, begDs wd ss.length⟩ :: st) fm (begSs wd ss s) → Q .non H') ∧
  (st.length = 60 → ∀ d H', Same H H' → H' d = some (atX s) → E (.ref CE) (some d) H')
theorem ok_begin {f : Addr} {fd fdI : FuncData} (F : DfnM K C "begin_list" "Reader.begin_list" st_Reader_begin_list f fd ["self", "sign", "start"]) (M : Mg mg) (G : Gb mg) (T : ReT w K mg C CE CW fI fR pS) (bRE : Binds K fdI ["self", "at"] []) (GRE : FnOk P w K mg base CX0 1 fI fdI ["self", "at"] (spRE CE))
    (Gnew_place : CalM CX0 P w K mg base 1 C "new_place" (spNew C PN PD)) : CalM (L2.CX P w) P w K mg base 3 C "begin_list" (spBegin C CE PN PD) := by
  refine calm_mkX F scReader_begin_list (fun vs H Q E h => ?_) (fun cdv A outer s H vs Q E hr h => ?_)
  · obtain ⟨M0, H0, R, t, st, fm, ss, n, s, wd, rfl, _⟩ := h
    rfl
  obtain ⟨M0, H0, R, t, st, fm, ss, n, s, wd, rfl, hw, h, hb, hn, hs, q1, q2⟩ := h
  refine ⟨_, (pss_cons (ps_if (pt_cmpR op_eq (pe_callB (cLen K rfl) (by rfl) M.len b_len (pa_cons (pe_fld (pv 0) rfl) pa_nil)) (pe_glob (v := .int 60) (by rfl) G.deep ⟨_, rfl⟩) (nomark _)) (pss_one (ps_raise rfl (takes_of rfl rfl rfl rfl) (pmk_oex T.ox T.iR T.tR GRE (hr.mono (by omega)) bRE .nil L2.pass0 (by rfl) T.mR (pa_cons (pv 2) pa_nil)))) pss_nil)
      (pss_cons (ps_set (i := 3) scReader_begin_list.nd rfl (.inl rfl) (pe_m (pv 0) T.cl Gnew_place hr (by omega) L2.pass0 (pa_cons (pv 2) pa_nil)))
      (pss_cons (ps_set (i := 4) scReader_begin_list.nd rfl (.inl rfl) (pe_lst pa_nil))
      (pss_cons (ps_if (pt_cmpR op_ne (pv 1) pe_str (nomark _)) (pss_one (ps_expr (pe_bm PySem.F.plainAttrs_list PySem.F.slot_list_append PySem.F.type_list_append mt_append (pv 4) (pa_cons (pe_tup (pa_cons pe_str (pa_cons (pe_ix ix_kdict (pe_glob (v := .ref pS) (by rfl) T.gSN rfl) (pv 1) (fun _ _ => rfl)) (pa_cons (pe_m (pv 0) T.cl Gnew_place hr (by omega) L2.pass0 (pa_cons (pv 2) pa_nil)) pa_nil)))) pa_nil)))) pss_nil)
      (pss_one (ps_expr (pe_bm PySem.F.plainAttrs_list PySem.F.slot_list_append PySem.F.type_list_append mt_append (pe_fld (pv 0) rfl) (pa_cons (pe_tup (pa_cons (pv 1) (pa_cons (pv 3) (pa_cons (pv 4) pa_nil)))) pa_nil)))))))), ?_⟩
  obtain ⟨⟨ps, h1, h2⟩, h3, h4⟩ := id h
  obtain ⟨xs, h5, h6⟩ := h1.st
  refine ⟨_, rfl, R.a, C, R.dx, _, _, rfl, h1.ins, T.cl, T.nO, rfl, R.oa, _, rfl, .inl (SqL.of h5), rfl, _, rfl, ?_⟩
  have hxl := h6.len
  have hbs := hb.bs
  rw [List.length_reverse, hxl]
  by_cases h60 : st.length = 60
  · rw [h60, decide_eq_true (show V.int ((60 : Nat) : Int) = V.int 60 from rfl)]
    refine iteT ⟨_, rfl, by show 1 ≤ 1000; decide, fun a na => ?_⟩
    exact raise_at hs (fun d H' k e => q2 h60 d H' k e) na
  rw [decide_eq_false (show ¬ (V.int (st.length : Int) = V.int 60) from fun z => h60 (by have := V.int.inj z; omega))]
  refine iteF ⟨_, rfl, R.a, R.dx, _, rfl, h1.ins, rfl, _, rfl, M0, H0, R, t, st, fm, ss, s, rfl, h, by omega, fun H1 r1 => ?_⟩
  dsimp only [gName]
  refine ⟨Nat.zero_le _, fun q nq => ?_⟩
  dsimp only [gName]
  obtain ⟨ps1, a1, a2⟩ := r1.ex
  have k1 : KT H1 (L2.upd H1 q (.lst [])) := .new nq
  have e1 := upd_same (H := H1) (a := q) (o := .lst [])
  have a1' := a1.kt k1
  have T1 := r1.tt.new (o := .lst []) nq
  have h1q : q ∉ R.M ps1 := fun z => by
    obtain ⟨ys, e⟩ := a1.isLst q z
    rw [nq] at e
    cases e
  have km1 : KM (R.M ps1) H1 (L2.upd H1 q (.lst [])) := .of k1
  generalize L2.upd H1 q (.lst []) = H2 at k1 e1 a1' T1 km1 ⊢
  refine seq_split (t1 := tIfS _ _ _) (fun σ' H' => ∃ (ps3 : List Addr) (ys : List V), σ' = [some (.ref R.a), some (.str (S wd)), some (.int (s : Nat)), some (.int (ss.length : Nat)), some (.ref q)] ∧ RdAt C R t H' ps3 st fm (begSs wd ss s) ∧ (∀ b ∈ R.M ps3, b ∈ R.M ps1 ∨ H2 b = none) ∧ KM (R.M ps1) H1 H' ∧ TT PN PD H' ∧ H' q = some (.lst ys) ∧ DtAll H' ys (begDs wd ss.length)) ?_ (fun J => ?_)
  · rintro σ' H' ⟨ps3, ys, rfl, b1, b2, b3, b4, b5, b6⟩
    obtain ⟨xs3, c5, c6⟩ := b1.st
    have b2' : ∀ b ∈ R.M ps3, b ∈ R.M ps1 ∨ H1 b = none := fun b hb => (b2 b hb).imp_right fun z => k1.nn z
    refine ⟨_, rfl, R.a, C, R.dx, _, _, rfl, b1.ins, T.cl, T.nO, rfl, .inl ⟨rfl, _, SqL.of c5⟩, _, rfl, _, rfl, _, rfl, by show 3 ≤ sizeLine; decide, fun p np => ?_⟩
    have k3 : KT H' (L2.upd H' p (.tup [.str (S wd), .int (ss.length : Nat), .ref q])) := .new np
    have e3 := upd_same (H := H') (a := p) (o := .tup [.str (S wd), .int (ss.length : Nat), .ref q])
    have b1' := b1.kt k3
    have T3 := b4.new (o := .tup [.str (S wd), .int (ss.length : Nat), .ref q]) np
    have b3' := b3.kt k3
    have b5' := k3.lst b5
    have b6' := b6.tk k3.tk
    have c5' := k3.lst c5
    have c6' := c6.keep k3.tk fun p _ ys e => k3.lst e
    generalize L2.upd H' p (.tup [.str (S wd), .int (ss.length : Nat), .ref q]) = H4 at e3 b1' T3 b3' b5' b6' c5' c6' ⊢
    have hl3 := c6'.len
    refine ⟨R.oa, _, _, rfl, rfl, c5', by rw [List.length_reverse, hl3]; show _ < 2 ^ 24; have := hb.bt; omega, ?_⟩
    have g : FrsAt H4 (.ref p :: xs3) (⟨wd, ss.length, begDs wd ss.length⟩ :: st) (q :: ps3) := ⟨⟨p, rfl, e3⟩, ⟨ys, b5', b6'⟩, c6'⟩
    have hq3 : q ∉ R.M ps3 := fun z => by
      rcases b2 q z with y | y
      · exact h1q y
      · rw [e1] at y
        cases y
    have nd : (R.M (q :: ps3)).Nodup := nd_push b1'.nd hq3
    have r4 := b1'.opens g nd
    rw [List.reverse_cons] at r4
    refine q1 h60 _ (RS.comp a2 r1.km (RS.upd b1' b2' b3' T3 (p := R.oa) (by unfold Rdr.M; simp) r4 fun b hb => ?_))
    rcases mem_push hb with rfl | hb
    · exact .inr nq
    · exact b2' b hb
  · refine ⟨_, rfl, rfl, _, rfl, ?_⟩
    rw [wdE q_open]
    by_cases hwd : wd = [40]
    · rw [decide_eq_true hwd]
      refine iteF ?_
      dsimp only [tNext]
      refine J _ _ ⟨ps1, [], rfl, ?_, fun b hb => .inl hb, km1, T1, e1, ?_⟩
      · unfold begSs
        rw [if_pos hwd]
        exact a1'
      · unfold begDs
        rw [if_pos hwd]
        exact .nil
    rw [decide_eq_false hwd]
    have hkd : KDct K w pS (S wd) (.str (sgN wd)) := by
      rcases hw with z | z | z
      · exact absurd z hwd
      · subst z
        exact T.kq
      · subst z
        exact T.ks
    refine iteT ⟨_, rfl, .inl ⟨rfl, _, SqL.of e1⟩, _, rfl, pS, _, _, rfl, rfl, hkd, _, rfl, R.a, R.dx, _, rfl, a1'.ins, rfl, _, rfl, R.M ps1, H2, R, t, st, fm, ss ++ [s], s, rfl, RS.here a1' T1, by rw [List.length_append, List.length_singleton]; omega, fun H3 r3 => ?_⟩
    obtain ⟨⟨ps3, d1, d2⟩, d3, d4⟩ := r3
    have eq3 : H3 q = some (.lst []) := d3.k q _ h1q e1 fun ps z => by cases z
    refine ⟨by show 3 ≤ sizeLine; decide, fun b nb => ?_⟩
    rw [List.length_append, List.length_singleton]
    have k3 : KT H3 (L2.upd H3 b (.tup [.str "name", .str (sgN wd), .int ((ss.length + 1 : Nat))])) := .new nb
    have e3 := upd_same (H := H3) (a := b) (o := .tup [.str "name", .str (sgN wd), .int ((ss.length + 1 : Nat))])
    have d1' := d1.kt k3
    have T3 := d4.new (o := .tup [.str "name", .str (sgN wd), .int ((ss.length + 1 : Nat))]) nb
    have eq3' := k3.lst eq3
    have km3 : KM (R.M ps1) H1 H3 := by
      refine ⟨fun b o hb e n => d3.k b o hb (k1.k b o e n) n, fun b ps e => ?_⟩
      obtain ⟨ps', e'⟩ := k1.t b ps e
      exact d3.t b ps' e'
    have km4 := km3.kt k3
    have dt : Dt (L2.upd H3 b (.tup [.str "name", .str (sgN wd), .int ((ss.length + 1 : Nat))])) (.ref b) (namD (sgN wd) (ss.length + 1)) := .tup e3 (.cons (.str _) (.cons (.str _) (.cons (.int _) .nil)))
    generalize L2.upd H3 b (.tup [.str "name", .str (sgN wd), .int ((ss.length + 1 : Nat))]) = H4 at d1' T3 eq3' km4 dt ⊢
    refine ⟨q, _, _, rfl, rfl, eq3', by show 0 < 2 ^ 24; decide, ?_⟩
    have hq3 : q ∉ R.M ps3 := fun z => by
      rcases d2 q z with y | y
      · exact h1q y
      · rw [e1] at y
        cases y
    have tk5 : Tk H4 (L2.upd H4 q (.lst ([] ++ [.ref b]))) := Tk.upd fun xs z => by rw [eq3'] at z; cases z
    refine J _ _ ⟨ps3, [.ref b], rfl, ?_, d2, km4.put eq3' (.inr nq), T3.put (fun ps z => by rw [eq3'] at z; cases z), upd_same, ?_⟩
    · unfold begSs
      rw [if_neg hwd, show ss ++ [s, s] = ss ++ [s] ++ [s] by rw [List.append_assoc]; rfl]
      exact d1'.other hq3 eq3'
    · unfold begDs
      rw [if_neg hwd]
      exact .one (dt.tk tk5)
end
end W4
set_option Elab.async false
set_option linter.all false
set_option maxRecDepth 100000
set_option maxHeartbeats 4000000
namespace W4
open PySem PySem.Spec PyProof.Rows L2 Com SX GxR
/-! steps keep the bounds -/
theorem bd_step {t : T} {n : Nat} {cf cf' : Cf} {k : Tok} (h : Bd n cf.st cf.fm cf.ss) (e : step t cf k = .ok cf') : Bd (n + 1) cf'.st cf'.fm cf'.ss := by
  unfold W4.step at e
  split at e
  · cases e
  split at e
  · obtain rfl := Except.ok.inj e
    have h' : Bd n cf.st cf.fm cf.ss := h
    have := (Bd.put (D := atomD k.1 (wrd t k.2.1 k.2.2) cf.ss.length) h')
    have g : ∀ (st : List Fr) (ss ss' : List Nat) (D : PyData), (put st cf.fm ss D).st = (put st cf.fm ss' D).st ∧ (put st cf.fm ss D).fm = (put st cf.fm ss' D).fm ∧ (put st cf.fm ss D).ss = ss := by
      intro st
      induction st with
      | nil => intro ss ss' D; exact ⟨rfl, rfl, rfl⟩
      | cons f r ih =>
        intro ss ss' D
        unfold W4.put
        split
        · exact ⟨rfl, rfl, rfl⟩
        · exact ih ss ss' _
    obtain ⟨g1, g2, g3⟩ := g cf.st (cf.ss ++ [k.2.1]) cf.ss (atomD k.1 (wrd t k.2.1 k.2.2) cf.ss.length)
    rw [g1, g2, g3]
    refine ⟨?_, this.bf, this.bt, this.bp, this.bn⟩
    rw [List.length_append, List.length_singleton]
    have := h.bs
    omega
  split at e
  · cases hst : cf.st with
    | nil =>
      rw [hst] at e
      cases e
    | cons f r =>
      rw [hst] at e h
      dsimp only at e
      split at e
      · obtain rfl := Except.ok.inj e
        exact Bd.put h.tail
      · cases e
  split at e
  · cases e
  rename_i h60
  split at e
  · obtain rfl := Except.ok.inj e
    refine ⟨?_, Nat.le_trans h.bf (by omega), ?_, fun g hg => ?_, fun g hg ng => ?_⟩
    · show (cf.ss ++ [k.2.1]).length ≤ _
      rw [List.length_append, List.length_singleton]
      have := h.bs
      omega
    · show cf.st.length + 1 ≤ 60
      have := h.bt
      omega
    · rcases List.mem_cons.mp hg with rfl | hg
      · exact Nat.zero_le _
      · exact Nat.le_trans (h.bp g hg) (by omega)
    · rcases List.mem_cons.mp hg with rfl | hg
      · exact absurd rfl ng
      · exact h.bn g hg ng
  · obtain rfl := Except.ok.inj e
    refine ⟨?_, Nat.le_trans h.bf (by omega), ?_, fun g hg => ?_, fun g hg ng => ?_⟩
    · show (cf.ss ++ [k.2.1, k.2.1]).length ≤ _
      rw [List.length_append]
      have := h.bs
      show cf.ss.length + 2 ≤ _
      omega
    · show cf.st.length + 1 ≤ 60
      have := h.bt
      omega
    · rcases List.mem_cons.mp hg with rfl | hg
      · show 1 ≤ _
        omega
      · exact Nat.le_trans (h.bp g hg) (by omega)
    · rcases List.mem_cons.mp hg with rfl | hg
      · intro z
        cases z
      · exact h.bn g hg ng
section
variable {P : Program} {w : World} {K : PySem.W.Frag} {mg : Str → Option Value} {base : Heap} {C CE CW fI fR pS PN PD : Addr}
/-! take -/
def spTake4 (C CE PN PD : Addr) : Sp := fun vs H Q E => ∃ (M0 : List Addr) (H0 : Hp) (R : Rdr) (t : T) (cf : Cf) (n : Nat) (k : Tok), vs = [.ref R.a, .str k.1, .int (k.2.1 : Nat), .int (k.2.2 : Nat)] ∧ RS C PN PD M0 H0 R t H cf.st cf.fm cf.ss ∧ Bd n cf.st cf.fm cf.ss ∧ n ≤ 6000 ∧ Ok t ∧ t.length ≤ 6000 ∧ TokOk t k ∧
  (∀ cf', step t cf k = .ok cf' → ∀ H', RS C PN PD M0 H0 R t H' cf'.st cf'.fm cf'.ss → Q .non H') ∧
  (∀ b, step t cf k = .error b → ∀ d H', Same H H' → H' d = some (atX b) → E (.ref CE) (some d) H')
theorem ok_take {f : Addr} {fd fdI : FuncData} (F : DfnM K C "take" "Reader.take" st_Reader_take f fd ["self", "sort", "start", "end"]) (M : Mg mg) (T : ReT w K mg C CE CW fI fR pS) (bRE : Binds K fdI ["self", "at"] []) (GRE : FnOk P w K mg base CX0 1 fI fdI ["self", "at"] (spRE CE))
    (G_atom : Cal P w K mg base 1 "_atom" spAtom) (Gnew_place : CalM CX0 P w K mg base 1 C "new_place" (spNew C PN PD)) (Gput : CalM CX0 P w K mg base 1 C "put" (spPut C PN PD)) (Gend_list : CalM (L2.CX P w) P w K mg base 3 C "end_list" (spEnd C CE PN PD)) (Gbegin_list : CalM (L2.CX P w) P w K mg base 3 C "begin_list" (spBegin C CE PN PD)) :
    CalM (L2.CX P w) P w K mg base 4 C "take" (spTake4 C CE PN PD) := by
  refine calm_mkX F scReader_take (fun vs H Q E h => ?_) (fun cdv A outer s H vs Q E hr h => ?_)
  · obtain ⟨M0, H0, R, t, cf, n, k, rfl, _⟩ := h
    rfl
  obtain ⟨M0, H0, R, t, cf, n, k, rfl, h, hb, hn, ok, ht, tok, q1, q2⟩ := h
  refine ⟨_, (pss_cons (ps_set (i := 4) scReader_take.nd rfl (.inl rfl) (pe_slice sl_str (pe_fld (pv 0) rfl) (po_some (pv 2)) (po_some (pv 3))))
      (pss_cons (ps_if (pt_cmpR op_eq (pv 1) pe_str (nomark _)) (pss_one (ps_raise rfl (takes_of rfl rfl rfl rfl) (pmk_oex T.ox T.iR T.tR GRE (hr.mono (by omega)) bRE .nil L2.pass0 (by rfl) T.mR (pa_cons (pv 2) pa_nil)))) pss_nil)
      (pss_one (ps_if (pt_cmpR op_ne (pv 1) pe_str (nomark _)) (pss_one (ps_expr (pe_m (pv 0) T.cl Gput hr (by omega) L2.pass0 (pa_cons (pe_c G_atom hr (by omega) (by rfl) (pa_cons (pv 1) (pa_cons (pv 4) (pa_cons (pe_m (pv 0) T.cl Gnew_place hr (by omega) L2.pass0 (pa_cons (pv 2) pa_nil)) pa_nil)))) pa_nil)))) (pss_one (ps_if (pt_cmpR op_eq (pv 4) pe_str (nomark _)) (pss_one (ps_expr (pe_m (pv 0) T.cl Gend_list hr (by omega) (passes_call (takes_of rfl rfl rfl rfl) fun _ _ _ _ h => h) (pa_cons (pv 2) pa_nil)))) (pss_one (ps_expr (pe_m (pv 0) T.cl Gbegin_list hr (by omega) (passes_call (takes_of rfl rfl rfl rfl) fun _ _ _ _ h => h) (pa_cons (pv 4) (pa_cons (pv 2) pa_nil))))))))))), ?_⟩
  obtain ⟨⟨ps, h1, h2⟩, h3, h4⟩ := id h
  have hle := tok.le
  have hz := ok.z
  refine ⟨_, rfl, R.a, C, R.dx, _, _, rfl, h1.ins, T.cl, T.nS, rfl, _, rfl, _, rfl, _, rfl, _, rfl, S t, rfl, hz, ?_⟩
  rw [cut_wrd (by omega) hle.2]
  dsimp only [gName]
  refine ⟨_, rfl, rfl, _, rfl, ?_⟩
  rw [strE]
  by_cases c1 : k.1 = "wrong"
  · rw [decide_eq_true c1]
    refine iteT ⟨_, rfl, by show 1 ≤ 1000; decide, fun a na => ?_⟩
    exact raise_at (by omega) (fun d H' kk e => q2 _ (by unfold step; rw [if_pos c1]) d H' kk e) na
  rw [decide_eq_false c1]
  refine iteF ?_
  dsimp only [tNext]
  refine ⟨_, rfl, rfl, _, rfl, ?_⟩
  rw [strE]
  have hbs := hb.bs
  by_cases c2 : k.1 = "sign"
  case neg =>
    rw [decide_eq_false c2]
    have hst : step t cf k = .ok (put cf.st cf.fm (cf.ss ++ [k.2.1]) (atomD k.1 (wrd t k.2.1 k.2.2) cf.ss.length)) := by
      unfold step
      rw [if_neg c1, if_pos c2]
    refine iteT ⟨_, rfl, R.a, R.dx, _, rfl, h1.ins, rfl, _, rfl, _, rfl, _, rfl, R.a, R.dx, _, rfl, h1.ins, rfl, _, rfl, M0, H0, R, t, cf.st, cf.fm, cf.ss, k.2.1, rfl, h, by omega, fun H1 r1 => ?_⟩
    refine ⟨k.1, wrd t k.2.1 k.2.2, cf.ss.length, rfl, ok.wrd _ _, tok.num, tok.str, fun r H2 sm dt => ?_⟩
    have r2 := r1.kt (.same sm) (r1.tt.same sm)
    have hb2 : Bd (n + 1) cf.st cf.fm (cf.ss ++ [k.2.1]) := by
      refine ⟨?_, Nat.le_trans hb.bf (by omega), hb.bt, fun f hf => Nat.le_trans (hb.bp f hf) (by omega), hb.bn⟩
      rw [List.length_append, List.length_singleton]
      omega
    exact ⟨M0, H0, R, t, cf.st, cf.fm, cf.ss ++ [k.2.1], n + 1, .ref r, _, rfl, r2, hb2, by omega, dt, fun H' h' => q1 _ hst H' h'⟩
  rw [decide_eq_true c2]
  refine iteF ⟨_, rfl, rfl, _, rfl, ?_⟩
  rw [wdE q_close]
  by_cases c3 : wrd t k.2.1 k.2.2 = [41]
  · rw [decide_eq_true c3]
    refine iteT ⟨_, rfl, R.a, R.dx, _, rfl, h1.ins, rfl, _, rfl, ?_⟩
    refine ⟨M0, H0, R, t, cf.st, cf.fm, cf.ss, n, k.2.1, rfl, h, hb, by omega, by omega, fun f r e hsg H' h' => q1 _ ?_ H' h', fun hh d H' sm e => q2 _ ?_ d H' sm e⟩
    · unfold step
      rw [if_neg c1, if_neg (fun z => z c2), if_pos c3, e]
      dsimp only
      rw [if_pos hsg]
    · unfold step
      rw [if_neg c1, if_neg (fun z => z c2), if_pos c3]
      rcases hh with e | ⟨f, r, e, hsg⟩
      · rw [e]
      · rw [e]
        dsimp only
        rw [if_neg hsg]
  rw [decide_eq_false c3]
  have hw : wrd t k.2.1 k.2.2 = [40] ∨ wrd t k.2.1 k.2.2 = [39] ∨ wrd t k.2.1 k.2.2 = [35, 39] := by
    rcases tok.sig c2 with z | z | z | z
    · exact .inl z
    · exact absurd z c3
    · exact .inr (.inl z)
    · exact .inr (.inr z)
  refine iteF ⟨_, rfl, R.a, R.dx, _, rfl, h1.ins, rfl, _, rfl, _, rfl, ?_⟩
  refine ⟨M0, H0, R, t, cf.st, cf.fm, cf.ss, n, k.2.1, wrd t k.2.1 k.2.2, rfl, hw, h, hb, by omega, by omega, fun h60 H' h' => ?_, fun h60 d H' sm e => q2 _ ?_ d H' sm e⟩
  · have hst : step t cf k = .ok ⟨⟨wrd t k.2.1 k.2.2, cf.ss.length, begDs (wrd t k.2.1 k.2.2) cf.ss.length⟩ :: cf.st, cf.fm, begSs (wrd t k.2.1 k.2.2) cf.ss k.2.1⟩ := by
      unfold step begDs begSs
      rw [if_neg c1, if_neg (fun z => z c2), if_neg c3, if_neg h60]
      by_cases c4 : wrd t k.2.1 k.2.2 = [40]
      · rw [if_pos c4, if_pos c4, if_pos c4, c4]
      · rw [if_neg c4, if_neg c4, if_neg c4]
    exact q1 _ hst H' h'
  · unfold step
    rw [if_neg c1, if_neg (fun z => z c2), if_neg c3, if_pos h60]
end
end W4
set_option Elab.async false
set_option linter.all false
set_option maxRecDepth 100000
set_option maxHeartbeats 4000000
namespace W4
open PySem PySem.Spec PyProof.Rows L2 Com SX GxR
theorem tok_of {H : Hp} {v : V} {k : Tok} (h : Dt H v (tokD k)) : ∃ p, v = .ref p ∧ TokAt H p k := by
  unfold tokD at h
  cases h with
  | @tup p xs _ e g =>
    cases g with
    | cons g1 g =>
      cases g with
      | cons g2 g =>
        cases g with
        | cons g3 g =>
          cases g
          cases g1
          cases g2
          cases g3
          exact ⟨p, rfl, e⟩
theorem runM_cons {t : T} {cf : Cf} {k : Tok} {ks : List Tok} : runM t cf (k :: ks) = match step t cf k with
    | .error b => .error b
    | .ok cf' => runM t cf' ks := rfl
theorem KM.tk {M0 : List Addr} {H0 H : Hp} (k : KM M0 H0 H) (hm : ∀ b ∈ M0, ∃ ys, H0 b = some (.lst ys)) : Tk H0 H := fun b xs e => k.k b _ (fun z => by
  obtain ⟨ys, e'⟩ := hm b z
  rw [e] at e'
  cases e') e fun ps z => by cases z
section
variable {P : Program} {w : World} {K : PySem.W.Frag} {mg : Str → Option Value} {base : Heap} {C CE CW fI fR pS PN PD : Addr}
/-! read_all -/
def spAll (C CE PN PD : Addr) : Sp := fun vs H Q E => ∃ (M0 : List Addr) (H0 : Hp) (R : Rdr) (t : T), vs = [.ref R.a] ∧ RS C PN PD M0 H0 R t H [] [] [] ∧ Ok t ∧
  (∀ fm ss, readM t = .ok (fm, ss) → ∀ H', RS C PN PD M0 H0 R t H' [] fm ss → Q .non H') ∧
  (∀ b, readM t = .error b → ∀ d H', KM M0 H0 H' → TT PN PD H' → H' d = some (atX b) → E (.ref CE) (some d) H')
theorem ok_read_all {f : Addr} {fd fdI : FuncData} (F : DfnM K C "read_all" "Reader.read_all" st_Reader_read_all f fd ["self"]) (M : Mg mg) (G : Gb mg) (T : ReT w K mg C CE CW fI fR pS) (bRE : Binds K fdI ["self", "at"] []) (GRE : FnOk P w K mg base CX0 1 fI fdI ["self", "at"] (spRE CE))
    (Gtokens : Cal P w K mg base 6 "tokens" (spToks PN PD)) (Gtake : CalM (L2.CX P w) P w K mg base 4 C "take" (spTake4 C CE PN PD)) :
    CalM (L2.CX P w) P w K mg base 7 C "read_all" (spAll C CE PN PD) := by
  refine calm_mkX F scReader_read_all (fun vs H Q E h => ?_) (fun cdv A outer s H vs Q E hr h => ?_)
  · obtain ⟨M0, H0, R, t, rfl, _⟩ := h
    rfl
  obtain ⟨M0, H0, R, t, rfl, h, ok, q1, q2⟩ := h
  refine ⟨_, (pss_cons (ps_if (pt_cmpR op_gt (pe_callB call_len_str (by rfl) M.len b_len (pa_cons (pe_fld (pv 0) rfl) pa_nil)) (pe_glob (v := .int 6000) (by rfl) G.ltext ⟨_, rfl⟩) (nomark _)) (pss_one (ps_raise rfl (takes_of rfl rfl rfl rfl) (pmk_oex T.ox T.iR T.tR GRE (hr.mono (by omega)) bRE .nil L2.pass0 (by rfl) T.mR (pa_cons (pe_glob (v := .int 6000) (by rfl) G.ltext ⟨_, rfl⟩) pa_nil)))) pss_nil)
      (pss_cons (ps_for (passes_of rfl) rfl (pi_list (pe_c Gtokens hr (by omega) (by rfl) (pa_cons (pe_fld (pv 0) rfl) pa_nil))) (pg_tup rfl (pgs_cons (pg_name (i := 1) scReader_read_all.nd rfl (.inl rfl)) (pgs_cons (pg_name (i := 2) scReader_read_all.nd rfl (.inl rfl)) (pgs_cons (pg_name (i := 3) scReader_read_all.nd rfl (.inl rfl)) pgs_nil))))
      (pss_one (ps_expr (pe_m (pv 0) T.cl Gtake hr (by omega) (passes_call (takes_of rfl rfl rfl rfl) fun _ _ _ _ h => h) (pa_cons (pv 1) (pa_cons (pv 2) (pa_cons (pv 3) pa_nil)))))))
      (pss_one (ps_if (pt_truth (pe_fld (pv 0) rfl) (by intro _; rfl)) (pss_one (ps_raise rfl (takes_of rfl rfl rfl rfl) (pmk_oex T.ox T.iR T.tR GRE (hr.mono (by omega)) bRE .nil L2.pass0 (by rfl) T.mR (pa_cons (pe_callB call_len_str (by rfl) M.len b_len (pa_cons (pe_fld (pv 0) rfl) pa_nil)) pa_nil)))) pss_nil)))), ?_⟩
  obtain ⟨⟨ps, h1, h2⟩, h3, h4⟩ := id h
  have hz := ok.z
  refine ⟨_, rfl, R.a, C, R.dx, _, _, rfl, h1.ins, T.cl, T.nS, rfl, S t, rfl, hz, _, _, rfl, rfl, _, rfl, ?_⟩
  rw [len_S]
  unfold readM at q1 q2
  by_cases hlt : 6000 < t.length
  · rw [decide_eq_true (show (6000 : Int) < ((t.length : Nat) : Int) by omega)]
    rw [if_pos hlt] at q2
    refine iteT ⟨by show 1 ≤ 1000; decide, fun a na => ?_⟩
    exact raise_at (n := 6000) (by omega) (fun d H' k e => q2 6000 rfl d H' (h3.kt (.same k)) (h4.same k) e) na
  rw [decide_eq_false (show ¬ (6000 : Int) < ((t.length : Nat) : Int) by omega)]
  rw [if_neg hlt] at q1 q2
  refine iteF ?_
  dsimp only [tNext]
  refine ⟨_, rfl, R.a, C, R.dx, _, _, rfl, h1.ins, T.cl, T.nS, rfl, t, rfl, ok, h4, fun r H2 ys k2 T2 nr hr2 dv => ?_⟩
  have a1 := h1.kt k2
  have hr1 : r ∉ R.M ps := fun z => by
    obtain ⟨zs, e⟩ := h1.isLst r z
    rw [nr] at e
    cases e
  have kmA := h3.kt k2
  have hyl := dv.len
  rw [List.length_map] at hyl
  have hl6 : (toksF t 0).length ≤ 6000 := by
    have := toksF_len (t := t) t.length (a := 0) (by omega)
    omega
  have key : ∀ {H' : Hp}, KM (R.M ps) H2 H' → H' r = some (.lst ys) ∧ DtAll H' ys ((toksF t 0).map tokD) := fun km => ⟨km.k r _ hr1 hr2 (fun ps z => by cases z), dv.tk (km.tk a1.isLst)⟩
  refine ⟨r, rfl, ⟨_, SqL.of hr2⟩, fun i m σ H' => ∃ (cf : Cf) (y1 y2 y3 : Option V), σ = [some (.ref R.a), y1, y2, y3] ∧ RS C PN PD (R.M ps) H2 R t H' cf.st cf.fm cf.ss ∧ Bd i cf.st cf.fm cf.ss ∧ i ≤ (toksF t 0).length ∧ runM t ⟨[], [], []⟩ (toksF t 0) = runM t cf ((toksF t 0).drop i) ∧ m = (toksF t 0).length - i,
    ⟨_, ⟨[], [], []⟩, none, none, none, rfl, RS.here a1 T2, ⟨Nat.zero_le _, Nat.zero_le _, Nat.zero_le _, (fun f hf => by cases hf), (fun f hf => by cases hf)⟩, Nat.zero_le _, rfl, rfl⟩, ?_⟩
  rintro i m σ H' ⟨cf, y1, y2, y3, rfl, rs, hb, hi, hrun, rfl⟩
  obtain ⟨hr', dv'⟩ := key rs.km
  by_cases hlast : i < (toksF t 0).length
  · refine .inr ⟨⟨ys, _, SqL.of hr', List.getElem?_eq_getElem (by omega)⟩, fun σ' H'' => ∃ m', m' < (toksF t 0).length - i ∧ ∃ (cf : Cf) (y1 y2 y3 : Option V), σ' = [some (.ref R.a), y1, y2, y3] ∧ RS C PN PD (R.M ps) H2 R t H'' cf.st cf.fm cf.ss ∧ Bd (i + 1) cf.st cf.fm cf.ss ∧ i + 1 ≤ (toksF t 0).length ∧ runM t ⟨[], [], []⟩ (toksF t 0) = runM t cf ((toksF t 0).drop (i + 1)) ∧ m' = (toksF t 0).length - (i + 1), fun σ' H' h => h, ?_⟩
    rintro x H'' ⟨rfl, hx⟩
    have hx := hx ys (SqL.of hr')
    obtain ⟨k, hk, dk⟩ := dv'.get_map hx
    obtain ⟨p, rfl, hp⟩ := tok_of dk
    have tok := toks_ok t.length (a := 0) (by omega) k (List.mem_of_getElem? hk)
    have hdrop : (toksF t 0).drop i = k :: (toksF t 0).drop (i + 1) := by
      obtain ⟨hk1, hk2⟩ := List.getElem?_eq_some_iff.mp hk
      rw [List.drop_eq_getElem_cons hk1, hk2]
    rw [hdrop] at hrun
    refine ⟨p, _, rfl, SqT.of hp, rfl, ?_⟩
    dsimp only [gCons, gName, gNil]
    refine ⟨_, _, rfl, _, _, rfl, _, _, rfl, rfl, ?_⟩
    obtain ⟨ps3, b1, b2⟩ := rs.ex
    refine ⟨_, rfl, R.a, R.dx, _, rfl, b1.ins, rfl, _, rfl, _, rfl, _, rfl, R.M ps, H2, R, t, cf, i, k, rfl, rs, hb, by omega, ok, by omega, tok, fun cf' hs H3 r3 => ?_, fun b hs d H3 sm e => ?_⟩
    · refine ⟨_, ?_, cf', _, _, _, rfl, r3, bd_step hb hs, hlast, ?_, rfl⟩
      · omega
      · rw [hrun, runM_cons, hs]
    · refine q2 b ?_ d H3 ?_ (rs.tt.same sm) e
      · rw [hrun, runM_cons, hs]
      · have kk := rs.km.kt (.same sm)
        exact (RS.comp (st := cf.st) (fm := cf.fm) (ss := cf.ss) (fun b hb => h2 b hb) kmA ⟨⟨ps3, b1.kt (.same sm), b2⟩, kk, rs.tt.same sm⟩).km
  · rw [show (toksF t 0).drop i = [] from List.drop_eq_nil_of_le (by omega)] at hrun
    rw [hrun] at q1 q2
    dsimp only [runM] at q1 q2
    refine .inl ⟨⟨ys, SqL.of hr', by omega⟩, ?_⟩
    obtain ⟨ps3, b1, b2⟩ := id rs.ex
    obtain ⟨xs, c5, c6⟩ := b1.st
    refine ⟨_, rfl, R.a, C, R.dx, _, _, rfl, b1.ins, T.cl, T.nO, rfl, _, .inl ⟨_, SqL.of c5, rfl⟩, ?_⟩
    have rs' := RS.comp h2 kmA rs
    obtain ⟨st, fm, ss⟩ := cf
    cases st with
    | nil =>
      obtain ⟨rfl, rfl⟩ := c6.nil
      exact iteF (q1 fm ss rfl H' rs')
    | cons f rr =>
      obtain ⟨b, xs', p, ps', ys', rfl, rfl, _⟩ := c6.cons
      refine iteTr (by simp) ?_
      refine ⟨_, rfl, R.a, C, R.dx, _, _, rfl, b1.ins, T.cl, T.nS, rfl, S t, rfl, hz, ?_⟩
      rw [len_S]
      refine ⟨by show 1 ≤ 1000; decide, fun a na => ?_⟩
      exact raise_at (n := t.length) (by omega) (fun d H'' k e => q2 t.length rfl d H'' (rs'.km.kt (.same k)) (rs'.tt.same k) e) na
end
end W4
set_option Elab.async false
set_option linter.all false
set_option maxRecDepth 100000
set_option maxHeartbeats 4000000
namespace W4
open PySem PySem.Spec PyProof.Rows L2 Com SX GxR
section
variable {P : Program} {w : World} {K : PySem.W.Frag} {mg : Str → Option Value} {base : Heap} {C CE CW fI fR pS PN PD : Addr}
/-! Reader.__init__ -/
def spInit (C : Addr) : Sp := fun vs H Q _ => ∃ (a dx : Addr) (t : T), vs = [.ref a, .str (S t)] ∧ H a = some (.ins C dx []) ∧
  ∀ (R : Rdr) (H' : Hp), R.a = a → R.dx = dx → RdAt C R t H' [] [] [] [] → (∀ b o, b ≠ a → H b = some o → H' b = some o) → H R.fa = none → H R.sa = none → H R.oa = none → Q .non H'
theorem ok_init {fd : FuncData} (F : Fun K "__init__" "Reader.__init__" st_Reader___init__ fR fd) (T : ReT w K mg C CE CW fI fR pS) : FnOk P w K mg base CX0 1 fR fd ["self", "text"] (spInit C) := by
  refine F.ok scReader___init__ (fun vs H Q E h => ?_) (fun cdv A outer s H vs Q E hr h => ?_)
  · obtain ⟨a, dx, t, rfl, _⟩ := h
    rfl
  obtain ⟨a, dx, t, rfl, ha, q⟩ := h
  refine ⟨_, (pss_cons (ps_fld (pv 0) (pv 1) rfl)
      (pss_cons (ps_fld (pv 0) (pe_lst pa_nil) rfl)
      (pss_cons (ps_fld (pv 0) (pe_lst pa_nil) rfl)
      (pss_one (ps_fld (pv 0) (pe_lst pa_nil) rfl))))), ?_⟩
  refine ⟨_, rfl, _, rfl, a, C, dx, _, rfl, ha, T.cl, T.nS, by show 0 < 1000; decide, ?_⟩
  have i1 := upd_same (H := H) (a := a) (o := .ins C dx (putF "source" (.str (S t)) []))
  have k1 : ∀ b o, b ≠ a → H b = some o → L2.upd H a (.ins C dx (putF "source" (.str (S t)) [])) b = some o := fun b o n e => by rw [upd_ne n]; exact e
  have n1 : ∀ b, L2.upd H a (.ins C dx (putF "source" (.str (S t)) [])) b = none → b ≠ a ∧ H b = none := fun b e => by
    have : b ≠ a := fun z => by rw [z, upd_same] at e; cases e
    exact ⟨this, by rw [upd_ne this] at e; exact e⟩
  generalize L2.upd H a (.ins C dx (putF "source" (.str (S t)) [])) = H1 at i1 k1 n1 ⊢
  refine ⟨Nat.zero_le _, fun fa nfa => ⟨_, rfl, a, C, dx, _, rfl, by rw [upd_ne (Ne.symm (n1 fa nfa).1)]; exact i1, T.cl, T.nF, by show 1 < 1000; decide, ?_⟩⟩
  have hfa := n1 fa nfa
  have i2 := upd_same (H := L2.upd H1 fa (.lst [])) (a := a) (o := .ins C dx (putF "forms" (.ref fa) (putF "source" (.str (S t)) [])))
  have f2 : L2.upd (L2.upd H1 fa (.lst [])) a (.ins C dx (putF "forms" (.ref fa) (putF "source" (.str (S t)) []))) fa = some (.lst []) := by rw [upd_ne hfa.1, upd_same]
  have k2 : ∀ b o, b ≠ a → H b = some o → L2.upd (L2.upd H1 fa (.lst [])) a (.ins C dx (putF "forms" (.ref fa) (putF "source" (.str (S t)) []))) b = some o := fun b o n e => by
    rw [upd_ne n, upd_ne (fun z => by rw [z, hfa.2] at e; cases e)]
    exact k1 b o n e
  have n2 : ∀ b, L2.upd (L2.upd H1 fa (.lst [])) a (.ins C dx (putF "forms" (.ref fa) (putF "source" (.str (S t)) []))) b = none → b ≠ a ∧ b ≠ fa ∧ H b = none := fun b e => by
    have m1 : b ≠ a := fun z => by rw [z, upd_same] at e; cases e
    rw [upd_ne m1] at e
    have m2 : b ≠ fa := fun z => by rw [z, upd_same] at e; cases e
    rw [upd_ne m2] at e
    exact ⟨m1, m2, (n1 b e).2⟩
  generalize L2.upd (L2.upd H1 fa (.lst [])) a (.ins C dx (putF "forms" (.ref fa) (putF "source" (.str (S t)) []))) = H2 at i2 f2 k2 n2 ⊢
  refine ⟨Nat.zero_le _, fun sa nsa => ⟨_, rfl, a, C, dx, _, rfl, by rw [upd_ne (Ne.symm (n2 sa nsa).1)]; exact i2, T.cl, T.nT, by show 2 < 1000; decide, ?_⟩⟩
  have hsa := n2 sa nsa
  have i3 := upd_same (H := L2.upd H2 sa (.lst [])) (a := a) (o := .ins C dx (putF "starts" (.ref sa) (putF "forms" (.ref fa) (putF "source" (.str (S t)) []))))
  have s3 : L2.upd (L2.upd H2 sa (.lst [])) a (.ins C dx (putF "starts" (.ref sa) (putF "forms" (.ref fa) (putF "source" (.str (S t)) [])))) sa = some (.lst []) := by rw [upd_ne hsa.1, upd_same]
  have f3 : L2.upd (L2.upd H2 sa (.lst [])) a (.ins C dx (putF "starts" (.ref sa) (putF "forms" (.ref fa) (putF "source" (.str (S t)) [])))) fa = some (.lst []) := by rw [upd_ne hfa.1, upd_ne (Ne.symm hsa.2.1)]; exact f2
  have k3 : ∀ b o, b ≠ a → H b = some o → L2.upd (L2.upd H2 sa (.lst [])) a (.ins C dx (putF "starts" (.ref sa) (putF "forms" (.ref fa) (putF "source" (.str (S t)) [])))) b = some o := fun b o n e => by
    rw [upd_ne n, upd_ne (fun z => by rw [z, hsa.2.2] at e; cases e)]
    exact k2 b o n e
  have n3 : ∀ b, L2.upd (L2.upd H2 sa (.lst [])) a (.ins C dx (putF "starts" (.ref sa) (putF "forms" (.ref fa) (putF "source" (.str (S t)) [])))) b = none → b ≠ a ∧ b ≠ fa ∧ b ≠ sa ∧ H b = none := fun b e => by
    have m1 : b ≠ a := fun z => by rw [z, upd_same] at e; cases e
    rw [upd_ne m1] at e
    have m2 : b ≠ sa := fun z => by rw [z, upd_same] at e; cases e
    rw [upd_ne m2] at e
    have := n2 b e
    exact ⟨m1, this.2.1, m2, this.2.2⟩
  generalize L2.upd (L2.upd H2 sa (.lst [])) a (.ins C dx (putF "starts" (.ref sa) (putF "forms" (.ref fa) (putF "source" (.str (S t)) [])))) = H3 at i3 s3 f3 k3 n3 ⊢
  refine ⟨Nat.zero_le _, fun oa noa => ⟨_, rfl, a, C, dx, _, rfl, by rw [upd_ne (Ne.symm (n3 oa noa).1)]; exact i3, T.cl, T.nO, by show 3 < 1000; decide, ?_⟩⟩
  have hoa := n3 oa noa
  refine q ⟨a, dx, fa, sa, oa⟩ _ rfl rfl ⟨upd_same, ⟨[], ?_, .nil⟩, ?_, ⟨[], ?_, True.intro⟩, ?_⟩ (fun b o n e => ?_) hfa.2 hsa.2.2 hoa.2.2.2
  · rw [upd_ne hfa.1, upd_ne (Ne.symm hoa.2.1)]; exact f3
  · rw [upd_ne hsa.1, upd_ne (Ne.symm hoa.2.2.1)]; exact s3
  · rw [upd_ne hoa.1, upd_same]; rfl
  · unfold Rdr.M
    simp only [List.nodup_cons, List.mem_cons, not_or, List.not_mem_nil, not_false_eq_true, and_true, List.nodup_nil]
    exact ⟨⟨Ne.symm hsa.2.1, Ne.symm hoa.2.1⟩, Ne.symm hoa.2.2.1⟩
  · rw [upd_ne n, upd_ne (fun z => by rw [z, hoa.2.2.2] at e; cases e)]
    exact k3 b o n e
/-! read, offsets -/
def spRead (CE PN PD : Addr) : Sp := fun vs H Q E => ∃ t : T, vs = [.str (S t)] ∧ Ok t ∧ TT PN PD H ∧ (∀ fm ss, readM t = .ok (fm, ss) → ∀ r H', KT H H' → TT PN PD H' → Dt H' (.ref r) (.tuple fm) → Q (.ref r) H') ∧
  (∀ b, readM t = .error b → ∀ d H', KT H H' → TT PN PD H' → H' d = some (atX b) → E (.ref CE) (some d) H')
def spOffs (CE PN PD : Addr) : Sp := fun vs H Q E => ∃ t : T, vs = [.str (S t)] ∧ Ok t ∧ TT PN PD H ∧ (∀ fm ss, readM t = .ok (fm, ss) → ∀ r H', KT H H' → TT PN PD H' → H r = none → H' r = some (.lst (ss.map fun n => V.int (n : Nat))) → Q (.ref r) H') ∧
  (∀ b, readM t = .error b → ∀ d H', KT H H' → TT PN PD H' → H' d = some (atX b) → E (.ref CE) (some d) H')
theorem made {H H' : Hp} {x dx : Addr} (nx : H x = none) (nd : H dx = none) (k : ∀ b o, b ≠ x → L2.upd (L2.upd H dx (.own x)) x (.ins C dx []) b = some o → H' b = some o) : KT H H' := by
  refine .same fun b o e => k b o ?_ ?_
  · intro z
    rw [z, nx] at e
    cases e
  · rw [upd_ne (fun z => by rw [z, nx] at e; cases e), upd_ne (fun z => by rw [z, nd] at e; cases e)]
    exact e
theorem Same.of_made {H H' : Hp} {x dx : Addr} (nx : H x = none) (nd : H dx = none) (k : ∀ b o, b ≠ x → L2.upd (L2.upd H dx (.own x)) x (.ins C dx []) b = some o → H' b = some o) : Same H H' := fun b o e => k b o (fun z => by rw [z, nx] at e; cases e) (by
  rw [upd_ne (fun z => by rw [z, nx] at e; cases e), upd_ne (fun z => by rw [z, nd] at e; cases e)]
  exact e)
theorem nn_made {H : Hp} {x dx b : Addr} (n : L2.upd (L2.upd H dx (.own x)) x (.ins C dx []) b = none) : H b = none := by
  have h1 : b ≠ x := fun z => by rw [z, upd_same] at n; cases n
  rw [upd_ne h1] at n
  have h2 : b ≠ dx := fun z => by rw [z, upd_same] at n; cases n
  rw [upd_ne h2] at n
  exact n
theorem readM_len {t : T} {fm : List PyData} {ss : List Nat} (h : readM t = .ok (fm, ss)) : fm.length ≤ 6000 ∧ ss.length ≤ 12000 := by
  unfold readM at h
  split at h
  · cases h
  rename_i hl
  have key : ∀ (ks : List Tok) (cf cf' : Cf) (n : Nat), Bd n cf.st cf.fm cf.ss → runM t cf ks = .ok cf' → Bd (n + ks.length) cf'.st cf'.fm cf'.ss := by
    intro ks
    induction ks with
    | nil =>
      intro cf cf' n hb e
      obtain rfl := Except.ok.inj e
      exact hb
    | cons k ks ih =>
      intro cf cf' n hb e
      rw [runM_cons] at e
      cases hs : step t cf k with
      | error b =>
        rw [hs] at e
        cases e
      | ok c2 =>
        rw [hs] at e
        have := ih c2 cf' (n + 1) (bd_step hb hs) e
        rw [List.length_cons, show n + (ks.length + 1) = n + 1 + ks.length by omega]
        exact this
  have hl6 : (toksF t 0).length ≤ 6000 := by
    have := toksF_len (t := t) t.length (a := 0) (by omega)
    omega
  cases hr : runM t ⟨[], [], []⟩ (toksF t 0) with
  | error b =>
    rw [hr] at h
    cases h
  | ok cf =>
    rw [hr] at h
    dsimp only at h
    have hb := key _ _ cf 0 ⟨Nat.zero_le _, Nat.zero_le _, Nat.zero_le _, (fun f hf => by cases hf), (fun f hf => by cases hf)⟩ hr
    split at h
    · have := Except.ok.inj h
      obtain ⟨rfl, rfl⟩ := Prod.mk.inj this
      have h1 := hb.bf
      have h2 := hb.bs
      exact ⟨by omega, by omega⟩
    · cases h
theorem ok_read {f : Addr} {fd fdR : FuncData} (F : Dfn K mg "read" st_read f fd ["text"]) (M : Mg mg) (T : ReT w K mg C CE CW fI fR pS) (bI : Binds K fdR ["self", "text"] []) (GI : FnOk P w K mg base CX0 1 fR fdR ["self", "text"] (spInit C))
    (Gread_all : CalM (L2.CX P w) P w K mg base 7 C "read_all" (spAll C CE PN PD)) : CalX P w K mg base 8 "read" (spRead CE PN PD) := by
  refine cal_mkX F scread (fun vs H Q E h => ?_) (fun cdv A outer s H vs Q E hr h => ?_)
  · obtain ⟨t, rfl, _⟩ := h
    rfl
  obtain ⟨t, rfl, ok, hT, q1, q2⟩ := h
  refine ⟨_, (pss_cons (ps_set (i := 1) scread.nd rfl (.inl rfl) (pe_make T.mkR GI (hr.mono (by omega)) (by rfl) T.mgC bI .nil L2.pass0 (pa_cons (pv 0) pa_nil)))
      (pss_cons (ps_expr (pe_m0c (pv 1) T.cl Gread_all hr (by omega) (passes_call (takes_of rfl rfl rfl rfl) fun _ _ _ _ h => h)))
      (pss_one (ps_ret (pe_callTy (cTup K rfl) (by rfl) M.tuple b_tuple (pa_cons (pe_fld (pv 1) rfl) pa_nil)))))), ?_⟩
  refine ⟨_, rfl, fun x dx nx nd hne => ⟨x, dx, t, rfl, upd_same, fun R H1 ea edx ra k1 n1 n2 n3 => ⟨rfl, ?_⟩⟩⟩
  have kt1 := made nx nd k1
  have nx' : H R.a = none := by rw [ea]; exact nx
  have rs : RS C PN PD [] H R t H1 [] [] [] := by
    refine ⟨⟨[], ra, fun b hb => .inr ?_⟩, .of kt1, hT.same (Same.of_made nx nd k1)⟩
    unfold Rdr.M at hb
    simp only [List.mem_cons, List.not_mem_nil, or_false] at hb
    rcases hb with rfl | rfl | rfl
    · exact nn_made n1
    · exact nn_made n2
    · exact nn_made n3
  subst ea
  dsimp only [gName]
  refine ⟨_, rfl, R.a, R.dx, _, rfl, ra.ins, rfl, [], H, R, t, rfl, rs, ok, fun fm ss e H2 r2 => ?_, fun b e d H2 km tt ed => q2 b e d H2 km.kt' tt ed⟩
  obtain ⟨⟨ps, b1, b2⟩, km, tt⟩ := r2
  have kt2 := km.kt'
  obtain ⟨xs, f1, f2⟩ := b1.fm
  refine ⟨_, rfl, R.a, C, R.dx, _, _, rfl, b1.ins, T.cl, T.nF, rfl, R.fa, xs, rfl, .inl ⟨SqL.of f1, fun l nl => ?_⟩⟩
  have k3 := KT.new (o := .tup xs) nl
  exact q1 fm ss e l _ (kt2.trans k3) (tt.new nl) (.tup upd_same (f2.tk k3.tk))
theorem ok_offsets {f : Addr} {fd fdR : FuncData} (F : Dfn K mg "offsets" st_offsets f fd ["text"]) (M : Mg mg) (T : ReT w K mg C CE CW fI fR pS) (bI : Binds K fdR ["self", "text"] []) (GI : FnOk P w K mg base CX0 1 fR fdR ["self", "text"] (spInit C))
    (Gread_all : CalM (L2.CX P w) P w K mg base 7 C "read_all" (spAll C CE PN PD)) : CalX P w K mg base 8 "offsets" (spOffs CE PN PD) := by
  refine cal_mkX F scoffsets (fun vs H Q E h => ?_) (fun cdv A outer s H vs Q E hr h => ?_)
  · obtain ⟨t, rfl, _⟩ := h
    rfl
  obtain ⟨t, rfl, ok, hT, q1, q2⟩ := h
  refine ⟨_, (pss_cons (ps_set (i := 1) scoffsets.nd rfl (.inl rfl) (pe_make T.mkR GI (hr.mono (by omega)) (by rfl) T.mgC bI .nil L2.pass0 (pa_cons (pv 0) pa_nil)))
      (pss_cons (ps_expr (pe_m0c (pv 1) T.cl Gread_all hr (by omega) (passes_call (takes_of rfl rfl rfl rfl) fun _ _ _ _ h => h)))
      (pss_one (ps_ret (pe_callTy (cList K rfl) (by rfl) M.list b_list (pa_cons (pe_fld (pv 1) rfl) pa_nil)))))), ?_⟩
  refine ⟨_, rfl, fun x dx nx nd hne => ⟨x, dx, t, rfl, upd_same, fun R H1 ea edx ra k1 n1 n2 n3 => ⟨rfl, ?_⟩⟩⟩
  have kt1 := made nx nd k1
  have nx' : H R.a = none := by rw [ea]; exact nx
  have rs : RS C PN PD [] H R t H1 [] [] [] := by
    refine ⟨⟨[], ra, fun b hb => .inr ?_⟩, .of kt1, hT.same (Same.of_made nx nd k1)⟩
    unfold Rdr.M at hb
    simp only [List.mem_cons, List.not_mem_nil, or_false] at hb
    rcases hb with rfl | rfl | rfl
    · exact nn_made n1
    · exact nn_made n2
    · exact nn_made n3
  subst ea
  dsimp only [gName]
  refine ⟨_, rfl, R.a, R.dx, _, rfl, ra.ins, rfl, [], H, R, t, rfl, rs, ok, fun fm ss e H2 r2 => ?_, fun b e d H2 km tt ed => q2 b e d H2 km.kt' tt ed⟩
  obtain ⟨⟨ps, b1, b2⟩, km, tt⟩ := r2
  have kt2 := km.kt'
  refine ⟨_, rfl, R.a, C, R.dx, _, _, rfl, b1.ins, T.cl, T.nT, rfl, R.sa, _, rfl, .inl (SqL.of b1.ss), fun l nl => ?_⟩
  have k3 := KT.new (o := .lst (ss.map fun n => V.int (n : Nat))) nl
  exact q1 fm ss e l _ (kt2.trans k3) (tt.new nl) (kt2.nn nl) upd_same
end
end W4
set_option Elab.async false
set_option linter.all false
set_option maxRecDepth 100000
set_option maxHeartbeats 4000000
namespace W4
open PySem PySem.Spec PyProof.Rows L2 Com SX
/-! what stands in a text -/
def At (t : T) (a : Nat) (x : T) : Prop := ∃ r, t.drop a = x ++ r
theorem At.app {t : T} {a : Nat} {x y : T} : At t a (x ++ y) ↔ At t a x ∧ At t (a + x.length) y := by
  constructor
  · rintro ⟨r, h⟩
    refine ⟨⟨y ++ r, by rw [h, List.append_assoc]⟩, ⟨r, ?_⟩⟩
    rw [← List.drop_drop, h, List.append_assoc, List.drop_left]
  · rintro ⟨⟨r, h⟩, ⟨r', h'⟩⟩
    refine ⟨r', ?_⟩
    rw [← List.drop_drop, h, List.drop_left] at h'
    rw [h, h', List.append_assoc]
theorem At.get {t : T} {a : Nat} {x : T} (h : At t a x) {i : Nat} (hi : i < x.length) : t[a + i]? = x[i]? := by
  obtain ⟨r, h⟩ := h
  rw [← List.getElem?_drop, h, List.getElem?_append_left hi]
theorem At.head {t : T} {a c : Nat} {x : T} (h : At t a (c :: x)) : t[a]? = some c := by
  have := h.get (i := 0) (by simp)
  simpa using this
theorem At.tail {t : T} {a c : Nat} {x : T} (h : At t a (c :: x)) : At t (a + 1) x := (At.app (x := [c]).mp h).2
theorem At.le {t : T} {a : Nat} {x : T} (h : At t a x) (hx : x ≠ []) : a + x.length ≤ t.length := by
  obtain ⟨r, h⟩ := h
  have e := congrArg List.length h
  rw [List.length_drop, List.length_append] at e
  have := List.length_pos_iff.mpr hx
  omega
theorem At.wrd {t : T} {a : Nat} {x : T} (h : At t a x) : wrd t a (a + x.length) = x := by
  obtain ⟨r, h⟩ := h
  unfold W4.wrd
  rw [h, Nat.add_sub_cancel_left, List.take_left]
/-- the text ends here, or a sign that p does not hold of stands here -/
def Stop (p : Nat → Bool) (t : T) (b : Nat) : Prop := t[b]? = none ∨ ∃ c, t[b]? = some c ∧ p c = false
theorem runE_seg {p : Nat → Bool} {t : T} : ∀ {x : T} {a : Nat}, At t a x → (∀ c ∈ x, p c = true) → Stop p t (a + x.length) → runE p t a = a + x.length
  | [], a, h, hp, hs => by
    rcases hs with e | ⟨c, e, hc⟩
    · exact runE_end (List.getElem?_eq_none_iff.mp e)
    · exact runE_stop e hc
  | c :: x, a, h, hp, hs => by
    rw [runE_step h.head (hp c List.mem_cons_self), runE_seg h.tail (fun d hd => hp d (List.mem_cons_of_mem _ hd)) (by rw [List.length_cons, show a + (x.length + 1) = a + 1 + x.length by omega] at hs; exact hs), List.length_cons]
    omega
/-! blanks and remarks -/
inductive Gap (t : T) : Nat → Nat → Prop where
  | nil {a : Nat} : Gap t a a
  | bl {a b c : Nat} : t[a]? = some c → (c = 32 ∨ c = 10) → Gap t (a + 1) b → Gap t a b
  | rem {a b : Nat} {x : T} : At t a (59 :: x ++ [10]) → (∀ c ∈ x, c ≠ 10) → Gap t (a + x.length + 2) b → Gap t a b
theorem Gap.toks {t : T} {a b : Nat} (h : Gap t a b) : toksF t a = toksF t b := by
  induction h with
  | nil => rfl
  | bl e hc _ ih => rw [toksF_blank e hc, ih]
  | @rem a b x e hx _ ih =>
    have e1 : At t a (59 :: x) := (At.app.mp e).1
    have e2 := (At.app.mp e).2
    have h10 : t[a + (x.length + 1)]? = some 10 := e2.head
    have hr : runE noL t a = a + (x.length + 1) := by
      have := runE_seg (p := noL) e1 (fun c hc => by
        rcases List.mem_cons.mp hc with rfl | hc
        · rfl
        · unfold noL
          rw [decide_eq_false (hx c hc)]
          rfl) (.inr ⟨10, h10, rfl⟩)
      exact this
    rw [toksF_rem e1.head, hr, toksF_blank h10 (.inr rfl), ← ih]
    rfl
theorem Gap.trans {t : T} {a b c : Nat} (h : Gap t a b) (k : Gap t b c) : Gap t a c := by
  induction h with
  | nil => exact k
  | bl e hc _ ih => exact .bl e hc (ih k)
  | rem e hx _ ih => exact .rem e hx (ih k)
/-! tokens -/
theorem tok_sign {t : T} {a c : Nat} (h : t[a]? = some c) (hc : c = 40 ∨ c = 41 ∨ c = 39) : toksF t a = (("sign" : Str), a, a + 1) :: toksF t (a + 1) := by
  have e : tokA t a c = (("sign" : Str), a + 1) := by unfold tokA; rw [if_pos hc]
  rw [toksF_tok h (by omega) (by omega), e]
theorem tok_syn {t : T} {a : Nat} (h : At t a [35, 39]) : toksF t a = (("sign" : Str), a, a + 2) :: toksF t (a + 2) := by
  have h1 : At t a [35] := (At.app (x := [35]) (y := [39]).mp h).1
  have h2 : t[a + 1]? = some 39 := h.tail.head
  have hr : runE noE t a = a + 1 := runE_seg (x := [35]) h1 (fun c hc => by rw [List.mem_singleton.mp hc]; decide) (.inr ⟨39, h2, by decide⟩)
  have hw : wrd t a (a + 1) = [35] := h1.wrd
  have e : tokA t a 35 = (("sign" : Str), a + 2) := by
    unfold tokA
    rw [if_neg (by decide), if_neg (by decide), hr, hw, if_pos ⟨rfl, h2⟩]
  rw [toksF_tok h1.head (by decide) (by decide), e]
theorem tok_str {t : T} {a : Nat} {x : T} (h : At t a (34 :: (x ++ [34]))) (hx : ∀ c ∈ x, noQ c = true) (hl : x.length ≤ 100) : toksF t a = (("string" : Str), a, a + (x.length + 2)) :: toksF t (a + (x.length + 2)) := by
  have h1 := At.app.mp h.tail
  have h34 : t[a + 1 + x.length]? = some 34 := h1.2.head
  have hr : runE noQ t (a + 1) = a + 1 + x.length := runE_seg h1.1 hx (.inr ⟨34, h34, rfl⟩)
  have e : tokA t a 34 = (("string" : Str), a + (x.length + 2)) := by
    unfold tokA
    rw [if_neg (by decide), if_pos rfl, hr, if_pos h34, if_pos (by omega)]
    rw [show a + 1 + x.length + 1 = a + (x.length + 2) by omega]
  rw [toksF_tok h.head (by decide) (by decide), e]
theorem tok_word {t : T} {a : Nat} {w : T} (h : At t a w) (hne : w ≠ []) (hw : ∀ c ∈ w, noE c = true) (hs : Stop noE t (a + w.length)) (h35 : w ≠ [35]) : toksF t a = (sortW w, a, a + w.length) :: toksF t (a + w.length) := by
  obtain ⟨c, r, rfl⟩ := List.exists_cons_of_ne_nil hne
  have hr := runE_seg h hw hs
  have hc := hw c List.mem_cons_self
  have nc : ¬ (c = 32 ∨ c = 10 ∨ c = 40 ∨ c = 41 ∨ c = 39 ∨ c = 34 ∨ c = 59) := by
    intro z
    unfold noE endC at hc
    simp only [List.mem_cons, List.not_mem_nil, or_false] at hc
    rw [decide_eq_true z] at hc
    cases hc
  have e : tokA t a c = (sortW (c :: r), a + (c :: r).length) := by
    unfold tokA
    rw [if_neg (by omega), if_neg (by omega), hr, h.wrd, if_neg (fun z => h35 z.1)]
  rw [toksF_tok h.head (by omega) (by omega), e]
end W4
set_option Elab.async false
set_option linter.all false
set_option maxRecDepth 100000
set_option maxHeartbeats 4000000
namespace W4
open PySem PySem.Spec PyProof.Rows L2 Com SX
/-! trees, as the law draws them -/
inductive Tr where
  | nam (w : T)
  | num (w : T)
  | flg (b : Bool)
  | txt (w : T)
  | dots
  | wild
  | lst (l : List Tr)
def Tr.aw : Tr → T
  | .nam w => w
  | .num w => w
  | .flg b => if b then [35, 116] else [35, 102]
  | .txt w => 34 :: (w ++ [34])
  | .dots => [46, 46, 46]
  | .wild => [95]
  | .lst _ => []
def Tr.srt : Tr → Str
  | .nam _ => "name"
  | .num _ => "number"
  | .flg _ => "flag"
  | .txt _ => "string"
  | .dots => "dots"
  | .wild => "wild"
  | .lst _ => "list"
mutual
def szT : Tr → Nat
  | .lst l => 1 + szL l
  | .nam _ | .num _ | .flg _ | .txt _ | .dots | .wild => 1
def szL : List Tr → Nat
  | [] => 0
  | x :: l => szT x + szL l
end
mutual
def dpT : Tr → Nat
  | .lst l => 1 + dpL l
  | .nam _ | .num _ | .flg _ | .txt _ | .dots | .wild => 0
def dpL : List Tr → Nat
  | [] => 0
  | x :: l => max (dpT x) (dpL l)
end
mutual
def plT : Tr → Nat → PyData
  | .lst l, n => lstD (plL l (n + 1)) n
  | .nam w, n => atomD "name" w n
  | .num w, n => atomD "number" w n
  | .flg b, n => atomD "flag" (Tr.flg b).aw n
  | .txt w, n => atomD "string" (Tr.txt w).aw n
  | .dots, n => atomD "dots" [46, 46, 46] n
  | .wild, n => atomD "wild" [95] n
def plL : List Tr → Nat → List PyData
  | [], _ => []
  | x :: l, n => plT x n :: plL l (n + szT x)
end
mutual
def okT : Tr → Prop
  | .nam w => sortW w = "name"
  | .num w => isNum w = true
  | .txt w => w.length ≤ 100 ∧ ∀ c ∈ w, noQ c = true
  | .lst l => okL l
  | .flg _ | .dots | .wild => True
def okL : List Tr → Prop
  | [] => True
  | x :: l => okT x ∧ okL l
end
def isL : Tr → Bool
  | .lst _ => true
  | _ => false
theorem plT_atom {x : Tr} (h : isL x = false) (n : Nat) : plT x n = atomD x.srt x.aw n := by
  cases x <;> first | rfl | cases h
theorem szT_atom {x : Tr} (h : isL x = false) : szT x = 1 := by
  cases x <;> first | rfl | cases h
theorem nam_noE {w : T} (h : isNam w = true) : w ≠ [] ∧ (∀ c ∈ w, noE c = true) ∧ w ≠ [35] := by
  unfold isNam at h
  simp only [Bool.and_eq_true, decide_eq_true_eq, List.all_eq_true] at h
  obtain ⟨⟨⟨⟨⟨h1, _⟩, _⟩, _⟩, _⟩, h6⟩ := h
  refine ⟨fun z => by rw [z] at h1; simp at h1, fun c hc => ?_, fun z => ?_⟩
  · have := h6 c hc
    unfold isN namC at this
    unfold noE endC
    simp only [List.mem_cons, List.not_mem_nil, or_false, decide_eq_true_eq] at this ⊢
    have hn : ¬ (c = 32 ∨ c = 10 ∨ c = 40 ∨ c = 41 ∨ c = 39 ∨ c = 34 ∨ c = 59) := by omega
    simp [hn]
  · rw [z] at h6
    have := h6 35 List.mem_cons_self
    exact absurd this (by decide)
theorem sort_nam {w : T} (h : sortW w = "name") : isNam w = true := by
  unfold sortW at h
  split at h
  · exact absurd h (by decide +kernel)
  split at h
  · exact absurd h (by decide +kernel)
  split at h
  · exact absurd h (by decide +kernel)
  split at h
  · exact absurd h (by decide +kernel)
  split at h
  · assumption
  · exact absurd h (by decide +kernel)
theorem num_noE {w : T} (h : isNum w = true) : w ≠ [] ∧ (∀ c ∈ w, noE c = true) ∧ w ≠ [35] ∧ sortW w = "number" := by
  have key : ∀ c, isD c = true → noE c = true ∧ c ≠ 35 ∧ c ≠ 46 ∧ c ≠ 95 := fun c hc => by
    unfold isD digC at hc
    simp only [List.mem_cons, List.not_mem_nil, or_false, decide_eq_true_eq] at hc
    refine ⟨?_, by omega, by omega, by omega⟩
    unfold noE endC
    simp only [List.mem_cons, List.not_mem_nil, or_false]
    have hn : ¬ (c = 32 ∨ c = 10 ∨ c = 40 ∨ c = 41 ∨ c = 39 ∨ c = 34 ∨ c = 59) := by omega
    simp [hn]
  have h0 := h
  unfold isNum at h
  rw [Bool.or_eq_true, decide_eq_true_iff] at h
  have hall : w ≠ [] ∧ (∀ c ∈ w, noE c = true) ∧ ∃ c r, w = c :: r ∧ (c = 45 ∨ isD c = true) ∧ (c = 45 → r ≠ []) := by
    rcases h with h | h
    · subst h
      exact ⟨by decide, (fun c hc => by rw [List.mem_singleton.mp hc]; decide), 48, [], rfl, .inr (by decide), fun z => absurd z (by decide)⟩
    · simp only [Bool.and_eq_true, decide_eq_true_eq, List.all_eq_true] at h
      obtain ⟨⟨⟨h1, _⟩, _⟩, h4⟩ := h
      cases w with
      | nil => exact absurd h1 (by decide)
      | cons c r =>
        by_cases hc : c = 45
        · subst hc
          have eb : body (45 :: r) = r := rfl
          rw [eb] at h4 h1
          refine ⟨by simp, fun d hd => ?_, 45, r, rfl, .inl rfl, fun _ z => by rw [z] at h1; simp at h1⟩
          rcases List.mem_cons.mp hd with rfl | hd
          · decide
          · exact (key d (h4 d hd)).1
        · have eb : body (c :: r) = c :: r := by
            unfold body
            rw [if_neg (show ¬ (c :: r).head? = some 45 from fun e => hc (Option.some.inj e))]
          rw [eb] at h4
          exact ⟨by simp, fun d hd => (key d (h4 d hd)).1, c, r, rfl, .inr (h4 c List.mem_cons_self), fun z => absurd z hc⟩
  obtain ⟨h1, h2, c, r, rfl, hc, hr⟩ := hall
  have n35 : c ≠ 35 := by
    rcases hc with rfl | hc
    · decide
    · exact (key c hc).2.1
  have n46 : c ≠ 46 := by
    rcases hc with rfl | hc
    · decide
    · exact (key c hc).2.2.1
  have n95 : c ≠ 95 := by
    rcases hc with rfl | hc
    · decide
    · exact (key c hc).2.2.2
  refine ⟨h1, h2, fun z => n35 (List.cons.inj z).1, ?_⟩
  unfold sortW
  rw [if_neg (fun z => z.elim (fun y => n35 (List.cons.inj y).1) (fun y => n35 (List.cons.inj y).1)), if_neg (fun y => n46 (List.cons.inj y).1), if_neg (fun y => n95 (List.cons.inj y).1), if_pos h0]
/-- the token of an atom -/
theorem tok_atom {t : T} {a : Nat} {x : Tr} (hx : isL x = false) (ok : okT x) (h : At t a x.aw) (hs : Stop noE t (a + x.aw.length)) : toksF t a = (x.srt, a, a + x.aw.length) :: toksF t (a + x.aw.length) ∧ wrd t a (a + x.aw.length) = x.aw := by
  refine ⟨?_, h.wrd⟩
  cases x with
  | nam w =>
    have hn : sortW w = "name" := ok
    obtain ⟨h1, h2, h3⟩ := nam_noE (sort_nam hn)
    have := tok_word (w := w) h h1 h2 hs h3
    rw [hn] at this
    exact this
  | num w =>
    have hn : isNum w = true := ok
    obtain ⟨h1, h2, h3, h4⟩ := num_noE hn
    have := tok_word (w := w) h h1 h2 hs h3
    rw [h4] at this
    exact this
  | flg b =>
    cases b with
    | true => exact tok_word (w := [35, 116]) h (by decide) (by decide) hs (by decide)
    | false => exact tok_word (w := [35, 102]) h (by decide) (by decide) hs (by decide)
  | txt w =>
    obtain ⟨h1, h2⟩ := ok
    have := tok_str (x := w) h h2 h1
    have e : (Tr.txt w).aw.length = w.length + 2 := by
      show (34 :: (w ++ [34])).length = _
      rw [List.length_cons, List.length_append]
      rfl
    rw [e]
    exact this
  | dots => exact tok_word (w := [46, 46, 46]) h (by decide) (by decide) hs (by decide)
  | wild => exact tok_word (w := [95]) h (by decide) (by decide) hs (by decide)
  | lst l => cases hx
end W4
set_option Elab.async false
set_option linter.all false
set_option maxRecDepth 100000
set_option maxHeartbeats 4000000
namespace W4
open PySem PySem.Spec PyProof.Rows L2 Com SX
def quoT : T := [113, 117, 111, 116, 101]
def synT : T := [115, 121, 110, 116, 97, 120]
mutual
/-- from a to b the text holds the tree; where its data begin -/
inductive Wr (t : T) : Nat → Tr → Nat → List Nat → Prop where
  | atom {a : Nat} {x : Tr} : isL x = false → okT x → At t a x.aw → Stop noE t (a + x.aw.length) → Wr t a x (a + x.aw.length) [a]
  | quo {a b c : Nat} {x : Tr} {s : List Nat} : t[a]? = some 39 → Gap t (a + 1) c → Wr t c x b s → Wr t a (.lst [.nam quoT, x]) b (a :: a :: s)
  | syn {a b c : Nat} {x : Tr} {s : List Nat} : At t a [35, 39] → Gap t (a + 2) c → Wr t c x b s → Wr t a (.lst [.nam synT, x]) b (a :: a :: s)
  | lst {a b c : Nat} {l : List Tr} {s : List Nat} : t[a]? = some 40 → Gap t (a + 1) c → WrL t c l b s → t[b]? = some 41 → Wr t a (.lst l) (b + 1) (a :: s)
inductive WrL (t : T) : Nat → List Tr → Nat → List Nat → Prop where
  | nil {a : Nat} : WrL t a [] a []
  | cons {a b c d : Nat} {x : Tr} {l : List Tr} {s s' : List Nat} : Wr t a x b s → Gap t b c → WrL t c l d s' → WrL t a (x :: l) d (s ++ s')
end
theorem runM_app {t : T} : ∀ {ks ks' : List Tok} {cf c : Cf}, runM t cf ks = .ok c → runM t cf (ks ++ ks') = runM t c ks'
  | [], ks', cf, c, h => by
    obtain rfl := Except.ok.inj h
    rfl
  | k :: ks, ks', cf, c, h => by
    rw [show runM t cf (k :: ks) = match step t cf k with
      | .error b => .error b
      | .ok cf' => runM t cf' ks from rfl] at h
    rw [List.cons_append, show runM t cf (k :: (ks ++ ks')) = match step t cf k with
      | .error b => .error b
      | .ok cf' => runM t cf' (ks ++ ks') from rfl]
    cases hs : step t cf k with
    | error b =>
      rw [hs] at h
      cases h
    | ok cf' =>
      rw [hs] at h
      exact runM_app h
theorem runM_one {t : T} {cf c : Cf} {k : Tok} (h : step t cf k = .ok c) : runM t cf [k] = .ok c := by
  rw [show runM t cf [k] = match step t cf k with
    | .error b => .error b
    | .ok cf' => runM t cf' [] from rfl, h]
  rfl
abbrev sgK (a b : Nat) : Tok := ("sign", a, b)
theorem sign_nw : ¬ (("sign" : Str) = "wrong") := by decide +kernel
theorem srt_ns {x : Tr} (h : isL x = false) : ¬ x.srt = "wrong" ∧ ¬ x.srt = "sign" := by
  cases x with
  | nam w => exact ⟨show ¬ (("name" : Str) = "wrong") by decide +kernel, show ¬ (("name" : Str) = "sign") by decide +kernel⟩
  | num w => exact ⟨show ¬ (("number" : Str) = "wrong") by decide +kernel, show ¬ (("number" : Str) = "sign") by decide +kernel⟩
  | flg b => exact ⟨show ¬ (("flag" : Str) = "wrong") by decide +kernel, show ¬ (("flag" : Str) = "sign") by decide +kernel⟩
  | txt w => exact ⟨show ¬ (("string" : Str) = "wrong") by decide +kernel, show ¬ (("string" : Str) = "sign") by decide +kernel⟩
  | dots => exact ⟨show ¬ (("dots" : Str) = "wrong") by decide +kernel, show ¬ (("dots" : Str) = "sign") by decide +kernel⟩
  | wild => exact ⟨show ¬ (("wild" : Str) = "wrong") by decide +kernel, show ¬ (("wild" : Str) = "sign") by decide +kernel⟩
  | lst l => cases h
theorem step_open {t : T} {st : List Fr} {fm : List PyData} {ss : List Nat} {a b : Nat} (hw : wrd t a b = [40]) (h : st.length < 60) : step t ⟨st, fm, ss⟩ ("sign", a, b) = .ok ⟨⟨[40], ss.length, []⟩ :: st, fm, ss ++ [a]⟩ := by
  unfold step
  dsimp only
  rw [if_neg sign_nw, if_neg (fun z => z rfl), hw, if_neg (by decide), if_neg (by omega), if_pos rfl]
theorem step_quo {t : T} {st : List Fr} {fm : List PyData} {ss : List Nat} {a b : Nat} {w : T} (hw : wrd t a b = w) (h1 : w ≠ [41]) (h2 : w ≠ [40]) (h : st.length < 60) : step t ⟨st, fm, ss⟩ ("sign", a, b) = .ok ⟨⟨w, ss.length, [namD (sgN w) (ss.length + 1)]⟩ :: st, fm, ss ++ [a, a]⟩ := by
  unfold step
  dsimp only
  rw [if_neg sign_nw, if_neg (fun z => z rfl), hw, if_neg h1, if_neg (by omega), if_neg h2]
theorem step_close {t : T} {st : List Fr} {fm : List PyData} {ss : List Nat} {a b n : Nat} {ps : List PyData} (hw : wrd t a b = [41]) : step t ⟨⟨[40], n, ps⟩ :: st, fm, ss⟩ ("sign", a, b) = .ok (put st fm ss (lstD ps n)) := by
  unfold step
  dsimp only
  rw [if_neg sign_nw, if_neg (fun z => z rfl), hw, if_pos rfl, if_pos rfl]
theorem put_quo {w : T} {n : Nat} {ps : List PyData} {st : List Fr} {fm : List PyData} {ss : List Nat} {D : PyData} (h : w ≠ [40]) : put (⟨w, n, ps⟩ :: st) fm ss D = put st fm ss (lstD (ps.take 1 ++ [D]) n) := by
  rw [show put (⟨w, n, ps⟩ :: st) fm ss D = if w = [40] then (⟨⟨w, n, ps ++ [D]⟩ :: st, fm, ss⟩ : Cf) else put st fm ss (lstD (ps.take 1 ++ [D]) n) from rfl, if_neg h]
theorem put_open {n : Nat} {ps : List PyData} {st : List Fr} {fm : List PyData} {ss : List Nat} {D : PyData} : put (⟨[40], n, ps⟩ :: st) fm ss D = ⟨⟨[40], n, ps ++ [D]⟩ :: st, fm, ss⟩ := by
  rw [show put (⟨[40], n, ps⟩ :: st) fm ss D = if ([40] : T) = [40] then (⟨⟨[40], n, ps ++ [D]⟩ :: st, fm, ss⟩ : Cf) else put st fm ss (lstD (ps.take 1 ++ [D]) n) from rfl, if_pos rfl]
theorem sgN_quo : S quoT = sgN [39] := by decide +kernel
theorem sgN_syn : S synT = sgN [35, 39] := by decide +kernel
theorem nam_at {w : T} {n : Nat} : atomD "name" w n = namD (S w) n := by
  unfold atomD
  rw [if_neg (by decide +kernel), if_neg (by decide +kernel), if_neg (by decide +kernel), if_pos rfl]
  rfl
def RunsT (t : T) (a : Nat) (x : Tr) (b : Nat) (s : List Nat) : Prop := s.length = szT x ∧ ∀ st fm ss, st.length + dpT x ≤ 60 → ∃ ks, toksF t a = ks ++ toksF t b ∧ runM t ⟨st, fm, ss⟩ ks = .ok (put st fm (ss ++ s) (plT x ss.length))
def RunsL (t : T) (a : Nat) (l : List Tr) (b : Nat) (s : List Nat) : Prop := s.length = szL l ∧ ∀ st fm ss n ps, st.length + 1 + dpL l ≤ 60 → ∃ ks, toksF t a = ks ++ toksF t b ∧ runM t ⟨⟨[40], n, ps⟩ :: st, fm, ss⟩ ks = .ok ⟨⟨[40], n, ps ++ plL l ss.length⟩ :: st, fm, ss ++ s⟩
theorem runs_quo {t : T} {a b c : Nat} {x : Tr} {s : List Nat} {w q : T} {e : Nat} (ht : toksF t a = sgK a e :: toksF t e) (hw : wrd t a e = w) (h1 : w ≠ [41]) (h2 : w ≠ [40]) (hq : S q = sgN w) (hg : Gap t e c) (ih : RunsT t c x b s) : RunsT t a (.lst [.nam q, x]) b (a :: a :: s) := by
  obtain ⟨h3, h4⟩ := ih
  refine ⟨?_, fun st fm ss hd => ?_⟩
  · rw [List.length_cons, List.length_cons, h3]
    simp only [szT, szL]
    omega
  simp only [dpT, dpL] at hd
  obtain ⟨ks, h5, h6⟩ := h4 (⟨w, ss.length, [namD (sgN w) (ss.length + 1)]⟩ :: st) fm (ss ++ [a, a]) (by rw [List.length_cons]; omega)
  refine ⟨sgK a e :: ks, by rw [ht, hg.toks, h5]; rfl, ?_⟩
  rw [show sgK a e :: ks = [sgK a e] ++ ks from rfl, runM_app (runM_one (step_quo hw h1 h2 (by omega))), h6, put_quo h2]
  have e1 : (ss ++ [a, a]).length = ss.length + 2 := by rw [List.length_append]; rfl
  have e2 : plT (.lst [.nam q, x]) ss.length = lstD [namD (sgN w) (ss.length + 1), plT x (ss.length + 2)] ss.length := by
    simp only [plT, plL, szT]
    rw [nam_at, hq]
  rw [e1, e2, List.append_assoc]
  rfl
theorem wr_run {t : T} {a b : Nat} {x : Tr} {s : List Nat} (h : Wr t a x b s) : RunsT t a x b s := by
  refine Wr.rec (t := t) (motive_1 := fun a x b s _ => RunsT t a x b s) (motive_2 := fun a l b s _ => RunsL t a l b s) ?_ ?_ ?_ ?_ ?_ ?_ h
  · intro a x hx ok hat hs
    obtain ⟨h1, h2⟩ := tok_atom hx ok hat hs
    refine ⟨by rw [szT_atom hx]; rfl, fun st fm ss _ => ⟨[(x.srt, a, a + x.aw.length)], by rw [h1]; rfl, runM_one ?_⟩⟩
    obtain ⟨n1, n2⟩ := srt_ns hx
    unfold step
    dsimp only
    rw [if_neg n1, if_pos n2, h2, plT_atom hx]
  · intro a b c x s h1 hg _ ih
    have hw : wrd t a (a + 1) = [39] := by
      have : At t a [39] := by
        obtain ⟨ha, e⟩ := List.getElem?_eq_some_iff.mp h1
        exact ⟨t.drop (a + 1), by rw [List.drop_eq_getElem_cons ha, e]; rfl⟩
      exact this.wrd
    exact runs_quo (tok_sign h1 (by decide)) hw (by decide) (by decide) sgN_quo hg ih
  · intro a b c x s h1 hg _ ih
    exact runs_quo (tok_syn h1) h1.wrd (by decide) (by decide) sgN_syn hg ih
  · intro a b c l s h1 hg _ h2 ih
    have one : ∀ {i d : Nat}, t[i]? = some d → wrd t i (i + 1) = [d] := fun {i d} h => by
      obtain ⟨ha, e⟩ := List.getElem?_eq_some_iff.mp h
      have : At t i [d] := ⟨t.drop (i + 1), by rw [List.drop_eq_getElem_cons ha, e]; rfl⟩
      exact this.wrd
    obtain ⟨h3, h4⟩ := ih
    refine ⟨?_, fun st fm ss hd => ?_⟩
    · rw [List.length_cons, h3]
      simp only [szT]
      omega
    simp only [dpT] at hd
    obtain ⟨ks, h5, h6⟩ := h4 st fm (ss ++ [a]) ss.length [] (by omega)
    refine ⟨sgK a (a + 1) :: (ks ++ [sgK b (b + 1)]), by rw [tok_sign h1 (by decide), hg.toks, h5, tok_sign h2 (by decide)]; simp, ?_⟩
    rw [show sgK a (a + 1) :: (ks ++ [sgK b (b + 1)]) = [sgK a (a + 1)] ++ (ks ++ [sgK b (b + 1)]) from rfl, runM_app (runM_one (step_open (one h1) (by omega))), runM_app h6, runM_one (step_close (one h2))]
    have e1 : (ss ++ [a]).length = ss.length + 1 := by rw [List.length_append]; rfl
    have e2 : plT (.lst l) ss.length = lstD (plL l (ss.length + 1)) ss.length := by simp only [plT]
    rw [e1, e2, List.append_assoc]
    rfl
  · intro a
    refine ⟨rfl, fun st fm ss n ps _ => ⟨[], rfl, ?_⟩⟩
    simp only [plL, List.append_nil]
    rfl
  · intro a b c d x l s s' _ hg _ ih1 ih2
    obtain ⟨h1, h2⟩ := ih1
    obtain ⟨h3, h4⟩ := ih2
    refine ⟨by rw [List.length_append, h1, h3]; simp only [szL], fun st fm ss n ps hd => ?_⟩
    simp only [dpL] at hd
    obtain ⟨k1, h5, h6⟩ := h2 (⟨[40], n, ps⟩ :: st) fm ss (by rw [List.length_cons]; omega)
    obtain ⟨k2, h7, h8⟩ := h4 st fm (ss ++ s) n (ps ++ [plT x ss.length]) (by omega)
    refine ⟨k1 ++ k2, by rw [h5, hg.toks, h7, List.append_assoc], ?_⟩
    rw [put_open] at h6
    rw [runM_app h6, h8]
    have e1 : (ss ++ s).length = ss.length + szT x := by rw [List.length_append, h1]
    simp only [plL]
    rw [e1, List.append_assoc, List.append_assoc]
    rfl
/-- forms one behind the other -/
theorem wrl_top {t : T} {a b : Nat} {l : List Tr} {s : List Nat} (h : WrL t a l b s) : ∀ fm ss, dpL l ≤ 60 → ∃ ks, toksF t a = ks ++ toksF t b ∧ runM t ⟨[], fm, ss⟩ ks = .ok ⟨[], fm ++ plL l ss.length, ss ++ s⟩ := by
  refine WrL.rec (t := t) (motive_1 := fun _ _ _ _ _ => True) (motive_2 := fun a l b s _ => ∀ fm ss, dpL l ≤ 60 → ∃ ks, toksF t a = ks ++ toksF t b ∧ runM t ⟨[], fm, ss⟩ ks = .ok ⟨[], fm ++ plL l ss.length, ss ++ s⟩) ?_ ?_ ?_ ?_ ?_ ?_ h
  · intros; trivial
  · intros; trivial
  · intros; trivial
  · intros; trivial
  · intro a fm ss _
    refine ⟨[], rfl, ?_⟩
    simp only [plL, List.append_nil]
    rfl
  · intro a b c d x l s s' hw hg _ _ ih fm ss hd
    simp only [dpL] at hd
    obtain ⟨h1, h2⟩ := wr_run hw
    obtain ⟨k1, h5, h6⟩ := h2 [] fm ss (by show 0 + dpT x ≤ 60; omega)
    obtain ⟨k2, h7, h8⟩ := ih (fm ++ [plT x ss.length]) (ss ++ s) (by omega)
    refine ⟨k1 ++ k2, by rw [h5, hg.toks, h7, List.append_assoc], ?_⟩
    rw [runM_app h6, show put [] fm (ss ++ s) (plT x ss.length) = ⟨[], fm ++ [plT x ss.length], ss ++ s⟩ from rfl, h8]
    have e1 : (ss ++ s).length = ss.length + szT x := by rw [List.length_append, h1]
    simp only [plL]
    rw [e1, List.append_assoc, List.append_assoc]
    rfl
/-- what is written is read -/
theorem read_written {t : T} {a b : Nat} {l : List Tr} {s : List Nat} (hl : t.length ≤ 6000) (hg : Gap t 0 a) (h : WrL t a l b s) (he : t.length ≤ b) (hd : dpL l ≤ 60) : readM t = .ok (plL l 0, s) := by
  obtain ⟨ks, h1, h2⟩ := wrl_top h [] [] hd
  unfold readM
  rw [if_neg (by omega), hg.toks, h1, toksF_end he, List.append_nil, h2]
  rfl
end W4
set_option Elab.async false
set_option linter.all false
set_option maxRecDepth 100000
set_option maxHeartbeats 4000000
namespace W4
open PySem PySem.Spec PyProof.Rows L2 Com SX
/-! how a tree is shown -/
mutual
def shT : Tr → T
  | .lst l => 40 :: (TL.joinL [32] (shL l) ++ [41])
  | .nam w => (Tr.nam w).aw
  | .num w => (Tr.num w).aw
  | .flg b => (Tr.flg b).aw
  | .txt w => (Tr.txt w).aw
  | .dots => Tr.dots.aw
  | .wild => Tr.wild.aw
def shL : List Tr → List T
  | [] => []
  | x :: l => shT x :: shL l
end
def Tr.kd : Tr → Str
  | .nam _ => "name"
  | .num _ => "number"
  | .flg _ => "flag"
  | .txt _ => "text"
  | .dots => "dots"
  | .wild => "wild"
  | .lst _ => "list"
def Tr.vl : Tr → PyData
  | .nam w => .str (S w)
  | .num w => .int (intW w)
  | .flg b => .bool b
  | .txt w => .str (S w)
  | .dots | .wild | .lst _ => .none
theorem shT_atom {x : Tr} (h : isL x = false) : shT x = x.aw := by
  cases x with
  | lst l => cases h
  | _ => simp only [shT]
theorem wrd_in (w : T) : wrd (34 :: (w ++ [34])) 1 ((34 :: (w ++ [34])).length - 1) = w := by
  unfold wrd
  rw [List.length_cons, List.length_append, List.length_singleton]
  show List.take (w.length + 1 + 1 - 1 - 1) (w ++ [34]) = w
  rw [show w.length + 1 + 1 - 1 - 1 = w.length by omega, List.take_left]
theorem leaf_at {x : Tr} (h : isL x = false) (n : Nat) : plT x n = .tuple [.str x.kd, x.vl, .int (n : Nat)] := by
  cases x with
  | nam w =>
    simp only [plT]
    unfold atomD
    rw [if_neg (by decide +kernel), if_neg (by decide +kernel), if_neg (by decide +kernel), if_pos rfl]
    rfl
  | num w =>
    simp only [plT]
    unfold atomD
    rw [if_pos rfl]
    rfl
  | flg b =>
    simp only [plT]
    unfold atomD
    rw [if_neg (by decide +kernel), if_pos rfl]
    cases b <;> rfl
  | txt w =>
    simp only [plT]
    unfold atomD
    rw [if_neg (by decide +kernel), if_neg (by decide +kernel), if_pos rfl]
    show PyData.tuple [.str "text", .str (S (wrd (34 :: (w ++ [34])) 1 ((34 :: (w ++ [34])).length - 1))), .int (n : Nat)] = _
    rw [wrd_in]
    rfl
  | dots =>
    simp only [plT]
    unfold atomD
    rw [if_neg (by decide +kernel), if_neg (by decide +kernel), if_neg (by decide +kernel), if_neg (by decide +kernel)]
    rfl
  | wild =>
    simp only [plT]
    unfold atomD
    rw [if_neg (by decide +kernel), if_neg (by decide +kernel), if_neg (by decide +kernel), if_neg (by decide +kernel)]
    rfl
  | lst l => cases h
/-! its length -/
theorem nam_len {w : T} (h : sortW w = "name") : w.length ≤ 20 := by
  have := sort_nam h
  unfold isNam at this
  simp only [Bool.and_eq_true, decide_eq_true_eq] at this
  exact this.1.1.1.1.2
theorem num_len {w : T} (h : isNum w = true) : w.length ≤ 31 := by
  unfold isNum at h
  rw [Bool.or_eq_true, decide_eq_true_iff] at h
  rcases h with h | h
  · subst h
    decide
  · simp only [Bool.and_eq_true, decide_eq_true_eq] at h
    have hb := h.1.1.2
    unfold body at hb
    split at hb
    · rw [List.length_tail] at hb
      omega
    · omega
theorem aw_len {x : Tr} (h : isL x = false) (ok : okT x) : x.aw.length ≤ 102 := by
  cases x with
  | nam w => exact Nat.le_trans (nam_len ok) (by decide)
  | num w => exact Nat.le_trans (num_len ok) (by decide)
  | flg b => cases b <;> decide
  | txt w =>
    show (34 :: (w ++ [34])).length ≤ 102
    rw [List.length_cons, List.length_append, List.length_singleton]
    have := ok.1
    omega
  | dots => decide
  | wild => decide
  | lst l => cases h
theorem join_len : ∀ (ys : List T), (TL.joinL [32] ys).length ≤ (ys.map fun y => y.length + 1).sum
  | [] => Nat.le_refl _
  | [y] => by simp [TL.joinL]
  | y :: z :: r => by
    have ih := join_len (z :: r)
    show (y ++ ([32] ++ TL.joinL [32] (z :: r))).length ≤ _
    rw [List.length_append, List.length_append, List.map_cons, List.sum_cons]
    simp only [List.length_singleton]
    omega
mutual
theorem sh_len : ∀ (x : Tr), okT x → (shT x).length + 1 ≤ 105 * szT x
  | .lst l, ok => by
    simp only [okT] at ok
    have h1 := shL_len l ok
    have h2 := join_len (shL l)
    simp only [shT, szT]
    rw [List.length_cons, List.length_append, List.length_singleton]
    omega
  | .nam w, ok => by
    have := aw_len (x := .nam w) rfl ok
    simp only [shT, szT]
    omega
  | .num w, ok => by
    have := aw_len (x := .num w) rfl ok
    simp only [shT, szT]
    omega
  | .flg w, ok => by
    have := aw_len (x := .flg w) rfl ok
    simp only [shT, szT]
    omega
  | .txt w, ok => by
    have := aw_len (x := .txt w) rfl ok
    simp only [shT, szT]
    omega
  | .dots, ok => by
    have := aw_len (x := .dots) rfl ok
    simp only [shT, szT]
    omega
  | .wild, ok => by
    have := aw_len (x := .wild) rfl ok
    simp only [shT, szT]
    omega
theorem shL_len : ∀ (l : List Tr), okL l → ((shL l).map fun y => y.length + 1).sum ≤ 105 * szL l
  | [], _ => by simp [shL, szL]
  | x :: l, ok => by
    simp only [okL] at ok
    have h1 := sh_len x ok.1
    have h2 := shL_len l ok.2
    simp only [shL, szL, List.map_cons, List.sum_cons]
    omega
end
/-! numbers as texts -/
theorem chr_nat {c : Nat} (h : 48 ≤ c ∧ c ≤ 57) : (Char.ofNat c).toNat = c := by
  have : c = 48 ∨ c = 49 ∨ c = 50 ∨ c = 51 ∨ c = 52 ∨ c = 53 ∨ c = 54 ∨ c = 55 ∨ c = 56 ∨ c = 57 := by omega
  rcases this with rfl | rfl | rfl | rfl | rfl | rfl | rfl | rfl | rfl | rfl <;> rfl
theorem digits_str {cs : T} (h : ∀ c ∈ cs, 48 ≤ c ∧ c ≤ 57) (hne : cs ≠ []) (h0 : cs = [48] ∨ ∃ c r, cs = c :: r ∧ 49 ≤ c) : Str.ofString (toString ((NumText.digitsVal cs : Nat) : Int)) = S cs := by
  have hl := List.length_pos_iff.mpr hne
  have e := NumText.toDigits_digitsVal (cs.length - 1) cs (by omega) h (by
    rcases h0 with rfl | h0
    · exact .inl rfl
    · exact .inr h0)
  have e1 : toString ((NumText.digitsVal cs : Nat) : Int) = String.ofList (Nat.toDigits 10 (NumText.digitsVal cs)) := rfl
  rw [e1, e, Str.ofString_eq_toList]
  unfold S
  congr 1
  rw [String.toList_ofList, List.map_map]
  congr 1
  exact (List.map_congr_left (g := id) fun c hc => chr_nat (h c hc)).trans (List.map_id cs)
theorem neg_str {cs : T} (h : ∀ c ∈ cs, 48 ≤ c ∧ c ≤ 57) {c : Nat} {r : T} (hcs : cs = c :: r) (h0 : 49 ≤ c) : Str.ofString (toString (-((NumText.digitsVal cs : Nat) : Int))) = S (45 :: cs) := by
  have hp : 0 < NumText.digitsVal cs := by rw [hcs]; exact NumText.digitsVal_pos h0
  have e := digits_str h (by rw [hcs]; simp) (.inr ⟨c, r, hcs, h0⟩)
  obtain ⟨m, hm⟩ : ∃ m, NumText.digitsVal cs = m + 1 := ⟨NumText.digitsVal cs - 1, by omega⟩
  rw [hm] at e ⊢
  have e1 : toString (-((m + 1 : Nat) : Int)) = "-" ++ toString ((m + 1 : Nat) : Int) := rfl
  have e2 : ∀ x : String, Str.ofString ("-" ++ x) = S (45 :: (Str.ofString x).cps.toList) := fun x => by
    rw [Str.ofString_eq_toList, Str.ofString_eq_toList]
    unfold S
    congr 1
    rw [String.toList_append]
    simp
  rw [e1, e2, e]
theorem fold_lt : ∀ (cs : T) (a : Nat), (∀ c ∈ cs, 48 ≤ c ∧ c ≤ 57) → cs.foldl (fun acc c => acc * 10 + (c - 48)) a < (a + 1) * 10 ^ cs.length
  | [], a, _ => by show a < (a + 1) * 1; omega
  | c :: cs, a, h => by
    have h1 := fold_lt cs (a * 10 + (c - 48)) fun d hd => h d (List.mem_cons_of_mem _ hd)
    have h2 := h c List.mem_cons_self
    rw [List.foldl_cons, List.length_cons, Nat.pow_succ]
    refine Nat.lt_of_lt_of_le h1 ?_
    rw [Nat.mul_comm (10 ^ cs.length) 10, ← Nat.mul_assoc]
    exact Nat.mul_le_mul_right _ (by omega)
theorem num_str {w : T} (h : isNum w = true) : Str.ofString (toString (intW w)) = S w ∧ (intW w).natAbs.log2 < 1920 := by
  have key : ∃ i : Int, intText? (S w) = some i ∧ Str.ofString (toString i) = S w ∧ i.natAbs < 10 ^ 31 := by
    have hl := num_len h
    have bound : ∀ cs : T, (∀ c ∈ cs, 48 ≤ c ∧ c ≤ 57) → NumText.digitsVal cs < 10 ^ cs.length := fun cs hc => by
      have := fold_lt cs 0 hc
      rw [Nat.zero_add, Nat.one_mul] at this
      exact this
    unfold isNum at h
    rw [Bool.or_eq_true, decide_eq_true_iff] at h
    rcases h with h | h
    · subst h
      exact ⟨0, by decide +kernel, by decide +kernel, by decide⟩
    · simp only [Bool.and_eq_true, decide_eq_true_eq, Bool.not_eq_true', decide_eq_false_iff_not, List.all_eq_true] at h
      obtain ⟨⟨⟨h1, h2⟩, h3⟩, h4⟩ := h
      have dg : ∀ c, isD c = true → 48 ≤ c ∧ c ≤ 57 := fun c hc => by
        unfold isD digC at hc
        simp only [List.mem_cons, List.not_mem_nil, or_false, decide_eq_true_eq] at hc
        omega
      have hd : ∀ c ∈ body w, 48 ≤ c ∧ c ≤ 57 := fun c hc => dg c (h4 c hc)
      obtain ⟨d, r, hdr⟩ := List.exists_cons_of_ne_nil (List.length_pos_iff.mp h1)
      have hd49 : 49 ≤ d := by
        have e1 := hd d (by rw [hdr]; exact List.mem_cons_self)
        have e2 : d ≠ 48 := fun z => h3 (by rw [hdr, z]; rfl)
        omega
      have hb := bound (body w) hd
      have hpow : 10 ^ (body w).length ≤ 10 ^ 30 := Nat.pow_le_pow_right (by decide) h2
      cases w with
      | nil => exact absurd h1 (by decide)
      | cons c s =>
        by_cases hc : c = 45
        · subst hc
          have eb : body (45 :: s) = s := rfl
          rw [eb] at hd h1 h2 hdr hb hpow
          have hn := neg_str hd hdr hd49
          refine ⟨_, intText_neg (x := S (45 :: s)) (cs := s) rfl hd (by rw [hdr]; simp) (by show (S (45 :: s)).length ≤ 4300; rw [show (S (45 :: s)).length = s.length + 1 from List.size_toArray]; omega), hn, ?_⟩
          rw [Int.natAbs_neg, Int.natAbs_natCast]
          omega
        · have eb : body (c :: s) = c :: s := by
            unfold body
            rw [if_neg (show ¬ (c :: s).head? = some 45 from fun e => hc (Option.some.inj e))]
          rw [eb] at hd h2 hdr hb hpow
          have hn := digits_str hd (by simp) (.inr ⟨d, r, hdr, hd49⟩)
          refine ⟨_, intText_digits (x := S (c :: s)) hd (by simp) (by show (S (c :: s)).length ≤ 4300; rw [show (S (c :: s)).length = s.length + 1 from List.size_toArray]; rw [List.length_cons] at h2; omega), hn, ?_⟩
          rw [Int.natAbs_natCast]
          show NumText.digitsVal (c :: s) < _
          omega
  obtain ⟨i, h1, h2, h3⟩ := key
  have e : intW w = i := by
    unfold intW
    rw [h1]
    rfl
  rw [e]
  refine ⟨h2, ?_⟩
  by_cases z : i.natAbs = 0
  · rw [z]
    decide
  · have : i.natAbs < 2 ^ 110 := Nat.lt_of_lt_of_le h3 (by decide)
    have := (Nat.log2_lt z).mpr this
    omega
end W4
set_option Elab.async false
set_option linter.all false
set_option maxRecDepth 100000
set_option maxHeartbeats 4000000
namespace W4
open PySem PySem.Spec PyProof.Rows L2 Com
def Keep (t : Addr) (H H' : Hp) : Prop := ∀ b o, H b = some o → b ≠ t → H' b = some o
theorem Keep.refl (t : Addr) (H : Hp) : Keep t H H := fun _ _ h _ => h
theorem Keep.trans {t : Addr} {H1 H2 H3 : Hp} (a : Keep t H1 H2) (b : Keep t H2 H3) : Keep t H1 H3 := fun c o h n => b c o (a c o h n) n
theorem Keep.at {t : Addr} {H : Hp} {o : HO} : Keep t H (upd H t o) := fun b u h n => by rw [upd_ne n]; exact h
theorem Keep.same {t : Addr} {H H' : Hp} (h : Same H H') : Keep t H H' := fun b o e _ => h b o e
theorem Keep.tk {t : Addr} {H H' : Hp} {xs : List V} (k : Keep t H H') (h : H t = some (.lst xs)) : Tk H H' := fun b ys e => k b _ e (ne_of e h (by intro z; cases z))
theorem iV_get {l : List Int} {i : Nat} (h : i < l.length) : (l.map V.int)[i]? = some (.int (l[i])) := by rw [List.getElem?_map, List.getElem?_eq_getElem h]; rfl
section
variable {P : Program} {w : World} {K : PySem.W.Frag} {mg : Str → Option Value} {base : Heap}
def spDraws (K : PySem.W.Frag) : Sp := fun vs H Q _ => ∃ (a : Addr) (ns : List Int) (N : Nat), vs = [.ref a, .int (N : Nat)] ∧ SqL K H a (ns.map V.int) ∧ ns.length ≤ 1000 ∧ N ≤ 1000 ∧ ∀ p H' (xs : List Int), Same H H' → H p = none → H' p = some (.lst (xs.map V.int)) → Q (.ref p) H'
theorem ok_law_draws {f : Addr} {fd : FuncData} (F : Dfn K mg "_law_draws" st__law_draws f fd ["script", "count"]) (M : Mg mg) : Cal P w K mg base 1 "_law_draws" (spDraws K) := by
  refine cal_mk F sc_law_draws (fun vs H Q E h => ?_) (fun cdv A outer s H vs Q E hr h => ?_)
  · obtain ⟨a, ns, N, rfl, _⟩ := h
    rfl
  obtain ⟨a, ns, N, rfl, hS, hlen, hN, q⟩ := h
  refine ⟨_, (pss_cons (ps_set (i := 2) sc_law_draws.nd rfl (.inl rfl) (pe_callTy (cList K rfl) (by rfl) M.list b_list (pa_cons (pv 0) pa_nil)))
      (pss_cons (ps_if (pt_cmpR op_eq (pe_callB (cLen K rfl) (by rfl) M.len b_len (pa_cons (pv 2) pa_nil)) pe_int (nomark _)) (pss_one (ps_set (i := 2) sc_law_draws.nd rfl (.inl rfl) (pe_lst (pa_cons pe_int pa_nil)))) pss_nil)
      (pss_cons (ps_set (i := 3) sc_law_draws.nd rfl (.inl rfl) (pe_lst pa_nil))
      (pss_cons (ps_set (i := 4) sc_law_draws.nd rfl (.inl rfl) pe_int)
      (pss_cons (ps_for PassesOwn.never rfl (pi_range1 (by rfl) M.range (pa_cons (pv 1) pa_nil)) (pg_name (i := 5) sc_law_draws.nd rfl (.inl rfl))
      (pss_cons (ps_set (i := 6) sc_law_draws.nd rfl (.inl rfl) (pe_op op_mod (pv 5) (pe_callB (cLen K rfl) (by rfl) M.len b_len (pa_cons (pv 2) pa_nil))))
      (pss_cons (ps_set (i := 7) sc_law_draws.nd rfl (.inl rfl) (pe_ix (ixL K rfl) (pv 2) (pv 6) (fun _ _ => rfl)))
      (pss_cons (ps_set (i := 4) sc_law_draws.nd rfl (.inl rfl) (pe_op op_mod (pe_callTy call_int1 (by rfl) M.int b_int (pa_cons (pe_op op_add (pe_op op_add (pe_op op_add (pe_op op_mul (pv 4) pe_int) (pe_op op_mul (pe_op op_mod (pe_callTy call_int1 (by rfl) M.int b_int (pa_cons (pv 7) pa_nil)) pe_int) pe_int)) (pe_op op_mul (pv 5) pe_int)) pe_int) pa_nil)) pe_int))
      (pss_cons (ps_set (i := 8) sc_law_draws.nd rfl (.inl rfl) (pe_op op_mod (pe_callTy call_int1 (by rfl) M.int b_int (pa_cons (pe_op op_add (pe_op op_add (pe_op op_mul (pv 4) (pv 4)) (pe_op op_mul pe_int (pv 4))) (pv 5)) pa_nil)) pe_int))
      (pss_one (ps_if (pt_cmpR op_ge (pv 7) (pe_op op_pow pe_int pe_int) (nomark _)) (pss_cons (ps_expr (pe_bm PySem.F.plainAttrs_list PySem.F.slot_list_append PySem.F.type_list_append mt_append (pv 3) (pa_cons (pe_op op_mod (pe_callTy call_int1 (by rfl) M.int b_int (pa_cons (pv 7) pa_nil)) pe_int) pa_nil)))
      (pss_one (ps_asg (pe_op op_fdiv (pv 7) pe_int) (pg_sub (pv 2) (pv 6) set_list)))) (pss_one (ps_expr (pe_bm PySem.F.plainAttrs_list PySem.F.slot_list_append PySem.F.type_list_append mt_append (pv 3) (pa_cons (pe_op op_mod (pe_callTy call_int1 (by rfl) M.int b_int (pa_cons (pv 8) pa_nil)) pe_int) pa_nil)))))))))))
      (pss_cons (ps_expr (pe_bm0 PySem.F.plainAttrs_list PySem.F.slot_list_reverse PySem.F.type_list_reverse mt_reverse (pv 3)))
      (pss_one (ps_ret (pv 3))))))))), ?_⟩
  -- cells = list(script)
  refine ⟨_, rfl, a, _, rfl, .inl hS, fun l nl => ?_⟩
  dsimp only [gName]
  refine seq_split (t1 := tIfS _ _ _) (fun σ' H' => ∃ (c : Addr) (cs : List Int), σ' = [some (.ref a), some (.int (N : Nat)), some (.ref c), none, none, none, none, none, none] ∧ Same H H' ∧ H c = none ∧ H' c = some (.lst (cs.map V.int)) ∧ 0 < cs.length ∧ cs.length ≤ 1000) ?_ (fun rest => ?_)
  · rintro σ' H1 ⟨c, cs, rfl, k1, nc, hc, hc0, hcl⟩
    -- found = []
    refine ⟨by decide, fun B nB => ?_⟩
    have hBn : H B = none := by
      cases e : H B with
      | none => rfl
      | some o => rw [k1 _ _ e] at nB; cases nB
    have hcB : c ≠ B := ne_of_none hc nB
    have k2 := k1.trans (same_upd (o := .lst []) nB)
    have hc2 : upd H1 B (.lst []) c = some (.lst (cs.map V.int)) := by rw [upd_ne hcB]; exact hc
    have hB2 : upd H1 B (.lst []) B = some (.lst (([] : List Int).map V.int)) := upd_same
    generalize upd H1 B (.lst []) = H2 at k2 hc2 hB2 ⊢
    -- for k in range(count)
    refine ⟨_, rfl, _, rfl, by omega, by omega, for_range (lo := 0) (n := N) (fun i σ H' => ∃ (mx : Int) (cs : List Int) (fs : List Int) (y5 y6 y7 y8 : Option V), σ = [some (.ref a), some (.int (N : Nat)), some (.ref c), some (.ref B), some (.int mx), y5, y6, y7, y8] ∧ 0 ≤ mx ∧ mx < 2147483647 ∧ Same H H' ∧ H' c = some (.lst (cs.map V.int)) ∧ 0 < cs.length ∧ cs.length ≤ 1000 ∧ H' B = some (.lst (fs.map V.int)) ∧ fs.length = i)
      ⟨12345, cs, [], none, none, none, none, rfl, by decide, by decide, k2, hc2, hc0, hcl, hB2, rfl⟩ ?_ ?_⟩
    · rintro i σ H3 hi ⟨mx, cs, fs, y5, y6, y7, y8, rfl, hm0, hm1, k3, hc3, hc0, hcl, hB3, hfl⟩
      -- j = k % len(cells)
      refine ⟨_, rfl, _, rfl, c, _, rfl, .inl (SqL.of hc3), _, _, rfl, rfl, by rw [List.length_map]; omega, ?_⟩
      rw [List.length_map]
      dsimp only [gName]
      have j0 : 0 ≤ ((0 : Int) + (i : Int)) % (cs.length : Int) := Int.emod_nonneg _ (by omega)
      have j1 : ((0 : Int) + (i : Int)) % (cs.length : Int) < (cs.length : Int) := Int.emod_lt_of_pos _ (by omega)
      generalize ((0 : Int) + (i : Int)) % (cs.length : Int) = j at j0 j1 ⊢
      obtain ⟨jn, rfl⟩ : ∃ jn : Nat, j = (jn : Int) := ⟨j.toNat, by omega⟩
      have jl : jn < cs.length := by omega
      -- cell = cells[j]
      refine ⟨_, rfl, _, rfl, c, _, _, _, rfl, rfl, SqL.of hc3, atN (iV_get jl), ?_⟩
      generalize cs[jn] = cl
      -- mixed = ..
      refine ⟨_, rfl, _, _, rfl, rfl, .inr (by constructor <;> decide), _, rfl, .inl ⟨_, rfl, _, _, rfl, rfl, (by show (0 : Int) < 1000003; decide), _, _, rfl, rfl, .inr (by constructor <;> decide), _, _, rfl, rfl, _, rfl, _, _, rfl, rfl, .inr (by constructor <;> decide), _, _, rfl, rfl, _, _, rfl, rfl, .inl ⟨_, rfl, _, _, rfl, rfl, (by show (0 : Int) < 2147483647; decide), ?_⟩⟩⟩
      dsimp only [gName]
      have m0 : ∀ z : Int, 0 ≤ z % 2147483647 := fun z => Int.emod_nonneg _ (by decide)
      have m1 : ∀ z : Int, z % 2147483647 < 2147483647 := fun z => Int.emod_lt_of_pos _ (by decide)
      generalize hz : (mx * 48271 + cl % 1000003 * 69621 + (0 + (i : Int)) * 7919 + 11) = z
      have hm0' := m0 z
      have hm1' := m1 z
      generalize z % 2147483647 = my at hm0' hm1' ⊢
      -- again = ..
      refine ⟨_, rfl, _, rfl, _, _, rfl, rfl, .inl ⟨by omega, by omega⟩, _, rfl, _, _, rfl, rfl, .inl (by constructor <;> decide), _, _, rfl, rfl, _, rfl, _, _, rfl, rfl, .inl ⟨_, rfl, _, _, rfl, rfl, (by show (0 : Int) < 1000003; decide), ?_⟩⟩
      dsimp only [gName]
      generalize (my * my + 31 * my + (0 + (i : Int))) % 1000003 = ag
      have hBH : H B = none := hBn
      have hf1 : fs.length + 1 ≤ 1000 := by omega
      have bd : ∀ z : Int, (fs ++ [z]).length = i + 1 := fun z => by rw [List.length_append, hfl]; rfl
      have nB3 : ∀ b o, H b = some o → b ≠ B := fun b o e => ne_of_none e hBn
      have nc3 : ∀ b o, H b = some o → b ≠ c := fun b o e => ne_of_none e nc
      -- if cell >= 10 ** 18
      refine ⟨_, rfl, _, _, rfl, rfl, ⟨by decide, by decide, by decide⟩, _, _, rfl, rfl, _, rfl, ite2 (fun c1 => ?_) (fun c1 => ?_)⟩
      · refine ⟨_, rfl, .inl ⟨rfl, _, SqL.of hB3⟩, _, rfl, .inl ⟨_, rfl, _, _, rfl, rfl, (by show (0 : Int) < 1000; decide), B, _, _, rfl, rfl, hB3, by rw [List.length_map]; exact small1000 (by omega), ?_⟩⟩
        refine ⟨_, rfl, _, _, rfl, rfl, by constructor <;> decide, _, rfl, _, rfl, c, cs.map V.int, jn, jn, rfl, rfl, by rw [upd_ne hcB]; exact hc3, ?_, ?_⟩
        · rw [List.length_map]
          unfold ixN
          rw [if_pos (by omega), if_pos (by omega)]
          simp
        · refine ⟨my, cs.set jn (cl / 1000), fs ++ [cl % 1000], _, _, _, _, rfl, hm0', hm1', fun b o e => ?_, ?_, ?_, ?_, ?_, bd _⟩
          · rw [upd_ne (nc3 b o e), upd_ne (nB3 b o e)]
            exact k3 _ _ e
          · rw [upd_same, List.map_set]
          · rw [List.length_set]; exact hc0
          · rw [List.length_set]; exact hcl
          · rw [upd_ne hcB.symm, upd_same, List.map_append]
            rfl
      · refine ⟨_, rfl, .inl ⟨rfl, _, SqL.of hB3⟩, _, rfl, .inl ⟨_, rfl, _, _, rfl, rfl, (by show (0 : Int) < 1000; decide), B, _, _, rfl, rfl, hB3, by rw [List.length_map]; exact small1000 (by omega), ?_⟩⟩
        refine ⟨my, cs, fs ++ [ag % 1000], _, _, _, _, rfl, hm0', hm1', fun b o e => ?_, ?_, hc0, hcl, ?_, bd _⟩
        · rw [upd_ne (nB3 b o e)]
          exact k3 _ _ e
        · rw [upd_ne hcB]; exact hc3
        · rw [upd_same, List.map_append]
          rfl
    · rintro σ H3 ⟨mx, cs, fs, y5, y6, y7, y8, rfl, hm0, hm1, k3, hc3, hc0, hcl, hB3, hfl⟩
      -- found.reverse()
      refine ⟨_, rfl, .inl ⟨rfl, _, SqL.of hB3⟩, B, _, rfl, rfl, hB3, ?_⟩
      refine ⟨_, rfl, q B _ fs.reverse (fun b o e => by rw [upd_ne (ne_of_none e hBn)]; exact k3 _ _ e) hBn ?_⟩
      rw [upd_same, List.map_reverse]
  · have k2 := same_upd (o := .lst (ns.map V.int)) nl
    have hl : upd H l (.lst (ns.map V.int)) l = some (.lst (ns.map V.int)) := upd_same
    generalize upd H l (.lst (ns.map V.int)) = H2 at k2 hl ⊢
    refine ⟨_, rfl, l, _, rfl, .inl (SqL.of hl), rfl, _, rfl, ite2 (fun c1 => ?_) (fun c1 => ?_)⟩
    · refine ⟨by show 1 ≤ sizeLine; decide, fun l2 nl2 => rest _ _ ⟨l2, [7], rfl, k2.trans (same_upd nl2), ?_, upd_same, by decide, by decide⟩⟩
      cases e : H l2 with
      | none => rfl
      | some o => rw [k2 _ _ e] at nl2; cases nl2
    · have c1' : ¬ ((ns.map V.int).length : Int) = 0 := fun z => by
        apply c1
        rw [show V.int ((ns.map V.int).length : Int) = V.int 0 from by rw [z]]
        simp
      rw [List.length_map] at c1'
      exact rest _ _ ⟨l, ns, rfl, k2, nl, hl, by omega, hlen⟩
/-- _law_take: any draw that may come -/
def spTake : Sp := fun vs H Q _ => ∃ (t : Addr) (m : Int) (xs : List Int), vs = [.ref t, .int m] ∧ H t = some (.lst (xs.map V.int)) ∧ 0 < m ∧ ∀ (r : Int) (H' : Hp) (ys : List Int), 0 ≤ r → r < m → Keep t H H' → H' t = some (.lst (ys.map V.int)) → Q (.int r) H'
theorem ok_law_take {f : Addr} {fd : FuncData} (F : Dfn K mg "_law_take" st__law_take f fd ["draws", "limit"]) (M : Mg mg) : Cal P w K mg base 1 "_law_take" spTake := by
  refine cal_mk F sc_law_take (fun vs H Q E h => ?_) (fun cdv A outer s H vs Q E hr h => ?_)
  · obtain ⟨t, m, xs, rfl, _⟩ := h
    rfl
  obtain ⟨p, m, xs, rfl, hT, hm0, q⟩ := h
  refine ⟨_, (pss_cons (ps_if (pt_cmpR op_eq (pe_callB (cLen K rfl) (by rfl) M.len b_len (pa_cons (pv 0) pa_nil)) pe_int (nomark _)) (pss_one (ps_ret pe_int)) pss_nil)
      (pss_one (ps_ret (pe_op op_mod (pe_callTy call_int1 (by rfl) M.int b_int (pa_cons (pe_bm0 PySem.F.plainAttrs_list PySem.F.slot_list_pop PySem.F.type_list_pop mt_pop (pv 0)) pa_nil)) (pv 1))))), ?_⟩
  refine ⟨_, rfl, p, _, rfl, .inl (SqL.of hT), rfl, _, rfl, ite2 (fun c1 => ?_) (fun c1 => ?_)⟩
  · exact q 0 H xs (Int.le_refl 0) hm0 (Keep.refl _ _) hT
  · have c1' : ¬ ((xs.map V.int).length : Int) = 0 := fun z => by
      apply c1
      rw [show V.int ((xs.map V.int).length : Int) = V.int 0 from by rw [z]]
      simp
    rw [List.length_map] at c1'
    have hl : (xs.map V.int).length - 1 < xs.length := by rw [List.length_map]; omega
    refine ⟨_, rfl, .inl ⟨rfl, _, SqL.of hT⟩, p, _, _, rfl, rfl, hT, iV_get hl, .inl ⟨_, rfl, _, rfl, _, _, rfl, rfl, hm0, ?_⟩⟩
    exact q _ _ xs.dropLast (Int.emod_nonneg _ (by omega)) (Int.emod_lt_of_pos _ hm0) Keep.at (by rw [upd_same, List.map_dropLast])
end
section
variable {P : Program} {w : World} {K : PySem.W.Frag} {mg : Str → Option Value} {base : Heap}
/-- both stand for one datum of at most this depth -/
def spSame (K : PySem.W.Frag) (n : Nat) : Sp := fun vs H Q _ => ∃ (v u : V) (d : PyData), vs = [v, u] ∧ Dp K H v d ∧ Dp K H u d ∧ d.depth < n ∧ smD d = true ∧ ∀ H', Same H H' → Q (.bl true) H'
theorem same0 {f : Addr} {fd : FuncData} (F : Dfn K mg "_law_same" st__law_same f fd ["found", "due"]) : Cal P w K mg base 1 "_law_same" (spSame K 0) := by
  have no : ∀ vs H Q E, ¬ spSame K 0 vs H Q E := fun vs H Q E h => by
    obtain ⟨_, _, _, _, _, _, h1, _⟩ := h
    omega
  exact ⟨f, fd, _, ⟨fun vs H Q E h => absurd h (no vs H Q E), fun A outer s H args us vs Q E _ _ _ _ h => absurd h (no vs H Q E)⟩, F.mgf, F.fn.kp, F.b⟩
theorem ok_law_same {f : Addr} {fd : FuncData} {n k : Nat} (F : Dfn K mg "_law_same" st__law_same f fd ["found", "due"]) (M : Mg mg) (G_law_same : Cal P w K mg base k "_law_same" (spSame K n)) : Cal P w K mg base (k + 1) "_law_same" (spSame K (n + 1)) := by
  refine cal_mk F sc_law_same (fun vs H Q E h => ?_) (fun cdv A outer s H vs Q E hr h => ?_)
  · obtain ⟨v, u, d, rfl, _⟩ := h
    rfl
  obtain ⟨v, u, d, rfl, hv, hu', hdp, hsm, q⟩ := h
  have same1 : ∀ b c : Addr, ∀ (b : Bool), True := fun _ _ _ => True.intro
  -- the end: lengths, and all
  have fin : ∀ (a b : Addr) (xs ys : List V) (ds : List PyData), Sq K H a xs → Sq K H b ys → DpAll K H xs ds → DpAll K H ys ds → PyData.depthAll ds < n → ds.length ≤ 1000000 → smAll ds = true → xs.length = ds.length ∧ ys.length = ds.length := fun a b xs ys ds _ _ h1 h2 _ _ _ => ⟨DpAll_len h1, DpAll_len h2⟩
  refine ⟨_, (pss_cons (ps_if (pt_cmpR op_isN (pv 1) pe_non (nomark _)) (pss_one (ps_ret (pe_cmpR op_isN (pv 0) pe_non (nomark _)))) pss_nil)
      (pss_cons (ps_if (pt_val (pe_callB (cIsi K rfl) (by rfl) M.isinstance b_isinstance (pa_cons (pv 1) (pa_cons (pe_bltn (v := .ty "bool") (by rfl) M.bool b_bool rfl) pa_nil)))) (pss_one (ps_ret (pe_and (pe_callB (cIsi K rfl) (by rfl) M.isinstance b_isinstance (pa_cons (pv 0) (pa_cons (pe_bltn (v := .ty "bool") (by rfl) M.bool b_bool rfl) pa_nil))) (pe_one (pe_cmpR op_eq (pv 0) (pv 1) (nomark _)))))) pss_nil)
      (pss_cons (ps_if (pt_val (pe_callB (cIsi K rfl) (by rfl) M.isinstance b_isinstance (pa_cons (pv 1) (pa_cons (pe_bltn (v := .ty "int") (by rfl) M.int b_int rfl) pa_nil)))) (pss_one (ps_ret (pe_and (pe_callB (cIsi K rfl) (by rfl) M.isinstance b_isinstance (pa_cons (pv 0) (pa_cons (pe_bltn (v := .ty "int") (by rfl) M.int b_int rfl) pa_nil))) (pe_and (pe_not (pe_callB (cIsi K rfl) (by rfl) M.isinstance b_isinstance (pa_cons (pv 0) (pa_cons (pe_bltn (v := .ty "bool") (by rfl) M.bool b_bool rfl) pa_nil)))) (pe_one (pe_cmpR op_eq (pv 0) (pv 1) (nomark _))))))) pss_nil)
      (pss_cons (ps_if (pt_val (pe_callB (cIsi K rfl) (by rfl) M.isinstance b_isinstance (pa_cons (pv 1) (pa_cons (pe_bltn (v := .ty "str") (by rfl) M.str b_str rfl) pa_nil)))) (pss_one (ps_ret (pe_and (pe_callB (cIsi K rfl) (by rfl) M.isinstance b_isinstance (pa_cons (pv 0) (pa_cons (pe_bltn (v := .ty "str") (by rfl) M.str b_str rfl) pa_nil))) (pe_one (pe_cmpR op_eq (pv 0) (pv 1) (nomark _)))))) pss_nil)
      (pss_cons (ps_if (PW.pt (pw_or (pt_cmpR op_ne (pe_callB (cIsi K rfl) (by rfl) M.isinstance b_isinstance (pa_cons (pv 1) (pa_cons (pe_bltn (v := .ty "tuple") (by rfl) M.tuple b_tuple rfl) pa_nil))) (pe_callB (cIsi K rfl) (by rfl) M.isinstance b_isinstance (pa_cons (pv 0) (pa_cons (pe_bltn (v := .ty "tuple") (by rfl) M.tuple b_tuple rfl) pa_nil))) (nomark _)) (pw_or1 (pt_cmpR op_ne (pe_callB (cIsi K rfl) (by rfl) M.isinstance b_isinstance (pa_cons (pv 1) (pa_cons (pe_bltn (v := .ty "list") (by rfl) M.list b_list rfl) pa_nil))) (pe_callB (cIsi K rfl) (by rfl) M.isinstance b_isinstance (pa_cons (pv 0) (pa_cons (pe_bltn (v := .ty "list") (by rfl) M.list b_list rfl) pa_nil))) (nomark _))))) (pss_one (ps_ret pe_bl)) pss_nil)
      (pss_one (ps_ret (pe_and (pe_cmpR op_eq (pe_callB (cLen K rfl) (by rfl) M.len b_len (pa_cons (pv 0) pa_nil)) (pe_callB (cLen K rfl) (by rfl) M.len b_len (pa_cons (pv 1) pa_nil)) (nomark _)) (pe_one (pe_callB (cAll K rfl) (by rfl) M.all b_all (pa_cons (pe_lc (own := [("k", 2)]) (g := gName 2) (by rfl) sc_law_same.nd (pi_range1 (by rfl) M.range (pa_cons (pe_callB (cLen K rfl) (by rfl) M.len b_len (pa_cons (pv 1) pa_nil)) pa_nil)) (blkOk_by (own := [("k", 2)]) (N := ["found", "due", "k"]) (sc := defScope st__law_same) (by decide +kernel)) (fun _ _ _ _ _ => (pg_name (i := 2) sc_law_same.nd rfl (.inl rfl))) (fun _ _ _ _ _ => pts_nil) (fun _ _ _ _ _ => (pe_c G_law_same hr (by omega) (by rfl) (pa_cons (pe_ix (ixQ K rfl) (pv 0) (pv 2) (fun _ _ => rfl)) (pa_cons (pe_ix (ixQ K rfl) (pv 1) (pv 2) (fun _ _ => rfl)) pa_nil))))) pa_nil))))))))))), ?_⟩
  have tail : ∀ (a b : Addr) (xs ys : List V) (ds : List PyData), Sq K H a xs → Sq K H b ys → DpAll K H xs ds → DpAll K H ys ds → PyData.depthAll ds < n → ds.length ≤ 1000000 → smAll ds = true → ∀ D : Addr, H D = none →
      ∃ W : Nat → Nat → Hp → Prop, (∃ m, W 0 m (upd H D (.lst []))) ∧ ∀ i m H1, W i m H1 →
      ((Itr 0 ys.length).stop i H1 ∧ rAll K [.ref D] H1 Q) ∨ ((Itr 0 ys.length).go i H1 ∧ ∃ Nx : Hp → Prop, (∀ H', Nx H' → ∃ m', m' < m ∧ W (i + 1) m' H') ∧ ∀ x H', (Itr 0 ys.length).yld i H1 x H' → gName 2 x (wipe [some (.ref a), some (.ref b), none] [2]) H' fun σ2 H2 => wipe σ2 [2] = wipe [some (.ref a), some (.ref b), none] [2] ∧ tYes σ2 H2 fun c H3 =>
        if c = true then tCall (spSame K n) [] E0 (tCons (tOp (rIx K) (tVar 0) (tVar 2)) (tCons (tOp (rIx K) (tVar 1) (tVar 2)) tNil)) σ2 H3 fun y H4 => ∃ acc, H4 D = some (.lst acc) ∧ acc.length < sizeLine ∧ Nx (upd H4 D (.lst (acc ++ [y]))) else Nx H3) := by
    intro a b xs ys ds ha hb hx hy hdp hmil hsm D nD
    have ex := DpAll_len hx
    have ey := DpAll_len hy
    refine lc_range (lo := 0) (n := ys.length) (fun i H' => Same H H' ∧ H' D = some (.lst ((List.replicate i true).map V.bl))) ⟨same_upd nD, upd_same⟩ ?_ ?_
    · rintro i H' hi ⟨ss, hD⟩
      have hix : i < xs.length := by omega
      obtain ⟨d, hd, dx⟩ := DpAll.getE hx (List.getElem?_eq_getElem hix)
      obtain ⟨d', hd', dy⟩ := DpAll.getE hy (List.getElem?_eq_getElem hi)
      rw [hd] at hd'
      cases hd'
      have hdm := depth_mem (List.mem_of_getElem? hd)
      have e0 : (0 : Int) + (i : Int) = (i : Int) := Int.zero_add _
      refine ⟨rfl, ?_⟩
      unfold tYes
      refine iteT ⟨_, rfl, _, rfl, ixq (same_sq ss ha) (by rw [e0]; exact atN (List.getElem?_eq_getElem hix)) ⟨_, rfl, _, rfl, ixq (same_sq ss hb) (by rw [e0]; exact atN (List.getElem?_eq_getElem hi)) ⟨_, _, d, rfl, Dp.same ss d _ dx, Dp.same ss d _ dy, by omega, smAll_mem hsm (List.mem_of_getElem? hd), fun H4 s4 => ?_⟩⟩⟩
      refine ⟨_, s4 _ _ hD, ?_, fun c o e => ?_, ?_⟩
      · rw [List.length_map, List.length_replicate]
        show _ < 2 ^ 24
        omega
      · rw [upd_ne (ne_of_none e nD)]
        exact s4 _ _ (ss _ _ e)
      · rw [upd_same, List.replicate_succ', List.map_append]
        rfl
    · rintro H' ⟨ss, hD⟩
      refine ⟨D, List.replicate ys.length true, rfl, SqL.of hD, ?_⟩
      have e : (List.replicate ys.length true).all id = true := by
        rw [List.all_eq_true]
        intro x hx
        rw [List.eq_of_mem_replicate hx]
        rfl
      rw [e]
      exact q H' ss
  cases hv with
  | non =>
    cases hu'
    exact ⟨_, rfl, rfl, _, rfl, iteT ⟨_, rfl, rfl, q H fun _ _ e => e⟩⟩
  | bl b =>
    cases hu'
    refine ⟨_, rfl, rfl, _, rfl, iteF ?_⟩
    refine ⟨_, rfl, _, _, _, _, true, rfl, .ty "bool", .base (.bl b), kit_ty k_bb, true, rfl, iteT ?_⟩
    exact ⟨_, rfl, _, _, _, _, true, rfl, .ty "bool", .base (.bl b), kit_ty k_bb, true, rfl, iteT ⟨_, rfl, _, rfl, rfl, by rw [decide_eq_true rfl]; exact q H fun _ _ e => e⟩⟩
  | int i =>
    cases hu'
    refine ⟨_, rfl, rfl, _, rfl, iteF ?_⟩
    refine ⟨_, rfl, _, _, _, _, false, rfl, .ty "bool", .base (.int i), kit_ty k_ib, false, rfl, iteF ?_⟩
    refine ⟨_, rfl, _, _, _, _, true, rfl, .ty "int", .base (.int i), kit_ty k_ii, true, rfl, iteT ?_⟩
    refine ⟨_, rfl, _, _, _, _, true, rfl, .ty "int", .base (.int i), kit_ty k_ii, true, rfl, iteT ?_⟩
    refine ⟨_, rfl, _, _, _, _, false, rfl, .ty "bool", .base (.int i), kit_ty k_ib, false, rfl, true, rfl, iteT ?_⟩
    exact ⟨_, rfl, _, rfl, rfl, by rw [decide_eq_true rfl]; exact q H fun _ _ e => e⟩
  | str x =>
    cases hu'
    refine ⟨_, rfl, rfl, _, rfl, iteF ?_⟩
    refine ⟨_, rfl, _, _, _, _, false, rfl, .ty "bool", .base (.str x), kit_ty k_sb, false, rfl, iteF ?_⟩
    refine ⟨_, rfl, _, _, _, _, false, rfl, .ty "int", .base (.str x), kit_ty k_si, false, rfl, iteF ?_⟩
    refine ⟨_, rfl, _, _, _, _, true, rfl, .ty "str", .base (.str x), kit_ty k_ss, true, rfl, iteT ?_⟩
    exact ⟨_, rfl, _, _, _, _, true, rfl, .ty "str", .base (.str x), kit_ty k_ss, true, rfl, iteT ⟨_, rfl, _, rfl, rfl, by rw [decide_eq_true rfl]; exact q H fun _ _ e => e⟩⟩
  | @tup a xs ds ha hx =>
    cases hu' with
    | @tup b ys _ hb hy =>
    refine ⟨_, rfl, rfl, _, rfl, iteF ?_⟩
    refine ⟨_, rfl, _, _, _, _, false, rfl, .ty "bool", tyT hb, kit_ty k_tb, false, rfl, iteF ?_⟩
    refine ⟨_, rfl, _, _, _, _, false, rfl, .ty "int", tyT hb, kit_ty k_ti, false, rfl, iteF ?_⟩
    refine ⟨_, rfl, _, _, _, _, false, rfl, .ty "str", tyT hb, kit_ty k_ts, false, rfl, iteF ?_⟩
    refine ⟨_, rfl, _, _, _, _, true, rfl, .ty "tuple", tyT hb, kit_ty k_tt, _, rfl, _, _, _, _, true, rfl, .ty "tuple", tyT ha, kit_ty k_tt, rfl, _, rfl, iteNS rfl ?_⟩
    refine ⟨_, rfl, _, _, _, _, false, rfl, .ty "list", tyT hb, kit_ty k_tl, _, rfl, _, _, _, _, false, rfl, .ty "list", tyT ha, kit_ty k_tl, rfl, _, rfl, iteNS rfl ?_⟩
    simp only [PyData.depth] at hdp
    simp only [smD, Bool.and_eq_true, decide_eq_true_eq] at hsm
    obtain ⟨l1, l2⟩ := fin a b xs ys ds (.inr ha) (.inr hb) hx hy (by omega) hsm.1 hsm.2
    refine ⟨_, rfl, a, xs, rfl, .inr ha, _, rfl, b, ys, rfl, .inr hb, rfl, _, rfl, ?_⟩
    rw [decide_eq_true (show V.int (xs.length : Int) = V.int (ys.length : Int) by rw [l1, l2])]
    refine iteT ⟨_, rfl, b, ys, rfl, .inr hb, _, rfl, by omega, by omega, fun D nD => ?_⟩
    exact tail a b xs ys ds (.inr ha) (.inr hb) hx hy (by omega) hsm.1 hsm.2 D nD
  | @lst a xs ds ha hx =>
    cases hu' with
    | @lst b ys _ hb hy =>
    refine ⟨_, rfl, rfl, _, rfl, iteF ?_⟩
    refine ⟨_, rfl, _, _, _, _, false, rfl, .ty "bool", tyL hb, kit_ty k_lb, false, rfl, iteF ?_⟩
    refine ⟨_, rfl, _, _, _, _, false, rfl, .ty "int", tyL hb, kit_ty k_li, false, rfl, iteF ?_⟩
    refine ⟨_, rfl, _, _, _, _, false, rfl, .ty "str", tyL hb, kit_ty k_ls, false, rfl, iteF ?_⟩
    refine ⟨_, rfl, _, _, _, _, false, rfl, .ty "tuple", tyL hb, kit_ty k_lt, _, rfl, _, _, _, _, false, rfl, .ty "tuple", tyL ha, kit_ty k_lt, rfl, _, rfl, iteNS rfl ?_⟩
    refine ⟨_, rfl, _, _, _, _, true, rfl, .ty "list", tyL hb, kit_ty k_ll, _, rfl, _, _, _, _, true, rfl, .ty "list", tyL ha, kit_ty k_ll, rfl, _, rfl, iteNS rfl ?_⟩
    simp only [PyData.depth] at hdp
    simp only [smD, Bool.and_eq_true, decide_eq_true_eq] at hsm
    obtain ⟨l1, l2⟩ := fin a b xs ys ds (.inl ha) (.inl hb) hx hy (by omega) hsm.1 hsm.2
    refine ⟨_, rfl, a, xs, rfl, .inl ha, _, rfl, b, ys, rfl, .inl hb, rfl, _, rfl, ?_⟩
    rw [decide_eq_true (show V.int (xs.length : Int) = V.int (ys.length : Int) by rw [l1, l2])]
    refine iteT ⟨_, rfl, b, ys, rfl, .inl hb, _, rfl, by omega, by omega, fun D nD => ?_⟩
    exact tail a b xs ys ds (.inl ha) (.inl hb) hx hy (by omega) hsm.1 hsm.2 D nD
theorem same_all {f : Addr} {fd : FuncData} (F : Dfn K mg "_law_same" st__law_same f fd ["found", "due"]) (M : Mg mg) : ∀ n : Nat, Cal P w K mg base (n + 1) "_law_same" (spSame K n)
  | 0 => same0 F
  | n + 1 => ok_law_same F M (same_all F M n)
end
end W4
set_option Elab.async false
set_option linter.all false
set_option maxRecDepth 100000
set_option maxHeartbeats 4000000
namespace W4
open PySem PySem.Spec PyProof.Rows L2 Com SX GxR
theorem S_app2 (a b : T) : S a ++ S b = S (a ++ b) := by
  show (⟨a.toArray ++ b.toArray⟩ : Str) = ⟨(a ++ b).toArray⟩
  simp
/-- the names of built-ins that the module does not bind, and two more -/
structure Mg2 (mg : Str → Option Value) : Prop extends Mg mg where
  max : mg "max" = none
  sum : mg "sum" = none
section
variable {P : Program} {w : World} {K : PySem.W.Frag} {mg : Str → Option Value} {base : Heap}
def spShA : Sp := fun vs H Q _ => ∃ (x : Tr) (v : V), vs = [.str x.kd, v] ∧ isL x = false ∧ okT x ∧ Dt H v x.vl ∧ Q (.str (S x.aw)) H
theorem ok_show_atom {f : Addr} {fd : FuncData} (F : Dfn K mg "show_atom" st_show_atom f fd ["kind", "value"]) (M : Mg mg) : Cal P w K mg base 1 "show_atom" spShA := by
  refine cal_mk F scshow_atom (fun vs H Q E h => ?_) (fun cdv A outer s H vs Q E hr h => ?_)
  · obtain ⟨x, v, rfl, _⟩ := h
    rfl
  obtain ⟨x, v, rfl, hx, ok, hv, q⟩ := h
  have hsl : sizeLine = 16777216 := sizeLine_eq
  obtain ⟨kx, hk⟩ : ∃ k : Str, k = x.kd := ⟨_, rfl⟩
  rw [← hk]
  refine ⟨_, (pss_cons (ps_if (pt_cmpR op_eq (pv 0) pe_str (nomark _)) (pss_one (ps_ret (pe_callTy call_str_int (by rfl) M.str b_str (pa_cons (pv 1) pa_nil)))) pss_nil)
      (pss_cons (ps_if (pt_cmpR op_eq (pv 0) pe_str (nomark _)) (pss_one (ps_ret (pe_ifExp (pt_truth (pv 1) (by intro _; rfl)) pe_str pe_str))) pss_nil)
      (pss_cons (ps_if (pt_cmpR op_eq (pv 0) pe_str (nomark _)) (pss_one (ps_ret (pe_op op_add_str (pe_op op_add_str pe_str (pv 1)) pe_str))) pss_nil)
      (pss_cons (ps_if (pt_cmpR op_eq (pv 0) pe_str (nomark _)) (pss_one (ps_ret pe_str)) pss_nil)
      (pss_cons (ps_if (pt_cmpR op_eq (pv 0) pe_str (nomark _)) (pss_one (ps_ret pe_str)) pss_nil)
      (pss_one (ps_ret (pv 1)))))))), ?_⟩
  refine ⟨_, rfl, rfl, _, rfl, ?_⟩
  rw [strE]
  cases x with
  | lst l => cases hx
  | nam w =>
    have hk' : kx = ("name" : Str) := hk
    subst hk'
    simp only [Tr.vl] at hv
    cases hv
    rw [decide_eq_false (show ¬ (("name" : Str) = "number") by decide +kernel)]
    refine iteF ?_
    dsimp only [tNext]
    refine ⟨_, rfl, rfl, _, rfl, ?_⟩
    rw [strE]
    rw [decide_eq_false (show ¬ (("name" : Str) = "flag") by decide +kernel)]
    refine iteF ?_
    dsimp only [tNext]
    refine ⟨_, rfl, rfl, _, rfl, ?_⟩
    rw [strE]
    rw [decide_eq_false (show ¬ (("name" : Str) = "text") by decide +kernel)]
    refine iteF ?_
    dsimp only [tNext]
    refine ⟨_, rfl, rfl, _, rfl, ?_⟩
    rw [strE]
    rw [decide_eq_false (show ¬ (("name" : Str) = "dots") by decide +kernel)]
    refine iteF ?_
    dsimp only [tNext]
    refine ⟨_, rfl, rfl, _, rfl, ?_⟩
    rw [strE]
    rw [decide_eq_false (show ¬ (("name" : Str) = "wild") by decide +kernel)]
    refine iteF ?_
    dsimp only [tNext]
    exact ⟨_, rfl, q⟩
  | num w =>
    have hk' : kx = ("number" : Str) := hk
    subst hk'
    simp only [Tr.vl] at hv
    cases hv
    rw [decide_eq_true (show (("number" : Str) = "number") from rfl)]
    obtain ⟨h1, h2⟩ := num_str (w := w) ok
    refine iteT ⟨_, rfl, _, rfl, h2, ?_⟩
    rw [show ((toString (intW w) : String) : Str) = S w from h1]
    exact q
  | flg b =>
    have hk' : kx = ("flag" : Str) := hk
    subst hk'
    simp only [Tr.vl] at hv
    cases hv
    rw [decide_eq_false (show ¬ (("flag" : Str) = "number") by decide +kernel)]
    refine iteF ?_
    dsimp only [tNext]
    refine ⟨_, rfl, rfl, _, rfl, ?_⟩
    rw [strE]
    rw [decide_eq_true (show (("flag" : Str) = "flag") from rfl)]
    refine iteT ⟨_, rfl, _, rfl, ?_⟩
    cases b with
    | true => exact iteT (by rw [← show S (Tr.flg true).aw = ("#t" : Str) from q_t.symm]; exact q)
    | false => exact iteF (by rw [← show S (Tr.flg false).aw = ("#f" : Str) from q_f.symm]; exact q)
  | txt w =>
    have hk' : kx = ("text" : Str) := hk
    subst hk'
    simp only [Tr.vl] at hv
    cases hv
    rw [decide_eq_false (show ¬ (("text" : Str) = "number") by decide +kernel)]
    refine iteF ?_
    dsimp only [tNext]
    refine ⟨_, rfl, rfl, _, rfl, ?_⟩
    rw [strE]
    rw [decide_eq_false (show ¬ (("text" : Str) = "flag") by decide +kernel)]
    refine iteF ?_
    dsimp only [tNext]
    refine ⟨_, rfl, rfl, _, rfl, ?_⟩
    rw [strE]
    rw [decide_eq_true (show (("text" : Str) = "text") from rfl)]
    have hl : (S w).length ≤ 100 := by rw [len_S]; exact ok.1
    have l1 : ("\"" : Str).length = 1 := by decide +kernel
    refine iteT ⟨_, rfl, _, _, rfl, rfl, by rw [l1]; omega, _, _, rfl, rfl, by rw [Str.length_append, l1]; omega, ?_⟩
    rw [q_qq, S_app2, S_app2]
    exact q
  | dots =>
    have hk' : kx = ("dots" : Str) := hk
    subst hk'
    simp only [Tr.vl] at hv
    cases hv
    rw [decide_eq_false (show ¬ (("dots" : Str) = "number") by decide +kernel)]
    refine iteF ?_
    dsimp only [tNext]
    refine ⟨_, rfl, rfl, _, rfl, ?_⟩
    rw [strE]
    rw [decide_eq_false (show ¬ (("dots" : Str) = "flag") by decide +kernel)]
    refine iteF ?_
    dsimp only [tNext]
    refine ⟨_, rfl, rfl, _, rfl, ?_⟩
    rw [strE]
    rw [decide_eq_false (show ¬ (("dots" : Str) = "text") by decide +kernel)]
    refine iteF ?_
    dsimp only [tNext]
    refine ⟨_, rfl, rfl, _, rfl, ?_⟩
    rw [strE]
    rw [decide_eq_true (show (("dots" : Str) = "dots") from rfl)]
    exact iteT (by rw [← show S Tr.dots.aw = ("..." : Str) from q_dots.symm]; exact q)
  | wild =>
    have hk' : kx = ("wild" : Str) := hk
    subst hk'
    simp only [Tr.vl] at hv
    cases hv
    rw [decide_eq_false (show ¬ (("wild" : Str) = "number") by decide +kernel)]
    refine iteF ?_
    dsimp only [tNext]
    refine ⟨_, rfl, rfl, _, rfl, ?_⟩
    rw [strE]
    rw [decide_eq_false (show ¬ (("wild" : Str) = "flag") by decide +kernel)]
    refine iteF ?_
    dsimp only [tNext]
    refine ⟨_, rfl, rfl, _, rfl, ?_⟩
    rw [strE]
    rw [decide_eq_false (show ¬ (("wild" : Str) = "text") by decide +kernel)]
    refine iteF ?_
    dsimp only [tNext]
    refine ⟨_, rfl, rfl, _, rfl, ?_⟩
    rw [strE]
    rw [decide_eq_false (show ¬ (("wild" : Str) = "dots") by decide +kernel)]
    refine iteF ?_
    dsimp only [tNext]
    refine ⟨_, rfl, rfl, _, rfl, ?_⟩
    rw [strE]
    rw [decide_eq_true (show (("wild" : Str) = "wild") from rfl)]
    exact iteT (by rw [← show S Tr.wild.aw = ("_" : Str) from q_wild.symm]; exact q)
end
end W4
set_option Elab.async false
set_option linter.all false
set_option maxRecDepth 100000
set_option maxHeartbeats 4000000
namespace W4
open PySem PySem.Spec PyProof.Rows L2 Com SX GxR
theorem plL_get : ∀ {l : List Tr} {n i : Nat} {d : PyData}, (plL l n)[i]? = some d → ∃ x m, l[i]? = some x ∧ d = plT x m
  | [], n, i, d, h => by simp [plL] at h
  | x :: l, n, 0, d, h => by
    simp only [plL, List.getElem?_cons_zero, Option.some.injEq] at h
    exact ⟨x, n, rfl, h.symm⟩
  | x :: l, n, i + 1, d, h => by
    simp only [plL, List.getElem?_cons_succ] at h
    obtain ⟨y, m, h1, h2⟩ := plL_get h
    exact ⟨y, m, by rw [List.getElem?_cons_succ]; exact h1, h2⟩
theorem plL_len : ∀ {l : List Tr} {n : Nat}, (plL l n).length = l.length
  | [], n => by simp [plL]
  | x :: l, n => by simp [plL, plL_len]
theorem shL_map : ∀ (l : List Tr), shL l = l.map shT
  | [] => by simp [shL]
  | x :: l => by simp [shL, shL_map l]
theorem okL_mem : ∀ {l : List Tr} {x : Tr}, okL l → x ∈ l → okT x
  | y :: l, x, h, hm => by
    simp only [okL] at h
    rcases List.mem_cons.mp hm with rfl | hm
    · exact h.1
    · exact okL_mem h.2 hm
theorem dpL_mem : ∀ {l : List Tr} {x : Tr}, x ∈ l → dpT x ≤ dpL l
  | y :: l, x, hm => by
    simp only [dpL]
    rcases List.mem_cons.mp hm with rfl | hm
    · omega
    · have := dpL_mem hm
      omega
theorem szL_mem : ∀ {l : List Tr} {x : Tr}, x ∈ l → szT x ≤ szL l
  | y :: l, x, hm => by
    simp only [szL]
    rcases List.mem_cons.mp hm with rfl | hm
    · omega
    · have := szL_mem hm
      omega
theorem szT_pos : ∀ x : Tr, 1 ≤ szT x
  | .lst l => by simp only [szT]; omega
  | .nam w => by simp [szT]
  | .num w => by simp [szT]
  | .flg w => by simp [szT]
  | .txt w => by simp [szT]
  | .dots => by simp [szT]
  | .wild => by simp [szT]
theorem szL_len : ∀ (l : List Tr), l.length ≤ szL l
  | [] => Nat.zero_le _
  | x :: l => by
    simp only [szL, List.length_cons]
    have := szT_pos x
    have := szL_len l
    omega
theorem kd_nl {x : Tr} (h : isL x = false) : ¬ x.kd = "list" := by
  cases x with
  | lst l => cases h
  | nam w => exact show ¬ (("name" : Str) = "list") by decide +kernel
  | num w => exact show ¬ (("number" : Str) = "list") by decide +kernel
  | flg w => exact show ¬ (("flag" : Str) = "list") by decide +kernel
  | txt w => exact show ¬ (("text" : Str) = "list") by decide +kernel
  | dots => exact show ¬ (("dots" : Str) = "list") by decide +kernel
  | wild => exact show ¬ (("wild" : Str) = "list") by decide +kernel
/-- what a datum is made of -/
theorem dt_atom {H : Hp} {v : V} {x : Tr} {m : Nat} (hx : isL x = false) (h : Dt H v (plT x m)) : ∃ p u, v = .ref p ∧ H p = some (.tup [.str x.kd, u, .int (m : Nat)]) ∧ Dt H u x.vl := by
  rw [leaf_at hx] at h
  cases h with
  | @tup p xs _ e g =>
    cases g with
    | @cons v1 vs1 _ _ g1 g =>
      cases g with
      | @cons v2 vs2 _ _ g2 g =>
        cases g with
        | cons g3 g =>
          cases g
          cases g1
          cases g3
          exact ⟨p, v2, rfl, e, g2⟩
theorem dt_lst {H : Hp} {v : V} {l : List Tr} {m : Nat} (h : Dt H v (plT (.lst l) m)) : ∃ p pt vs, v = .ref p ∧ H p = some (.tup [.str "list", .ref pt, .int (m : Nat)]) ∧ H pt = some (.tup vs) ∧ DtAll H vs (plL l (m + 1)) := by
  simp only [plT] at h
  unfold lstD at h
  cases h with
  | @tup p xs _ e g =>
    cases g with
    | @cons v1 vs1 _ _ g1 g =>
      cases g with
      | @cons v2 vs2 _ _ g2 g =>
        cases g with
        | cons g3 g =>
          cases g
          cases g1
          cases g3
          cases g2 with
          | @tup pt ws _ e2 g2 => exact ⟨p, pt, ws, rfl, e, e2, g2⟩
theorem joinT_S (ys : List T) : Txt.join (" " : Str) (ys.map S) = S (TL.joinL [32] ys) := by
  rw [q_sp]
  exact join_S [32] ys
section
variable {P : Program} {w : World} {K : PySem.W.Frag} {mg : Str → Option Value} {base : Heap}
def spShow (n : Nat) : Sp := fun vs H Q _ => ∃ (v : V) (x : Tr) (m : Nat), vs = [v] ∧ Dt H v (plT x m) ∧ okT x ∧ dpT x < n ∧ szT x ≤ 100000 ∧ ∀ H', Same H H' → Q (.str (S (shT x))) H'
theorem ok_show {f : Addr} {fd : FuncData} {n k : Nat} (hk : 1 ≤ k) (F : Dfn K mg "show" st_show f fd ["datum"]) (M : Mg mg) (Gshow_atom : Cal P w K mg base 1 "show_atom" spShA) (Gshow : Cal P w K mg base k "show" (spShow n)) : Cal P w K mg base (k + 1) "show" (spShow (n + 1)) := by
  refine cal_mk F scshow (fun vs H Q E h => ?_) (fun cdv A outer s H vs Q E hr h => ?_)
  · obtain ⟨v, x, m, rfl, _⟩ := h
    rfl
  obtain ⟨v, x, m, rfl, hv, ok, hd, hs, q⟩ := h
  have hsl : sizeLine = 16777216 := sizeLine_eq
  refine ⟨_, (pss_cons (ps_if (pt_cmpR op_ne (pe_ix (ixT K rfl) (pv 0) pe_int (fun _ _ => rfl)) pe_str (nomark _)) (pss_one (ps_ret (pe_c Gshow_atom hr (by omega) (by rfl) (pa_cons (pe_ix (ixT K rfl) (pv 0) pe_int (fun _ _ => rfl)) (pa_cons (pe_ix (ixT K rfl) (pv 0) pe_int (fun _ _ => rfl)) pa_nil))))) pss_nil)
      (pss_cons (ps_set (i := 1) scshow.nd rfl (.inl rfl) (pe_lst pa_nil))
      (pss_cons (ps_for PassesOwn.never rfl (pi_tup (pe_ix (ixT K rfl) (pv 0) pe_int (fun _ _ => rfl))) (pg_name (i := 2) scshow.nd rfl (.inl rfl))
      (pss_one (ps_expr (pe_bm PySem.F.plainAttrs_list PySem.F.slot_list_append PySem.F.type_list_append mt_append (pv 1) (pa_cons (pe_c Gshow hr (by omega) (by rfl) (pa_cons (pv 2) pa_nil)) pa_nil)))))
      (pss_one (ps_ret (pe_op op_add_str (pe_op op_add_str pe_str (pe_bm PySem.F.plainAttrs_str PySem.F.slot_str_join PySem.F.type_str_join mt_join pe_str (pa_cons (pv 1) pa_nil))) pe_str)))))), ?_⟩
  cases hx : isL x with
  | false =>
    obtain ⟨p, u, rfl, hp, hu⟩ := dt_atom hx hv
    refine ⟨_, rfl, tc (ixt hp (atI_nat (j := 0) rfl) (tc ⟨rfl, _, rfl, ?_⟩))⟩
    rw [strE, decide_eq_false (kd_nl hx)]
    refine iteT ⟨_, rfl, tc (ixt hp (atI_nat (j := 0) rfl) ⟨_, rfl, tc (ixt hp (atI_nat (j := 1) rfl) ⟨x, u, rfl, hx, ok, hu, ?_⟩)⟩)⟩
    have := q H (Same.refl H)
    rw [shT_atom hx] at this
    exact this
  | true =>
    obtain ⟨l, rfl⟩ : ∃ l, x = .lst l := by
      cases x with
      | lst l => exact ⟨l, rfl⟩
      | _ => cases hx
    obtain ⟨p, pt, vs, rfl, hp, hpt, dv⟩ := dt_lst hv
    have hvl := dv.len
    rw [plL_len] at hvl
    have hlen := szL_len l
    simp only [okT] at ok
    simp only [dpT] at hd
    have hs' : 1 + szL l ≤ 100000 := by simp only [szT] at hs; exact hs
    refine ⟨_, rfl, tc (ixt hp (atI_nat (j := 0) rfl) (tc ⟨rfl, _, rfl, ?_⟩))⟩
    rw [strE, decide_eq_true rfl]
    refine iteF ?_
    dsimp only [tNext]
    refine ⟨Nat.zero_le _, fun b nb => ?_⟩
    have s1 := same_upd (o := .lst []) nb
    have e1 := upd_same (H := H) (a := b) (o := .lst [])
    generalize L2.upd H b (.lst []) = H1 at s1 e1 ⊢
    dsimp only [gName]
    refine ⟨_, rfl, tc (ixt (s1 _ _ hp) (atI_nat (j := 1) rfl) ⟨pt, rfl, ⟨_, SqT.of (s1 _ _ hpt)⟩, ?_⟩)⟩
    refine ⟨fun i mm σ H' => ∃ y : Option V, σ = [some (.ref p), some (.ref b), y] ∧ Same H H' ∧ H' b = some (.lst ((((l.map shT).take i).map S).map V.str)) ∧ i ≤ l.length ∧ mm = l.length - i, ⟨_, none, rfl, s1, e1, Nat.zero_le _, rfl⟩, ?_⟩
    rintro i mm σ H' ⟨y, rfl, sm, hb, hi, rfl⟩
    have hpt' := sm _ _ hpt
    by_cases hlt : i < l.length
    · refine .inr ⟨⟨vs, _, SqT.of hpt', List.getElem?_eq_getElem (by omega)⟩, fun σ' H'' => ∃ m', m' < l.length - i ∧ ∃ y : Option V, σ' = [some (.ref p), some (.ref b), y] ∧ Same H H'' ∧ H'' b = some (.lst ((((l.map shT).take (i + 1)).map S).map V.str)) ∧ i + 1 ≤ l.length ∧ m' = l.length - (i + 1), fun σ' H' h => h, ?_⟩
      rintro xx H'' ⟨rfl, hx2⟩
      have hx2 := hx2 vs (SqT.of hpt')
      obtain ⟨d, hd1, hd2⟩ := DtAll.get (dv.tk (same_tk sm)) hx2
      obtain ⟨z, m2, hz, rfl⟩ := plL_get hd1
      have hzm := List.mem_of_getElem? hz
      dsimp only [gName]
      refine ⟨_, rfl, .inl ⟨rfl, _, SqL.of hb⟩, _, rfl, xx, z, m2, rfl, hd2, okL_mem ok hzm, by have := dpL_mem hzm; omega, by have := szL_mem hzm; omega, fun H3 s3 => ?_⟩
      refine ⟨b, _, _, rfl, rfl, s3 _ _ hb, by rw [List.length_map, List.length_map, List.length_take]; omega, ?_⟩
      refine ⟨l.length - (i + 1), by omega, _, rfl, fun c o e => ?_, ?_, hlt, rfl⟩
      · rw [upd_ne (ne_of_none e nb)]
        exact s3 _ _ (sm _ _ e)
      · rw [upd_same, List.take_add_one, List.getElem?_map, hz, List.map_append, List.map_append]
        rfl
    · refine .inl ⟨⟨vs, SqT.of hpt', by omega⟩, ?_⟩
      rw [List.take_of_length_le (by rw [List.length_map]; omega), ← shL_map] at hb
      have hL := shL_len l ok
      have hj := join_len (shL l)
      have l1 : ("(" : Str).length = 1 := by decide +kernel
      have l2 : (")" : Str).length = 1 := by decide +kernel
      have l3 : (" " : Str).length = 1 := by decide +kernel
      have hsum : (((shL l).map S).map (·.length)).sum + ((shL l).map S).length * 1 = ((shL l).map fun y => y.length + 1).sum := by
        generalize shL l = ys
        induction ys with
        | nil => rfl
        | cons y ys ih =>
          simp only [List.map_cons, List.sum_cons, List.length_cons] at ih ⊢
          rw [len_S]
          omega
      refine ⟨rfl, _, rfl, _, b, (shL l).map S, rfl, rfl, .inl (SqL.of hb), by rw [l3, hsum]; omega, _, _, rfl, rfl, by rw [l1, joinT_S, len_S]; omega, _, _, rfl, rfl, by rw [Str.length_append, l1, l2, joinT_S, len_S]; omega, ?_⟩
      have := q H' sm
      simp only [shT] at this
      rw [joinT_S, q_open, q_close, S_app2, S_app2]
      exact this
theorem show0 {f : Addr} {fd : FuncData} (F : Dfn K mg "show" st_show f fd ["datum"]) : Cal P w K mg base 1 "show" (spShow 0) := by
  have no : ∀ vs H Q E, ¬ spShow 0 vs H Q E := fun vs H Q E h => by
    obtain ⟨_, _, _, _, _, _, h, _⟩ := h
    exact Nat.not_lt_zero _ h
  exact ⟨f, fd, _, ⟨fun vs H Q E h => absurd h (no vs H Q E), fun A outer s H args us vs Q E _ _ _ _ h => absurd h (no vs H Q E)⟩, F.mgf, F.fn.kp, F.b⟩
theorem show_all {f : Addr} {fd : FuncData} (F : Dfn K mg "show" st_show f fd ["datum"]) (M : Mg mg) (Gshow_atom : Cal P w K mg base 1 "show_atom" spShA) : ∀ n : Nat, Cal P w K mg base (n + 1) "show" (spShow n)
  | 0 => show0 F
  | n + 1 => ok_show (by omega) F M Gshow_atom (show_all F M Gshow_atom n)
end
end W4
set_option Elab.async false
set_option linter.all false
set_option maxRecDepth 100000
set_option maxHeartbeats 4000000
namespace W4
open PySem PySem.Spec PyProof.Rows L2 Com SX GxR
section
variable {P : Program} {w : World} {K : PySem.W.Frag} {mg : Str → Option Value} {base : Heap}
def spCnt (n : Nat) : Sp := fun vs H Q _ => ∃ (v : V) (x : Tr) (m : Nat), vs = [v] ∧ Dt H v (plT x m) ∧ dpT x < n ∧ szT x ≤ 100000 ∧ Q (.int (szT x : Nat)) H
theorem szL_take {l : List Tr} {i : Nat} {x : Tr} (h : l[i]? = some x) : szL (l.take (i + 1)) = szL (l.take i) + szT x := by
  rw [List.take_add_one, h]
  have : ∀ a b : List Tr, szL (a ++ b) = szL a + szL b := by
    intro a b
    induction a with
    | nil => simp [szL]
    | cons c a ih => simp only [List.cons_append, szL, ih]; omega
  rw [this]
  simp [szL]
theorem dpL_take {l : List Tr} {i : Nat} {x : Tr} (h : l[i]? = some x) : dpL (l.take (i + 1)) = max (dpL (l.take i)) (dpT x) := by
  rw [List.take_add_one, h]
  have : ∀ a b : List Tr, dpL (a ++ b) = max (dpL a) (dpL b) := by
    intro a b
    induction a with
    | nil => simp [dpL]
    | cons c a ih => simp only [List.cons_append, dpL, ih]; omega
  rw [this]
  simp [dpL]
theorem ok_count {f : Addr} {fd : FuncData} {n k : Nat} (F : Dfn K mg "count_data" st_count_data f fd ["datum"]) (M : Mg mg) (Gcount_data : Cal P w K mg base k "count_data" (spCnt n)) : Cal P w K mg base (k + 1) "count_data" (spCnt (n + 1)) := by
  refine cal_mk F sccount_data (fun vs H Q E h => ?_) (fun cdv A outer s H vs Q E hr h => ?_)
  · obtain ⟨v, x, m, rfl, _⟩ := h
    rfl
  obtain ⟨v, x, m, rfl, hv, hd, hs, q⟩ := h
  refine ⟨_, (pss_cons (ps_set (i := 1) sccount_data.nd rfl (.inl rfl) pe_int)
      (pss_cons (ps_if (pt_cmpR op_eq (pe_ix (ixT K rfl) (pv 0) pe_int (fun _ _ => rfl)) pe_str (nomark _)) (pss_one (ps_for PassesOwn.never rfl (pi_tup (pe_ix (ixT K rfl) (pv 0) pe_int (fun _ _ => rfl))) (pg_name (i := 2) sccount_data.nd rfl (.inl rfl))
      (pss_one (ps_aug (i := 1) sccount_data.nd rfl (.inl rfl) (pe_c Gcount_data hr (by omega) (by rfl) (pa_cons (pv 2) pa_nil)) ip_add)))) pss_nil)
      (pss_one (ps_ret (pv 1))))), ?_⟩
  dsimp only [gName]
  cases hx : isL x with
  | false =>
    obtain ⟨p, u, rfl, hp, hu⟩ := dt_atom hx hv
    rw [szT_atom hx] at q
    refine ⟨_, rfl, tc (ixt hp (atI_nat (j := 0) rfl) (tc ⟨rfl, _, rfl, ?_⟩))⟩
    rw [strE, decide_eq_false (kd_nl hx)]
    refine iteF ?_
    dsimp only [tNext]
    exact ⟨_, rfl, q⟩
  | true =>
    obtain ⟨l, rfl⟩ : ∃ l, x = .lst l := by
      cases x with
      | lst l => exact ⟨l, rfl⟩
      | _ => cases hx
    obtain ⟨p, pt, vs, rfl, hp, hpt, dv⟩ := dt_lst hv
    have hvl := dv.len
    rw [plL_len] at hvl
    simp only [dpT] at hd
    simp only [szT] at hs q
    refine ⟨_, rfl, tc (ixt hp (atI_nat (j := 0) rfl) (tc ⟨rfl, _, rfl, ?_⟩))⟩
    rw [strE, decide_eq_true rfl]
    refine iteT ⟨_, rfl, tc (ixt hp (atI_nat (j := 1) rfl) ⟨pt, rfl, ⟨_, SqT.of hpt⟩, ?_⟩)⟩
    refine ⟨fun i mm σ H' => ∃ y : Option V, σ = [some (.ref p), some (.int ((1 + szL (l.take i) : Nat) : Int)), y] ∧ H' = H ∧ i ≤ l.length ∧ mm = l.length - i, ⟨_, none, rfl, rfl, Nat.zero_le _, rfl⟩, ?_⟩
    rintro i mm σ H' ⟨y, rfl, rfl, hi, rfl⟩
    by_cases hlt : i < l.length
    · refine .inr ⟨⟨vs, _, SqT.of hpt, List.getElem?_eq_getElem (by omega)⟩, fun σ' H'' => ∃ m', m' < l.length - i ∧ ∃ y : Option V, σ' = [some (.ref p), some (.int ((1 + szL (l.take (i + 1)) : Nat) : Int)), y] ∧ H'' = H' ∧ i + 1 ≤ l.length ∧ m' = l.length - (i + 1), fun σ' H' h => h, ?_⟩
      rintro xx H'' ⟨rfl, hx2⟩
      have hx2 := hx2 vs (SqT.of hpt)
      obtain ⟨d, hd1, hd2⟩ := DtAll.get dv hx2
      obtain ⟨z, m2, hz, rfl⟩ := plL_get hd1
      have hzm := List.mem_of_getElem? hz
      dsimp only [gName]
      have hst := szL_take hz
      refine ⟨_, rfl, _, rfl, xx, z, m2, rfl, hd2, by have := dpL_mem hzm; omega, by have := szL_mem hzm; omega, _, _, rfl, rfl, ?_⟩
      dsimp only
      rw [show (((1 + szL (l.take i) : Nat) : Int) + ((szT z : Nat) : Int)) = ((1 + szL (l.take (i + 1)) : Nat) : Int) by rw [hst]; omega]
      exact ⟨l.length - (i + 1), by omega, _, rfl, rfl, hlt, rfl⟩
    · refine .inl ⟨⟨vs, SqT.of hpt, by omega⟩, _, rfl, ?_⟩
      rw [List.take_of_length_le (by omega)]
      exact q
theorem cnt_all {f : Addr} {fd : FuncData} (F : Dfn K mg "count_data" st_count_data f fd ["datum"]) (M : Mg mg) : ∀ n : Nat, Cal P w K mg base n "count_data" (spCnt n)
  | 0 => by
    have no : ∀ vs H Q E, ¬ spCnt 0 vs H Q E := fun vs H Q E h => by
      obtain ⟨_, _, _, _, _, h, _⟩ := h
      exact Nat.not_lt_zero _ h
    exact ⟨f, fd, _, ⟨fun vs H Q E h => absurd h (no vs H Q E), fun A outer s H args us vs Q E _ _ _ _ h => absurd h (no vs H Q E)⟩, F.mgf, F.fn.kp, F.b⟩
  | n + 1 => ok_count F M (cnt_all F M n)
def spDeep (n : Nat) : Sp := fun vs H Q _ => ∃ (v : V) (x : Tr) (m : Nat), vs = [v] ∧ Dt H v (plT x m) ∧ dpT x < n ∧ Q (.int (dpT x : Nat)) H
theorem dp_atom {x : Tr} (h : isL x = false) : dpT x = 0 := by
  cases x with
  | lst l => cases h
  | _ => simp [dpT]
theorem ok_deepest {f : Addr} {fd : FuncData} {n k : Nat} (F : Dfn K mg "deepest" st_deepest f fd ["datum"]) (M : Mg2 mg) (Gdeepest : Cal P w K mg base k "deepest" (spDeep n)) : Cal P w K mg base (k + 1) "deepest" (spDeep (n + 1)) := by
  refine cal_mk F scdeepest (fun vs H Q E h => ?_) (fun cdv A outer s H vs Q E hr h => ?_)
  · obtain ⟨v, x, m, rfl, _⟩ := h
    rfl
  obtain ⟨v, x, m, rfl, hv, hd, q⟩ := h
  refine ⟨_, (pss_cons (ps_if (pt_cmpR op_ne (pe_ix (ixT K rfl) (pv 0) pe_int (fun _ _ => rfl)) pe_str (nomark _)) (pss_one (ps_ret pe_int)) pss_nil)
      (pss_cons (ps_set (i := 1) scdeepest.nd rfl (.inl rfl) pe_int)
      (pss_cons (ps_for PassesOwn.never rfl (pi_tup (pe_ix (ixT K rfl) (pv 0) pe_int (fun _ _ => rfl))) (pg_name (i := 2) scdeepest.nd rfl (.inl rfl))
      (pss_one (ps_set (i := 1) scdeepest.nd rfl (.inl rfl) (pe_callB (call_max2 rfl) (by rfl) M.max b_max (pa_cons (pv 1) (pa_cons (pe_c Gdeepest hr (by omega) (by rfl) (pa_cons (pv 2) pa_nil)) pa_nil))))))
      (pss_one (ps_ret (pe_op op_add (pv 1) pe_int)))))), ?_⟩
  cases hx : isL x with
  | false =>
    obtain ⟨p, u, rfl, hp, hu⟩ := dt_atom hx hv
    rw [dp_atom hx] at q
    refine ⟨_, rfl, tc (ixt hp (atI_nat (j := 0) rfl) (tc ⟨rfl, _, rfl, ?_⟩))⟩
    rw [strE, decide_eq_false (kd_nl hx)]
    exact iteT q
  | true =>
    obtain ⟨l, rfl⟩ : ∃ l, x = .lst l := by
      cases x with
      | lst l => exact ⟨l, rfl⟩
      | _ => cases hx
    obtain ⟨p, pt, vs, rfl, hp, hpt, dv⟩ := dt_lst hv
    have hvl := dv.len
    rw [plL_len] at hvl
    simp only [dpT] at hd q
    refine ⟨_, rfl, tc (ixt hp (atI_nat (j := 0) rfl) (tc ⟨rfl, _, rfl, ?_⟩))⟩
    rw [strE, decide_eq_true rfl]
    refine iteF ?_
    dsimp only [tNext, gName]
    refine ⟨_, rfl, tc (ixt hp (atI_nat (j := 1) rfl) ⟨pt, rfl, ⟨_, SqT.of hpt⟩, ?_⟩)⟩
    refine ⟨fun i mm σ H' => ∃ y : Option V, σ = [some (.ref p), some (.int ((dpL (l.take i) : Nat) : Int)), y] ∧ H' = H ∧ i ≤ l.length ∧ mm = l.length - i, ⟨_, none, by simp [dpL]; rfl, rfl, Nat.zero_le _, rfl⟩, ?_⟩
    rintro i mm σ H' ⟨y, rfl, rfl, hi, rfl⟩
    by_cases hlt : i < l.length
    · refine .inr ⟨⟨vs, _, SqT.of hpt, List.getElem?_eq_getElem (by omega)⟩, fun σ' H'' => ∃ m', m' < l.length - i ∧ ∃ y : Option V, σ' = [some (.ref p), some (.int ((dpL (l.take (i + 1)) : Nat) : Int)), y] ∧ H'' = H' ∧ i + 1 ≤ l.length ∧ m' = l.length - (i + 1), fun σ' H' h => h, ?_⟩
      rintro xx H'' ⟨rfl, hx2⟩
      have hx2 := hx2 vs (SqT.of hpt)
      obtain ⟨d, hd1, hd2⟩ := DtAll.get dv hx2
      obtain ⟨z, m2, hz, rfl⟩ := plL_get hd1
      have hzm := List.mem_of_getElem? hz
      dsimp only [gName]
      have hst := dpL_take hz
      refine ⟨_, rfl, _, rfl, xx, z, m2, rfl, hd2, by have := dpL_mem hzm; omega, _, _, rfl, ?_⟩
      rw [show (if ((dpT z : Nat) : Int) > ((dpL (l.take i) : Nat) : Int) then ((dpT z : Nat) : Int) else ((dpL (l.take i) : Nat) : Int)) = ((dpL (l.take (i + 1)) : Nat) : Int) by
        rw [hst]
        split <;> omega]
      dsimp only [gName]
      exact ⟨l.length - (i + 1), by omega, _, rfl, rfl, hlt, rfl⟩
    · refine .inl ⟨⟨vs, SqT.of hpt, by omega⟩, _, rfl, _, _, rfl, rfl, ?_⟩
      dsimp only
      rw [List.take_of_length_le (by omega), show ((dpL l : Nat) : Int) + 1 = ((1 + dpL l : Nat) : Int) by omega]
      exact q
theorem deep_all {f : Addr} {fd : FuncData} (F : Dfn K mg "deepest" st_deepest f fd ["datum"]) (M : Mg2 mg) : ∀ n : Nat, Cal P w K mg base n "deepest" (spDeep n)
  | 0 => by
    have no : ∀ vs H Q E, ¬ spDeep 0 vs H Q E := fun vs H Q E h => by
      obtain ⟨_, _, _, _, _, h, _⟩ := h
      exact Nat.not_lt_zero _ h
    exact ⟨f, fd, _, ⟨fun vs H Q E h => absurd h (no vs H Q E), fun A outer s H args us vs Q E _ _ _ _ h => absurd h (no vs H Q E)⟩, F.mgf, F.fn.kp, F.b⟩
  | n + 1 => ok_deepest F M (deep_all F M n)
/-! show_text -/
def lnT (l : List Tr) : List T := l.map fun x => shT x ++ [10]
def spShText (n : Nat) : Sp := fun vs H Q _ => ∃ (v : V) (l : List Tr) (m : Nat), vs = [v] ∧ Dt H v (.tuple (plL l m)) ∧ okL l ∧ dpL l < n ∧ szL l ≤ 100000 ∧ ∀ H', Same H H' → Q (.str (S (lnT l).flatten)) H'
theorem joinE_S : ∀ ys : List T, Txt.join ("" : Str) (ys.map S) = S ys.flatten := by
  intro ys
  rw [q_emp, join_S [] ys]
  congr 1
  induction ys with
  | nil => rfl
  | cons y r ih =>
    cases r with
    | nil => simp [TL.joinL]
    | cons z r =>
      show y ++ ([] ++ TL.joinL [] (z :: r)) = _
      rw [List.nil_append, ih]
      rfl
theorem ok_show_text {f : Addr} {fd : FuncData} {n k : Nat} (F : Dfn K mg "show_text" st_show_text f fd ["forms"]) (M : Mg mg) (Gshow : Cal P w K mg base k "show" (spShow n)) : Cal P w K mg base (k + 1) "show_text" (spShText n) := by
  refine cal_mk F scshow_text (fun vs H Q E h => ?_) (fun cdv A outer s H vs Q E hr h => ?_)
  · obtain ⟨v, l, m, rfl, _⟩ := h
    rfl
  obtain ⟨v, l, m, rfl, hv, ok, hd, hs, q⟩ := h
  have hsl : sizeLine = 16777216 := sizeLine_eq
  refine ⟨_, (pss_cons (ps_set (i := 1) scshow_text.nd rfl (.inl rfl) (pe_lst pa_nil))
      (pss_cons (ps_for PassesOwn.never rfl (pi_tup (pv 0)) (pg_name (i := 2) scshow_text.nd rfl (.inl rfl))
      (pss_one (ps_expr (pe_bm PySem.F.plainAttrs_list PySem.F.slot_list_append PySem.F.type_list_append mt_append (pv 1) (pa_cons (pe_op op_add_str (pe_c Gshow hr (by omega) (by rfl) (pa_cons (pv 2) pa_nil)) pe_str) pa_nil)))))
      (pss_one (ps_ret (pe_bm PySem.F.plainAttrs_str PySem.F.slot_str_join PySem.F.type_str_join mt_join pe_str (pa_cons (pv 1) pa_nil)))))), ?_⟩
  cases hv with
  | @tup pt vs _ hpt dv =>
  have hvl := dv.len
  rw [plL_len] at hvl
  have hlen := szL_len l
  refine ⟨Nat.zero_le _, fun b nb => ?_⟩
  have s1 := same_upd (o := .lst []) nb
  have e1 := upd_same (H := H) (a := b) (o := .lst [])
  generalize L2.upd H b (.lst []) = H1 at s1 e1 ⊢
  dsimp only [gName]
  refine ⟨_, rfl, pt, rfl, ⟨_, SqT.of (s1 _ _ hpt)⟩, ?_⟩
  refine ⟨fun i mm σ H' => ∃ y : Option V, σ = [some (.ref pt), some (.ref b), y] ∧ Same H H' ∧ H' b = some (.lst (((lnT l).take i).map S |>.map V.str)) ∧ i ≤ l.length ∧ mm = l.length - i, ⟨_, none, rfl, s1, e1, Nat.zero_le _, rfl⟩, ?_⟩
  rintro i mm σ H' ⟨y, rfl, sm, hb, hi, rfl⟩
  have hpt' := sm _ _ hpt
  have lnl : (lnT l).length = l.length := List.length_map ..
  by_cases hlt : i < l.length
  · refine .inr ⟨⟨vs, _, SqT.of hpt', List.getElem?_eq_getElem (by omega)⟩, fun σ' H'' => ∃ m', m' < l.length - i ∧ ∃ y : Option V, σ' = [some (.ref pt), some (.ref b), y] ∧ Same H H'' ∧ H'' b = some (.lst (((lnT l).take (i + 1)).map S |>.map V.str)) ∧ i + 1 ≤ l.length ∧ m' = l.length - (i + 1), fun σ' H' h => h, ?_⟩
    rintro xx H'' ⟨rfl, hx2⟩
    have hx2 := hx2 vs (SqT.of hpt')
    obtain ⟨d, hd1, hd2⟩ := DtAll.get (dv.tk (same_tk sm)) hx2
    obtain ⟨z, m2, hz, rfl⟩ := plL_get hd1
    have hzm := List.mem_of_getElem? hz
    have hzs := szL_mem hzm
    have hzl := sh_len z (okL_mem ok hzm)
    have l1 : ("\n" : Str).length = 1 := by decide +kernel
    dsimp only [gName]
    refine ⟨_, rfl, .inl ⟨rfl, _, SqL.of hb⟩, _, rfl, xx, z, m2, rfl, hd2, okL_mem ok hzm, by have := dpL_mem hzm; omega, by omega, fun H3 s3 => ⟨_, _, rfl, rfl, by rw [l1, len_S]; omega, ?_⟩⟩
    refine ⟨b, _, _, rfl, rfl, s3 _ _ hb, by rw [List.length_map, List.length_map, List.length_take]; omega, ?_⟩
    refine ⟨l.length - (i + 1), by omega, _, rfl, fun c o e => ?_, ?_, hlt, rfl⟩
    · rw [upd_ne (ne_of_none e nb)]
      exact s3 _ _ (sm _ _ e)
    · have hln : (lnT l)[i]? = some (shT z ++ [10]) := by
        unfold lnT
        rw [List.getElem?_map, hz]
        rfl
      rw [upd_same, List.take_add_one, hln, List.map_append, List.map_append, q_nl, S_app2]
      rfl
  · refine .inl ⟨⟨vs, SqT.of hpt', by omega⟩, ?_⟩
    rw [List.take_of_length_le (by omega)] at hb
    have l3 : ("" : Str).length = 0 := by decide +kernel
    have hsum : ∀ ll : List Tr, okL ll → (((lnT ll).map S).map (·.length)).sum ≤ 105 * szL ll := by
      intro ll
      induction ll with
      | nil => intro _; exact Nat.zero_le _
      | cons z r ih =>
        intro o
        simp only [okL] at o
        have h1 := sh_len z o.1
        have h2 := ih o.2
        show (S (shT z ++ [10])).length + _ ≤ _
        rw [len_S, List.length_append, List.length_singleton]
        simp only [szL]
        have h3 : (((lnT r).map S).map (·.length)).sum ≤ 105 * szL r := h2
        have h4 : (List.foldr (fun x1 x2 => x1 + x2) 0 (List.map (fun x => x.length) (List.map S (List.map (fun x => shT x ++ [10]) r)))) = (((lnT r).map S).map (·.length)).sum := rfl
        omega
    have hs2 := hsum l ok
    refine ⟨rfl, _, rfl, _, b, (lnT l).map S, rfl, rfl, .inl (SqL.of hb), by rw [l3]; omega, ?_⟩
    rw [joinE_S]
    exact q H' sm
end
end W4
set_option Elab.async false
set_option linter.all false
set_option maxRecDepth 100000
set_option maxHeartbeats 4000000
namespace W4
open PySem PySem.Spec PyProof.Rows L2 Com SX GxR
theorem same_trans {H1 H2 H3 : Hp} (a : Same H1 H2) (b : Same H2 H3) : Same H1 H3 := fun c o e => b c o (a c o e)
/-! the law's own trees: tuples, and lists that nothing changes but those of bad -/
mutual
inductive TrAt (bad : List Addr) (H : Hp) : V → Tr → Prop where
  | leaf {p : Addr} {u : V} {x : Tr} : isL x = false → H p = some (.tup [.str x.kd, u]) → Dt H u x.vl → TrAt bad H (.ref p) x
  | lst {p q : Addr} {vs : List V} {l : List Tr} : H p = some (.tup [.str "list", .ref q]) → H q = some (.lst vs) → q ∉ bad → TrAll bad H vs l → TrAt bad H (.ref p) (.lst l)
inductive TrAll (bad : List Addr) (H : Hp) : List V → List Tr → Prop where
  | nil : TrAll bad H [] []
  | cons {v : V} {vs : List V} {x : Tr} {l : List Tr} : TrAt bad H v x → TrAll bad H vs l → TrAll bad H (v :: vs) (x :: l)
end
def Kp (bad : List Addr) (H H' : Hp) : Prop := ∀ b o, b ∉ bad → H b = some o → H' b = some o
theorem Kp.refl (bad : List Addr) (H : Hp) : Kp bad H H := fun _ _ _ h => h
theorem Kp.trans {bad : List Addr} {H1 H2 H3 : Hp} (a : Kp bad H1 H2) (b : Kp bad H2 H3) : Kp bad H1 H3 := fun c o h e => b c o h (a c o h e)
theorem Kp.same {bad : List Addr} {H H' : Hp} (h : Same H H') : Kp bad H H' := fun b o _ e => h b o e
/-- tuples stay, too -/
structure Kq (bad : List Addr) (H H' : Hp) : Prop where
  k : Kp bad H H'
  t : Tk H H'
theorem Kq.refl (bad : List Addr) (H : Hp) : Kq bad H H := ⟨.refl _ _, .refl _⟩
theorem Kq.trans {bad : List Addr} {H1 H2 H3 : Hp} (a : Kq bad H1 H2) (b : Kq bad H2 H3) : Kq bad H1 H3 := ⟨a.k.trans b.k, a.t.trans b.t⟩
theorem Kq.same {bad : List Addr} {H H' : Hp} (h : Same H H') : Kq bad H H' := ⟨.same h, same_tk h⟩
theorem Kq.keep {td : Addr} {H H' : Hp} {xs : List V} (k : Keep td H H') (e : H td = some (.lst xs)) : Kq [td] H H' := ⟨fun b o hb h => k b o h (fun z => hb (by rw [z]; exact List.mem_cons_self)), k.tk e⟩
theorem TrAt.kq {bad : List Addr} {H H' : Hp} (k : Kq bad H H') {v : V} {x : Tr} (h : TrAt bad H v x) : TrAt bad H' v x := by
  refine TrAt.rec (bad := bad) (H := H) (motive_1 := fun v x _ => TrAt bad H' v x) (motive_2 := fun vs l _ => TrAll bad H' vs l) ?_ ?_ ?_ ?_ h
  · intro p u x hx hp hu
    exact .leaf hx (k.t _ _ hp) (hu.tk k.t)
  · intro p q vs l hp hq hb _ ih
    exact .lst (k.t _ _ hp) (k.k _ _ hb hq) hb ih
  · exact .nil
  · intro v vs x l _ _ h1 h2
    exact .cons h1 h2
theorem TrAll.kq {bad : List Addr} {H H' : Hp} (k : Kq bad H H') : ∀ {vs : List V} {l : List Tr}, TrAll bad H vs l → TrAll bad H' vs l
  | _, _, .nil => .nil
  | _, _, .cons h t => .cons (h.kq k) (t.kq k)
theorem TrAll.len {bad : List Addr} {H : Hp} : ∀ {vs : List V} {l : List Tr}, TrAll bad H vs l → vs.length = l.length
  | _, _, .nil => rfl
  | _, _, .cons _ t => congrArg Nat.succ t.len
theorem TrAll.get {bad : List Addr} {H : Hp} : ∀ {vs : List V} {l : List Tr} {i : Nat} {v : V}, TrAll bad H vs l → vs[i]? = some v → ∃ x, l[i]? = some x ∧ TrAt bad H v x
  | _, _, _, _, .nil, e => by simp at e
  | _, _, 0, _, .cons h _, e => by
    simp only [List.getElem?_cons_zero, Option.some.injEq] at e
    subst e
    exact ⟨_, rfl, h⟩
  | _, _, i + 1, _, .cons _ t, e => by
    simp only [List.getElem?_cons_succ] at e
    obtain ⟨x, h1, h2⟩ := t.get e
    exact ⟨x, by rw [List.getElem?_cons_succ]; exact h1, h2⟩
theorem TrAll.app {bad : List Addr} {H : Hp} : ∀ {vs ws : List V} {l m : List Tr}, TrAll bad H vs l → TrAll bad H ws m → TrAll bad H (vs ++ ws) (l ++ m)
  | _, _, _, _, .nil, h => h
  | _, _, _, _, .cons a t, h => .cons a (t.app h)
theorem TrAt.more {bad bad' : List Addr} {H : Hp} (hb : ∀ b ∈ bad', b ∈ bad ∨ H b = none) {v : V} {x : Tr} (h : TrAt bad H v x) : TrAt bad' H v x := by
  refine TrAt.rec (bad := bad) (H := H) (motive_1 := fun v x _ => TrAt bad' H v x) (motive_2 := fun vs l _ => TrAll bad' H vs l) ?_ ?_ ?_ ?_ h
  · intro p u x hx hp hu
    exact .leaf hx hp hu
  · intro p q vs l hp hq hq2 _ ih
    refine .lst hp hq (fun z => ?_) ih
    rcases hb q z with y | y
    · exact hq2 y
    · rw [y] at hq
      cases hq
  · exact .nil
  · intro v vs x l _ _ h1 h2
    exact .cons h1 h2
theorem TrAll.more {bad bad' : List Addr} {H : Hp} (hb : ∀ b ∈ bad', b ∈ bad ∨ H b = none) : ∀ {vs : List V} {l : List Tr}, TrAll bad H vs l → TrAll bad' H vs l
  | _, _, .nil => .nil
  | _, _, .cons h t => .cons (h.more hb) (t.more hb)
/-- a list comprehension over a list -/
theorem lc_list {K : PySem.W.Frag} {q : Addr} {xs : List V} {g : TG} {tt : L2.TT} {te : TE} {vs : List Nat} {σ : L2.St} {H1 : Hp} {D : Addr} {Qd : Hp → Prop} (Pv : Nat → Hp → Prop) (hq : ∀ i H, Pv i H → H q = some (.lst xs)) (h0 : Pv 0 (upd H1 D (.lst [])))
    (hs : ∀ i v H, xs[i]? = some v → Pv i H → g v (wipe σ vs) H fun σ2 H2 => wipe σ2 vs = wipe σ vs ∧ tt σ2 H2 fun b H3 =>
      if b = true then te σ2 H3 fun y H4 => ∃ acc, H4 D = some (.lst acc) ∧ acc.length < sizeLine ∧ Pv (i + 1) (upd H4 D (.lst (acc ++ [y]))) else Pv (i + 1) H3) (hd : ∀ H, Pv xs.length H → Qd H) :
    ∃ W : Nat → Nat → Hp → Prop, (∃ m, W 0 m (upd H1 D (.lst []))) ∧ ∀ i m H, W i m H →
      ((Itl K q).stop i H ∧ Qd H) ∨ ((Itl K q).go i H ∧ ∃ Nx : Hp → Prop, (∀ H', Nx H' → ∃ m', m' < m ∧ W (i + 1) m' H') ∧ ∀ v H', (Itl K q).yld i H v H' → g v (wipe σ vs) H' fun σ2 H2 => wipe σ2 vs = wipe σ vs ∧ tt σ2 H2 fun b H3 =>
        if b = true then te σ2 H3 fun y H4 => ∃ acc, H4 D = some (.lst acc) ∧ acc.length < sizeLine ∧ Nx (upd H4 D (.lst (acc ++ [y]))) else Nx H3) := by
  refine ⟨fun i m H => m = xs.length - i ∧ i ≤ xs.length ∧ Pv i H, ⟨_, rfl, Nat.zero_le _, h0⟩, ?_⟩
  rintro i m H ⟨rfl, hi, p⟩
  have e := hq i H p
  by_cases hlt : i < xs.length
  · refine .inr ⟨⟨xs, xs[i], SqL.of e, List.getElem?_eq_getElem hlt⟩, Pv (i + 1), fun H' p' => ⟨xs.length - (i + 1), by omega, rfl, hlt, p'⟩, fun v H' y => ?_⟩
    obtain ⟨rfl, hv⟩ := y
    exact hs i v _ (hv xs (SqL.of e)) p
  · have ei : i = xs.length := by omega
    subst ei
    exact .inl ⟨⟨xs, SqL.of e, Nat.le_refl _⟩, hd _ p⟩
theorem b_sum : bootBuiltins "sum" = some (.builtin "sum") := by decide +kernel
section
variable {P : Program} {w : World} {K : PySem.W.Frag} {mg : Str → Option Value} {base : Heap}
def spLCnt (n : Nat) : Sp := fun vs H Q _ => ∃ (v : V) (x : Tr) (bad : List Addr), vs = [v] ∧ TrAt bad H v x ∧ dpT x < n ∧ szT x ≤ 100000 ∧ ∀ H', Same H H' → Q (.int (szT x : Nat)) H'
theorem ok_lcount {f : Addr} {fd : FuncData} {n k : Nat} (F : Dfn K mg "_law_count" st__law_count f fd ["tree"]) (M : Mg2 mg) (G_law_count : Cal P w K mg base k "_law_count" (spLCnt n)) : Cal P w K mg base (k + 1) "_law_count" (spLCnt (n + 1)) := by
  refine cal_mk F sc_law_count (fun vs H Q E h => ?_) (fun cdv A outer s H vs Q E hr h => ?_)
  · obtain ⟨v, x, bad, rfl, _⟩ := h
    rfl
  obtain ⟨v, x, bad, rfl, hv, hd, hs, q⟩ := h
  refine ⟨_, (pss_one (ps_ret (pe_op op_add pe_int (pe_ifExp (pt_cmpR op_eq (pe_ix (ixT K rfl) (pv 0) pe_int (fun _ _ => rfl)) pe_str (nomark _)) (pe_callB (cr_sum rfl) (by rfl) M.sum b_sum (pa_cons (pe_lc (own := [("part", 1)]) (g := gName 1) (by rfl) sc_law_count.nd (pi_list (pe_ix (ixT K rfl) (pv 0) pe_int (fun _ _ => rfl))) (blkOk_by (own := [("part", 1)]) (N := ["tree", "part"]) (sc := defScope st__law_count) (by decide +kernel)) (fun _ _ _ _ _ => (pg_name (i := 1) sc_law_count.nd rfl (.inl rfl))) (fun _ _ _ _ _ => pts_nil) (fun _ _ _ _ _ => (pe_c G_law_count hr (by omega) (by rfl) (pa_cons (pv 1) pa_nil)))) pa_nil)) pe_int)))), ?_⟩
  cases hv with
  | @leaf p u x hx hp hu =>
    rw [szT_atom hx] at q
    refine ⟨_, rfl, tc (ixt hp (atI_nat (j := 0) rfl) (tc ⟨rfl, _, rfl, ?_⟩))⟩
    rw [strE, decide_eq_false (kd_nl hx)]
    exact iteF ⟨_, _, rfl, rfl, q H (Same.refl H)⟩
  | @lst p qa vs l hp hqa hnb hall =>
    simp only [dpT] at hd
    simp only [szT] at hs q
    have hvl := hall.len
    have hlen := szL_len l
    refine ⟨_, rfl, tc (ixt hp (atI_nat (j := 0) rfl) (tc ⟨rfl, _, rfl, ?_⟩))⟩
    rw [strE, decide_eq_true rfl]
    refine iteT ⟨_, rfl, tc (ixt hp (atI_nat (j := 1) rfl) ⟨qa, rfl, ⟨_, SqL.of hqa⟩, fun D nD => ?_⟩)⟩
    refine lc_list (fun i H' => Same H H' ∧ H' D = some (.lst ((((l.take i).map fun x => ((szT x : Nat) : Int)).map V.int)))) (fun i H' h => h.1 _ _ hqa) ⟨same_upd nD, upd_same⟩ (fun i v H' hvi ⟨ss, hD⟩ => ?_) (fun H' ⟨ss, hD⟩ => ?_)
    · obtain ⟨z, hz, hzt⟩ := hall.get hvi
      have hzm := List.mem_of_getElem? hz
      refine ⟨rfl, ?_⟩
      unfold tYes
      refine iteT ⟨_, rfl, v, z, bad, rfl, hzt.kq (.same ss), by have := dpL_mem hzm; omega, by have := szL_mem hzm; omega, fun H4 s4 => ?_⟩
      refine ⟨_, s4 _ _ hD, ?_, fun c o e => ?_, ?_⟩
      · rw [List.length_map, List.length_map, List.length_take]
        show _ < 2 ^ 24
        omega
      · rw [upd_ne (ne_of_none e nD)]
        exact s4 _ _ (ss _ _ e)
      · rw [upd_same, List.take_add_one, hz, List.map_append, List.map_append]
        rfl
    · rw [hvl, List.take_length] at hD
      refine ⟨D, _, rfl, SqL.of hD, _, _, rfl, rfl, ?_⟩
      have e : ∀ l : List Tr, (l.map fun x => ((szT x : Nat) : Int)).sum = ((szL l : Nat) : Int) := by
        intro l
        induction l with
        | nil => simp [szL]
        | cons x l ih =>
          rw [List.map_cons, List.sum_cons, ih]
          simp only [szL]
          omega
      rw [e]
      dsimp only
      rw [show (1 : Int) + ((szL l : Nat) : Int) = ((1 + szL l : Nat) : Int) by omega]
      exact q H' ss
theorem lcnt_all {f : Addr} {fd : FuncData} (F : Dfn K mg "_law_count" st__law_count f fd ["tree"]) (M : Mg2 mg) : ∀ n : Nat, Cal P w K mg base n "_law_count" (spLCnt n)
  | 0 => by
    have no : ∀ vs H Q E, ¬ spLCnt 0 vs H Q E := fun vs H Q E h => by
      obtain ⟨_, _, _, _, _, h, _⟩ := h
      exact Nat.not_lt_zero _ h
    exact ⟨f, fd, _, ⟨fun vs H Q E h => absurd h (no vs H Q E), fun A outer s H args us vs Q E _ _ _ _ h => absurd h (no vs H Q E)⟩, F.mgf, F.fn.kp, F.b⟩
  | n + 1 => ok_lcount F M (lcnt_all F M n)
def spLDep (n : Nat) : Sp := fun vs H Q _ => ∃ (v : V) (x : Tr) (bad : List Addr), vs = [v] ∧ TrAt bad H v x ∧ dpT x < n ∧ szT x ≤ 100000 ∧ ∀ H', Same H H' → Q (.int (dpT x : Nat)) H'
theorem ok_ldepth {f : Addr} {fd : FuncData} {n k : Nat} (F : Dfn K mg "_law_depth" st__law_depth f fd ["tree"]) (M : Mg2 mg) (G_law_depth : Cal P w K mg base k "_law_depth" (spLDep n)) : Cal P w K mg base (k + 1) "_law_depth" (spLDep (n + 1)) := by
  refine cal_mk F sc_law_depth (fun vs H Q E h => ?_) (fun cdv A outer s H vs Q E hr h => ?_)
  · obtain ⟨v, x, bad, rfl, _⟩ := h
    rfl
  obtain ⟨v, x, bad, rfl, hv, hd, hs, q⟩ := h
  refine ⟨_, (pss_one (ps_ret (pe_ifExp (pt_cmpR op_eq (pe_ix (ixT K rfl) (pv 0) pe_int (fun _ _ => rfl)) pe_str (nomark _)) (pe_op op_add pe_int (pe_callB (cr_max rfl) (by rfl) M.max b_max (pa_cons (pe_op op_cat (pe_lc (own := [("part", 1)]) (g := gName 1) (by rfl) sc_law_depth.nd (pi_list (pe_ix (ixT K rfl) (pv 0) pe_int (fun _ _ => rfl))) (blkOk_by (own := [("part", 1)]) (N := ["tree", "part"]) (sc := defScope st__law_depth) (by decide +kernel)) (fun _ _ _ _ _ => (pg_name (i := 1) sc_law_depth.nd rfl (.inl rfl))) (fun _ _ _ _ _ => pts_nil) (fun _ _ _ _ _ => (pe_c G_law_depth hr (by omega) (by rfl) (pa_cons (pv 1) pa_nil)))) (pe_lst (pa_cons pe_int pa_nil))) pa_nil))) pe_int))), ?_⟩
  cases hv with
  | @leaf p u x hx hp hu =>
    rw [dp_atom hx] at q
    refine ⟨_, rfl, tc (ixt hp (atI_nat (j := 0) rfl) (tc ⟨rfl, _, rfl, ?_⟩))⟩
    rw [strE, decide_eq_false (kd_nl hx)]
    exact iteF (q H (Same.refl H))
  | @lst p qa vs l hp hqa hnb hall =>
    simp only [dpT] at hd q
    have hs' : 1 + szL l ≤ 100000 := by simp only [szT] at hs; exact hs
    have hvl := hall.len
    have hlen := szL_len l
    refine ⟨_, rfl, tc (ixt hp (atI_nat (j := 0) rfl) (tc ⟨rfl, _, rfl, ?_⟩))⟩
    rw [strE, decide_eq_true rfl]
    refine iteT ⟨_, rfl, tc (ixt hp (atI_nat (j := 1) rfl) ⟨qa, rfl, ⟨_, SqL.of hqa⟩, fun D nD => ?_⟩)⟩
    refine lc_list (fun i H' => Same H H' ∧ H' D = some (.lst ((((l.take i).map fun x => ((dpT x : Nat) : Int)).map V.int)))) (fun i H' h => h.1 _ _ hqa) ⟨same_upd nD, upd_same⟩ (fun i v H' hvi ⟨ss, hD⟩ => ?_) (fun H' ⟨ss, hD⟩ => ?_)
    · obtain ⟨z, hz, hzt⟩ := hall.get hvi
      have hzm := List.mem_of_getElem? hz
      refine ⟨rfl, ?_⟩
      unfold tYes
      refine iteT ⟨_, rfl, v, z, bad, rfl, hzt.kq (.same ss), by have := dpL_mem hzm; omega, by have := szL_mem hzm; omega, fun H4 s4 => ?_⟩
      refine ⟨_, s4 _ _ hD, ?_, fun c o e => ?_, ?_⟩
      · rw [List.length_map, List.length_map, List.length_take]
        show _ < 2 ^ 24
        omega
      · rw [upd_ne (ne_of_none e nD)]
        exact s4 _ _ (ss _ _ e)
      · rw [upd_same, List.take_add_one, hz, List.map_append, List.map_append]
        rfl
    · rw [hvl, List.take_length] at hD
      refine ⟨Nat.succ_le_of_lt (by decide), fun z0 nz => ?_⟩
      have s2 := same_upd (o := .lst [V.int 0]) nz
      have hD2 := s2 _ _ hD
      have e2 := upd_same (H := H') (a := z0) (o := .lst [V.int 0])
      generalize L2.upd H' z0 (.lst [V.int 0]) = H2 at s2 hD2 e2 ⊢
      refine ⟨D, z0, _, _, rfl, rfl, hD2, e2, by rw [List.length_map, List.length_map]; show _ + 1 ≤ 2 ^ 24; omega, fun r nr => ?_⟩
      have s3 := same_upd (o := .lst ((l.map fun x => ((dpT x : Nat) : Int)).map V.int ++ [V.int 0])) nr
      refine ⟨r, (l.map fun x => ((dpT x : Nat) : Int)) ++ [0], rfl, by rw [List.map_append]; exact SqL.of upd_same, by rw [List.length_append]; simp, fun m hm hmax => ?_⟩
      have em : m = ((dpL l : Nat) : Int) := by
        have le1 : ∀ l : List Tr, (∀ x ∈ l, ((dpT x : Nat) : Int) ≤ m) → 0 ≤ m → ((dpL l : Nat) : Int) ≤ m := by
          intro l
          induction l with
          | nil => intro _ h; simpa [dpL] using h
          | cons x l ih =>
            intro h h0
            have h1 := h x List.mem_cons_self
            have h2 := ih (fun y hy => h y (List.mem_cons_of_mem _ hy)) h0
            simp only [dpL]
            omega
        have h0 : 0 ≤ m := hmax 0 (List.mem_append_right _ List.mem_cons_self)
        have h1 := le1 l (fun x hx => hmax _ (List.mem_append_left _ (List.mem_map.mpr ⟨x, hx, rfl⟩))) h0
        rcases List.mem_append.mp hm with hm | hm
        · obtain ⟨x, hx, rfl⟩ := List.mem_map.mp hm
          have := dpL_mem hx
          omega
        · have := List.mem_singleton.mp hm
          omega
      rw [em]
      refine ⟨_, _, rfl, rfl, ?_⟩
      dsimp only
      rw [show (1 : Int) + ((dpL l : Nat) : Int) = ((1 + dpL l : Nat) : Int) by omega]
      exact q _ (same_trans ss (same_trans s2 s3))
theorem ldep_all {f : Addr} {fd : FuncData} (F : Dfn K mg "_law_depth" st__law_depth f fd ["tree"]) (M : Mg2 mg) : ∀ n : Nat, Cal P w K mg base n "_law_depth" (spLDep n)
  | 0 => by
    have no : ∀ vs H Q E, ¬ spLDep 0 vs H Q E := fun vs H Q E h => by
      obtain ⟨_, _, _, _, _, h, _⟩ := h
      exact Nat.not_lt_zero _ h
    exact ⟨f, fd, _, ⟨fun vs H Q E h => absurd h (no vs H Q E), fun A outer s H args us vs Q E _ _ _ _ h => absurd h (no vs H Q E)⟩, F.mgf, F.fn.kp, F.b⟩
  | n + 1 => ok_ldepth F M (ldep_all F M n)
end
end W4
set_option Elab.async false
set_option linter.all false
set_option maxRecDepth 100000
set_option maxHeartbeats 4000000
namespace W4
open PySem PySem.Spec PyProof.Rows L2 Com SX GxR
theorem Kq.sub {bad bad' : List Addr} {H H' : Hp} (k : Kq bad H H') (h : ∀ b ∈ bad, b ∈ bad') : Kq bad' H H' := ⟨fun b o hb e => k.k b o (fun z => hb (h b z)) e, k.t⟩
theorem Kq.put {c : Addr} {H : Hp} {xs : List V} {o : HO} (e : H c = some (.lst xs)) : Kq [c] H (upd H c o) := ⟨fun b u hb h => by rw [upd_ne (fun z => hb (by rw [z]; exact List.mem_cons_self))]; exact h, Tk.upd fun ys z => by rw [e] at z; cases z⟩
theorem plL_app : ∀ (a b : List Tr) (n : Nat), plL (a ++ b) n = plL a n ++ plL b (n + szL a)
  | [], b, n => by simp [plL, szL]
  | x :: a, b, n => by simp only [List.cons_append, plL, szL, plL_app a b, Nat.add_assoc]
section
variable {P : Program} {w : World} {K : PySem.W.Frag} {mg : Str → Option Value} {base : Heap}
def spPlc (n : Nat) : Sp := fun vs H Q _ => ∃ (v : V) (c : Addr) (x : Tr) (bad : List Addr) (m : Nat), vs = [v, .ref c] ∧ TrAt bad H v x ∧ c ∈ bad ∧ H c = some (.lst [.int (m : Nat)]) ∧ dpT x < n ∧ szT x ≤ 100000 ∧ ∀ r H', Kq [c] H H' → H' c = some (.lst [.int ((m + szT x : Nat) : Int)]) → Dt H' (.ref r) (plT x m) → Q (.ref r) H'
theorem ok_placed {f : Addr} {fd : FuncData} {n k : Nat} (F : Dfn K mg "_law_placed" st__law_placed f fd ["tree", "count"]) (M : Mg mg) (G_law_placed : Cal P w K mg base k "_law_placed" (spPlc n)) : Cal P w K mg base (k + 1) "_law_placed" (spPlc (n + 1)) := by
  refine cal_mk F sc_law_placed (fun vs H Q E h => ?_) (fun cdv A outer s H vs Q E hr h => ?_)
  · obtain ⟨v, c, x, bad, m, rfl, _⟩ := h
    rfl
  obtain ⟨v, c, x, bad, m, rfl, hv, hcb, hc, hd, hs, q⟩ := h
  refine ⟨_, (pss_cons (ps_set (i := 2) sc_law_placed.nd rfl (.inl rfl) (pe_ix (ixL K rfl) (pv 1) pe_int (fun _ _ => rfl)))
      (pss_cons (ps_asg (pe_op op_add (pv 2) pe_int) (pg_sub (pv 1) pe_int set_list))
      (pss_cons (ps_if (pt_cmpR op_ne (pe_ix (ixT K rfl) (pv 0) pe_int (fun _ _ => rfl)) pe_str (nomark _)) (pss_one (ps_ret (pe_tup (pa_cons (pe_ix (ixT K rfl) (pv 0) pe_int (fun _ _ => rfl)) (pa_cons (pe_ix (ixT K rfl) (pv 0) pe_int (fun _ _ => rfl)) (pa_cons (pv 2) pa_nil)))))) pss_nil)
      (pss_cons (ps_setLc (i := 3) (own := [("part", 4)]) (g := gName 4) (by rfl) sc_law_placed.nd rfl rfl (sw_true rfl rfl rfl (by decide +kernel)) (pi_list (pe_ix (ixT K rfl) (pv 0) pe_int (fun _ _ => rfl))) (blkOk_by (own := [("part", 4)]) (N := ["tree", "count", "place", "parts", "part"]) (sc := defScope st__law_placed) (by decide +kernel)) (fun _ _ _ _ _ => (pg_name (i := 4) sc_law_placed.nd rfl (.inl rfl))) (fun _ _ _ _ _ => pts_nil) (fun _ _ _ _ _ => (pe_c G_law_placed hr (by omega) (by rfl) (pa_cons (pv 4) (pa_cons (pv 1) pa_nil)))))
      (pss_one (ps_ret (pe_tup (pa_cons pe_str (pa_cons (pe_callTy (cTup K rfl) (by rfl) M.tuple b_tuple (pa_cons (pv 3) pa_nil)) (pa_cons (pv 2) pa_nil)))))))))), ?_⟩
  refine ⟨_, rfl, tc (ixl hc (atI_nat (j := 0) rfl) ?_)⟩
  dsimp only [gName]
  refine ⟨_, rfl, _, _, rfl, rfl, ?_⟩
  refine ⟨_, rfl, c, _, 0, 0, rfl, rfl, hc, rfl, ?_⟩
  have ec : ([V.int (m : Nat)].set 0 (V.int ((m : Nat) + 1)) : List V) = [.int ((m + 1 : Nat) : Int)] := rfl
  have kc : Kq [c] H (L2.upd H c (.lst [.int ((m + 1 : Nat) : Int)])) := .put hc
  have hc1 := upd_same (H := H) (a := c) (o := .lst [.int ((m + 1 : Nat) : Int)])
  have hv1 := hv.kq (kc.sub (bad' := bad) fun b hb => by rw [List.mem_singleton.mp hb]; exact hcb)
  show tSeq _ _ _ _ (L2.upd H c (.lst [.int ((m + 1 : Nat) : Int)]))
  generalize L2.upd H c (.lst [.int ((m + 1 : Nat) : Int)]) = H1 at kc hc1 hv1 ⊢
  cases hv1 with
  | @leaf p u x hx hp hu =>
    rw [szT_atom hx] at q
    refine ⟨_, rfl, tc (ixt hp (atI_nat (j := 0) rfl) (tc ⟨rfl, _, rfl, ?_⟩))⟩
    rw [strE, decide_eq_false (kd_nl hx)]
    refine iteT ⟨_, rfl, tc (ixt hp (atI_nat (j := 0) rfl) ⟨_, rfl, tc (ixt hp (atI_nat (j := 1) rfl) ⟨_, rfl, by show 3 ≤ sizeLine; decide, fun r nr => ?_⟩)⟩)⟩
    have s2 := same_upd (o := .tup [.str x.kd, u, .int (m : Nat)]) nr
    refine q r _ (kc.trans (.same s2)) (s2 _ _ hc1) ?_
    rw [leaf_at hx]
    exact .tup upd_same (.cons (.str _) (.cons (hu.tk (same_tk s2)) (.cons (.int _) .nil)))
  | @lst p qa vs l hp hqa hnb hall =>
    simp only [dpT] at hd
    simp only [szT] at hs q
    have hvl := hall.len
    have hlen := szL_len l
    have hqc : qa ≠ c := fun z => hnb (by rw [z]; exact hcb)
    refine ⟨_, rfl, tc (ixt hp (atI_nat (j := 0) rfl) (tc ⟨rfl, _, rfl, ?_⟩))⟩
    rw [strE, decide_eq_true rfl]
    refine iteF ?_
    dsimp only [tNext]
    refine ⟨_, rfl, tc (ixt hp (atI_nat (j := 1) rfl) ⟨qa, rfl, ⟨_, SqL.of hqa⟩, fun D nD => ?_⟩)⟩
    have hDc : D ≠ c := fun z => by rw [z, hc1] at nD; cases nD
    have hDq : D ≠ qa := fun z => by rw [z, hqa] at nD; cases nD
    refine lc_list (fun i H' => Kq [c] H1 H' ∧ H' c = some (.lst [.int ((m + 1 + szL (l.take i) : Nat) : Int)]) ∧ ∃ ws, H' D = some (.lst ws) ∧ DtAll H' ws (plL (l.take i) (m + 1))) (fun i H' h => h.1.k _ _ (fun z => hqc (List.mem_singleton.mp z)) hqa) ⟨.same (same_upd nD), by rw [upd_ne (Ne.symm hDc)]; simpa [szL] using hc1, [], upd_same, by simp only [List.take_zero, plL]; exact .nil⟩ (fun i v H' hvi ⟨kk, hcc, ws, hD, dw⟩ => ?_) (fun H' ⟨kk, hcc, ws, hD, dw⟩ => ?_)
    · obtain ⟨z, hz, hzt⟩ := hall.get hvi
      have hzm := List.mem_of_getElem? hz
      have hDn : D ∉ [c] := fun z => hDc (List.mem_singleton.mp z)
      refine ⟨rfl, ?_⟩
      unfold tYes
      refine iteT ⟨_, rfl, _, rfl, v, c, z, bad, m + 1 + szL (l.take i), rfl, hzt.kq (kk.sub fun b hb => by rw [List.mem_singleton.mp hb]; exact hcb), hcb, hcc, by have := dpL_mem hzm; omega, by have := szL_mem hzm; omega, fun r H4 k4 hc4 d4 => ?_⟩
      have hD4 := k4.k D _ hDn hD
      have tk : Tk H4 (L2.upd H4 D (.lst (ws ++ [.ref r]))) := Tk.upd fun ys z => by rw [hD4] at z; cases z
      have kk4 := kk.trans k4
      have hwl := dw.len
      rw [plL_len, List.length_take] at hwl
      refine ⟨ws, hD4, by show _ < 2 ^ 24; omega, ⟨fun b o hb e => ?_, kk4.t.trans tk⟩, ?_, ws ++ [.ref r], upd_same, ?_⟩
      · rw [upd_ne (ne_of_none e nD)]
        exact kk4.k b o hb e
      · rw [upd_ne (Ne.symm hDc), hc4, szL_take hz, Nat.add_assoc]
      · rw [List.take_add_one, hz, show (some z).toList = [z] from rfl, plL_app]
        refine ((dw.tk k4.t).tk tk).app ?_
        simp only [plL]
        exact .one (d4.tk tk)
    · rw [hvl, List.take_length] at hcc dw
      dsimp only [gName]
      refine ⟨_, rfl, D, _, rfl, .inl ⟨SqL.of hD, fun pt npt => ⟨_, rfl, by show 3 ≤ sizeLine; decide, fun r nr => ?_⟩⟩⟩
      have s2 := same_upd (o := .tup ws) npt
      have s3 := same_upd (o := .tup [.str "list", .ref pt, .int (m : Nat)]) nr
      have s4 := same_trans s2 s3
      refine q r _ ((kc.trans kk).trans (.same s4)) ?_ ?_
      · rw [← Nat.add_assoc]
        exact s4 _ _ hcc
      · simp only [plT]
        exact .tup upd_same (.cons (.str _) (.cons (.tup (s3 _ _ upd_same) (dw.tk (same_tk s4))) (.cons (.int _) .nil)))
theorem placed_all {f : Addr} {fd : FuncData} (F : Dfn K mg "_law_placed" st__law_placed f fd ["tree", "count"]) (M : Mg mg) : ∀ n : Nat, Cal P w K mg base n "_law_placed" (spPlc n)
  | 0 => by
    have no : ∀ vs H Q E, ¬ spPlc 0 vs H Q E := fun vs H Q E h => by
      obtain ⟨_, _, _, _, _, _, _, _, _, h, _⟩ := h
      exact Nat.not_lt_zero _ h
    exact ⟨f, fd, _, ⟨fun vs H Q E h => absurd h (no vs H Q E), fun A outer s H args us vs Q E _ _ _ _ h => absurd h (no vs H Q E)⟩, F.mgf, F.fn.kp, F.b⟩
  | n + 1 => ok_placed F M (placed_all F M n)
end
end W4
set_option Elab.async false
set_option linter.all false
set_option maxRecDepth 100000
set_option maxHeartbeats 4000000
namespace W4
open PySem PySem.Spec PyProof.Rows L2 Com SX GxR
/-- a gap between data, as the law draws it -/
structure GapS (must : Bool) (g : T) : Prop where
  gp : ∀ t a, At t a g → Gap t a (a + g.length)
  mu : must = true → g ≠ []
  hd : ∀ c r, g = c :: r → noE c = false
  ln : g.length ≤ 10
  sg : ∀ c ∈ g, c < 1114112
theorem gap_bl {t : T} {a c : Nat} {g : T} (hc : c = 32 ∨ c = 10) (h : At t a (c :: g)) (k : ∀ b, At t b g → Gap t b (b + g.length)) : Gap t a (a + (c :: g).length) := by
  have := Gap.bl h.head hc (k _ h.tail)
  rw [List.length_cons, show a + (g.length + 1) = a + 1 + g.length by omega]
  exact this
theorem gap_rem {t : T} {a : Nat} {x g : T} (hx : ∀ c ∈ x, c ≠ 10) (h : At t a ((59 :: x ++ [10]) ++ g)) (k : ∀ b, At t b g → Gap t b (b + g.length)) : Gap t a (a + ((59 :: x ++ [10]) ++ g).length) := by
  obtain ⟨h1, h2⟩ := At.app.mp h
  have e : (59 :: x ++ [10]).length = x.length + 2 := by simp
  rw [e] at h2
  have := Gap.rem h1 hx (by rw [Nat.add_assoc]; exact k _ h2)
  rw [List.length_append, e, ← Nat.add_assoc]
  exact this
theorem gap_nil {t : T} {b : Nat} (h : At t b []) : Gap t b (b + ([] : T).length) := .nil
theorem gapS1 : GapS true [32] := ⟨fun t a h => gap_bl (.inl rfl) h fun b => gap_nil, (fun _ z => by cases z), (fun c r e => by rw [← (List.cons.inj e).1]; decide), by decide, by decide⟩
theorem gapS0 : GapS false [] := ⟨fun t a h => gap_nil h, (fun z => by cases z), (fun c r e => by cases e), by decide, by decide⟩
theorem gapS2 {m : Bool} : GapS m [10] := ⟨fun t a h => gap_bl (.inr rfl) h fun b => gap_nil, (fun _ z => by cases z), (fun c r e => by rw [← (List.cons.inj e).1]; decide), by decide, by decide⟩
theorem gapS3 {m : Bool} : GapS m [32, 32] := ⟨fun t a h => gap_bl (.inl rfl) h fun b h => gap_bl (.inl rfl) h fun b => gap_nil, (fun _ z => by cases z), (fun c r e => by rw [← (List.cons.inj e).1]; decide), by decide, by decide⟩
theorem gapS4 {m : Bool} : GapS m [32, 59, 120, 40, 10] := ⟨fun t a h => gap_bl (.inl rfl) h fun b h => gap_rem (x := [120, 40]) (g := []) (by decide) h fun b => gap_nil, (fun _ z => by cases z), (fun c r e => by rw [← (List.cons.inj e).1]; decide), by decide, by decide⟩
theorem gapS5 {m : Bool} : GapS m [10, 59, 59, 39, 32, 34, 10, 32] := ⟨fun t a h => gap_bl (.inr rfl) h fun b h => gap_rem (x := [59, 39, 32, 34]) (g := [32]) (by decide) h fun b h => gap_bl (.inl rfl) h fun b => gap_nil, (fun _ z => by cases z), (fun c r e => by rw [← (List.cons.inj e).1]; decide), by decide, by decide⟩
theorem GapS.weak {g : T} (h : GapS true g) {m : Bool} : GapS m g := ⟨h.gp, fun _ => h.mu rfl, h.hd, h.ln, h.sg⟩
end W4
set_option Elab.async false
set_option linter.all false
set_option maxRecDepth 100000
set_option maxHeartbeats 4000000
namespace W4
open PySem PySem.Spec PyProof.Rows L2 Com SX GxR
theorem atI_mem {xs : List V} {i : Int} (h0 : 0 ≤ i) (h1 : i < (xs.length : Int)) : ∃ v, atI xs i = some v ∧ v ∈ xs := by
  obtain ⟨n, rfl⟩ : ∃ n : Nat, i = (n : Int) := ⟨i.toNat, by omega⟩
  have hn : n < xs.length := by omega
  exact ⟨xs[n], atI_nat (List.getElem?_eq_getElem hn), List.getElem_mem hn⟩
theorem atI_mem' {xs : List Nat} {i : Int} (h0 : 0 ≤ i) (h1 : i < (xs.length : Int)) : ∃ (c : Nat), atI xs i = some c ∧ c ∈ xs := by
  obtain ⟨n, rfl⟩ : ∃ n : Nat, i = (n : Int) := ⟨i.toNat, by omega⟩
  have hn : n < xs.length := by omega
  exact ⟨xs[n], atI_nat (List.getElem?_eq_getElem hn), List.getElem_mem hn⟩
theorem Keep.new {td p : Addr} {H : Hp} {o : HO} (np : H p = none) : Keep td H (upd H p o) := fun b u e _ => by rw [upd_ne (ne_of_none e np)]; exact e
theorem Keep.nn {td b : Addr} {H H' : Hp} (k : Keep td H H') (n : H' b = none) (h : b ≠ td) : H b = none := by
  cases e : H b with
  | none => rfl
  | some o => rw [k b o e h] at n; cases n
theorem ne_td {td b : Addr} {H : Hp} {xs : List V} (h : H td = some (.lst xs)) (n : H b = none) : b ≠ td := fun z => by rw [z, h] at n; cases n
theorem pick {K : PySem.W.Frag} {H : Hp} {td p : Addr} {xs : List V} {ys : List Int} {m : Int} {Q : VK} (htd : H td = some (.lst (ys.map V.int))) (np : H p = none) (hm : (xs.length : Int) = m) (h0 : 0 < m)
    (q : ∀ v ∈ xs, ∀ H' (us : List Int), Keep td H H' → H' td = some (.lst (us.map V.int)) → Q v H') : spTake [.ref td, .int m] (upd H p (.tup xs)) (fun v H2 => rIxT K (.ref p) v H2 Q) E0 := by
  have hptd := ne_td htd np
  refine ⟨td, m, ys, rfl, by rw [upd_ne (Ne.symm hptd)]; exact htd, h0, fun r H5 us hr0 hr1 k5 htd5 => ?_⟩
  obtain ⟨v, hv, hm⟩ := atI_mem (xs := xs) hr0 (by omega)
  exact ixt (k5 p _ upd_same hptd) hv (q v hm H5 us (fun b o e n => k5 b o (by rw [upd_ne (ne_of_none e np)]; exact e) n) htd5)
/-- one sign of a written text, drawn -/
theorem pickS {H : Hp} {td : Addr} {l : Str} {ys : List Int} {m : Int} {Q : VK} (htd : H td = some (.lst (ys.map V.int))) (hm : (l.cps.toList.length : Int) = m) (h0 : 0 < m) (hl : m ≤ 1000)
    (q : ∀ c ∈ l.cps.toList, ∀ H' (us : List Int), Keep td H H' → H' td = some (.lst (us.map V.int)) → Q (.str (S [c])) H') : spTake [.ref td, .int m] H (fun v H2 => rIxS (.str l) v H2 Q) E0 := by
  refine ⟨td, m, ys, rfl, htd, h0, fun r H5 us hr0 hr1 k5 htd5 => ?_⟩
  obtain ⟨c, hc, hcm⟩ := atI_mem' (xs := l.cps.toList) hr0 (by omega)
  have e : l.length = l.cps.toList.length := by show l.cps.size = _; rw [Array.length_toList]
  exact ⟨l, _, c, rfl, rfl, by rw [e]; show _ ≤ 2 ^ 24; omega, hc, q c hcm H5 us k5 htd5⟩
theorem joinS (ys : List T) : Txt.join ("" : Str) (ys.map S) = S ys.flatten := joinE_S ys
/-- a text of drawn signs -/
theorem lc_signs {l : Str} {m : Int} {n : Nat} {H H0 : Hp} {td D i : Nat} {σ : L2.St} {ws : List Nat} {g : TG} {ys : List Int} {Qd : Hp → Prop} (htd : H td = some (.lst (ys.map V.int))) (nD : H D = none) (kk : Keep td H0 H)
    (hg : ∀ x H' (Q : L2.St → Hp → Prop), Q ((wipe σ ws).set i (some x)) H' → g x (wipe σ ws) H' Q) (hw : ∀ x, wipe ((wipe σ ws).set i (some x)) ws = wipe σ ws) (h0 : ∀ x, ((wipe σ ws).set i (some x))[0]? = some (some (V.ref td)))
    (hm : (l.cps.toList.length : Int) = m) (hm0 : 0 < m) (hl : m ≤ 1000) (hn : n ≤ 1000)
    (q : ∀ (cs : T) H' (us : List Int), cs.length = n → (∀ c ∈ cs, c ∈ l.cps.toList) → Keep td H0 H' → H' td = some (.lst (us.map V.int)) → H' D = some (.lst ((cs.map fun c => S [c]).map V.str)) → Qd H') :
    ∃ W : Nat → Nat → Hp → Prop, (∃ k, W 0 k (upd H D (.lst []))) ∧ ∀ i k H, W i k H →
      ((Itr 0 n).stop i H ∧ Qd H) ∨ ((Itr 0 n).go i H ∧ ∃ Nx : Hp → Prop, (∀ H', Nx H' → ∃ k', k' < k ∧ W (i + 1) k' H') ∧ ∀ x H', (Itr 0 n).yld i H x H' → g x (wipe σ ws) H' fun σ2 H2 => wipe σ2 ws = wipe σ ws ∧ tYes σ2 H2 fun b H3 =>
        if b = true then tOp rIxS (tC (.str l)) (tCall spTake [] E0 (tCons (tVar 0) (tCons (tC (.int m)) tNil))) σ2 H3 fun y H4 => ∃ acc, H4 D = some (.lst acc) ∧ acc.length < sizeLine ∧ Nx (upd H4 D (.lst (acc ++ [y]))) else Nx H3) := by
  have hDtd := ne_td htd nD
  have nDH := kk.nn nD hDtd
  refine lc_range (lo := 0) (n := n) (fun i H' => Keep td H0 H' ∧ (∃ us : List Int, H' td = some (.lst (us.map V.int))) ∧ ∃ cs : T, H' D = some (.lst ((cs.map fun c => S [c]).map V.str)) ∧ cs.length = i ∧ ∀ c ∈ cs, c ∈ l.cps.toList)
    ⟨kk.trans (Keep.new nD), ⟨ys, by rw [upd_ne (Ne.symm hDtd)]; exact htd⟩, [], upd_same, rfl, fun _ h => by cases h⟩ ?_ ?_
  · rintro j H3 hj ⟨k3, ⟨us, htd3⟩, cs, hD3, hcl, hcs⟩
    refine hg _ _ _ ⟨hw _, ?_⟩
    unfold tYes
    refine iteT ?_
    refine ⟨_, h0 _, ?_⟩
    refine pickS htd3 hm hm0 hl fun c hc H4 vs k4 htd4 => ?_
    refine ⟨_, k4 D _ hD3 hDtd, ?_, fun b o e n => ?_, ⟨vs, ?_⟩, cs ++ [c], ?_, ?_, fun d hd => ?_⟩
    · rw [List.length_map, List.length_map]
      show _ < 2 ^ 24
      omega
    · rw [upd_ne (ne_of_none e nDH)]
      exact (k3.trans k4) b o e n
    · rw [upd_ne (Ne.symm hDtd)]
      exact htd4
    · rw [upd_same, List.map_append, List.map_append]
      rfl
    · rw [List.length_append, hcl]
      rfl
    · rcases List.mem_append.mp hd with h | h
      · exact hcs d h
      · rw [List.mem_singleton.mp h]
        exact hc
  · rintro H3 ⟨k3, ⟨us, htd3⟩, cs, hD3, hcl, hcs⟩
    exact q cs H3 us hcl hcs k3 htd3 hD3
theorem flat_one : ∀ cs : T, (cs.map fun c => [c]).flatten = cs
  | [] => rfl
  | c :: cs => by rw [List.map_cons, List.flatten_cons, flat_one cs]; rfl
/-- signs joined -/
theorem join_signs {K : PySem.W.Frag} {H : Hp} {D : Addr} {cs : T} (h : H D = some (.lst ((cs.map fun c => S [c]).map V.str))) (hl : cs.length ≤ 1000) :
    ∃ ys : List Str, SqL K H D (ys.map V.str) ∧ (ys.map (·.length)).sum + ys.length * ("" : Str).length ≤ 16777216 ∧ Txt.join ("" : Str) ys = S cs := by
  have e : (cs.map fun c => S [c]) = (cs.map fun c => [c]).map S := by rw [List.map_map]; rfl
  refine ⟨cs.map fun c => S [c], SqL.of h, ?_, ?_⟩
  · have l0 : ("" : Str).length = 0 := by decide +kernel
    have hs : ∀ ds : T, ((ds.map fun c => S [c]).map (·.length)).sum = ds.length := by
      intro ds
      induction ds with
      | nil => rfl
      | cons d ds ih => rw [List.map_cons, List.map_cons, List.sum_cons, ih, len_S]; simp only [List.length_cons, List.length_nil]; omega
    rw [hs, l0]
    omega
  · rw [e, joinS, flat_one]
section
variable {P : Program} {w : World} {K : PySem.W.Frag} {mg : Str → Option Value} {base : Heap}
def spGap : Sp := fun vs H Q _ => ∃ (td : Addr) (must : Bool) (xs : List Int), vs = [.ref td, .bl must] ∧ H td = some (.lst (xs.map V.int)) ∧ ∀ g H' (ys : List Int), GapS must g → Keep td H H' → H' td = some (.lst (ys.map V.int)) → Q (.str (S g)) H'
theorem q_g2 : ("  " : Str) = S [32, 32] := by decide +kernel
theorem q_g3 : (" ;x(\n" : Str) = S [32, 59, 120, 40, 10] := by decide +kernel
theorem q_g4 : ("\n;;' \"\n " : Str) = S [10, 59, 59, 39, 32, 34, 10, 32] := by decide +kernel
theorem ok_gap {f : Addr} {fd : FuncData} (F : Dfn K mg "_law_gap" st__law_gap f fd ["draws", "must"]) (M : Mg mg) (G_law_take : Cal P w K mg base 1 "_law_take" spTake) : Cal P w K mg base 2 "_law_gap" spGap := by
  refine cal_mk F sc_law_gap (fun vs H Q E h => ?_) (fun cdv A outer s H vs Q E hr h => ?_)
  · obtain ⟨td, m, xs, rfl, _⟩ := h
    rfl
  obtain ⟨td, must, xs, rfl, htd, q⟩ := h
  refine ⟨_, (pss_cons (ps_set (i := 2) sc_law_gap.nd rfl (.inl rfl) (pe_ix (ixT K rfl) (pe_tup (pa_cons pe_str (pa_cons pe_str (pa_cons pe_str (pa_cons pe_str (pa_cons pe_str (pa_cons pe_str pa_nil))))))) (pe_c G_law_take hr (by omega) (by rfl) (pa_cons (pv 0) (pa_cons pe_int pa_nil))) (fun _ _ => rfl)))
      (pss_one (ps_ret (pe_ifExp (PW.pt (pw_and (pt_cmpR op_eq (pv 2) pe_str (nomark _)) (pw_and1 (pt_val (pv 1))))) pe_str (pv 2))))), ?_⟩
  refine ⟨by show 6 ≤ sizeLine; decide, fun p np => ⟨_, rfl, pick htd np rfl (by decide) fun v hv H2 us k2 htd2 => ?_⟩⟩
  have hvo : ∃ g, v = .str (S g) ∧ (g = [] ∨ GapS true g) := by
    simp only [List.mem_cons, List.not_mem_nil, or_false] at hv
    rcases hv with rfl | rfl | rfl | rfl | rfl | rfl
    · exact ⟨[], by rw [q_emp], .inl rfl⟩
    · exact ⟨_, by rw [q_sp], .inr gapS1⟩
    · exact ⟨_, by rw [q_nl], .inr gapS2⟩
    · exact ⟨_, by rw [q_g2], .inr gapS3⟩
    · exact ⟨_, by rw [q_g3], .inr gapS4⟩
    · exact ⟨_, by rw [q_g4], .inr gapS5⟩
  obtain ⟨g, rfl, hg⟩ := hvo
  dsimp only [gName]
  refine ⟨_, rfl, rfl, _, rfl, ?_⟩
  rw [wdE q_emp]
  rcases hg with rfl | hg
  · rw [decide_eq_true rfl]
    refine iteT ⟨_, rfl, _, rfl, ?_⟩
    cases must with
    | true => exact iteT (by rw [q_sp]; exact q _ H2 us gapS1 k2 htd2)
    | false => exact iteF ⟨_, rfl, q _ H2 us gapS0 k2 htd2⟩
  · rw [decide_eq_false (hg.mu rfl)]
    exact iteF (iteF ⟨_, rfl, q _ H2 us hg.weak k2 htd2⟩)
end
end W4
set_option Elab.async false
set_option linter.all false
set_option maxRecDepth 100000
set_option maxHeartbeats 4000000
namespace W4
open PySem PySem.Spec PyProof.Rows L2 Com SX GxR
/-! the atoms that the law draws -/
mutual
def cpT : Tr → Prop
  | .txt w => ∀ c ∈ w, c < 1114112
  | .lst l => cpL l
  | .nam _ | .num _ | .flg _ | .dots | .wild => True
def cpL : List Tr → Prop
  | [] => True
  | x :: l => cpT x ∧ cpL l
end
def sg17 : T := [97, 98, 99, 120, 121, 122, 33, 42, 43, 46, 47, 58, 60, 61, 62, 63, 95]
theorem lit17 : (("abcxyz!*+./:<=>?_" : Str)).cps.toList = sg17 := by decide +kernel
theorem sg17_in {c : Nat} (h : c ∈ sg17) : c ∈ namC ∧ isD c = false ∧ c ≠ 45 ∧ c ≠ 35 ∧ c ≠ 48 := by
  have : ∀ c ∈ sg17, c ∈ namC ∧ isD c = false ∧ c ≠ 45 ∧ c ≠ 35 ∧ c ≠ 48 := by decide
  exact this c h
theorem nam_word {c : Nat} {r : T} (hc : c ∈ sg17) (hr : ∀ d ∈ r, d ∈ namC) (hl : (c :: r).length ≤ 20) (h1 : c :: r ≠ [46, 46, 46]) (h2 : c :: r ≠ [95]) : sortW (c :: r) = "name" := by
  obtain ⟨a1, a2, a3, a4, a5⟩ := sg17_in hc
  have hb : body (c :: r) = c :: r := by
    unfold body
    rw [if_neg (show ¬ (c :: r).head? = some 45 from fun e => a3 (Option.some.inj e))]
  have hnum : ¬ isNum (c :: r) = true := by
    unfold isNum
    rw [hb, decide_eq_false (show ¬ (c :: r) = [48] from fun z => a5 (List.cons.inj z).1), List.all_cons, a2]
    simp
  have hnam : isNam (c :: r) = true := by
    unfold isNam begN
    rw [hb]
    simp only [Bool.and_eq_true, decide_eq_true_eq, Bool.not_eq_true', decide_eq_false_iff_not, List.all_eq_true, List.head?_cons]
    refine ⟨⟨⟨⟨⟨?_, hl⟩, h1⟩, h2⟩, a2⟩, fun d hd => ?_⟩
    · rw [List.length_cons]; omega
    · unfold isN
      rcases List.mem_cons.mp hd with rfl | hd
      · exact decide_eq_true a1
      · exact decide_eq_true (hr d hd)
  unfold sortW
  rw [if_neg (fun z => z.elim (fun y => a4 (List.cons.inj y).1) (fun y => a4 (List.cons.inj y).1)), if_neg h1, if_neg h2, if_neg hnum, if_pos hnam]
theorem dg19 {c : Nat} (h : c ∈ (("123456789" : Str)).cps.toList) : 49 ≤ c ∧ c ≤ 57 := by
  have e : (("123456789" : Str)).cps.toList = [49, 50, 51, 52, 53, 54, 55, 56, 57] := by decide +kernel
  rw [e] at h
  simp only [List.mem_cons, List.not_mem_nil, or_false] at h
  omega
theorem dg09 {c : Nat} (h : c ∈ (("0123456789" : Str)).cps.toList) : 48 ≤ c ∧ c ≤ 57 := by
  rw [dig_lit] at h
  unfold digC at h
  simp only [List.mem_cons, List.not_mem_nil, or_false] at h
  omega
theorem isD_of {c : Nat} (h : 48 ≤ c ∧ c ≤ 57) : isD c = true := by
  unfold isD digC
  simp only [List.mem_cons, List.not_mem_nil, or_false, decide_eq_true_eq]
  omega
theorem fig_num {c : Nat} {r : T} (hc : 49 ≤ c ∧ c ≤ 57) (hr : ∀ d ∈ r, 48 ≤ d ∧ d ≤ 57) (hl : r.length ≤ 29) :
    intText? (S (c :: r)) = some ((NumText.digitsVal (c :: r) : Nat) : Int) ∧ isNum (c :: r) = true ∧ intW (c :: r) = ((NumText.digitsVal (c :: r) : Nat) : Int) ∧ isNum (45 :: c :: r) = true ∧ intW (45 :: c :: r) = -((NumText.digitsVal (c :: r) : Nat) : Int) := by
  have hd : ∀ d ∈ c :: r, 48 ≤ d ∧ d ≤ 57 := fun d h => by
    rcases List.mem_cons.mp h with rfl | h
    · omega
    · exact hr d h
  have hlen : (c :: r).length ≤ 30 := by rw [List.length_cons]; omega
  have h1 := intText_digits (x := S (c :: r)) hd (by simp) (by show (S (c :: r)).length ≤ 4300; rw [len_S]; omega)
  have h2 := intText_neg (x := S (45 :: c :: r)) (cs := c :: r) rfl hd (by simp) (by show (S (45 :: c :: r)).length ≤ 4300; rw [len_S, List.length_cons]; omega)
  have key : ∀ w : T, body w = c :: r → isNum w = true := fun w hb => by
    unfold isNum
    rw [hb, Bool.or_eq_true]
    right
    simp only [Bool.and_eq_true, decide_eq_true_eq, Bool.not_eq_true', decide_eq_false_iff_not, List.all_eq_true, List.head?_cons]
    refine ⟨⟨⟨by rw [List.length_cons]; omega, hlen⟩, decide_eq_false fun z => ?_⟩, fun d h => isD_of (hd d h)⟩
    have := Option.some.inj z
    omega
  refine ⟨h1, key _ ?_, ?_, key _ rfl, ?_⟩
  · unfold body
    rw [if_neg]
    intro e
    rw [List.head?_cons] at e
    have := Option.some.inj e
    omega
  · unfold intW
    rw [h1]
    rfl
  · unfold intW
    rw [h2]
    rfl
theorem q_k : ("k" : Str) = S [107] := by decide +kernel
theorem q_dotsw : ("dots" : Str) = S [100, 111, 116, 115] := by decide +kernel
section
variable {P : Program} {w : World} {K : PySem.W.Frag} {mg : Str → Option Value} {base : Heap}
def spAtm : Sp := fun vs H Q _ => ∃ (td : Addr) (xs : List Int), vs = [.ref td] ∧ H td = some (.lst (xs.map V.int)) ∧ ∀ (v : V) (x : Tr) (H' : Hp) (ys : List Int), (∀ bad, TrAt bad H' v x) → isL x = false → okT x → cpT x → Keep td H H' → H' td = some (.lst (ys.map V.int)) → Q v H'
theorem ok_atom2 {f : Addr} {fd : FuncData} (F : Dfn K mg "_law_atom" st__law_atom f fd ["draws"]) (M : Mg mg) (G_law_take : Cal P w K mg base 1 "_law_take" spTake) : Cal P w K mg base 2 "_law_atom" spAtm := by
  refine cal_mk F sc_law_atom (fun vs H Q E h => ?_) (fun cdv A outer s H vs Q E hr h => ?_)
  · obtain ⟨td, xs, rfl, _⟩ := h
    rfl
  obtain ⟨td, xs, rfl, htd, q⟩ := h
  have hsl : sizeLine = 16777216 := sizeLine_eq
  have ret : ∀ (x : Tr) (u : V) (H2 : Hp) (us : List Int), isL x = false → okT x → cpT x → Dt H2 u x.vl → Keep td H H2 → H2 td = some (.lst (us.map V.int)) → ∀ p, H2 p = none → Q (.ref p) (L2.upd H2 p (.tup [.str x.kd, u])) := fun x u H2 us hx ok cp du k htd2 p np =>
    q _ x _ us (fun _ => .leaf hx upd_same (du.tk (same_tk (same_upd np)))) hx ok cp (k.trans (Keep.new np)) (by rw [upd_ne (Ne.symm (ne_td htd2 np))]; exact htd2)
  refine ⟨_, (pss_cons (ps_set (i := 1) sc_law_atom.nd rfl (.inl rfl) (pe_c G_law_take hr (by omega) (by rfl) (pa_cons (pv 0) (pa_cons pe_int pa_nil))))
      (pss_cons (ps_if (pt_cmpR op_lt (pv 1) pe_int (nomark _)) (pss_cons (ps_set (i := 2) sc_law_atom.nd rfl (.inl rfl) (pe_ix (ixT K rfl) (pe_tup (pa_cons pe_int (pa_cons pe_int (pa_cons pe_int (pa_cons pe_int (pa_cons pe_int pa_nil)))))) (pe_c G_law_take hr (by omega) (by rfl) (pa_cons (pv 0) (pa_cons pe_int pa_nil))) (fun _ _ => rfl)))
      (pss_cons (ps_set (i := 3) sc_law_atom.nd rfl (.inl rfl) (pe_bm PySem.F.plainAttrs_str PySem.F.slot_str_join PySem.F.type_str_join mt_join pe_str (pa_cons (pe_lc (own := [("k", 6)]) (g := gName 6) (by rfl) sc_law_atom.nd (pi_range1 (by rfl) M.range (pa_cons (pv 2) pa_nil)) (blkOk_by (own := [("k", 6)]) (N := ["draws", "kind", "size", "word", "figures", "number", "k"]) (sc := defScope st__law_atom) (by decide +kernel)) (fun _ _ _ _ _ => (pg_name (i := 6) sc_law_atom.nd rfl (.inl rfl))) (fun _ _ _ _ _ => pts_nil) (fun _ _ _ _ _ => (pe_ix ix_str pe_str (pe_c G_law_take hr (by omega) (by rfl) (pa_cons (pv 0) (pa_cons pe_int pa_nil))) (fun _ _ => rfl)))) pa_nil)))
      (pss_cons (ps_set (i := 3) sc_law_atom.nd rfl (.inl rfl) (pe_op op_add_str (pe_op op_add_str (pv 3) (pe_ix (ixT K rfl) (pe_tup (pa_cons pe_str (pa_cons pe_str (pa_cons pe_str (pa_cons pe_str pa_nil))))) (pe_ifExp (pt_cmpR op_lt (pv 2) pe_int (nomark _)) (pe_c G_law_take hr (by omega) (by rfl) (pa_cons (pv 0) (pa_cons pe_int pa_nil))) pe_int) (fun _ _ => rfl))) (pe_ifExp (pt_cmpR op_gt (pv 2) pe_int (nomark _)) pe_str pe_str)))
      (pss_one (ps_ret (pe_tup (pa_cons pe_str (pa_cons (pe_ifExp (pt_cmpR op_eq (pv 3) pe_str (nomark _)) pe_str (pv 3)) pa_nil)))))))) pss_nil)
      (pss_cons (ps_if (pt_cmpR op_lt (pv 1) pe_int (nomark _)) (pss_cons (ps_set (i := 4) sc_law_atom.nd rfl (.inl rfl) (pe_op op_add_str (pe_ix ix_str pe_str (pe_c G_law_take hr (by omega) (by rfl) (pa_cons (pv 0) (pa_cons pe_int pa_nil))) (fun _ _ => rfl)) (pe_bm PySem.F.plainAttrs_str PySem.F.slot_str_join PySem.F.type_str_join mt_join pe_str (pa_cons (pe_lc (own := [("k", 6)]) (g := gName 6) (by rfl) sc_law_atom.nd (pi_range1 (by rfl) M.range (pa_cons (pe_ix (ixT K rfl) (pe_tup (pa_cons pe_int (pa_cons pe_int (pa_cons pe_int (pa_cons pe_int pa_nil))))) (pe_c G_law_take hr (by omega) (by rfl) (pa_cons (pv 0) (pa_cons pe_int pa_nil))) (fun _ _ => rfl)) pa_nil)) (blkOk_by (own := [("k", 6)]) (N := ["draws", "kind", "size", "word", "figures", "number", "k"]) (sc := defScope st__law_atom) (by decide +kernel)) (fun _ _ _ _ _ => (pg_name (i := 6) sc_law_atom.nd rfl (.inl rfl))) (fun _ _ _ _ _ => pts_nil) (fun _ _ _ _ _ => (pe_ix ix_str pe_str (pe_c G_law_take hr (by omega) (by rfl) (pa_cons (pv 0) (pa_cons pe_int pa_nil))) (fun _ _ => rfl)))) pa_nil))))
      (pss_cons (ps_set (i := 5) sc_law_atom.nd rfl (.inl rfl) (pe_op op_mul (pe_callTy call_int_str (by rfl) M.int b_int (pa_cons (pv 4) pa_nil)) (pe_ix (ixT K rfl) (pe_tup (pa_cons pe_int (pa_cons (pe_op op_sub pe_int pe_int) pa_nil))) (pe_c G_law_take hr (by omega) (by rfl) (pa_cons (pv 0) (pa_cons pe_int pa_nil))) (fun _ _ => rfl))))
      (pss_one (ps_ret (pe_tup (pa_cons pe_str (pa_cons (pe_ifExp (pt_cmpR op_eq (pe_c G_law_take hr (by omega) (by rfl) (pa_cons (pv 0) (pa_cons pe_int pa_nil))) pe_int (nomark _)) pe_int (pv 5)) pa_nil))))))) pss_nil)
      (pss_cons (ps_if (pt_cmpR op_eq (pv 1) pe_int (nomark _)) (pss_one (ps_ret (pe_tup (pa_cons pe_str (pa_cons (pe_cmpR op_eq (pe_c G_law_take hr (by omega) (by rfl) (pa_cons (pv 0) (pa_cons pe_int pa_nil))) pe_int (nomark _)) pa_nil))))) pss_nil)
      (pss_cons (ps_if (pt_cmpR op_eq (pv 1) pe_int (nomark _)) (pss_cons (ps_set (i := 2) sc_law_atom.nd rfl (.inl rfl) (pe_ix (ixT K rfl) (pe_tup (pa_cons pe_int (pa_cons pe_int (pa_cons pe_int (pa_cons pe_int pa_nil))))) (pe_c G_law_take hr (by omega) (by rfl) (pa_cons (pv 0) (pa_cons pe_int pa_nil))) (fun _ _ => rfl)))
      (pss_one (ps_ret (pe_tup (pa_cons pe_str (pa_cons (pe_bm PySem.F.plainAttrs_str PySem.F.slot_str_join PySem.F.type_str_join mt_join pe_str (pa_cons (pe_lc (own := [("k", 6)]) (g := gName 6) (by rfl) sc_law_atom.nd (pi_range1 (by rfl) M.range (pa_cons (pv 2) pa_nil)) (blkOk_by (own := [("k", 6)]) (N := ["draws", "kind", "size", "word", "figures", "number", "k"]) (sc := defScope st__law_atom) (by decide +kernel)) (fun _ _ _ _ _ => (pg_name (i := 6) sc_law_atom.nd rfl (.inl rfl))) (fun _ _ _ _ _ => pts_nil) (fun _ _ _ _ _ => (pe_ix ix_str pe_str (pe_c G_law_take hr (by omega) (by rfl) (pa_cons (pv 0) (pa_cons pe_int pa_nil))) (fun _ _ => rfl)))) pa_nil)) pa_nil)))))) pss_nil)
      (pss_cons (ps_if (pt_cmpR op_eq (pv 1) pe_int (nomark _)) (pss_one (ps_ret (pe_tup (pa_cons pe_str (pa_cons pe_non pa_nil))))) pss_nil)
      (pss_one (ps_ret (pe_tup (pa_cons pe_str (pa_cons pe_non pa_nil))))))))))), ?_⟩
  refine ⟨_, rfl, td, _, xs, rfl, htd, by decide, fun r H1 ys hr0 hr9 k1 htd1 => ?_⟩
  dsimp only [gName]
  refine ⟨_, rfl, _, _, rfl, rfl, _, rfl, ?_⟩
  by_cases h3 : r < 3
  · rw [decide_eq_true h3]
    refine iteT ⟨by show 5 ≤ sizeLine; decide, fun p np => ⟨_, rfl, pick htd1 np rfl (by decide) fun v hv H2 us k2 htd2 => ?_⟩⟩
    have hvo : ∃ n : Nat, v = .int (n : Nat) ∧ (n = 1 ∨ n = 2 ∨ n = 3 ∨ n = 20) := by
      simp only [List.mem_cons, List.not_mem_nil, or_false] at hv
      rcases hv with rfl | rfl | rfl | rfl | rfl
      · exact ⟨1, rfl, .inl rfl⟩
      · exact ⟨1, rfl, .inl rfl⟩
      · exact ⟨2, rfl, .inr (.inl rfl)⟩
      · exact ⟨3, rfl, .inr (.inr (.inl rfl))⟩
      · exact ⟨20, rfl, .inr (.inr (.inr rfl))⟩
    obtain ⟨n, rfl, hn⟩ := hvo
    dsimp only [gName]
    refine ⟨rfl, _, rfl, _, rfl, by omega, by omega, fun D nD => ?_⟩
    refine lc_signs (i := 6) htd2 nD ((k1.trans k2)) (fun _ _ _ h => h) (fun _ => rfl) (fun _ => rfl) rfl (by decide) (by decide) (by omega) fun cs H3 vs hcl hcs k3 htd3 hD3 => ?_
    rw [lit17] at hcs
    rw [Int.toNat_natCast] at hcl
    obtain ⟨jj, hj1, hj2, hj3⟩ := join_signs (K := K) hD3 (by omega)
    refine ⟨_, D, jj, rfl, rfl, .inl hj1, hj2, ?_⟩
    rw [hj3]
    dsimp only [gName]
    -- word + .. + ..
    refine seq_split (t1 := tAsg _ _) (fun σ' H' => ∃ (c : Nat) (rr : T) (us : List Int), σ' = [some (.ref td), some (.int r), some (.int (n : Nat)), some (.str (S (c :: rr))), none, none, none] ∧ c ∈ sg17 ∧ (∀ d ∈ rr, d ∈ namC) ∧ rr.length ≤ 19 ∧ c :: rr ≠ [95] ∧ Keep td H H' ∧ H' td = some (.lst (us.map V.int))) ?_ (fun J => ?_)
    · rintro σ' H4 ⟨c, rr, us, rfl, hc, hrr, hlr, hne, k4, htd4⟩
      refine ⟨_, rfl, rfl, _, rfl, ?_⟩
      rw [wdE q_dots]
      by_cases hdot : c :: rr = [46, 46, 46]
      · rw [decide_eq_true hdot]
        refine iteT ⟨by show 2 ≤ sizeLine; decide, fun p np => ?_⟩
        rw [q_dotsw]
        exact ret (.nam [100, 111, 116, 115]) _ H4 us rfl (by show sortW [100, 111, 116, 115] = "name"; decide +kernel) True.intro (.str _) k4 htd4 p np
      · rw [decide_eq_false hdot]
        refine iteF ⟨_, rfl, by show 2 ≤ sizeLine; decide, fun p np => ?_⟩
        exact ret (.nam (c :: rr)) _ H4 us rfl (nam_word hc hrr (by rw [List.length_cons]; omega) hdot hne) True.intro (.str _) k4 htd4 p np
    · obtain ⟨c, rr, rfl⟩ : ∃ c rr, cs = c :: rr := by
        cases cs with
        | nil => exact absurd hcl (by show ¬ 0 = n; omega)
        | cons c rr => exact ⟨c, rr, rfl⟩
      rw [List.length_cons] at hcl
      have hc := hcs c List.mem_cons_self
      have hrr : ∀ d ∈ rr, d ∈ namC := fun d hd => (sg17_in (hcs d (List.mem_cons_of_mem _ hd))).1
      have fin : ∀ (sx kx : T), (∀ d ∈ sx, d ∈ namC) → sx.length ≤ 1 → (n = 20 → sx = []) → (1 < n → kx = []) → (¬ 1 < n → kx = [107]) → (c :: rr) ++ sx ++ kx = c :: (rr ++ sx ++ kx) ∧ (∀ d ∈ rr ++ sx ++ kx, d ∈ namC) ∧ (rr ++ sx ++ kx).length ≤ 19 ∧ c :: (rr ++ sx ++ kx) ≠ [95] := by
        intro sx kx h1 h2 h3 h4 h5
        refine ⟨by rw [List.append_assoc, List.append_assoc]; rfl, fun d hd => ?_, ?_, fun z => ?_⟩
        · rcases List.mem_append.mp hd with hd | hd
          · rcases List.mem_append.mp hd with hd | hd
            · exact hrr d hd
            · exact h1 d hd
          · by_cases e : 1 < n
            · rw [h4 e] at hd; cases hd
            · rw [h5 e] at hd
              rw [List.mem_singleton.mp hd]
              decide
        · rw [List.length_append, List.length_append]
          by_cases e : 1 < n
          · rw [h4 e]
            by_cases e2 : n = 20
            · rw [h3 e2]
              show rr.length + 0 + 0 ≤ 19
              omega
            · show rr.length + sx.length + 0 ≤ 19
              omega
          · rw [h5 e]
            show rr.length + sx.length + 1 ≤ 19
            omega
        · have z2 := (List.cons.inj z).2
          by_cases e : 1 < n
          · have := congrArg List.length z2
            rw [List.length_append, List.length_append, List.length_nil] at this
            omega
          · rw [h5 e] at z2
            have := congrArg List.length z2
            rw [List.length_append] at this
            simp at this
      have fin2 : ∀ (sx : T), sx.length ≤ 1 → (S (c :: rr)).length + (S sx).length ≤ sizeLine ∧ ∀ kx : T, kx.length ≤ 1 → (S (c :: rr) ++ S sx).length + (S kx).length ≤ sizeLine := by
        intro sx h1
        rw [len_S, len_S, List.length_cons]
        refine ⟨by omega, fun kx h2 => ?_⟩
        rw [S_app2, len_S, len_S, List.length_append, List.length_cons]
        omega
      refine ⟨_, rfl, by show 4 ≤ sizeLine; decide, fun p np => ⟨_, rfl, _, _, rfl, rfl, _, rfl, ?_⟩⟩
      by_cases h20 : ((n : Nat) : Int) < 20
      · rw [decide_eq_true h20]
        refine iteT ⟨_, rfl, pick htd3 np rfl (by decide) fun v hv H5 us k5 htd5 => ?_⟩
        have hvo : ∃ sx : T, v = .str (S sx) ∧ sx.length ≤ 1 ∧ ∀ d ∈ sx, d ∈ namC := by
          simp only [List.mem_cons, List.not_mem_nil, or_false] at hv
          rcases hv with rfl | rfl | rfl | rfl
          · exact ⟨[], by rw [q_emp], by decide, by decide⟩
          · exact ⟨[113], by rw [show ("q" : Str) = S [113] by decide +kernel], by decide, by decide⟩
          · exact ⟨[45], by rw [q_min], by decide, by decide⟩
          · exact ⟨[55], by rw [show ("7" : Str) = S [55] by decide +kernel], by decide, by decide⟩
        obtain ⟨sx, rfl, hsx1, hsx2⟩ := hvo
        obtain ⟨f1, f2⟩ := fin2 sx hsx1
        refine ⟨_, _, rfl, rfl, f1, _, rfl, _, _, rfl, rfl, _, rfl, ?_⟩
        by_cases h1 : (1 : Int) < ((n : Nat) : Int)
        · rw [decide_eq_true h1]
          refine iteT ⟨_, _, rfl, rfl, by rw [q_emp]; exact f2 [] (by decide), ?_⟩
          obtain ⟨g1, g2, g3, g4⟩ := fin sx [] hsx2 hsx1 (fun z => by omega) (fun _ => rfl) (fun z => absurd (show 1 < n by omega) z)
          dsimp only [gName]
          rw [q_emp, S_app2, S_app2, g1]
          exact J _ _ ⟨c, _, us, rfl, hc, g2, g3, g4, k3.trans k5, htd5⟩
        · rw [decide_eq_false h1]
          refine iteF ⟨_, _, rfl, rfl, by rw [q_k]; exact f2 [107] (by decide), ?_⟩
          obtain ⟨g1, g2, g3, g4⟩ := fin sx [107] hsx2 hsx1 (fun z => by omega) (fun z => absurd z (by omega)) (fun _ => rfl)
          dsimp only [gName]
          rw [q_k, S_app2, S_app2, g1]
          exact J _ _ ⟨c, _, us, rfl, hc, g2, g3, g4, k3.trans k5, htd5⟩
      · rw [decide_eq_false h20]
        have hn20 : n = 20 := by omega
        obtain ⟨f1, f2⟩ := fin2 [] (by decide)
        refine iteF (tc (ixt upd_same (atI_nat (j := 0) rfl) ?_))
        refine ⟨_, _, rfl, rfl, by rw [q_emp]; exact f1, _, rfl, _, _, rfl, rfl, _, rfl, ?_⟩
        rw [decide_eq_true (show (1 : Int) < ((n : Nat) : Int) by omega)]
        refine iteT ⟨_, _, rfl, rfl, by rw [q_emp]; exact f2 [] (by decide), ?_⟩
        obtain ⟨g1, g2, g3, g4⟩ := fin [] [] (fun _ h => by cases h) (by decide) (fun _ => rfl) (fun _ => rfl) (fun z => absurd (show 1 < n by omega) z)
        dsimp only [gName]
        rw [q_emp, S_app2, S_app2, g1]
        exact J _ _ ⟨c, _, vs, rfl, hc, g2, g3, g4, k3.trans (Keep.new np), by rw [upd_ne (Ne.symm (ne_td htd3 np))]; exact htd3⟩
  rw [decide_eq_false h3]
  refine iteF ?_
  dsimp only [tNext]
  refine ⟨_, rfl, _, _, rfl, rfl, _, rfl, ?_⟩
  by_cases h5 : r < 5
  · rw [decide_eq_true h5]
    refine iteT ⟨_, rfl, pickS htd1 rfl (by decide) (by decide) fun c hc H2 us k2 htd2 => ?_⟩
    have hc' := dg19 hc
    refine ⟨rfl, by show 4 ≤ sizeLine; decide, fun p np => ⟨_, rfl, pick htd2 np rfl (by decide) fun v hv H3 vs k3 htd3 => ?_⟩⟩
    have hvo : ∃ n : Nat, v = .int (n : Nat) ∧ n ≤ 29 := by
      simp only [List.mem_cons, List.not_mem_nil, or_false] at hv
      rcases hv with rfl | rfl | rfl | rfl
      · exact ⟨0, rfl, by decide⟩
      · exact ⟨1, rfl, by decide⟩
      · exact ⟨2, rfl, by decide⟩
      · exact ⟨29, rfl, by decide⟩
    obtain ⟨n, rfl, hn⟩ := hvo
    refine ⟨_, rfl, by omega, by omega, fun D nD => ?_⟩
    refine lc_signs (i := 6) htd3 nD ((k1.trans k2).trans k3) (fun _ _ _ h => h) (fun _ => rfl) (fun _ => rfl) rfl (by decide) (by decide) (by omega) fun cs H4 ws hcl hcs k4 htd4 hD4 => ?_
    rw [Int.toNat_natCast] at hcl
    have hcs' : ∀ d ∈ cs, 48 ≤ d ∧ d ≤ 57 := fun d hd => dg09 (hcs d hd)
    obtain ⟨jj, hj1, hj2, hj3⟩ := join_signs (K := K) hD4 (by omega)
    refine ⟨_, D, jj, rfl, rfl, .inl hj1, hj2, ?_⟩
    rw [hj3]
    refine ⟨_, _, rfl, rfl, by rw [len_S, len_S]; simp only [List.length_cons, List.length_nil]; omega, ?_⟩
    dsimp only [gName]
    rw [S_app2]
    have e1 : [c] ++ cs = c :: cs := rfl
    rw [e1]
    obtain ⟨i1, i2, i3, i4, i5⟩ := fig_num hc' hcs' (by omega)
    refine ⟨_, rfl, _, _, rfl, i1, by rw [len_S, List.length_cons]; omega, _, _, rfl, rfl, by show 2 ≤ sizeLine; decide, fun p np => ⟨_, rfl, pick htd4 np rfl (by decide) fun v hv H5 us k5 htd5 => ?_⟩⟩
    have hvo : ∃ (m : Int) (w : T), v = .int m ∧ (m = 1 ∨ m = -1) ∧ isNum w = true ∧ ((NumText.digitsVal (c :: cs) : Nat) : Int) * m = intW w := by
      simp only [List.mem_cons, List.not_mem_nil, or_false] at hv
      rcases hv with rfl | rfl
      · exact ⟨1, c :: cs, rfl, .inl rfl, i2, by rw [i3, Int.mul_one]⟩
      · exact ⟨-1, 45 :: c :: cs, rfl, .inr rfl, i4, by rw [i5]; omega⟩
    obtain ⟨m, w, rfl, hm, hw1, hw2⟩ := hvo
    refine ⟨_, _, rfl, rfl, .inr (by rcases hm with rfl | rfl <;> constructor <;> decide), ?_⟩
    dsimp only [gName]
    rw [hw2]
    have k5' : Keep td H H5 := k4.trans k5
    refine ⟨_, rfl, td, _, us, rfl, htd5, by decide, fun r2 H6 zs h20 h26 k6 htd6 => ⟨rfl, _, rfl, ?_⟩⟩
    by_cases h0 : V.int r2 = V.int 0
    · rw [decide_eq_true h0]
      refine iteT ⟨by show 2 ≤ sizeLine; decide, fun p2 np2 => ?_⟩
      exact ret (.num [48]) _ H6 zs rfl (by show isNum [48] = true; decide) True.intro (by show Dt _ _ (.int (intW [48])); rw [show intW [48] = 0 by decide +kernel]; exact .int _) (k5'.trans k6) htd6 p2 np2
    · rw [decide_eq_false h0]
      refine iteF ⟨_, rfl, by show 2 ≤ sizeLine; decide, fun p2 np2 => ?_⟩
      exact ret (.num w) _ H6 zs rfl hw1 True.intro (.int _) (k5'.trans k6) htd6 p2 np2
  · rw [decide_eq_false h5]
    refine iteF ?_
    dsimp only [tNext]
    refine ⟨_, rfl, rfl, _, rfl, ?_⟩
    by_cases e5 : V.int r = V.int 5
    · rw [decide_eq_true e5]
      refine iteT ⟨_, rfl, td, _, ys, rfl, htd1, by decide, fun r2 H6 zs h20 h26 k6 htd6 => ⟨rfl, by show 2 ≤ sizeLine; decide, fun p2 np2 => ?_⟩⟩
      exact ret (.flg _) _ H6 zs rfl True.intro True.intro (.bl _) (k1.trans k6) htd6 p2 np2
    rw [decide_eq_false e5]
    refine iteF ?_
    dsimp only [tNext]
    refine ⟨_, rfl, rfl, _, rfl, ?_⟩
    by_cases e6 : V.int r = V.int 6
    · rw [decide_eq_true e6]
      refine iteT ⟨by show 4 ≤ sizeLine; decide, fun p np => ⟨_, rfl, pick htd1 np rfl (by decide) fun v hv H3 vs k3 htd3 => ?_⟩⟩
      have hvo : ∃ n : Nat, v = .int (n : Nat) ∧ n ≤ 100 := by
        simp only [List.mem_cons, List.not_mem_nil, or_false] at hv
        rcases hv with rfl | rfl | rfl | rfl
        · exact ⟨0, rfl, by decide⟩
        · exact ⟨1, rfl, by decide⟩
        · exact ⟨3, rfl, by decide⟩
        · exact ⟨100, rfl, by decide⟩
      obtain ⟨n, rfl, hn⟩ := hvo
      dsimp only [gName]
      refine ⟨rfl, _, rfl, _, rfl, by omega, by omega, fun D nD => ?_⟩
      refine lc_signs (i := 6) htd3 nD (k1.trans k3) (fun _ _ _ h => h) (fun _ => rfl) (fun _ => rfl) rfl (by decide) (by decide) (by omega) fun cs H4 ws hcl hcs k4 htd4 hD4 => ?_
      rw [Int.toNat_natCast] at hcl
      obtain ⟨jj, hj1, hj2, hj3⟩ := join_signs (K := K) hD4 (by omega)
      refine ⟨_, D, jj, rfl, rfl, .inl hj1, hj2, ?_⟩
      rw [hj3]
      refine ⟨by show 2 ≤ sizeLine; decide, fun p2 np2 => ?_⟩
      have hb : ∀ c ∈ (("ab ;()'#\\.9" : Str)).cps.toList, noQ c = true ∧ c < 1114112 := by decide +kernel
      exact ret (.txt cs) _ H4 ws rfl ⟨by omega, fun c hc => (hb c (hcs c hc)).1⟩ (fun c hc => (hb c (hcs c hc)).2) (.str _) k4 htd4 p2 np2
    rw [decide_eq_false e6]
    refine iteF ?_
    dsimp only [tNext]
    refine ⟨_, rfl, rfl, _, rfl, ?_⟩
    by_cases e7 : V.int r = V.int 7
    · rw [decide_eq_true e7]
      refine iteT ⟨by show 2 ≤ sizeLine; decide, fun p2 np2 => ?_⟩
      exact ret .dots _ H1 ys rfl True.intro True.intro .non k1 htd1 p2 np2
    rw [decide_eq_false e7]
    refine iteF ?_
    dsimp only [tNext]
    refine ⟨by show 2 ≤ sizeLine; decide, fun p2 np2 => ?_⟩
    exact ret .wild _ H1 ys rfl True.intro True.intro .non k1 htd1 p2 np2
end
end W4
set_option Elab.async false
set_option linter.all false
set_option maxRecDepth 100000
set_option maxHeartbeats 4000000
namespace W4
open PySem PySem.Spec PyProof.Rows L2 Com SX GxR
/-! the trees that the law draws -/
def tz : Nat → Nat
  | 0 => 1
  | d + 1 => 1 + 3 * tz d
theorem tz_pos (d : Nat) : 1 ≤ tz d := by cases d <;> simp [tz]
theorem q_quo : ("quote" : Str) = S quoT := by decide +kernel
theorem q_syn : ("syntax" : Str) = S synT := by decide +kernel
theorem ok_quo : okT (.nam quoT) := by show sortW quoT = "name"; decide +kernel
theorem ok_syn : okT (.nam synT) := by show sortW synT = "name"; decide +kernel
theorem okL_one {x y : Tr} (h : okT x) (k : okT y) : okT (.lst [x, y]) := by
  simp only [okT, okL]
  exact ⟨h, k, True.intro⟩
theorem cpL_two {x y : Tr} (h : cpT x) (k : cpT y) : cpT (.lst [x, y]) := by
  simp only [cpT, cpL]
  exact ⟨h, k, True.intro⟩
theorem okL_app : ∀ {l m : List Tr}, okL l → okL m → okL (l ++ m)
  | [], _, _, h => h
  | x :: l, m, h, k => by
    simp only [okL] at h
    simp only [List.cons_append, okL]
    exact ⟨h.1, okL_app h.2 k⟩
theorem cpL_app : ∀ {l m : List Tr}, cpL l → cpL m → cpL (l ++ m)
  | [], _, _, h => h
  | x :: l, m, h, k => by
    simp only [cpL] at h
    simp only [List.cons_append, cpL]
    exact ⟨h.1, cpL_app h.2 k⟩
theorem okL_sing {x : Tr} (h : okT x) : okL [x] := by simp only [okL]; exact ⟨h, True.intro⟩
theorem cpL_sing {x : Tr} (h : cpT x) : cpL [x] := by simp only [cpL]; exact ⟨h, True.intro⟩
theorem szL_app : ∀ {l m : List Tr}, szL (l ++ m) = szL l + szL m
  | [], m => by simp [szL]
  | x :: l, m => by simp only [List.cons_append, szL, szL_app (l := l)]; omega
theorem dpL_app : ∀ {l m : List Tr}, dpL (l ++ m) = max (dpL l) (dpL m)
  | [], m => by simp [dpL]
  | x :: l, m => by simp only [List.cons_append, dpL, dpL_app (l := l)]; omega
section
variable {P : Program} {w : World} {K : PySem.W.Frag} {mg : Str → Option Value} {base : Heap}
def spTree (n : Nat) : Sp := fun vs H Q _ => ∃ (td : Addr) (d : Nat) (xs : List Int) (bad : List Addr), vs = [.ref td, .int (d : Nat)] ∧ d < n ∧ H td = some (.lst (xs.map V.int)) ∧ td ∈ bad ∧ (∀ b ∈ bad, H b ≠ none) ∧
  ∀ (v : V) (x : Tr) (H' : Hp) (ys : List Int), TrAt bad H' v x → okT x → cpT x → dpT x ≤ d → szT x ≤ tz d → Keep td H H' → H' td = some (.lst (ys.map V.int)) → Q v H'
theorem Keep.some {td b : Addr} {H H' : Hp} {xs : List V} (k : Keep td H H') (h : H' td = some (.lst xs)) (hb : H b ≠ none) : H' b ≠ none := by
  intro e
  exact hb (k.nn e (ne_td h e))
theorem ok_tree {f : Addr} {fd : FuncData} {n k : Nat} (hk : 2 ≤ k) (F : Dfn K mg "_law_tree" st__law_tree f fd ["draws", "depth"]) (M : Mg mg) (G_law_take : Cal P w K mg base 1 "_law_take" spTake) (G_law_atom : Cal P w K mg base 2 "_law_atom" spAtm) (G_law_tree : Cal P w K mg base k "_law_tree" (spTree n)) : Cal P w K mg base (k + 1) "_law_tree" (spTree (n + 1)) := by
  refine cal_mk F sc_law_tree (fun vs H Q E h => ?_) (fun cdv A outer s H vs Q E hr h => ?_)
  · obtain ⟨td, d, xs, bad, rfl, _⟩ := h
    rfl
  obtain ⟨td, d, xs, bad, rfl, hd, htd, htb, hbn, q⟩ := h
  have sub : ∀ {Ha Hb : Hp} {zs : List V}, Keep td Ha Hb → Ha td = some (.lst zs) → Kq bad Ha Hb := fun k h => (Kq.keep k h).sub fun b hb => by rw [List.mem_singleton.mp hb]; exact htb
  have atm : ∀ {H1 : Hp} {ys : List Int}, Keep td H H1 → H1 td = some (.lst (ys.map V.int)) → spAtm [.ref td] H1 Q E0 := fun k1 htd1 => ⟨td, _, rfl, htd1, fun v x H2 zs ht hx ok cp k2 htd2 => q v x H2 zs (ht bad) ok cp (by rw [dp_atom hx]; exact Nat.zero_le _) (by rw [szT_atom hx]; exact tz_pos d) (k1.trans k2) htd2⟩
  refine ⟨_, (pss_cons (ps_if (PW.pt (pw_or (pt_cmpR op_eq (pv 1) pe_int (nomark _)) (pw_or1 (pt_cmpR op_eq (pe_c G_law_take hr (by omega) (by rfl) (pa_cons (pv 0) (pa_cons pe_int pa_nil))) pe_int (nomark _))))) (pss_one (ps_ret (pe_c G_law_atom hr (by omega) (by rfl) (pa_cons (pv 0) pa_nil)))) pss_nil)
      (pss_cons (ps_if (pt_cmpR op_eq (pe_c G_law_take hr (by omega) (by rfl) (pa_cons (pv 0) (pa_cons pe_int pa_nil))) pe_int (nomark _)) (pss_one (ps_ret (pe_tup (pa_cons pe_str (pa_cons (pe_lst (pa_cons (pe_tup (pa_cons pe_str (pa_cons (pe_ix (ixT K rfl) (pe_tup (pa_cons pe_str (pa_cons pe_str pa_nil))) (pe_c G_law_take hr (by omega) (by rfl) (pa_cons (pv 0) (pa_cons pe_int pa_nil))) (fun _ _ => rfl)) pa_nil))) (pa_cons (pe_c G_law_tree hr (by omega) (by rfl) (pa_cons (pv 0) (pa_cons (pe_op op_sub (pv 1) pe_int) pa_nil))) pa_nil))) pa_nil))))) pss_nil)
      (pss_one (ps_ret (pe_tup (pa_cons pe_str (pa_cons (pe_lc (own := [("k", 2)]) (g := gName 2) (by rfl) sc_law_tree.nd (pi_range1 (by rfl) M.range (pa_cons (pe_c G_law_take hr (by omega) (by rfl) (pa_cons (pv 0) (pa_cons pe_int pa_nil))) pa_nil)) (blkOk_by (own := [("k", 2)]) (N := ["draws", "depth", "k"]) (sc := defScope st__law_tree) (by decide +kernel)) (fun _ _ _ _ _ => (pg_name (i := 2) sc_law_tree.nd rfl (.inl rfl))) (fun _ _ _ _ _ => pts_nil) (fun _ _ _ _ _ => (pe_c G_law_tree hr (by omega) (by rfl) (pa_cons (pv 0) (pa_cons (pe_op op_sub (pv 1) pe_int) pa_nil))))) pa_nil))))))), ?_⟩
  refine ⟨_, rfl, rfl, _, rfl, ?_⟩
  by_cases e0 : V.int ((d : Nat) : Int) = V.int 0
  · rw [decide_eq_true e0]
    exact iteT (iteT ⟨_, rfl, atm (Keep.refl _ _) htd⟩)
  rw [decide_eq_false e0]
  have d0 : d ≠ 0 := fun z => e0 (by rw [z]; rfl)
  have eqd : ([V.ref td, V.int ((d : Int) - 1)] : List V) = [.ref td, .int ((d - 1 : Nat) : Int)] := by rw [show ((d : Int) - 1) = ((d - 1 : Nat) : Int) by omega]
  have etz : tz d = 1 + 3 * tz (d - 1) := by
    obtain ⟨e, rfl⟩ : ∃ e, d = e + 1 := ⟨d - 1, by omega⟩
    rfl
  have tz1 := tz_pos (d - 1)
  refine iteF ⟨_, rfl, td, _, xs, rfl, htd, by decide, fun r H1 ys h0 h3 k1 htd1 => ⟨rfl, _, rfl, ?_⟩⟩
  by_cases e1 : V.int r = V.int 0
  · rw [decide_eq_true e1]
    exact iteT ⟨_, rfl, atm k1 htd1⟩
  rw [decide_eq_false e1]
  refine iteF ?_
  dsimp only [tNext]
  refine ⟨_, rfl, td, _, ys, rfl, htd1, by decide, fun r2 H2 zs h20 h25 k2 htd2 => ⟨rfl, _, rfl, ?_⟩⟩
  have k12 := k1.trans k2
  by_cases e2 : V.int r2 = V.int 0
  · rw [decide_eq_true e2]
    refine iteT ⟨by show 2 ≤ sizeLine; decide, fun p np => ⟨_, rfl, pick htd2 np rfl (by decide) fun v hv H3 us k3 htd3 => ?_⟩⟩
    have hvo : ∃ w : T, v = .str (S w) ∧ okT (.nam w) := by
      simp only [List.mem_cons, List.not_mem_nil, or_false] at hv
      rcases hv with rfl | rfl
      · exact ⟨quoT, by rw [q_quo], ok_quo⟩
      · exact ⟨synT, by rw [q_syn], ok_syn⟩
    obtain ⟨w, rfl, hw⟩ := hvo
    have k13 := k12.trans k3
    refine ⟨by show 2 ≤ sizeLine; decide, fun p2 np2 => ?_⟩
    have hp2 := ne_td htd3 np2
    have htd4 : L2.upd H3 p2 (.tup [.str "name", .str (S w)]) td = some (.lst (us.map V.int)) := by rw [upd_ne (Ne.symm hp2)]; exact htd3
    have k14 : Keep td H (L2.upd H3 p2 (.tup [.str "name", .str (S w)])) := k13.trans (Keep.new np2)
    refine ⟨_, rfl, _, rfl, _, _, rfl, rfl, td, d - 1, us, bad, eqd, by omega, htd4, htb, fun b hb => k14.some htd4 (hbn b hb), fun v x H5 vs hx okx cpx dpx szx k5 htd5 => ?_⟩
    have hp25 := k5 p2 _ upd_same hp2
    refine ⟨by show 2 ≤ sizeLine; decide, fun L nL => ⟨by show 2 ≤ sizeLine; decide, fun p3 np3 => ?_⟩⟩
    have s1 := same_upd (o := .lst [V.ref p2, v]) nL
    have s2 := same_upd (o := .tup [.str "list", .ref L]) np3
    have s3 := same_trans s1 s2
    have k15 := k14.trans k5
    refine q _ (.lst [.nam w, x]) _ vs (.lst upd_same (s2 _ _ upd_same) (fun z => ?_) (.cons (.leaf rfl (s3 _ _ hp25) (.str _)) (.cons (hx.kq (.same s3)) .nil))) (okL_one hw okx) (cpL_two True.intro cpx) ?_ ?_ (k15.trans (.same s3)) (s3 _ _ htd5)
    · exact k15.some htd5 (hbn L z) nL
    · simp only [dpT, dpL]
      omega
    · simp only [szT, szL]
      omega
  rw [decide_eq_false e2]
  refine iteF ?_
  dsimp only [tNext]
  refine ⟨_, rfl, td, _, zs, rfl, htd2, by decide, fun m H3 us hm0 hm4 k3 htd3 => ⟨m, rfl, by omega, by omega, fun D nD => ?_⟩⟩
  have k13 := k12.trans k3
  have hDtd := ne_td htd3 nD
  have hDb : D ∉ bad := fun z => k13.some htd3 (hbn D z) nD
  have nDH := k13.nn nD hDtd
  refine lc_range (lo := 0) (n := m.toNat) (fun i H' => Keep td H H' ∧ (∃ us : List Int, H' td = some (.lst (us.map V.int))) ∧ ∃ (ws : List V) (l : List Tr), H' D = some (.lst ws) ∧ l.length = i ∧ TrAll (D :: bad) H' ws l ∧ okL l ∧ cpL l ∧ dpL l ≤ d - 1 ∧ szL l ≤ i * tz (d - 1))
    ⟨k13.trans (Keep.new nD), ⟨us, by rw [upd_ne (Ne.symm hDtd)]; exact htd3⟩, [], [], upd_same, rfl, .nil, True.intro, True.intro, by simp [dpL], by simp [szL]⟩ ?_ ?_
  · rintro i H4 hi ⟨k4, ⟨vs, htd4⟩, ws, l, hD4, hl, ha, okl, cpl, dpl, szl⟩
    refine ⟨rfl, ?_⟩
    unfold tYes
    refine iteT ⟨_, rfl, _, rfl, _, _, rfl, rfl, td, d - 1, vs, D :: bad, eqd, by omega, htd4, List.mem_cons_of_mem _ htb, fun b hb => ?_, fun v x H5 ts hx okx cpx dpx szx k5 htd5 => ?_⟩
    · rcases List.mem_cons.mp hb with rfl | hb
      · rw [hD4]; simp
      · exact k4.some htd4 (hbn b hb)
    have hD5 := k5 D _ hD4 hDtd
    have kD : Kq (D :: bad) H5 (L2.upd H5 D (.lst (ws ++ [v]))) := (Kq.put hD5).sub fun b hb => by rw [List.mem_singleton.mp hb]; exact List.mem_cons_self
    have kk : Kq (D :: bad) H4 H5 := (sub k5 htd4).sub fun b hb => List.mem_cons_of_mem _ hb
    have hwl := ha.len
    refine ⟨ws, hD5, by show _ < 2 ^ 24; omega, fun b o e n => ?_, ⟨ts, ?_⟩, ws ++ [v], l ++ [x], upd_same, by rw [List.length_append, hl]; rfl, ((ha.kq kk).kq kD).app (.cons (hx.kq kD) .nil), okL_app okl (okL_sing okx), cpL_app cpl (cpL_sing cpx), ?_, ?_⟩
    · rw [upd_ne (ne_of_none e nDH)]
      exact (k4.trans k5) b o e n
    · rw [upd_ne (Ne.symm hDtd)]
      exact htd5
    · rw [dpL_app]
      simp only [dpL]
      omega
    · rw [szL_app, Nat.succ_mul]
      simp only [szL]
      omega
  · rintro H4 ⟨k4, ⟨vs, htd4⟩, ws, l, hD4, hl, ha, okl, cpl, dpl, szl⟩
    refine ⟨by show 2 ≤ sizeLine; decide, fun p np => ?_⟩
    have s1 := same_upd (o := .tup [.str "list", .ref D]) np
    refine q _ (.lst l) _ vs (.lst upd_same (s1 _ _ hD4) hDb ((ha.kq (.same s1)).more fun b hb => .inl (List.mem_cons_of_mem _ hb))) (by simp only [okT]; exact okl) (by simp only [cpT]; exact cpl) ?_ ?_ (k4.trans (.same s1)) (s1 _ _ htd4)
    · simp only [dpT]
      omega
    · simp only [szT]
      have : m.toNat * tz (d - 1) ≤ 3 * tz (d - 1) := Nat.mul_le_mul_right _ (by omega)
      omega
theorem tree_all {f : Addr} {fd : FuncData} (F : Dfn K mg "_law_tree" st__law_tree f fd ["draws", "depth"]) (M : Mg mg) (G_law_take : Cal P w K mg base 1 "_law_take" spTake) (G_law_atom : Cal P w K mg base 2 "_law_atom" spAtm) : ∀ n : Nat, Cal P w K mg base (n + 2) "_law_tree" (spTree n)
  | 0 => by
    have no : ∀ vs H Q E, ¬ spTree 0 vs H Q E := fun vs H Q E h => by
      obtain ⟨_, _, _, _, _, h, _⟩ := h
      exact Nat.not_lt_zero _ h
    exact ⟨f, fd, _, ⟨fun vs H Q E h => absurd h (no vs H Q E), fun A outer s H args us vs Q E _ _ _ _ h => absurd h (no vs H Q E)⟩, F.mgf, F.fn.kp, F.b⟩
  | n + 1 => ok_tree (by omega) F M G_law_take G_law_atom (tree_all F M G_law_take G_law_atom n)
end
end W4
set_option Elab.async false
set_option linter.all false
set_option maxRecDepth 100000
set_option maxHeartbeats 4000000
namespace W4
open PySem PySem.Spec PyProof.Rows L2 Com SX GxR
section
variable {P : Program} {w : World} {K : PySem.W.Frag} {mg : Str → Option Value} {base : Heap}
def spChain : Sp := fun vs H Q _ => ∃ (td : Addr) (d : Nat) (xs : List Int) (bad : List Addr), vs = [.ref td, .int (d : Nat)] ∧ d ≤ 1000 ∧ H td = some (.lst (xs.map V.int)) ∧ td ∈ bad ∧ (∀ b ∈ bad, H b ≠ none) ∧
  ∀ (v : V) (x : Tr) (H' : Hp) (ys : List Int), TrAt bad H' v x → okT x → cpT x → dpT x ≤ d → szT x ≤ 1 + 2 * d → Keep td H H' → H' td = some (.lst (ys.map V.int)) → Q v H'
theorem ok_chain {f : Addr} {fd : FuncData} (F : Dfn K mg "_law_chain" st__law_chain f fd ["draws", "depth"]) (M : Mg mg) (G_law_take : Cal P w K mg base 1 "_law_take" spTake) (G_law_atom : Cal P w K mg base 2 "_law_atom" spAtm) : Cal P w K mg base 3 "_law_chain" spChain := by
  refine cal_mk F sc_law_chain (fun vs H Q E h => ?_) (fun cdv A outer s H vs Q E hr h => ?_)
  · obtain ⟨td, d, xs, bad, rfl, _⟩ := h
    rfl
  obtain ⟨td, d, xs, bad, rfl, hd, htd, htb, hbn, q⟩ := h
  have sub : ∀ {Ha Hb : Hp} {zs : List V}, Keep td Ha Hb → Ha td = some (.lst zs) → Kq bad Ha Hb := fun k h => (Kq.keep k h).sub fun b hb => by rw [List.mem_singleton.mp hb]; exact htb
  refine ⟨_, (pss_cons (ps_set (i := 2) sc_law_chain.nd rfl (.inl rfl) (pe_c G_law_atom hr (by omega) (by rfl) (pa_cons (pv 0) pa_nil)))
      (pss_cons (ps_for PassesOwn.never rfl (pi_range1 (by rfl) M.range (pa_cons (pv 1) pa_nil)) (pg_name (i := 3) sc_law_chain.nd rfl (.inl rfl))
      (pss_cons (ps_set (i := 4) sc_law_chain.nd rfl (.inl rfl) (pe_c G_law_take hr (by omega) (by rfl) (pa_cons (pv 0) (pa_cons pe_int pa_nil))))
      (pss_one (ps_if (pt_cmpR op_eq (pv 4) pe_int (nomark _)) (pss_one (ps_set (i := 2) sc_law_chain.nd rfl (.inl rfl) (pe_tup (pa_cons pe_str (pa_cons (pe_lst (pa_cons (pe_tup (pa_cons pe_str (pa_cons (pe_ix (ixT K rfl) (pe_tup (pa_cons pe_str (pa_cons pe_str pa_nil))) (pe_c G_law_take hr (by omega) (by rfl) (pa_cons (pv 0) (pa_cons pe_int pa_nil))) (fun _ _ => rfl)) pa_nil))) (pa_cons (pv 2) pa_nil))) pa_nil))))) (pss_one (ps_set (i := 2) sc_law_chain.nd rfl (.inl rfl) (pe_tup (pa_cons pe_str (pa_cons (pe_op op_cat (pe_lc (own := [("j", 5)]) (g := gName 5) (by rfl) sc_law_chain.nd (pi_range1 (by rfl) M.range (pa_cons (pe_c G_law_take hr (by omega) (by rfl) (pa_cons (pv 0) (pa_cons pe_int pa_nil))) pa_nil)) (blkOk_by (own := [("j", 5)]) (N := ["draws", "depth", "tree", "k", "kind", "j"]) (sc := defScope st__law_chain) (by decide +kernel)) (fun _ _ _ _ _ => (pg_name (i := 5) sc_law_chain.nd rfl (.inl rfl))) (fun _ _ _ _ _ => pts_nil) (fun _ _ _ _ _ => (pe_c G_law_atom hr (by omega) (by rfl) (pa_cons (pv 0) pa_nil)))) (pe_lst (pa_cons (pv 2) pa_nil))) pa_nil)))))))))
      (pss_one (ps_ret (pv 2))))), ?_⟩
  refine ⟨_, rfl, td, _, rfl, htd, fun v x H1 ys hx hxl okx cpx k1 htd1 => ?_⟩
  dsimp only [gName]
  refine ⟨_, rfl, _, rfl, by omega, by omega, for_range (lo := 0) (n := d) (fun i σ H' => ∃ (v : V) (x : Tr) (ys : List Int) (y3 y4 : Option V), σ = [some (.ref td), some (.int (d : Nat)), some v, y3, y4, none] ∧ TrAt bad H' v x ∧ okT x ∧ cpT x ∧ dpT x ≤ i ∧ szT x ≤ 1 + 2 * i ∧ Keep td H H' ∧ H' td = some (.lst (ys.map V.int)))
    ⟨v, x, ys, none, none, rfl, hx bad, okx, cpx, by rw [dp_atom hxl]; exact Nat.zero_le _, by rw [szT_atom hxl]; exact Nat.le_refl _, k1, htd1⟩ ?_ ?_⟩
  · rintro i σ H2 hi ⟨v, x, ys, y3, y4, rfl, hx, okx, cpx, dpx, szx, k2, htd2⟩
    dsimp only [gName]
    refine ⟨_, rfl, td, _, ys, rfl, htd2, by decide, fun r H3 zs h0 h3 k3 htd3 => ?_⟩
    dsimp only [gName]
    have k23 := k2.trans k3
    have hx3 := hx.kq (sub k3 htd2)
    refine ⟨_, rfl, rfl, _, rfl, ?_⟩
    by_cases e0 : V.int r = V.int 0
    · rw [decide_eq_true e0]
      refine iteT ⟨by show 2 ≤ sizeLine; decide, fun p np => ⟨_, rfl, pick htd3 np rfl (by decide) fun u hu H4 us k4 htd4 => ?_⟩⟩
      have hvo : ∃ w : T, u = .str (S w) ∧ okT (.nam w) := by
        simp only [List.mem_cons, List.not_mem_nil, or_false] at hu
        rcases hu with rfl | rfl
        · exact ⟨quoT, by rw [q_quo], ok_quo⟩
        · exact ⟨synT, by rw [q_syn], ok_syn⟩
      obtain ⟨w, rfl, hw⟩ := hvo
      have k24 := k23.trans k4
      have hx4 := hx3.kq (sub k4 htd3)
      refine ⟨by show 2 ≤ sizeLine; decide, fun p2 np2 => ?_⟩
      have s0 := same_upd (o := .tup [.str "name", .str (S w)]) np2
      have hp2 := upd_same (H := H4) (a := p2) (o := .tup [.str "name", .str (S w)])
      generalize L2.upd H4 p2 (.tup [.str "name", .str (S w)]) = H5 at s0 hp2 ⊢
      refine ⟨_, rfl, by show 2 ≤ sizeLine; decide, fun L nL => ⟨by show 2 ≤ sizeLine; decide, fun p3 np3 => ?_⟩⟩
      have s1 := same_upd (o := .lst [V.ref p2, v]) nL
      have s2 := same_upd (o := .tup [.str "list", .ref L]) np3
      have s3 := same_trans s1 s2
      have s4 := same_trans s0 s3
      dsimp only [gName]
      refine ⟨_, .lst [.nam w, x], us, _, _, rfl, .lst upd_same (s2 _ _ upd_same) (fun z => ?_) (.cons (.leaf rfl (s3 _ _ hp2) (.str _)) (.cons (hx4.kq (.same s4)) .nil)), okL_one hw okx, cpL_two True.intro cpx, ?_, ?_, k24.trans (.same s4), s4 _ _ htd4⟩
      · exact (k24.trans (.same s0)).some (s0 _ _ htd4) (hbn L z) nL
      · simp only [dpT, dpL]
        omega
      · simp only [szT, szL]
        omega
    rw [decide_eq_false e0]
    refine iteF ⟨_, rfl, td, _, zs, rfl, htd3, by decide, fun m H4 us hm0 hm2 k4 htd4 => ⟨m, rfl, by omega, by omega, fun D nD => ?_⟩⟩
    have k24 := k23.trans k4
    have hx4 := hx3.kq (sub k4 htd3)
    have hDtd := ne_td htd4 nD
    have nDH := k24.nn nD hDtd
    have hx4' : TrAt (D :: bad) H4 v x := hx4.more fun b hb => (List.mem_cons.mp hb).elim (fun e => .inr (by rw [e]; exact nD)) .inl
    refine lc_range (lo := 0) (n := m.toNat) (fun i H' => Keep td H H' ∧ (∃ us : List Int, H' td = some (.lst (us.map V.int))) ∧ TrAt (D :: bad) H' v x ∧ ∃ (ws : List V) (l : List Tr), H' D = some (.lst ws) ∧ l.length = i ∧ TrAll (D :: bad) H' ws l ∧ okL l ∧ cpL l ∧ dpL l = 0 ∧ szL l = i)
      ⟨k24.trans (Keep.new nD), ⟨us, by rw [upd_ne (Ne.symm hDtd)]; exact htd4⟩, hx4'.kq (.same (same_upd nD)), [], [], upd_same, rfl, .nil, True.intro, True.intro, by simp [dpL], by simp [szL]⟩ ?_ ?_
    · rintro j H5 hj ⟨k5, ⟨vs, htd5⟩, hx5, ws, l, hD5, hl, ha, okl, cpl, dpl, szl⟩
      refine ⟨rfl, ?_⟩
      unfold tYes
      refine iteT ⟨_, rfl, td, _, rfl, htd5, fun u z H6 ts hz hzl okz cpz k6 htd6 => ?_⟩
      have hD6 := k6 D _ hD5 hDtd
      have kD : Kq (D :: bad) H6 (L2.upd H6 D (.lst (ws ++ [u]))) := (Kq.put hD6).sub fun b hb => by rw [List.mem_singleton.mp hb]; exact List.mem_cons_self
      have kk : Kq (D :: bad) H5 H6 := (sub k6 htd5).sub fun b hb => List.mem_cons_of_mem _ hb
      have hwl := ha.len
      refine ⟨ws, hD6, by show _ < 2 ^ 24; omega, fun b o e n => ?_, ⟨ts, ?_⟩, (hx5.kq kk).kq kD, ws ++ [u], l ++ [z], upd_same, by rw [List.length_append, hl]; rfl, ((ha.kq kk).kq kD).app (.cons ((hz _).kq kD) .nil), okL_app okl (okL_sing okz), cpL_app cpl (cpL_sing cpz), ?_, ?_⟩
      · rw [upd_ne (ne_of_none e nDH)]
        exact (k5.trans k6) b o e n
      · rw [upd_ne (Ne.symm hDtd)]
        exact htd6
      · rw [dpL_app, dpl]
        simp only [dpL, dp_atom hzl]
        rfl
      · rw [szL_app, szl]
        simp only [szL, szT_atom hzl]
    · rintro H5 ⟨k5, ⟨vs, htd5⟩, hx5, ws, l, hD5, hl, ha, okl, cpl, dpl, szl⟩
      have hwl := ha.len
      refine ⟨_, rfl, by show 1 ≤ sizeLine; decide, fun z0 nz => ?_⟩
      have s1 := same_upd (o := .lst [v]) nz
      have hD6 := s1 _ _ hD5
      have e6 := upd_same (H := H5) (a := z0) (o := .lst [v])
      generalize L2.upd H5 z0 (.lst [v]) = H6 at s1 hD6 e6 ⊢
      refine ⟨D, z0, _, _, rfl, rfl, hD6, e6, by show _ + 1 ≤ 2 ^ 24; omega, fun L nL => ?_⟩
      have s2 := same_upd (o := .lst (ws ++ [v])) nL
      have e7 := upd_same (H := H6) (a := L) (o := .lst (ws ++ [v]))
      generalize L2.upd H6 L (.lst (ws ++ [v])) = H7 at s2 e7 ⊢
      refine ⟨by show 2 ≤ sizeLine; decide, fun p3 np3 => ?_⟩
      have s3 := same_upd (o := .tup [.str "list", .ref L]) np3
      have s4 := same_trans s1 (same_trans s2 s3)
      dsimp only [gName]
      have mr : ∀ b ∈ bad, b ∈ D :: bad ∨ H5 b = none := fun b hb => .inl (List.mem_cons_of_mem _ hb)
      refine ⟨_, .lst (l ++ [x]), vs, _, _, rfl, .lst upd_same (s3 _ _ e7) (fun z => ?_) (((ha.more mr).kq (.same s4)).app (.cons ((hx5.more mr).kq (.same s4)) .nil)), ?_, ?_, ?_, ?_, k5.trans (.same s4), s4 _ _ htd5⟩
      · exact (k5.trans (.same s1)).some (s1 _ _ htd5) (hbn L z) nL
      · simp only [okT]
        exact okL_app okl (okL_sing okx)
      · simp only [cpT]
        exact cpL_app cpl (cpL_sing cpx)
      · simp only [dpT, dpL_app, dpl, dpL]
        omega
      · simp only [szT, szL_app, szl, szL]
        omega
  · rintro σ H2 ⟨v, x, ys, y3, y4, rfl, hx, okx, cpx, dpx, szx, k2, htd2⟩
    exact ⟨_, rfl, q v x H2 ys hx okx cpx dpx szx k2 htd2⟩
end
end W4
set_option Elab.async false
set_option linter.all false
set_option maxRecDepth 100000
set_option maxHeartbeats 4000000
namespace W4
open PySem PySem.Spec PyProof.Rows L2 Com SX GxR
def plKV : List (Key × V) := [(.inr "dots", .str "..."), (.inr "wild", .str "_")]
theorem pl_nam : valV (mergeK [] plKV) (.inr "name") = none := by rfl
theorem pl_dots : valV (mergeK [] plKV) (.inr "dots") = some (.str "...") := by rfl
theorem pl_wild : valV (mergeK [] plKV) (.inr "wild") = some (.str "_") := by rfl
theorem join_sh {K : PySem.W.Frag} {H : Hp} {D : Addr} {l : List Tr} (h : H D = some (.lst (((l.map shT).map S).map V.str))) (ok : okL l) (hs : szL l ≤ 100000) :
    ∃ ys : List Str, SqL K H D (ys.map V.str) ∧ (ys.map (·.length)).sum + ys.length * (" " : Str).length ≤ 16777216 ∧ Txt.join (" " : Str) ys = S (TL.joinL [32] (shL l)) := by
  rw [← shL_map] at h
  have hL := shL_len l ok
  have l3 : (" " : Str).length = 1 := by decide +kernel
  have hsum : (((shL l).map S).map (·.length)).sum + ((shL l).map S).length * 1 = ((shL l).map fun y => y.length + 1).sum := by
    generalize shL l = ys
    induction ys with
    | nil => rfl
    | cons y ys ih =>
      simp only [List.map_cons, List.sum_cons, List.length_cons] at ih ⊢
      rw [len_S]
      omega
  exact ⟨(shL l).map S, SqL.of h, by rw [l3, hsum]; omega, joinT_S _⟩
section
variable {P : Program} {w : World} {K : PySem.W.Frag} {mg : Str → Option Value} {base : Heap}
def spPlain (n : Nat) : Sp := fun vs H Q _ => ∃ (v : V) (x : Tr) (bad : List Addr), vs = [v] ∧ TrAt bad H v x ∧ okT x ∧ dpT x < n ∧ szT x ≤ 100000 ∧ ∀ H', Same H H' → Q (.str (S (shT x))) H'
theorem ok_plain {f : Addr} {fd : FuncData} {n k : Nat} (F : Dfn K mg "_law_plain" st__law_plain f fd ["tree"]) (M : Mg mg) (G_law_plain : Cal P w K mg base k "_law_plain" (spPlain n)) : Cal P w K mg base (k + 1) "_law_plain" (spPlain (n + 1)) := by
  refine cal_mk F sc_law_plain (fun vs H Q E h => ?_) (fun cdv A outer s H vs Q E hr h => ?_)
  · obtain ⟨v, x, bad, rfl, _⟩ := h
    rfl
  obtain ⟨v, x, bad, rfl, hv, ok, hd, hs, q⟩ := h
  have hsl : sizeLine = 16777216 := sizeLine_eq
  have hu : ∀ e, (A.deeper e).units + 65 < cLine → (A.deeper e).units + 1 < cLine := fun e h => by omega
  have hu := hu _ (units65 hr)
  refine ⟨_, (pss_cons (ps_if (pt_cmpR op_eq (pe_ix (ixT K rfl) (pv 0) pe_int (fun _ _ => rfl)) pe_str (nomark _)) (pss_one (ps_ret (pe_op op_add_str (pe_op op_add_str pe_str (pe_bm PySem.F.plainAttrs_str PySem.F.slot_str_join PySem.F.type_str_join mt_join pe_str (pa_cons (pe_lc (own := [("part", 1)]) (g := gName 1) (by rfl) sc_law_plain.nd (pi_list (pe_ix (ixT K rfl) (pv 0) pe_int (fun _ _ => rfl))) (blkOk_by (own := [("part", 1)]) (N := ["tree", "part"]) (sc := defScope st__law_plain) (by decide +kernel)) (fun _ _ _ _ _ => (pg_name (i := 1) sc_law_plain.nd rfl (.inl rfl))) (fun _ _ _ _ _ => pts_nil) (fun _ _ _ _ _ => (pe_c G_law_plain hr (by omega) (by rfl) (pa_cons (pv 1) pa_nil)))) pa_nil))) pe_str))) pss_nil)
      (pss_cons (ps_if (pt_cmpR op_eq (pe_ix (ixT K rfl) (pv 0) pe_int (fun _ _ => rfl)) pe_str (nomark _)) (pss_one (ps_ret (pe_callTy call_str_int (by rfl) M.str b_str (pa_cons (pe_ix (ixT K rfl) (pv 0) pe_int (fun _ _ => rfl)) pa_nil)))) pss_nil)
      (pss_cons (ps_if (pt_cmpR op_eq (pe_ix (ixT K rfl) (pv 0) pe_int (fun _ _ => rfl)) pe_str (nomark _)) (pss_one (ps_ret (pe_op op_add_str (pe_op op_add_str pe_str (pe_ix (ixT K rfl) (pv 0) pe_int (fun _ _ => rfl))) pe_str))) pss_nil)
      (pss_cons (ps_if (pt_cmpR op_eq (pe_ix (ixT K rfl) (pv 0) pe_int (fun _ _ => rfl)) pe_str (nomark _)) (pss_one (ps_ret (pe_ifExp (pt_truth (pe_ix (ixT K rfl) (pv 0) pe_int (fun _ _ => rfl)) (by intro _; rfl)) pe_str pe_str))) pss_nil)
      (pss_one (ps_ret (pe_dget2 hu (pe_disp (pps_cons pe_str pe_str (pps_cons pe_str pe_str pps_nil)) (by rfl) (by rfl) (fun z => by cases z) (by decide)) (pe_ix (ixT K rfl) (pv 0) pe_int (fun _ _ => rfl)) (pe_ix (ixT K rfl) (pv 0) pe_int (fun _ _ => rfl)) ⟨rfl, rfl, rfl, rfl⟩))))))), ?_⟩
  cases hv with
  | @lst p qa vs l hp hqa hnb hall =>
    simp only [dpT] at hd
    simp only [okT] at ok
    have hs' : 1 + szL l ≤ 100000 := by simp only [szT] at hs; exact hs
    have hvl := hall.len
    have hlen := szL_len l
    refine ⟨_, rfl, tc (ixt hp (atI_nat (j := 0) rfl) (tc ⟨rfl, _, rfl, ?_⟩))⟩
    rw [strE, decide_eq_true rfl]
    refine iteT ⟨rfl, _, rfl, tc (ixt hp (atI_nat (j := 1) rfl) ⟨qa, rfl, ⟨_, SqL.of hqa⟩, fun D nD => ?_⟩)⟩
    refine lc_list (fun i H' => Same H H' ∧ H' D = some (.lst ((((l.take i).map shT).map S).map V.str))) (fun i H' h => h.1 _ _ hqa) ⟨same_upd nD, upd_same⟩ (fun i v H' hvi ⟨ss, hD⟩ => ?_) (fun H' ⟨ss, hD⟩ => ?_)
    · obtain ⟨z, hz, hzt⟩ := hall.get hvi
      have hzm := List.mem_of_getElem? hz
      refine ⟨rfl, ?_⟩
      unfold tYes
      refine iteT ⟨_, rfl, v, z, bad, rfl, hzt.kq (.same ss), okL_mem ok hzm, by have := dpL_mem hzm; omega, by have := szL_mem hzm; omega, fun H4 s4 => ?_⟩
      refine ⟨_, s4 _ _ hD, ?_, fun c o e => ?_, ?_⟩
      · rw [List.length_map, List.length_map, List.length_map, List.length_take]
        show _ < 2 ^ 24
        omega
      · rw [upd_ne (ne_of_none e nD)]
        exact s4 _ _ (ss _ _ e)
      · rw [upd_same, List.take_add_one, hz, List.map_append, List.map_append, List.map_append]
        rfl
    · rw [hvl, List.take_length] at hD
      obtain ⟨ys, j1, j2, j3⟩ := join_sh (K := K) hD ok (by omega)
      have hL := sh_len (.lst l) (by simp only [okT]; exact ok)
      simp only [shT, szT, List.length_cons, List.length_append, List.length_nil] at hL
      have l1 : ("(" : Str).length = 1 := by decide +kernel
      have l2 : (")" : Str).length = 1 := by decide +kernel
      refine ⟨_, D, ys, rfl, rfl, .inl j1, j2, _, _, rfl, rfl, by rw [l1, j3, len_S]; omega, _, _, rfl, rfl, by rw [Str.length_append, l1, l2, j3, len_S]; omega, ?_⟩
      have := q H' ss
      simp only [shT] at this
      rw [j3, q_open, q_close, S_app2, S_app2]
      exact this
  | @leaf p u x hx hp hu' =>
    have q0 := q H (Same.refl H)
    rw [shT_atom hx] at q0
    refine ⟨_, rfl, tc (ixt hp (atI_nat (j := 0) rfl) (tc ⟨rfl, _, rfl, ?_⟩))⟩
    rw [strE, decide_eq_false (kd_nl hx)]
    refine iteF ?_
    dsimp only [tNext]
    refine ⟨_, rfl, tc (ixt hp (atI_nat (j := 0) rfl) (tc ⟨rfl, _, rfl, ?_⟩))⟩
    rw [strE]
    cases x with
    | lst l => cases hx
    | num w =>
      have hp' : H p = some (.tup [.str "number", u]) := hp
      simp only [Tr.vl] at hu'
      cases hu'
      rw [decide_eq_true (show Tr.kd (.num w) = "number" from rfl)]
      obtain ⟨h1, h2⟩ := num_str (w := w) ok
      refine iteT ⟨_, rfl, tc (ixt hp' (atI_nat (j := 1) rfl) ⟨_, rfl, h2, ?_⟩)⟩
      rw [show ((toString (intW w) : String) : Str) = S w from h1]
      exact q0
    | nam w =>
      have hp' : H p = some (.tup [.str "name", u]) := hp
      simp only [Tr.vl] at hu'
      cases hu'
      rw [decide_eq_false (show ¬ Tr.kd (.nam w) = "number" from (by decide +kernel : ¬ ("name" : Str) = "number"))]
      refine iteF ?_
      dsimp only [tNext]
      refine ⟨_, rfl, tc (ixt hp' (atI_nat (j := 0) rfl) (tc ⟨rfl, _, rfl, ?_⟩))⟩
      rw [strE]
      rw [decide_eq_false (show ¬ ("name" : Str) = "text" from (by decide +kernel : ¬ ("name" : Str) = "text"))]
      refine iteF ?_
      dsimp only [tNext]
      refine ⟨_, rfl, tc (ixt hp' (atI_nat (j := 0) rfl) (tc ⟨rfl, _, rfl, ?_⟩))⟩
      rw [strE]
      rw [decide_eq_false (show ¬ ("name" : Str) = "flag" from (by decide +kernel : ¬ ("name" : Str) = "flag"))]
      refine iteF ?_
      dsimp only [tNext]
      refine fun pd npd => ?_
      have hne : p ≠ pd := fun z => by rw [z] at hp'; rw [hp'] at npd; cases npd
      have hpd : L2.upd (L2.upd H pd (.dK [])) pd (.dK (mergeK [] plKV)) p = some (.tup [.str "name", .str (S w)]) := by rw [upd_ne hne, upd_ne hne]; exact hp'
      have sd : Same H (L2.upd (L2.upd H pd (.dK [])) pd (.dK (mergeK [] plKV))) := fun c o e => by rw [upd_ne (ne_of_none e npd), upd_ne (ne_of_none e npd)]; exact e
      refine ⟨upd_same, plKV, rfl, by decide, pd, rfl, .inl ⟨_, .inl upd_same⟩, _, rfl, tc (ixt hpd (atI_nat (j := 0) rfl) ⟨_, rfl, tc (ixt hpd (atI_nat (j := 1) rfl) ⟨_, DGet.k (k := .inr "name") upd_same, ?_⟩)⟩)⟩
      rw [pl_nam]
      have q1 := q _ sd
      rw [shT_atom hx] at q1
      exact q1
    | flg b =>
      have hp' : H p = some (.tup [.str "flag", u]) := hp
      simp only [Tr.vl] at hu'
      cases hu'
      rw [decide_eq_false (show ¬ Tr.kd (.flg b) = "number" from (by decide +kernel : ¬ ("flag" : Str) = "number"))]
      refine iteF ?_
      dsimp only [tNext]
      refine ⟨_, rfl, tc (ixt hp' (atI_nat (j := 0) rfl) (tc ⟨rfl, _, rfl, ?_⟩))⟩
      rw [strE]
      rw [decide_eq_false (show ¬ ("flag" : Str) = "text" from (by decide +kernel : ¬ ("flag" : Str) = "text"))]
      refine iteF ?_
      dsimp only [tNext]
      refine ⟨_, rfl, tc (ixt hp' (atI_nat (j := 0) rfl) (tc ⟨rfl, _, rfl, ?_⟩))⟩
      rw [strE]
      rw [decide_eq_true (show ("flag" : Str) = "flag" from rfl)]
      refine iteT ⟨_, rfl, tc (ixt hp' (atI_nat (j := 1) rfl) ⟨_, rfl, ?_⟩)⟩
      cases b with
      | true => exact iteT (by rw [← show S (Tr.flg true).aw = ("#t" : Str) from q_t.symm]; exact q0)
      | false => exact iteF (by rw [← show S (Tr.flg false).aw = ("#f" : Str) from q_f.symm]; exact q0)
    | txt w =>
      have hp' : H p = some (.tup [.str "text", u]) := hp
      simp only [Tr.vl] at hu'
      cases hu'
      rw [decide_eq_false (show ¬ Tr.kd (.txt w) = "number" from (by decide +kernel : ¬ ("text" : Str) = "number"))]
      refine iteF ?_
      dsimp only [tNext]
      refine ⟨_, rfl, tc (ixt hp' (atI_nat (j := 0) rfl) (tc ⟨rfl, _, rfl, ?_⟩))⟩
      rw [strE]
      rw [decide_eq_true (show ("text" : Str) = "text" from rfl)]
      have hl : (S w).length ≤ 100 := by rw [len_S]; exact ok.1
      have l1 : ("\"" : Str).length = 1 := by decide +kernel
      refine iteT ⟨_, rfl, tc (ixt hp' (atI_nat (j := 1) rfl) ⟨_, _, rfl, rfl, by rw [l1]; omega, _, _, rfl, rfl, by rw [Str.length_append, l1]; omega, ?_⟩)⟩
      rw [q_qq, S_app2, S_app2]
      exact q0
    | dots =>
      have hp' : H p = some (.tup [.str "dots", u]) := hp
      simp only [Tr.vl] at hu'
      cases hu'
      rw [decide_eq_false (show ¬ Tr.kd .dots = "number" from (by decide +kernel : ¬ ("dots" : Str) = "number"))]
      refine iteF ?_
      dsimp only [tNext]
      refine ⟨_, rfl, tc (ixt hp' (atI_nat (j := 0) rfl) (tc ⟨rfl, _, rfl, ?_⟩))⟩
      rw [strE]
      rw [decide_eq_false (show ¬ ("dots" : Str) = "text" from (by decide +kernel : ¬ ("dots" : Str) = "text"))]
      refine iteF ?_
      dsimp only [tNext]
      refine ⟨_, rfl, tc (ixt hp' (atI_nat (j := 0) rfl) (tc ⟨rfl, _, rfl, ?_⟩))⟩
      rw [strE]
      rw [decide_eq_false (show ¬ ("dots" : Str) = "flag" from (by decide +kernel : ¬ ("dots" : Str) = "flag"))]
      refine iteF ?_
      dsimp only [tNext]
      refine fun pd npd => ?_
      have hne : p ≠ pd := fun z => by rw [z] at hp'; rw [hp'] at npd; cases npd
      have hpd : L2.upd (L2.upd H pd (.dK [])) pd (.dK (mergeK [] plKV)) p = some (.tup [.str "dots", .non]) := by rw [upd_ne hne, upd_ne hne]; exact hp'
      have sd : Same H (L2.upd (L2.upd H pd (.dK [])) pd (.dK (mergeK [] plKV))) := fun c o e => by rw [upd_ne (ne_of_none e npd), upd_ne (ne_of_none e npd)]; exact e
      refine ⟨upd_same, plKV, rfl, by decide, pd, rfl, .inl ⟨_, .inl upd_same⟩, _, rfl, tc (ixt hpd (atI_nat (j := 0) rfl) ⟨_, rfl, tc (ixt hpd (atI_nat (j := 1) rfl) ⟨_, DGet.k (k := .inr "dots") upd_same, ?_⟩)⟩)⟩
      rw [pl_dots]
      have q1 := q _ sd
      rw [shT_atom hx] at q1
      show Q (.str "...") _
      rw [← show S Tr.dots.aw = ("..." : Str) from q_dots.symm]
      exact q1
    | wild =>
      have hp' : H p = some (.tup [.str "wild", u]) := hp
      simp only [Tr.vl] at hu'
      cases hu'
      rw [decide_eq_false (show ¬ Tr.kd .wild = "number" from (by decide +kernel : ¬ ("wild" : Str) = "number"))]
      refine iteF ?_
      dsimp only [tNext]
      refine ⟨_, rfl, tc (ixt hp' (atI_nat (j := 0) rfl) (tc ⟨rfl, _, rfl, ?_⟩))⟩
      rw [strE]
      rw [decide_eq_false (show ¬ ("wild" : Str) = "text" from (by decide +kernel : ¬ ("wild" : Str) = "text"))]
      refine iteF ?_
      dsimp only [tNext]
      refine ⟨_, rfl, tc (ixt hp' (atI_nat (j := 0) rfl) (tc ⟨rfl, _, rfl, ?_⟩))⟩
      rw [strE]
      rw [decide_eq_false (show ¬ ("wild" : Str) = "flag" from (by decide +kernel : ¬ ("wild" : Str) = "flag"))]
      refine iteF ?_
      dsimp only [tNext]
      refine fun pd npd => ?_
      have hne : p ≠ pd := fun z => by rw [z] at hp'; rw [hp'] at npd; cases npd
      have hpd : L2.upd (L2.upd H pd (.dK [])) pd (.dK (mergeK [] plKV)) p = some (.tup [.str "wild", .non]) := by rw [upd_ne hne, upd_ne hne]; exact hp'
      have sd : Same H (L2.upd (L2.upd H pd (.dK [])) pd (.dK (mergeK [] plKV))) := fun c o e => by rw [upd_ne (ne_of_none e npd), upd_ne (ne_of_none e npd)]; exact e
      refine ⟨upd_same, plKV, rfl, by decide, pd, rfl, .inl ⟨_, .inl upd_same⟩, _, rfl, tc (ixt hpd (atI_nat (j := 0) rfl) ⟨_, rfl, tc (ixt hpd (atI_nat (j := 1) rfl) ⟨_, DGet.k (k := .inr "wild") upd_same, ?_⟩)⟩)⟩
      rw [pl_wild]
      have q1 := q _ sd
      rw [shT_atom hx] at q1
      show Q (.str "_") _
      rw [← show S Tr.wild.aw = ("_" : Str) from q_wild.symm]
      exact q1
theorem plain_all {f : Addr} {fd : FuncData} (F : Dfn K mg "_law_plain" st__law_plain f fd ["tree"]) (M : Mg mg) : ∀ n : Nat, Cal P w K mg base n "_law_plain" (spPlain n)
  | 0 => by
    have no : ∀ vs H Q E, ¬ spPlain 0 vs H Q E := fun vs H Q E h => by
      obtain ⟨_, _, _, _, _, _, h, _⟩ := h
      exact Nat.not_lt_zero _ h
    exact ⟨f, fd, _, ⟨fun vs H Q E h => absurd h (no vs H Q E), fun A outer s H args us vs Q E _ _ _ _ h => absurd h (no vs H Q E)⟩, F.mgf, F.fn.kp, F.b⟩
  | n + 1 => ok_plain F M (plain_all F M n)
end
end W4
set_option Elab.async false
set_option linter.all false
set_option maxRecDepth 100000
set_option maxHeartbeats 4000000
namespace W4
open PySem PySem.Spec PyProof.Rows L2 Com SX GxR
/-! what the law writes -/
structure Wrote (n0 : Nat) (x : Tr) (ps : List T) (s : List Nat) : Prop where
  cnt : ps.length + 1 ≤ 5 * szT x
  len : ∀ p ∈ ps, p.length ≤ 102
  sg : ∀ p ∈ ps, ∀ c ∈ p, c < 1114112
  sl : s.length = szT x
  wr : ∀ t, At t n0 ps.flatten → Stop noE t (n0 + ps.flatten.length) → Wr t n0 x (n0 + ps.flatten.length) s
/-- data one behind the other; the last gap may be none where `last` holds -/
structure WroteL (last : Prop) (n0 : Nat) (l : List Tr) (ps : List T) (s : List Nat) : Prop where
  cnt : ps.length ≤ 5 * szL l
  len : ∀ p ∈ ps, p.length ≤ 102
  sg : ∀ p ∈ ps, ∀ c ∈ p, c < 1114112
  sl : s.length = szL l
  wr : ∀ t, At t n0 ps.flatten → (last → Stop noE t (n0 + ps.flatten.length)) → ∀ l' d s', WrL t (n0 + ps.flatten.length) l' d s' → WrL t n0 (l ++ l') d (s ++ s')
theorem WroteL.nil {last : Prop} {n0 : Nat} : WroteL last n0 [] [] [] := ⟨Nat.zero_le _, (fun _ h => by cases h), (fun _ h => by cases h), by simp [szL], fun t _ _ l' d s' h => h⟩
theorem GapS.stop {m : Bool} {g : T} (h : GapS m g) {t : T} {b : Nat} (ha : At t b g) (hn : g ≠ []) : Stop noE t b := by
  obtain ⟨c, r, rfl⟩ := List.exists_cons_of_ne_nil hn
  exact .inr ⟨c, ha.head, h.hd c r rfl⟩
theorem WroteL.snoc {last last' : Prop} {n0 : Nat} {l : List Tr} {ps : List T} {s : List Nat} {x : Tr} {qs : List T} {s1 : List Nat} {m : Bool} {g : T} (h : WroteL last n0 l ps s) (hl : ¬ last) (hx : Wrote (n0 + ps.flatten.length) x qs s1) (hg : GapS m g) (hm : m = false → last') :
    WroteL last' n0 (l ++ [x]) (ps ++ qs ++ [g]) (s ++ s1) := by
  refine ⟨?_, ?_, ?_, by rw [List.length_append, h.sl, hx.sl, szL_app]; simp only [szL]; omega, ?_⟩
  · rw [List.length_append, List.length_append, List.length_singleton, szL_app]
    simp only [szL]
    have := h.cnt
    have := hx.cnt
    omega
  · intro p hp
    rcases List.mem_append.mp hp with hp | hp
    · rcases List.mem_append.mp hp with hp | hp
      · exact h.len p hp
      · exact hx.len p hp
    · rw [List.mem_singleton.mp hp]
      have := hg.ln
      omega
  · intro p hp
    rcases List.mem_append.mp hp with hp | hp
    · rcases List.mem_append.mp hp with hp | hp
      · exact h.sg p hp
      · exact hx.sg p hp
    · rw [List.mem_singleton.mp hp]
      exact hg.sg
  · intro t ha hst l' d s' hw
    have e : (ps ++ qs ++ [g]).flatten = ps.flatten ++ (qs.flatten ++ g) := by simp
    rw [e] at ha hw hst
    obtain ⟨h1, h2⟩ := At.app.mp ha
    obtain ⟨h3, h4⟩ := At.app.mp h2
    rw [List.length_append, List.length_append] at hw hst
    have e2 : n0 + (ps.flatten.length + (qs.flatten.length + g.length)) = n0 + ps.flatten.length + qs.flatten.length + g.length := by omega
    rw [e2] at hw hst
    have stop : Stop noE t (n0 + ps.flatten.length + qs.flatten.length) := by
      by_cases z : g = []
      · have hmf : m = false := by
          cases m with
          | false => rfl
          | true => exact absurd z (hg.mu rfl)
        have := hst (hm hmf)
        rw [z] at this
        exact this
      · exact hg.stop h4 z
    have w1 := hx.wr t h3 stop
    have := h.wr t h1 (fun z => absurd z hl) _ _ _ (WrL.cons w1 (hg.gp t _ h4) hw)
    rw [List.append_assoc, List.append_assoc]
    exact this
theorem wrote_atom {n0 : Nat} {x : Tr} (hx : isL x = false) (ok : okT x) (hc : ∀ c ∈ shT x, c < 1114112) : Wrote n0 x [shT x] [n0] := by
  refine ⟨by rw [szT_atom hx]; show 1 + 1 ≤ 5 * 1; decide, fun p hp => ?_, fun p hp => ?_, by rw [szT_atom hx]; rfl, fun t ha hs => ?_⟩
  · rw [List.mem_singleton.mp hp, shT_atom hx]
    exact aw_len hx ok
  · rw [List.mem_singleton.mp hp]
    exact hc
  · have e : [shT x].flatten = x.aw := by simp [shT_atom hx]
    rw [e] at ha hs ⊢
    exact .atom hx ok ha hs
theorem wrote_sign {n0 : Nat} {w sg : T} {x : Tr} {g : T} {qs : List T} {s : List Nat} (h : w = quoT ∧ sg = [39] ∨ w = synT ∧ sg = [35, 39]) (hg : GapS false g) (hx : Wrote (n0 + (sg ++ g).length) x qs s) : Wrote n0 (.lst [.nam w, x]) (sg :: g :: qs) (n0 :: n0 :: s) := by
  refine ⟨?_, fun p hp => ?_, fun p hp => ?_, by rw [List.length_cons, List.length_cons, hx.sl]; simp only [szT, szL]; omega, fun t ha hs => ?_⟩
  · have := hx.cnt
    simp only [szT, szL, List.length_cons]
    omega
  · rcases List.mem_cons.mp hp with e | hp
    · rw [e]
      rcases h with ⟨_, e⟩ | ⟨_, e⟩ <;> rw [e] <;> decide
    rcases List.mem_cons.mp hp with rfl | hp
    · have := hg.ln
      omega
    · exact hx.len p hp
  · rcases List.mem_cons.mp hp with e | hp
    · rw [e]
      rcases h with ⟨_, e⟩ | ⟨_, e⟩ <;> rw [e] <;> decide
    rcases List.mem_cons.mp hp with rfl | hp
    · exact hg.sg
    · exact hx.sg p hp
  · have e : (sg :: g :: qs).flatten = sg ++ (g ++ qs.flatten) := by simp
    rw [e] at ha hs ⊢
    obtain ⟨h1, h2⟩ := At.app.mp ha
    obtain ⟨h3, h4⟩ := At.app.mp h2
    have e2 : n0 + (sg ++ (g ++ qs.flatten)).length = n0 + (sg ++ g).length + qs.flatten.length := by simp only [List.length_append]; omega
    have e3 : n0 + sg.length + g.length = n0 + (sg ++ g).length := by rw [List.length_append]; omega
    rw [e2] at hs ⊢
    rw [e3] at h4
    have w1 := hx.wr t h4 hs
    have g1 := hg.gp t _ h3
    rw [e3] at g1
    rcases h with ⟨rfl, rfl⟩ | ⟨rfl, rfl⟩
    · exact .quo h1.head g1 w1
    · exact .syn h1 g1 w1
theorem wrote_list {n0 : Nat} {l : List Tr} {last : Prop} {g : T} {qs : List T} {s : List Nat} (hg : GapS false g) (hx : WroteL last (n0 + (([40] : T) ++ g).length) l qs s) : Wrote n0 (.lst l) ([40] :: g :: (qs ++ [[41]])) (n0 :: s) := by
  refine ⟨?_, fun p hp => ?_, fun p hp => ?_, by rw [List.length_cons, hx.sl]; simp only [szT]; omega, fun t ha hs => ?_⟩
  · have := hx.cnt
    simp only [szT, List.length_cons, List.length_append, List.length_nil]
    omega
  · rcases List.mem_cons.mp hp with rfl | hp
    · decide
    rcases List.mem_cons.mp hp with rfl | hp
    · have := hg.ln
      omega
    rcases List.mem_append.mp hp with hp | hp
    · exact hx.len p hp
    · rw [List.mem_singleton.mp hp]
      decide
  · rcases List.mem_cons.mp hp with rfl | hp
    · decide
    rcases List.mem_cons.mp hp with rfl | hp
    · exact hg.sg
    rcases List.mem_append.mp hp with hp | hp
    · exact hx.sg p hp
    · rw [List.mem_singleton.mp hp]
      decide
  · have e : ([40] :: g :: (qs ++ [[41]])).flatten = [40] ++ (g ++ (qs.flatten ++ [41])) := by simp
    rw [e] at ha hs ⊢
    obtain ⟨h1, h2⟩ := At.app.mp ha
    obtain ⟨h3, h4⟩ := At.app.mp h2
    obtain ⟨h5, h6⟩ := At.app.mp h4
    have e2 : n0 + (([40] : T) ++ (g ++ (qs.flatten ++ [41]))).length = n0 + (([40] : T) ++ g).length + qs.flatten.length + 1 := by simp only [List.length_append, List.length_singleton]; omega
    have e3 : n0 + ([40] : T).length + g.length = n0 + (([40] : T) ++ g).length := by rw [List.length_append]; omega
    rw [e2]
    rw [e3] at h5 h6
    have g1 := hg.gp t _ h3
    rw [e3] at g1
    have st : Stop noE t (n0 + (([40] : T) ++ g).length + qs.flatten.length) := .inr ⟨41, h6.head, by decide⟩
    have := hx.wr t h5 (fun _ => st) [] _ [] .nil
    rw [List.append_nil, List.append_nil] at this
    exact .lst h1.head g1 this h6.head
/-! the lists that it writes into -/
structure WS (td pa sa : Addr) (H H' : Hp) (ps : List T) (ss : List Nat) : Prop where
  n1 : pa ≠ td
  n2 : sa ≠ td
  n3 : sa ≠ pa
  kq : Kq [td, pa, sa] H H'
  td : ∃ xs : List Int, H' td = some (.lst (xs.map V.int))
  pa : H' pa = some (.lst ((ps.map S).map V.str))
  sa : H' sa = some (.lst (natV ss))
section
variable {td pa sa : Addr} {H H1 H2 : Hp} {ps : List T} {ss : List Nat}
theorem WS.same (h : WS td pa sa H H1 ps ss) (s : Same H1 H2) : WS td pa sa H H2 ps ss := ⟨h.n1, h.n2, h.n3, h.kq.trans (.same s), by obtain ⟨xs, e⟩ := h.td; exact ⟨xs, s _ _ e⟩, s _ _ h.pa, s _ _ h.sa⟩
theorem WS.keep {ys : List Int} (h : WS td pa sa H H1 ps ss) (k : Keep td H1 H2) (e : H2 td = some (.lst (ys.map V.int))) : WS td pa sa H H2 ps ss := by
  obtain ⟨xs, e1⟩ := h.td
  exact ⟨h.n1, h.n2, h.n3, h.kq.trans ((Kq.keep k e1).sub fun b hb => by rw [List.mem_singleton.mp hb]; exact List.mem_cons_self), ⟨ys, e⟩, k _ _ h.pa h.n1, k _ _ h.sa h.n2⟩
theorem WS.putP (h : WS td pa sa H H1 ps ss) (p : T) : WS td pa sa H (L2.upd H1 pa (.lst ((ps.map S).map V.str ++ [.str (S p)]))) (ps ++ [p]) ss := by
  refine ⟨h.n1, h.n2, h.n3, h.kq.trans ((Kq.put h.pa).sub fun b hb => by rw [List.mem_singleton.mp hb]; exact List.mem_cons_of_mem _ List.mem_cons_self), ?_, ?_, ?_⟩
  · obtain ⟨xs, e⟩ := h.td
    exact ⟨xs, by rw [upd_ne (Ne.symm h.n1)]; exact e⟩
  · rw [upd_same, List.map_append, List.map_append]
    rfl
  · rw [upd_ne h.n3]
    exact h.sa
theorem WS.putS (h : WS td pa sa H H1 ps ss) (n : Nat) : WS td pa sa H (L2.upd H1 sa (.lst (natV ss ++ [.int (n : Nat)]))) ps (ss ++ [n]) := by
  refine ⟨h.n1, h.n2, h.n3, h.kq.trans ((Kq.put h.sa).sub fun b hb => by rw [List.mem_singleton.mp hb]; exact List.mem_cons_of_mem _ (List.mem_cons_of_mem _ List.mem_cons_self)), ?_, ?_, ?_⟩
  · obtain ⟨xs, e⟩ := h.td
    exact ⟨xs, by rw [upd_ne (Ne.symm h.n2)]; exact e⟩
  · rw [upd_ne (Ne.symm h.n3)]
    exact h.pa
  · rw [upd_same, natV_app]
    rfl
/-- what another run of it has done -/
theorem WS.go {ps2 : List T} {ss2 : List Nat} (h : WS td pa sa H H1 ps ss) (k : WS td pa sa H1 H2 ps2 ss2) : WS td pa sa H H2 ps2 ss2 := ⟨k.n1, k.n2, k.n3, h.kq.trans k.kq, k.td, k.pa, k.sa⟩
end
theorem cp_sh : ∀ {x : Tr}, isL x = false → okT x → cpT x → ∀ c ∈ shT x, c < 1114112 := by
  intro x hx ok cp c hc
  rw [shT_atom hx] at hc
  have nE : ∀ w : T, (∀ c ∈ w, c ∈ namC) → ∀ c ∈ w, c < 1114112 := fun w h c hc => by
    have := h c hc
    unfold namC at this
    simp only [List.mem_cons, List.not_mem_nil, or_false] at this
    omega
  cases x with
  | lst l => cases hx
  | nam w =>
    have := sort_nam (show sortW w = "name" from ok)
    unfold isNam at this
    simp only [Bool.and_eq_true, List.all_eq_true] at this
    refine nE w (fun d hd => ?_) c hc
    have := this.2 d hd
    unfold isN at this
    exact of_decide_eq_true this
  | num w =>
    have h : isNum w = true := ok
    unfold isNum at h
    rw [Bool.or_eq_true, decide_eq_true_iff] at h
    rcases h with h | h
    · subst h
      rw [List.mem_singleton.mp (show c ∈ [48] from hc)]
      decide
    · simp only [Bool.and_eq_true, List.all_eq_true] at h
      have hb := h.2
      have dg : ∀ d, isD d = true → d < 1114112 := fun d hd => by
        unfold isD digC at hd
        simp only [List.mem_cons, List.not_mem_nil, or_false, decide_eq_true_eq] at hd
        omega
      have hcw : c ∈ w := hc
      cases w with
      | nil => cases hcw
      | cons a r =>
        by_cases ha : a = 45
        · subst ha
          have eb : body (45 :: r) = r := rfl
          rw [eb] at hb
          rcases List.mem_cons.mp hcw with rfl | hcr
          · decide
          · exact dg c (hb c hcr)
        · have eb : body (a :: r) = a :: r := by
            unfold body
            rw [if_neg (show ¬ (a :: r).head? = some 45 from fun e => ha (Option.some.inj e))]
          rw [eb] at hb
          exact dg c (hb c hcw)
  | flg b =>
    cases b with
    | true => exact (by decide : ∀ c ∈ (Tr.flg true).aw, c < 1114112) c hc
    | false => exact (by decide : ∀ c ∈ (Tr.flg false).aw, c < 1114112) c hc
  | txt w =>
    have h : ∀ c ∈ w, c < 1114112 := by simpa only [cpT] using cp
    have hc' : c ∈ 34 :: (w ++ [34]) := hc
    rcases List.mem_cons.mp hc' with rfl | hc'
    · decide
    rcases List.mem_append.mp hc' with hc' | hc'
    · exact h c hc'
    · rw [List.mem_singleton.mp hc']
      decide
  | dots => exact (by decide : ∀ c ∈ Tr.dots.aw, c < 1114112) c hc
  | wild => exact (by decide : ∀ c ∈ Tr.wild.aw, c < 1114112) c hc
end W4
set_option Elab.async false
set_option linter.all false
set_option maxRecDepth 100000
set_option maxHeartbeats 4000000
namespace W4
open PySem PySem.Spec PyProof.Rows L2 Com SX GxR
theorem sum_flat : ∀ ps : List T, ((ps.map fun p => ((p.length : Nat) : Int))).sum = ((ps.flatten.length : Nat) : Int)
  | [] => rfl
  | p :: ps => by
    rw [List.map_cons, List.sum_cons, sum_flat ps, List.flatten_cons, List.length_append]
    omega
theorem kd_name {x : Tr} : decide (x.kd = "name") = true ↔ ∃ w, x = .nam w := by
  constructor
  · intro h
    have h := of_decide_eq_true h
    cases x with
    | nam w => exact ⟨w, rfl⟩
    | num w => exact absurd (show ("number" : Str) = "name" from h) (by decide +kernel)
    | flg w => exact absurd (show ("flag" : Str) = "name" from h) (by decide +kernel)
    | txt w => exact absurd (show ("text" : Str) = "name" from h) (by decide +kernel)
    | dots => exact absurd (show ("dots" : Str) = "name" from h) (by decide +kernel)
    | wild => exact absurd (show ("wild" : Str) = "name" from h) (by decide +kernel)
    | lst w => exact absurd (show ("list" : Str) = "name" from h) (by decide +kernel)
  · rintro ⟨w, rfl⟩
    exact decide_eq_true rfl
theorem cpL_mem : ∀ {l : List Tr} {x : Tr}, cpL l → x ∈ l → cpT x
  | y :: l, x, h, hm => by
    simp only [cpL] at h
    rcases List.mem_cons.mp hm with rfl | hm
    · exact h.1
    · exact cpL_mem h.2 hm
theorem TrAt.tup {bad : List Addr} {H : Hp} {v : V} {x : Tr} (h : TrAt bad H v x) : ∃ p u, v = .ref p ∧ H p = some (.tup [.str x.kd, u]) ∧ ∀ w, x = .nam w → u = .str (S w) := by
  cases h with
  | @leaf p u x hx hp hu =>
    refine ⟨p, u, rfl, hp, fun w e => ?_⟩
    subst e
    exact Dt.strE hu
  | @lst p q vs l hp _ _ _ => exact ⟨p, _, rfl, hp, fun w e => by cases e⟩
theorem okQ : Ok quoT := ⟨by decide, by decide⟩
theorem okY : Ok synT := ⟨by decide, by decide⟩
section
variable {P : Program} {w : World} {K : PySem.W.Frag} {mg : Str → Option Value} {base : Heap}
def spWr (n : Nat) : Sp := fun vs H Q _ => ∃ (td pa sa : Addr) (v : V) (x : Tr) (bad : List Addr) (ps : List T) (ss : List Nat), vs = [.ref td, v, .ref pa, .ref sa] ∧ WS td pa sa H H ps ss ∧ TrAt bad H v x ∧ (td ∈ bad ∧ pa ∈ bad ∧ sa ∈ bad) ∧ okT x ∧ cpT x ∧ dpT x < n ∧ ps.length + 5 * szT x ≤ 100000 ∧ ss.length + szT x ≤ 100000 ∧ (∀ p ∈ ps, p.length ≤ 102) ∧
  ∀ ps2 s H', Wrote ps.flatten.length x ps2 s → WS td pa sa H H' (ps ++ ps2) (ss ++ s) → Q .non H'
theorem ok_written {f : Addr} {fd : FuncData} {n k : Nat} (hk : 3 ≤ k) (F : Dfn K mg "_law_written" st__law_written f fd ["draws", "tree", "pieces", "starts"]) (M : Mg2 mg) (G_law_take : Cal P w K mg base 1 "_law_take" spTake) (G_law_gap : Cal P w K mg base 2 "_law_gap" spGap) (G_law_plain : Cal P w K mg base 1 "_law_plain" (spPlain 1)) (G_law_written : Cal P w K mg base k "_law_written" (spWr n)) : Cal P w K mg base (k + 1) "_law_written" (spWr (n + 1)) := by
  refine cal_mk F sc_law_written (fun vs H Q E h => ?_) (fun cdv A outer s H vs Q E hr h => ?_)
  · obtain ⟨td, pa, sa, v, x, bad, ps, ss, rfl, _⟩ := h
    rfl
  obtain ⟨td, pa, sa, v, x, bad, ps, ss, rfl, W, hv, ⟨b1, b2, b3⟩, ok, cp, hd, hps, hss, hpl, q⟩ := h
  have hsl : sizeLine = 16777216 := sizeLine_eq
  have kqb : ∀ {Ha Hb : Hp}, Kq [td, pa, sa] Ha Hb → Kq bad Ha Hb := fun k => k.sub fun b hb => by
    simp only [List.mem_cons, List.not_mem_nil, or_false] at hb
    rcases hb with rfl | rfl | rfl <;> assumption
  refine ⟨_, (pss_cons (ps_set (i := 4) sc_law_written.nd rfl (.inl rfl) (pe_callB (cr_sum rfl) (by rfl) M.sum b_sum (pa_cons (pe_lc (own := [("piece", 7)]) (g := gName 7) (by rfl) sc_law_written.nd (pi_list (pv 2)) (blkOk_by (own := [("piece", 7)]) (N := ["draws", "tree", "pieces", "starts", "size", "first", "k", "piece"]) (sc := defScope st__law_written) (by decide +kernel)) (fun _ _ _ _ _ => (pg_name (i := 7) sc_law_written.nd rfl (.inl rfl))) (fun _ _ _ _ _ => pts_nil) (fun _ _ _ _ _ => (pe_callB call_len_str (by rfl) M.len b_len (pa_cons (pv 7) pa_nil)))) pa_nil)))
      (pss_cons (ps_expr (pe_bm PySem.F.plainAttrs_list PySem.F.slot_list_append PySem.F.type_list_append mt_append (pv 3) (pa_cons (pv 4) pa_nil)))
      (pss_cons (ps_if (pt_cmpR op_ne (pe_ix (ixT K rfl) (pv 1) pe_int (fun _ _ => rfl)) pe_str (nomark _)) (pss_cons (ps_expr (pe_bm PySem.F.plainAttrs_list PySem.F.slot_list_append PySem.F.type_list_append mt_append (pv 2) (pa_cons (pe_c G_law_plain hr (by omega) (by rfl) (pa_cons (pv 1) pa_nil)) pa_nil)))
      (pss_one ps_retN)) pss_nil)
      (pss_cons (ps_set (i := 5) sc_law_written.nd rfl (.inl rfl) (pe_ifExp (pt_cmpR op_eq (pe_callB (cLen K rfl) (by rfl) M.len b_len (pa_cons (pe_ix (ixT K rfl) (pv 1) pe_int (fun _ _ => rfl)) pa_nil)) pe_int (nomark _)) (pe_ix (ixL K rfl) (pe_ix (ixT K rfl) (pv 1) pe_int (fun _ _ => rfl)) pe_int (fun _ _ => rfl)) (pe_tup (pa_cons pe_str (pa_cons pe_non pa_nil)))))
      (pss_cons (ps_if (PW.pt (pw_and (pt_cmpR op_eq (pe_ix (ixT K rfl) (pv 5) pe_int (fun _ _ => rfl)) pe_str (nomark _)) (pw_and (pt_cmpR (opInT K rfl (units65 hr)) (pe_ix (ixT K rfl) (pv 5) pe_int (fun _ _ => rfl)) (pe_tup (pa_cons pe_str (pa_cons pe_str pa_nil))) (by rfl)) (pw_and1 (pt_cmpR op_gt (pe_c G_law_take hr (by omega) (by rfl) (pa_cons (pv 0) (pa_cons pe_int pa_nil))) pe_int (nomark _)))))) (pss_cons (ps_expr (pe_bm PySem.F.plainAttrs_list PySem.F.slot_list_append PySem.F.type_list_append mt_append (pv 3) (pa_cons (pv 4) pa_nil)))
      (pss_cons (ps_expr (pe_bm PySem.F.plainAttrs_list PySem.F.slot_list_append PySem.F.type_list_append mt_append (pv 2) (pa_cons (pe_ifExp (pt_cmpR op_eq (pe_ix (ixT K rfl) (pv 5) pe_int (fun _ _ => rfl)) pe_str (nomark _)) pe_str pe_str) pa_nil)))
      (pss_cons (ps_expr (pe_bm PySem.F.plainAttrs_list PySem.F.slot_list_append PySem.F.type_list_append mt_append (pv 2) (pa_cons (pe_c G_law_gap hr (by omega) (by rfl) (pa_cons (pv 0) (pa_cons pe_bl pa_nil))) pa_nil)))
      (pss_cons (ps_expr (pe_c G_law_written hr (by omega) (by rfl) (pa_cons (pv 0) (pa_cons (pe_ix (ixL K rfl) (pe_ix (ixT K rfl) (pv 1) pe_int (fun _ _ => rfl)) pe_int (fun _ _ => rfl)) (pa_cons (pv 2) (pa_cons (pv 3) pa_nil))))))
      (pss_one ps_retN))))) pss_nil)
      (pss_cons (ps_expr (pe_bm PySem.F.plainAttrs_list PySem.F.slot_list_append PySem.F.type_list_append mt_append (pv 2) (pa_cons pe_str pa_nil)))
      (pss_cons (ps_expr (pe_bm PySem.F.plainAttrs_list PySem.F.slot_list_append PySem.F.type_list_append mt_append (pv 2) (pa_cons (pe_c G_law_gap hr (by omega) (by rfl) (pa_cons (pv 0) (pa_cons pe_bl pa_nil))) pa_nil)))
      (pss_cons (ps_for PassesOwn.never rfl (pi_range1 (by rfl) M.range (pa_cons (pe_callB (cLen K rfl) (by rfl) M.len b_len (pa_cons (pe_ix (ixT K rfl) (pv 1) pe_int (fun _ _ => rfl)) pa_nil)) pa_nil)) (pg_name (i := 6) sc_law_written.nd rfl (.inl rfl))
      (pss_cons (ps_expr (pe_c G_law_written hr (by omega) (by rfl) (pa_cons (pv 0) (pa_cons (pe_ix (ixL K rfl) (pe_ix (ixT K rfl) (pv 1) pe_int (fun _ _ => rfl)) (pv 6) (fun _ _ => rfl)) (pa_cons (pv 2) (pa_cons (pv 3) pa_nil))))))
      (pss_one (ps_expr (pe_bm PySem.F.plainAttrs_list PySem.F.slot_list_append PySem.F.type_list_append mt_append (pv 2) (pa_cons (pe_c G_law_gap hr (by omega) (by rfl) (pa_cons (pv 0) (pa_cons (pe_cmpR op_lt (pe_op op_add (pv 6) pe_int) (pe_callB (cLen K rfl) (by rfl) M.len b_len (pa_cons (pe_ix (ixT K rfl) (pv 1) pe_int (fun _ _ => rfl)) pa_nil)) (nomark _)) pa_nil))) pa_nil))))))
      (pss_one (ps_expr (pe_bm PySem.F.plainAttrs_list PySem.F.slot_list_append PySem.F.type_list_append mt_append (pv 2) (pa_cons pe_str pa_nil)))))))))))), ?_⟩
  refine ⟨_, rfl, pa, rfl, ⟨_, SqL.of W.pa⟩, fun D nD => ?_⟩
  refine lc_list (fun i H' => Same H H' ∧ H' D = some (.lst ((((ps.take i).map fun p => ((p.length : Nat) : Int)).map V.int)))) (fun i H' h => h.1 _ _ W.pa) ⟨same_upd nD, upd_same⟩ (fun i v H' hvi ⟨ss, hD⟩ => ?_) (fun H1 ⟨s1, hD⟩ => ?_)
  · rw [List.map_map, List.getElem?_map] at hvi
    cases hp : ps[i]? with
    | none => rw [hp] at hvi; cases hvi
    | some p =>
    rw [hp] at hvi
    obtain rfl := Option.some.inj hvi
    have hpm := List.mem_of_getElem? hp
    have hpl' := hpl p hpm
    have hil := (List.getElem?_eq_some_iff.mp hp).1
    refine ⟨rfl, ?_⟩
    unfold tYes
    refine iteT ⟨_, rfl, S p, rfl, by rw [len_S]; omega, _, hD, ?_, fun c o e => ?_, ?_⟩
    · rw [List.length_map, List.length_map, List.length_take]
      show _ < 2 ^ 24
      omega
    · rw [upd_ne (ne_of_none e nD)]
      exact ss _ _ e
    · rw [upd_same, List.take_add_one, hp, List.map_append, List.map_append, len_S]
      rfl
  have hlm : ((ps.map S).map V.str).length = ps.length := by rw [List.length_map, List.length_map]
  rw [hlm, List.take_length] at hD
  refine ⟨D, _, rfl, SqL.of hD, ?_⟩
  rw [sum_flat]
  dsimp only [gName]
  have W1 := W.same s1
  have hv1 := hv.kq (.same s1)
  refine ⟨_, rfl, .inl ⟨rfl, _, SqL.of W1.sa⟩, _, rfl, sa, _, _, rfl, rfl, W1.sa, by rw [natV_len]; show _ < 2 ^ 24; omega, ?_⟩
  have W2 := W1.putS ps.flatten.length
  have hv2 := hv.kq (kqb W2.kq)
  show tSeq _ _ _ _ (L2.upd H1 sa (.lst (natV ss ++ [.int (ps.flatten.length : Nat)])))
  generalize L2.upd H1 sa (.lst (natV ss ++ [.int (ps.flatten.length : Nat)])) = H2 at W2 hv2 ⊢
  cases hv2 with
  | @leaf p u x hx hp hu =>
    rw [szT_atom hx] at hps hss
    refine ⟨_, rfl, tc (ixt hp (atI_nat (j := 0) rfl) (tc ⟨rfl, _, rfl, ?_⟩))⟩
    rw [strE, decide_eq_false (kd_nl hx)]
    refine iteT ⟨_, rfl, .inl ⟨rfl, _, SqL.of W2.pa⟩, _, rfl, .ref p, x, bad, rfl, .leaf hx hp hu, ok, by rw [dp_atom hx]; exact Nat.zero_lt_one, by rw [szT_atom hx]; decide, fun H3 s3 => ?_⟩
    have W3 := W2.same s3
    refine ⟨pa, _, _, rfl, rfl, W3.pa, by rw [hlm]; show _ < 2 ^ 24; omega, ?_⟩
    exact q [shT x] [ps.flatten.length] _ (wrote_atom hx ok (cp_sh hx ok cp)) (W3.putP _)
  | @lst p qa vs l hp hqa hnb hall =>
    simp only [dpT] at hd
    simp only [szT] at hps hss
    simp only [okT] at ok
    simp only [cpT] at cp
    have hvl := hall.len
    have hlen := szL_len l
    refine ⟨_, rfl, tc (ixt hp (atI_nat (j := 0) rfl) (tc ⟨rfl, _, rfl, ?_⟩))⟩
    rw [strE, decide_eq_true rfl]
    refine iteF ?_
    dsimp only [tNext]
    obtain ⟨n0, hn0⟩ : ∃ n0 : Nat, n0 = ps.flatten.length := ⟨_, rfl⟩
    rw [← hn0] at W2 q ⊢
    have W20 : WS td pa sa H2 H2 ps (ss ++ [n0]) := ⟨W2.n1, W2.n2, W2.n3, .refl _ _, W2.td, W2.pa, W2.sa⟩
    have hqn : qa ∉ [td, pa, sa] := fun z => by
      simp only [List.mem_cons, List.not_mem_nil, or_false] at z
      rcases z with rfl | rfl | rfl <;> exact hnb (by assumption)
    have obj : ∀ {H' : Hp}, Kq [td, pa, sa] H2 H' → H' p = some (.tup [.str "list", .ref qa]) ∧ H' qa = some (.lst vs) ∧ TrAll bad H' vs l := fun k => ⟨k.t _ _ hp, k.k _ _ hqn hqa, hall.kq (kqb k)⟩
    refine seq_split (t1 := tAsg _ _) (fun σ' H' => ∃ (fa : Addr) (x0 : Tr), σ' = [some (.ref td), some (.ref p), some (.ref pa), some (.ref sa), some (.int (n0 : Nat)), some (.ref fa), none, none] ∧ Same H2 H' ∧ TrAt bad H' (.ref fa) x0 ∧ ∀ w, x0 = .nam w → ∃ y v1, l = [.nam w, y] ∧ vs = [.ref fa, v1]) ?_ (fun J => ?_)
    case refine_2 =>
      refine ⟨_, rfl, tc (ixt hp (atI_nat (j := 1) rfl) ⟨qa, vs, rfl, .inl (SqL.of hqa), rfl, _, rfl, ?_⟩)⟩
      by_cases h2 : V.int (vs.length : Int) = V.int 2
      · rw [decide_eq_true h2]
        have h2' : vs.length = 2 := by have := V.int.inj h2; omega
        cases hall with
        | nil => exact absurd h2' (by simp)
        | @cons v0 vs0 x0 l0 t0 hall =>
        cases hall with
        | nil => exact absurd h2' (by simp)
        | @cons v1 vs1 x1 l1 t1 hall =>
        cases hall with
        | cons _ _ => exact absurd h2' (by simp)
        | nil =>
        obtain ⟨fa, u, rfl, hfa, _⟩ := t0.tup
        refine iteT ⟨_, rfl, tc (ixt hp (atI_nat (j := 1) rfl) (tc (ixl hqa (atI_nat (j := 0) rfl) ?_)))⟩
        exact J _ _ ⟨fa, x0, rfl, fun _ _ e => e, t0, fun w e => ⟨x1, v1, by rw [e], rfl⟩⟩
      · rw [decide_eq_false h2]
        refine iteF ⟨by show 2 ≤ sizeLine; decide, fun fa nfa => ?_⟩
        exact J _ _ ⟨fa, .wild, rfl, same_upd nfa, .leaf (x := .wild) rfl upd_same .non, fun w e => by cases e⟩
    rintro σ' H3 ⟨fa, x0, rfl, s3, t0, h0⟩
    have W3 := W20.same s3
    refine seq_split (t1 := tIfS _ _ _) (fun σ' H' => σ' = [some (.ref td), some (.ref p), some (.ref pa), some (.ref sa), some (.int (n0 : Nat)), some (.ref fa), none, none] ∧ WS td pa sa H2 H' ps (ss ++ [n0])) ?_ (fun J => ?_)
    case refine_2 =>
      obtain ⟨fa', u, e, hfa, hu⟩ := t0.tup
      cases e
      refine ⟨_, rfl, tc (ixt hfa (atI_nat (j := 0) rfl) (tc ⟨rfl, _, rfl, ?_⟩))⟩
      rw [strE]
      by_cases hk : decide (x0.kd = "name") = true
      case neg =>
        rw [Bool.not_eq_true] at hk
        rw [hk]
        exact iteF (iteF (J _ _ ⟨rfl, W3⟩))
      rw [hk]
      obtain ⟨w, rfl⟩ := kd_name.mp hk
      obtain rfl := hu w rfl
      obtain ⟨y, v1, rfl, rfl⟩ := h0 w rfl
      have okn : okT (.nam w) := by simp only [okL] at ok; exact ok.1
      have okw : Ok w := ⟨Nat.le_trans (nam_len okn) (by decide), fun c hc => cp_sh rfl okn True.intro c (by rw [shT_atom rfl]; exact hc)⟩
      refine iteT ⟨_, rfl, tc (ixt hfa (atI_nat (j := 1) rfl) ⟨by show 2 ≤ sizeLine; decide, fun pt npt => in_two q_quo q_syn okQ okY okw upd_same ⟨_, rfl, ?_⟩⟩)⟩
      have s4 := same_upd (o := .tup [.str "quote", .str "syntax"]) npt
      have W4' := W3.same s4
      have hfa4 := s4 _ _ hfa
      show (if _ = true then _ else _)
      generalize L2.upd H3 pt (.tup [.str "quote", .str "syntax"]) = H4 at s4 W4' hfa4 ⊢
      by_cases hw : w = quoT ∨ w = synT
      case neg =>
        rw [decide_eq_false hw]
        exact iteF (iteF (J _ _ ⟨rfl, W4'⟩))
      rw [decide_eq_true hw]
      obtain ⟨xs4, htd4⟩ := W4'.td
      refine iteT ⟨_, rfl, td, _, xs4, rfl, htd4, by decide, fun r H5 ys h0 h3 k5 htd5 => ⟨_, _, rfl, rfl, _, rfl, ?_⟩⟩
      have W5 := W4'.keep k5 htd5
      by_cases hr0 : (0 : Int) < r
      case neg =>
        rw [decide_eq_false hr0]
        exact iteF (J _ _ ⟨rfl, W5⟩)
      rw [decide_eq_true hr0]
      have hfa5 := k5.tk htd4 _ _ hfa4
      refine iteT ⟨_, rfl, .inl ⟨rfl, _, SqL.of W5.sa⟩, _, rfl, sa, _, _, rfl, rfl, W5.sa, by rw [natV_len, List.length_append, List.length_singleton]; show _ < 2 ^ 24; omega, ?_⟩
      have W6 := W5.putS n0
      have hfa6 : L2.upd H5 sa (.lst (natV (ss ++ [n0]) ++ [.int (n0 : Nat)])) fa = some (.tup [.str (Tr.nam w).kd, .str (S w)]) := by rw [upd_ne (fun z => by rw [z, W5.sa] at hfa5; cases hfa5)]; exact hfa5
      show tSeq _ _ _ _ (L2.upd H5 sa (.lst (natV (ss ++ [n0]) ++ [.int (n0 : Nat)])))
      generalize L2.upd H5 sa (.lst (natV (ss ++ [n0]) ++ [.int (n0 : Nat)])) = H6 at W6 hfa6 ⊢
      have sgn : ∃ sg : T, (w = quoT ∧ sg = [39] ∨ w = synT ∧ sg = [35, 39]) ∧ ∀ Q2 : VK, Q2 (.str (S sg)) H6 → (if decide (V.str (S w) = V.str "quote") = true then tC (.str "'") [some (V.ref td), some (V.ref p), some (V.ref pa), some (V.ref sa), some (V.int (n0 : Nat)), some (V.ref fa), none, none] H6 Q2 else tC (.str "#'") [some (V.ref td), some (V.ref p), some (V.ref pa), some (V.ref sa), some (V.int (n0 : Nat)), some (V.ref fa), none, none] H6 Q2) := by
        rcases hw with rfl | rfl
        · refine ⟨[39], .inl ⟨rfl, rfl⟩, fun Q2 hq => ?_⟩
          rw [wdE q_quo, decide_eq_true rfl]
          exact iteT (by rw [q_ap]; exact hq)
        · refine ⟨[35, 39], .inr ⟨rfl, rfl⟩, fun Q2 hq => ?_⟩
          rw [wdE q_quo, decide_eq_false (by decide)]
          exact iteF (by rw [show ("#'" : Str) = S [35, 39] by decide +kernel]; exact hq)
      obtain ⟨sg, hsg, hsg2⟩ := sgn
      refine ⟨_, rfl, .inl ⟨rfl, _, SqL.of W6.pa⟩, _, rfl, tc (ixt hfa6 (atI_nat (j := 1) rfl) (tc ⟨rfl, _, rfl, hsg2 _ ⟨pa, _, _, rfl, rfl, W6.pa, by rw [hlm]; show _ < 2 ^ 24; omega, ?_⟩⟩))⟩
      have W7 := W6.putP sg
      dsimp only [tNil]
      show tSeq _ _ _ _ (L2.upd H6 pa (.lst ((ps.map S).map V.str ++ [.str (S sg)])))
      generalize L2.upd H6 pa (.lst ((ps.map S).map V.str ++ [.str (S sg)])) = H7 at W7 ⊢
      obtain ⟨xs7, htd7⟩ := W7.td
      have hlm2 : (((ps ++ [sg]).map S).map V.str).length = ps.length + 1 := by rw [List.length_map, List.length_map, List.length_append]; rfl
      refine ⟨_, rfl, .inl ⟨rfl, _, SqL.of W7.pa⟩, _, rfl, td, false, xs7, rfl, htd7, fun g H8 ys8 hg k8 htd8 => ?_⟩
      have W8 := W7.keep k8 htd8
      refine ⟨pa, _, _, rfl, rfl, W8.pa, by rw [hlm2]; show _ < 2 ^ 24; omega, ?_⟩
      have W9 := W8.putP g
      show tSeq _ _ _ _ (L2.upd H8 pa (.lst (((ps ++ [sg]).map S).map V.str ++ [.str (S g)])))
      generalize L2.upd H8 pa (.lst (((ps ++ [sg]).map S).map V.str ++ [.str (S g)])) = H9 at W9 ⊢
      obtain ⟨o1, o2, o3⟩ := obj W9.kq
      cases o3 with
      | cons _ o4 =>
      cases o4 with
      | cons o5 _ =>
      simp only [szL] at hps hss
      simp only [okL] at ok
      simp only [cpL] at cp
      simp only [dpL] at hd
      have hzn : szT (.nam w) = 1 := szT_atom rfl
      rw [hzn] at hps hss
      have W90 : WS td pa sa H9 H9 (ps ++ [sg] ++ [g]) (ss ++ [n0] ++ [n0]) := ⟨W9.n1, W9.n2, W9.n3, .refl _ _, W9.td, W9.pa, W9.sa⟩
      have hflat : (ps ++ [sg] ++ [g]).flatten.length = n0 + (sg ++ g).length := by rw [hn0]; simp
      refine ⟨_, rfl, _, rfl, tc (ixt o1 (atI_nat (j := 1) rfl) (tc (ixl o2 (atI_nat (j := 1) rfl) ⟨_, rfl, _, rfl, td, pa, sa, v1, y, bad, _, _, rfl, W90, o5, ⟨b1, b2, b3⟩, ok.2.1, cp.2.1, by omega, ?_, ?_, fun p hp => ?_, fun ps2 s2 H10 wr W10 => ?_⟩)))⟩
      · rw [List.length_append, List.length_append, List.length_singleton, List.length_singleton]
        omega
      · rw [List.length_append, List.length_append, List.length_singleton]
        omega
      · rcases List.mem_append.mp hp with hp | hp
        · rcases List.mem_append.mp hp with hp | hp
          · exact hpl p hp
          · rw [List.mem_singleton.mp hp]
            rcases hsg with ⟨_, e⟩ | ⟨_, e⟩ <;> rw [e] <;> decide
        · rw [List.mem_singleton.mp hp]
          have := hg.ln
          omega
      · rw [hflat] at wr
        refine q (sg :: g :: ps2) (n0 :: n0 :: s2) H10 (wrote_sign hsg hg wr) ?_
        have e1 : ps ++ sg :: g :: ps2 = ps ++ [sg] ++ [g] ++ ps2 := by simp
        have e2 : ss ++ n0 :: n0 :: s2 = ss ++ [n0] ++ [n0] ++ s2 := by simp
        rw [e1, e2]
        exact W2.go (W9.go W10)
    rintro σ' H4 ⟨rfl, W4'⟩
    refine ⟨_, rfl, .inl ⟨rfl, _, SqL.of W4'.pa⟩, pa, _, _, rfl, rfl, W4'.pa, by rw [hlm]; show _ < 2 ^ 24; omega, ?_⟩
    rw [q_open]
    have W5 := W4'.putP [40]
    show tSeq _ _ _ _ (L2.upd H4 pa (.lst ((ps.map S).map V.str ++ [.str (S [40])])))
    generalize L2.upd H4 pa (.lst ((ps.map S).map V.str ++ [.str (S [40])])) = H5 at W5 ⊢
    obtain ⟨xs5, htd5⟩ := W5.td
    have hlm2 : (((ps ++ [[40]]).map S).map V.str).length = ps.length + 1 := by rw [List.length_map, List.length_map, List.length_append]; rfl
    refine ⟨_, rfl, .inl ⟨rfl, _, SqL.of W5.pa⟩, _, rfl, td, false, xs5, rfl, htd5, fun g H6 ys6 hg k6 htd6 => ?_⟩
    have W6 := W5.keep k6 htd6
    refine ⟨pa, _, _, rfl, rfl, W6.pa, by rw [hlm2]; show _ < 2 ^ 24; omega, ?_⟩
    have W7 := W6.putP g
    show tSeq _ _ _ _ (L2.upd H6 pa (.lst (((ps ++ [[40]]).map S).map V.str ++ [.str (S g)])))
    generalize L2.upd H6 pa (.lst (((ps ++ [[40]]).map S).map V.str ++ [.str (S g)])) = H7 at W7 ⊢
    obtain ⟨o1, o2, o3⟩ := obj W7.kq
    obtain ⟨n1, hn1⟩ : ∃ n1 : Nat, n1 = n0 + (([40] : T) ++ g).length := ⟨_, rfl⟩
    refine ⟨_, rfl, tc (ixt o1 (atI_nat (j := 1) rfl) ⟨qa, vs, rfl, .inl (SqL.of o2), vs.length, rfl, by omega, by omega, ?_⟩)⟩
    refine for_range (lo := 0) (n := vs.length) (fun i σ H' => ∃ (ps2 : List T) (s : List Nat) (y6 : Option V), σ = [some (.ref td), some (.ref p), some (.ref pa), some (.ref sa), some (.int (n0 : Nat)), some (.ref fa), y6, none] ∧ i ≤ l.length ∧ WS td pa sa H2 H' (ps ++ [[40]] ++ [g] ++ ps2) (ss ++ [n0] ++ s) ∧ WroteL (i = l.length) n1 (l.take i) ps2 s) ⟨[], [], none, rfl, Nat.zero_le _, by rw [List.append_nil, List.append_nil]; exact W7, .nil⟩ ?_ ?_
    · rintro i σ H8 hi ⟨ps2, s2, y6, rfl, hil, W8, wl⟩
      obtain ⟨p1, p2, p3⟩ := obj W8.kq
      have hvi := List.getElem?_eq_getElem hi
      obtain ⟨z, hz, hzt⟩ := p3.get hvi
      have hzm := List.mem_of_getElem? hz
      have hst := szL_take hz
      have hlen2 := wl.cnt
      have hsl2 := wl.sl
      have hle : szL (l.take i) + szT z ≤ szL l := by
        have := szL_app (l := l.take (i + 1)) (m := l.drop (i + 1))
        rw [List.take_append_drop] at this
        omega
      have W80 : WS td pa sa H8 H8 (ps ++ [[40]] ++ [g] ++ ps2) (ss ++ [n0] ++ s2) := ⟨W8.n1, W8.n2, W8.n3, .refl _ _, W8.td, W8.pa, W8.sa⟩
      have hflat : (ps ++ [[40]] ++ [g] ++ ps2).flatten.length = n1 + ps2.flatten.length := by rw [hn1, hn0]; simp; omega
      have e0 : (0 : Int) + (i : Int) = (i : Int) := Int.zero_add _
      dsimp only [gName]
      refine ⟨_, rfl, _, rfl, tc (ixt p1 (atI_nat (j := 1) rfl) ⟨_, rfl, ixl p2 (by rw [e0]; exact atI_nat hvi) ⟨_, rfl, _, rfl, td, pa, sa, _, z, bad, _, _, rfl, W80, hzt, ⟨b1, b2, b3⟩, okL_mem ok hzm, cpL_mem cp hzm, by have := dpL_mem hzm; omega, ?_, ?_, fun p hp => ?_, fun qs s3 H9 wr W9 => ?_⟩⟩)⟩
      · simp only [List.length_append, List.length_cons, List.length_nil]
        omega
      · simp only [List.length_append, List.length_cons, List.length_nil]
        omega
      · rcases List.mem_append.mp hp with hp | hp
        · rcases List.mem_append.mp hp with hp | hp
          · rcases List.mem_append.mp hp with hp | hp
            · exact hpl p hp
            · rw [List.mem_singleton.mp hp]
              decide
          · rw [List.mem_singleton.mp hp]
            have := hg.ln
            omega
        · exact wl.len p hp
      rw [hflat] at wr
      have W9' := W8.go W9
      obtain ⟨q1, q2, q3⟩ := obj W9'.kq
      obtain ⟨xs9, htd9⟩ := W9'.td
      have hcq := wr.cnt
      refine ⟨_, rfl, .inl ⟨rfl, _, SqL.of W9'.pa⟩, _, rfl, _, rfl, _, _, rfl, rfl, _, rfl, tc (ixt q1 (atI_nat (j := 1) rfl) ⟨qa, vs, rfl, .inl (SqL.of q2), _, _, rfl, rfl, td, _, xs9, rfl, htd9, fun g2 H10 ys10 hg2 k10 htd10 => ?_⟩)⟩
      have W10 := W9'.keep k10 htd10
      have hll : ((((ps ++ [[40]] ++ [g] ++ ps2) ++ qs).map S).map V.str).length < sizeLine := by
        simp only [List.length_map, List.length_append, List.length_cons, List.length_nil]
        omega
      refine ⟨pa, _, _, rfl, rfl, W10.pa, hll, ?_⟩
      have W11 := W10.putP g2
      refine ⟨ps2 ++ qs ++ [g2], s2 ++ s3, _, rfl, by omega, ?_, ?_⟩
      · have e1 : ps ++ [[40]] ++ [g] ++ (ps2 ++ qs ++ [g2]) = (ps ++ [[40]] ++ [g] ++ ps2) ++ qs ++ [g2] := by simp
        have e2 : ss ++ [n0] ++ (s2 ++ s3) = (ss ++ [n0] ++ s2) ++ s3 := by simp
        rw [e1, e2]
        exact W11
      · rw [List.take_add_one, hz]
        refine wl.snoc (by omega) wr hg2 fun z => ?_
        have := of_decide_eq_false z
        omega
    · rintro σ H8 ⟨ps2, s2, y6, rfl, hil, W8, wl⟩
      rw [hvl, List.take_length] at wl
      have hlen2 := wl.cnt
      have hll : (((ps ++ [[40]] ++ [g] ++ ps2).map S).map V.str).length < sizeLine := by
        simp only [List.length_map, List.length_append, List.length_cons, List.length_nil]
        omega
      refine ⟨_, rfl, .inl ⟨rfl, _, SqL.of W8.pa⟩, pa, _, _, rfl, rfl, W8.pa, hll, ?_⟩
      rw [q_close]
      have W9 := W8.putP [41]
      rw [hn1] at wl
      have e1 : ps ++ ([40] :: g :: (ps2 ++ [[41]])) = (ps ++ [[40]] ++ [g] ++ ps2) ++ [[41]] := by simp
      have e2 : ss ++ n0 :: s2 = ss ++ [n0] ++ s2 := by simp
      refine q ([40] :: g :: (ps2 ++ [[41]])) (n0 :: s2) _ (wrote_list hg wl) ?_
      rw [e1, e2]
      exact W2.go W9
theorem written_all {f : Addr} {fd : FuncData} (F : Dfn K mg "_law_written" st__law_written f fd ["draws", "tree", "pieces", "starts"]) (M : Mg2 mg) (G_law_take : Cal P w K mg base 1 "_law_take" spTake) (G_law_gap : Cal P w K mg base 2 "_law_gap" spGap) (G_law_plain : Cal P w K mg base 1 "_law_plain" (spPlain 1)) : ∀ n : Nat, Cal P w K mg base (n + 3) "_law_written" (spWr n)
  | 0 => by
    have no : ∀ vs H Q E, ¬ spWr 0 vs H Q E := fun vs H Q E h => by
      obtain ⟨_, _, _, _, _, _, _, _, _, _, _, _, _, _, h, _⟩ := h
      exact Nat.not_lt_zero _ h
    exact ⟨f, fd, _, ⟨fun vs H Q E h => absurd h (no vs H Q E), fun A outer s H args us vs Q E _ _ _ _ h => absurd h (no vs H Q E)⟩, F.mgf, F.fn.kp, F.b⟩
  | n + 1 => ok_written (by omega) F M G_law_take G_law_gap G_law_plain (written_all F M G_law_take G_law_gap G_law_plain n)
end
end W4
set_option Elab.async false
set_option linter.all false
set_option maxRecDepth 100000
set_option maxHeartbeats 4000000
namespace W4
open PySem PySem.Spec PyProof.Rows L2 Com
/-! what is read is neither deep nor long -/
def Lv (L : Nat) (d : PyData) : Prop := d.depth ≤ 2 * (60 - L) + 1 ∧ smD d = true
def Fok : List Fr → Prop
  | [] => True
  | f :: r => (∀ d ∈ f.ps, Lv (r.length + 1) d) ∧ Fok r
theorem depthAll_le {k : Nat} : ∀ {ds : List PyData}, (∀ d ∈ ds, d.depth ≤ k) → PyData.depthAll ds ≤ k
  | [], _ => Nat.zero_le _
  | d :: ds, h => by
    simp only [PyData.depthAll]
    have h1 := h d List.mem_cons_self
    have h2 := depthAll_le (ds := ds) fun x hx => h x (List.mem_cons_of_mem _ hx)
    omega
theorem smAll_of : ∀ {ds : List PyData}, (∀ d ∈ ds, smD d = true) → smAll ds = true
  | [], _ => rfl
  | d :: ds, h => by
    simp only [smAll, Bool.and_eq_true]
    exact ⟨h d List.mem_cons_self, smAll_of fun x hx => h x (List.mem_cons_of_mem _ hx)⟩
theorem lv_atom {L : Nat} {s : Str} {w : T} {pl : Nat} : Lv L (atomD s w pl) := by
  unfold Lv atomD
  split
  · exact ⟨by simp only [PyData.depth, PyData.depthAll]; omega, by simp [smD, smAll]⟩
  split
  · exact ⟨by simp only [PyData.depth, PyData.depthAll]; omega, by simp [smD, smAll]⟩
  split
  · exact ⟨by simp only [PyData.depth, PyData.depthAll]; omega, by simp [smD, smAll]⟩
  split
  · exact ⟨by simp only [PyData.depth, PyData.depthAll]; omega, by simp [smD, smAll]⟩
  · exact ⟨by simp only [PyData.depth, PyData.depthAll]; omega, by simp [smD, smAll]⟩
theorem lv_nam {L : Nat} {s : Str} {pl : Nat} : Lv L (namD s pl) := by
  unfold Lv namD
  exact ⟨by simp only [PyData.depth, PyData.depthAll]; omega, by simp [smD, smAll]⟩
theorem lv_lst {L : Nat} {ps : List PyData} {pl : Nat} (hL : L + 1 ≤ 60) (hp : ∀ d ∈ ps, Lv (L + 1) d) (hl : ps.length ≤ 1000000) : Lv L (lstD ps pl) := by
  have h1 := depthAll_le (k := 2 * (60 - (L + 1)) + 1) fun d hd => (hp d hd).1
  have h2 := smAll_of fun d hd => (hp d hd).2
  unfold Lv lstD
  refine ⟨?_, ?_⟩
  · simp only [PyData.depth, PyData.depthAll]
    omega
  · simp [smD, smAll, h2, hl]
theorem put_ok {D : PyData} : ∀ {st : List Fr} {fm : List PyData} {ss : List Nat} {D : PyData}, st.length ≤ 60 → Fok st → (∀ f ∈ st, f.ps.length ≤ 900000) → (∀ d ∈ fm, Lv 0 d) → Lv st.length D → Fok (put st fm ss D).st ∧ ∀ d ∈ (put st fm ss D).fm, Lv 0 d
  | [], fm, ss, D, _, _, _, hf, hD => ⟨True.intro, fun d hd => by
    rcases List.mem_append.mp hd with h | h
    · exact hf d h
    · rw [List.mem_singleton.mp h]
      exact hD⟩
  | f :: r, fm, ss, D, hl, ⟨h1, h2⟩, hp, hf, hD => by
    have hl' : r.length + 1 ≤ 60 := hl
    unfold put
    split
    · refine ⟨⟨fun d hd => ?_, h2⟩, hf⟩
      rcases List.mem_append.mp hd with h | h
      · exact h1 d h
      · rw [List.mem_singleton.mp h]
        exact hD
    · refine put_ok (D := D) (st := r) (by omega) h2 (fun g hg => hp g (List.mem_cons_of_mem _ hg)) hf (lv_lst hl' (fun d hd => ?_) ?_)
      · rcases List.mem_append.mp hd with h | h
        · exact h1 d (List.mem_of_mem_take h)
        · rw [List.mem_singleton.mp h]
          exact hD
      · have := List.length_take (i := 1) (l := f.ps)
        rw [List.length_append, List.length_singleton]
        omega
structure Gd (cf : Cf) : Prop where
  st : Fok cf.st
  fm : ∀ d ∈ cf.fm, Lv 0 d
theorem gd_step {t : T} {n : Nat} {cf cf' : Cf} {k : Tok} (hb : Bd n cf.st cf.fm cf.ss) (hn : n ≤ 6000) (h : Gd cf) (e : step t cf k = .ok cf') : Gd cf' := by
  have hp : ∀ f ∈ cf.st, f.ps.length ≤ 900000 := fun f hf => Nat.le_trans (hb.bp f hf) (by omega)
  unfold step at e
  split at e
  · cases e
  split at e
  · obtain rfl := Except.ok.inj e
    obtain ⟨h1, h2⟩ := put_ok (D := .none) (ss := cf.ss ++ [k.2.1]) hb.bt h.st hp h.fm (lv_atom (s := k.1) (w := wrd t k.2.1 k.2.2) (pl := cf.ss.length))
    exact ⟨h1, h2⟩
  split at e
  · cases hst : cf.st with
    | nil =>
      rw [hst] at e
      cases e
    | cons f r =>
      rw [hst] at e
      dsimp only at e
      have hs := h.st
      have hbt := hb.bt
      rw [hst] at hs hp hbt
      have hbt' : r.length + 1 ≤ 60 := hbt
      split at e
      · obtain rfl := Except.ok.inj e
        obtain ⟨h1, h2⟩ := put_ok (D := .none) (ss := cf.ss) (st := r) (by omega) hs.2 (fun g hg => hp g (List.mem_cons_of_mem _ hg)) h.fm (lv_lst (pl := f.pl) hbt' hs.1 (by have := hp f List.mem_cons_self; omega))
        exact ⟨h1, h2⟩
      · cases e
  split at e
  · cases e
  split at e
  · obtain rfl := Except.ok.inj e
    exact ⟨⟨(fun d hd => by cases hd), h.st⟩, h.fm⟩
  · obtain rfl := Except.ok.inj e
    refine ⟨⟨fun d hd => ?_, h.st⟩, h.fm⟩
    rw [List.mem_singleton.mp hd]
    exact lv_nam
theorem gd_run {t : T} : ∀ (ks : List Tok) (cf cf' : Cf) (n : Nat), Bd n cf.st cf.fm cf.ss → n + ks.length ≤ 6000 → Gd cf → runM t cf ks = .ok cf' → Gd cf'
  | [], cf, cf', n, hb, hn, h, e => by
    obtain rfl := Except.ok.inj e
    exact h
  | k :: ks, cf, cf', n, hb, hn, h, e => by
    rw [List.length_cons] at hn
    rw [runM_cons] at e
    cases hs : step t cf k with
    | error b =>
      rw [hs] at e
      cases e
    | ok c2 =>
      rw [hs] at e
      exact gd_run ks c2 cf' (n + 1) (bd_step hb hs) (by omega) (gd_step hb (by omega) h hs) e
def goodD (fm : List PyData) (ss : List Nat) : PyData := .tuple [.str "good", .tuple fm, .list (ss.map fun n => .int (n : Nat))]
theorem good_ok {t : T} {fm : List PyData} {ss : List Nat} (h : readM t = .ok (fm, ss)) : (goodD fm ss).depth < 125 ∧ smD (goodD fm ss) = true := by
  have hlen := readM_len h
  have hg : ∀ d ∈ fm, Lv 0 d := by
    unfold readM at h
    split at h
    · cases h
    rename_i hl
    have hl6 : (toksF t 0).length ≤ 6000 := by
      have := toksF_len (t := t) t.length (a := 0) (by omega)
      omega
    cases hr : runM t ⟨[], [], []⟩ (toksF t 0) with
    | error b =>
      rw [hr] at h
      cases h
    | ok cf =>
      rw [hr] at h
      dsimp only at h
      have := gd_run _ ⟨[], [], []⟩ _ 0 ⟨Nat.zero_le _, Nat.zero_le _, Nat.zero_le _, (fun f hf => by cases hf), (fun f hf => by cases hf)⟩ (by omega) ⟨True.intro, (fun d hd => by cases hd)⟩ hr
      split at h
      · obtain ⟨rfl, rfl⟩ := Prod.mk.inj (Except.ok.inj h)
        exact this.fm
      · cases h
  have h1 := depthAll_le (k := 121) fun d hd => (hg d hd).1
  have h2 := smAll_of fun d hd => (hg d hd).2
  have h3 : PyData.depthAll (ss.map fun n => PyData.int (n : Nat)) ≤ 0 := depthAll_le fun d hd => by
    obtain ⟨x, _, rfl⟩ := List.mem_map.mp hd
    simp only [PyData.depth]
    omega
  have h4 : smAll (ss.map fun n => PyData.int (n : Nat)) = true := smAll_of fun d hd => by
    obtain ⟨x, _, rfl⟩ := List.mem_map.mp hd
    simp [smD]
  unfold goodD
  refine ⟨?_, ?_⟩
  · simp only [PyData.depth, PyData.depthAll]
    omega
  · have e1 : fm.length ≤ 1000000 := by omega
    have e2 : ss.length ≤ 1000000 := by omega
    simp [smD, smAll, h2, h4, e1, e2]
end W4
set_option Elab.async false
set_option linter.all false
set_option maxRecDepth 100000
set_option maxHeartbeats 4000000
namespace W4
open PySem PySem.Spec PyProof.Rows L2 Com SX GxR
/-! what is shown is a writing, too -/
mutual
theorem plain_wr : ∀ (x : Tr) (t : T) (a : Nat), okT x → At t a (shT x) → Stop noE t (a + (shT x).length) → ∃ s, Wr t a x (a + (shT x).length) s
  | .lst l, t, a, ok, ha, hs => by
    simp only [okT] at ok
    simp only [shT] at ha ⊢
    have h1 := ha.head
    obtain ⟨h2, h3⟩ := At.app.mp ha.tail
    have e : a + (40 :: (TL.joinL [32] (shL l) ++ [41])).length = a + 1 + (TL.joinL [32] (shL l)).length + 1 := by rw [List.length_cons, List.length_append, List.length_singleton]; omega
    obtain ⟨s, hw⟩ := plain_wrL l t (a + 1) ok h2 (.inr ⟨41, h3.head, by decide⟩)
    exact ⟨a :: s, by rw [e]; exact .lst h1 .nil hw h3.head⟩
  | .nam w, t, a, ok, ha, hs => by
    rw [shT_atom rfl] at ha hs ⊢
    exact ⟨_, .atom rfl ok ha hs⟩
  | .num w, t, a, ok, ha, hs => by
    rw [shT_atom rfl] at ha hs ⊢
    exact ⟨_, .atom rfl ok ha hs⟩
  | .flg w, t, a, ok, ha, hs => by
    rw [shT_atom rfl] at ha hs ⊢
    exact ⟨_, .atom rfl ok ha hs⟩
  | .txt w, t, a, ok, ha, hs => by
    rw [shT_atom rfl] at ha hs ⊢
    exact ⟨_, .atom rfl ok ha hs⟩
  | .dots, t, a, ok, ha, hs => by
    rw [shT_atom rfl] at ha hs ⊢
    exact ⟨_, .atom rfl ok ha hs⟩
  | .wild, t, a, ok, ha, hs => by
    rw [shT_atom rfl] at ha hs ⊢
    exact ⟨_, .atom rfl ok ha hs⟩
theorem plain_wrL : ∀ (l : List Tr) (t : T) (a : Nat), okL l → At t a (TL.joinL [32] (shL l)) → Stop noE t (a + (TL.joinL [32] (shL l)).length) → ∃ s, WrL t a l (a + (TL.joinL [32] (shL l)).length) s
  | [], t, a, _, ha, hs => ⟨[], by simp only [shL]; exact .nil⟩
  | [x], t, a, ok, ha, hs => by
    simp only [okL] at ok
    simp only [shL] at ha hs ⊢
    have e : TL.joinL [32] [shT x] = shT x := rfl
    rw [e] at ha hs ⊢
    obtain ⟨s, hw⟩ := plain_wr x t a ok.1 ha hs
    exact ⟨s ++ [], .cons hw .nil .nil⟩
  | x :: y :: l, t, a, ok, ha, hs => by
    have ok' := ok
    simp only [okL] at ok
    have e : TL.joinL [32] (shL (x :: y :: l)) = shT x ++ (32 :: TL.joinL [32] (shL (y :: l))) := by simp only [shL]; rfl
    rw [e] at ha hs ⊢
    obtain ⟨h1, h2⟩ := At.app.mp ha
    have e2 : a + (shT x ++ (32 :: TL.joinL [32] (shL (y :: l)))).length = a + (shT x).length + 1 + (TL.joinL [32] (shL (y :: l))).length := by rw [List.length_append, List.length_cons]; omega
    rw [e2] at hs ⊢
    obtain ⟨s1, hw1⟩ := plain_wr x t a ok.1 h1 (.inr ⟨32, h2.head, by decide⟩)
    obtain ⟨s2, hw2⟩ := plain_wrL (y :: l) t (a + (shT x).length + 1) (by simp only [okL]; exact ok.2) h2.tail hs
    exact ⟨s1 ++ s2, .cons hw1 (.bl h2.head (.inl rfl) .nil) hw2⟩
end
theorem lines_wr : ∀ (l : List Tr) (t : T) (a : Nat), okL l → At t a (lnT l).flatten → ∃ s, WrL t a l (a + (lnT l).flatten.length) s
  | [], t, a, _, ha => ⟨[], .nil⟩
  | x :: l, t, a, ok, ha => by
    simp only [okL] at ok
    have e : (lnT (x :: l)).flatten = shT x ++ (10 :: (lnT l).flatten) := by unfold lnT; simp
    rw [e] at ha ⊢
    obtain ⟨h1, h2⟩ := At.app.mp ha
    have e2 : a + (shT x ++ (10 :: (lnT l).flatten)).length = a + (shT x).length + 1 + (lnT l).flatten.length := by rw [List.length_append, List.length_cons]; omega
    rw [e2]
    obtain ⟨s1, hw1⟩ := plain_wr x t a ok.1 h1 (.inr ⟨10, h2.head, by decide⟩)
    obtain ⟨s2, hw2⟩ := lines_wr l t (a + (shT x).length + 1) ok.2 h2.tail
    exact ⟨s1 ++ s2, .cons hw1 (.bl h2.head (.inr rfl) .nil) hw2⟩
theorem at_self (t : T) : At t 0 t := ⟨[], by simp⟩
theorem read_plain {l : List Tr} (ok : okL l) (hd : dpL l ≤ 60) (hl : (lnT l).flatten.length ≤ 6000) : ∃ s, readM (lnT l).flatten = .ok (plL l 0, s) := by
  obtain ⟨s, h⟩ := lines_wr l (lnT l).flatten 0 ok (at_self _)
  exact ⟨s, read_written hl .nil h (by omega) hd⟩
theorem cp_all : (∀ (x : Tr), okT x → cpT x → ∀ c ∈ shT x, c < 1114112) := by
  have jn : ∀ (ys : List T), (∀ y ∈ ys, ∀ c ∈ y, c < 1114112) → ∀ c ∈ TL.joinL [32] ys, c < 1114112 := by
    intro ys
    induction ys with
    | nil => intro _ c hc; cases hc
    | cons y r ih =>
      intro h c hc
      cases r with
      | nil => exact h y List.mem_cons_self c hc
      | cons z r =>
        have e : TL.joinL [32] (y :: z :: r) = y ++ (32 :: TL.joinL [32] (z :: r)) := rfl
        rw [e] at hc
        rcases List.mem_append.mp hc with hc | hc
        · exact h y List.mem_cons_self c hc
        rcases List.mem_cons.mp hc with rfl | hc
        · decide
        · exact ih (fun u hu => h u (List.mem_cons_of_mem _ hu)) c hc
  intro x
  refine Tr.rec (motive_1 := fun x => okT x → cpT x → ∀ c ∈ shT x, c < 1114112) (motive_2 := fun l => okL l → cpL l → ∀ y ∈ shL l, ∀ c ∈ y, c < 1114112) ?_ ?_ ?_ ?_ ?_ ?_ ?_ ?_ ?_ x
  · intro w; exact cp_sh (x := .nam w) rfl
  · intro w; exact cp_sh (x := .num w) rfl
  · intro w; exact cp_sh (x := .flg w) rfl
  · intro w; exact cp_sh (x := .txt w) rfl
  · exact cp_sh (x := .dots) rfl
  · exact cp_sh (x := .wild) rfl
  · intro l ih ok cp c hc
    simp only [okT] at ok
    simp only [cpT] at cp
    simp only [shT] at hc
    rcases List.mem_cons.mp hc with rfl | hc
    · decide
    rcases List.mem_append.mp hc with hc | hc
    · exact jn _ (ih ok cp) c hc
    · rw [List.mem_singleton.mp hc]
      decide
  · intro _ _ y hy
    simp only [shL] at hy
    cases hy
  · intro x l ih1 ih2 ok cp y hy
    simp only [okL] at ok
    simp only [cpL] at cp
    simp only [shL] at hy
    rcases List.mem_cons.mp hy with rfl | hy
    · exact ih1 ok.1 cp.1
    · exact ih2 ok.2 cp.2 y hy
theorem cp_lines {l : List Tr} (ok : okL l) (cp : cpL l) : ∀ c ∈ (lnT l).flatten, c < 1114112 := by
  intro c hc
  obtain ⟨y, hy, hc⟩ := List.mem_flatten.mp hc
  obtain ⟨x, hx, rfl⟩ := List.mem_map.mp hy
  rcases List.mem_append.mp hc with hc | hc
  · exact cp_all x (okL_mem ok hx) (cpL_mem cp hx) c hc
  · rw [List.mem_singleton.mp hc]
    decide
theorem sum_lines : ∀ {ll : List Tr}, okL ll → (((lnT ll).map S).map (·.length)).sum ≤ 105 * szL ll
  | [], _ => Nat.zero_le _
  | z :: r, o => by
    simp only [okL] at o
    have h1 := sh_len z o.1
    have h2 := sum_lines (ll := r) o.2
    have e : ((lnT (z :: r)).map S).map (·.length) = (S (shT z ++ [10])).length :: ((lnT r).map S).map (·.length) := rfl
    rw [e, List.sum_cons, len_S, List.length_append, List.length_singleton]
    simp only [szL]
    omega
theorem sum_pieces {ps : List T} (h : ∀ p ∈ ps, p.length ≤ 102) : ((ps.map S).map (·.length)).sum ≤ 102 * ps.length := by
  induction ps with
  | nil => exact Nat.zero_le _
  | cons p ps ih =>
    have h1 := h p List.mem_cons_self
    have h2 := ih fun q hq => h q (List.mem_cons_of_mem _ hq)
    rw [List.map_cons, List.map_cons, List.sum_cons, len_S, List.length_cons]
    omega
/-! what stands while code tables change -/
theorem TrAt.kt {bad : List Addr} {H H' : Hp} (k : KT H H') {v : V} {x : Tr} (h : TrAt bad H v x) : TrAt bad H' v x := by
  refine TrAt.rec (bad := bad) (H := H) (motive_1 := fun v x _ => TrAt bad H' v x) (motive_2 := fun vs l _ => TrAll bad H' vs l) ?_ ?_ ?_ ?_ h
  · intro p u x hx hp hu
    exact .leaf hx (k.tup hp) (hu.tk k.tk)
  · intro p q vs l hp hq hb _ ih
    exact .lst (k.tup hp) (k.lst hq) hb ih
  · exact .nil
  · intro v vs x l _ _ h1 h2
    exact .cons h1 h2
theorem TrAll.kt {bad : List Addr} {H H' : Hp} (k : KT H H') : ∀ {vs : List V} {l : List Tr}, TrAll bad H vs l → TrAll bad H' vs l
  | _, _, .nil => .nil
  | _, _, .cons h t => .cons (h.kt k) (t.kt k)
theorem TT.kq {PN PD : Addr} {bad : List Addr} {H H' : Hp} (h : TT PN PD H) (k : Kq bad H H') (hb : ∀ b ∈ bad, ∃ xs, H b = some (.lst xs)) : TT PN PD H' := by
  obtain ⟨⟨p1, h1, h2⟩, ⟨p2, h3, h4⟩⟩ := h
  refine ⟨⟨p1, k.k _ _ (fun z => ?_) h1, h2⟩, ⟨p2, k.k _ _ (fun z => ?_) h3, h4⟩⟩
  · obtain ⟨xs, e⟩ := hb _ z
    rw [h1] at e
    cases e
  · obtain ⟨xs, e⟩ := hb _ z
    rw [h3] at e
    cases e
theorem TT.keep {PN PD td : Addr} {H H' : Hp} {xs : List V} (h : TT PN PD H) (k : Keep td H H') (e : H td = some (.lst xs)) : TT PN PD H' := h.kq (Kq.keep k e) fun b hb => ⟨xs, by rw [List.mem_singleton.mp hb]; exact e⟩
theorem passE0 {X : Cx} {P : Program} {w : World} : Passes (L2.CX P w) X E0 := fun _ _ _ _ _ _ _ h => by
  obtain ⟨_, _, _, _, _, _, _, _, _, _, _, _, h⟩ := h
  exact h.elim
theorem dp_ints {K : PySem.W.Frag} {H : Hp} : ∀ l : List Nat, DpAll K H (l.map fun n => V.int (n : Nat)) (l.map fun n => PyData.int (n : Nat))
  | [] => .nil
  | a :: l => .cons (.int _) (dp_ints l)
/-- the trees, the forms, the starts -/
structure Bs (PN PD tr pf sa : Addr) (bad : List Addr) (vs : List V) (l : List Tr) (s : List Nat) (H : Hp) : Prop where
  tr : H tr = some (.lst vs)
  all : TrAll bad H vs l
  pf : Dt H (.ref pf) (.tuple (plL l 0))
  sa : H sa = some (.lst (natV s))
  tt : TT PN PD H
theorem Bs.kt {PN PD tr pf sa : Addr} {bad : List Addr} {vs : List V} {l : List Tr} {s : List Nat} {H H' : Hp} (h : Bs PN PD tr pf sa bad vs l s H) (k : KT H H') (t : TT PN PD H') : Bs PN PD tr pf sa bad vs l s H' := ⟨k.lst h.tr, h.all.kt k, h.pf.tk k.tk, k.lst h.sa, t⟩
theorem Bs.same {PN PD tr pf sa : Addr} {bad : List Addr} {vs : List V} {l : List Tr} {s : List Nat} {H H' : Hp} (h : Bs PN PD tr pf sa bad vs l s H) (k : Same H H') : Bs PN PD tr pf sa bad vs l s H' := h.kt (.same k) (h.tt.same k)
end W4
set_option Elab.async false
set_option linter.all false
set_option maxRecDepth 100000
set_option maxHeartbeats 4000000
namespace W4
open PySem PySem.Spec PyProof.Rows L2 Com SX GxR
theorem TrAll.take {bad : List Addr} {H : Hp} : ∀ {vs : List V} {l : List Tr} (n : Nat), TrAll bad H vs l → TrAll bad H (vs.take n) (l.take n)
  | _, _, 0, _ => by rw [List.take_zero, List.take_zero]; exact .nil
  | _, _, _ + 1, .nil => .nil
  | _, _, n + 1, .cons h t => .cons h (t.take n)
theorem okL_tk : ∀ (l : List Tr) (n : Nat), okL l → okL (l.take n)
  | _, 0, _ => by rw [List.take_zero]; simp only [okL]
  | [], _ + 1, h => h
  | x :: l, n + 1, h => by
    simp only [okL] at h
    simp only [List.take_succ_cons, okL]
    exact ⟨h.1, okL_tk l n h.2⟩
theorem cpL_tk : ∀ (l : List Tr) (n : Nat), cpL l → cpL (l.take n)
  | _, 0, _ => by rw [List.take_zero]; simp only [cpL]
  | [], _ + 1, h => h
  | x :: l, n + 1, h => by
    simp only [cpL] at h
    simp only [List.take_succ_cons, cpL]
    exact ⟨h.1, cpL_tk l n h.2⟩
theorem szL_tk : ∀ (l : List Tr) (n : Nat), szL (l.take n) ≤ szL l
  | _, 0 => by rw [List.take_zero]; simp only [szL]; omega
  | [], _ + 1 => Nat.le_refl _
  | x :: l, n + 1 => by
    have := szL_tk l n
    simp only [List.take_succ_cons, szL]
    omega
theorem dpL_tk : ∀ (l : List Tr) (n : Nat), dpL (l.take n) ≤ dpL l
  | _, 0 => by rw [List.take_zero]; simp only [dpL]; omega
  | [], _ + 1 => Nat.le_refl _
  | x :: l, n + 1 => by
    have := dpL_tk l n
    simp only [List.take_succ_cons, dpL]
    omega
section
variable {P : Program} {w : World} {K : PySem.W.Frag} {mg : Str → Option Value} {base : Heap} {CE PN PD : Addr}
theorem same_str {Q : VK} {H : Hp} {t : T} (q : ∀ H', Same H H' → Q (.bl true) H') : spSame K 125 [.str (S t), .str (S t)] H Q E0 := ⟨_, _, .str (S t), rfl, .str _, .str _, by simp [PyData.depth], by simp [smD], q⟩
theorem same_int {Q : VK} {H : Hp} {t : Int} (q : ∀ H', Same H H' → Q (.bl true) H') : spSame K 125 [.int t, .int t] H Q E0 := ⟨_, _, .int t, rfl, .int _, .int _, by simp [PyData.depth], by simp [smD], q⟩
def spLaw (K : PySem.W.Frag) (PN PD : Addr) : Sp := fun vs H Q _ => ∃ (a : Addr) (ns : List Int), vs = [.ref a] ∧ SqL K H a (ns.map V.int) ∧ ns.length ≤ 1000 ∧ TT PN PD H ∧ ∀ H', Q (.bl true) H'
theorem ok_law {f : Addr} {fd : FuncData} (F : Dfn K mg "law" st_law f fd ["script"]) (M : Mg2 mg) (G_law_draws : Cal P w K mg base 1 "_law_draws" (spDraws K)) (G_law_take : Cal P w K mg base 1 "_law_take" spTake) (G_law_tree : Cal P w K mg base 9 "_law_tree" (spTree 7)) (G_law_chain : Cal P w K mg base 3 "_law_chain" spChain)
    (G_law_placed : Cal P w K mg base 61 "_law_placed" (spPlc 61)) (G_law_gap : Cal P w K mg base 2 "_law_gap" spGap) (G_law_written : Cal P w K mg base 64 "_law_written" (spWr 61)) (G_law_plain : Cal P w K mg base 61 "_law_plain" (spPlain 61)) (G_law_same : Cal P w K mg base 126 "_law_same" (spSame K 125))
    (Gread : CalX P w K mg base 8 "read" (spRead CE PN PD)) (Goffsets : CalX P w K mg base 8 "offsets" (spOffs CE PN PD)) (Gshow_text : Cal P w K mg base 63 "show_text" (spShText 61)) (Gshow : Cal P w K mg base 62 "show" (spShow 61)) (Gcount_data : Cal P w K mg base 61 "count_data" (spCnt 61)) (Gdeepest : Cal P w K mg base 61 "deepest" (spDeep 61))
    (G_law_count : Cal P w K mg base 61 "_law_count" (spLCnt 61)) (G_law_depth : Cal P w K mg base 61 "_law_depth" (spLDep 61)) : FnOk P w K mg base CX0 127 f fd ["script"] (spLaw K PN PD) := by
  refine F.fn.ok sclaw (fun vs H Q E h => ?_) (fun cdv A outer s H vs Q E hr h => ?_)
  · obtain ⟨a, ns, rfl, _⟩ := h
    rfl
  obtain ⟨a, ns, rfl, hS, hl, hT, q⟩ := h
  have hsl : sizeLine = 16777216 := sizeLine_eq
  refine ⟨_, (pss_cons (ps_set (i := 1) sclaw.nd rfl (.inr rfl) (pe_c G_law_draws hr (by omega) (by rfl) (pa_cons (pv 0) (pa_cons pe_int pa_nil))))
      (pss_cons (ps_setLc (i := 2) (own := [("k", 10)]) (g := gName 10) (by rfl) sclaw.nd rfl rfl (sw_true rfl rfl rfl (by decide +kernel)) (pi_range1 (by rfl) M.range (pa_cons (pe_c G_law_take hr (by omega) (by rfl) (pa_cons (pv 1) (pa_cons pe_int pa_nil))) pa_nil)) (blkOk_by (own := [("k", 10)]) (N := ["script", "draws", "trees", "count", "forms", "pieces", "starts", "tree", "text", "plain", "k"]) (sc := defScope st_law) (by decide +kernel)) (fun _ _ _ _ _ => (pg_name (i := 10) sclaw.nd rfl (.inl rfl))) (fun _ _ _ _ _ => pts_nil) (fun _ _ _ _ _ => (pe_c G_law_tree hr (by omega) (by rfl) (pa_cons (pv 1) (pa_cons pe_int pa_nil)))))
      (pss_cons (ps_if (pt_cmpR op_eq (pe_c G_law_take hr (by omega) (by rfl) (pa_cons (pv 1) (pa_cons pe_int pa_nil))) pe_int (nomark _)) (pss_one (ps_set (i := 2) sclaw.nd rfl (.inl rfl) (pe_op op_cat (pe_slice sl_list (pv 2) po_none (po_some pe_int)) (pe_lst (pa_cons (pe_c G_law_chain hr (by omega) (by rfl) (pa_cons (pv 1) (pa_cons (pe_op op_add pe_int (pe_c G_law_take hr (by omega) (by rfl) (pa_cons (pv 1) (pa_cons pe_int pa_nil)))) pa_nil))) pa_nil))))) pss_nil)
      (pss_cons (ps_set (i := 3) sclaw.nd rfl (.inr rfl) (pe_lst (pa_cons pe_int pa_nil)))
      (pss_cons (ps_set (i := 4) sclaw.nd rfl (.inl rfl) (pe_callTy (cTup K rfl) (by rfl) M.tuple b_tuple (pa_cons (pe_lc (own := [("tree", 7)]) (g := gName 7) (by rfl) sclaw.nd (pi_list (pv 2)) (blkOk_by (own := [("tree", 7)]) (N := ["script", "draws", "trees", "count", "forms", "pieces", "starts", "tree", "text", "plain", "k"]) (sc := defScope st_law) (by decide +kernel)) (fun _ _ _ _ _ => (pg_name (i := 7) sclaw.nd rfl (.inl rfl))) (fun _ _ _ _ _ => pts_nil) (fun _ _ _ _ _ => (pe_c G_law_placed hr (by omega) (by rfl) (pa_cons (pv 7) (pa_cons (pv 3) pa_nil))))) pa_nil)))
      (pss_cons (ps_set (i := 5) sclaw.nd rfl (.inl rfl) (pe_lst (pa_cons (pe_c G_law_gap hr (by omega) (by rfl) (pa_cons (pv 1) (pa_cons pe_bl pa_nil))) pa_nil)))
      (pss_cons (ps_set (i := 6) sclaw.nd rfl (.inl rfl) (pe_lst pa_nil))
      (pss_cons (ps_for PassesOwn.never rfl (pi_list (pv 2)) (pg_name (i := 7) sclaw.nd rfl (.inl rfl))
      (pss_cons (ps_expr (pe_c G_law_written hr (by omega) (by rfl) (pa_cons (pv 1) (pa_cons (pv 7) (pa_cons (pv 5) (pa_cons (pv 6) pa_nil))))))
      (pss_one (ps_expr (pe_bm PySem.F.plainAttrs_list PySem.F.slot_list_append PySem.F.type_list_append mt_append (pv 5) (pa_cons (pe_c G_law_gap hr (by omega) (by rfl) (pa_cons (pv 1) (pa_cons pe_bl pa_nil))) pa_nil))))))
      (pss_cons (ps_set (i := 8) sclaw.nd rfl (.inl rfl) (pe_bm PySem.F.plainAttrs_str PySem.F.slot_str_join PySem.F.type_str_join mt_join pe_str (pa_cons (pv 5) pa_nil)))
      (pss_cons (ps_set (i := 9) sclaw.nd rfl (.inl rfl) (pe_bm PySem.F.plainAttrs_str PySem.F.slot_str_join PySem.F.type_str_join mt_join pe_str (pa_cons (pe_lc (own := [("tree", 7)]) (g := gName 7) (by rfl) sclaw.nd (pi_list (pv 2)) (blkOk_by (own := [("tree", 7)]) (N := ["script", "draws", "trees", "count", "forms", "pieces", "starts", "tree", "text", "plain", "k"]) (sc := defScope st_law) (by decide +kernel)) (fun _ _ _ _ _ => (pg_name (i := 7) sclaw.nd rfl (.inl rfl))) (fun _ _ _ _ _ => pts_nil) (fun _ _ _ _ _ => (pe_op op_add_str (pe_c G_law_plain hr (by omega) (by rfl) (pa_cons (pv 7) pa_nil)) pe_str))) pa_nil)))
      (pss_cons (ps_if (PW.pt (pw_or (pt_cmpR op_gt (pe_callB call_len_str (by rfl) M.len b_len (pa_cons (pv 8) pa_nil)) pe_int (nomark _)) (pw_or1 (pt_cmpR op_gt (pe_callB call_len_str (by rfl) M.len b_len (pa_cons (pv 9) pa_nil)) pe_int (nomark _))))) (pss_one (ps_ret pe_bl)) pss_nil)
      (pss_cons (ps_if (PW.pt (pw_or (pt_not (pt_val (pe_c G_law_same hr (by omega) (by rfl) (pa_cons (pe_cx Gread hr (by omega) (by rfl) passE0 (pa_cons (pv 8) pa_nil)) (pa_cons (pv 4) pa_nil))))) (pw_or (pt_not (pt_val (pe_c G_law_same hr (by omega) (by rfl) (pa_cons (pe_cx Goffsets hr (by omega) (by rfl) passE0 (pa_cons (pv 8) pa_nil)) (pa_cons (pv 6) pa_nil))))) (pw_or1 (pt_not (pt_val (pe_c G_law_same hr (by omega) (by rfl) (pa_cons (pe_cx Gread hr (by omega) (by rfl) passE0 (pa_cons (pv 9) pa_nil)) (pa_cons (pv 4) pa_nil))))))))) (pss_one (ps_ret pe_bl)) pss_nil)
      (pss_cons (ps_if (pt_not (pt_val (pe_c G_law_same hr (by omega) (by rfl) (pa_cons (pe_c Gshow_text hr (by omega) (by rfl) (pa_cons (pv 4) pa_nil)) (pa_cons (pv 9) pa_nil))))) (pss_one (ps_ret pe_bl)) pss_nil)
      (pss_cons (ps_for PassesOwn.never rfl (pi_range1 (by rfl) M.range (pa_cons (pe_callB (cLen K rfl) (by rfl) M.len b_len (pa_cons (pv 2) pa_nil)) pa_nil)) (pg_name (i := 10) sclaw.nd rfl (.inl rfl))
      (pss_cons (ps_if (PW.pt (pw_or (pt_not (pt_val (pe_c G_law_same hr (by omega) (by rfl) (pa_cons (pe_c Gshow hr (by omega) (by rfl) (pa_cons (pe_ix (ixT K rfl) (pv 4) (pv 10) (fun _ _ => rfl)) pa_nil)) (pa_cons (pe_c G_law_plain hr (by omega) (by rfl) (pa_cons (pe_ix (ixL K rfl) (pv 2) (pv 10) (fun _ _ => rfl)) pa_nil)) pa_nil))))) (pw_or1 (pt_not (pt_val (pe_c G_law_same hr (by omega) (by rfl) (pa_cons (pe_c Gcount_data hr (by omega) (by rfl) (pa_cons (pe_ix (ixT K rfl) (pv 4) (pv 10) (fun _ _ => rfl)) pa_nil)) (pa_cons (pe_c G_law_count hr (by omega) (by rfl) (pa_cons (pe_ix (ixL K rfl) (pv 2) (pv 10) (fun _ _ => rfl)) pa_nil)) pa_nil)))))))) (pss_one (ps_ret pe_bl)) pss_nil)
      (pss_one (ps_if (pt_not (pt_val (pe_c G_law_same hr (by omega) (by rfl) (pa_cons (pe_c Gdeepest hr (by omega) (by rfl) (pa_cons (pe_ix (ixT K rfl) (pv 4) (pv 10) (fun _ _ => rfl)) pa_nil)) (pa_cons (pe_c G_law_depth hr (by omega) (by rfl) (pa_cons (pe_ix (ixL K rfl) (pv 2) (pv 10) (fun _ _ => rfl)) pa_nil)) pa_nil))))) (pss_one (ps_ret pe_bl)) pss_nil))))
      (pss_one (ps_ret pe_bl)))))))))))))))), ?_⟩
  refine ⟨_, rfl, a, ns, 700, rfl, hS, hl, by decide, fun td H1 xs s1 ntd htd => ?_⟩
  dsimp only [gName]
  have T1 := hT.same s1
  have tz6 : tz 6 = 1093 := by decide
  -- trees
  refine ⟨_, rfl, td, _, xs, rfl, htd, by decide, fun m H2 ys hm0 hm6 k2 htd2 => ⟨m, rfl, by omega, by omega, fun D nD => ?_⟩⟩
  have T2 := T1.keep k2 htd
  have hDtd := ne_td htd2 nD
  refine lc_range (lo := 0) (n := m.toNat) (fun i H' => TT PN PD H' ∧ (∃ us : List Int, H' td = some (.lst (us.map V.int))) ∧ ∃ (ws : List V) (l : List Tr), H' D = some (.lst ws) ∧ l.length = i ∧ TrAll [D, td] H' ws l ∧ okL l ∧ cpL l ∧ dpL l ≤ 6 ∧ szL l ≤ i * tz 6)
    ⟨T2.new nD, ⟨ys, by rw [upd_ne (Ne.symm hDtd)]; exact htd2⟩, [], [], upd_same, rfl, .nil, True.intro, True.intro, by simp [dpL], by simp [szL]⟩ ?_ ?_
  · rintro i H4 hi ⟨T4, ⟨vs, htd4⟩, ws, l, hD4, hl4, ha, okl, cpl, dpl, szl⟩
    refine ⟨rfl, ?_⟩
    unfold tYes
    refine iteT ⟨_, rfl, td, 6, vs, [D, td], rfl, by decide, htd4, List.mem_cons_of_mem _ List.mem_cons_self, fun b hb => ?_, fun v x H5 ts hx okx cpx dpx szx k5 htd5 => ?_⟩
    · simp only [List.mem_cons, List.not_mem_nil, or_false] at hb
      rcases hb with rfl | rfl
      · rw [hD4]; simp
      · rw [htd4]; simp
    have hD5 := k5 D _ hD4 hDtd
    have kD : Kq [D, td] H5 (L2.upd H5 D (.lst (ws ++ [v]))) := (Kq.put hD5).sub fun b hb => by rw [List.mem_singleton.mp hb]; exact List.mem_cons_self
    have kk : Kq [D, td] H4 H5 := (Kq.keep k5 htd4).sub fun b hb => List.mem_cons_of_mem _ hb
    have hwl := ha.len
    refine ⟨ws, hD5, by show _ < 2 ^ 24; omega, (T4.keep k5 htd4).put (fun ps z => by rw [hD5] at z; cases z), ⟨ts, ?_⟩, ws ++ [v], l ++ [x], upd_same, by rw [List.length_append, hl4]; rfl, ((ha.kq kk).kq kD).app (.cons (hx.kq kD) .nil), okL_app okl (okL_sing okx), cpL_app cpl (cpL_sing cpx), ?_, ?_⟩
    · rw [upd_ne (Ne.symm hDtd)]
      exact htd5
    · rw [dpL_app]
      simp only [dpL]
      omega
    · rw [szL_app, Nat.succ_mul]
      simp only [szL]
      omega
  rintro H4 ⟨T4, ⟨vs4, htd4⟩, ws4, l4, hD4, hl4, ha4, okl4, cpl4, dpl4, szl4⟩
  have hm5 : m.toNat * tz 6 ≤ 5 * 1093 := by rw [tz6]; exact Nat.mul_le_mul_right _ (by omega)
  -- a chain
  dsimp only [gName]
  refine seq_split (t1 := tIfS _ _ _) (fun σ' H' => ∃ (tr : Addr) (vs : List V) (l : List Tr) (us : List Int), σ' = [some (.ref a), some (.ref td), some (.ref tr), none, none, none, none, none, none, none, none] ∧ TT PN PD H' ∧ H' td = some (.lst (us.map V.int)) ∧ tr ≠ td ∧ H' tr = some (.lst vs) ∧ TrAll [td] H' vs l ∧ okL l ∧ cpL l ∧ dpL l ≤ 60 ∧ szL l ≤ 6000) ?_ (fun J => ?_)
  case refine_2 =>
    have ha4' : TrAll [td] H4 ws4 l4 := ha4.more fun b hb => .inl (List.mem_cons_of_mem _ hb)
    refine ⟨_, rfl, td, _, vs4, rfl, htd4, by decide, fun r H5 us h0 h8 k5 htd5 => ⟨rfl, _, rfl, ?_⟩⟩
    have T5 := T4.keep k5 htd4
    have hD5 := k5 D _ hD4 hDtd
    have ha5 := ha4'.kq (Kq.keep k5 htd4)
    by_cases e1 : V.int r = V.int 1
    case neg =>
      rw [decide_eq_false e1]
      refine iteF ?_
      dsimp only [tNext]
      exact J _ _ ⟨D, ws4, l4, us, rfl, T5, htd5, hDtd, hD5, ha5, okl4, cpl4, by omega, by omega⟩
    rw [decide_eq_true e1]
    refine iteT ⟨_, rfl, _, rfl, D, ws4, rfl, SqL.of hD5, fun L nL => ?_⟩
    have hLtd := ne_td htd5 nL
    obtain ⟨c4, hc4⟩ : ∃ c4 : List V, c4 = cutV ws4 none (some 2) := ⟨_, rfl⟩
    rw [← hc4]
    have ecut : c4 = ws4.take 2 := by
      rw [hc4]
      unfold cutV
      have e1 : HT.sIx ws4.length 0 none = 0 := rfl
      have e2 : HT.sIx ws4.length ws4.length (some 2) = min 2 ws4.length := HT.sIx_nat _ _ 2
      rw [e1, e2]
      show (ws4.take (min 2 ws4.length - 0)) = _
      rw [Nat.sub_zero]
      rcases Nat.le_total 2 ws4.length with h | h
      · rw [Nat.min_eq_left h]
      · rw [Nat.min_eq_right h, List.take_of_length_le (Nat.le_refl _), List.take_of_length_le h]
    have ca : TrAll [td] H5 c4 (l4.take 2) := by rw [ecut]; exact ha5.take 2
    have htd6 : L2.upd H5 L (.lst c4) td = some (.lst (us.map V.int)) := by rw [upd_ne (Ne.symm hLtd)]; exact htd5
    have hL6 := upd_same (H := H5) (a := L) (o := .lst c4)
    have T6 := T5.new (o := .lst c4) nL
    have ca6 := ca.kq (.same (same_upd (o := .lst c4) nL))
    generalize L2.upd H5 L (.lst c4) = H6 at htd6 hL6 T6 ca6 ⊢
    refine ⟨_, rfl, _, rfl, td, _, us, rfl, htd6, by decide, fun r2 H7 zs h20 h24 k7 htd7 => ⟨_, _, rfl, rfl, td, (57 + r2).toNat, zs, [td], by rw [Int.toNat_of_nonneg (by omega)]; rfl, by omega, htd7, List.mem_cons_self, fun b hb => by rw [List.mem_singleton.mp hb, htd7]; simp, fun v x H8 ts hx okx cpx dpx szx k8 htd8 => ?_⟩⟩
    have T8 := (T6.keep k7 htd6).keep k8 htd7
    have hL8 := k8 L _ (k7 L _ hL6 hLtd) hLtd
    have ca8 := (ca6.kq (Kq.keep k7 htd6)).kq (Kq.keep k8 htd7)
    refine ⟨by show 1 ≤ sizeLine; decide, fun L2' nL2 => ?_⟩
    have s9 := same_upd (o := .lst [v]) nL2
    have e9 := upd_same (H := H8) (a := L2') (o := .lst [v])
    generalize L2.upd H8 L2' (.lst [v]) = H9 at s9 e9 ⊢
    have hcl := ca8.len
    have hcl2 : (l4.take 2).length ≤ 2 := by rw [List.length_take]; omega
    refine ⟨L, L2', _, _, rfl, rfl, s9 _ _ hL8, e9, by show c4.length + 1 ≤ _; omega, fun tr ntr => ?_⟩
    have s10 := same_upd (o := .lst (c4 ++ [v])) ntr
    have s11 := same_trans s9 s10
    dsimp only [gName]
    have hsz2 : szL (l4.take 2) ≤ szL l4 := szL_tk l4 2
    have hdp2 : dpL (l4.take 2) ≤ dpL l4 := dpL_tk l4 2
    refine J _ _ ⟨tr, _, l4.take 2 ++ [x], ts, rfl, T8.same s11, s11 _ _ htd8, ne_td (s9 _ _ htd8) ntr, upd_same, (ca8.kq (.same s11)).app (.cons (hx.kq (.same s11)) .nil), okL_app (okL_tk l4 2 okl4) (okL_sing okx), cpL_app (cpL_tk l4 2 cpl4) (cpL_sing cpx), ?_, ?_⟩
    · rw [dpL_app]
      simp only [dpL]
      omega
    · rw [szL_app]
      simp only [szL]
      omega
  rintro σ' H5 ⟨tr, vs, l, us, rfl, T5, htd5, htrtd, htr, hall, okl, cpl, dpl, szl⟩
  have hvl := hall.len
  have hlen := szL_len l
  -- count = [0]
  refine ⟨by show 1 ≤ sizeLine; decide, fun c nc => ?_⟩
  have hctd := ne_td htd5 nc
  have hctr : c ≠ tr := fun z => by rw [z, htr] at nc; cases nc
  have s6 := same_upd (o := .lst [V.int 0]) nc
  have hc6 := upd_same (H := H5) (a := c) (o := .lst [V.int 0])
  have hall6 : TrAll [td, c] (L2.upd H5 c (.lst [V.int 0])) vs l := (hall.more (bad' := [td, c]) fun b hb => by
    simp only [List.mem_cons, List.not_mem_nil, or_false] at hb
    rcases hb with rfl | rfl
    · exact .inl List.mem_cons_self
    · exact .inr nc).kq (.same s6)
  have htr6 := s6 _ _ htr
  have htd6 := s6 _ _ htd5
  have T6 := T5.same s6
  generalize L2.upd H5 c (.lst [V.int 0]) = H6 at s6 hc6 hall6 htr6 htd6 T6 ⊢
  dsimp only [gName]
  -- forms
  refine ⟨_, rfl, tr, rfl, ⟨_, SqL.of htr6⟩, fun D2 nD2 => ?_⟩
  have hDc : D2 ≠ c := fun z => by rw [z, hc6] at nD2; cases nD2
  refine lc_list (fun i H' => Kq [c] H6 H' ∧ H' c = some (.lst [.int ((szL (l.take i) : Nat) : Int)]) ∧ ∃ ws, H' D2 = some (.lst ws) ∧ DtAll H' ws (plL (l.take i) 0)) (fun i H' h => h.1.k _ _ (fun z => hctr (List.mem_singleton.mp z).symm) htr6) ⟨.same (same_upd nD2), by rw [upd_ne (Ne.symm hDc)]; simpa [szL] using hc6, [], upd_same, by simp only [List.take_zero, plL]; exact .nil⟩ (fun i v H' hvi ⟨kk, hcc, ws, hD, dw⟩ => ?_) (fun H7 ⟨k7, hc7, ws, hD7, dw⟩ => ?_)
  · obtain ⟨z, hz, hzt⟩ := hall6.get hvi
    have hzm := List.mem_of_getElem? hz
    have hDn : D2 ∉ [c] := fun z => hDc (List.mem_singleton.mp z)
    refine ⟨rfl, ?_⟩
    unfold tYes
    refine iteT ⟨_, rfl, _, rfl, v, c, z, [td, c], szL (l.take i), rfl, hzt.kq (kk.sub fun b hb => by rw [List.mem_singleton.mp hb]; exact List.mem_cons_of_mem _ List.mem_cons_self), List.mem_cons_of_mem _ List.mem_cons_self, hcc, by have := dpL_mem hzm; omega, by have := szL_mem hzm; omega, fun r H4 k4 hc4 d4 => ?_⟩
    have hD4 := k4.k D2 _ hDn hD
    have tk : Tk H4 (L2.upd H4 D2 (.lst (ws ++ [.ref r]))) := Tk.upd fun ys z => by rw [hD4] at z; cases z
    have kk4 := kk.trans k4
    have hwl := dw.len
    rw [plL_len, List.length_take] at hwl
    refine ⟨ws, hD4, by show _ < 2 ^ 24; omega, ⟨fun b o hb e => ?_, kk4.t.trans tk⟩, ?_, ws ++ [.ref r], upd_same, ?_⟩
    · rw [upd_ne (ne_of_none e nD2)]
      exact kk4.k b o hb e
    · rw [upd_ne (Ne.symm hDc), hc4, szL_take hz]
    · rw [List.take_add_one, hz, show (some z).toList = [z] from rfl, plL_app]
      refine ((dw.tk k4.t).tk tk).app ?_
      simp only [plL]
      rw [Nat.zero_add]
      exact .one (d4.tk tk)
  rw [hvl, List.take_length] at hc7 dw
  have T7 := T6.kq k7 fun b hb => ⟨[V.int 0], by rw [List.mem_singleton.mp hb]; exact hc6⟩
  have htd7 := k7.k td _ (fun z => hctd (List.mem_singleton.mp z).symm) htd6
  have htr7 := k7.k tr _ (fun z => hctr (List.mem_singleton.mp z).symm) htr6
  have hall7 := (hall6.kq (k7.sub fun b hb => by rw [List.mem_singleton.mp hb]; exact List.mem_cons_of_mem _ List.mem_cons_self)).more (bad' := [td]) fun b hb => .inl (by rw [List.mem_singleton.mp hb]; exact List.mem_cons_self)
  refine ⟨D2, _, rfl, .inl ⟨SqL.of hD7, fun pf npf => ?_⟩⟩
  dsimp only [gName]
  have s8 := same_upd (o := .tup ws) npf
  have T8 := T7.same s8
  have htd8 := s8 _ _ htd7
  have htr8 := s8 _ _ htr7
  have hall8 := hall7.kq (.same s8)
  have hpf8 : Dt (L2.upd H7 pf (.tup ws)) (.ref pf) (.tuple (plL l 0)) := .tup upd_same (dw.tk (same_tk s8))
  generalize L2.upd H7 pf (.tup ws) = H8 at T8 htd8 htr8 hall8 hpf8 ⊢
  -- pieces, starts
  refine ⟨_, rfl, td, false, us, rfl, htd8, fun g H9 ys9 hg k9 htd9 => ⟨by show 1 ≤ sizeLine; decide, fun pa npa => ?_⟩⟩
  have T9 := T8.keep k9 htd8
  have htr9 := k9 _ _ htr8 htrtd
  have hall9 := hall8.kq (Kq.keep k9 htd8)
  have hpf9 := hpf8.tk (k9.tk htd8)
  have s10 := same_upd (o := .lst [V.str (S g)]) npa
  have hpa10 := upd_same (H := H9) (a := pa) (o := .lst [V.str (S g)])
  have hpatd := ne_td htd9 npa
  have hpatr : pa ≠ tr := fun z => by rw [z, htr9] at npa; cases npa
  have hall10 : TrAll [td, pa] (L2.upd H9 pa (.lst [V.str (S g)])) vs l := (hall9.more (bad' := [td, pa]) fun b hb => by
    simp only [List.mem_cons, List.not_mem_nil, or_false] at hb
    rcases hb with rfl | rfl
    · exact .inl List.mem_cons_self
    · exact .inr npa).kq (.same s10)
  have T10 := T9.same s10
  have htd10 := s10 _ _ htd9
  have htr10 := s10 _ _ htr9
  have hpf10 := hpf9.tk (same_tk s10)
  generalize L2.upd H9 pa (.lst [V.str (S g)]) = H10 at s10 hpa10 hall10 T10 htd10 htr10 hpf10 ⊢
  dsimp only [gName]
  refine ⟨by decide, fun sa nsa => ?_⟩
  have s11 := same_upd (o := .lst []) nsa
  have hsa11 := upd_same (H := H10) (a := sa) (o := .lst [])
  have hsatd := ne_td htd10 nsa
  have hsatr : sa ≠ tr := fun z => by rw [z, htr10] at nsa; cases nsa
  have hsapa : sa ≠ pa := fun z => by rw [z, hpa10] at nsa; cases nsa
  have hall11 : TrAll [td, pa, sa] (L2.upd H10 sa (.lst [])) vs l := (hall10.more (bad' := [td, pa, sa]) fun b hb => by
    simp only [List.mem_cons, List.not_mem_nil, or_false] at hb
    rcases hb with rfl | rfl | rfl
    · exact .inl List.mem_cons_self
    · exact .inl (List.mem_cons_of_mem _ List.mem_cons_self)
    · exact .inr nsa).kq (.same s11)
  have T11 := T10.same s11
  have htd11 := s11 _ _ htd10
  have htr11 := s11 _ _ htr10
  have hpa11 := s11 _ _ hpa10
  have hpf11 := hpf10.tk (same_tk s11)
  generalize L2.upd H10 sa (.lst []) = H11 at s11 hsa11 hall11 T11 htd11 htr11 hpa11 hpf11 ⊢
  dsimp only [gName]
  have W11 : WS td pa sa H11 H11 ([g] ++ []) ([] ++ []) := ⟨hpatd, hsatd, hsapa, .refl _ _, ⟨ys9, htd11⟩, hpa11, hsa11⟩
  have htrn : tr ∉ [td, pa, sa] := fun z => by
    simp only [List.mem_cons, List.not_mem_nil, or_false] at z
    rcases z with z | z | z
    · exact htrtd z
    · exact hpatr z.symm
    · exact hsatr z.symm
  have hbl : ∀ b ∈ [td, pa, sa], ∃ xs, H11 b = some (.lst xs) := fun b hb => by
    simp only [List.mem_cons, List.not_mem_nil, or_false] at hb
    rcases hb with rfl | rfl | rfl
    · exact ⟨_, htd11⟩
    · exact ⟨_, hpa11⟩
    · exact ⟨_, hsa11⟩
  refine ⟨_, rfl, tr, rfl, ⟨_, SqL.of htr11⟩, ?_⟩
  refine for_list (K := K) (fun i σ H' => ∃ (ps2 : List T) (s : List Nat) (y7 : Option V), σ = [some (.ref a), some (.ref td), some (.ref tr), some (.ref c), some (.ref pf), some (.ref pa), some (.ref sa), y7, none, none, none] ∧ WS td pa sa H11 H' ([g] ++ ps2) ([] ++ s) ∧ WroteL False g.length (l.take i) ps2 s) ⟨[], [], none, rfl, W11, .nil⟩ (fun i σ H' _ ⟨ps2, s, y7, _, W, _⟩ => SqL.of (W.kq.k _ _ htrn htr11)) ?_ ?_
  · rintro i v σ H12 hvi ⟨ps2, s2, y7, rfl, W12, wl⟩
    obtain ⟨z, hz, hzt⟩ := hall11.get hvi
    have hzm := List.mem_of_getElem? hz
    have hst := szL_take hz
    have hle : szL (l.take i) + szT z ≤ szL l := by
      have := szL_tk l (i + 1)
      omega
    have hcnt := wl.cnt
    have hslw := wl.sl
    have W120 : WS td pa sa H12 H12 ([g] ++ ps2) ([] ++ s2) := ⟨W12.n1, W12.n2, W12.n3, .refl _ _, W12.td, W12.pa, W12.sa⟩
    have hflat : ([g] ++ ps2).flatten.length = g.length + ps2.flatten.length := by simp
    dsimp only [gName]
    refine ⟨_, rfl, _, rfl, _, rfl, _, rfl, td, pa, sa, v, z, [td, pa, sa], _, _, rfl, W120, hzt.kq W12.kq, ⟨List.mem_cons_self, List.mem_cons_of_mem _ List.mem_cons_self, List.mem_cons_of_mem _ (List.mem_cons_of_mem _ List.mem_cons_self)⟩, okL_mem okl hzm, cpL_mem cpl hzm, by have := dpL_mem hzm; omega, ?_, ?_, fun p hp => ?_, fun qs s3 H13 wr W13 => ?_⟩
    · simp only [List.length_append, List.length_cons, List.length_nil]
      omega
    · simp only [List.nil_append]
      omega
    · rcases List.mem_append.mp hp with hp | hp
      · rw [List.mem_singleton.mp hp]
        have := hg.ln
        omega
      · exact wl.len p hp
    rw [hflat] at wr
    have W13' := W12.go W13
    obtain ⟨xs13, htd13⟩ := W13'.td
    have hcq := wr.cnt
    refine ⟨_, rfl, .inl ⟨rfl, _, SqL.of W13'.pa⟩, _, rfl, td, true, xs13, rfl, htd13, fun g2 H14 ys14 hg2 k14 htd14 => ?_⟩
    have W14 := W13'.keep k14 htd14
    have hll : (((([g] ++ ps2) ++ qs).map S).map V.str).length < sizeLine := by
      simp only [List.length_map, List.length_append, List.length_cons, List.length_nil]
      omega
    refine ⟨pa, _, _, rfl, rfl, W14.pa, hll, ?_⟩
    have W15 := W14.putP g2
    refine ⟨ps2 ++ qs ++ [g2], s2 ++ s3, _, rfl, ?_, ?_⟩
    · have e1 : [g] ++ (ps2 ++ qs ++ [g2]) = ([g] ++ ps2) ++ qs ++ [g2] := by simp
      have e2 : ([] : List Nat) ++ (s2 ++ s3) = ([] ++ s2) ++ s3 := by simp
      rw [e1, e2]
      exact W15
    · rw [List.take_add_one, hz]
      exact wl.snoc (fun z => z) wr hg2 fun z => by cases z
  rintro σ H12 ⟨ps2, s2, y7, rfl, W12, wl⟩
  rw [hvl, List.take_length] at wl
  have T12 := T11.kq W12.kq hbl
  have hpa12 := W12.pa
  have Bs12 : Bs PN PD tr pf sa [td, pa, sa] vs l s2 H12 := ⟨W12.kq.k _ _ htrn htr11, hall11.kq W12.kq, hpf11.tk W12.kq.t, W12.sa, T12⟩
  have hcnt := wl.cnt
  have hslw := wl.sl
  obtain ⟨t, ht⟩ : ∃ t : T, t = g ++ ps2.flatten := ⟨_, rfl⟩
  have et : ([g] ++ ps2).flatten = t := by rw [ht]; simp
  have okt : ∀ c ∈ t, c < 1114112 := fun c hc => by
    rw [ht] at hc
    rcases List.mem_append.mp hc with hc | hc
    · exact hg.sg c hc
    · obtain ⟨p, hp, hc⟩ := List.mem_flatten.mp hc
      exact wl.sg p hp c hc
  have hread : t.length ≤ 6000 → readM t = .ok (plL l 0, s2) := fun h6 => by
    have a1 : At t 0 (g ++ ps2.flatten) := by rw [← ht]; exact at_self t
    obtain ⟨a2, a3⟩ := At.app.mp a1
    have g1 := hg.gp t 0 a2
    rw [Nat.zero_add] at g1 a3
    have w1 := wl.wr t a3 (fun z => z.elim) [] _ [] .nil
    rw [List.append_nil, List.append_nil] at w1
    exact read_written h6 g1 w1 (by rw [ht, List.length_append]; omega) dpl
  have hp102 : ∀ p ∈ [g] ++ ps2, p.length ≤ 102 := fun p hp => by
    rcases List.mem_append.mp hp with hp | hp
    · rw [List.mem_singleton.mp hp]
      have := hg.ln
      omega
    · exact wl.len p hp
  have hsum := sum_pieces hp102
  have l0 : ("" : Str).length = 0 := by decide +kernel
  have hlp : ([g] ++ ps2).length = ps2.length + 1 := by simp
  rw [hlp] at hsum
  have htl : t.length ≤ 102 * (ps2.length + 1) := by
    have e : ∀ ps : List T, ((ps.map S).map (·.length)).sum = ps.flatten.length := by
      intro ps
      induction ps with
      | nil => rfl
      | cons p ps ih => rw [List.map_cons, List.map_cons, List.sum_cons, ih, len_S, List.flatten_cons, List.length_append]
    rw [e, et] at hsum
    exact hsum
  -- text
  refine ⟨rfl, _, rfl, "", pa, ([g] ++ ps2).map S, rfl, rfl, .inl (SqL.of hpa12), by rw [l0]; omega, ?_⟩
  rw [joinS, et]
  dsimp only [gName]
  -- plain
  refine ⟨rfl, _, rfl, tr, rfl, ⟨_, SqL.of Bs12.tr⟩, fun D3 nD3 => ?_⟩
  refine lc_list (fun i H' => Same H12 H' ∧ H' D3 = some (.lst ((((lnT l).take i).map S).map V.str))) (fun i H' h => h.1 _ _ Bs12.tr) ⟨same_upd nD3, upd_same⟩ (fun i v H' hvi ⟨ss, hD⟩ => ?_) (fun H13 ⟨s13, hD13⟩ => ?_)
  · obtain ⟨z, hz, hzt⟩ := Bs12.all.get hvi
    have hzm := List.mem_of_getElem? hz
    have hzl := sh_len z (okL_mem okl hzm)
    have hzs := szL_mem hzm
    have l1 : ("\n" : Str).length = 1 := by decide +kernel
    refine ⟨rfl, ?_⟩
    unfold tYes
    refine iteT ⟨_, rfl, v, z, [td, pa, sa], rfl, hzt.kq (.same ss), okL_mem okl hzm, by have := dpL_mem hzm; omega, by omega, fun H4 s4 => ?_⟩
    refine ⟨_, _, rfl, rfl, by rw [l1, len_S]; omega, _, s4 _ _ hD, ?_, fun c o e => ?_, ?_⟩
    · have : (lnT l).length = l.length := List.length_map ..
      rw [List.length_map, List.length_map, List.length_take]
      show _ < 2 ^ 24
      omega
    · rw [upd_ne (ne_of_none e nD3)]
      exact s4 _ _ (ss _ _ e)
    · have hln : (lnT l)[i]? = some (shT z ++ [10]) := by
        unfold lnT
        rw [List.getElem?_map, hz]
        rfl
      rw [upd_same, List.take_add_one, hln, List.map_append, List.map_append, q_nl, S_app2]
      rfl
  have hlnl : vs.length = (lnT l).length := by rw [hvl]; exact (List.length_map ..).symm
  rw [hlnl, List.take_length] at hD13
  have hsl2 := sum_lines okl
  refine ⟨_, D3, (lnT l).map S, rfl, rfl, .inl (SqL.of hD13), by rw [l0]; omega, ?_⟩
  rw [joinS]
  dsimp only [gName]
  have Bs13 := Bs12.same s13
  have hpl : (lnT l).flatten.length ≤ 105 * szL l := by
    have e : ∀ ps : List T, ((ps.map S).map (·.length)).sum = ps.flatten.length := by
      intro ps
      induction ps with
      | nil => rfl
      | cons p ps ih => rw [List.map_cons, List.map_cons, List.sum_cons, ih, len_S, List.flatten_cons, List.length_append]
    rw [e] at hsl2
    exact hsl2
  have hreadP := read_plain okl dpl
  have okp := cp_lines okl cpl
  obtain ⟨pt, hpt⟩ : ∃ pt : T, pt = (lnT l).flatten := ⟨_, rfl⟩
  rw [← hpt] at hreadP okp hpl ⊢
  -- too long?
  refine ⟨_, rfl, S t, rfl, by rw [len_S]; omega, _, _, rfl, rfl, _, rfl, ?_⟩
  rw [len_S]
  by_cases g1 : (6000 : Int) < ((t.length : Nat) : Int)
  · rw [decide_eq_true g1]
    exact iteT (iteT (q _))
  rw [decide_eq_false g1]
  refine iteF ⟨_, rfl, S pt, rfl, by rw [len_S]; omega, _, _, rfl, rfl, _, rfl, ?_⟩
  rw [len_S]
  by_cases g2 : (6000 : Int) < ((pt.length : Nat) : Int)
  · rw [decide_eq_true g2]
    exact iteT (q _)
  rw [decide_eq_false g2]
  refine iteF ?_
  dsimp only [tNext]
  have hr1 := hread (by omega)
  obtain ⟨sp, hr2⟩ := hreadP (by omega)
  obtain ⟨gd1, gd2⟩ := good_ok hr1
  have okT1 : Ok t := ⟨by omega, okt⟩
  have okT2 : Ok pt := ⟨by omega, okp⟩
  have dpf : (PyData.tuple (plL l 0)).depth < 125 := by
    simp only [goodD, PyData.depth, PyData.depthAll] at gd1 ⊢
    omega
  have smf : smD (.tuple (plL l 0)) = true := by
    simp only [goodD, smD, smAll, Bool.and_eq_true, decide_eq_true_eq] at gd2 ⊢
    exact gd2.2.2.1
  have dps : (PyData.list (s2.map fun n => .int (n : Nat))).depth < 125 := by
    simp only [goodD, PyData.depth, PyData.depthAll] at gd1 ⊢
    omega
  have sms : smD (.list (s2.map fun n => .int (n : Nat))) = true := by
    simp only [goodD, smD, smAll, Bool.and_eq_true, decide_eq_true_eq] at gd2 ⊢
    exact gd2.2.2.2.1
  have noE1 : ∀ b, readM t = .error b → ∀ d H', KT H13 H' → TT PN PD H' → H' d = some (atX b) → E0 (.ref CE) (some d) H' := fun b e => by rw [hr1] at e; cases e
  refine ⟨_, rfl, t, rfl, okT1, Bs13.tt, fun fm ss hrd r H14 k14 T14 d14 => ?_, noE1⟩
  rw [hr1] at hrd
  obtain ⟨rfl, rfl⟩ := Prod.mk.inj (Except.ok.inj hrd)
  have Bs14 := Bs13.kt k14 T14
  refine ⟨_, rfl, .ref r, .ref pf, _, rfl, d14.dp, Bs14.pf.dp, dpf, smf, fun H15 s15 => ⟨_, rfl, iteF ?_⟩⟩
  have Bs15 := Bs14.same s15
  refine ⟨_, rfl, t, rfl, okT1, Bs15.tt, fun fm ss hrd r2 H16 k16 T16 nr2 d16 => ?_, fun b e => by rw [hr1] at e; cases e⟩
  rw [hr1] at hrd
  obtain ⟨rfl, rfl⟩ := Prod.mk.inj (Except.ok.inj hrd)
  have Bs16 := Bs15.kt k16 T16
  refine ⟨_, rfl, .ref r2, .ref sa, .list (s2.map fun n => .int (n : Nat)), rfl, .lst (SqL.of d16) (dp_ints s2), .lst (SqL.of Bs16.sa) (dp_ints s2), dps, sms, fun H17 s17 => ⟨_, rfl, iteF ?_⟩⟩
  have Bs17 := Bs16.same s17
  refine ⟨_, rfl, pt, rfl, okT2, Bs17.tt, fun fm ss hrd r3 H18 k18 T18 d18 => ?_, fun b e => by rw [hr2] at e; cases e⟩
  rw [hr2] at hrd
  obtain ⟨rfl, rfl⟩ := Prod.mk.inj (Except.ok.inj hrd)
  have Bs18 := Bs17.kt k18 T18
  refine ⟨_, rfl, .ref r3, .ref pf, _, rfl, d18.dp, Bs18.pf.dp, dpf, smf, fun H19 s19 => ⟨_, rfl, iteF ?_⟩⟩
  have Bs19 := Bs18.same s19
  dsimp only [tNext]
  -- show_text
  refine ⟨_, rfl, .ref pf, l, 0, rfl, Bs19.pf, okl, by omega, by omega, fun H20 s20 => ?_⟩
  have Bs20 := Bs19.same s20
  rw [← hpt]
  refine ⟨_, rfl, _, _, .str (S pt), rfl, .str _, .str _, by simp [PyData.depth], by simp [smD], fun H21 s21 => ⟨_, rfl, iteF ?_⟩⟩
  have Bs21 := Bs20.same s21
  dsimp only [tNext]
  -- each
  refine ⟨_, rfl, tr, vs, rfl, .inl (SqL.of Bs21.tr), vs.length, rfl, by omega, by omega, for_range (lo := 0) (n := vs.length) (fun i σ H' => ∃ (y7 y10 : Option V), σ = [some (.ref a), some (.ref td), some (.ref tr), some (.ref c), some (.ref pf), some (.ref pa), some (.ref sa), y7, some (.str (S t)), some (.str (S pt)), y10] ∧ Bs PN PD tr pf sa [td, pa, sa] vs l s2 H') ⟨_, _, rfl, Bs21⟩ ?_ ?_⟩
  · rintro i σ H22 hi ⟨y7, y10, rfl, B22⟩
    have e0 : (0 : Int) + (i : Int) = (i : Int) := Int.zero_add _
    rw [e0]
    have hvi := List.getElem?_eq_getElem hi
    have key : ∀ {H'}, Bs PN PD tr pf sa [td, pa, sa] vs l s2 H' → ∃ (x : Tr) (m : Nat) (pfv : V) (fx : List V), l[i]? = some x ∧ TrAt [td, pa, sa] H' vs[i] x ∧ H' pf = some (.tup fx) ∧ fx[i]? = some pfv ∧ Dt H' pfv (plT x m) := fun B => by
      obtain ⟨x, hx, hxt⟩ := B.all.get hvi
      obtain ⟨p', fx, e, hp, hd⟩ := B.pf.tupE
      cases e
      have hfl := hd.len
      rw [plL_len] at hfl
      have hif : i < fx.length := by omega
      obtain ⟨d, hd1, hd2⟩ := hd.get (List.getElem?_eq_getElem hif)
      obtain ⟨x2, m, hx2, rfl⟩ := plL_get hd1
      rw [hx] at hx2
      cases hx2
      exact ⟨x, m, _, fx, hx, hxt, hp, List.getElem?_eq_getElem hif, hd2⟩
    obtain ⟨x, m, fv, fx, hx, hxt, hfp, hfi, hfd⟩ := key B22
    have hxm := List.mem_of_getElem? hx
    have hxd := dpL_mem hxm
    have hxs := szL_mem hxm
    have okx := okL_mem okl hxm
    dsimp only [gName]
    refine ⟨_, rfl, _, rfl, ixt hfp (atI_nat hfi) ⟨fv, x, m, rfl, hfd, okx, by omega, by omega, fun H23 s23 => ?_⟩⟩
    have B23 := B22.same s23
    refine ⟨_, rfl, _, rfl, ixl B23.tr (atI_nat hvi) ⟨_, x, [td, pa, sa], rfl, hxt.kq (.same s23), okx, by omega, by omega, fun H24 s24 => ?_⟩⟩
    refine ⟨_, _, .str (S (shT x)), rfl, .str _, .str _, by simp [PyData.depth], by simp [smD], fun H25 s25 => ⟨_, rfl, iteF ?_⟩⟩
    have s225 := same_trans s23 (same_trans s24 s25)
    have B25 := B22.same s225
    refine ⟨_, rfl, _, rfl, ixt (s225 _ _ hfp) (atI_nat hfi) ⟨fv, x, m, rfl, hfd.tk (same_tk s225), by omega, by omega, ?_⟩⟩
    refine ⟨_, rfl, _, rfl, ixl B25.tr (atI_nat hvi) ⟨_, x, [td, pa, sa], rfl, hxt.kq (.same s225), by omega, by omega, fun H26 s26 => ?_⟩⟩
    refine ⟨_, _, .int _, rfl, .int _, .int _, by simp [PyData.depth], by simp [smD], fun H27 s27 => ⟨_, rfl, iteF ?_⟩⟩
    have s227 := same_trans s225 (same_trans s26 s27)
    have B27 := B22.same s227
    dsimp only [tNext]
    refine ⟨_, rfl, _, rfl, ixt (s227 _ _ hfp) (atI_nat hfi) ⟨fv, x, m, rfl, hfd.tk (same_tk s227), by omega, ?_⟩⟩
    refine ⟨_, rfl, _, rfl, ixl B27.tr (atI_nat hvi) ⟨_, x, [td, pa, sa], rfl, hxt.kq (.same s227), by omega, by omega, fun H28 s28 => ?_⟩⟩
    refine ⟨_, _, .int _, rfl, .int _, .int _, by simp [PyData.depth], by simp [smD], fun H29 s29 => ⟨_, rfl, iteF ?_⟩⟩
    dsimp only [tNext]
    exact ⟨_, _, rfl, B22.same (same_trans s227 (same_trans s28 s29))⟩
  · rintro σ H22 _
    exact q H22
end
end W4
set_option Elab.async false
set_option linter.all false
set_option maxRecDepth 100000
set_option maxHeartbeats 4000000
namespace W4
open PySem PySem.Spec PyProof.Rows L2 Com SX GxR
theorem walk_ofTab2 {l : PySem.W.OpenLaw} {n k : Nat} {q : Program} {loose : List Str} {XP : (Str → Option Value) → Heap → Prop} {YP : World → Heap → Prop} {d d1 d2 : DefRec} {K : Params → PySem.W.Frag} {CX : World → CXT} {x x1 x2 : Str}
    (hn : l.most = some n) (hn2 : n ≤ sizeLine) (hdf : d.params.defaults = []) (hr : Room k callerA) (h1 : (recsOf q).find? (fun e => e.name == x1) = some d1) (h2 : (recsOf q).find? (fun e => e.name == x2) = some d2) (hY : ∀ (w : World) (h : Heap), YP w h → (K w.params).In h)
    (F : ∀ (w : World) (mg : Str → Option Value) (fa : Addr) (h : Heap), YP w h → (K w.params).In h → h.Ns mainGlobals mg → mg d.name = some (.ref fa) →
      (∀ c P : Addr, PySem.W.tabIn (K w.params) x1 = some (c, P) → PySem.W.CodeHd h c P ∧ h.get? P = some (PySem.W.tabObj #[])) → (∀ c P : Addr, PySem.W.tabIn (K w.params) x2 = some (c, P) → PySem.W.CodeHd h c P ∧ h.get? P = some (PySem.W.tabObj #[])) → LamX.LawAtS l w (K w.params) (CX w) k n x mg fa h)
    (hCX : ∀ (w : World) (H : Hp) (s : Shared) (e : Value) (s' : Shared), CX w [] H s (fun _ _ _ => False) e s' → False) :
    PySem.W.WalkO q loose XP YP l.row.toRowW d [] (fun f vs => PySem.call f vs) := by
  refine Att.attach_callB hn hdf fun w s₀ s₁ mg mb fa o pm cd doc a vs ns G Y ho hd hcd hmg hobj hints hlen hbits hg => ?_
  have KX := hY w _ Y
  obtain ⟨fd, cs, sp, hT, nT, C, hb, hsp, hF⟩ := F w mg fa _ Y KX G.T.g hmg (fun c P ht => PySem.W.tab_of G.T KX h1 ht) (fun c P ht => PySem.W.tab_of G.T KX h2 ht)
  exact LamX.law_callTs KX G.T.g G.T.b G.T.builtins G.T.nolimit hg hT nT C G.T.bmain hobj hints (Nat.le_trans hlen hn2) hr hF hb (fun H hH hS => hsp H a ns hlen hbits hH hS) fun H e s' => hCX w H s₁ e s'
theorem exm_self {K : PySem.W.Frag} {S : Addr} (h1 : PySem.W.subIn K (.ref S) (.type "BaseException") = some true) (h2 : PySem.W.isClsIn K S = true) (h3 : PySem.W.typeIn K (.ref S) = some (.type "type")) (h4 : PySem.W.subIn K (.ref S) (.ref S) = some true) :
    PySem.W.exmOne K (.ref S) (.ref S) = some true := by
  have e1 : (PySem.W.subIn K (.ref S) (.type "BaseException") == some true) = true := by rw [h1] <;> rfl
  have e2 : ((PySem.W.clsIn K S).isSome && PySem.W.typeIn K (.ref S) == some (.type "type")) = true := by
    have h2' : (PySem.W.clsIn K S).isSome = true := h2
    rw [h2', h3] <;> rfl
  show (if (PySem.W.subIn K (.ref S) (.type "BaseException") == some true) = true then (if ((PySem.W.clsIn K S).isSome && PySem.W.typeIn K (.ref S) == some (.type "type")) = true then PySem.W.subIn K (.ref S) (.ref S) else none) else none) = some true
  rw [if_pos e1, if_pos e2]
  exact h4
theorem q_shap : ("#'" : Str) = S [35, 39] := by decide +kernel
theorem tab0 {H : Hp} {P : Addr} (h : H P = some (.tbl #[])) : TabG H P := ⟨#[], h, True.intro⟩
theorem all_mk {l : PySem.W.OpenLaw} {w : World} {K : PySem.W.Frag} {h : Heap} {mg : Str → Option Value} {fa cN PN cD PD C CE CW pS fI : Addr} {f1 f2 f3 f4 f5 f6 f7 f8 f9 f10 f11 f12 f13 f14 f15 f16 f17 f18 f19 f20 f21 f22 f23 f24 f25 f26 f27 f28 f29 f30 m1 m2 m3 m4 m5 m6 m7 : Addr}
    {odI anI od1 an1 od2 an2 od3 an3 od4 an4 od5 an5 od6 an6 od7 an7 od8 an8 od9 an9 od10 an10 od11 an11 od12 an12 od13 an13 od14 an14 od15 an15 od16 an16 od17 an17 od18 an18 od19 an19 od20 an20 od21 an21 od22 an22 od23 an23 od24 an24 od25 an25 od26 an26 od27 an27 od28 an28 od29 an29 od30 an30 odm1 anm1 odm2 anm2 odm3 anm3 odm4 anm4 odm5 anm5 odm6 anm6 odm7 anm7 : Option Addr} {slI sl1 sl2 sl3 sl4 sl5 sl6 sl7 sl8 sl9 sl10 sl11 sl12 sl13 sl14 sl15 sl16 sl17 sl18 sl19 sl20 sl21 sl22 sl23 sl24 sl25 sl26 sl27 sl28 sl29 sl30 slm1 slm2 slm3 slm4 slm5 slm6 slm7 : Array (Option Value)} {tk1 tk2 tk3 tk4 tk5 tk6 tk7 tk8 tq ts : PySem.Tok}
    {cdI ocI kVI dcI pmI ctI oc1 kV1 dc1 pm1 ct1 cd2 oc2 kV2 dc2 pm2 ct2 oc3 kV3 dc3 pm3 ct3 cd4 oc4 kV4 dc4 pm4 ct4 cd5 oc5 kV5 dc5 pm5 ct5 cd6 oc6 kV6 dc6 pm6 ct6 cd7 oc7 kV7 dc7 pm7 ct7 cd8 oc8 kV8 dc8 pm8 ct8 cd9 oc9 kV9 dc9 pm9 ct9 cd10 oc10 kV10 dc10 pm10 ct10 cd11 oc11 kV11 dc11 pm11 ct11 cd12 oc12 kV12 dc12 pm12 ct12 cd13 oc13 kV13 dc13 pm13 ct13 cd14 oc14 kV14 dc14 pm14 ct14 cd15 oc15 kV15 dc15 pm15 ct15 cd16 oc16 kV16 dc16 pm16 ct16 cd17 oc17 kV17 dc17 pm17 ct17 cd18 oc18 kV18 dc18 pm18 ct18 cd19 oc19 kV19 dc19 pm19 ct19 cd20 oc20 kV20 dc20 pm20 ct20 cd21 oc21 kV21 dc21 pm21 ct21 cd22 oc22 kV22 dc22 pm22 ct22 cd23 oc23 kV23 dc23 pm23 ct23 cd24 oc24 kV24 dc24 pm24 ct24 cd25 oc25 kV25 dc25 pm25 ct25 cd26 oc26 kV26 dc26 pm26 ct26 cd27 oc27 kV27 dc27 pm27 ct27 cd28 oc28 kV28 dc28 pm28 ct28 cd29 oc29 kV29 dc29 pm29 ct29 cd30 oc30 kV30 dc30 pm30 ct30 cdm1 ocm1 kVm1 dcm1 pmm1 ctm1 cdm2 ocm2 kVm2 dcm2 pmm2 ctm2 cdm3 ocm3 kVm3 dcm3 pmm3 ctm3 cdm4 ocm4 kVm4 dcm4 pmm4 ctm4 cdm5 ocm5 kVm5 dcm5 pmm5 ctm5 cdm6 ocm6 kVm6 dcm6 pmm6 ctm6 cdm7 ocm7 kVm7 dcm7 pmm7 ctm7 : Value} (X : K.In h) (G : h.Ns mainGlobals mg) (hfa : mg "law" = some (.ref fa))
    (TN : ∀ c P : Addr, PySem.W.tabIn K "is_name" = some (c, P) → PySem.W.CodeHd h c P ∧ h.get? P = some (PySem.W.tabObj #[])) (TD : ∀ c P : Addr, PySem.W.tabIn K "_is_number" = some (c, P) → PySem.W.CodeHd h c P ∧ h.get? P = some (PySem.W.tabObj #[]))
    (a1 : PySem.W.nsIn K mainGlobals "is_name" = some (some (.ref f1))) (l1 : K.lookup f1 = some ⟨oc1, od1, .func (PySem.W.fnOf "is_name" "is_name" (defArgs st_is_name) (defBody st_is_name) (defScope st_is_name) .none kV1 dc1 pm1 an1 (.ref cN) ct1), sl1⟩) (c1 : PySem.W.codeIn K (.ref cN) "is_name" = true) (k1 : PySem.W.keepIn K (.ref f1) = true)
    (a2 : PySem.W.nsIn K mainGlobals "_begins_as_number" = some (some (.ref f2))) (l2 : K.lookup f2 = some ⟨oc2, od2, .func (PySem.W.fnOf "_begins_as_number" "_begins_as_number" (defArgs st__begins_as_number) (defBody st__begins_as_number) (defScope st__begins_as_number) .none kV2 dc2 pm2 an2 cd2 ct2), sl2⟩) (c2 : PySem.W.codeIn K cd2 "_begins_as_number" = true) (k2 : PySem.W.keepIn K (.ref f2) = true)
    (a3 : PySem.W.nsIn K mainGlobals "_is_number" = some (some (.ref f3))) (l3 : K.lookup f3 = some ⟨oc3, od3, .func (PySem.W.fnOf "_is_number" "_is_number" (defArgs st__is_number) (defBody st__is_number) (defScope st__is_number) .none kV3 dc3 pm3 an3 (.ref cD) ct3), sl3⟩) (c3 : PySem.W.codeIn K (.ref cD) "_is_number" = true) (k3 : PySem.W.keepIn K (.ref f3) = true)
    (a4 : PySem.W.nsIn K mainGlobals "_sort_of_word" = some (some (.ref f4))) (l4 : K.lookup f4 = some ⟨oc4, od4, .func (PySem.W.fnOf "_sort_of_word" "_sort_of_word" (defArgs st__sort_of_word) (defBody st__sort_of_word) (defScope st__sort_of_word) .none kV4 dc4 pm4 an4 cd4 ct4), sl4⟩) (c4 : PySem.W.codeIn K cd4 "_sort_of_word" = true) (k4 : PySem.W.keepIn K (.ref f4) = true)
    (a5 : PySem.W.nsIn K mainGlobals "_line_end" = some (some (.ref f5))) (l5 : K.lookup f5 = some ⟨oc5, od5, .func (PySem.W.fnOf "_line_end" "_line_end" (defArgs st__line_end) (defBody st__line_end) (defScope st__line_end) .none kV5 dc5 pm5 an5 cd5 ct5), sl5⟩) (c5 : PySem.W.codeIn K cd5 "_line_end" = true) (k5 : PySem.W.keepIn K (.ref f5) = true)
    (a6 : PySem.W.nsIn K mainGlobals "_string_at" = some (some (.ref f6))) (l6 : K.lookup f6 = some ⟨oc6, od6, .func (PySem.W.fnOf "_string_at" "_string_at" (defArgs st__string_at) (defBody st__string_at) (defScope st__string_at) .none kV6 dc6 pm6 an6 cd6 ct6), sl6⟩) (c6 : PySem.W.codeIn K cd6 "_string_at" = true) (k6 : PySem.W.keepIn K (.ref f6) = true)
    (a7 : PySem.W.nsIn K mainGlobals "_word_at" = some (some (.ref f7))) (l7 : K.lookup f7 = some ⟨oc7, od7, .func (PySem.W.fnOf "_word_at" "_word_at" (defArgs st__word_at) (defBody st__word_at) (defScope st__word_at) .none kV7 dc7 pm7 an7 cd7 ct7), sl7⟩) (c7 : PySem.W.codeIn K cd7 "_word_at" = true) (k7 : PySem.W.keepIn K (.ref f7) = true)
    (a8 : PySem.W.nsIn K mainGlobals "_token_at" = some (some (.ref f8))) (l8 : K.lookup f8 = some ⟨oc8, od8, .func (PySem.W.fnOf "_token_at" "_token_at" (defArgs st__token_at) (defBody st__token_at) (defScope st__token_at) .none kV8 dc8 pm8 an8 cd8 ct8), sl8⟩) (c8 : PySem.W.codeIn K cd8 "_token_at" = true) (k8 : PySem.W.keepIn K (.ref f8) = true)
    (a9 : PySem.W.nsIn K mainGlobals "tokens" = some (some (.ref f9))) (l9 : K.lookup f9 = some ⟨oc9, od9, .func (PySem.W.fnOf "tokens" "tokens" (defArgs st_tokens) (defBody st_tokens) (defScope st_tokens) .none kV9 dc9 pm9 an9 cd9 ct9), sl9⟩) (c9 : PySem.W.codeIn K cd9 "tokens" = true) (k9 : PySem.W.keepIn K (.ref f9) = true)
    (a10 : PySem.W.nsIn K mainGlobals "_atom" = some (some (.ref f10))) (l10 : K.lookup f10 = some ⟨oc10, od10, .func (PySem.W.fnOf "_atom" "_atom" (defArgs st__atom) (defBody st__atom) (defScope st__atom) .none kV10 dc10 pm10 an10 cd10 ct10), sl10⟩) (c10 : PySem.W.codeIn K cd10 "_atom" = true) (k10 : PySem.W.keepIn K (.ref f10) = true)
    (a11 : PySem.W.nsIn K mainGlobals "read" = some (some (.ref f11))) (l11 : K.lookup f11 = some ⟨oc11, od11, .func (PySem.W.fnOf "read" "read" (defArgs st_read) (defBody st_read) (defScope st_read) .none kV11 dc11 pm11 an11 cd11 ct11), sl11⟩) (c11 : PySem.W.codeIn K cd11 "read" = true) (k11 : PySem.W.keepIn K (.ref f11) = true)
    (a12 : PySem.W.nsIn K mainGlobals "offsets" = some (some (.ref f12))) (l12 : K.lookup f12 = some ⟨oc12, od12, .func (PySem.W.fnOf "offsets" "offsets" (defArgs st_offsets) (defBody st_offsets) (defScope st_offsets) .none kV12 dc12 pm12 an12 cd12 ct12), sl12⟩) (c12 : PySem.W.codeIn K cd12 "offsets" = true) (k12 : PySem.W.keepIn K (.ref f12) = true)
    (a13 : PySem.W.nsIn K mainGlobals "_law_draws" = some (some (.ref f13))) (l13 : K.lookup f13 = some ⟨oc13, od13, .func (PySem.W.fnOf "_law_draws" "_law_draws" (defArgs st__law_draws) (defBody st__law_draws) (defScope st__law_draws) .none kV13 dc13 pm13 an13 cd13 ct13), sl13⟩) (c13 : PySem.W.codeIn K cd13 "_law_draws" = true) (k13 : PySem.W.keepIn K (.ref f13) = true)
    (a14 : PySem.W.nsIn K mainGlobals "_law_take" = some (some (.ref f14))) (l14 : K.lookup f14 = some ⟨oc14, od14, .func (PySem.W.fnOf "_law_take" "_law_take" (defArgs st__law_take) (defBody st__law_take) (defScope st__law_take) .none kV14 dc14 pm14 an14 cd14 ct14), sl14⟩) (c14 : PySem.W.codeIn K cd14 "_law_take" = true) (k14 : PySem.W.keepIn K (.ref f14) = true)
    (a15 : PySem.W.nsIn K mainGlobals "_law_same" = some (some (.ref f15))) (l15 : K.lookup f15 = some ⟨oc15, od15, .func (PySem.W.fnOf "_law_same" "_law_same" (defArgs st__law_same) (defBody st__law_same) (defScope st__law_same) .none kV15 dc15 pm15 an15 cd15 ct15), sl15⟩) (c15 : PySem.W.codeIn K cd15 "_law_same" = true) (k15 : PySem.W.keepIn K (.ref f15) = true)
    (a16 : PySem.W.nsIn K mainGlobals "show_atom" = some (some (.ref f16))) (l16 : K.lookup f16 = some ⟨oc16, od16, .func (PySem.W.fnOf "show_atom" "show_atom" (defArgs st_show_atom) (defBody st_show_atom) (defScope st_show_atom) .none kV16 dc16 pm16 an16 cd16 ct16), sl16⟩) (c16 : PySem.W.codeIn K cd16 "show_atom" = true) (k16 : PySem.W.keepIn K (.ref f16) = true)
    (a17 : PySem.W.nsIn K mainGlobals "show" = some (some (.ref f17))) (l17 : K.lookup f17 = some ⟨oc17, od17, .func (PySem.W.fnOf "show" "show" (defArgs st_show) (defBody st_show) (defScope st_show) .none kV17 dc17 pm17 an17 cd17 ct17), sl17⟩) (c17 : PySem.W.codeIn K cd17 "show" = true) (k17 : PySem.W.keepIn K (.ref f17) = true)
    (a18 : PySem.W.nsIn K mainGlobals "show_text" = some (some (.ref f18))) (l18 : K.lookup f18 = some ⟨oc18, od18, .func (PySem.W.fnOf "show_text" "show_text" (defArgs st_show_text) (defBody st_show_text) (defScope st_show_text) .none kV18 dc18 pm18 an18 cd18 ct18), sl18⟩) (c18 : PySem.W.codeIn K cd18 "show_text" = true) (k18 : PySem.W.keepIn K (.ref f18) = true)
    (a19 : PySem.W.nsIn K mainGlobals "count_data" = some (some (.ref f19))) (l19 : K.lookup f19 = some ⟨oc19, od19, .func (PySem.W.fnOf "count_data" "count_data" (defArgs st_count_data) (defBody st_count_data) (defScope st_count_data) .none kV19 dc19 pm19 an19 cd19 ct19), sl19⟩) (c19 : PySem.W.codeIn K cd19 "count_data" = true) (k19 : PySem.W.keepIn K (.ref f19) = true)
    (a20 : PySem.W.nsIn K mainGlobals "deepest" = some (some (.ref f20))) (l20 : K.lookup f20 = some ⟨oc20, od20, .func (PySem.W.fnOf "deepest" "deepest" (defArgs st_deepest) (defBody st_deepest) (defScope st_deepest) .none kV20 dc20 pm20 an20 cd20 ct20), sl20⟩) (c20 : PySem.W.codeIn K cd20 "deepest" = true) (k20 : PySem.W.keepIn K (.ref f20) = true)
    (a21 : PySem.W.nsIn K mainGlobals "_law_atom" = some (some (.ref f21))) (l21 : K.lookup f21 = some ⟨oc21, od21, .func (PySem.W.fnOf "_law_atom" "_law_atom" (defArgs st__law_atom) (defBody st__law_atom) (defScope st__law_atom) .none kV21 dc21 pm21 an21 cd21 ct21), sl21⟩) (c21 : PySem.W.codeIn K cd21 "_law_atom" = true) (k21 : PySem.W.keepIn K (.ref f21) = true)
    (a22 : PySem.W.nsIn K mainGlobals "_law_tree" = some (some (.ref f22))) (l22 : K.lookup f22 = some ⟨oc22, od22, .func (PySem.W.fnOf "_law_tree" "_law_tree" (defArgs st__law_tree) (defBody st__law_tree) (defScope st__law_tree) .none kV22 dc22 pm22 an22 cd22 ct22), sl22⟩) (c22 : PySem.W.codeIn K cd22 "_law_tree" = true) (k22 : PySem.W.keepIn K (.ref f22) = true)
    (a23 : PySem.W.nsIn K mainGlobals "_law_chain" = some (some (.ref f23))) (l23 : K.lookup f23 = some ⟨oc23, od23, .func (PySem.W.fnOf "_law_chain" "_law_chain" (defArgs st__law_chain) (defBody st__law_chain) (defScope st__law_chain) .none kV23 dc23 pm23 an23 cd23 ct23), sl23⟩) (c23 : PySem.W.codeIn K cd23 "_law_chain" = true) (k23 : PySem.W.keepIn K (.ref f23) = true)
    (a24 : PySem.W.nsIn K mainGlobals "_law_placed" = some (some (.ref f24))) (l24 : K.lookup f24 = some ⟨oc24, od24, .func (PySem.W.fnOf "_law_placed" "_law_placed" (defArgs st__law_placed) (defBody st__law_placed) (defScope st__law_placed) .none kV24 dc24 pm24 an24 cd24 ct24), sl24⟩) (c24 : PySem.W.codeIn K cd24 "_law_placed" = true) (k24 : PySem.W.keepIn K (.ref f24) = true)
    (a25 : PySem.W.nsIn K mainGlobals "_law_plain" = some (some (.ref f25))) (l25 : K.lookup f25 = some ⟨oc25, od25, .func (PySem.W.fnOf "_law_plain" "_law_plain" (defArgs st__law_plain) (defBody st__law_plain) (defScope st__law_plain) .none kV25 dc25 pm25 an25 cd25 ct25), sl25⟩) (c25 : PySem.W.codeIn K cd25 "_law_plain" = true) (k25 : PySem.W.keepIn K (.ref f25) = true)
    (a26 : PySem.W.nsIn K mainGlobals "_law_gap" = some (some (.ref f26))) (l26 : K.lookup f26 = some ⟨oc26, od26, .func (PySem.W.fnOf "_law_gap" "_law_gap" (defArgs st__law_gap) (defBody st__law_gap) (defScope st__law_gap) .none kV26 dc26 pm26 an26 cd26 ct26), sl26⟩) (c26 : PySem.W.codeIn K cd26 "_law_gap" = true) (k26 : PySem.W.keepIn K (.ref f26) = true)
    (a27 : PySem.W.nsIn K mainGlobals "_law_written" = some (some (.ref f27))) (l27 : K.lookup f27 = some ⟨oc27, od27, .func (PySem.W.fnOf "_law_written" "_law_written" (defArgs st__law_written) (defBody st__law_written) (defScope st__law_written) .none kV27 dc27 pm27 an27 cd27 ct27), sl27⟩) (c27 : PySem.W.codeIn K cd27 "_law_written" = true) (k27 : PySem.W.keepIn K (.ref f27) = true)
    (a28 : PySem.W.nsIn K mainGlobals "_law_count" = some (some (.ref f28))) (l28 : K.lookup f28 = some ⟨oc28, od28, .func (PySem.W.fnOf "_law_count" "_law_count" (defArgs st__law_count) (defBody st__law_count) (defScope st__law_count) .none kV28 dc28 pm28 an28 cd28 ct28), sl28⟩) (c28 : PySem.W.codeIn K cd28 "_law_count" = true) (k28 : PySem.W.keepIn K (.ref f28) = true)
    (a29 : PySem.W.nsIn K mainGlobals "_law_depth" = some (some (.ref f29))) (l29 : K.lookup f29 = some ⟨oc29, od29, .func (PySem.W.fnOf "_law_depth" "_law_depth" (defArgs st__law_depth) (defBody st__law_depth) (defScope st__law_depth) .none kV29 dc29 pm29 an29 cd29 ct29), sl29⟩) (c29 : PySem.W.codeIn K cd29 "_law_depth" = true) (k29 : PySem.W.keepIn K (.ref f29) = true)
    (a30 : PySem.W.nsIn K mainGlobals "law" = some (some (.ref f30))) (l30 : K.lookup f30 = some ⟨oc30, od30, .func (PySem.W.fnOf "law" "law" (defArgs st_law) (defBody st_law) (defScope st_law) .none kV30 dc30 pm30 an30 cd30 ct30), sl30⟩) (c30 : PySem.W.codeIn K cd30 "law" = true) (k30 : PySem.W.keepIn K (.ref f30) = true)
    (am1 : PySem.W.findIn K (.ref C) "__init__" = some (some (.ref m1))) (im1 : PySem.W.isFn K (.ref m1) = true) (lm1 : K.lookup m1 = some ⟨ocm1, odm1, .func (PySem.W.fnOf "__init__" "Reader.__init__" (defArgs st_Reader___init__) (defBody st_Reader___init__) (defScope st_Reader___init__) .none kVm1 dcm1 pmm1 anm1 cdm1 ctm1), slm1⟩) (cm1 : PySem.W.codeIn K cdm1 "Reader.__init__" = true) (km1 : PySem.W.keepIn K (.ref m1) = true)
    (am2 : PySem.W.findIn K (.ref C) "new_place" = some (some (.ref m2))) (im2 : PySem.W.isFn K (.ref m2) = true) (lm2 : K.lookup m2 = some ⟨ocm2, odm2, .func (PySem.W.fnOf "new_place" "Reader.new_place" (defArgs st_Reader_new_place) (defBody st_Reader_new_place) (defScope st_Reader_new_place) .none kVm2 dcm2 pmm2 anm2 cdm2 ctm2), slm2⟩) (cm2 : PySem.W.codeIn K cdm2 "Reader.new_place" = true) (km2 : PySem.W.keepIn K (.ref m2) = true)
    (am3 : PySem.W.findIn K (.ref C) "put" = some (some (.ref m3))) (im3 : PySem.W.isFn K (.ref m3) = true) (lm3 : K.lookup m3 = some ⟨ocm3, odm3, .func (PySem.W.fnOf "put" "Reader.put" (defArgs st_Reader_put) (defBody st_Reader_put) (defScope st_Reader_put) .none kVm3 dcm3 pmm3 anm3 cdm3 ctm3), slm3⟩) (cm3 : PySem.W.codeIn K cdm3 "Reader.put" = true) (km3 : PySem.W.keepIn K (.ref m3) = true)
    (am4 : PySem.W.findIn K (.ref C) "end_list" = some (some (.ref m4))) (im4 : PySem.W.isFn K (.ref m4) = true) (lm4 : K.lookup m4 = some ⟨ocm4, odm4, .func (PySem.W.fnOf "end_list" "Reader.end_list" (defArgs st_Reader_end_list) (defBody st_Reader_end_list) (defScope st_Reader_end_list) .none kVm4 dcm4 pmm4 anm4 cdm4 ctm4), slm4⟩) (cm4 : PySem.W.codeIn K cdm4 "Reader.end_list" = true) (km4 : PySem.W.keepIn K (.ref m4) = true)
    (am5 : PySem.W.findIn K (.ref C) "begin_list" = some (some (.ref m5))) (im5 : PySem.W.isFn K (.ref m5) = true) (lm5 : K.lookup m5 = some ⟨ocm5, odm5, .func (PySem.W.fnOf "begin_list" "Reader.begin_list" (defArgs st_Reader_begin_list) (defBody st_Reader_begin_list) (defScope st_Reader_begin_list) .none kVm5 dcm5 pmm5 anm5 cdm5 ctm5), slm5⟩) (cm5 : PySem.W.codeIn K cdm5 "Reader.begin_list" = true) (km5 : PySem.W.keepIn K (.ref m5) = true)
    (am6 : PySem.W.findIn K (.ref C) "take" = some (some (.ref m6))) (im6 : PySem.W.isFn K (.ref m6) = true) (lm6 : K.lookup m6 = some ⟨ocm6, odm6, .func (PySem.W.fnOf "take" "Reader.take" (defArgs st_Reader_take) (defBody st_Reader_take) (defScope st_Reader_take) .none kVm6 dcm6 pmm6 anm6 cdm6 ctm6), slm6⟩) (cm6 : PySem.W.codeIn K cdm6 "Reader.take" = true) (km6 : PySem.W.keepIn K (.ref m6) = true)
    (am7 : PySem.W.findIn K (.ref C) "read_all" = some (some (.ref m7))) (im7 : PySem.W.isFn K (.ref m7) = true) (lm7 : K.lookup m7 = some ⟨ocm7, odm7, .func (PySem.W.fnOf "read_all" "Reader.read_all" (defArgs st_Reader_read_all) (defBody st_Reader_read_all) (defScope st_Reader_read_all) .none kVm7 dcm7 pmm7 anm7 cdm7 ctm7), slm7⟩) (cm7 : PySem.W.codeIn K cdm7 "Reader.read_all" = true) (km7 : PySem.W.keepIn K (.ref m7) = true)
    (y1 : PySem.W.nsIn K mainGlobals "DIGITS" = some (some (.str "0123456789" tk1)))
    (y2 : PySem.W.nsIn K mainGlobals "NAME_SIGNS" = some (some (.str "abcdefghijklmnopqrstuvwxyz0123456789!*+-./:<=>?_" tk2)))
    (y3 : PySem.W.nsIn K mainGlobals "WORD_ENDS" = some (some (.str " \n()'\";" tk3)))
    (y4 : PySem.W.nsIn K mainGlobals "LONGEST_NAME" = some (some (.int 20 tk4)))
    (y5 : PySem.W.nsIn K mainGlobals "MOST_DIGITS" = some (some (.int 30 tk5)))
    (y6 : PySem.W.nsIn K mainGlobals "LONGEST_STRING" = some (some (.int 100 tk6)))
    (y7 : PySem.W.nsIn K mainGlobals "LONGEST_TEXT" = some (some (.int 6000 tk7)))
    (y8 : PySem.W.nsIn K mainGlobals "DEEPEST_LIST" = some (some (.int 60 tk8)))
    (aC : PySem.W.nsIn K mainGlobals "Reader" = some (some (.ref C))) (aE : PySem.W.nsIn K mainGlobals "ReadError" = some (some (.ref CE))) (aW : PySem.W.nsIn K mainGlobals "WhereError" = some (some (.ref CW))) (aS : PySem.W.nsIn K mainGlobals "SIGN_NAMES" = some (some (.ref pS)))
    (pg : PySem.W.plainGet K C Str.empty = true) (hd : PySem.W.hasDictIn K C = true) (po : PySem.W.plainOver K C = true) (sa : PySem.W.findIn K (.ref C) "__setattr__" = some (some (.builtin "object.__setattr__"))) (mk : PySem.W.makesIn K C = true) (kc : PySem.W.keepIn K (.ref C) = true)
    (n1 : PySem.W.findIn K (.ref C) "source" = some none) (n2 : PySem.W.findIn K (.ref C) "forms" = some none) (n3 : PySem.W.findIn K (.ref C) "starts" = some none) (n4 : PySem.W.findIn K (.ref C) "open_lists" = some none)
    {nm q : Str} {N : Addr} {bs bm : List Value} {sn : List Str} {sub : List Value} {ab : Bool} {col : Option Bool} {dd : Option Addr} {g0 g1 g2 g3 g5 : Option Value}
    (xL : K.lookup CE = some (excClassObj nm q CE N bs bm true sn sub ab col dd g0 g1 g2 g3 g5 "ValueError.__new__")) (xR : PySem.HandSPX.refsVE bm = true)
    (xsa : PySem.W.findIn K (.ref CE) "__setattr__" = some (some (.builtin "object.__setattr__"))) (xga : PySem.W.findIn K (.ref CE) "__getattribute__" = some (some (.builtin "BaseException.__getattribute__"))) (xgg : PySem.W.findIn K (.ref CE) "__getattr__" = some none) (xnb : PySem.W.findIn K (.ref CE) "at" = some none)
    (xa : PySem.W.findIn K (.ref CE) "__init__" = some (some (.ref fI))) (xt : PySem.W.typeIn K (.ref fI) = some (.type "function"))
    (xl : K.lookup fI = some ⟨ocI, odI, .func (PySem.W.fnOf "__init__" "ReadError.__init__" (defArgs st_ReadError___init__) (defBody st_ReadError___init__) (defScope st_ReadError___init__) .none kVI dcI pmI anI cdI ctI), slI⟩) (xc : PySem.W.codeIn K cdI "ReadError.__init__" = true) (xk : PySem.W.keepIn K (.ref fI) = true)
    (kC : PySem.W.keepIn K (.ref CE) = true) (eC : PySem.W.subIn K (.ref CE) (.type "BaseException") = some true) (tC : PySem.W.typeIn K (.ref CE) = some (.type "type")) (hC : PySem.W.hasDictIn K CE = true) (iC : PySem.W.isClsIn K CE = true) (sC : PySem.W.subIn K (.ref CE) (.ref CE) = some true)
    (wgg : PySem.W.specialIn K (.ref CW) "__getattribute__" = some (some (.builtin "type.__getattribute__"))) (wrd : PySem.W.readsIn K CW (.type "type") = true) (wV : PySem.W.findCls K (.ref CW) (.type "type") "__init__" = some (.val (.builtin "ValueError.__init__")))
    {es : Array DictEntry} {nd : Nat} (lS : K.lookup pS = some ⟨.type "dict", none, .dict es nd, #[]⟩) (kl : PySem.W.KeysLit w.params es.toList) (v1 : PySem.W.nsIn K pS "'" = some (some (.str "quote" tq))) (v2 : PySem.W.nsIn K pS "#'" = some (some (.str "syntax" ts)))
    {oN : Value} {dN : Option Addr} {vN : Array Value} {sN : Array (Option Value)} (lN : K.lookup cN = some ⟨oN, dN, .fields vN, sN⟩) (eN : (vN[11]? : Option Value) = some (.ref PN)) (nN : K.lookup PN = none)
    {oD : Value} {dD : Option Addr} {vD : Array Value} {sD : Array (Option Value)} (lD : K.lookup cD = some ⟨oD, dD, .fields vD, sD⟩) (eD : (vD[11]? : Option Value) = some (.ref PD)) (nD : K.lookup PD = none)
    (z1 : PySem.W.nsIn K mainGlobals "len" = some none) (z2 : PySem.W.nsIn K mainGlobals "int" = some none) (z3 : PySem.W.nsIn K mainGlobals "bool" = some none) (z4 : PySem.W.nsIn K mainGlobals "str" = some none) (z5 : PySem.W.nsIn K mainGlobals "tuple" = some none) (z6 : PySem.W.nsIn K mainGlobals "list" = some none) (z7 : PySem.W.nsIn K mainGlobals "range" = some none) (z8 : PySem.W.nsIn K mainGlobals "isinstance" = some none) (z9 : PySem.W.nsIn K mainGlobals "all" = some none) (z10 : PySem.W.nsIn K mainGlobals "max" = some none) (z11 : PySem.W.nsIn K mainGlobals "sum" = some none) : LamX.LawAtS l w K CX0 127 63 "script" mg fa h := by
  have tN : PySem.W.tabIn K "is_name" = some (cN, PN) := by
    unfold PySem.W.tabIn
    simp only [a1, l1, lN, eN, PySem.W.fnOf]
  have tD : PySem.W.tabIn K "_is_number" = some (cD, PD) := by
    unfold PySem.W.tabIn
    simp only [a3, l3, lD, eD, PySem.W.fnOf]
  obtain ⟨TNC, TNP⟩ := TN cN PN tN
  obtain ⟨TDC, TDP⟩ := TD cD PD tD
  have e := hfa.symm.trans (PySem.W.mg_of X G a30)
  cases e
  have M : Mg mg := ⟨PySem.W.mg_none_of X G z1, PySem.W.mg_none_of X G z2, PySem.W.mg_none_of X G z3, PySem.W.mg_none_of X G z4, PySem.W.mg_none_of X G z5, PySem.W.mg_none_of X G z6, PySem.W.mg_none_of X G z7, PySem.W.mg_none_of X G z8, PySem.W.mg_none_of X G z9⟩
  have M2 : Mg2 mg := ⟨M, PySem.W.mg_none_of X G z10, PySem.W.mg_none_of X G z11⟩
  have Gb : Gb mg := ⟨tk1, tk2, tk3, tk4, tk5, tk6, tk7, tk8, PySem.W.mg_of X G y1, PySem.W.mg_of X G y2, PySem.W.mg_of X G y3, PySem.W.mg_of X G y4, PySem.W.mg_of X G y5, PySem.W.mg_of X G y6, PySem.W.mg_of X G y7, PySem.W.mg_of X G y8⟩
  have E1 := funC_mk (st := st_is_name) l1 c1 k1
  have b1 := E1.fun.binds (ps := ["text"]) fun _ _ _ _ _ _ us hl => match us, hl with | [_], _ => rfl
  have F1 : DfnC K mg "is_name" st_is_name f1 _ ["text"] cN := ⟨E1, PySem.W.mg_of X G a1, b1⟩
  have E2 := fun_mk (st := st__begins_as_number) l2 c2 k2
  have b2 := E2.binds (ps := ["word"]) fun _ _ _ _ _ _ us hl => match us, hl with | [_], _ => rfl
  have F2 : Dfn K mg "_begins_as_number" st__begins_as_number f2 _ ["word"] := ⟨E2, PySem.W.mg_of X G a2, b2⟩
  have E3 := funC_mk (st := st__is_number) l3 c3 k3
  have b3 := E3.fun.binds (ps := ["word"]) fun _ _ _ _ _ _ us hl => match us, hl with | [_], _ => rfl
  have F3 : DfnC K mg "_is_number" st__is_number f3 _ ["word"] cD := ⟨E3, PySem.W.mg_of X G a3, b3⟩
  have E4 := fun_mk (st := st__sort_of_word) l4 c4 k4
  have b4 := E4.binds (ps := ["word"]) fun _ _ _ _ _ _ us hl => match us, hl with | [_], _ => rfl
  have F4 : Dfn K mg "_sort_of_word" st__sort_of_word f4 _ ["word"] := ⟨E4, PySem.W.mg_of X G a4, b4⟩
  have E5 := fun_mk (st := st__line_end) l5 c5 k5
  have b5 := E5.binds (ps := ["text", "at"]) fun _ _ _ _ _ _ us hl => match us, hl with | [_, _], _ => rfl
  have F5 : Dfn K mg "_line_end" st__line_end f5 _ ["text", "at"] := ⟨E5, PySem.W.mg_of X G a5, b5⟩
  have E6 := fun_mk (st := st__string_at) l6 c6 k6
  have b6 := E6.binds (ps := ["text", "at"]) fun _ _ _ _ _ _ us hl => match us, hl with | [_, _], _ => rfl
  have F6 : Dfn K mg "_string_at" st__string_at f6 _ ["text", "at"] := ⟨E6, PySem.W.mg_of X G a6, b6⟩
  have E7 := fun_mk (st := st__word_at) l7 c7 k7
  have b7 := E7.binds (ps := ["text", "at"]) fun _ _ _ _ _ _ us hl => match us, hl with | [_, _], _ => rfl
  have F7 : Dfn K mg "_word_at" st__word_at f7 _ ["text", "at"] := ⟨E7, PySem.W.mg_of X G a7, b7⟩
  have E8 := fun_mk (st := st__token_at) l8 c8 k8
  have b8 := E8.binds (ps := ["text", "at"]) fun _ _ _ _ _ _ us hl => match us, hl with | [_, _], _ => rfl
  have F8 : Dfn K mg "_token_at" st__token_at f8 _ ["text", "at"] := ⟨E8, PySem.W.mg_of X G a8, b8⟩
  have E9 := fun_mk (st := st_tokens) l9 c9 k9
  have b9 := E9.binds (ps := ["text"]) fun _ _ _ _ _ _ us hl => match us, hl with | [_], _ => rfl
  have F9 : Dfn K mg "tokens" st_tokens f9 _ ["text"] := ⟨E9, PySem.W.mg_of X G a9, b9⟩
  have E10 := fun_mk (st := st__atom) l10 c10 k10
  have b10 := E10.binds (ps := ["sort", "word", "place"]) fun _ _ _ _ _ _ us hl => match us, hl with | [_, _, _], _ => rfl
  have F10 : Dfn K mg "_atom" st__atom f10 _ ["sort", "word", "place"] := ⟨E10, PySem.W.mg_of X G a10, b10⟩
  have E11 := fun_mk (st := st_read) l11 c11 k11
  have b11 := E11.binds (ps := ["text"]) fun _ _ _ _ _ _ us hl => match us, hl with | [_], _ => rfl
  have F11 : Dfn K mg "read" st_read f11 _ ["text"] := ⟨E11, PySem.W.mg_of X G a11, b11⟩
  have E12 := fun_mk (st := st_offsets) l12 c12 k12
  have b12 := E12.binds (ps := ["text"]) fun _ _ _ _ _ _ us hl => match us, hl with | [_], _ => rfl
  have F12 : Dfn K mg "offsets" st_offsets f12 _ ["text"] := ⟨E12, PySem.W.mg_of X G a12, b12⟩
  have E13 := fun_mk (st := st__law_draws) l13 c13 k13
  have b13 := E13.binds (ps := ["script", "count"]) fun _ _ _ _ _ _ us hl => match us, hl with | [_, _], _ => rfl
  have F13 : Dfn K mg "_law_draws" st__law_draws f13 _ ["script", "count"] := ⟨E13, PySem.W.mg_of X G a13, b13⟩
  have E14 := fun_mk (st := st__law_take) l14 c14 k14
  have b14 := E14.binds (ps := ["draws", "limit"]) fun _ _ _ _ _ _ us hl => match us, hl with | [_, _], _ => rfl
  have F14 : Dfn K mg "_law_take" st__law_take f14 _ ["draws", "limit"] := ⟨E14, PySem.W.mg_of X G a14, b14⟩
  have E15 := fun_mk (st := st__law_same) l15 c15 k15
  have b15 := E15.binds (ps := ["found", "due"]) fun _ _ _ _ _ _ us hl => match us, hl with | [_, _], _ => rfl
  have F15 : Dfn K mg "_law_same" st__law_same f15 _ ["found", "due"] := ⟨E15, PySem.W.mg_of X G a15, b15⟩
  have E16 := fun_mk (st := st_show_atom) l16 c16 k16
  have b16 := E16.binds (ps := ["kind", "value"]) fun _ _ _ _ _ _ us hl => match us, hl with | [_, _], _ => rfl
  have F16 : Dfn K mg "show_atom" st_show_atom f16 _ ["kind", "value"] := ⟨E16, PySem.W.mg_of X G a16, b16⟩
  have E17 := fun_mk (st := st_show) l17 c17 k17
  have b17 := E17.binds (ps := ["datum"]) fun _ _ _ _ _ _ us hl => match us, hl with | [_], _ => rfl
  have F17 : Dfn K mg "show" st_show f17 _ ["datum"] := ⟨E17, PySem.W.mg_of X G a17, b17⟩
  have E18 := fun_mk (st := st_show_text) l18 c18 k18
  have b18 := E18.binds (ps := ["forms"]) fun _ _ _ _ _ _ us hl => match us, hl with | [_], _ => rfl
  have F18 : Dfn K mg "show_text" st_show_text f18 _ ["forms"] := ⟨E18, PySem.W.mg_of X G a18, b18⟩
  have E19 := fun_mk (st := st_count_data) l19 c19 k19
  have b19 := E19.binds (ps := ["datum"]) fun _ _ _ _ _ _ us hl => match us, hl with | [_], _ => rfl
  have F19 : Dfn K mg "count_data" st_count_data f19 _ ["datum"] := ⟨E19, PySem.W.mg_of X G a19, b19⟩
  have E20 := fun_mk (st := st_deepest) l20 c20 k20
  have b20 := E20.binds (ps := ["datum"]) fun _ _ _ _ _ _ us hl => match us, hl with | [_], _ => rfl
  have F20 : Dfn K mg "deepest" st_deepest f20 _ ["datum"] := ⟨E20, PySem.W.mg_of X G a20, b20⟩
  have E21 := fun_mk (st := st__law_atom) l21 c21 k21
  have b21 := E21.binds (ps := ["draws"]) fun _ _ _ _ _ _ us hl => match us, hl with | [_], _ => rfl
  have F21 : Dfn K mg "_law_atom" st__law_atom f21 _ ["draws"] := ⟨E21, PySem.W.mg_of X G a21, b21⟩
  have E22 := fun_mk (st := st__law_tree) l22 c22 k22
  have b22 := E22.binds (ps := ["draws", "depth"]) fun _ _ _ _ _ _ us hl => match us, hl with | [_, _], _ => rfl
  have F22 : Dfn K mg "_law_tree" st__law_tree f22 _ ["draws", "depth"] := ⟨E22, PySem.W.mg_of X G a22, b22⟩
  have E23 := fun_mk (st := st__law_chain) l23 c23 k23
  have b23 := E23.binds (ps := ["draws", "depth"]) fun _ _ _ _ _ _ us hl => match us, hl with | [_, _], _ => rfl
  have F23 : Dfn K mg "_law_chain" st__law_chain f23 _ ["draws", "depth"] := ⟨E23, PySem.W.mg_of X G a23, b23⟩
  have E24 := fun_mk (st := st__law_placed) l24 c24 k24
  have b24 := E24.binds (ps := ["tree", "count"]) fun _ _ _ _ _ _ us hl => match us, hl with | [_, _], _ => rfl
  have F24 : Dfn K mg "_law_placed" st__law_placed f24 _ ["tree", "count"] := ⟨E24, PySem.W.mg_of X G a24, b24⟩
  have E25 := fun_mk (st := st__law_plain) l25 c25 k25
  have b25 := E25.binds (ps := ["tree"]) fun _ _ _ _ _ _ us hl => match us, hl with | [_], _ => rfl
  have F25 : Dfn K mg "_law_plain" st__law_plain f25 _ ["tree"] := ⟨E25, PySem.W.mg_of X G a25, b25⟩
  have E26 := fun_mk (st := st__law_gap) l26 c26 k26
  have b26 := E26.binds (ps := ["draws", "must"]) fun _ _ _ _ _ _ us hl => match us, hl with | [_, _], _ => rfl
  have F26 : Dfn K mg "_law_gap" st__law_gap f26 _ ["draws", "must"] := ⟨E26, PySem.W.mg_of X G a26, b26⟩
  have E27 := fun_mk (st := st__law_written) l27 c27 k27
  have b27 := E27.binds (ps := ["draws", "tree", "pieces", "starts"]) fun _ _ _ _ _ _ us hl => match us, hl with | [_, _, _, _], _ => rfl
  have F27 : Dfn K mg "_law_written" st__law_written f27 _ ["draws", "tree", "pieces", "starts"] := ⟨E27, PySem.W.mg_of X G a27, b27⟩
  have E28 := fun_mk (st := st__law_count) l28 c28 k28
  have b28 := E28.binds (ps := ["tree"]) fun _ _ _ _ _ _ us hl => match us, hl with | [_], _ => rfl
  have F28 : Dfn K mg "_law_count" st__law_count f28 _ ["tree"] := ⟨E28, PySem.W.mg_of X G a28, b28⟩
  have E29 := fun_mk (st := st__law_depth) l29 c29 k29
  have b29 := E29.binds (ps := ["tree"]) fun _ _ _ _ _ _ us hl => match us, hl with | [_], _ => rfl
  have F29 : Dfn K mg "_law_depth" st__law_depth f29 _ ["tree"] := ⟨E29, PySem.W.mg_of X G a29, b29⟩
  have E30 := fun_mk (st := st_law) l30 c30 k30
  have b30 := E30.binds (ps := ["script"]) fun _ _ _ _ _ _ us hl => match us, hl with | [_], _ => rfl
  have F30 : Dfn K mg "law" st_law fa _ ["script"] := ⟨E30, PySem.W.mg_of X G a30, b30⟩
  have Em1 := fun_mk (st := st_Reader___init__) lm1 cm1 km1
  have bm1 := Em1.binds (ps := ["self", "text"]) fun _ _ _ _ _ _ us hl => match us, hl with | [_, _], _ => rfl
  have Em2 := fun_mk (st := st_Reader_new_place) lm2 cm2 km2
  have bm2 := Em2.binds (ps := ["self", "start"]) fun _ _ _ _ _ _ us hl => match us, hl with | [_, _], _ => rfl
  have Fm2 : DfnM K C "new_place" "Reader.new_place" st_Reader_new_place m2 _ ["self", "start"] := ⟨Em2, ⟨am2, im2, km2⟩, bm2⟩
  have Em3 := fun_mk (st := st_Reader_put) lm3 cm3 km3
  have bm3 := Em3.binds (ps := ["self", "datum"]) fun _ _ _ _ _ _ us hl => match us, hl with | [_, _], _ => rfl
  have Fm3 : DfnM K C "put" "Reader.put" st_Reader_put m3 _ ["self", "datum"] := ⟨Em3, ⟨am3, im3, km3⟩, bm3⟩
  have Em4 := fun_mk (st := st_Reader_end_list) lm4 cm4 km4
  have bm4 := Em4.binds (ps := ["self", "start"]) fun _ _ _ _ _ _ us hl => match us, hl with | [_, _], _ => rfl
  have Fm4 : DfnM K C "end_list" "Reader.end_list" st_Reader_end_list m4 _ ["self", "start"] := ⟨Em4, ⟨am4, im4, km4⟩, bm4⟩
  have Em5 := fun_mk (st := st_Reader_begin_list) lm5 cm5 km5
  have bm5 := Em5.binds (ps := ["self", "sign", "start"]) fun _ _ _ _ _ _ us hl => match us, hl with | [_, _, _], _ => rfl
  have Fm5 : DfnM K C "begin_list" "Reader.begin_list" st_Reader_begin_list m5 _ ["self", "sign", "start"] := ⟨Em5, ⟨am5, im5, km5⟩, bm5⟩
  have Em6 := fun_mk (st := st_Reader_take) lm6 cm6 km6
  have bm6 := Em6.binds (ps := ["self", "sort", "start", "end"]) fun _ _ _ _ _ _ us hl => match us, hl with | [_, _, _, _], _ => rfl
  have Fm6 : DfnM K C "take" "Reader.take" st_Reader_take m6 _ ["self", "sort", "start", "end"] := ⟨Em6, ⟨am6, im6, km6⟩, bm6⟩
  have Em7 := fun_mk (st := st_Reader_read_all) lm7 cm7 km7
  have bm7 := Em7.binds (ps := ["self"]) fun _ _ _ _ _ _ us hl => match us, hl with | [_], _ => rfl
  have Fm7 : DfnM K C "read_all" "Reader.read_all" st_Reader_read_all m7 _ ["self"] := ⟨Em7, ⟨am7, im7, km7⟩, bm7⟩
  have EI := fun_mk (st := st_ReadError___init__) xl xc xk
  have bI := EI.binds (ps := ["self", "at"]) fun _ _ _ _ _ _ us hl => match us, hl with | [_, _], _ => rfl
  have T : ReT w K mg C CE CW fI m1 pS :=
    { cl := ⟨pg, hd, po, sa⟩, mkR := ⟨mk, am1, im1, kc⟩, mgC := PySem.W.mg_of X G aC, nS := n1, nF := n2, nT := n3, nO := n4, ox := ⟨⟨nm, q, N, bs, bm, sn, sub, ab, col, dd, g0, g1, g2, g3, g5, xL, xR⟩, xsa, eC, tC, kC⟩, iR := xa, tR := xt, nAt := xnb,
      mR := PySem.W.mg_of X G aE, mW := PySem.W.mg_of X G aW, wgg := wgg, wrd := wrd, wV := wV, xf := ⟨xga, xgg, eC, hC⟩, ex := exm_self eC iC tC sC, gSN := PySem.W.mg_of X G aS,
      kq := ⟨es, nd, _, lS, kl, by rw [← q_ap]; exact v1, ⟨_, rfl⟩⟩, ks := ⟨es, nd, _, lS, kl, by rw [← q_shap]; exact v2, ⟨_, rfl⟩⟩ }
  have two : ∀ {q : Addr × Addr → Prop}, q (cN, PN) → q (cD, PD) → ∀ p ∈ [(cN, PN), (cD, PD)], q p := fun h1 h2 p hp => by
    rcases List.mem_cons.mp hp with e | hp
    · rw [e]; exact h1
    · rw [List.mem_singleton.mp hp]; exact h2
  refine ⟨PySem.W.fnOf "law" "law" (defArgs st_law) (defBody st_law) (defScope st_law) .none kV30 dc30 pm30 an30 cd30 ct30, [(cN, PN), (cD, PD)], spLaw K PN PD, two TNP TDP, two nN nD, two TNC TDC, fun s v => .of_eq rfl,
    fun H a ns hl _ hP hS => ⟨a, ns, rfl, hS, Nat.le_trans hl (by decide), ⟨tab0 (hP _ List.mem_cons_self), tab0 (hP (cD, PD) (List.mem_cons_of_mem _ List.mem_cons_self))⟩, fun _ => rfl⟩, fun base hK hN hTb => ?_⟩
  have TB1 := hTb (cN, PN) List.mem_cons_self
  have TB2 := hTb (cD, PD) (List.mem_cons_of_mem _ List.mem_cons_self)
  have TBN : GxR.TabB base mg cN PN := ⟨TB1.code, TB1.bm, TB1.gP⟩
  have TBD : GxR.TabB base mg cD PD := ⟨TB2.code, TB2.bm, TB2.gP⟩
  have Cbeg : Cal l.prog w K mg base 1 "_begins_as_number" spBeg := ok_begins F2 M Gb
  have Cnum : Cal l.prog w K mg base 1 "_is_number" (spNum PN PD) := ok_is_number F3 M Gb TBD
  have Cnam : Cal l.prog w K mg base 2 "is_name" (spName PN PD) := ok_is_name F1 M Gb TBN Cbeg
  have Csor := ok_sort_of_word F4 M Cnum Cnam
  have Clin : Cal l.prog w K mg base 1 "_line_end" spLine := ok_line_end F5 M
  have Cstr := ok_string_at F6 M Gb Clin
  have Cwor := ok_word_at F7 M Gb Csor
  have Ctok := ok_token_at F8 M Cstr Cwor
  have Ctoks := ok_tokens F9 M Clin Ctok
  have Cato : Cal l.prog w K mg base 1 "_atom" spAtom := ok_atom F10 M
  have Cnew : CalM CX0 l.prog w K mg base 1 C "new_place" (spNew C PN PD) := ok_new Fm2 M T.cl T.nT
  have Cput : CalM CX0 l.prog w K mg base 1 C "put" (spPut C PN PD) := ok_put Fm3 M T.cl T.nO T.nF
  have CRE : FnOk l.prog w K mg base CX0 1 fI _ ["self", "at"] (spRE CE) := ok_re EI T
  have Cend := ok_end Fm4 M T bI CRE Cput
  have Cbegl := ok_begin Fm5 M Gb T bI CRE Cnew
  have Ctake := ok_take Fm6 M T bI CRE Cato Cnew Cput Cend Cbegl
  have Call := ok_read_all Fm7 M Gb T bI CRE Ctoks Ctake
  have CIn : FnOk l.prog w K mg base CX0 1 m1 _ ["self", "text"] (spInit C) := ok_init Em1 T
  have Crea := ok_read F11 M T bm1 CIn Call
  have Coff := ok_offsets F12 M T bm1 CIn Call
  have Cd : Cal l.prog w K mg base 1 "_law_draws" (spDraws K) := ok_law_draws F13 M
  have Ck : Cal l.prog w K mg base 1 "_law_take" spTake := ok_law_take F14 M
  have Csa : Cal l.prog w K mg base 126 "_law_same" (spSame K 125) := same_all F15 M 125
  exact ok_law F30 M2 Cd Ck (tree_all F22 M Ck (ok_atom2 F21 M Ck) 7) (ok_chain F23 M Ck (ok_atom2 F21 M Ck)) (placed_all F24 M 61) (ok_gap F26 M Ck) (written_all F27 M2 Ck (ok_gap F26 M Ck) (plain_all F25 M 1) 61) (plain_all F25 M 61) Csa Crea Coff (ok_show_text F18 M (show_all F17 M (ok_show_atom F16 M) 61)) (show_all F17 M (ok_show_atom F16 M) 61) (cnt_all F19 M 61) (deep_all F20 M2 61) (lcnt_all F28 M2 61) (ldep_all F29 M2 61)
end W4
open PySem PySem.W PyProof.Rows
set_option maxRecDepth 100000 in
set_option maxHeartbeats 0 in
theorem PySem.Challenge.cw_wherewritten_k02_forms_and_their_texts_holds : PySem.Challenge.rw_wherewritten_k02_forms_and_their_texts.Holds := by
  w_on; o_law; k_head; (case hw => w_witness2)
  k_fill
  refine W4.walk_ofTab2 (l := PySem.Challenge.rw_wherewritten_k02_forms_and_their_texts) (n := 63) (k := 127) (x := "script") (x1 := "is_name") (x2 := "_is_number") (CX := fun _ => L2.CX0) rfl (by decide) rfl ⟨rfl, by decide, by decide⟩ rfl rfl (fun w h Y => PySem.W.kIn_of Y) ?F (fun _ _ _ _ _ h => h)
  case F =>
    intro w mg fa h _ KX G hmg TN TD
    refine' W4.all_mk KX G hmg TN TD ?a1 ?l1 ?c1 ?k1 ?a2 ?l2 ?c2 ?k2 ?a3 ?l3 ?c3 ?k3 ?a4 ?l4 ?c4 ?k4 ?a5 ?l5 ?c5 ?k5 ?a6 ?l6 ?c6 ?k6 ?a7 ?l7 ?c7 ?k7 ?a8 ?l8 ?c8 ?k8 ?a9 ?l9 ?c9 ?k9 ?a10 ?l10 ?c10 ?k10 ?a11 ?l11 ?c11 ?k11 ?a12 ?l12 ?c12 ?k12 ?a13 ?l13 ?c13 ?k13 ?a14 ?l14 ?c14 ?k14 ?a15 ?l15 ?c15 ?k15 ?a16 ?l16 ?c16 ?k16 ?a17 ?l17 ?c17 ?k17 ?a18 ?l18 ?c18 ?k18 ?a19 ?l19 ?c19 ?k19 ?a20 ?l20 ?c20 ?k20 ?a21 ?l21 ?c21 ?k21 ?a22 ?l22 ?c22 ?k22 ?a23 ?l23 ?c23 ?k23 ?a24 ?l24 ?c24 ?k24 ?a25 ?l25 ?c25 ?k25 ?a26 ?l26 ?c26 ?k26 ?a27 ?l27 ?c27 ?k27 ?a28 ?l28 ?c28 ?k28 ?a29 ?l29 ?c29 ?k29 ?a30 ?l30 ?c30 ?k30 ?am1 ?im1 ?lm1 ?cm1 ?km1 ?am2 ?im2 ?lm2 ?cm2 ?km2 ?am3 ?im3 ?lm3 ?cm3 ?km3 ?am4 ?im4 ?lm4 ?cm4 ?km4 ?am5 ?im5 ?lm5 ?cm5 ?km5 ?am6 ?im6 ?lm6 ?cm6 ?km6 ?am7 ?im7 ?lm7 ?cm7 ?km7 ?y1 ?y2 ?y3 ?y4 ?y5 ?y6 ?y7 ?y8 ?aC ?aE ?aW ?aS ?pg ?hd ?po ?sa ?mk ?kc ?n1 ?n2 ?n3 ?n4 ?xL ?xR ?xsa ?xga ?xgg ?xnb ?xa ?xt ?xl ?xc ?xk ?kC ?eC ?tC ?hC ?iC ?sC ?wgg ?wrd ?wV ?lS ?kl ?v1 ?v2 ?lN ?eN ?nN ?lD ?eD ?nD ?z1 ?z2 ?z3 ?z4 ?z5 ?z6 ?z7 ?z8 ?z9 ?z10 ?z11
    (case aC => k_is)
    (case aE => k_is)
    (case aW => k_is)
    (case aS => k_is)
    (case xa => k_is)
    (case a1 => k_is)
    (case l1 => k_is)
    (case c1 => k_is)
    (case k1 => k_is)
    (case a2 => k_is)
    (case l2 => k_is)
    (case c2 => k_is)
    (case k2 => k_is)
    (case a3 => k_is)
    (case l3 => k_is)
    (case c3 => k_is)
    (case k3 => k_is)
    (case a4 => k_is)
    (case l4 => k_is)
    (case c4 => k_is)
    (case k4 => k_is)
    (case a5 => k_is)
    (case l5 => k_is)
    (case c5 => k_is)
    (case k5 => k_is)
    (case a6 => k_is)
    (case l6 => k_is)
    (case c6 => k_is)
    (case k6 => k_is)
    (case a7 => k_is)
    (case l7 => k_is)
    (case c7 => k_is)
    (case k7 => k_is)
    (case a8 => k_is)
    (case l8 => k_is)
    (case c8 => k_is)
    (case k8 => k_is)
    (case a9 => k_is)
    (case l9 => k_is)
    (case c9 => k_is)
    (case k9 => k_is)
    (case a10 => k_is)
    (case l10 => k_is)
    (case c10 => k_is)
    (case k10 => k_is)
    (case a11 => k_is)
    (case l11 => k_is)
    (case c11 => k_is)
    (case k11 => k_is)
    (case a12 => k_is)
    (case l12 => k_is)
    (case c12 => k_is)
    (case k12 => k_is)
    (case a13 => k_is)
    (case l13 => k_is)
    (case c13 => k_is)
    (case k13 => k_is)
    (case a14 => k_is)
    (case l14 => k_is)
    (case c14 => k_is)
    (case k14 => k_is)
    (case a15 => k_is)
    (case l15 => k_is)
    (case c15 => k_is)
    (case k15 => k_is)
    (case a16 => k_is)
    (case l16 => k_is)
    (case c16 => k_is)
    (case k16 => k_is)
    (case a17 => k_is)
    (case l17 => k_is)
    (case c17 => k_is)
    (case k17 => k_is)
    (case a18 => k_is)
    (case l18 => k_is)
    (case c18 => k_is)
    (case k18 => k_is)
    (case a19 => k_is)
    (case l19 => k_is)
    (case c19 => k_is)
    (case k19 => k_is)
    (case a20 => k_is)
    (case l20 => k_is)
    (case c20 => k_is)
    (case k20 => k_is)
    (case a21 => k_is)
    (case l21 => k_is)
    (case c21 => k_is)
    (case k21 => k_is)
    (case a22 => k_is)
    (case l22 => k_is)
    (case c22 => k_is)
    (case k22 => k_is)
    (case a23 => k_is)
    (case l23 => k_is)
    (case c23 => k_is)
    (case k23 => k_is)
    (case a24 => k_is)
    (case l24 => k_is)
    (case c24 => k_is)
    (case k24 => k_is)
    (case a25 => k_is)
    (case l25 => k_is)
    (case c25 => k_is)
    (case k25 => k_is)
    (case a26 => k_is)
    (case l26 => k_is)
    (case c26 => k_is)
    (case k26 => k_is)
    (case a27 => k_is)
    (case l27 => k_is)
    (case c27 => k_is)
    (case k27 => k_is)
    (case a28 => k_is)
    (case l28 => k_is)
    (case c28 => k_is)
    (case k28 => k_is)
    (case a29 => k_is)
    (case l29 => k_is)
    (case c29 => k_is)
    (case k29 => k_is)
    (case a30 => k_is)
    (case l30 => k_is)
    (case c30 => k_is)
    (case k30 => k_is)
    (case am1 => k_is)
    (case im1 => k_is)
    (case lm1 => k_is)
    (case cm1 => k_is)
    (case km1 => k_is)
    (case am2 => k_is)
    (case im2 => k_is)
    (case lm2 => k_is)
    (case cm2 => k_is)
    (case km2 => k_is)
    (case am3 => k_is)
    (case im3 => k_is)
    (case lm3 => k_is)
    (case cm3 => k_is)
    (case km3 => k_is)
    (case am4 => k_is)
    (case im4 => k_is)
    (case lm4 => k_is)
    (case cm4 => k_is)
    (case km4 => k_is)
    (case am5 => k_is)
    (case im5 => k_is)
    (case lm5 => k_is)
    (case cm5 => k_is)
    (case km5 => k_is)
    (case am6 => k_is)
    (case im6 => k_is)
    (case lm6 => k_is)
    (case cm6 => k_is)
    (case km6 => k_is)
    (case am7 => k_is)
    (case im7 => k_is)
    (case lm7 => k_is)
    (case cm7 => k_is)
    (case km7 => k_is)
    (case y1 => k_is)
    (case y2 => k_is)
    (case y3 => k_is)
    (case y4 => k_is)
    (case y5 => k_is)
    (case y6 => k_is)
    (case y7 => k_is)
    (case y8 => k_is)
    (case pg => k_is)
    (case hd => k_is)
    (case po => k_is)
    (case sa => k_is)
    (case mk => k_is)
    (case kc => k_is)
    (case n1 => k_is)
    (case n2 => k_is)
    (case n3 => k_is)
    (case n4 => k_is)
    (case xL => k_is)
    (case xR => rfl)
    (case xsa => k_is)
    (case xga => k_is)
    (case xgg => k_is)
    (case xnb => k_is)
    (case xt => k_is)
    (case xl => k_is)
    (case xc => k_is)
    (case xk => k_is)
    (case kC => k_is)
    (case eC => k_is)
    (case tC => k_is)
    (case hC => k_is)
    (case iC => k_is)
    (case sC => first | rfl | k_is)
    (case wgg => k_is)
    (case wrd => k_is)
    (case wV => k_is)
    (case lS => k_is)
    (case kl => exact ⟨⟨_, _, rfl, rfl⟩, ⟨_, _, rfl, rfl⟩, True.intro⟩)
    (case v1 => k_is)
    (case v2 => k_is)
    (case lN => k_is)
    (case eN => rfl)
    (case nN => kernel_rfl)
    (case lD => k_is)
    (case eD => rfl)
    (case nD => kernel_rfl)
    (case z1 => k_is)
    (case z2 => k_is)
    (case z3 => k_is)
    (case z4 => k_is)
    (case z5 => k_is)
    (case z6 => k_is)
    (case z7 => k_is)
    (case z8 => k_is)
    (case z9 => k_is)
    (case z10 => k_is)
    (case z11 => k_is)
