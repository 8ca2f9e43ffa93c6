import PyProof.Rows.All
import Wide.All
import OpenK.AllK
import Wide.FinOn
import HandS.Base
import HandS.Call
import HandS.List
import HandS.Words
import HandS.WordsList
import HandS.WordsDict
import HandS.Comp
import HandS.Dict
import HandS.Iter
import HandS.Ends
import HandS.IsInst
import HandS.Deep
import HandS.Style
import HandS.Flow
import HandS.TupAny
import HandS.SortInts
import HandS.EndTab
import KE.SortData
import HandS.ExcInit
import HandS.ExcField
import HandS.ExcOwn
import HandS.TryOnly
import HandS.WordsExc
import HandS.Text
import HandS.Codes
import HandS.Steps
import HandS.StrMore
import KE.IntTextLaws
import HandS.AnyAll
import PyProof.StrOps2
import HandS.WrittenGet
import PySem.Challenge.RW_wherewritten_k04_bounds_of_texts
import HandS.FStr
import HandS.Conv
import KE.KNest
set_option Elab.async false
set_option linter.all false
set_option maxRecDepth 100000
set_option maxHeartbeats 4000000
namespace Com
open PySem PySem.Spec PyProof.Rows L2
/-! data that are tuples all the way down -/
mutual
inductive Dt (H : Hp) : V → PyData → Prop
  | non : Dt H .non .none
  | bl (b : Bool) : Dt H (.bl b) (.bool b)
  | int (i : Int) : Dt H (.int i) (.int i)
  | str (x : Str) : Dt H (.str x) (.str x)
  | tup {a : Addr} {xs : List V} {ds : List PyData} : H a = some (.tup xs) → DtAll H xs ds → Dt H (.ref a) (.tuple ds)
inductive DtAll (H : Hp) : List V → List PyData → Prop
  | nil : DtAll H [] []
  | cons {v : V} {vs : List V} {d : PyData} {ds : List PyData} : Dt H v d → DtAll H vs ds → DtAll H (v :: vs) (d :: ds)
end
/-- the tuples stand -/
def Tk (H H' : Hp) : Prop := ∀ a xs, H a = some (.tup xs) → H' a = some (.tup xs)
theorem Tk.refl (H : Hp) : Tk H H := fun _ _ h => h
theorem Tk.trans {H1 H2 H3 : Hp} (a : Tk H1 H2) (b : Tk H2 H3) : Tk H1 H3 := fun c xs h => b c xs (a c xs h)
theorem Tk.upd {H : Hp} {a : Addr} {o : HO} (h : ∀ xs, H a ≠ some (.tup xs)) : Tk H (upd H a o) := fun b xs e => by
  have : b ≠ a := fun z => h xs (z ▸ e)
  rw [upd_ne this]
  exact e
theorem Tk.new {H : Hp} {a : Addr} {o : HO} (h : H a = none) : Tk H (L2.upd H a o) := Tk.upd fun xs e => by rw [h] at e; cases e
mutual
theorem Dt.mono {H H' : Hp} (k : Tk H H') : ∀ (d : PyData) (v : V), Dt H v d → Dt H' v d
  | .none, _, h => by cases h; exact .non
  | .bool _, _, h => by cases h; exact .bl _
  | .int _, _, h => by cases h; exact .int _
  | .str _, _, h => by cases h; exact .str _
  | .list _, _, h => by cases h
  | .tuple ds, _, h => by
    cases h with
    | tup e q => exact .tup (k _ _ e) (DtAll.mono k ds _ q)
  | .dict _, _, h => by cases h
theorem DtAll.mono {H H' : Hp} (k : Tk H H') : ∀ (ds : List PyData) (vs : List V), DtAll H vs ds → DtAll H' vs ds
  | [], _, h => by cases h; exact .nil
  | d :: ds, _, h => by
    cases h with
    | cons h1 h2 => exact .cons (Dt.mono k d _ h1) (DtAll.mono k ds _ h2)
end
theorem Dt.tk {H H' : Hp} {v : V} {d : PyData} (h : Dt H v d) (k : Tk H H') : Dt H' v d := Dt.mono k d v h
theorem DtAll.tk {H H' : Hp} {v : List V} {d : List PyData} (h : DtAll H v d) (k : Tk H H') : DtAll H' v d := DtAll.mono k d v h
mutual
theorem Dt.toDp {K : PySem.W.Frag} {H : Hp} : ∀ (d : PyData) (v : V), Dt H v d → Dp K H v d
  | .none, _, h => by cases h; exact .non
  | .bool _, _, h => by cases h; exact .bl _
  | .int _, _, h => by cases h; exact .int _
  | .str _, _, h => by cases h; exact .str _
  | .list _, _, h => by cases h
  | .tuple ds, _, h => by
    cases h with
    | tup e q => exact .tup (SqT.of e) (DtAll.toDp ds _ q)
  | .dict _, _, h => by cases h
theorem DtAll.toDp {K : PySem.W.Frag} {H : Hp} : ∀ (ds : List PyData) (vs : List V), DtAll H vs ds → DpAll K H vs ds
  | [], _, h => by cases h; exact .nil
  | d :: ds, _, h => by
    cases h with
    | cons h1 h2 => exact .cons (Dt.toDp d _ h1) (DtAll.toDp ds _ h2)
end
theorem Dt.dp {K : PySem.W.Frag} {H : Hp} {v : V} {d : PyData} (h : Dt H v d) : Dp K H v d := Dt.toDp d v h
theorem DtAll.dp {K : PySem.W.Frag} {H : Hp} {v : List V} {d : List PyData} (h : DtAll H v d) : DpAll K H v d := DtAll.toDp d v h
theorem DtAll.len {H : Hp} : ∀ {vs : List V} {ds : List PyData}, DtAll H vs ds → vs.length = ds.length
  | _, _, .nil => rfl
  | _, _, .cons _ h => congrArg (· + 1) h.len
theorem DtAll.get {H : Hp} : ∀ {vs : List V} {ds : List PyData} {i : Nat} {x : V}, DtAll H vs ds → vs[i]? = some x → ∃ d, ds[i]? = some d ∧ Dt H x d
  | _, _, _, _, .nil, e => by simp at e
  | _, _, 0, _, .cons h _, e => by
    simp at e
    subst e
    exact ⟨_, rfl, h⟩
  | _, _, i + 1, _, .cons _ t, e => by
    have e' := e
    simp only [List.getElem?_cons_succ] at e'
    obtain ⟨d, h1, h2⟩ := DtAll.get t e'
    exact ⟨d, by simpa using h1, h2⟩
theorem DtAll.at {H : Hp} {vs : List V} {ds : List PyData} {i : Nat} {d : PyData} (h : DtAll H vs ds) (e : ds[i]? = some d) : ∃ x, vs[i]? = some x ∧ Dt H x d := by
  have hi := (List.getElem?_eq_some_iff.mp e).1
  have hv : i < vs.length := by rw [h.len]; exact hi
  obtain ⟨d', e', q⟩ := h.get (List.getElem?_eq_getElem hv)
  rw [e] at e'
  cases e'
  exact ⟨_, List.getElem?_eq_getElem hv, q⟩
theorem DtAll.get_map {H : Hp} {α : Type} {f : α → PyData} {l : List α} {vs : List V} {i : Nat} {x : V} (h : DtAll H vs (l.map f)) (e : vs[i]? = some x) : ∃ a, l[i]? = some a ∧ Dt H x (f a) := by
  obtain ⟨d, h1, h2⟩ := h.get e
  rw [List.getElem?_map] at h1
  cases q : l[i]? with
  | none => rw [q] at h1; cases h1
  | some a =>
    rw [q] at h1
    cases h1
    exact ⟨a, rfl, h2⟩
theorem DtAll.app {H : Hp} : ∀ {vs ws : List V} {ds es : List PyData}, DtAll H vs ds → DtAll H ws es → DtAll H (vs ++ ws) (ds ++ es)
  | _, _, _, _, .nil, s => s
  | _, _, _, _, .cons r t, s => .cons r (t.app s)
theorem DtAll.one {H : Hp} {v : V} {d : PyData} (h : Dt H v d) : DtAll H [v] [d] := .cons h .nil
theorem Dt.intE {H : Hp} {v : V} {i : Int} (h : Dt H v (.int i)) : v = .int i := by cases h; rfl
theorem Dt.strE {H : Hp} {v : V} {x : Str} (h : Dt H v (.str x)) : v = .str x := by cases h; rfl
theorem Dt.nonE {H : Hp} {v : V} (h : Dt H v .none) : v = .non := by cases h; rfl
theorem Dt.blE {H : Hp} {v : V} {b : Bool} (h : Dt H v (.bool b)) : v = .bl b := by cases h; rfl
theorem Dt.tupE {H : Hp} {v : V} {ds : List PyData} (h : Dt H v (.tuple ds)) : ∃ a xs, v = .ref a ∧ H a = some (.tup xs) ∧ DtAll H xs ds := by
  cases h with
  | tup e q => exact ⟨_, _, rfl, e, q⟩
theorem DtAll.consE {H : Hp} {vs : List V} {d : PyData} {ds : List PyData} (h : DtAll H vs (d :: ds)) : ∃ x r, vs = x :: r ∧ Dt H x d ∧ DtAll H r ds := by
  cases h with
  | cons h1 h2 => exact ⟨_, _, rfl, h1, h2⟩
theorem DtAll.nilE {H : Hp} {vs : List V} (h : DtAll H vs []) : vs = [] := by cases h; rfl
/-! == of data without truth values is their being one -/
mutual
def pl : PyData → Bool
  | .none | .int _ | .str _ => true
  | .bool _ | .dict _ => false
  | .list xs | .tuple xs => plAll xs
def plAll : List PyData → Bool
  | [] => true
  | x :: xs => pl x && plAll xs
end
mutual
theorem eqv_pl : ∀ (d e : PyData), pl d = true → pl e = true → (PyData.eqv d e = true ↔ d = e)
  | .none, e, _, h => by cases e <;> simp [PyData.eqv, pl] at h ⊢
  | .int i, e, _, h => by cases e <;> simp [PyData.eqv, pl] at h ⊢
  | .str i, e, _, h => by cases e <;> simp [PyData.eqv, pl] at h ⊢
  | .bool b, _, h, _ => by simp [pl] at h
  | .dict b, _, h, _ => by simp [pl] at h
  | .list xs, e, h, h' => by
    cases e with
    | list ys =>
      have q := eqvAll_pl xs ys (by simpa [pl] using h) (by simpa [pl] using h')
      simp only [PyData.eqv, PyData.list.injEq]
      exact q
    | _ => simp [PyData.eqv]
  | .tuple xs, e, h, h' => by
    cases e with
    | tuple ys =>
      have q := eqvAll_pl xs ys (by simpa [pl] using h) (by simpa [pl] using h')
      simp only [PyData.eqv, PyData.tuple.injEq]
      exact q
    | _ => simp [PyData.eqv]
theorem eqvAll_pl : ∀ (d e : List PyData), plAll d = true → plAll e = true → (PyData.eqvAll d e = true ↔ d = e)
  | [], e, _, _ => by cases e <;> simp [PyData.eqvAll]
  | x :: xs, [], _, _ => by simp [PyData.eqvAll]
  | x :: xs, y :: ys, h, h' => by
    simp only [plAll, Bool.and_eq_true] at h h'
    simp only [PyData.eqvAll, Bool.and_eq_true, List.cons.injEq]
    rw [eqv_pl x y h.1 h'.1, eqvAll_pl xs ys h.2 h'.2]
end
theorem any_pl {ds : List PyData} {d : PyData} (h : plAll ds = true) (hd : pl d = true) : (ds.any fun z => PyData.eqv z d) = true ↔ d ∈ ds := by
  induction ds with
  | nil => simp
  | cons x xs ih =>
    simp only [plAll, Bool.and_eq_true] at h
    rw [List.any_cons, Bool.or_eq_true, ih h.2, eqv_pl x d h.1 hd, List.mem_cons]
    constructor
    · rintro (q | q)
      · exact .inl q.symm
      · exact .inr q
    · rintro (q | q)
      · exact .inl q.symm
      · exact .inr q
/-! in, not in, of a tuple of data -/
section
variable {X : Cx}
def rInT (K : PySem.W.Frag) : R2 := fun x y H Q => ∃ d ds, Dp K H x d ∧ Dp K H y (.tuple ds) ∧ SeqAt.shaped d = true ∧ SeqAt.shaped (.tuple ds) = true ∧ Q (.bl (ds.any fun z => PyData.eqv z d)) H
def rNotInT (K : PySem.W.Frag) : R2 := fun x y H Q => ∃ d ds, Dp K H x d ∧ Dp K H y (.tuple ds) ∧ SeqAt.shaped d = true ∧ SeqAt.shaped (.tuple ds) = true ∧ Q (.bl (!ds.any fun z => PyData.eqv z d)) H
theorem room_in {A : Around} {d : PyData} {ds : List PyData} (sd : SeqAt.shaped d = true) (hu : A.units + 65 < cLine) : A.units + 1 + min (PyData.depthAll ds) d.depth < cLine := by
  have h : d.depth ≤ 64 := by
    have q : (d.canLay0 && decide (d.depth ≤ 64)) = true := sd
    rw [Bool.and_eq_true] at q
    exact of_decide_eq_true q.2
  have := Nat.min_le_right (PyData.depthAll ds) d.depth
  omega
theorem op_inT (hu : X.A.units + 65 < cLine) : OpR X (compareOp .In) (rInT X.K) := by
  intro pins s σ H x y v u Q I rx ry h
  obtain ⟨d, ds, hd, he, sd, se, q⟩ := h
  obtain ⟨as, r1⟩ := Dp.reads I d x v hd rx
  obtain ⟨bs, r2⟩ := Dp.reads I (.tuple ds) y u he ry
  exact SeqAt.in_tuple_reads r2 r1 (SeqAt.canLay_of_shaped se) (SeqAt.canLay_of_shaped sd) (room_in sd hu) ⟨.bl _, H, I, rfl, q⟩
theorem op_notInT (hu : X.A.units + 65 < cLine) : OpR X (compareOp .NotIn) (rNotInT X.K) := by
  intro pins s σ H x y v u Q I rx ry h
  obtain ⟨d, ds, hd, he, sd, se, q⟩ := h
  obtain ⟨as, r1⟩ := Dp.reads I d x v hd rx
  obtain ⟨bs, r2⟩ := Dp.reads I (.tuple ds) y u he ry
  exact SeqAt.notIn_tuple_reads r2 r1 (SeqAt.canLay_of_shaped se) (SeqAt.canLay_of_shaped sd) (room_in sd hu) ⟨.bl _, H, I, rfl, q⟩
theorem units65 {k : Nat} {A : Around} (r : Room k A) : A.units + 65 < cLine := by have := r.un; omega
end
end Com
set_option Elab.async false
set_option linter.all false
set_option maxRecDepth 100000
set_option maxHeartbeats 4000000
namespace Com
open PySem PySem.Spec PyProof.Rows L2
theorem b_len : bootBuiltins "len" = some (.builtin "len") := by decide +kernel
theorem b_abs : bootBuiltins "abs" = some (.builtin "abs") := by decide +kernel
theorem b_int : bootBuiltins "int" = some (.type "int") := by decide +kernel
theorem b_bool : bootBuiltins "bool" = some (.type "bool") := by decide +kernel
theorem b_str : bootBuiltins "str" = some (.type "str") := by decide +kernel
theorem b_tuple : bootBuiltins "tuple" = some (.type "tuple") := by decide +kernel
theorem b_list : bootBuiltins "list" = some (.type "list") := by decide +kernel
theorem b_dict : bootBuiltins "dict" = some (.type "dict") := by decide +kernel
theorem b_range : bootBuiltins "range" = some (.type "range") := by decide +kernel
theorem b_enumerate : bootBuiltins "enumerate" = some (.type "enumerate") := by decide +kernel
theorem b_isinstance : bootBuiltins "isinstance" = some (.builtin "isinstance") := by decide +kernel
theorem b_sorted : bootBuiltins "sorted" = some (.builtin "sorted") := by decide +kernel
theorem b_any : bootBuiltins "any" = some (.builtin "any") := by decide +kernel
theorem b_all : bootBuiltins "all" = some (.builtin "all") := by decide +kernel
theorem b_max : bootBuiltins "max" = some (.builtin "max") := by decide +kernel
theorem b_min : bootBuiltins "min" = some (.builtin "min") := by decide +kernel
/-! defs by name -/
structure Dfn (K : PySem.W.Frag) (mg : Str → Option Value) (x : Str) (st : Stmt) (f : Addr) (fd : FuncData) (ps : List Str) : Prop where
  fn : Fun K x x st f fd
  mgf : mg x = some (.ref f)
  b : Binds K fd ps []
def Cal (P : Program) (w : World) (K : PySem.W.Frag) (mg : Str → Option Value) (base : Heap) (k : Nat) (x : Str) (sp : Sp) : Prop :=
  ∃ (f : Addr) (fd : FuncData) (ps : List Str), FnOk P w K mg base CX0 k f fd ps sp ∧ mg x = some (.ref f) ∧ PySem.W.keepIn K (.ref f) = true ∧ Binds K fd ps []
section
variable {P : Program} {w : World} {K : PySem.W.Frag} {mg : Str → Option Value} {base : Heap}
theorem Cal.mono {j k : Nat} {x : Str} {sp : Sp} (c : Cal P w K mg base j x sp) (h : j ≤ k) : Cal P w K mg base k x sp := by
  obtain ⟨f, fd, ps, F, r⟩ := c
  exact ⟨f, fd, ps, F.mono h, r⟩
theorem Cal.imp {k : Nat} {x : Str} {sp sp' : Sp} (c : Cal P w K mg base k x sp) (h : ∀ vs H Q E, sp' vs H Q E → sp vs H Q E) : Cal P w K mg base k x sp' := by
  obtain ⟨f, fd, ps, F, r⟩ := c
  exact ⟨f, fd, ps, F.imp h, r⟩
theorem cal_mk {x : Str} {st : Stmt} {f : Addr} {fd : FuncData} {N ps : List Str} {k : Nat} {sp : Sp} (F : Dfn K mg x st f fd ps) (S : FnScope N ps (defScope st)) (len : ∀ vs H Q E, sp vs H Q E → vs.length = ps.length)
    (hbody : ∀ (cdv : Value) (A : Around) (outer : List Env) (s : Shared) (H : Hp) (vs : List V) (Q : VK) (E : XK), Room k (A.deeper (envOfC x (defScope st) s.heap.objs.size f cdv)) → sp vs H Q E →
      ∃ t, PSs (cxOf CX0 P w K mg base N x (defScope st) f cdv A outer s H E).nox (defBody st) t ∧ t { nx := fun _ H' => Q .non H', rt := Q } (start N vs) H) : Cal P w K mg base (k + 1) x sp :=
  ⟨f, fd, ps, F.fn.ok S len hbody, F.mgf, F.fn.kp, F.b⟩
end
section
variable {X : Cx} {k j : Nat} {x : Str} {sp : Sp} {p pos : Pos} {e : Expr} {es : List Expr} {t : TA}
theorem pe_c (c : Cal X.prog X.w X.K X.mg X.base k x sp) (hr : Room j X.A) (hk : k ≤ j) (hg : Gl X x) (ha : PA X (e :: es) t)
    (hdb : (x == ("__debug__" : Str)) = false := by decide) (he : starEach (e :: es) X.env = (false, eval e X.env) :: starEach es X.env := by rfl) (hpl : (backTo pos (starEach es X.env)).any (·.1) = false := by rfl) :
    PE X (.Call (.Name x p) (e :: es) [] pos) (tCall sp [] E0 t) := by
  obtain ⟨f, fd, ps, F, hm, kp, b⟩ := c
  exact pe_call F (hr.mono hk) hg hm kp b .nil pass0 ha hdb he hpl
end
/-! sorted of a list of data -/
section
variable {X : Cx}
def rSortedD (K : PySem.W.Frag) : List V → Hp → VK → Prop := fun xs H Q => ∃ (a : Addr) (vs : List V) (ds : List PyData), xs = [.ref a] ∧ SqL K H a vs ∧ DpAll K H vs ds ∧ PySem.W.AllAlike ds ∧ PySem.W.Sortable ds ∧ (∀ d ∈ ds, d.depth ≤ 8) ∧
  ∀ p, H p = none → Q (.ref p) (upd H p (.lst (((vs.zip ds).mergeSort (PySem.W.dataLe false Prod.snd)).map Prod.fst)))
theorem each_zip {h : Heap} : ∀ {vs : List V} {us : List Value} {ds : List PyData}, Vals vs us → vs.length = ds.length → PySem.W.EachIs (fun (v : Value) (b : V × PyData) => RelV b.1 v) us (vs.zip ds)
  | _, _, [], .nil, _ => .nil
  | _, _, d :: ds, .cons r t, e => .cons r (each_zip (h := h) t (by simpa using e))
theorem each_zip_reads {h : Heap} : ∀ {vs : List V} {us : List Value} {ds : List PyData} {as : List Addr}, vs.length = ds.length → ReadsAll h us ds as → PySem.W.EachIs (fun (v : Value) (b : V × PyData) => ∃ as, Reads h v b.2 as) us (vs.zip ds)
  | [], _, [], _, _, r => by cases r; exact .nil
  | v :: vs, _, d :: ds, _, e, r => by
    cases r with
    | cons h1 h2 => exact .cons ⟨_, h1⟩ (each_zip_reads (by simpa using e) h2)
theorem vals_of_each : ∀ {out : List Value} {bs : List (V × PyData)}, PySem.W.EachIs (fun (v : Value) (b : V × PyData) => RelV b.1 v) out bs → Vals (bs.map Prod.fst) out
  | _, _, .nil => .nil
  | _, _, .cons h t => .cons h (vals_of_each t)
theorem zip_snd {vs : List V} {ds : List PyData} (e : vs.length = ds.length) : (vs.zip ds).map Prod.snd = ds := by
  rw [List.map_snd_zip]
  omega
theorem DpAll_len {K : PySem.W.Frag} {H : Hp} : ∀ {vs : List V} {ds : List PyData}, DpAll K H vs ds → vs.length = ds.length
  | _, _, .nil => rfl
  | _, _, .cons _ h => congrArg (· + 1) (DpAll_len h)
theorem call_sortedD (hu : X.A.units + 65 < cLine) : CallR X (.builtin "sorted") (rSortedD X.K) := by
  intro pins s σ H xs us Q I r h
  obtain ⟨a, vs, ds, rfl, hl, hd, hal, hk, hdp, q⟩ := h
  obtain ⟨u, rfl, ru⟩ := vals1 r
  cases (show u = Value.ref a from ru)
  obtain ⟨its, rv, pl, hlen⟩ := I.list hl
  obtain ⟨as, rd⟩ := Dp.readsAll I ds vs its hd rv
  have el := DpAll_len hd
  have es := zip_snd el
  refine PySem.W.sorted_data (R := fun (v : Value) (b : V × PyData) => RelV b.1 v) (enc := Prod.snd) (bs := vs.zip ds) (vs := its) pl.isList (each_zip (h := s.heap) rv el) (each_zip_reads el rd) (by rw [es]; exact hal) (by rw [es]; exact hk) (by rw [List.length_zip]; omega) (fun b hb => ?_) fun out ho eo => ?_
  · have hb2 : b.2 ∈ ds := by
      rw [← es]
      exact List.mem_map.mpr ⟨b, hb, rfl⟩
    have := hdp _ hb2
    omega
  · obtain ⟨ep, he'⟩ := PyProof.Rows.sortedAll_at s.heap its (List.toArray out)
    refine ⟨.ref _, upd H (s.heap.objs.size + 1) (.lst (((vs.zip ds).mergeSort (PySem.W.dataLe false Prod.snd)).map Prod.fst)), I.laid (t' := s.toks) (fun _ _ => PyProof.Rows.sortedAll_old) (Nat.le_succ _) ⟨?_, out, ep, vals_of_each eo, he'⟩, rfl, q _ (I.hok.fresh (Nat.le_succ _))⟩
    rw [List.length_map, List.length_mergeSort, List.length_zip]
    omega
end
/-! sorted lists told by what they are made of -/
theorem DtAll.of_pairs {H : Hp} {α : Type} {f : α → PyData} : ∀ {zs : List (V × α)}, (∀ z ∈ zs, Dt H z.1 (f z.2)) → DtAll H (zs.map Prod.fst) ((zs.map Prod.snd).map f)
  | [], _ => .nil
  | z :: zs, h => .cons (h z List.mem_cons_self) (DtAll.of_pairs fun y hy => h y (List.mem_cons_of_mem _ hy))
theorem DtAll.pairs {H : Hp} {α : Type} {f : α → PyData} : ∀ {vs : List V} {l : List α}, DtAll H vs (l.map f) → ∀ z ∈ vs.zip l, Dt H z.1 (f z.2)
  | [], _, _, z, hz => by simp at hz
  | v :: vs, [], h, z, hz => by simp at hz
  | v :: vs, a :: l, h, z, hz => by
    have h' : DtAll H (v :: vs) (f a :: l.map f) := h
    cases h' with
    | cons h1 h2 =>
      rw [List.zip_cons_cons] at hz
      rcases List.mem_cons.mp hz with e | hz
      · rw [e]; exact h1
      · exact DtAll.pairs h2 z hz
theorem zip_map_r {α β γ : Type} (f : β → γ) : ∀ (vs : List α) (l : List β), vs.zip (l.map f) = (vs.zip l).map fun p => (p.1, f p.2)
  | [], _ => by simp
  | _ :: _, [] => by simp
  | v :: vs, a :: l => by simp [zip_map_r f vs l]
/-- the list of an encoded list, sorted, stands for the sorted list -/
theorem sorted_enc {H : Hp} {α : Type} {f : α → PyData} {vs : List V} {l : List α} (h : DtAll H vs (l.map f)) :
    DtAll H (((vs.zip (l.map f)).mergeSort (PySem.W.dataLe false Prod.snd)).map Prod.fst) ((l.mergeSort (PySem.W.dataLe false f)).map f) := by
  have el : vs.length = l.length := by rw [h.len, List.length_map]
  rw [zip_map_r]
  rw [← PySem.W.sort_maps (r := PySem.W.dataLe false fun p : V × α => f p.2) (s := PySem.W.dataLe false Prod.snd) (fun p : V × α => (p.1, f p.2)) (fun _ _ _ _ => rfl), List.map_map]
  have e2 : (l.mergeSort (PySem.W.dataLe false f)) = ((vs.zip l).mergeSort (PySem.W.dataLe false fun p : V × α => f p.2)).map Prod.snd := by
    rw [PySem.W.sort_maps (r := PySem.W.dataLe false fun p : V × α => f p.2) (s := PySem.W.dataLe false f) Prod.snd (fun _ _ _ _ => rfl), List.map_snd_zip (by omega)]
  rw [e2]
  exact DtAll.of_pairs fun z hz => DtAll.pairs h z (by rw [List.mem_mergeSort] at hz; exact hz)
/-- lists of whole numbers -/
def natV (l : List Nat) : List V := l.map fun n => .int (n : Nat)
theorem nat_dt (H : Hp) : ∀ l : List Nat, DtAll H (natV l) (l.map fun n => .int (n : Nat))
  | [] => .nil
  | n :: l => .cons (.int _) (nat_dt H l)
theorem dt_nat {H : Hp} : ∀ {l : List Nat} {vs : List V}, DtAll H vs (l.map fun n => PyData.int (n : Nat)) → vs = natV l
  | [], _, h => by cases h; rfl
  | n :: l, _, h => by
    have h' : DtAll H _ (PyData.int (n : Nat) :: l.map fun n => PyData.int (n : Nat)) := h
    cases h' with
    | cons h1 h2 =>
      rw [h1.intE, dt_nat h2]
      rfl
theorem natV_get {l : List Nat} {i : Nat} {v : V} (h : (natV l)[i]? = some v) : ∃ n, l[i]? = some n ∧ v = .int (n : Nat) := by
  unfold natV at h
  rw [List.getElem?_map] at h
  cases e : l[i]? with
  | none => rw [e] at h; cases h
  | some n => rw [e] at h; exact ⟨n, rfl, (Option.some.inj h).symm⟩
theorem natV_at {l : List Nat} {i n : Nat} (h : l[i]? = some n) : (natV l)[i]? = some (.int (n : Nat)) := by
  unfold natV
  rw [List.getElem?_map, h]
  rfl
theorem natV_app (l m : List Nat) : natV (l ++ m) = natV l ++ natV m := List.map_append
theorem natV_len (l : List Nat) : (natV l).length = l.length := List.length_map _
/-! rules with the written part named: for comprehensions' blocks, too -/
section
variable {X : Cx} (K : PySem.W.Frag)
theorem ixT (h : X.K = K) : IxR X (rIxT K) := h ▸ ix_tup
theorem ixL (h : X.K = K) : IxR X (rIxL K) := h ▸ ix_list
theorem ixQ (h : X.K = K) : IxR X (rIx K) := h ▸ ix_seq
theorem opInT (h : X.K = K) (hu : X.A.units + 65 < cLine) : OpR X (compareOp .In) (rInT K) := h ▸ op_inT hu
theorem opNotInT (h : X.K = K) (hu : X.A.units + 65 < cLine) : OpR X (compareOp .NotIn) (rNotInT K) := h ▸ op_notInT hu
theorem opInD (h : X.K = K) (hu : X.A.units + 65 < cLine) : OpR X (compareOp .In) (rInD K) := h ▸ op_inD hu
theorem opNotInD (h : X.K = K) (hu : X.A.units + 65 < cLine) : OpR X (compareOp .NotIn) (rNotInD K) := h ▸ op_notInD hu
theorem opEqD (h : X.K = K) (hu : X.A.units + 64 < cLine) : OpR X (compareOp .Eq) (rEqD K) := h ▸ op_eqD hu
theorem opNeD (h : X.K = K) (hu : X.A.units + 64 < cLine) : OpR X (compareOp .NotEq) (rNeD K) := h ▸ op_neD hu
theorem opCatT (h : X.K = K) : OpR X (binaryOp .Add) (rCatT K) := h ▸ op_catT
def rLen (K : PySem.W.Frag) : List V → Hp → VK → Prop := fun xs H Q => ∃ p ys, xs = [.ref p] ∧ (SqL K H p ys ∨ SqT K H p ys) ∧ Q (.int ys.length) H
theorem cLen (h : X.K = K) : CallR X (.builtin "len") (rLen K) := h ▸ call_len_seq
def rListOf (K : PySem.W.Frag) : List V → Hp → VK → Prop := fun xs H Q => ∃ p ys, xs = [.ref p] ∧ (SqL K H p ys ∨ SqT K H p ys) ∧ ∀ l, H l = none → Q (.ref l) (upd H l (.lst ys))
theorem cList (h : X.K = K) : CallR X (.type "list") (rListOf K) := h ▸ call_list_of
def rTupOf (K : PySem.W.Frag) : List V → Hp → VK → Prop := fun xs H Q => ∃ p ys, xs = [.ref p] ∧ ((SqL K H p ys ∧ ∀ l, H l = none → Q (.ref l) (upd H l (.tup ys))) ∨ (SqT K H p ys ∧ Q (.ref p) H))
theorem cTup (h : X.K = K) : CallR X (.type "tuple") (rTupOf K) := h ▸ call_tuple_of
theorem cSort (h : X.K = K) (hu : X.A.units + 65 < cLine) : CallR X (.builtin "sorted") (rSortedD K) := h ▸ call_sortedD hu
theorem cIsi (h : X.K = K) : CallR X (.builtin "isinstance") (rIsi K) := h ▸ call_isi
theorem slT (h : X.K = K) : SlR X (rSlT K) := h ▸ sl_tup
theorem slA (h : X.K = K) : SlR X (rSlA K) := h ▸ sl_tupA
end
/-! small lemmas -/
def Sq (K : PySem.W.Frag) (H : Hp) (a : Addr) (xs : List V) : Prop := SqL K H a xs ∨ SqT K H a xs
theorem ixq {K : PySem.W.Frag} {H : Hp} {a : Addr} {xs : List V} {i : Int} {v : V} {Q : VK} (h : Sq K H a xs) (e : atI xs i = some v) (q : Q v H) : rIx K (.ref a) (.int i) H Q :=
  h.elim (fun h => .inl ⟨a, xs, i, v, rfl, rfl, h, e, q⟩) fun h => .inr (.inl ⟨a, xs, i, v, rfl, rfl, h, e, q⟩)
theorem atN {xs : List V} {i : Nat} {v : V} (h : xs[i]? = some v) : atI xs (i : Int) = some v := atI_nat h
theorem same_upd {H : Hp} {p : Addr} {o : HO} (h : H p = none) : Same H (upd H p o) := fun b x e => by rw [upd_ne (ne_of_none e h)]; exact e
theorem same_tk {H H' : Hp} (h : Same H H') : Tk H H' := fun a xs e => h a _ e
theorem same_sqT {K : PySem.W.Frag} {H H' : Hp} {a : Addr} {xs : List V} (e : Same H H') (h : SqT K H a xs) : SqT K H' a xs := by
  rcases h with h | h
  · rcases h with h | ⟨o, h⟩
    · exact .inl (.inl (e _ _ h))
    · exact .inl (.inr ⟨o, e _ _ h⟩)
  · exact .inr h
theorem same_sq {K : PySem.W.Frag} {H H' : Hp} {a : Addr} {xs : List V} (e : Same H H') (h : Sq K H a xs) : Sq K H' a xs := h.elim (fun h => .inl (e.seq h)) fun h => .inr (same_sqT e h)
end Com
set_option Elab.async false
set_option linter.all false
set_option maxRecDepth 100000
set_option maxHeartbeats 4000000
namespace Com
open PySem PySem.Spec PyProof.Rows L2
mutual
theorem Dp.same {K : PySem.W.Frag} {H H' : Hp} (k : Same H H') : ∀ (d : PyData) (v : V), Dp K H v d → Dp K H' v d
  | .none, _, h => by cases h; exact .non
  | .bool _, _, h => by cases h; exact .bl _
  | .int _, _, h => by cases h; exact .int _
  | .str _, _, h => by cases h; exact .str _
  | .list ds, _, h => by
    cases h with
    | lst e q => exact .lst (k.seq e) (DpAll.same k ds _ q)
  | .tuple ds, _, h => by
    cases h with
    | tup e q => exact .tup (same_sqT k e) (DpAll.same k ds _ q)
  | .dict _, _, h => by cases h
theorem DpAll.same {K : PySem.W.Frag} {H H' : Hp} (k : Same H H') : ∀ (ds : List PyData) (vs : List V), DpAll K H vs ds → DpAll K H' vs ds
  | [], _, h => by cases h; exact .nil
  | d :: ds, _, h => by
    cases h with
    | cons h1 h2 => exact .cons (Dp.same k d _ h1) (DpAll.same k ds _ h2)
end
mutual
/-- no list in it is huge -/
def smD : PyData → Bool
  | .list xs | .tuple xs => decide (xs.length ≤ 1000000) && smAll xs
  | .none | .bool _ | .int _ | .str _ | .dict _ => true
def smAll : List PyData → Bool
  | [] => true
  | x :: xs => smD x && smAll xs
end
theorem smAll_mem : ∀ {ds : List PyData} {d : PyData}, smAll ds = true → d ∈ ds → smD d = true
  | x :: xs, d, h, hm => by
    simp only [smAll, Bool.and_eq_true] at h
    rcases List.mem_cons.mp hm with e | hm
    · rw [e]; exact h.1
    · exact smAll_mem h.2 hm
theorem smAll_map {α : Type} {f : α → PyData} (hf : ∀ x, smD (f x) = true) : ∀ l : List α, smAll (l.map f) = true
  | [] => rfl
  | a :: l => by simp [smAll, hf a, smAll_map hf l]
theorem DpAll.getE {K : PySem.W.Frag} {H : Hp} : ∀ {vs : List V} {ds : List PyData} {i : Nat} {x : V}, DpAll K H vs ds → vs[i]? = some x → ∃ d, ds[i]? = some d ∧ Dp K H x d
  | _, _, _, _, .nil, e => by simp at e
  | _, _, 0, _, .cons h _, e => by
    simp at e
    subst e
    exact ⟨_, rfl, h⟩
  | _, _, i + 1, _, .cons _ t, e => by
    simp only [List.getElem?_cons_succ] at e
    obtain ⟨d, h1, h2⟩ := DpAll.getE t e
    exact ⟨d, by simpa using h1, h2⟩
theorem depth_mem : ∀ {ds : List PyData} {d : PyData}, d ∈ ds → d.depth ≤ PyData.depthAll ds
  | x :: xs, d, h => by
    simp only [PyData.depthAll]
    rcases List.mem_cons.mp h with e | h
    · rw [e]; omega
    · have := depth_mem h
      omega
theorem depAll_map {α : Type} {f : α → PyData} {n : Nat} (hf : ∀ x, (f x).depth ≤ n) : ∀ l : List α, PyData.depthAll (l.map f) ≤ n
  | [] => by simp [PyData.depthAll]
  | a :: l => by
    have h1 := hf a
    have h2 := depAll_map hf l
    simp only [List.map_cons, PyData.depthAll]
    omega
theorem k_bb : kitB "bool" "bool" = some true := by decide +kernel
theorem k_ib : kitB "int" "bool" = some false := by decide +kernel
theorem k_ii : kitB "int" "int" = some true := by decide +kernel
theorem k_sb : kitB "str" "bool" = some false := by decide +kernel
theorem k_si : kitB "str" "int" = some false := by decide +kernel
theorem k_ss : kitB "str" "str" = some true := by decide +kernel
theorem k_tb : kitB "tuple" "bool" = some false := by decide +kernel
theorem k_ti : kitB "tuple" "int" = some false := by decide +kernel
theorem k_ts : kitB "tuple" "str" = some false := by decide +kernel
theorem k_tt : kitB "tuple" "tuple" = some true := by decide +kernel
theorem k_tl : kitB "tuple" "list" = some false := by decide +kernel
theorem k_lb : kitB "list" "bool" = some false := by decide +kernel
theorem k_li : kitB "list" "int" = some false := by decide +kernel
theorem k_ls : kitB "list" "str" = some false := by decide +kernel
theorem k_lt : kitB "list" "tuple" = some false := by decide +kernel
theorem k_ll : kitB "list" "list" = some true := by decide +kernel
theorem tyT {K : PySem.W.Frag} {H : Hp} {a : Addr} {xs : List V} (h : SqT K H a xs) : TyX K H (.ref a) (.type "tuple") := by
  rcases h with (h | ⟨o, h⟩) | ⟨o, its, n, h, hc, _⟩
  · exact .base (.tup h)
  · exact .fTuple h
  · exact .kTuple h hc
theorem tyL {K : PySem.W.Frag} {H : Hp} {a : Addr} {xs : List V} (h : SqL K H a xs) : TyX K H (.ref a) (.type "list") := by
  rcases h with (h | ⟨o, h⟩) | ⟨o, its, n, h, hc, _⟩
  · exact .base (.lst h)
  · exact .base (.frz h)
  · exact .kList h hc
theorem cAll {X : Cx} (K : PySem.W.Frag) (h : X.K = K) (hc : X.calm = true := by rfl) : CallR X (.builtin "all") (rAll K) := h ▸ cr_all hc
end Com
set_option Elab.async false
set_option linter.all false
set_option maxRecDepth 100000
set_option maxHeartbeats 4000000
namespace Com
open PySem PySem.Spec PyProof.Rows L2
/-! methods, and defs that may raise, by name -/
def CalM (CX : CXT) (P : Program) (w : World) (K : PySem.W.Frag) (mg : Str → Option Value) (base : Heap) (k : Nat) (C : Addr) (m : Str) (sp : Sp) : Prop :=
  ∃ (f : Addr) (fd : FuncData) (ps : List Str), FnOk P w K mg base CX k f fd ps sp ∧ Meth K C m f ∧ Binds K fd ps []
def CalX (P : Program) (w : World) (K : PySem.W.Frag) (mg : Str → Option Value) (base : Heap) (k : Nat) (x : Str) (sp : Sp) : Prop :=
  ∃ (f : Addr) (fd : FuncData) (ps : List Str), FnOk P w K mg base (L2.CX P w) k f fd ps sp ∧ mg x = some (.ref f) ∧ PySem.W.keepIn K (.ref f) = true ∧ Binds K fd ps []
/-- a method of the text -/
structure DfnM (K : PySem.W.Frag) (C : Addr) (m qual : Str) (st : Stmt) (f : Addr) (fd : FuncData) (ps : List Str) : Prop where
  fn : Fun K m qual st f fd
  me : Meth K C m f
  b : Binds K fd ps []
section
variable {P : Program} {w : World} {K : PySem.W.Frag} {mg : Str → Option Value} {base : Heap} {C : Addr}
theorem CalM.mono {CX : CXT} {j k : Nat} {x : Str} {sp : Sp} (c : CalM CX P w K mg base j C x sp) (h : j ≤ k) : CalM CX P w K mg base k C x sp := by
  obtain ⟨f, fd, ps, F, r⟩ := c
  exact ⟨f, fd, ps, F.mono h, r⟩
theorem calm_mk {m qual : Str} {st : Stmt} {f : Addr} {fd : FuncData} {N ps : List Str} {k : Nat} {sp : Sp} (F : DfnM K C m qual st f fd ps) (S : FnScope N ps (defScope st)) (len : ∀ vs H Q E, sp vs H Q E → vs.length = ps.length)
    (hbody : ∀ (cdv : Value) (A : Around) (outer : List Env) (s : Shared) (H : Hp) (vs : List V) (Q : VK) (E : XK), Room k (A.deeper (envOfC qual (defScope st) s.heap.objs.size f cdv)) → sp vs H Q E →
      ∃ t, PSs (cxOf CX0 P w K mg base N qual (defScope st) f cdv A outer s H E).nox (defBody st) t ∧ t { nx := fun _ H' => Q .non H', rt := Q } (start N vs) H) : CalM CX0 P w K mg base (k + 1) C m sp :=
  ⟨f, fd, ps, F.fn.ok S len hbody, F.me, F.b⟩
theorem calm_mkX {m qual : Str} {st : Stmt} {f : Addr} {fd : FuncData} {N ps : List Str} {k : Nat} {sp : Sp} (F : DfnM K C m qual st f fd ps) (S : FnScope N ps (defScope st)) (len : ∀ vs H Q E, sp vs H Q E → vs.length = ps.length)
    (hbody : ∀ (cdv : Value) (A : Around) (outer : List Env) (s : Shared) (H : Hp) (vs : List V) (Q : VK) (E : XK), Room k (A.deeper (envOfC qual (defScope st) s.heap.objs.size f cdv)) → sp vs H Q E →
      ∃ t, PSs (cxOf (L2.CX P w) P w K mg base N qual (defScope st) f cdv A outer s H E) (defBody st) t ∧ t { nx := fun _ H' => Q .non H', rt := Q } (start N vs) H) : CalM (L2.CX P w) P w K mg base (k + 1) C m sp :=
  ⟨f, fd, ps, F.fn.okX S len hbody, F.me, F.b⟩
theorem cal_mkX {x : Str} {st : Stmt} {f : Addr} {fd : FuncData} {N ps : List Str} {k : Nat} {sp : Sp} (F : Dfn K mg x st f fd ps) (S : FnScope N ps (defScope st)) (len : ∀ vs H Q E, sp vs H Q E → vs.length = ps.length)
    (hbody : ∀ (cdv : Value) (A : Around) (outer : List Env) (s : Shared) (H : Hp) (vs : List V) (Q : VK) (E : XK), Room k (A.deeper (envOfC x (defScope st) s.heap.objs.size f cdv)) → sp vs H Q E →
      ∃ t, PSs (cxOf (L2.CX P w) P w K mg base N x (defScope st) f cdv A outer s H E) (defBody st) t ∧ t { nx := fun _ H' => Q .non H', rt := Q } (start N vs) H) : CalX P w K mg base (k + 1) x sp :=
  ⟨f, fd, ps, F.fn.okX S len hbody, F.mgf, F.fn.kp, F.b⟩
end
section
variable {X : Cx} {CX : CXT} {k j : Nat} {x m : Str} {C : Addr} {sp : Sp} {E : XK} {p pos apos : Pos} {o e : Expr} {es : List Expr} {t : TA} {ta : TE} {pl : Sem Bool}
theorem pe_m (he : PE X o ta) (cl : Cls X.K C) (c : CalM CX X.prog X.w X.K X.mg X.base k C m sp) (hr : Room j X.A) (hk : k ≤ j) (hx : Passes CX X E) (ha : PA X (e :: es) t)
    (hst : starEach (e :: es) X.env = (false, eval e X.env) :: starEach es X.env := by rfl) (hpl : (backTo pos (starEach es X.env)).any (·.1) = false := by rfl)
    (ht : eval (.Call (.Attribute o m apos) (e :: es) [] pos) X.env = (do
      let ov ← eval o X.env
      standAt apos.atName
      let (f, first) ← holding [ov] (getMethod ov m pl)
      callWith pos f first (backTo pos (starEach (e :: es) X.env)) (backToKw pos (keywordEach [] X.env))) := by rfl) :
    PE X (.Call (.Attribute o m apos) (e :: es) [] pos) (tMeth C m sp [] E ta t) := by
  obtain ⟨f, fd, ps, F, hm, b⟩ := c
  exact pe_meth he cl hm F (hr.mono hk) b .nil hx ha hst hpl ht
theorem pe_m0c (he : PE X o ta) (cl : Cls X.K C) (c : CalM CX X.prog X.w X.K X.mg X.base k C m sp) (hr : Room j X.A) (hk : k ≤ j) (hx : Passes CX X E)
    (ht : eval (.Call (.Attribute o m apos) [] [] pos) X.env = (do
      let ov ← eval o X.env
      standAt apos.atName
      let (f, first) ← holding [ov] (getMethod ov m pl)
      callWith pos f first (backTo pos (starEach [] X.env)) (backToKw pos (keywordEach [] X.env))) := by rfl) :
    PE X (.Call (.Attribute o m apos) [] [] pos) (tMeth C m sp [] E ta tNil) := by
  obtain ⟨f, fd, ps, F, hm, b⟩ := c
  exact pe_meth0 he cl hm F (hr.mono hk) b .nil hx ht
theorem pe_cx (c : CalX X.prog X.w X.K X.mg X.base k x sp) (hr : Room j X.A) (hk : k ≤ j) (hg : Gl X x) (hx : Passes (L2.CX X.prog X.w) X E) (ha : PA X (e :: es) t)
    (hdb : (x == ("__debug__" : Str)) = false := by decide) (he : starEach (e :: es) X.env = (false, eval e X.env) :: starEach es X.env := by rfl) (hpl : (backTo pos (starEach es X.env)).any (·.1) = false := by rfl) :
    PE X (.Call (.Name x p) (e :: es) [] pos) (tCall sp [] E t) := by
  obtain ⟨f, fd, ps, F, hm, kp, b⟩ := c
  exact pe_call F (hr.mono hk) hg hm kp b .nil hx ha hdb he hpl
theorem pe_cxS {W : WX} (c : CalX X.prog X.w X.K X.mg X.base k x sp) (hr : Room j X.A) (hk : k ≤ j) (hg : Gl X x) (tk : Takes X W) (ha : PA X (e :: es) t)
    (hdb : (x == ("__debug__" : Str)) = false := by decide) (he : starEach (e :: es) X.env = (false, eval e X.env) :: starEach es X.env := by rfl) (hpl : (backTo pos (starEach es X.env)).any (·.1) = false := by rfl) :
    PE X (.Call (.Name x p) (e :: es) [] pos) (tCallS sp (WE W) t) := by
  obtain ⟨f, fd, ps, F, hm, kp, b⟩ := c
  exact pe_callS F (hr.mono hk) hg hm kp b (fun σ => passAt tk σ) ha hdb he hpl
/-- W.__init__(self, ..), W an own class that inherits ValueError's -/
theorem pe_weinit {Wn : Str} {Cw : Addr} {p1 p2 : Pos} (hg : Gl X Wn) (hm : X.mg Wn = some (.ref Cw)) (gg : PySem.W.specialIn X.K (.ref Cw) "__getattribute__" = some (some (.builtin "type.__getattribute__"))) (rd : PySem.W.readsIn X.K Cw (.type "type") = true)
    (vV : PySem.W.findCls X.K (.ref Cw) (.type "type") "__init__" = some (.val (.builtin "ValueError.__init__"))) (ha : PA X (e :: es) t)
    (hc : eval (.Call (.Attribute (.Name Wn p1) "__init__" p2) (e :: es) [] pos) X.env = (do
      let ov ← eval (.Name Wn p1) X.env
      standAt p2.atName
      let (f, first) ← holding [ov] (getMethod ov "__init__" pl)
      callWith pos f first (backTo pos (starEach (e :: es) X.env)) (backToKw pos (keywordEach [] X.env))) := by rfl)
    (hdb : (Wn == ("__debug__" : Str)) = false := by decide) (he : starEach (e :: es) X.env = (false, eval e X.env) :: starEach es X.env := by rfl) (hpl : (backTo pos (starEach es X.env)).any (·.1) = false := by rfl) :
    PE X (.Call (.Attribute (.Name Wn p1) "__init__" p2) (e :: es) [] pos) (tVeI X.K t) := by
  refine ⟨fun pins s σ H Q I h => ?_⟩
  refine PySem.W.methodCall_KW (ld_glob I hg hm ?_ hdb) hc
  refine PySem.W.method_cls I.kIn gg (PySem.W.cls_value I.kIn rd vV (by decide +kernel) ?_)
  show wpAny _ _ (callWith pos (Value.builtin "ValueError.__init__") [] (backTo pos (starEach (e :: es) X.env)) []) _ _ _
  refine PyProof.Rows.callWith_method1 (thn (ha.run pos pins _ σ H _ (I.tok _) h) fun us s1 ⟨vs, H1, I1, r1, a, C, ws, ev, hl, T, ea, q⟩ => ?_) he hpl
  subst ev
  cases r1 with
  | @cons _ u0 _ ur ra rw' =>
    obtain rfl : u0 = Value.ref a := ra
    have hlen : ur.length ≤ sizeLine := by
      rw [← Paired.length rw', sizeLine_eq]
      omega
    exact oinit_ok T I1 ea hlen fun s' J => ⟨.non, H1, J, rfl, q⟩
end
end Com
set_option Elab.async false
set_option linter.all false
set_option maxRecDepth 100000
set_option maxHeartbeats 4000000
namespace W4
open PySem PySem.Spec PyProof.Rows L2 Com SX
abbrev T := List Nat
/-! signs -/
def digC : T := [48, 49, 50, 51, 52, 53, 54, 55, 56, 57]
def namC : T := [97, 98, 99, 100, 101, 102, 103, 104, 105, 106, 107, 108, 109, 110, 111, 112, 113, 114, 115, 116, 117, 118, 119, 120, 121, 122, 48, 49, 50, 51, 52, 53, 54, 55, 56, 57, 33, 42, 43, 45, 46, 47, 58, 60, 61, 62, 63, 95]
def endC : T := [32, 10, 40, 41, 39, 34, 59]
def isD (c : Nat) : Bool := decide (c ∈ digC)
def isN (c : Nat) : Bool := decide (c ∈ namC)
def noE (c : Nat) : Bool := !decide (c ∈ endC)
def noL (c : Nat) : Bool := !decide (c = 10)
def noQ (c : Nat) : Bool := !decide (c = 10) && !decide (c = 34)
theorem dig_lit : (("0123456789" : Str)).cps.toList = digC := by decide +kernel
theorem nam_lit : (("abcdefghijklmnopqrstuvwxyz0123456789!*+-./:<=>?_" : Str)).cps.toList = namC := by decide +kernel
theorem end_lit : ((" \n()'\";" : Str)).cps.toList = endC := by decide +kernel
/-! runs of signs -/
def runE (p : Nat → Bool) (t : T) (a : Nat) : Nat := a + ((t.drop a).takeWhile p).length
theorem runE_step {p : Nat → Bool} {t : T} {a c : Nat} (h : t[a]? = some c) (hp : p c = true) : runE p t a = runE p t (a + 1) := by
  obtain ⟨ha, e⟩ := List.getElem?_eq_some_iff.mp h
  unfold runE
  rw [List.drop_eq_getElem_cons ha, e, List.takeWhile_cons_of_pos hp, List.length_cons]
  omega
theorem runE_stop {p : Nat → Bool} {t : T} {a c : Nat} (h : t[a]? = some c) (hp : p c = false) : runE p t a = a := by
  obtain ⟨ha, e⟩ := List.getElem?_eq_some_iff.mp h
  unfold runE
  rw [List.drop_eq_getElem_cons ha, e, List.takeWhile_cons_of_neg (by rw [hp]; exact Bool.false_ne_true)]
  rfl
theorem runE_end {p : Nat → Bool} {t : T} {a : Nat} (h : t.length ≤ a) : runE p t a = a := by
  unfold runE
  rw [List.drop_eq_nil_of_le h]
  rfl
theorem runE_ge (p : Nat → Bool) (t : T) (a : Nat) : a ≤ runE p t a := Nat.le_add_right _ _
theorem tw_le (p : Nat → Bool) : ∀ l : T, (l.takeWhile p).length ≤ l.length
  | [] => Nat.le_refl _
  | c :: l => by
    by_cases h : p c = true
    · rw [List.takeWhile_cons_of_pos h]
      exact Nat.succ_le_succ (tw_le p l)
    · rw [List.takeWhile_cons_of_neg h]
      exact Nat.zero_le _
theorem runE_le {p : Nat → Bool} {t : T} {a : Nat} (h : a ≤ t.length) : runE p t a ≤ t.length := by
  have := tw_le p (t.drop a)
  rw [List.length_drop] at this
  unfold runE
  omega
/-- where a run ends: the text's end, or a sign that stops it -/
theorem runE_at {p : Nat → Bool} : ∀ (n : Nat) {t : T} {a : Nat}, t.length - a = n → a ≤ t.length → runE p t a = t.length ∨ ∃ c, t[runE p t a]? = some c ∧ p c = false
  | 0, t, a, hn, ha => .inl (by rw [runE_end (by omega)]; omega)
  | n + 1, t, a, hn, ha => by
    have hl : a < t.length := by omega
    have h := List.getElem?_eq_getElem hl
    by_cases hp : p t[a] = true
    · rw [runE_step h hp]
      exact runE_at n (by omega) hl
    · have hp' : p t[a] = false := by simpa using hp
      refine .inr ⟨t[a], ?_, hp'⟩
      rw [runE_stop h hp']
      exact h
theorem runE_in {p : Nat → Bool} : ∀ (n : Nat) {t : T} {a v c : Nat}, t.length - a = n → a ≤ v → v < runE p t a → t[v]? = some c → p c = true
  | 0, t, a, v, c, hn, hv, h, hc => by
    rw [runE_end (by omega)] at h
    omega
  | n + 1, t, a, v, c, hn, hv, h, hc => by
    have hl : a < t.length := by omega
    have ha := List.getElem?_eq_getElem hl
    by_cases hp : p t[a] = true
    · by_cases e : v = a
      · subst e
        rw [ha] at hc
        cases hc
        exact hp
      · rw [runE_step ha hp] at h
        exact runE_in n (by omega) (by omega) h hc
    · have hp' : p t[a] = false := by simpa using hp
      rw [runE_stop ha hp'] at h
      omega
/-! pieces of a text -/
def wrd (t : T) (a b : Nat) : T := (t.drop a).take (b - a)
theorem wrd_len {t : T} {a b : Nat} (h1 : a ≤ b) (h2 : b ≤ t.length) : (wrd t a b).length = b - a := by
  unfold wrd
  rw [List.length_take, List.length_drop]
  omega
theorem cut_wrd {t : T} {a b : Nat} (h1 : a ≤ b) (h2 : b ≤ t.length) : cutS (S t) (some (a : Int)) (some (b : Int)) = S (wrd t a b) := by
  unfold cutS wrd
  have e : (S t).length = t.length := S_len t
  rw [HT.sIx_nat, HT.sIx_nat, e, Nat.min_eq_left (show a ≤ t.length by omega), Nat.min_eq_left h2]
theorem cut_one {t : T} {a : Nat} (h : a ≤ t.length) : cutS (S t) (some (a : Int)) (some ((a : Int) + 1)) = S ((t.drop a).take 1) := by
  unfold cutS
  have e : (S t).length = t.length := S_len t
  rw [show ((a : Int) + 1) = ((a + 1 : Nat) : Int) from rfl, HT.sIx_nat, HT.sIx_nat, e, Nat.min_eq_left h]
  show S ((t.drop a).take (min (a + 1) t.length - a)) = _
  by_cases hh : a < t.length
  · rw [Nat.min_eq_left (by omega), Nat.add_sub_cancel_left]
  · rw [List.drop_eq_nil_of_le (by omega)]
    simp
/-! sorts of words -/
def body (w : T) : T := if w.head? = some 45 then w.tail else w
def isNum (w : T) : Bool := decide (w = [48]) || (decide (1 ≤ (body w).length) && decide ((body w).length ≤ 30) && !decide ((body w).head? = some 48) && (body w).all isD)
def begN (w : T) : Bool := match (body w).head? with | some c => isD c | none => false
def isNam (w : T) : Bool := decide (1 ≤ w.length) && decide (w.length ≤ 20) && !decide (w = [46, 46, 46]) && !decide (w = [95]) && !begN w && w.all isN
def sortW (w : T) : Str :=
  if w = [35, 116] ∨ w = [35, 102] then "flag" else if w = [46, 46, 46] then "dots" else if w = [95] then "wild" else if isNum w = true then "number" else if isNam w = true then "name" else "wrong"
/-! tokens -/
abbrev Tok := Str × Nat × Nat
def tokA (t : T) (a c : Nat) : Str × Nat :=
  if c = 40 ∨ c = 41 ∨ c = 39 then ("sign", a + 1)
  else if c = 34 then
    (if t[runE noQ t (a + 1)]? = some 34 then (if runE noQ t (a + 1) - a - 1 ≤ 100 then "string" else "wrong", runE noQ t (a + 1) + 1) else ("wrong", runE noQ t (a + 1)))
  else if wrd t a (runE noE t a) = [35] ∧ t[runE noE t a]? = some 39 then ("sign", runE noE t a + 1)
  else (sortW (wrd t a (runE noE t a)), runE noE t a)
def nxt (t : T) (a c : Nat) : Nat := if c = 32 ∨ c = 10 then a + 1 else if c = 59 then runE noL t a else (tokA t a c).2
theorem tokA_gt {t : T} {a c : Nat} (h : t[a]? = some c) (h1 : ¬ (c = 32 ∨ c = 10)) (h2 : c ≠ 59) : a < (tokA t a c).2 := by
  unfold tokA
  have r1 := runE_ge noQ t (a + 1)
  split
  · exact Nat.lt_succ_self _
  · split
    · split
      · split <;> (show a < _ + 1; omega)
      · show a < runE noQ t (a + 1)
        omega
    · rename_i n1 n2
      have hp : noE c = true := by
        unfold noE endC
        simp only [List.mem_cons, List.not_mem_nil, or_false]
        have : ¬ (c = 32 ∨ c = 10 ∨ c = 40 ∨ c = 41 ∨ c = 39 ∨ c = 34 ∨ c = 59) := by omega
        simp [this]
      have r2 := runE_step h hp
      have r3 := runE_ge noE t (a + 1)
      split
      · show a < runE noE t a + 1
        omega
      · show a < runE noE t a
        omega
theorem nxt_gt {t : T} {a c : Nat} (h : t[a]? = some c) : a < nxt t a c := by
  unfold nxt
  split
  · exact Nat.lt_succ_self _
  · rename_i h1
    split
    · rename_i h2
      rw [runE_step h (by rw [h2]; rfl)]
      have := runE_ge noL t (a + 1)
      omega
    · rename_i h2
      exact tokA_gt h h1 h2
theorem tokA_le {t : T} {a c : Nat} (h : t[a]? = some c) : (tokA t a c).2 ≤ t.length := by
  have ha := (List.getElem?_eq_some_iff.mp h).1
  have r1 : runE noQ t (a + 1) ≤ t.length := runE_le ha
  have r2 : runE noE t a ≤ t.length := runE_le (Nat.le_of_lt ha)
  unfold tokA
  split
  · exact ha
  · split
    · split
      · rename_i e
        have := (List.getElem?_eq_some_iff.mp e).1
        split <;> (show _ + 1 ≤ _; omega)
      · exact r1
    · split
      · rename_i e
        have := (List.getElem?_eq_some_iff.mp e.2).1
        show _ + 1 ≤ _
        omega
      · exact r2
theorem nxt_le {t : T} {a c : Nat} (h : t[a]? = some c) : nxt t a c ≤ t.length := by
  have ha := (List.getElem?_eq_some_iff.mp h).1
  unfold nxt
  split
  · exact ha
  · split
    · exact runE_le (Nat.le_of_lt ha)
    · exact tokA_le h
def toksN (t : T) : Nat → Nat → List Tok
  | 0, _ => []
  | n + 1, a => match t[a]? with
    | none => []
    | some c => if c = 32 ∨ c = 10 ∨ c = 59 then toksN t n (nxt t a c) else ((tokA t a c).1, a, (tokA t a c).2) :: toksN t n (nxt t a c)
theorem toksN_more {t : T} : ∀ (n m a : Nat), t.length - a < n → t.length - a < m → toksN t n a = toksN t m a
  | 0, _, _, h, _ => absurd h (Nat.not_lt_zero _)
  | _, 0, _, _, h => absurd h (Nat.not_lt_zero _)
  | n + 1, m + 1, a, hn, hm => by
    unfold toksN
    cases e : t[a]? with
    | none => rfl
    | some c =>
      have ha := (List.getElem?_eq_some_iff.mp e).1
      have h1 := nxt_gt e
      have ih := toksN_more (t := t) n m (nxt t a c) (by omega) (by omega)
      simp only [ih]
def toksF (t : T) (a : Nat) : List Tok := toksN t (t.length - a + 1) a
theorem toksF_end {t : T} {a : Nat} (h : t.length ≤ a) : toksF t a = [] := by
  unfold toksF toksN
  rw [List.getElem?_eq_none h]
theorem toksF_at {t : T} {a c : Nat} (h : t[a]? = some c) : toksF t a = if c = 32 ∨ c = 10 ∨ c = 59 then toksF t (nxt t a c) else ((tokA t a c).1, a, (tokA t a c).2) :: toksF t (nxt t a c) := by
  have ha := (List.getElem?_eq_some_iff.mp h).1
  have h1 := nxt_gt h
  have e := toksN_more (t := t) (t.length - a) (t.length - nxt t a c + 1) (nxt t a c) (by omega) (by omega)
  unfold toksF
  rw [show toksN t (t.length - a + 1) a = match t[a]? with
    | none => []
    | some c => if c = 32 ∨ c = 10 ∨ c = 59 then toksN t (t.length - a) (nxt t a c) else ((tokA t a c).1, a, (tokA t a c).2) :: toksN t (t.length - a) (nxt t a c) from rfl, h]
  dsimp only
  rw [e]
theorem toksF_blank {t : T} {a c : Nat} (h : t[a]? = some c) (hc : c = 32 ∨ c = 10) : toksF t a = toksF t (a + 1) := by
  rw [toksF_at h, if_pos (by omega)]
  unfold nxt
  rw [if_pos hc]
theorem toksF_rem {t : T} {a : Nat} (h : t[a]? = some 59) : toksF t a = toksF t (runE noL t a) := by
  rw [toksF_at h, if_pos (by omega)]
  unfold nxt
  rw [if_neg (by omega), if_pos rfl]
theorem toksF_tok {t : T} {a c : Nat} (h : t[a]? = some c) (h1 : ¬ (c = 32 ∨ c = 10)) (h2 : c ≠ 59) : toksF t a = ((tokA t a c).1, a, (tokA t a c).2) :: toksF t (tokA t a c).2 := by
  rw [toksF_at h, if_neg (by omega)]
  unfold nxt
  rw [if_neg h1, if_neg h2]
theorem toksF_len {t : T} : ∀ (n : Nat) {a : Nat}, t.length - a = n → (toksF t a).length ≤ t.length - a := by
  intro n
  induction n using Nat.strongRecOn with
  | _ n ih =>
    intro a hn
    cases e : t[a]? with
    | none =>
      rw [toksF_end (List.getElem?_eq_none_iff.mp e)]
      exact Nat.zero_le _
    | some c =>
      have ha := (List.getElem?_eq_some_iff.mp e).1
      have h1 := nxt_gt e
      have h2 := ih (t.length - nxt t a c) (by omega) rfl
      rw [toksF_at e]
      split
      · omega
      · rw [List.length_cons]
        omega
def tokD (k : Tok) : PyData := .tuple [.str k.1, .int (k.2.1 : Nat), .int (k.2.2 : Nat)]
/-- what tokens stand within a text -/
theorem toksF_ok {t : T} : ∀ (n : Nat) {a : Nat}, t.length - a = n → ∀ k ∈ toksF t a, a ≤ k.2.1 ∧ k.2.1 < k.2.2 ∧ k.2.2 ≤ t.length := by
  intro n
  induction n using Nat.strongRecOn with
  | _ n ih =>
    intro a hn k hk
    cases e : t[a]? with
    | none =>
      rw [toksF_end (List.getElem?_eq_none_iff.mp e)] at hk
      cases hk
    | some c =>
      have ha := (List.getElem?_eq_some_iff.mp e).1
      have h1 := nxt_gt e
      have h2 := ih (t.length - nxt t a c) (by omega) (a := nxt t a c) rfl
      rw [toksF_at e] at hk
      split at hk
      · have := h2 k hk
        omega
      · rename_i hc
        rcases List.mem_cons.mp hk with hk | hk
        · subst hk
          exact ⟨Nat.le_refl _, tokA_gt e (by omega) (by omega), tokA_le e⟩
        · have := h2 k hk
          omega
/-! data, and the machine that reads tokens -/
def lstD (ps : List PyData) (pl : Nat) : PyData := .tuple [.str "list", .tuple ps, .int (pl : Nat)]
def namD (s : Str) (pl : Nat) : PyData := .tuple [.str "name", .str s, .int (pl : Nat)]
def intW (w : T) : Int := (intText? (S w)).getD 0
def atomD (s : Str) (w : T) (pl : Nat) : PyData :=
  if s = "number" then .tuple [.str "number", .int (intW w), .int (pl : Nat)] else if s = "flag" then .tuple [.str "flag", .bool (decide (w = [35, 116])), .int (pl : Nat)]
  else if s = "string" then .tuple [.str "text", .str (S (wrd w 1 (w.length - 1))), .int (pl : Nat)] else if s = "name" then .tuple [.str "name", .str (S w), .int (pl : Nat)] else .tuple [.str s, .none, .int (pl : Nat)]
structure Fr where
  sg : T
  pl : Nat
  ps : List PyData
structure Cf where
  st : List Fr
  fm : List PyData
  ss : List Nat
def put : List Fr → List PyData → List Nat → PyData → Cf
  | [], fm, ss, D => ⟨[], fm ++ [D], ss⟩
  | f :: r, fm, ss, D => if f.sg = [40] then ⟨⟨f.sg, f.pl, f.ps ++ [D]⟩ :: r, fm, ss⟩ else put r fm ss (lstD (f.ps.take 1 ++ [D]) f.pl)
def sgN (w : T) : Str := if w = [39] then "quote" else "syntax"
def step (t : T) (cf : Cf) (k : Tok) : Except Nat Cf :=
  if k.1 = "wrong" then .error k.2.1
  else if ¬ k.1 = "sign" then .ok (put cf.st cf.fm (cf.ss ++ [k.2.1]) (atomD k.1 (wrd t k.2.1 k.2.2) cf.ss.length))
  else if wrd t k.2.1 k.2.2 = [41] then
    match cf.st with
    | [] => .error k.2.1
    | f :: r => if f.sg = [40] then .ok (put r cf.fm cf.ss (lstD f.ps f.pl)) else .error k.2.1
  else if cf.st.length = 60 then .error k.2.1
  else if wrd t k.2.1 k.2.2 = [40] then .ok ⟨⟨[40], cf.ss.length, []⟩ :: cf.st, cf.fm, cf.ss ++ [k.2.1]⟩
  else .ok ⟨⟨wrd t k.2.1 k.2.2, cf.ss.length, [namD (sgN (wrd t k.2.1 k.2.2)) (cf.ss.length + 1)]⟩ :: cf.st, cf.fm, cf.ss ++ [k.2.1, k.2.1]⟩
def runM (t : T) : Cf → List Tok → Except Nat Cf
  | cf, [] => .ok cf
  | cf, k :: ks => match step t cf k with
    | .error b => .error b
    | .ok cf' => runM t cf' ks
/-- reading a text: its forms and where their parts begin, or the index of an error -/
def readM (t : T) : Except Nat (List PyData × List Nat) :=
  if 6000 < t.length then .error 6000
  else match runM t ⟨[], [], []⟩ (toksF t 0) with
    | .error b => .error b
    | .ok cf => match cf.st with
      | [] => .ok (cf.fm, cf.ss)
      | _ :: _ => .error t.length
end W4
set_option Elab.async false
set_option linter.all false
set_option maxRecDepth 100000
set_option maxHeartbeats 4000000
namespace GenU
open PySem PySem.Spec PyProof.Rows L2 GxR
/-- the element as a test of what the name x holds; the globals and the built-ins may be read -/
def EltB (X : Cx) (scope : Scope) (x : Str) (elt : Expr) (ok : Value → Prop) (pb : Value → Bool) : Prop :=
  ∀ (cenv : Env) (A' : Around) (E' : Value → Shared → Prop) (u : Value) (s₂ : Shared) (m₂ : Str → Option Value), cenv.scope = scope → cenv.globals = mainGlobals → cenv.builtins = builtinsNs → A'.handled = none → L2.Mod X.K X.mg X.base →
    (∀ b o, X.base.get? b = some o → s₂.heap.get? b = some o) → ok u → s₂.heap.Ns cenv.locals m₂ → m₂ x = some u →
    wpAny (model X.prog X.w) A' (eval elt cenv) (fun y s₃ => y = .bool (pb u) ∧ Keeps s₂ s₃) E' s₂
/-- the generator g over the items, ready to be walked -/
def ReadyV (X : Cx) (pins : List (Addr × Obj)) (σ : L2.St) (H1 : Hp) (P : Addr) (n : Nat) (tr : Nat → Bool) (g : Addr) (s5 : Shared) : Prop :=
  ∃ (fp wr : List Addr) (G : Array GenState → Array GenState → Prop) (F : Nat → Value → Prop) (St : Nat → Shared → Prop),
    WalksS X.prog X.w X.A.in1 g fp wr G n F St ∧ St 0 s5 ∧
    TruthOf X.prog X.w X.A.in1 F tr ∧
    ∀ s', Moved wr G s5 s' → ∃ H2, Tabbed P H1 H2 ∧ Inv X pins σ H2 s'
/-- how a source is walked: the iterator is one new object -/
def Src (X : Cx) (H1 : Hp) (s1 : Shared) (u : Value) (n : Nat) (It : Nat → Value → Prop) : Prop :=
  ∀ (Q : Value → Shared → Prop), (∀ (o : Obj) (fp : List Addr) (St : Nat → Heap → Prop), (∀ b ∈ fp, b = s1.heap.objs.size ∨ ∃ ob, s1.heap.get? b = some ob ∧ ob.data ≠ .fields #[] ∧ H1 b ≠ some (.tbl #[]) ∧ ∀ ps, H1 b ≠ some (.tbl ps)) →
      (∀ A' : Around, A'.handled = none → Walks X.prog X.w A' s1.heap.objs.size fp [s1.heap.objs.size] n It St) → St 0 (s1.heap.push o) →
      Q (.ref s1.heap.objs.size) { s1 with heap := s1.heap.push o }) → ∀ E, wpAny (model X.prog X.w) X.A (pyIter u) Q E s1
section
variable {X : Cx} {pins : List (Addr × Obj)} {σ : L2.St} {H : Hp} {s : Shared}
theorem gen_src {c P : Addr} {elt iter : Expr} {x : Str} {px gpos : Pos} {scope : Scope} {pb : Value → Bool} {ok : Value → Prop} {te : TE} {k : Nat} {Q' : Value → Shared → Prop} {B : V → Hp → Prop} {R : V → Nat → (Nat → Bool) → Hp → Prop}
    (hB : ∀ (v : V) (H1 : Hp), B v H1 → TabG H1 P ∧ ∀ (u : Value) (s1 : Shared), RelV v u → Inv X pins σ H1 s1 → ∃ (n : Nat) (It : Nat → Value → Prop) (tr : Nat → Bool), (∀ i z, It i z → ok z ∧ pb z = tr i) ∧ Src X H1 s1 u n It ∧ R v n tr H1)
    (hr : Room k X.A) (TB : TabB X.base X.mg c P) (hcode : X.env.code = .ref c) (S : GenS X.env scope x) (hi : PE X iter te) (hel : EltB X scope x elt ok pb)
    (hs : ∀ v, genFold iter X.env v = pure v) (I : Inv X pins σ H s)
    (h : te σ H B)
    (hQ : ∀ v n tr H1 g s5, R v n tr H1 → ReadyV X pins σ H1 P n tr g s5 → Q' (.ref g) s5) :
    wpAny (model X.prog X.w) X.A (eval (.GeneratorExp elt [⟨.Name x px, iter, [], 0⟩] scope gpos) X.env) Q' X.xe s := by
  refine wpAny_GeneratorExp_walksQ hr.hd S.co (closure_ok S.free) S.cell S.dot S.loc S.kind (by have := hr.dp; omega) ?_ hs
  refine thn (hi.run pins s σ H _ I h) fun xv s1 ⟨v, H1, I1, r1, q1⟩ => ?_
  obtain ⟨⟨ps, hP, ht⟩, q1⟩ := hB v H1 q1
  obtain ⟨nn, It, tr, hok, hsrc, q1⟩ := q1 xv s1 r1 I1
  refine hsrc _ (fun o fp0 St hfp W hst => ?_) _
  have hPs : s1.heap.get? P = some { cls := .none, data := .fields ps } := I1.hok P _ hP
  have hPlt : P < s1.heap.objs.size := Heap.lt_size hPs
  have hP2 : (s1.heap.push o).get? P = some { cls := .none, data := .fields ps } := Heap.get?_push_of_some _ hPs
  have cd : PySem.W.CodeHd (s1.heap.push o) c P := TB.code.keeps fun b u e => Heap.get?_push_of_some _ (I1.bk b u e)
  have lim2 : (s1.heap.push o).NoLimit := I1.nolimit.push o
  have cont : ∀ (code : Value) (h3 : Heap) (tk : Nat) (ps' : Array Value), Heap.ExtBut P (s1.heap.push o) h3 → (s1.heap.push o).objs.size ≤ h3.objs.size → h3.get? P = some { cls := .none, data := .fields ps' } → (∃ more, ps' = ps ++ more) → TriplesOk ps'.toList →
      wpAny (model X.prog X.w) X.A (builtinsFor X.env.globals X.env.builtins) (fun bi s₄ =>
        ∃ Ia fp wr n₀ Pf St₀ pz F, Value.ref s1.heap.objs.size = .ref Ia ∧ (∀ A' : Around, A'.handled = none → Walks X.prog X.w A' Ia fp wr n₀ Pf St₀) ∧ St₀ 0 s₄.heap ∧ (∀ b ∈ fp, b < s₄.heap.objs.size) ∧ s₄.heap.NoLimit ∧ cStatics ∉ wr ∧
          (∀ href : Heap, (∀ b o, s₄.heap.get? b = some o → href.get? b = some o) →
            QuietGen X.prog X.w (genEnv scope (cloFrom X.env.cells scope.names []) s₄.heap.objs.size code bi X.env) x [] elt (List.range s₄.heap.objs.size) wr Pf pz F href) ∧
          (∀ a h₅ tk gs, gs.bare = true → s₄.heap.objs.size < a → h₅.objs.size = a + 1 → (∀ b o, s₄.heap.get? b = some o → h₅.get? b = some o) →
            WalksS X.prog X.w X.A.in4 a (a :: s₄.heap.objs.size :: List.range s₄.heap.objs.size) (s₄.heap.objs.size :: wr) (GenOnlyQ s₄.gens.size) (passing pz n₀ 0).length
              (fun j y => ∃ i, (passing pz n₀ 0)[j]? = some i ∧ F i y) (GenAt X.prog X.w X.A.in4 a s₄.gens.size s₄.heap.objs.size (List.range s₄.heap.objs.size) wr pz n₀ F) →
            GenAt X.prog X.w X.A.in4 a s₄.gens.size s₄.heap.objs.size (List.range s₄.heap.objs.size) wr pz n₀ F 0 { s₄ with gens := s₄.gens.push gs, toks := tk, heap := h₅ } →
            Q' (.ref a) { s₄ with gens := s₄.gens.push gs, toks := tk, heap := h₅ })) X.xe { s1 with heap := h3, toks := tk } := by
    intro code h3 tk ps' hx hsz hP3 hmore ht3
    obtain ⟨bm, ob, e1, e2, e3, e4, e5, e6, e7, e8⟩ := TB.bm
    have hcP : cStatics ≠ P := fun e => by
      obtain ⟨_, hns, _⟩ := I1.nolimit
      obtain ⟨o', es, ep, ho, hd, _⟩ := hns
      rw [e, hPs] at ho
      cases ho
      cases hd
    have hcl : cStatics < s1.heap.objs.size := let ⟨_, hns, _⟩ := I1.nolimit; hns.lt
    have sz2 : (s1.heap.push o).objs.size = s1.heap.objs.size + 1 := Heap.size_push ..
    have keep3 : ∀ b u, b ≠ P → s1.heap.get? b = some u → h3.get? b = some u := fun b u hb e => hx b u hb (Heap.get?_push_of_some _ e)
    refine wpAny_builtinsFor (m := X.mg) (by rw [I1.ok.glob]; exact ((I1.mod.glob.keeps I1.bk).push o).extBut hx TB.gP) e1 e2 (keep3 _ _ e4 (I1.bk _ _ e5)) e6 e7 e8 ?_
    have hfpP : ∀ b ∈ fp0, b ≠ P := fun b hb z => by
      rcases hfp b hb with e | ⟨ob', q1', q2', _, q4'⟩
      · exact Nat.ne_of_lt hPlt (z.symm.trans e)
      · exact q4' ps (z ▸ hP)
    refine ⟨s1.heap.objs.size, fp0, [s1.heap.objs.size], nn, It, St, (fun _ => true), (fun i y => y = .bool (tr i)), rfl, W, ?_, ?_, lim2.extBut hx hcP, ?_, ?_, ?_⟩
    · refine (W X.A hr.hd).frame _ _ _ hst fun b hb u e => hx b u (hfpP b hb) e
    · intro b hb
      show b < h3.objs.size
      have hlt3 : s1.heap.objs.size < h3.objs.size := by omega
      rcases hfp b hb with z | ⟨ob', q1', _⟩
      · rw [z]
        exact hlt3
      · exact Nat.lt_trans (Heap.lt_size q1') hlt3
    · intro z
      rcases List.mem_cons.mp z with z | z
      · exact Nat.ne_of_lt hcl z
      · cases z
    · intro href hhref
      refine ⟨fun A' E' i v s₂ m₂ hA hPv hn hm hk => ?_, fun A' E' i v s₂ m₂ hA hPv hp hn hm hk => ?_⟩
      · simp only [List.forIn_nil]
        exact wpAny_pure ⟨rfl, keeps_refl _⟩
      · obtain ⟨hov, hpv⟩ := hok i v hPv
        have hb2 : ∀ b o', X.base.get? b = some o' → s₂.heap.get? b = some o' := fun b o' e => by
          have e1' := I1.bk b o' e
          have hlt := Heap.lt_size e1'
          have hbP : b ≠ P := fun z => by
            have z2 := (I1.bs b o' e).2
            rw [z, hP] at z2
            cases z2
          have e3' : h3.get? b = some o' := keep3 b o' hbP e1'
          have hl3 : b < h3.objs.size := Heap.lt_size e3'
          refine hk b (List.mem_range.mpr hl3) (fun z => ?_) o' (hhref b o' e3')
          rcases List.mem_cons.mp z with z | z
          · rw [z] at hlt
            exact Nat.lt_irrefl _ hlt
          · cases z
        exact wpAny_mono (hel _ A' E' v s₂ m₂ rfl I1.ok.glob rfl hA I1.mod hb2 hov hn hm) (fun y s3 r => ⟨by rw [r.1, hpv], r.2⟩) fun _ _ e => e
    · intro g h5 tk5 gs hgb hag hsz5 hk5 W5 hat
      simp only [GxR.passing_true, List.length_range] at W5
      refine hQ v nn tr H1 g _ q1 ⟨_, _, _, _, _, W5.in4_1, hat, ?_, fun s' hm => ?_⟩
      · intro j y sj Qj Ej hy hQj
        obtain ⟨i, hij, hyb⟩ := hy
        have hyb : y = .bool (tr i) := hyb
        subst hyb
        obtain ⟨hj, ej⟩ := List.getElem?_eq_some_iff.mp hij
        rw [List.getElem_range] at ej
        subst ej
        exact wpAny_truthy_bool hQj
      · obtain ⟨more, em⟩ := hmore
        have nwr : ∀ b u, s1.heap.get? b = some u → b ∉ h3.objs.size :: [s1.heap.objs.size] := fun b u e hb => by
          have hl := Heap.lt_size e
          rcases List.mem_cons.mp hb with z | z
          · rw [z] at hl
            have h9 : (h3.objs.size : Nat) < s1.heap.objs.size := hl
            omega
          · rcases List.mem_cons.mp z with z | z
            · rw [z] at hl
              exact Nat.lt_irrefl _ hl
            · cases z
        have J := inv_tab (more := more) (h' := s'.heap) (g' := s'.gens) (d' := s'.drawn) (t' := s'.toks) I1 hP (fun b u hb e => hm.heap b u (nwr b u e) (hk5 b u (keep3 b u hb e)))
          (by rw [← em]; exact hm.heap P _ (nwr P _ hPs) (hk5 P _ hP3)) (AllBare.movedS (I1.bare.push hgb) hm)
        rw [sh_eta s1 s' hm.os] at J
        refine ⟨upd H1 P (.tbl (ps ++ more)), ⟨⟨ps ++ more, upd_same, by rw [← em]; exact ht3⟩, fun b hb => upd_ne hb⟩, J⟩
  refine ⟨lim2, ?_⟩
  cases hf : codeAmong gpos ps.toList with
  | none =>
    refine wpAny_genexprCodeX hcode (cd.code hP2 ht) (cd.tab hP2) hf fun c' h' tk hx hge hlt hco' _ htab' _ => ?_
    obtain ⟨o1, vs, f1, tf, fl, tg, inF, tx, tt, op, _, _, _, _, _, _, _, _, _, htr, _⟩ := hco'
    exact cont _ h' tk _ hx (Nat.le_trans hge (Nat.le_of_lt hlt)) htab'.2 ⟨_, rfl⟩ htr
  | some cv =>
    refine wpAny_genexprCode_hit hcode (cd.code hP2 ht) hf ?_
    exact cont cv (s1.heap.push o) s1.toks ps (Heap.ExtBut.refl _ _) (Nat.le_refl _) hP2 ⟨#[], by simp⟩ ht
/-- all(test for x in e), e a text, the test may read globals -/
def tAllU (P : Addr) (pc : Nat → Bool) (te : TE) : TE := fun σ H Q => te σ H fun v H1 => TabG H1 P ∧ ∃ a : Str, v = .str a ∧ ∀ H2, Tabbed P H1 H2 → Q (.bl (a.cps.toList.all pc)) H2
def OneSign (u : Value) : Prop := ∃ c t, u = .str ⟨#[c]⟩ t
theorem all_at (a : Str) (pc : Nat → Bool) : (List.range a.cps.size).all (fun i => match a.cps[i]? with | some c => pc c | none => false) = a.cps.toList.all pc := by
  rw [Bool.eq_iff_iff, List.all_eq_true, List.all_eq_true]
  constructor
  · intro h b hb
    obtain ⟨j, hj, e⟩ := List.getElem_of_mem hb
    have hj' : j < a.cps.size := by simpa using hj
    have q := h j (List.mem_range.mpr hj')
    rw [Array.getElem?_eq_getElem hj'] at q
    have e2 : a.cps[j] = b := by rw [← e]; simp
    rw [← e2]
    exact q
  · intro h j hj
    have hj' := List.mem_range.mp hj
    rw [Array.getElem?_eq_getElem hj']
    exact h _ (by simp)
theorem pe_allU {c P : Addr} {elt iter : Expr} {x : Str} {px p pos gpos : Pos} {scope : Scope} {pb : Value → Bool} {pc : Nat → Bool} {te : TE} {k : Nat}
    (hr : Room k X.A) (hg : Gl X "all") (hm : X.mg "all" = none) (hb : bootBuiltins "all" = some (.builtin "all")) (TB : TabB X.base X.mg c P) (hcode : X.env.code = .ref c) (S : GenS X.env scope x) (hi : PE X iter te) (hel : EltB X scope x elt OneSign pb)
    (hp : ∀ c t, pb (.str ⟨#[c]⟩ t) = pc c)
    (hs : ∀ v, genFold iter X.env v = pure v)
    (he : starEach [.GeneratorExp elt [⟨.Name x px, iter, [], 0⟩] scope gpos] X.env = (false, eval (.GeneratorExp elt [⟨.Name x px, iter, [], 0⟩] scope gpos) X.env) :: starEach [] X.env := by rfl) :
    PE X (.Call (.Name "all" p) [.GeneratorExp elt [⟨.Name x px, iter, [], 0⟩] scope gpos] [] pos) (tAllU P pc te) := by
  refine ⟨fun pins s σ H Q I h => ?_⟩
  refine wpAny_Call_Name_kw (ld_blt I hg hm hb ?_)
  refine PyProof.Rows.callWith_builtin1 ?_ he (by rfl)
  rw [he]
  show wpAny _ _ (spliced ((false, eval (.GeneratorExp elt [⟨.Name x px, iter, [], 0⟩] scope gpos) X.env) :: backTo pos (starEach [] X.env))) _ _ s
  refine Calls.spliced_cons (gen_src (te := te) (R := fun v n tr H1 => ∃ a : Str, n = a.cps.size ∧ tr = (fun i => match a.cps[i]? with | some c => pc c | none => false) ∧ ∀ H2, Tabbed P H1 H2 → Q (.bl (a.cps.toList.all pc)) H2) (hB := ?_) hr TB hcode S hi hel hs I h fun v n tr H1 g s5 hR hG => ?_)
  · rintro v H1 ⟨hT, a, rfl, hq⟩
    refine ⟨hT, fun u s1 ru I1 => ?_⟩
    obtain ⟨t, rfl⟩ := _root_.id ru
    refine ⟨a.cps.size, SignAt a, _, fun i z hz => ?_, fun Q2 hQ2 E => wpAny_pyIter_str fun o St W hst => ?_, a, rfl, rfl, hq⟩
    · obtain ⟨c, u, hc, rfl⟩ := hz
      refine ⟨⟨c, u, rfl⟩, ?_⟩
      rw [hp, hc]
    · exact hQ2 o _ St (fun b hb => .inl (List.mem_singleton.mp hb)) W hst
  obtain ⟨a, rfl, rfl, hR⟩ := hR
  obtain ⟨fp, wr, G, F, St, W, hst, htr, hI⟩ := hG
  refine Calls.spliced_nil ?_
  refine call_all_walkS (W.self 0 _ _ _ hst ⟨g, fp, wr, G, _, F, St, _, rfl, W, hst, htr, fun s' hmv => ?_⟩)
  obtain ⟨H2, hT, J⟩ := hI s' hmv
  refine ⟨.bl _, H2, J, rfl, ?_⟩
  rw [all_at a pc]
  exact hR H2 hT
end
/-- x in G, G a global text -/
def pbIn (y : Str) : Value → Bool
  | .str x _ => !(Builtin.Str.occurrences y x 0 y.length 1).isEmpty
  | _ => false
theorem elt_inG {X : Cx} {scope : Scope} {x g y : Str} {tk : Tok} {p1 p2 p3 : Pos} (hk : scope.kind = .function) (hl : scope.names.lookup x = some .local) (hi : scope.names.lookup g = some .globalImplicit) (mg' : X.mg g = some (.str y tk)) (hd : (x == ("__debug__" : Str)) = false := by decide) (hdg : (g == ("__debug__" : Str)) = false := by decide) :
    EltB X scope x (.Compare (.Name x p1) [.In] [.Name g p2] p3) OneSign (pbIn y) := by
  intro cenv A' E' u s₂ m₂ hs hgl hbn hA M hkp hok hn hm
  obtain ⟨c, t, rfl⟩ := hok
  refine wpAny_Compare1 ?_ (by rfl)
  refine wpAny_Name (wpAny_loadName_local (by rw [hs]; exact hk) (show cenv.scope.names.lookup x = some .local by rw [hs]; exact hl) hn hm ?_) hd
  refine Calls.Name_function_global (by rw [hs]; exact hk) (show cenv.scope.names.lookup g = some .globalImplicit by rw [hs]; exact hi) (Calls.loadGlobal_global (by rw [hgl]; exact M.glob.keeps hkp) mg' ?_) hdg
  exact in_str ⟨rfl, keeps_refl _⟩
end GenU
set_option Elab.async false
set_option linter.all false
set_option maxRecDepth 100000
set_option maxHeartbeats 4000000
namespace Com
open PySem PySem.Spec PyProof.Rows L2 GxR
/-! a def whose code object is known: it holds a generator expression -/
structure FunC (K : PySem.W.Frag) (x qual : Str) (st : Stmt) (f : Addr) (fd : FuncData) (c : Addr) : Prop where
  ex : ∃ (oc : Value) (od : Option Addr) (kV doc pm : Value) (an : Option Addr) (ct : Value) (osl : Array (Option Value)),
    fd = PySem.W.fnOf x qual (defArgs st) (defBody st) (defScope st) .none kV doc pm an (.ref c) ct ∧ K.lookup f = some ⟨oc, od, .func fd, osl⟩ ∧ PySem.W.codeIn K (.ref c) qual = true
  kp : PySem.W.keepIn K (.ref f) = true
structure DfnC (K : PySem.W.Frag) (mg : Str → Option Value) (x : Str) (st : Stmt) (f : Addr) (fd : FuncData) (ps : List Str) (c : Addr) : Prop where
  fn : FunC K x x st f fd c
  mgf : mg x = some (.ref f)
  b : Binds K fd ps []
theorem funC_mk {K : PySem.W.Frag} {x qual : Str} {st : Stmt} {f c : Addr} {oc : Value} {od an : Option Addr} {osl : Array (Option Value)} {kV doc pm ct : Value} (l : K.lookup f = some ⟨oc, od, .func (PySem.W.fnOf x qual (defArgs st) (defBody st) (defScope st) .none kV doc pm an (.ref c) ct), osl⟩)
    (cc : PySem.W.codeIn K (.ref c) qual = true) (k : PySem.W.keepIn K (.ref f) = true) : FunC K x qual st f (PySem.W.fnOf x qual (defArgs st) (defBody st) (defScope st) .none kV doc pm an (.ref c) ct) c := ⟨⟨oc, od, kV, doc, pm, an, ct, osl, rfl, l, cc⟩, k⟩
theorem FunC.fun {K : PySem.W.Frag} {x qual : Str} {st : Stmt} {f c : Addr} {fd : FuncData} (F : FunC K x qual st f fd c) : Fun K x qual st f fd := by
  obtain ⟨oc, od, kV, doc, pm, an, ct, osl, e, l, cc⟩ := F.ex
  exact ⟨⟨oc, od, kV, doc, pm, an, .ref c, ct, osl, e, l, cc⟩, F.kp⟩
theorem cal_mkC {P : Program} {w : World} {K : PySem.W.Frag} {mg : Str → Option Value} {base : Heap} {x : Str} {st : Stmt} {f c : Addr} {fd : FuncData} {N ps : List Str} {k : Nat} {sp : Sp} (F : DfnC K mg x st f fd ps c) (S : FnScope N ps (defScope st)) (len : ∀ vs H Q E, sp vs H Q E → vs.length = ps.length)
    (hbody : ∀ (A : Around) (outer : List Env) (s : Shared) (H : Hp) (vs : List V) (Q : VK) (E : XK), Room k (A.deeper (envOfC x (defScope st) s.heap.objs.size f (.ref c))) → sp vs H Q E →
      ∃ t, PSs (cxOf CX0 P w K mg base N x (defScope st) f (.ref c) A outer s H E).nox (defBody st) t ∧ t { nx := fun _ H' => Q .non H', rt := Q } (start N vs) H) : Cal P w K mg base (k + 1) x sp := by
  obtain ⟨oc, od, kV, doc, pm, an, ct, osl, rfl, lk, hcd⟩ := F.fn.ex
  refine ⟨f, _, ps, fn_of lk hcd S len fun A outer s H vs Q E hr hsp => ?_, F.mgf, F.fn.kp, F.b⟩
  obtain ⟨t, h, q⟩ := hbody A outer s H vs Q E hr hsp
  exact ⟨t, h.nox, q⟩
def noCF (sc : Scope) : Bool := sc.names.all fun y => decide (y.2 ≠ .cell) && decide (y.2 ≠ .free)
theorem genS_mk {env : Env} {scope : Scope} {x : Str} (k : scope.kind = .function) (co : scope.isCoroutine = false) (h : noCF scope = true) (dot : scope.names.lookup (".0" : Str) = some NameKind.local) (loc : scope.names.lookup x = some .local) : GenS env scope x := by
  unfold noCF at h
  rw [List.all_eq_true] at h
  refine ⟨k, co, fun y hy => ?_, dot, loc, fun y hy e => ?_⟩
  · have := h y hy
    rw [Bool.and_eq_true] at this
    exact of_decide_eq_true this.1
  · have := h y hy
    rw [Bool.and_eq_true] at this
    exact absurd e (of_decide_eq_true this.2)
end Com
set_option Elab.async false
set_option linter.all false
set_option maxRecDepth 100000
set_option maxHeartbeats 4000000
namespace Com
open PySem PySem.Spec PyProof.Rows L2
/-! a text times a number -/
def rMulS : V → V → Hp → VK → Prop := fun x y H Q => ∃ (z : Str) (n : Nat), x = .str z ∧ y = .int (n : Nat) ∧ 1 ≤ n ∧ n ≤ 16777216 ∧ z.length * n ≤ 16777216 ∧ ∀ r : Str, r.cps.toList.length ≤ z.length * n → (∀ c ∈ r.cps.toList, c ∈ z.cps.toList) → Q (.str r) H
theorem rep_len (a : Array Nat) : ∀ (n : Nat) (b : Array Nat), ((List.replicate n a).foldl (· ++ ·) b).toList = b.toList ++ (List.replicate n a.toList).flatten
  | 0, b => by simp
  | n + 1, b => by
    rw [List.replicate_succ, List.foldl_cons, rep_len a n (b ++ a)]
    simp [List.replicate_succ]
theorem op_mulS {X : Cx} : OpR X (binaryOp .Mult) rMulS := by
  intro pins s σ H x y v u Q I rx ry h
  obtain ⟨z, n, rfl, rfl, h1, hn, hz, q⟩ := h
  obtain ⟨t, rfl⟩ := rx
  obtain ⟨t', rfl⟩ := ry
  have hl : z.cps.toList.length = z.length := Array.length_toList
  have hb : ∀ m : Nat, (List.replicate m z.cps.toList).flatten.length = z.length * m := fun m => by
    rw [List.length_flatten]
    simp [hl, Nat.mul_comm]
  refine P.mul_str (by rw [decide_eq_false (by omega), decide_eq_false (by omega)]; rfl) (fun _ _ => ?_) (fun _ _ => ?_) ?_
  · refine Int.not_lt.mpr ((Int.le_ediv_iff_mul_le (by omega)).mpr ?_)
    rw [← Int.natCast_mul]
    omega
  · unfold Builtin.Str.tooLong
    rw [Int.toNat_natCast]
    refine decide_eq_false ?_
    rw [sizeLine_eq]
    omega
  · rw [if_neg (by omega)]
    split
    · exact ⟨.str z, H, I, ⟨_, rfl⟩, q z (by rw [hl]; exact Nat.le_mul_of_pos_right _ h1) fun c hc => hc⟩
    · rw [Int.toNat_natCast]
      have e := rep_len z.cps n #[]
      rw [List.nil_append] at e
      refine ⟨?_, .str _, H, I.tok _, ⟨_, rfl⟩, q _ ?_ fun c hc => ?_⟩
      · show (Array.size _) ≤ _
        rw [← Array.length_toList, e, hb, sizeLine_eq]
        exact hz
      · rw [e, hb]
        exact Nat.le_refl _
      · rw [e] at hc
        obtain ⟨l, h1, h2⟩ := List.mem_flatten.mp hc
        rw [List.eq_of_mem_replicate h1] at h2
        exact h2
end Com
set_option Elab.async false
set_option linter.all false
set_option maxRecDepth 100000
set_option maxHeartbeats 4000000
namespace W4
open PySem PySem.Spec PyProof.Rows L2 Com
def topS (i : Nat) : Stmt := PySem.Challenge.pw_wherewritten_k04_bounds_of_texts.main.body.getD i (.Pass ⟨0, 0, 0, 0⟩)
abbrev st_is_name : Stmt := topS 13
theorem scis_name : FnScope ["text"] ["text"] (defScope st_is_name) := ⟨rfl, rfl, rfl, by decide +kernel, rfl, by decide +kernel, by decide +kernel⟩
abbrev st__begins_as_number : Stmt := topS 14
theorem sc_begins_as_number : FnScope ["word", "first"] ["word"] (defScope st__begins_as_number) := ⟨rfl, rfl, rfl, by decide +kernel, rfl, by decide +kernel, by decide +kernel⟩
abbrev st__is_number : Stmt := topS 15
theorem sc_is_number : FnScope ["word", "digits"] ["word"] (defScope st__is_number) := ⟨rfl, rfl, rfl, by decide +kernel, rfl, by decide +kernel, by decide +kernel⟩
abbrev st__sort_of_word : Stmt := topS 16
theorem sc_sort_of_word : FnScope ["word"] ["word"] (defScope st__sort_of_word) := ⟨rfl, rfl, rfl, by decide +kernel, rfl, by decide +kernel, by decide +kernel⟩
abbrev st__line_end : Stmt := topS 17
theorem sc_line_end : FnScope ["text", "at", "end"] ["text", "at"] (defScope st__line_end) := ⟨rfl, rfl, rfl, by decide +kernel, rfl, by decide +kernel, by decide +kernel⟩
abbrev st__string_at : Stmt := topS 18
theorem sc_string_at : FnScope ["text", "at", "line_end", "last", "sort"] ["text", "at"] (defScope st__string_at) := ⟨rfl, rfl, rfl, by decide +kernel, rfl, by decide +kernel, by decide +kernel⟩
abbrev st__word_at : Stmt := topS 19
theorem sc_word_at : FnScope ["text", "at", "end", "word"] ["text", "at"] (defScope st__word_at) := ⟨rfl, rfl, rfl, by decide +kernel, rfl, by decide +kernel, by decide +kernel⟩
abbrev st__token_at : Stmt := topS 20
theorem sc_token_at : FnScope ["text", "at"] ["text", "at"] (defScope st__token_at) := ⟨rfl, rfl, rfl, by decide +kernel, rfl, by decide +kernel, by decide +kernel⟩
abbrev st_tokens : Stmt := topS 21
theorem sctokens : FnScope ["text", "found", "at", "token"] ["text"] (defScope st_tokens) := ⟨rfl, rfl, rfl, by decide +kernel, rfl, by decide +kernel, by decide +kernel⟩
abbrev st__atom : Stmt := topS 22
theorem sc_atom : FnScope ["sort", "word", "place"] ["sort", "word", "place"] (defScope st__atom) := ⟨rfl, rfl, rfl, by decide +kernel, rfl, by decide +kernel, by decide +kernel⟩
abbrev st_Reader___init__ : Stmt := inClass (topS 23) 0
theorem scReader___init__ : FnScope ["self", "text"] ["self", "text"] (defScope st_Reader___init__) := ⟨rfl, rfl, rfl, by decide +kernel, rfl, by decide +kernel, by decide +kernel⟩
abbrev st_Reader_new_place : Stmt := inClass (topS 23) 3
theorem scReader_new_place : FnScope ["self", "start"] ["self", "start"] (defScope st_Reader_new_place) := ⟨rfl, rfl, rfl, by decide +kernel, rfl, by decide +kernel, by decide +kernel⟩
abbrev st_Reader_put : Stmt := inClass (topS 23) 6
theorem scReader_put : FnScope ["self", "datum", "_", "place", "parts"] ["self", "datum"] (defScope st_Reader_put) := ⟨rfl, rfl, rfl, by decide +kernel, rfl, by decide +kernel, by decide +kernel⟩
abbrev st_Reader_end_list : Stmt := inClass (topS 23) 5
theorem scReader_end_list : FnScope ["self", "start", "_", "place", "parts"] ["self", "start"] (defScope st_Reader_end_list) := ⟨rfl, rfl, rfl, by decide +kernel, rfl, by decide +kernel, by decide +kernel⟩
abbrev st_Reader_begin_list : Stmt := inClass (topS 23) 4
theorem scReader_begin_list : FnScope ["self", "sign", "start", "place", "parts"] ["self", "sign", "start"] (defScope st_Reader_begin_list) := ⟨rfl, rfl, rfl, by decide +kernel, rfl, by decide +kernel, by decide +kernel⟩
abbrev st_Reader_take : Stmt := inClass (topS 23) 2
theorem scReader_take : FnScope ["self", "sort", "start", "end", "word"] ["self", "sort", "start", "end"] (defScope st_Reader_take) := ⟨rfl, rfl, rfl, by decide +kernel, rfl, by decide +kernel, by decide +kernel⟩
abbrev st_Reader_read_all : Stmt := inClass (topS 23) 1
theorem scReader_read_all : FnScope ["self", "sort", "start", "end"] ["self"] (defScope st_Reader_read_all) := ⟨rfl, rfl, rfl, by decide +kernel, rfl, by decide +kernel, by decide +kernel⟩
abbrev st_read : Stmt := topS 24
theorem scread : FnScope ["text", "reader"] ["text"] (defScope st_read) := ⟨rfl, rfl, rfl, by decide +kernel, rfl, by decide +kernel, by decide +kernel⟩
abbrev st_offsets : Stmt := topS 25
theorem scoffsets : FnScope ["text", "reader"] ["text"] (defScope st_offsets) := ⟨rfl, rfl, rfl, by decide +kernel, rfl, by decide +kernel, by decide +kernel⟩
abbrev st_ReadError___init__ : Stmt := inClass (topS 2) 0
theorem scReadError___init__ : FnScope ["self", "at"] ["self", "at"] (defScope st_ReadError___init__) := ⟨rfl, rfl, rfl, by decide +kernel, rfl, by decide +kernel, by decide +kernel⟩
abbrev st__law_draws : Stmt := topS 27
theorem sc_law_draws : FnScope ["script", "count", "cells", "found", "mixed", "k", "j", "cell", "again"] ["script", "count"] (defScope st__law_draws) := ⟨rfl, rfl, rfl, by decide +kernel, rfl, by decide +kernel, by decide +kernel⟩
abbrev st__law_take : Stmt := topS 28
theorem sc_law_take : FnScope ["draws", "limit"] ["draws", "limit"] (defScope st__law_take) := ⟨rfl, rfl, rfl, by decide +kernel, rfl, by decide +kernel, by decide +kernel⟩
abbrev st__law_same : Stmt := topS 29
theorem sc_law_same : FnScope ["found", "due", "k"] ["found", "due"] (defScope st__law_same) := ⟨rfl, rfl, rfl, by decide +kernel, rfl, by decide +kernel, by decide +kernel⟩
abbrev st__law_sort : Stmt := topS 30
theorem sc_law_sort : FnScope ["word", "body", "sign"] ["word"] (defScope st__law_sort) := ⟨rfl, rfl, rfl, by decide +kernel, rfl, by decide +kernel, by decide +kernel⟩
abbrev st__law_tokens : Stmt := topS 31
theorem sc_law_tokens : FnScope ["text", "found", "at", "turn", "sign", "end", "closed"] ["text"] (defScope st__law_tokens) := ⟨rfl, rfl, rfl, by decide +kernel, rfl, by decide +kernel, by decide +kernel⟩
abbrev st__law_value : Stmt := topS 32
theorem sc_law_value : FnScope ["sort", "word"] ["sort", "word"] (defScope st__law_value) := ⟨rfl, rfl, rfl, by decide +kernel, rfl, by decide +kernel, by decide +kernel⟩
abbrev st__law_datum : Stmt := topS 33
theorem sc_law_datum : FnScope ["text", "items", "state", "depth", "sort", "start", "end", "word", "place", "parts"] ["text", "items", "state", "depth"] (defScope st__law_datum) := ⟨rfl, rfl, rfl, by decide +kernel, rfl, by decide +kernel, by decide +kernel⟩
abbrev st__law_read : Stmt := topS 34
theorem sc_law_read : FnScope ["text", "items", "state", "forms"] ["text"] (defScope st__law_read) := ⟨rfl, rfl, rfl, by decide +kernel, rfl, by decide +kernel, by decide +kernel⟩
abbrev st__law_told : Stmt := topS 35
theorem sc_law_told : FnScope ["text", "found", "forms", "e"] ["text"] (defScope st__law_told) := ⟨rfl, rfl, rfl, by decide +kernel, rfl, by decide +kernel, by decide +kernel⟩
abbrev st__law_deep : Stmt := topS 36
theorem sc_law_deep : FnScope ["draws", "many", "text", "closing", "k", "sign"] ["draws"] (defScope st__law_deep) := ⟨rfl, rfl, rfl, by decide +kernel, rfl, by decide +kernel, by decide +kernel⟩
abbrev st__law_long : Stmt := topS 37
theorem sc_law_long : FnScope ["draws", "size", "first", "sign"] ["draws"] (defScope st__law_long) := ⟨rfl, rfl, rfl, by decide +kernel, rfl, by decide +kernel, by decide +kernel⟩
abbrev st__law_worded : Stmt := topS 38
theorem sc_law_worded : FnScope ["draws", "kind", "size", "word"] ["draws"] (defScope st__law_worded) := ⟨rfl, rfl, rfl, by decide +kernel, rfl, by decide +kernel, by decide +kernel⟩
abbrev st_law : Stmt := topS 39
theorem sclaw : FnScope ["script", "draws", "kind", "turn", "text"] ["script"] (defScope st_law) := ⟨rfl, rfl, rfl, by decide +kernel, rfl, by decide +kernel, by decide +kernel⟩
end W4
set_option Elab.async false
set_option linter.all false
set_option maxRecDepth 100000
set_option maxHeartbeats 4000000
namespace W4
open PySem PySem.Spec PyProof.Rows L2 Com SX GxR
/-! heaps: all but the tables of code stands -/
structure KT (H H' : Hp) : Prop where
  k : ∀ b o, H b = some o → (∀ ps, o ≠ .tbl ps) → H' b = some o
  t : ∀ b ps, H b = some (.tbl ps) → ∃ ps', H' b = some (.tbl ps')
theorem KT.refl (H : Hp) : KT H H := ⟨fun _ _ h _ => h, fun _ ps h => ⟨ps, h⟩⟩
theorem KT.trans {H1 H2 H3 : Hp} (a : KT H1 H2) (b : KT H2 H3) : KT H1 H3 := ⟨fun c o h n => b.k c o (a.k c o h n) n, fun c ps h => by
  obtain ⟨ps', h'⟩ := a.t c ps h
  exact b.t c ps' h'⟩
theorem KT.same {H H' : Hp} (h : Same H H') : KT H H' := ⟨fun b o e _ => h b o e, fun b ps e => ⟨ps, h b _ e⟩⟩
theorem KT.new {H : Hp} {p : Addr} {o : HO} (h : H p = none) : KT H (upd H p o) := KT.same (same_upd h)
theorem KT.tk {H H' : Hp} (k : KT H H') : Tk H H' := fun a xs e => k.k a _ e fun ps z => by cases z
theorem KT.lst {H H' : Hp} {a : Addr} {xs : List V} (k : KT H H') (h : H a = some (.lst xs)) : H' a = some (.lst xs) := k.k a _ h fun ps z => by cases z
theorem KT.tup {H H' : Hp} {a : Addr} {xs : List V} (k : KT H H') (h : H a = some (.tup xs)) : H' a = some (.tup xs) := k.k a _ h fun ps z => by cases z
theorem KT.ins {H H' : Hp} {a C dx : Addr} {fs : List (Str × V)} (k : KT H H') (h : H a = some (.ins C dx fs)) : H' a = some (.ins C dx fs) := k.k a _ h fun ps z => by cases z
theorem KT.dK {H H' : Hp} {a : Addr} {xs : List (Key × V)} (k : KT H H') (h : H a = some (.dK xs)) : H' a = some (.dK xs) := k.k a _ h fun ps z => by cases z
theorem KT.nn {H H' : Hp} {p : Addr} (k : KT H H') (n : H' p = none) : H p = none := by
  cases e : H p with
  | none => rfl
  | some o =>
    by_cases h : ∃ ps, o = .tbl ps
    · obtain ⟨ps, rfl⟩ := h
      obtain ⟨ps', e'⟩ := k.t p ps e
      rw [n] at e'
      cases e'
    · rw [k.k _ _ e fun ps z => h ⟨ps, z⟩] at n
      cases n
structure TT (PN PD : Addr) (H : Hp) : Prop where
  n : TabG H PN
  d : TabG H PD
theorem TT.put {PN PD a : Addr} {H : Hp} {o : HO} (h : TT PN PD H) (ha : ∀ ps, H a ≠ some (.tbl ps)) : TT PN PD (upd H a o) := by
  obtain ⟨⟨p1, h1, h2⟩, ⟨p2, h3, h4⟩⟩ := h
  refine ⟨⟨p1, ?_, h2⟩, ⟨p2, ?_, h4⟩⟩
  · rw [upd_ne (fun e => ha p1 (by rw [← e]; exact h1))]
    exact h1
  · rw [upd_ne (fun e => ha p2 (by rw [← e]; exact h3))]
    exact h3
theorem TT.new {PN PD a : Addr} {H : Hp} {o : HO} (h : TT PN PD H) (ha : H a = none) : TT PN PD (upd H a o) := h.put fun ps e => by rw [ha] at e; cases e
theorem TT.same {PN PD : Addr} {H H' : Hp} (h : TT PN PD H) (k : Same H H') : TT PN PD H' := by
  obtain ⟨⟨p1, h1, h2⟩, ⟨p2, h3, h4⟩⟩ := h
  exact ⟨⟨p1, k _ _ h1, h2⟩, ⟨p2, k _ _ h3, h4⟩⟩
theorem kt_tab {P : Addr} {H H' : Hp} (g : TabG H P) (h : Tabbed P H H') : KT H H' := by
  obtain ⟨ps0, g, _⟩ := g
  obtain ⟨⟨ps1, g1, _⟩, h2⟩ := h
  refine ⟨fun b o e n => ?_, fun b ps e => ?_⟩
  · rw [h2 b (fun z => by rw [z, g] at e; cases e; exact n ps0 rfl)]
    exact e
  · by_cases z : b = P
    · exact ⟨ps1, by rw [z]; exact g1⟩
    · exact ⟨ps, by rw [h2 b z]; exact e⟩
theorem TT.tabN {PN PD : Addr} {H H' : Hp} (h : TT PN PD H) (g : Tabbed PN H H') : TT PN PD H' := by
  refine ⟨g.1, ?_⟩
  by_cases e : PD = PN
  · rw [e]; exact g.1
  · obtain ⟨ps, h1, h2⟩ := h.d
    exact ⟨ps, by rw [g.2 _ e]; exact h1, h2⟩
theorem TT.tabD {PN PD : Addr} {H H' : Hp} (h : TT PN PD H) (g : Tabbed PD H H') : TT PN PD H' := by
  refine ⟨?_, g.1⟩
  by_cases e : PN = PD
  · rw [e]; exact g.1
  · obtain ⟨ps, h1, h2⟩ := h.n
    exact ⟨ps, by rw [g.2 _ e]; exact h1, h2⟩
theorem seq_split {t1 t2 : TS} {D : Ends} {σ : L2.St} {H : Hp} (J : L2.St → Hp → Prop) (hJ : ∀ σ' H', J σ' H' → t2 D σ' H') (h1 : (∀ σ' H', J σ' H' → t2 D σ' H') → tSeq t1 t2 D σ H) : tSeq t1 t2 D σ H := h1 hJ
theorem tc {v : V} {σ : L2.St} {H : Hp} {Q : VK} (h : Q v H) : tC v σ H Q := h
theorem ixt {K : PySem.W.Frag} {H : Hp} {p : Addr} {xs : List V} {i : Int} {v : V} {Q : VK} (h : H p = some (.tup xs)) (e : atI xs i = some v) (q : Q v H) : rIxT K (.ref p) (.int i) H Q := ⟨p, xs, i, v, rfl, rfl, SqT.of h, e, q⟩
theorem ixl {K : PySem.W.Frag} {H : Hp} {p : Addr} {xs : List V} {i : Int} {v : V} {Q : VK} (h : H p = some (.lst xs)) (e : atI xs i = some v) (q : Q v H) : rIxL K (.ref p) (.int i) H Q := ⟨p, xs, i, v, rfl, rfl, SqL.of h, e, q⟩
/-! signs compared -/
theorem sgE {c k : Nat} {l : Str} (h : l = S [k]) : decide (V.str ⟨#[c]⟩ = V.str l) = decide (c = k) := by
  subst h
  by_cases e : c = k
  · subst e
    rw [decide_eq_true rfl, decide_eq_true rfl]
  · rw [decide_eq_false e, decide_eq_false]
    intro z
    have := S_inj (a := [c]) (b := [k]) (V.str.inj z)
    exact e (List.cons.inj this).1
theorem wdE {a b : T} {l : Str} (h : l = S b) : decide (V.str (S a) = V.str l) = decide (a = b) := by
  subst h
  by_cases e : a = b
  · subst e
    rw [decide_eq_true rfl, decide_eq_true rfl]
  · rw [decide_eq_false e, decide_eq_false]
    intro z
    exact e (S_inj (V.str.inj z))
theorem q_min : ("-" : Str) = S [45] := by decide +kernel
theorem q_zero : ("0" : Str) = S [48] := by decide +kernel
theorem q_emp : ("" : Str) = S [] := by decide +kernel
theorem q_dots : ("..." : Str) = S [46, 46, 46] := by decide +kernel
theorem q_wild : ("_" : Str) = S [95] := by decide +kernel
theorem q_t : ("#t" : Str) = S [35, 116] := by decide +kernel
theorem q_f : ("#f" : Str) = S [35, 102] := by decide +kernel
theorem q_sh : ("#" : Str) = S [35] := by decide +kernel
theorem q_ap : ("'" : Str) = S [39] := by decide +kernel
theorem q_qq : ("\"" : Str) = S [34] := by decide +kernel
theorem q_semi : (";" : Str) = S [59] := by decide +kernel
theorem q_open : ("(" : Str) = S [40] := by decide +kernel
theorem q_close : (")" : Str) = S [41] := by decide +kernel
theorem q_nl : ("\n" : Str) = S [10] := by decide +kernel
theorem q_sp : (" " : Str) = S [32] := by decide +kernel
theorem w_sig : (("()'" : Str)).cps.toList = [40, 41, 39] := by decide +kernel
theorem w_bl : ((" \n" : Str)).cps.toList = [32, 10] := by decide +kernel
theorem atS {w : T} {i c : Nat} (h : w[i]? = some c) : atI ((S w).cps.toList) (i : Int) = some c := atI_nat h
theorem len_S (w : T) : (S w).length = w.length := S_len w
/-- the names that the module does not bind -/
structure Mg (mg : Str → Option Value) : Prop where
  len : mg "len" = none
  int : mg "int" = none
  bool : mg "bool" = none
  str : mg "str" = none
  tuple : mg "tuple" = none
  list : mg "list" = none
  range : mg "range" = none
  isinstance : mg "isinstance" = none
  all : mg "all" = none
/-- the constants of the module -/
structure Gb (mg : Str → Option Value) : Type where
  t2 : PySem.Tok
  t3 : PySem.Tok
  t4 : PySem.Tok
  t5 : PySem.Tok
  t6 : PySem.Tok
  t7 : PySem.Tok
  t8 : PySem.Tok
  t9 : PySem.Tok
  dig : mg "DIGITS" = some (.str "0123456789" t2)
  sig : mg "NAME_SIGNS" = some (.str "abcdefghijklmnopqrstuvwxyz0123456789!*+-./:<=>?_" t3)
  wend : mg "WORD_ENDS" = some (.str " \n()'\";" t4)
  lname : mg "LONGEST_NAME" = some (.int 20 t5)
  mdig : mg "MOST_DIGITS" = some (.int 30 t6)
  lstr : mg "LONGEST_STRING" = some (.int 100 t7)
  ltext : mg "LONGEST_TEXT" = some (.int 6000 t8)
  deep : mg "DEEPEST_LIST" = some (.int 60 t9)
def sigS : Str := "abcdefghijklmnopqrstuvwxyz0123456789!*+-./:<=>?_"
def digS : Str := "0123456789"
def pcN (c : Nat) : Bool := !(Builtin.Str.occurrences sigS ⟨#[c]⟩ 0 sigS.length 1).isEmpty
def pcD (c : Nat) : Bool := !(Builtin.Str.occurrences digS ⟨#[c]⟩ 0 digS.length 1).isEmpty
theorem pcN_eq (c : Nat) : pcN c = isN c := by
  have h := StrLaws.found_one sigS c
  unfold pcN isN
  rw [h, show sigS.cps.toList = namC from nam_lit]
theorem pcD_eq (c : Nat) : pcD c = isD c := by
  have h := StrLaws.found_one digS c
  unfold pcD isD
  rw [h, show digS.cps.toList = digC from dig_lit]
section
variable {P : Program} {w : World} {K : PySem.W.Frag} {mg : Str → Option Value} {base : Heap}
/-! _begins_as_number -/
def spBeg : Sp := fun vs H Q _ => ∃ w : T, vs = [.str (S w)] ∧ w ≠ [] ∧ w.length ≤ 1000000 ∧ Q (.bl (begN w)) H
theorem ok_begins {f : Addr} {fd : FuncData} (F : Dfn K mg "_begins_as_number" st__begins_as_number f fd ["word"]) (M : Mg mg) (G : Gb mg) : Cal P w K mg base 1 "_begins_as_number" spBeg := by
  refine cal_mk F sc_begins_as_number (fun vs H Q E h => ?_) (fun cdv A outer s H vs Q E hr h => ?_)
  · obtain ⟨w, rfl, _⟩ := h
    rfl
  obtain ⟨w, rfl, hne, hl, q⟩ := h
  obtain ⟨c, r, rfl⟩ := List.exists_cons_of_ne_nil hne
  have hz : (S (c :: r)).length ≤ sizeLine := by rw [len_S]; show _ ≤ 2 ^ 24; omega
  have h0 : atI ((S (c :: r)).cps.toList) 0 = some c := atS (w := c :: r) (i := 0) rfl
  refine ⟨_, (pss_cons (ps_set (i := 1) sc_begins_as_number.nd rfl (.inl rfl) (pe_ifExp (pt_cmpR op_eq (pe_ix ix_str (pv 0) pe_int (fun _ _ => rfl)) pe_str (nomark _)) (pe_slice sl_str (pv 0) (po_some pe_int) (po_some pe_int)) (pe_ix ix_str (pv 0) pe_int (fun _ _ => rfl))))
      (pss_one (ps_ret (pe_and (pe_cmpR op_ne (pv 1) pe_str (nomark _)) (pe_one (pe_cmpR op_inS (pv 1) (pe_glob (v := .str "0123456789") (by rfl) G.dig ⟨_, rfl⟩) (by rfl))))))), ?_⟩
  refine ⟨_, rfl, tc ⟨_, 0, c, rfl, rfl, hz, h0, rfl, _, rfl, ?_⟩⟩
  rw [sgE q_min]
  by_cases hc : c = 45
  · subst hc
    rw [decide_eq_true rfl]
    refine iteT ⟨_, rfl, _, rfl, _, rfl, _, rfl, hz, ?_⟩
    have e1 : cutS (S (45 :: r)) (some 1) (some 2) = S (r.take 1) := by
      have h := cut_one (t := 45 :: r) (a := 1) (by simp)
      rw [show ((1 : Nat) : Int) + 1 = 2 from rfl] at h
      exact h
    have e2 : begN (45 :: r) = match r.head? with | some c => isD c | none => false := rfl
    dsimp only [gName]
    refine ⟨_, rfl, rfl, _, rfl, ?_⟩
    rw [e1, wdE q_emp]
    cases r with
    | nil =>
      rw [e2] at q
      exact q
    | cons d r =>
      rw [decide_eq_false (show ¬ List.take 1 (d :: r) = [] by simp)]
      refine iteT ⟨_, rfl, tc ⟨d, _, rfl, rfl, ?_⟩⟩
      rw [e2] at q
      rw [dig_lit]
      exact q
  · rw [decide_eq_false hc]
    refine iteF ⟨_, rfl, tc ⟨_, 0, c, rfl, rfl, hz, h0, ?_⟩⟩
    have e2 : begN (c :: r) = isD c := by
      unfold begN body
      rw [if_neg (show ¬ (c :: r).head? = some 45 from fun e => hc (Option.some.inj e))]
      rfl
    dsimp only [gName]
    refine ⟨_, rfl, rfl, _, rfl, ?_⟩
    rw [show V.str ({ cps := #[c] } : Str) = V.str (S [c]) from rfl, wdE q_emp, decide_eq_false (show ¬ [c] = [] by simp)]
    refine iteT ⟨_, rfl, tc ⟨c, _, rfl, rfl, ?_⟩⟩
    rw [e2] at q
    rw [dig_lit]
    exact q
/-! words -/
structure Ok (w : T) : Prop where
  len : w.length ≤ 1000000
  sg : ∀ c ∈ w, c < 1114112
theorem Ok.str {w : T} (h : Ok w) : PyData.strOk (S w) = true := by
  unfold PyData.strOk
  rw [← Array.all_toList]
  rw [List.all_eq_true]
  intro c hc
  exact decide_eq_true (h.sg c hc)
theorem Ok.z {w : T} (h : Ok w) : (S w).length ≤ sizeLine := by
  rw [len_S]
  have := h.len
  show _ ≤ 2 ^ 24
  omega
theorem Ok.sub {w : T} (h : Ok w) {v : T} (hl : v.length ≤ w.length) (hs : ∀ c ∈ v, c ∈ w) : Ok v := ⟨Nat.le_trans hl h.len, fun c hc => h.sg c (hs c hc)⟩
theorem Ok.wrd {t : T} (h : Ok t) (a b : Nat) : Ok (wrd t a b) := h.sub (by unfold W4.wrd; rw [List.length_take, List.length_drop]; omega) fun c hc => List.mem_of_mem_drop (List.mem_of_mem_take hc)
theorem Ok.body {w : T} (h : Ok w) : Ok (body w) := by
  unfold W4.body
  split
  · exact h.sub (by rw [List.length_tail]; omega) fun c hc => List.mem_of_mem_tail hc
  · exact h
theorem shpS {w : T} (h : Ok w) : SeqAt.shaped (.str (S w)) = true := by
  show ((PyData.str (S w)).canLay0 && decide ((PyData.str (S w)).depth ≤ 64)) = true
  rw [Bool.and_eq_true]
  exact ⟨by simp [PyData.canLay0, h.str], decide_eq_true (by simp [PyData.depth])⟩
theorem tup_new {H : Hp} {p : Addr} {xs : List V} {ds : List PyData} (h : H p = none) (hx : DtAll H xs ds) : ∃ H', upd H p (.tup xs) = H' ∧ Same H H' ∧ Dt H' (.ref p) (.tuple ds) :=
  ⟨_, rfl, same_upd h, .tup upd_same (hx.tk (same_tk (same_upd h)))⟩
/-- a word in a written pair of words -/
theorem in_two {K : PySem.W.Frag} {H : Hp} {p : Addr} {w a b : T} {la lb : Str} {Q : VK} (ha : la = S a) (hb : lb = S b) (oa : Ok a) (ob : Ok b) (ow : Ok w) (hp : H p = some (.tup [.str la, .str lb])) (q : Q (.bl (decide (w = a ∨ w = b))) H) : rInT K (.str (S w)) (.ref p) H Q := by
  subst ha hb
  have d1 : Dt H (.ref p) (.tuple [.str (S a), .str (S b)]) := .tup hp (.cons (.str _) (.cons (.str _) .nil))
  refine ⟨.str (S w), _, .str _, d1.dp, shpS ow, ?_, ?_⟩
  · show ((PyData.tuple [.str (S a), .str (S b)]).canLay0 && decide ((PyData.tuple [.str (S a), .str (S b)]).depth ≤ 64)) = true
    rw [Bool.and_eq_true]
    exact ⟨by simp [PyData.canLay0, PyData.canLayAll0, oa.str, ob.str], decide_eq_true (by simp [PyData.depth, PyData.depthAll])⟩
  · have e : ([PyData.str (S a), PyData.str (S b)].any fun z => PyData.eqv z (.str (S w))) = decide (w = a ∨ w = b) := by
      rw [Bool.eq_iff_iff, any_pl (by rfl) (by rfl), decide_eq_true_iff]
      simp only [List.mem_cons, List.not_mem_nil, or_false, PyData.str.injEq]
      constructor
      · rintro (h | h)
        · exact .inl (S_inj h)
        · exact .inr (S_inj h)
      · rintro (h | h)
        · exact .inl (by rw [h])
        · exact .inr (by rw [h])
    rw [e]
    exact q
theorem ok3 {a b c : Nat} (h : a < 1000 ∧ b < 1000 ∧ c < 1000) : Ok [a, b, c] := ⟨by simp, fun x hx => by simp at hx; omega⟩
theorem ok2 {a b : Nat} (h : a < 1000 ∧ b < 1000) : Ok [a, b] := ⟨by simp, fun x hx => by simp at hx; omega⟩
theorem ok1 {a : Nat} (h : a < 1000) : Ok [a] := ⟨by simp, fun x hx => by simp at hx; omega⟩
/-! is_name -/
def spName (PN PD : Addr) : Sp := fun vs H Q _ => ∃ w : T, vs = [.str (S w)] ∧ w ≠ [] ∧ Ok w ∧ TT PN PD H ∧ ∀ H', KT H H' → TT PN PD H' → Q (.bl (isNam w)) H'
theorem ok_is_name {f cN PN PD : Addr} {fd : FuncData} (F : DfnC K mg "is_name" st_is_name f fd ["text"] cN) (M : Mg mg) (G : Gb mg) (TB : TabB base mg cN PN) (G_begins_as_number : Cal P w K mg base 1 "_begins_as_number" spBeg) : Cal P w K mg base 2 "is_name" (spName PN PD) := by
  refine cal_mkC F scis_name (fun vs H Q E h => ?_) (fun A outer s H vs Q E hr h => ?_)
  · obtain ⟨w, rfl, _⟩ := h
    rfl
  obtain ⟨w, rfl, hne, ok, hT, q⟩ := h
  have hl0 : 1 ≤ w.length := List.length_pos_iff.mpr hne
  refine ⟨_, (pss_cons (ps_if (PW.pt (pw_or (pt_not (pt_chain op_le op_le pe_int (pe_callB call_len_str (by rfl) M.len b_len (pa_cons (pv 0) pa_nil)) (pe_glob (v := .int 20) (by rfl) G.lname ⟨_, rfl⟩))) (pw_or1 (pt_cmpR (opInT K rfl (units65 hr)) (pv 0) (pe_tup (pa_cons pe_str (pa_cons pe_str pa_nil))) (by rfl))))) (pss_one (ps_ret pe_bl)) pss_nil)
      (pss_cons (ps_if (pt_val (pe_c G_begins_as_number hr (by omega) (by rfl) (pa_cons (pv 0) pa_nil))) (pss_one (ps_ret pe_bl)) pss_nil)
      (pss_one (ps_ret (GenU.pe_allU (c := cN) (P := PN) (pc := pcN) hr (by rfl) M.all b_all TB rfl (genS_mk rfl rfl (by decide +kernel) rfl rfl) (pv 0) (GenU.elt_inG rfl rfl rfl G.sig) (fun _ _ => rfl) (fun _ => rfl)))))), ?_⟩
  refine ⟨_, rfl, S w, rfl, ok.z, _, _, rfl, rfl, _, rfl, ?_⟩
  rw [len_S, decide_eq_true (show (1 : Int) ≤ (w.length : Int) by omega)]
  refine iteT (tc ⟨_, _, rfl, rfl, _, rfl, ?_⟩)
  by_cases h20 : w.length ≤ 20
  · rw [decide_eq_true (show (w.length : Int) ≤ (20 : Int) by omega)]
    refine iteF ?_
    refine ⟨_, rfl, by show 2 ≤ sizeLine; decide, fun p np => ?_⟩
    have k1 := same_upd (o := .tup [.str "...", .str "_"]) np
    have hp : upd H p (.tup [.str "...", .str "_"]) p = some (.tup [.str "...", .str "_"]) := upd_same
    have hT1 := hT.same k1
    generalize upd H p (.tup [.str "...", .str "_"]) = H1 at k1 hp hT1 ⊢
    refine in_two q_dots q_wild (ok3 (by decide)) (ok1 (by decide)) ok hp ⟨_, rfl, ?_⟩
    by_cases hd : w = [46, 46, 46] ∨ w = [95]
    · rw [decide_eq_true hd]
      have e : isNam w = false := by
        unfold isNam
        rcases hd with hd | hd
        · simp [hd]
        · simp [hd]
      rw [e] at q
      exact iteT (q H1 (KT.same k1) hT1)
    · rw [decide_eq_false hd]
      refine iteF ⟨_, rfl, w, rfl, hne, ok.len, _, rfl, ?_⟩
      have d1 : decide (w = [46, 46, 46]) = false := decide_eq_false fun e => hd (.inl e)
      have d2 : decide (w = [95]) = false := decide_eq_false fun e => hd (.inr e)
      cases hb : begN w with
      | true =>
        have e : isNam w = false := by unfold isNam; rw [hb]; simp
        rw [e] at q
        exact iteT (q H1 (KT.same k1) hT1)
      | false =>
        have e : isNam w = w.all isN := by
          unfold isNam
          rw [hb, decide_eq_true hl0, decide_eq_true h20, d1, d2]
          simp
        rw [e] at q
        refine iteF ⟨_, rfl, hT1.n, S w, rfl, fun H2 hTb => ?_⟩
        have ea : ((S w).cps.toList.all pcN) = w.all isN := by
          show w.all pcN = w.all isN
          congr 1
          funext c
          exact pcN_eq c
        rw [ea]
        exact q H2 ((KT.same k1).trans (kt_tab hT1.n hTb)) (hT1.tabN hTb)
  · rw [decide_eq_false (show ¬ (w.length : Int) ≤ (20 : Int) by omega)]
    have e : isNam w = false := by
      unfold isNam
      rw [decide_eq_false h20]
      simp
    rw [e] at q
    exact iteT (q H (KT.refl H) hT)
/-! _is_number -/
def spNum (PN PD : Addr) : Sp := fun vs H Q _ => ∃ w : T, vs = [.str (S w)] ∧ w ≠ [] ∧ Ok w ∧ TT PN PD H ∧ ∀ H', KT H H' → TT PN PD H' → Q (.bl (isNum w)) H'
theorem cut_tail {w : T} : cutS (S w) (some 1) none = S w.tail := by
  unfold cutS
  have e : (S w).length = w.length := S_len w
  rw [show (some 1 : Option Int) = some ((1 : Nat) : Int) from rfl, HT.sIx_nat, HT.sIx_none, e]
  cases w with
  | nil => rfl
  | cons c r =>
    have : min 1 (c :: r).length = 1 := Nat.min_eq_left (by simp)
    rw [this]
    show S ((r).take ((r.length + 1) - 1)) = S r
    rw [Nat.add_sub_cancel, List.take_length]
theorem ok_is_number {f cD PN PD : Addr} {fd : FuncData} (F : DfnC K mg "_is_number" st__is_number f fd ["word"] cD) (M : Mg mg) (G : Gb mg) (TB : TabB base mg cD PD) : Cal P w K mg base 1 "_is_number" (spNum PN PD) := by
  refine cal_mkC F sc_is_number (fun vs H Q E h => ?_) (fun A outer s H vs Q E hr h => ?_)
  · obtain ⟨w, rfl, _⟩ := h
    rfl
  obtain ⟨w, rfl, hne, ok, hT, q⟩ := h
  refine ⟨_, (pss_cons (ps_if (pt_cmpR op_eq (pv 0) pe_str (nomark _)) (pss_one (ps_ret pe_bl)) pss_nil)
      (pss_cons (ps_set (i := 1) sc_is_number.nd rfl (.inl rfl) (pe_ifExp (pt_cmpR op_eq (pe_ix ix_str (pv 0) pe_int (fun _ _ => rfl)) pe_str (nomark _)) (pe_slice sl_str (pv 0) (po_some pe_int) po_none) (pv 0)))
      (pss_cons (ps_if (PW.pt (pw_or (pt_not (pt_chain op_le op_le pe_int (pe_callB call_len_str (by rfl) M.len b_len (pa_cons (pv 1) pa_nil)) (pe_glob (v := .int 30) (by rfl) G.mdig ⟨_, rfl⟩))) (pw_or1 (pt_cmpR op_eq (pe_ix ix_str (pv 1) pe_int (fun _ _ => rfl)) pe_str (nomark _))))) (pss_one (ps_ret pe_bl)) pss_nil)
      (pss_one (ps_ret (GenU.pe_allU (c := cD) (P := PD) (pc := pcD) hr (by rfl) M.all b_all TB rfl (genS_mk rfl rfl (by decide +kernel) rfl rfl) (pv 1) (GenU.elt_inG rfl rfl rfl G.dig) (fun _ _ => rfl) (fun _ => rfl))))))), ?_⟩
  refine ⟨_, rfl, rfl, _, rfl, ?_⟩
  rw [wdE q_zero]
  by_cases h0 : w = [48]
  · rw [decide_eq_true h0]
    have e : isNum w = true := by unfold isNum; rw [decide_eq_true h0]; rfl
    rw [e] at q
    exact iteT (q H (KT.refl H) hT)
  rw [decide_eq_false h0]
  refine iteF ?_
  dsimp only [tNext]
  refine seq_split (t1 := tAsg _ _) (fun σ' H' => σ' = [some (.str (S w)), some (.str (S (body w)))] ∧ H' = H) ?_ (fun rest => ?_)
  · rintro σ' H' ⟨rfl, rfl⟩
    have okb := ok.body
    have hzb := okb.z
    obtain ⟨b, hb⟩ : ∃ b, b = body w := ⟨_, rfl⟩
    have hw0 : decide (w = [48]) = false := decide_eq_false h0
    rw [← hb] at okb hzb ⊢
    refine ⟨_, rfl, S b, rfl, hzb, _, _, rfl, rfl, _, rfl, ?_⟩
    rw [len_S]
    by_cases hl1 : 1 ≤ b.length
    case neg =>
      rw [decide_eq_false (show ¬ (1 : Int) ≤ (b.length : Int) by omega)]
      have e : isNum w = false := by unfold isNum; rw [hw0, ← hb, decide_eq_false hl1]; rfl
      rw [e] at q
      exact iteF ⟨false, rfl, iteT (q H' (KT.refl H') hT)⟩
    case pos =>
    rw [decide_eq_true (show (1 : Int) ≤ (b.length : Int) by omega)]
    refine iteT (tc ⟨_, _, rfl, rfl, _, rfl, ?_⟩)
    by_cases hl2 : b.length ≤ 30
    case neg =>
      rw [decide_eq_false (show ¬ (b.length : Int) ≤ (30 : Int) by omega)]
      have e : isNum w = false := by unfold isNum; rw [hw0, ← hb, decide_eq_true hl1, decide_eq_false hl2]; rfl
      rw [e] at q
      exact iteT (q H' (KT.refl H') hT)
    case pos =>
    rw [decide_eq_true (show (b.length : Int) ≤ (30 : Int) by omega)]
    refine iteF ?_
    obtain ⟨c, r, hcr⟩ := List.exists_cons_of_ne_nil (List.length_pos_iff.mp hl1)
    have hc0 : atI ((S b).cps.toList) 0 = some c := by rw [hcr]; exact atS (w := c :: r) (i := 0) rfl
    have hh : b.head? = some c := by rw [hcr]; rfl
    refine ⟨_, rfl, tc ⟨S b, 0, c, rfl, rfl, hzb, hc0, rfl, _, rfl, ?_⟩⟩
    rw [sgE q_zero]
    by_cases h48 : c = 48
    · rw [decide_eq_true h48]
      have e : isNum w = false := by unfold isNum; rw [hw0, ← hb, decide_eq_true hl1, decide_eq_true hl2, decide_eq_true (show b.head? = some 48 by rw [hh, h48])]; rfl
      rw [e] at q
      exact iteT (q H' (KT.refl H') hT)
    · rw [decide_eq_false h48]
      have e : isNum w = b.all isD := by
        unfold isNum
        rw [hw0, ← hb, decide_eq_true hl1, decide_eq_true hl2, decide_eq_false (show ¬ b.head? = some 48 by rw [hh]; intro z; exact h48 (Option.some.inj z))]
        simp
      rw [e] at q
      refine iteF ⟨_, rfl, hT.d, S b, rfl, fun H2 hTb => ?_⟩
      have ea : ((S b).cps.toList.all pcD) = b.all isD := by
        show b.all pcD = b.all isD
        congr 1
        funext c
        exact pcD_eq c
      rw [ea]
      exact q H2 (kt_tab hT.d hTb) (hT.tabD hTb)
  · obtain ⟨c, r, rfl⟩ := List.exists_cons_of_ne_nil hne
    have hz := ok.z
    have hc0 : atI ((S (c :: r)).cps.toList) 0 = some c := atS (w := c :: r) (i := 0) rfl
    refine ⟨_, rfl, tc ⟨_, 0, c, rfl, rfl, hz, hc0, rfl, _, rfl, ?_⟩⟩
    rw [sgE q_min]
    by_cases hc : c = 45
    · subst hc
      rw [decide_eq_true rfl]
      refine iteT ⟨_, rfl, _, rfl, _, rfl, hz, ?_⟩
      rw [cut_tail]
      exact rest _ _ ⟨rfl, rfl⟩
    · rw [decide_eq_false hc]
      refine iteF ⟨_, rfl, rest _ _ ⟨?_, rfl⟩⟩
      have e2 : body (c :: r) = c :: r := by
        unfold body
        rw [if_neg (show ¬ (c :: r).head? = some 45 from fun e => hc (Option.some.inj e))]
      rw [e2]
      rfl
end
end W4
set_option Elab.async false
set_option linter.all false
set_option maxRecDepth 100000
set_option maxHeartbeats 4000000
namespace W4
open PySem PySem.Spec PyProof.Rows L2 Com SX GxR
/-! where a run ends, told by find -/
theorem fromI (n a : Nat) : fromIndex n (a : Int) = a := by
  unfold fromIndex
  rw [if_neg (by omega)]
  omega
theorem getD_S {t : T} {v c : Nat} (h : t[v]? = some c) : (S t).cps.getD v 0 = c := by
  obtain ⟨hv, e⟩ := List.getElem?_eq_some_iff.mp h
  show (t.toArray).getD v 0 = c
  simp [Array.getD, hv, e]
theorem find_run {p : Nat → Bool} {t : T} {a k0 : Nat} (hp : ∀ c, p c = !decide (c = k0)) (ha : a ≤ t.length) :
    (Txt.find3 (S t) (S [k0]) (a : Int) = -1 ∧ runE p t a = t.length) ∨ ∃ k : Nat, Txt.find3 (S t) (S [k0]) (a : Int) = (k : Int) ∧ runE p t a = k ∧ k < t.length ∧ a ≤ k ∧ t[k]? = some k0 := by
  have h := StrLaws.find3_spec (S t) k0 (a : Int)
  rw [fromI, len_S] at h
  have hat := runE_at (p := p) (t.length - a) (t := t) (a := a) rfl ha
  rcases h with ⟨h1, h2⟩ | ⟨k, h1, h2, h3, h4, h5⟩
  · refine .inl ⟨h1, ?_⟩
    rcases hat with e | ⟨c, hc, hpc⟩
    · exact e
    · exfalso
      have hl := (List.getElem?_eq_some_iff.mp hc).1
      rw [hp] at hpc
      have ek : c = k0 := by simpa using hpc
      exact h2 _ (runE_ge p t a) hl (by rw [getD_S hc]; exact ek)
  · have hk : t[k]? = some k0 := by
      rw [List.getElem?_eq_getElem h3]
      have := getD_S (t := t) (List.getElem?_eq_getElem h3)
      rw [h4] at this
      rw [← this]
    refine .inr ⟨k, h1, ?_, h3, h2, hk⟩
    have hge := runE_ge p t a
    rcases Nat.lt_trichotomy (runE p t a) k with hlt | heq | hgt
    · exfalso
      rcases hat with e | ⟨c, hc, hpc⟩
      · omega
      · rw [hp] at hpc
        have ek : c = k0 := by simpa using hpc
        exact h5 _ hge hlt (by rw [getD_S hc]; exact ek)
    · exact heq
    · exfalso
      have := runE_in (t.length - a) rfl h2 hgt hk
      rw [hp] at this
      simp at this
section
variable {P : Program} {w : World} {K : PySem.W.Frag} {mg : Str → Option Value} {base : Heap}
/-! _sort_of_word -/
def spSort (PN PD : Addr) : Sp := fun vs H Q _ => ∃ w : T, vs = [.str (S w)] ∧ w ≠ [] ∧ Ok w ∧ TT PN PD H ∧ ∀ H', KT H H' → TT PN PD H' → Q (.str (sortW w)) H'
theorem ok_sort_of_word {f PN PD : Addr} {fd : FuncData} (F : Dfn K mg "_sort_of_word" st__sort_of_word f fd ["word"]) (M : Mg mg) (G_is_number : Cal P w K mg base 1 "_is_number" (spNum PN PD)) (Gis_name : Cal P w K mg base 2 "is_name" (spName PN PD)) : Cal P w K mg base 3 "_sort_of_word" (spSort PN PD) := by
  refine cal_mk F sc_sort_of_word (fun vs H Q E h => ?_) (fun cdv A outer s H vs Q E hr h => ?_)
  · obtain ⟨w, rfl, _⟩ := h
    rfl
  obtain ⟨w, rfl, hne, ok, hT, q⟩ := h
  refine ⟨_, (pss_cons (ps_if (pt_cmpR (opInT K rfl (units65 hr)) (pv 0) (pe_tup (pa_cons pe_str (pa_cons pe_str pa_nil))) (by rfl)) (pss_one (ps_ret pe_str)) pss_nil)
      (pss_cons (ps_if (pt_cmpR op_eq (pv 0) pe_str (nomark _)) (pss_one (ps_ret pe_str)) pss_nil)
      (pss_cons (ps_if (pt_cmpR op_eq (pv 0) pe_str (nomark _)) (pss_one (ps_ret pe_str)) pss_nil)
      (pss_cons (ps_if (pt_val (pe_c G_is_number hr (by omega) (by rfl) (pa_cons (pv 0) pa_nil))) (pss_one (ps_ret pe_str)) pss_nil)
      (pss_one (ps_ret (pe_ifExp (pt_val (pe_c Gis_name hr (by omega) (by rfl) (pa_cons (pv 0) pa_nil))) pe_str pe_str))))))), ?_⟩
  refine ⟨_, rfl, by show 2 ≤ sizeLine; decide, fun p np => ?_⟩
  have k1 := same_upd (o := .tup [.str "#t", .str "#f"]) np
  have hp : upd H p (.tup [.str "#t", .str "#f"]) p = some (.tup [.str "#t", .str "#f"]) := upd_same
  have hT1 := hT.same k1
  generalize upd H p (.tup [.str "#t", .str "#f"]) = H1 at k1 hp hT1 ⊢
  refine in_two q_t q_f (ok2 (by decide)) (ok2 (by decide)) ok hp ⟨_, rfl, ?_⟩
  by_cases hd : w = [35, 116] ∨ w = [35, 102]
  · rw [decide_eq_true hd]
    have e : sortW w = "flag" := by unfold sortW; rw [if_pos hd]
    rw [e] at q
    exact iteT (q H1 (KT.same k1) hT1)
  rw [decide_eq_false hd]
  refine iteF ⟨_, rfl, rfl, _, rfl, ?_⟩
  rw [wdE q_dots]
  by_cases h1 : w = [46, 46, 46]
  · rw [decide_eq_true h1]
    have e : sortW w = "dots" := by unfold sortW; rw [if_neg hd, if_pos h1]
    rw [e] at q
    exact iteT (q H1 (KT.same k1) hT1)
  rw [decide_eq_false h1]
  refine iteF ⟨_, rfl, rfl, _, rfl, ?_⟩
  rw [wdE q_wild]
  by_cases h2 : w = [95]
  · rw [decide_eq_true h2]
    have e : sortW w = "wild" := by unfold sortW; rw [if_neg hd, if_neg h1, if_pos h2]
    rw [e] at q
    exact iteT (q H1 (KT.same k1) hT1)
  rw [decide_eq_false h2]
  refine iteF ⟨_, rfl, w, rfl, hne, ok, hT1, fun H2 k2 hT2 => ⟨_, rfl, ?_⟩⟩
  have kk2 := (KT.same k1).trans k2
  cases h3 : isNum w with
  | true =>
    have e : sortW w = "number" := by unfold sortW; rw [if_neg hd, if_neg h1, if_neg h2, if_pos h3]
    rw [e] at q
    exact iteT (q H2 kk2 hT2)
  | false =>
    refine iteF ⟨_, rfl, w, rfl, hne, ok, hT2, fun H3 k3 hT3 => ⟨_, rfl, ?_⟩⟩
    have kk3 := kk2.trans k3
    have h3' : ¬ isNum w = true := by rw [h3]; exact Bool.false_ne_true
    cases h4 : isNam w with
    | true =>
      have e : sortW w = "name" := by unfold sortW; rw [if_neg hd, if_neg h1, if_neg h2, if_neg h3', if_pos h4]
      rw [e] at q
      exact iteT (q H3 kk3 hT3)
    | false =>
      have e : sortW w = "wrong" := by unfold sortW; rw [if_neg hd, if_neg h1, if_neg h2, if_neg h3', if_neg (by rw [h4]; exact Bool.false_ne_true)]
      rw [e] at q
      exact iteF (q H3 kk3 hT3)
/-! _line_end -/
def spLine : Sp := fun vs H Q _ => ∃ (t : T) (a : Nat), vs = [.str (S t), .int (a : Nat)] ∧ a ≤ t.length ∧ Ok t ∧ Q (.int (runE noL t a : Nat)) H
theorem ok_line_end {f : Addr} {fd : FuncData} (F : Dfn K mg "_line_end" st__line_end f fd ["text", "at"]) (M : Mg mg) : Cal P w K mg base 1 "_line_end" spLine := by
  refine cal_mk F sc_line_end (fun vs H Q E h => ?_) (fun cdv A outer s H vs Q E hr h => ?_)
  · obtain ⟨t, a, rfl, _⟩ := h
    rfl
  obtain ⟨t, a, rfl, ha, ok, q⟩ := h
  refine ⟨_, (pss_cons (ps_set (i := 2) sc_line_end.nd rfl (.inl rfl) (pe_bm PySem.F.plainAttrs_str PySem.F.slot_str_find PySem.F.type_str_find mt_find3 (pv 0) (pa_cons pe_str (pa_cons (pv 1) pa_nil))))
      (pss_one (ps_ret (pe_ifExp (pt_cmpR op_eq (pv 2) (pe_un un_neg pe_int) (nomark _)) (pe_callB call_len_str (by rfl) M.len b_len (pa_cons (pv 0) pa_nil)) (pv 2))))), ?_⟩
  refine ⟨_, rfl, rfl, _, rfl, S t, S [10], (a : Int), rfl, by rw [q_nl], ?_⟩
  rcases find_run (p := noL) (k0 := 10) (fun c => rfl) ha with ⟨e1, e2⟩ | ⟨k, e1, e2, hk, _, _⟩
  · rw [e1]
    rw [e2] at q
    dsimp only [gName]
    refine ⟨_, rfl, _, rfl, rfl, _, rfl, ?_⟩
    rw [decide_eq_true rfl]
    refine iteT ⟨_, rfl, S t, rfl, ok.z, ?_⟩
    rw [len_S]
    exact q
  · rw [e1]
    rw [e2] at q
    dsimp only [gName]
    refine ⟨_, rfl, _, rfl, rfl, _, rfl, ?_⟩
    have : ¬ V.int (k : Int) = V.int (-1) := fun z => by have := V.int.inj z; omega
    rw [decide_eq_false this]
    exact iteF ⟨_, rfl, q⟩
end
end W4
set_option Elab.async false
set_option linter.all false
set_option maxRecDepth 100000
set_option maxHeartbeats 4000000
namespace W4
open PySem PySem.Spec PyProof.Rows L2 Com SX GxR
theorem runE_uniq {p : Nat → Bool} {t : T} {a e : Nat} (h1 : a ≤ e) (h2 : e ≤ t.length) (hi : ∀ v c, a ≤ v → v < e → t[v]? = some c → p c = true) (he : e = t.length ∨ ∃ c, t[e]? = some c ∧ p c = false) : runE p t a = e := by
  have hat := runE_at (p := p) (t.length - a) (t := t) (a := a) rfl (Nat.le_trans h1 h2)
  have hge := runE_ge p t a
  rcases Nat.lt_trichotomy (runE p t a) e with h | h | h
  · exfalso
    rcases hat with z | ⟨c, hc, hp⟩
    · omega
    · have := hi _ c hge h hc
      rw [hp] at this
      cases this
  · exact h
  · exfalso
    rcases he with z | ⟨c, hc, hp⟩
    · have := runE_le (p := p) (Nat.le_trans h1 h2)
      omega
    · have := runE_in (t.length - a) rfl h1 h hc
      rw [hp] at this
      cases this
theorem noQ_ne {c : Nat} (h : noQ c = true) : c ≠ 10 ∧ c ≠ 34 := by
  unfold noQ at h
  simp only [Bool.and_eq_true, Bool.not_eq_true', decide_eq_false_iff_not] at h
  exact h
theorem noQ_no {c : Nat} (h : noQ c = false) : c = 10 ∨ c = 34 := by
  unfold noQ at h
  by_cases h1 : c = 10
  · exact .inl h1
  · by_cases h2 : c = 34
    · exact .inr h2
    · simp [h1, h2] at h
def p34 (c : Nat) : Bool := !decide (c = 34)
theorem str_cases {t : T} {a : Nat} (ha : t[a]? = some 34) :
    (t[runE noQ t (a + 1)]? = some 34 ∧ Txt.find3 (S t) (S [34]) ((a : Int) + 1) = ((runE noQ t (a + 1) : Nat) : Int) ∧ runE noQ t (a + 1) ≤ runE noL t a) ∨
    (¬ t[runE noQ t (a + 1)]? = some 34 ∧ runE noL t a = runE noQ t (a + 1) ∧ (Txt.find3 (S t) (S [34]) ((a : Int) + 1) = -1 ∨ ∃ k : Nat, Txt.find3 (S t) (S [34]) ((a : Int) + 1) = (k : Int) ∧ runE noL t a < k)) := by
  have hal := (List.getElem?_eq_some_iff.mp ha).1
  have hf := find_run (p := p34) (k0 := 34) (t := t) (a := a + 1) (fun c => rfl) hal
  rw [show ((a + 1 : Nat) : Int) = (a : Int) + 1 from rfl] at hf
  have hq := runE_at (p := noQ) (t.length - (a + 1)) (t := t) (a := a + 1) rfl hal
  have hqg := runE_ge noQ t (a + 1)
  have hqn := runE_le (p := noQ) (t := t) (a := a + 1) hal
  have hin : ∀ v c, a + 1 ≤ v → v < runE noQ t (a + 1) → t[v]? = some c → noQ c = true := fun v c h1 h2 h3 => runE_in (t.length - (a + 1)) rfl h1 h2 h3
  generalize runE noQ t (a + 1) = q at hq hqg hqn hin ⊢
  have hL : ∀ e, a ≤ e → e ≤ t.length → (∀ v c, a ≤ v → v < e → t[v]? = some c → noL c = true) → (e = t.length ∨ ∃ c, t[e]? = some c ∧ noL c = false) → runE noL t a = e := fun e h1 h2 h3 h4 => runE_uniq h1 h2 h3 h4
  have hin2 : ∀ v c, a ≤ v → v < q → t[v]? = some c → noL c = true := fun v c h1 h2 h3 => by
    by_cases e : v = a
    · subst e
      rw [ha] at h3
      cases h3
      rfl
    · have := (noQ_ne (hin v c (by omega) h2 h3)).1
      unfold noL
      rw [decide_eq_false this]
      rfl
  rcases hq with hq | ⟨c, hc, hp⟩
  · refine .inr ⟨(by rw [List.getElem?_eq_none (by omega)]; intro z; cases z), hL q (by omega) hqn hin2 (.inl hq), ?_⟩
    rw [hL q (by omega) hqn hin2 (.inl hq)]
    rcases hf with ⟨h1, _⟩ | ⟨k, h1, _, h3, h4, h5⟩
    · exact .inl h1
    · exfalso
      exact (noQ_ne (hin k 34 h4 (by omega) h5)).2 rfl
  · rcases noQ_no hp with e | e
    · subst e
      have eL := hL q (by omega) hqn hin2 (.inr ⟨10, hc, rfl⟩)
      refine .inr ⟨(by rw [hc]; intro z; cases z), eL, ?_⟩
      rw [eL]
      rcases hf with ⟨h1, _⟩ | ⟨k, h1, _, h3, h4, h5⟩
      · exact .inl h1
      · refine .inr ⟨k, h1, ?_⟩
        rcases Nat.lt_trichotomy k q with h | h | h
        · exact absurd rfl (noQ_ne (hin k 34 h4 h h5)).2
        · rw [h, hc] at h5
          cases h5
        · exact h
    · subst e
      refine .inl ⟨hc, ?_, ?_⟩
      · have er : runE p34 t (a + 1) = q := runE_uniq hqg hqn (fun v c h1 h2 h3 => by
          have := (noQ_ne (hin v c h1 h2 h3)).2
          unfold p34
          rw [decide_eq_false this]
          rfl) (.inr ⟨34, hc, rfl⟩)
        have hql := (List.getElem?_eq_some_iff.mp hc).1
        rcases hf with ⟨_, h2⟩ | ⟨k, h1, h2, _⟩
        · omega
        · rw [h1, ← h2, er]
      · rcases Nat.lt_or_ge (runE noL t a) q with h | h
        · exfalso
          have hge := runE_ge noL t a
          rcases runE_at (p := noL) (t.length - a) (t := t) (a := a) rfl (Nat.le_of_lt hal) with z | ⟨c, hc2, hp2⟩
          · omega
          · have := hin2 _ c hge h hc2
            rw [hp2] at this
            cases this
        · exact h
theorem take1 {t : T} {e k : Nat} : (t.drop e).take 1 = [k] ↔ t[e]? = some k := by
  by_cases h : e < t.length
  · rw [List.drop_eq_getElem_cons h, List.getElem?_eq_getElem h, List.take_succ_cons, List.take_zero]
    simp
  · rw [List.drop_eq_nil_of_le (by omega), List.getElem?_eq_none (by omega)]
    simp
/-- a token's tuple -/
def TokAt (H : Hp) (p : Addr) (k : Tok) : Prop := H p = some (.tup [.str k.1, .int (k.2.1 : Nat), .int (k.2.2 : Nat)])
theorem TokAt.dt {H : Hp} {p : Addr} {k : Tok} (h : TokAt H p k) : Dt H (.ref p) (tokD k) := .tup h (.cons (.str _) (.cons (.int _) (.cons (.int _) .nil)))
section
variable {P : Program} {w : World} {K : PySem.W.Frag} {mg : Str → Option Value} {base : Heap}
def spString : Sp := fun vs H Q _ => ∃ (t : T) (a : Nat), vs = [.str (S t), .int (a : Nat)] ∧ t[a]? = some 34 ∧ Ok t ∧ ∀ p H', Same H H' → H p = none → TokAt H' p ((tokA t a 34).1, a, (tokA t a 34).2) → Q (.ref p) H'
theorem ok_string_at {f : Addr} {fd : FuncData} (F : Dfn K mg "_string_at" st__string_at f fd ["text", "at"]) (M : Mg mg) (G : Gb mg) (G_line_end : Cal P w K mg base 1 "_line_end" spLine) : Cal P w K mg base 2 "_string_at" spString := by
  refine cal_mk F sc_string_at (fun vs H Q E h => ?_) (fun cdv A outer s H vs Q E hr h => ?_)
  · obtain ⟨t, a, rfl, _⟩ := h
    rfl
  obtain ⟨t, a, rfl, ha, ok, q⟩ := h
  have hal := (List.getElem?_eq_some_iff.mp ha).1
  have et : tokA t a 34 = if t[runE noQ t (a + 1)]? = some 34 then (if runE noQ t (a + 1) - a - 1 ≤ 100 then ("string" : Str) else ("wrong" : Str), runE noQ t (a + 1) + 1) else (("wrong" : Str), runE noQ t (a + 1)) := by
    unfold tokA
    rw [if_neg (by decide), if_pos rfl]
  have hqg := runE_ge noQ t (a + 1)
  refine ⟨_, (pss_cons (ps_set (i := 2) sc_string_at.nd rfl (.inl rfl) (pe_c G_line_end hr (by omega) (by rfl) (pa_cons (pv 0) (pa_cons (pv 1) pa_nil))))
      (pss_cons (ps_set (i := 3) sc_string_at.nd rfl (.inl rfl) (pe_bm PySem.F.plainAttrs_str PySem.F.slot_str_find PySem.F.type_str_find mt_find3 (pv 0) (pa_cons pe_str (pa_cons (pe_op op_add (pv 1) pe_int) pa_nil))))
      (pss_cons (ps_if (PW.pt (pw_or (pt_cmpR op_eq (pv 3) (pe_un un_neg pe_int) (nomark _)) (pw_or1 (pt_cmpR op_gt (pv 3) (pv 2) (nomark _))))) (pss_one (ps_ret (pe_tup (pa_cons pe_str (pa_cons (pv 1) (pa_cons (pv 2) pa_nil)))))) pss_nil)
      (pss_cons (ps_set (i := 4) sc_string_at.nd rfl (.inl rfl) (pe_ifExp (pt_cmpR op_le (pe_op op_sub (pe_op op_sub (pv 3) (pv 1)) pe_int) (pe_glob (v := .int 100) (by rfl) G.lstr ⟨_, rfl⟩) (nomark _)) pe_str pe_str))
      (pss_one (ps_ret (pe_tup (pa_cons (pv 4) (pa_cons (pv 1) (pa_cons (pe_op op_add (pv 3) pe_int) pa_nil)))))))))), ?_⟩
  refine ⟨_, rfl, _, rfl, t, a, rfl, Nat.le_of_lt hal, ok, ?_⟩
  dsimp only [gName]
  refine ⟨_, rfl, rfl, _, rfl, _, _, rfl, rfl, S t, S [34], (a : Int) + 1, rfl, by rw [q_qq], ?_⟩
  rcases str_cases ha with ⟨h1, h2, h3⟩ | ⟨h1, h2, h3⟩
  · rw [if_pos h1] at et
    rw [et] at q
    rw [h2]
    generalize runE noQ t (a + 1) = e at hqg h1 h3 q ⊢
    dsimp only [gName]
    refine ⟨_, rfl, _, rfl, rfl, _, rfl, ?_⟩
    rw [decide_eq_false (show ¬ V.int (e : Int) = V.int (-1) from fun z => by have := V.int.inj z; omega)]
    refine iteF ⟨_, rfl, _, rfl, _, _, rfl, rfl, _, rfl, ?_⟩
    rw [decide_eq_false (show ¬ ((runE noL t a : Nat) : Int) < (e : Int) by omega)]
    refine iteF ?_
    refine ⟨_, rfl, _, rfl, _, _, rfl, rfl, _, _, rfl, rfl, _, _, rfl, rfl, _, rfl, ?_⟩
    have ei : ((e : Int) - (a : Int) - 1 ≤ 100) ↔ e - a - 1 ≤ 100 := by omega
    by_cases hs : e - a - 1 ≤ 100
    · rw [decide_eq_true (ei.mpr hs)]
      rw [if_pos hs] at q
      refine iteT ?_
      dsimp only [gName]
      refine ⟨_, rfl, _, rfl, _, rfl, _, _, rfl, rfl, by show 3 ≤ sizeLine; decide, fun p np => q p _ (same_upd np) np upd_same⟩
    · rw [decide_eq_false (fun z => hs (ei.mp z))]
      rw [if_neg hs] at q
      refine iteF ?_
      dsimp only [gName]
      refine ⟨_, rfl, _, rfl, _, rfl, _, _, rfl, rfl, by show 3 ≤ sizeLine; decide, fun p np => q p _ (same_upd np) np upd_same⟩
  · rw [if_neg h1] at et
    rw [et, ← h2] at q
    have fin : ∀ (y : V) (o : Option V), tRet (tTup (tCons (tC (.str "wrong")) (tCons (tVar 1) (tCons (tVar 2) tNil)))) { nx := fun _ H' => Q .non H', rt := Q } [some (.str (S t)), some (.int (a : Int)), some (.int ((runE noL t a : Nat) : Int)), some y, o] H := fun y o =>
      ⟨_, rfl, _, rfl, by show 3 ≤ sizeLine; decide, fun p np => q p _ (same_upd np) np upd_same⟩
    rcases h3 with h3 | ⟨k, h3, hk⟩
    · rw [h3]
      dsimp only [gName]
      refine ⟨_, rfl, _, rfl, rfl, _, rfl, ?_⟩
      rw [decide_eq_true rfl]
      exact iteT (iteT (fin _ _))
    · rw [h3]
      dsimp only [gName]
      refine ⟨_, rfl, _, rfl, rfl, _, rfl, ?_⟩
      rw [decide_eq_false (show ¬ V.int (k : Int) = V.int (-1) from fun z => by have := V.int.inj z; omega)]
      refine iteF ⟨_, rfl, _, rfl, _, _, rfl, rfl, _, rfl, ?_⟩
      rw [decide_eq_true (show ((runE noL t a : Nat) : Int) < (k : Int) by omega)]
      exact iteT (fin _ _)
end
end W4
set_option Elab.async false
set_option linter.all false
set_option maxRecDepth 100000
set_option maxHeartbeats 4000000
namespace W4
open PySem PySem.Spec PyProof.Rows L2 Com SX GxR
theorem noE_eq (c : Nat) : (!decide (c ∈ endC)) = noE c := rfl
section
variable {P : Program} {w : World} {K : PySem.W.Frag} {mg : Str → Option Value} {base : Heap}
def spTok (PN PD : Addr) : Sp := fun vs H Q _ => ∃ (t : T) (a c : Nat), vs = [.str (S t), .int (a : Nat)] ∧ t[a]? = some c ∧ ¬ (c = 32 ∨ c = 10) ∧ c ≠ 59 ∧ Ok t ∧ TT PN PD H ∧ ∀ p H', KT H H' → TT PN PD H' → H p = none → TokAt H' p ((tokA t a c).1, a, (tokA t a c).2) → Q (.ref p) H'
def spWord (PN PD : Addr) : Sp := fun vs H Q E => spTok PN PD vs H Q E ∧ ∃ (t : T) (a c : Nat), vs = [.str (S t), .int (a : Nat)] ∧ t[a]? = some c ∧ ¬ (c = 40 ∨ c = 41 ∨ c = 39) ∧ c ≠ 34
theorem ok_word_at {f PN PD : Addr} {fd : FuncData} (F : Dfn K mg "_word_at" st__word_at f fd ["text", "at"]) (M : Mg mg) (G : Gb mg) (G_sort_of_word : Cal P w K mg base 3 "_sort_of_word" (spSort PN PD)) : Cal P w K mg base 4 "_word_at" (spWord PN PD) := by
  refine cal_mk F sc_word_at (fun vs H Q E h => ?_) (fun cdv A outer s H vs Q E hr h => ?_)
  · obtain ⟨⟨t, a, c, rfl, _⟩, _⟩ := h
    rfl
  obtain ⟨⟨t, a, c, rfl, ha, n1, n2, ok, hT, q⟩, t', a', c', ev, ha', n3, n4⟩ := h
  obtain rfl : t = t' := S_inj (V.str.inj (List.cons.inj ev).1)
  obtain rfl : a = a' := by have := V.int.inj (List.cons.inj (List.cons.inj ev).2).1; omega
  rw [ha] at ha'
  cases ha'
  have hal := (List.getElem?_eq_some_iff.mp ha).1
  have et : tokA t a c = if wrd t a (runE noE t a) = [35] ∧ t[runE noE t a]? = some 39 then (("sign" : Str), runE noE t a + 1) else (sortW (wrd t a (runE noE t a)), runE noE t a) := by
    unfold tokA
    rw [if_neg n3, if_neg n4]
  have hgt : a < runE noE t a := by
    have hp : noE c = true := by
      unfold noE endC
      simp only [List.mem_cons, List.not_mem_nil, or_false]
      have : ¬ (c = 32 ∨ c = 10 ∨ c = 40 ∨ c = 41 ∨ c = 39 ∨ c = 34 ∨ c = 59) := by omega
      simp [this]
    have r2 := runE_step ha hp
    have r3 := runE_ge noE t (a + 1)
    omega
  have hle : runE noE t a ≤ t.length := runE_le (Nat.le_of_lt hal)
  rw [et] at q
  obtain ⟨e, he⟩ : ∃ e, e = runE noE t a := ⟨_, rfl⟩
  rw [← he] at q hgt hle
  have hz := ok.z
  refine ⟨_, (pss_cons (ps_set (i := 2) sc_word_at.nd rfl (.inl rfl) (pv 1))
      (pss_cons (ps_while PassesOwn.never (PW.pt (pw_and (pt_cmpR op_lt (pv 2) (pe_callB call_len_str (by rfl) M.len b_len (pa_cons (pv 0) pa_nil)) (nomark _)) (pw_and1 (pt_cmpR op_notInS (pe_ix ix_str (pv 0) (pv 2) (fun _ _ => rfl)) (pe_glob (v := .str " \n()'\";") (by rfl) G.wend ⟨_, rfl⟩) (by rfl)))))
      (pss_one (ps_aug (i := 2) sc_word_at.nd rfl (.inl rfl) pe_int ip_add)))
      (pss_cons (ps_set (i := 3) sc_word_at.nd rfl (.inl rfl) (pe_slice sl_str (pv 0) (po_some (pv 1)) (po_some (pv 2))))
      (pss_cons (ps_if (PW.pt (pw_and (pt_cmpR op_eq (pv 3) pe_str (nomark _)) (pw_and1 (pt_cmpR op_eq (pe_slice sl_str (pv 0) (po_some (pv 2)) (po_some (pe_op op_add (pv 2) pe_int))) pe_str (nomark _))))) (pss_one (ps_ret (pe_tup (pa_cons pe_str (pa_cons (pv 1) (pa_cons (pe_op op_add (pv 2) pe_int) pa_nil)))))) pss_nil)
      (pss_one (ps_ret (pe_tup (pa_cons (pe_c G_sort_of_word hr (by omega) (by rfl) (pa_cons (pv 3) pa_nil)) (pa_cons (pv 1) (pa_cons (pv 2) pa_nil)))))))))), ?_⟩
  refine ⟨_, rfl, ?_⟩
  dsimp only [gName]
  refine seq_split (t1 := tWhile _ _) (fun σ' H' => σ' = [some (.str (S t)), some (.int (a : Nat)), some (.int (e : Nat)), none] ∧ H' = H) ?_ (fun rest => ?_)
  · rintro σ' H' ⟨rfl, rfl⟩
    refine ⟨_, rfl, _, rfl, _, rfl, _, rfl, _, rfl, _, rfl, hz, ?_⟩
    rw [cut_wrd (Nat.le_of_lt hgt) hle]
    dsimp only [gName]
    refine ⟨_, rfl, rfl, _, rfl, ?_⟩
    rw [wdE q_sh]
    have owd := ok.wrd a e
    have hwl := wrd_len (Nat.le_of_lt hgt) hle
    generalize wrd t a e = wd at q owd hwl ⊢
    have hwne : wd ≠ [] := fun z => by rw [z] at hwl; simp at hwl; omega
    have wordy : ¬ (wd = [35] ∧ t[e]? = some 39) → tRet (tTup (tCons (tCall (spSort PN PD) [] E0 (tCons (tVar 3) tNil)) (tCons (tVar 1) (tCons (tVar 2) tNil)))) { nx := fun _ H' => Q .non H', rt := Q } [some (.str (S t)), some (.int (a : Nat)), some (.int (e : Nat)), some (.str (S wd))] H' := fun hn => by
      rw [if_neg hn] at q
      exact ⟨_, rfl, wd, rfl, hwne, owd, hT, fun H2 k2 hT2 => ⟨_, rfl, _, rfl, by show 3 ≤ sizeLine; decide, fun p np => q p _ (k2.trans (KT.new np)) (hT2.new np) (k2.nn np) upd_same⟩⟩
    by_cases h1 : wd = [35]
    · rw [decide_eq_true h1]
      refine iteT ⟨_, rfl, _, rfl, _, rfl, _, rfl, _, _, rfl, rfl, _, rfl, _, rfl, hz, ?_⟩
      rw [cut_one hle]
      refine ⟨rfl, _, rfl, ?_⟩
      rw [wdE q_ap]
      by_cases h2 : t[e]? = some 39
      · rw [decide_eq_true (take1.mpr h2)]
        rw [if_pos ⟨h1, h2⟩] at q
        exact iteT ⟨_, rfl, _, rfl, _, _, rfl, rfl, by show 3 ≤ sizeLine; decide, fun p np => q p _ (KT.new np) (hT.new np) np upd_same⟩
      · rw [decide_eq_false (fun z => h2 (take1.mp z))]
        exact iteF (wordy fun z => h2 z.2)
    · rw [decide_eq_false h1]
      exact iteF (iteF (wordy fun z => h1 z.1))
  · refine ⟨fun m σ H' => ∃ b : Nat, σ = [some (.str (S t)), some (.int (a : Nat)), some (.int (b : Nat)), none] ∧ H' = H ∧ a ≤ b ∧ b ≤ t.length ∧ runE noE t b = e ∧ m = t.length - b, ⟨t.length - a, a, rfl, rfl, Nat.le_refl _, Nat.le_of_lt hal, he.symm, rfl⟩, ?_⟩
    rintro m σ H' ⟨b, rfl, rfl, hab, hbn, hrb, rfl⟩
    refine ⟨_, rfl, _, rfl, S t, rfl, hz, _, _, rfl, rfl, _, rfl, ?_⟩
    rw [len_S]
    by_cases hb : b < t.length
    · rw [decide_eq_true (show (b : Int) < (t.length : Int) by omega)]
      have hc := List.getElem?_eq_getElem hb
      refine iteT ⟨_, rfl, _, rfl, S t, _, _, rfl, rfl, hz, atS hc, tc ⟨_, _, rfl, rfl, _, rfl, ?_⟩⟩
      rw [end_lit, noE_eq]
      cases hp : noE t[b] with
      | true =>
        have r2 := runE_step hc hp
        refine iteT ⟨fun σ' H'' => ∃ m', m' < t.length - b ∧ ∃ b : Nat, σ' = [some (.str (S t)), some (.int (a : Nat)), some (.int (b : Nat)), none] ∧ H'' = H' ∧ a ≤ b ∧ b ≤ t.length ∧ runE noE t b = e ∧ m' = t.length - b, fun σ' H' h => h, ?_⟩
        exact ⟨_, rfl, _, _, rfl, rfl, t.length - (b + 1), by omega, b + 1, rfl, rfl, by omega, hb, by rw [← r2]; exact hrb, rfl⟩
      | false =>
        rw [runE_stop hc hp] at hrb
        subst hrb
        exact iteF (rest _ _ ⟨rfl, rfl⟩)
    · rw [decide_eq_false (show ¬ (b : Int) < (t.length : Int) by omega)]
      rw [runE_end (by omega)] at hrb
      subst hrb
      exact iteF (iteF (rest _ _ ⟨rfl, rfl⟩))
end
end W4
set_option Elab.async false
set_option linter.all false
set_option maxRecDepth 100000
set_option maxHeartbeats 4000000
namespace W4
open PySem PySem.Spec PyProof.Rows L2 Com SX GxR
theorem KT.put {H H' : Hp} {B : Addr} {o : HO} (k : KT H H') (h : H B = none) : KT H (upd H' B o) :=
  ⟨fun b u e n => by rw [upd_ne (ne_of_none e h)]; exact k.k _ _ e n, fun b ps e => by
    obtain ⟨ps', e'⟩ := k.t b ps e
    exact ⟨ps', by rw [upd_ne (ne_of_none e h)]; exact e'⟩⟩
theorem strE (a b : Str) : decide (V.str a = V.str b) = decide (a = b) := by
  by_cases e : a = b
  · subst e
    rw [decide_eq_true rfl, decide_eq_true rfl]
  · rw [decide_eq_false e, decide_eq_false (fun z => e (V.str.inj z))]
theorem blank_in (c : Nat) : decide (c ∈ [32, 10]) = decide (c = 32 ∨ c = 10) := by
  congr 1
  simp
theorem sig_in (c : Nat) : decide (c ∈ [40, 41, 39]) = decide (c = 40 ∨ c = 41 ∨ c = 39) := by
  congr 1
  simp
section
variable {P : Program} {w : World} {K : PySem.W.Frag} {mg : Str → Option Value} {base : Heap}
theorem ok_token_at {f PN PD : Addr} {fd : FuncData} (F : Dfn K mg "_token_at" st__token_at f fd ["text", "at"]) (M : Mg mg) (G_string_at : Cal P w K mg base 2 "_string_at" spString) (G_word_at : Cal P w K mg base 4 "_word_at" (spWord PN PD)) : Cal P w K mg base 5 "_token_at" (spTok PN PD) := by
  refine cal_mk F sc_token_at (fun vs H Q E h => ?_) (fun cdv A outer s H vs Q E hr h => ?_)
  · obtain ⟨t, a, c, rfl, _⟩ := h
    rfl
  obtain ⟨t, a, c, rfl, ha, n1, n2, ok, hT, q⟩ := h
  have hz := ok.z
  refine ⟨_, (pss_cons (ps_if (pt_cmpR op_inS (pe_ix ix_str (pv 0) (pv 1) (fun _ _ => rfl)) pe_str (by rfl)) (pss_one (ps_ret (pe_tup (pa_cons pe_str (pa_cons (pv 1) (pa_cons (pe_op op_add (pv 1) pe_int) pa_nil)))))) pss_nil)
      (pss_cons (ps_if (pt_cmpR op_eq (pe_ix ix_str (pv 0) (pv 1) (fun _ _ => rfl)) pe_str (nomark _)) (pss_one (ps_ret (pe_c G_string_at hr (by omega) (by rfl) (pa_cons (pv 0) (pa_cons (pv 1) pa_nil))))) pss_nil)
      (pss_one (ps_ret (pe_c G_word_at hr (by omega) (by rfl) (pa_cons (pv 0) (pa_cons (pv 1) pa_nil))))))), ?_⟩
  refine ⟨_, rfl, _, rfl, S t, _, _, rfl, rfl, hz, atS ha, tc ⟨c, _, rfl, rfl, _, rfl, ?_⟩⟩
  rw [w_sig, sig_in]
  by_cases h1 : c = 40 ∨ c = 41 ∨ c = 39
  · rw [decide_eq_true h1]
    have et : tokA t a c = (("sign" : Str), a + 1) := by unfold tokA; rw [if_pos h1]
    rw [et] at q
    exact iteT ⟨_, rfl, _, rfl, _, _, rfl, rfl, by show 3 ≤ sizeLine; decide, fun p np => q p _ (KT.new np) (hT.new np) np upd_same⟩
  · rw [decide_eq_false h1]
    refine iteF ⟨_, rfl, _, rfl, S t, _, _, rfl, rfl, hz, atS ha, rfl, _, rfl, ?_⟩
    rw [sgE q_qq]
    by_cases h2 : c = 34
    · subst h2
      rw [decide_eq_true rfl]
      exact iteT ⟨_, rfl, _, rfl, t, a, rfl, ha, ok, fun p H' s' np hp => q p H' (KT.same s') (hT.same s') np hp⟩
    · rw [decide_eq_false h2]
      exact iteF ⟨_, rfl, _, rfl, ⟨t, a, c, rfl, ha, n1, n2, ok, hT, q⟩, t, a, c, rfl, ha, h1, h2⟩
def spToks (PN PD : Addr) : Sp := fun vs H Q _ => ∃ t : T, vs = [.str (S t)] ∧ Ok t ∧ TT PN PD H ∧ ∀ r H' ys, KT H H' → TT PN PD H' → H r = none → H' r = some (.lst ys) → DtAll H' ys ((toksF t 0).map tokD) → Q (.ref r) H'
theorem ok_tokens {f PN PD : Addr} {fd : FuncData} (F : Dfn K mg "tokens" st_tokens f fd ["text"]) (M : Mg mg) (G_line_end : Cal P w K mg base 1 "_line_end" spLine) (G_token_at : Cal P w K mg base 5 "_token_at" (spTok PN PD)) : Cal P w K mg base 6 "tokens" (spToks PN PD) := by
  refine cal_mk F sctokens (fun vs H Q E h => ?_) (fun cdv A outer s H vs Q E hr h => ?_)
  · obtain ⟨t, rfl, _⟩ := h
    rfl
  obtain ⟨t, rfl, ok, hT, q⟩ := h
  have hz := ok.z
  have hn := ok.len
  refine ⟨_, (pss_cons (ps_set (i := 1) sctokens.nd rfl (.inl rfl) (pe_lst pa_nil))
      (pss_cons (ps_set (i := 2) sctokens.nd rfl (.inl rfl) pe_int)
      (pss_cons (ps_while PassesOwn.never (pt_cmpR op_lt (pv 2) (pe_callB call_len_str (by rfl) M.len b_len (pa_cons (pv 0) pa_nil)) (nomark _))
      (pss_one (ps_if (pt_cmpR op_inS (pe_ix ix_str (pv 0) (pv 2) (fun _ _ => rfl)) pe_str (by rfl)) (pss_one (ps_aug (i := 2) sctokens.nd rfl (.inl rfl) pe_int ip_add)) (pss_one (ps_if (pt_cmpR op_eq (pe_ix ix_str (pv 0) (pv 2) (fun _ _ => rfl)) pe_str (nomark _)) (pss_one (ps_set (i := 2) sctokens.nd rfl (.inl rfl) (pe_c G_line_end hr (by omega) (by rfl) (pa_cons (pv 0) (pa_cons (pv 2) pa_nil))))) (pss_cons (ps_set (i := 3) sctokens.nd rfl (.inl rfl) (pe_c G_token_at hr (by omega) (by rfl) (pa_cons (pv 0) (pa_cons (pv 2) pa_nil))))
      (pss_cons (ps_expr (pe_bm PySem.F.plainAttrs_list PySem.F.slot_list_append PySem.F.type_list_append mt_append (pv 1) (pa_cons (pv 3) pa_nil)))
      (pss_one (ps_set (i := 2) sctokens.nd rfl (.inl rfl) (pe_ix (ixT K rfl) (pv 3) pe_int (fun _ _ => rfl)))))))))))
      (pss_one (ps_ret (pv 1)))))), ?_⟩
  refine ⟨by decide, fun B nB => ?_⟩
  have k1 := KT.new (o := .lst []) nB
  have hB1 : upd H B (.lst []) B = some (.lst []) := upd_same
  have T1 := hT.new (o := .lst []) nB
  generalize upd H B (.lst []) = H1 at k1 hB1 T1 ⊢
  refine ⟨fun m σ H' => ∃ (a : Nat) (y : Option V) (vs : List V) (ks : List Tok), σ = [some (.str (S t)), some (.ref B), some (.int (a : Nat)), y] ∧ KT H H' ∧ TT PN PD H' ∧ H' B = some (.lst vs) ∧ DtAll H' vs (ks.map tokD) ∧ ks ++ toksF t a = toksF t 0 ∧ a ≤ t.length ∧ m = t.length - a,
    ⟨_, 0, none, [], [], rfl, k1, T1, hB1, .nil, rfl, Nat.zero_le _, rfl⟩, ?_⟩
  rintro m σ H' ⟨a, y, vs, ks, rfl, kk, hT', hB', dv, hks, han, rfl⟩
  refine ⟨_, rfl, _, rfl, S t, rfl, hz, _, _, rfl, rfl, _, rfl, ?_⟩
  rw [len_S]
  by_cases hb : a < t.length
  case neg =>
    rw [decide_eq_false (show ¬ (a : Int) < (t.length : Int) by omega)]
    rw [toksF_end (by omega), List.append_nil] at hks
    rw [hks] at dv
    exact iteF ⟨_, rfl, q B H' vs kk hT' nB hB' dv⟩
  rw [decide_eq_true (show (a : Int) < (t.length : Int) by omega)]
  have ha := List.getElem?_eq_getElem hb
  obtain ⟨c, hc⟩ : ∃ c, c = t[a] := ⟨_, rfl⟩
  rw [← hc] at ha
  refine iteT ⟨fun σ' H'' => ∃ m', m' < t.length - a ∧ ∃ (a : Nat) (y : Option V) (vs : List V) (ks : List Tok), σ' = [some (.str (S t)), some (.ref B), some (.int (a : Nat)), y] ∧ KT H H'' ∧ TT PN PD H'' ∧ H'' B = some (.lst vs) ∧ DtAll H'' vs (ks.map tokD) ∧ ks ++ toksF t a = toksF t 0 ∧ a ≤ t.length ∧ m' = t.length - a, fun σ' H' h => h, ?_⟩
  refine ⟨_, rfl, _, rfl, S t, _, _, rfl, rfl, hz, atS ha, tc ⟨c, _, rfl, rfl, _, rfl, ?_⟩⟩
  rw [w_bl, blank_in]
  by_cases h1 : c = 32 ∨ c = 10
  · rw [decide_eq_true h1]
    rw [toksF_blank ha h1] at hks
    exact iteT ⟨_, rfl, _, _, rfl, rfl, t.length - (a + 1), by omega, a + 1, y, vs, ks, rfl, kk, hT', hB', dv, hks, hb, rfl⟩
  rw [decide_eq_false h1]
  refine iteF ⟨_, rfl, _, rfl, S t, _, _, rfl, rfl, hz, atS ha, rfl, _, rfl, ?_⟩
  rw [sgE q_semi]
  by_cases h2 : c = 59
  · rw [decide_eq_true h2]
    rw [h2] at ha
    rw [toksF_rem ha] at hks
    have hgt := nxt_gt ha
    have hle := nxt_le ha
    have en : nxt t a 59 = runE noL t a := by unfold nxt; rw [if_neg (by omega), if_pos rfl]
    rw [en] at hgt hle
    refine iteT ⟨_, rfl, _, rfl, t, a, rfl, han, ok, t.length - runE noL t a, by omega, runE noL t a, y, vs, ks, rfl, kk, hT', hB', dv, hks, hle, rfl⟩
  rw [decide_eq_false h2]
  have hgt := tokA_gt ha h1 h2
  have hle := tokA_le ha
  rw [toksF_tok ha h1 h2] at hks
  refine iteF ⟨_, rfl, _, rfl, t, a, c, rfl, ha, h1, h2, ok, hT', fun p H2 k2 hT2 np hp => ?_⟩
  have hB2 := k2.lst hB'
  have dv2 := dv.tk k2.tk
  have kk2 := kk.trans k2
  have hlen : ks.length < t.length + 1 := by
    have := congrArg List.length hks
    rw [List.length_append, List.length_cons] at this
    have h3 := toksF_len (t := t) t.length (a := 0) (by omega)
    omega
  have hvl := dv2.len
  rw [List.length_map] at hvl
  dsimp only [gName]
  refine ⟨_, rfl, .inl ⟨rfl, _, SqL.of hB2⟩, _, rfl, B, vs, _, rfl, rfl, hB2, by show _ < 2 ^ 24; omega, ?_⟩
  have tk3 : Tk H2 (upd H2 B (.lst (vs ++ [.ref p]))) := Tk.upd fun xs z => by rw [hB2] at z; cases z
  have h3 : TokAt (upd H2 B (.lst (vs ++ [.ref p]))) p ((tokA t a c).1, a, (tokA t a c).2) := tk3 _ _ hp
  refine ⟨_, rfl, tc (ixt h3 (atI_nat (j := 2) rfl) ⟨t.length - (tokA t a c).2, by omega, (tokA t a c).2, _, vs ++ [.ref p], ks ++ [((tokA t a c).1, a, (tokA t a c).2)], rfl, kk2.put nB, hT2.put (fun ps z => by rw [hB2] at z; cases z), upd_same, ?_, ?_, hle, rfl⟩)⟩
  · rw [List.map_append]
    exact (dv2.tk tk3).app (.one h3.dt)
  · rw [List.append_assoc]
    exact hks
end
end W4
set_option Elab.async false
set_option linter.all false
set_option maxRecDepth 100000
set_option maxHeartbeats 4000000
namespace W4
open PySem PySem.Spec PyProof.Rows L2 Com SX GxR
/-! what tokens are worth -/
theorem sort_num {w : T} (h : sortW w = "number") : isNum w = true := by
  unfold sortW at h
  split at h
  · exact absurd h (by decide +kernel)
  · split at h
    · exact absurd h (by decide +kernel)
    · split at h
      · exact absurd h (by decide +kernel)
      · split at h
        · assumption
        · split at h
          · exact absurd h (by decide +kernel)
          · exact absurd h (by decide +kernel)
theorem sort_six (w : T) : sortW w = "flag" ∨ sortW w = "dots" ∨ sortW w = "wild" ∨ sortW w = "number" ∨ sortW w = "name" ∨ sortW w = "wrong" := by
  unfold sortW
  split
  · exact .inl rfl
  · split
    · exact .inr (.inl rfl)
    · split
      · exact .inr (.inr (.inl rfl))
      · split
        · exact .inr (.inr (.inr (.inl rfl)))
        · split
          · exact .inr (.inr (.inr (.inr (.inl rfl))))
          · exact .inr (.inr (.inr (.inr (.inr rfl))))
theorem sort_ns (w : T) : sortW w ≠ "sign" ∧ sortW w ≠ "string" := by
  rcases sort_six w with h | h | h | h | h | h <;> rw [h] <;> constructor <;> decide +kernel
structure TokOk (t : T) (k : Tok) : Prop where
  le : k.2.1 < k.2.2 ∧ k.2.2 ≤ t.length
  num : k.1 = "number" → isNum (wrd t k.2.1 k.2.2) = true
  str : k.1 = "string" → 2 ≤ (wrd t k.2.1 k.2.2).length
  sig : k.1 = "sign" → wrd t k.2.1 k.2.2 = [40] ∨ wrd t k.2.1 k.2.2 = [41] ∨ wrd t k.2.1 k.2.2 = [39] ∨ wrd t k.2.1 k.2.2 = [35, 39]
  nsg : k.1 ≠ "sign" → wrd t k.2.1 k.2.2 ≠ [41]
theorem wrd_one {t : T} {a c : Nat} (h : t[a]? = some c) : wrd t a (a + 1) = [c] := by
  unfold wrd
  rw [Nat.add_sub_cancel_left]
  exact take1.mpr h
theorem wrd_head {t : T} {a b c : Nat} (h : t[a]? = some c) (hb : a < b) : ∃ r, wrd t a b = c :: r := by
  obtain ⟨ha, e⟩ := List.getElem?_eq_some_iff.mp h
  unfold wrd
  rw [List.drop_eq_getElem_cons ha, e, show b - a = (b - a - 1) + 1 by omega, List.take_succ_cons]
  exact ⟨_, rfl⟩
theorem wrd_snoc {t : T} {a b c : Nat} (h : t[b]? = some c) (hab : a ≤ b) : wrd t a (b + 1) = wrd t a b ++ [c] := by
  unfold wrd
  rw [show b + 1 - a = (b - a) + 1 by omega, List.take_add_one, List.getElem?_drop, show a + (b - a) = b by omega, h]
  rfl
theorem k1 : ¬ (("sign" : Str) = "number") := by decide +kernel
theorem k2 : ¬ (("sign" : Str) = "string") := by decide +kernel
theorem k3 : ¬ (("string" : Str) = "number") := by decide +kernel
theorem k4 : ¬ (("wrong" : Str) = "number") := by decide +kernel
theorem k5 : ¬ (("wrong" : Str) = "string") := by decide +kernel
theorem k6 : ¬ (("string" : Str) = "sign") := by decide +kernel
theorem k7 : ¬ (("wrong" : Str) = "sign") := by decide +kernel
theorem tokA_ok {t : T} {a c : Nat} (h : t[a]? = some c) (h1 : ¬ (c = 32 ∨ c = 10)) (h2 : c ≠ 59) : TokOk t ((tokA t a c).1, a, (tokA t a c).2) := by
  have hgt := tokA_gt h h1 h2
  have hle := tokA_le h
  have hal := (List.getElem?_eq_some_iff.mp h).1
  obtain ⟨r, hr⟩ := wrd_head h hgt
  refine ⟨⟨hgt, hle⟩, ?_, ?_, ?_, ?_⟩
  all_goals dsimp only
  · intro e
    unfold tokA at e ⊢
    split at e
    · (first | exact absurd e k1 | exact absurd e k2 | exact absurd e k3 | exact absurd e k4 | exact absurd e k5 | exact absurd e k6 | exact absurd e k7)
    · split at e
      · split at e
        · split at e <;> (first | exact absurd e k1 | exact absurd e k2 | exact absurd e k3 | exact absurd e k4 | exact absurd e k5 | exact absurd e k6 | exact absurd e k7)
        · (first | exact absurd e k1 | exact absurd e k2 | exact absurd e k3 | exact absurd e k4 | exact absurd e k5 | exact absurd e k6 | exact absurd e k7)
      · split at e
        · (first | exact absurd e k1 | exact absurd e k2 | exact absurd e k3 | exact absurd e k4 | exact absurd e k5 | exact absurd e k6 | exact absurd e k7)
        · rename_i n1 n2 n3
          rw [if_neg n1, if_neg n2, if_neg n3]
          exact sort_num e
  · intro e
    have hq := runE_ge noQ t (a + 1)
    unfold tokA at e hle ⊢
    split at e
    · (first | exact absurd e k1 | exact absurd e k2 | exact absurd e k3 | exact absurd e k4 | exact absurd e k5 | exact absurd e k6 | exact absurd e k7)
    · split at e
      · rename_i n1 n2
        rw [if_neg n1, if_pos n2] at hle ⊢
        split at e
        · rename_i n3
          rw [if_pos n3] at hle ⊢
          have hle' : runE noQ t (a + 1) + 1 ≤ t.length := hle
          rw [wrd_len (by omega) hle']
          omega
        · (first | exact absurd e k1 | exact absurd e k2 | exact absurd e k3 | exact absurd e k4 | exact absurd e k5 | exact absurd e k6 | exact absurd e k7)
      · split at e
        · (first | exact absurd e k1 | exact absurd e k2 | exact absurd e k3 | exact absurd e k4 | exact absurd e k5 | exact absurd e k6 | exact absurd e k7)
        · exact absurd e (sort_ns _).2
  · intro e
    unfold tokA at e ⊢
    split at e
    · rename_i n1
      rw [if_pos n1]
      show wrd t a (a + 1) = [40] ∨ _
      rw [wrd_one h]
      rcases n1 with rfl | rfl | rfl
      · exact .inl rfl
      · exact .inr (.inl rfl)
      · exact .inr (.inr (.inl rfl))
    · split at e
      · split at e
        · split at e <;> (first | exact absurd e k1 | exact absurd e k2 | exact absurd e k3 | exact absurd e k4 | exact absurd e k5 | exact absurd e k6 | exact absurd e k7)
        · (first | exact absurd e k1 | exact absurd e k2 | exact absurd e k3 | exact absurd e k4 | exact absurd e k5 | exact absurd e k6 | exact absurd e k7)
      · split at e
        · rename_i n1 n2 n3
          rw [if_neg n1, if_neg n2, if_pos n3]
          show wrd t a (runE noE t a + 1) = [40] ∨ wrd t a (runE noE t a + 1) = [41] ∨ wrd t a (runE noE t a + 1) = [39] ∨ wrd t a (runE noE t a + 1) = [35, 39]
          rw [wrd_snoc n3.2 (runE_ge noE t a), n3.1]
          exact .inr (.inr (.inr rfl))
        · exact absurd e (sort_ns _).1
  · intro e z
    rw [hr] at z
    have hc : c = 41 := (List.cons.inj z).1
    unfold tokA at e
    rw [if_pos (by omega)] at e
    exact e rfl
theorem toks_ok {t : T} : ∀ (n : Nat) {a : Nat}, t.length - a = n → ∀ k ∈ toksF t a, TokOk t k := by
  intro n
  induction n using Nat.strongRecOn with
  | _ n ih =>
    intro a hn k hk
    cases e : t[a]? with
    | none =>
      rw [toksF_end (List.getElem?_eq_none_iff.mp e)] at hk
      cases hk
    | some c =>
      have ha := (List.getElem?_eq_some_iff.mp e).1
      have h1 := nxt_gt e
      have h2 := ih (t.length - nxt t a c) (by omega) (a := nxt t a c) rfl
      rw [toksF_at e] at hk
      split at hk
      · exact h2 k hk
      · rename_i hc
        rcases List.mem_cons.mp hk with hk | hk
        · subst hk
          exact tokA_ok e (by omega) (by omega)
        · exact h2 k hk
theorem dig_iff (c : Nat) : isD c = true ↔ 48 ≤ c ∧ c ≤ 57 := by
  unfold isD digC
  rw [decide_eq_true_iff]
  simp only [List.mem_cons, List.not_mem_nil, or_false]
  omega
theorem num_int {w : T} (h : isNum w = true) : intText? (S w) = some (intW w) ∧ w.length ≤ 31 := by
  have key : (∃ n, intText? (S w) = some n) ∧ w.length ≤ 31 := by
    unfold isNum at h
    rw [Bool.or_eq_true, decide_eq_true_iff] at h
    rcases h with h | h
    · subst h
      exact ⟨⟨_, intText_digits (x := S [48]) (fun c hc => by have : c = 48 := List.mem_singleton.mp hc; omega) (by simp) (by rw [len_S]; decide)⟩, by decide⟩
    · simp only [Bool.and_eq_true, decide_eq_true_eq, Bool.not_eq_true', decide_eq_false_iff_not, List.all_eq_true] at h
      obtain ⟨⟨⟨h1, h2⟩, _⟩, h4⟩ := h
      have hd : ∀ c ∈ body w, 48 ≤ c ∧ c ≤ 57 := fun c hc => (dig_iff c).mp (h4 c hc)
      have hne : body w ≠ [] := fun z => by rw [z] at h1; simp at h1
      cases w with
      | nil => exact absurd rfl hne
      | cons c r =>
        by_cases hc : c = 45
        · subst hc
          have eb : body (45 :: r) = r := rfl
          rw [eb] at hd hne h2
          exact ⟨⟨_, intText_neg (x := S (45 :: r)) (cs := r) rfl hd hne (by rw [len_S, List.length_cons]; omega)⟩, by rw [List.length_cons]; omega⟩
        · have eb : body (c :: r) = c :: r := by
            unfold body
            rw [if_neg (show ¬ (c :: r).head? = some 45 from fun e => hc (Option.some.inj e))]
          rw [eb] at hd h2
          exact ⟨⟨_, intText_digits (x := S (c :: r)) hd (by simp) (by rw [len_S]; omega)⟩, by omega⟩
  obtain ⟨⟨n, hn⟩, hl⟩ := key
  refine ⟨?_, hl⟩
  unfold intW
  rw [hn]
  rfl
section
variable {P : Program} {w : World} {K : PySem.W.Frag} {mg : Str → Option Value} {base : Heap}
/-! _atom -/
def spAtom : Sp := fun vs H Q _ => ∃ (s : Str) (w : T) (p : Nat), vs = [.str s, .str (S w), .int (p : Nat)] ∧ Ok w ∧ (s = "number" → isNum w = true) ∧ (s = "string" → 2 ≤ w.length) ∧ ∀ r H', Same H H' → Dt H' (.ref r) (atomD s w p) → Q (.ref r) H'
theorem cut_str {w : T} (h : 1 ≤ w.length) : cutS (S w) (some 1) (some (-1)) = S (wrd w 1 (w.length - 1)) := by
  unfold cutS wrd
  have e : (S w).length = w.length := S_len w
  rw [show (some 1 : Option Int) = some ((1 : Nat) : Int) from rfl, HT.sIx_nat, e, Nat.min_eq_left h]
  have e2 : HT.sIx w.length w.length (some (-1)) = w.length - 1 := by
    show (if (-1 : Int) < 0 then ((-1 : Int) + (w.length : Int)).toNat else min (-1 : Int).toNat w.length) = w.length - 1
    rw [if_pos (by decide)]
    omega
  rw [e2]
theorem ok_atom {f : Addr} {fd : FuncData} (F : Dfn K mg "_atom" st__atom f fd ["sort", "word", "place"]) (M : Mg mg) : Cal P w K mg base 1 "_atom" spAtom := by
  refine cal_mk F sc_atom (fun vs H Q E h => ?_) (fun cdv A outer s H vs Q E hr h => ?_)
  · obtain ⟨s, w, p, rfl, _⟩ := h
    rfl
  obtain ⟨s, w, p, rfl, ok, hnum, hstr, q⟩ := h
  refine ⟨_, (pss_cons (ps_if (pt_cmpR op_eq (pv 0) pe_str (nomark _)) (pss_one (ps_ret (pe_tup (pa_cons pe_str (pa_cons (pe_callTy call_int_str (by rfl) M.int b_int (pa_cons (pv 1) pa_nil)) (pa_cons (pv 2) pa_nil)))))) pss_nil)
      (pss_cons (ps_if (pt_cmpR op_eq (pv 0) pe_str (nomark _)) (pss_one (ps_ret (pe_tup (pa_cons pe_str (pa_cons (pe_cmpR op_eq (pv 1) pe_str (nomark _)) (pa_cons (pv 2) pa_nil)))))) pss_nil)
      (pss_cons (ps_if (pt_cmpR op_eq (pv 0) pe_str (nomark _)) (pss_one (ps_ret (pe_tup (pa_cons pe_str (pa_cons (pe_slice sl_str (pv 1) (po_some pe_int) (po_some (pe_un un_neg pe_int))) (pa_cons (pv 2) pa_nil)))))) pss_nil)
      (pss_cons (ps_if (pt_cmpR op_eq (pv 0) pe_str (nomark _)) (pss_one (ps_ret (pe_tup (pa_cons pe_str (pa_cons (pv 1) (pa_cons (pv 2) pa_nil)))))) pss_nil)
      (pss_one (ps_ret (pe_tup (pa_cons (pv 0) (pa_cons pe_non (pa_cons (pv 2) pa_nil)))))))))), ?_⟩
  refine ⟨_, rfl, rfl, _, rfl, ?_⟩
  rw [strE]
  unfold atomD at q
  by_cases h1 : s = "number"
  · rw [decide_eq_true h1]
    rw [if_pos h1] at q
    obtain ⟨hi, hl⟩ := num_int (hnum h1)
    exact iteT ⟨_, rfl, S w, _, rfl, hi, by rw [len_S]; omega, _, rfl, by show 3 ≤ sizeLine; decide, fun r nr => q r _ (same_upd nr) (.tup upd_same (.cons (.str _) (.cons (.int _) (.cons (.int _) .nil))))⟩
  rw [decide_eq_false h1]
  rw [if_neg h1] at q
  refine iteF ⟨_, rfl, rfl, _, rfl, ?_⟩
  rw [strE]
  by_cases h2 : s = "flag"
  · rw [decide_eq_true h2]
    rw [if_pos h2] at q
    refine iteT ⟨_, rfl, rfl, ?_⟩
    rw [wdE q_t]
    exact ⟨_, rfl, by show 3 ≤ sizeLine; decide, fun r nr => q r _ (same_upd nr) (.tup upd_same (.cons (.str _) (.cons (.bl _) (.cons (.int _) .nil))))⟩
  rw [decide_eq_false h2]
  rw [if_neg h2] at q
  refine iteF ⟨_, rfl, rfl, _, rfl, ?_⟩
  rw [strE]
  by_cases h3 : s = "string"
  · rw [decide_eq_true h3]
    rw [if_pos h3] at q
    have := hstr h3
    refine iteT ⟨_, rfl, _, rfl, _, rfl, _, rfl, S w, rfl, ok.z, ?_⟩
    rw [cut_str (by omega)]
    exact ⟨_, rfl, by show 3 ≤ sizeLine; decide, fun r nr => q r _ (same_upd nr) (.tup upd_same (.cons (.str _) (.cons (.str _) (.cons (.int _) .nil))))⟩
  rw [decide_eq_false h3]
  rw [if_neg h3] at q
  refine iteF ⟨_, rfl, rfl, _, rfl, ?_⟩
  rw [strE]
  by_cases h4 : s = "name"
  · rw [decide_eq_true h4]
    rw [if_pos h4] at q
    exact iteT ⟨_, rfl, _, rfl, by show 3 ≤ sizeLine; decide, fun r nr => q r _ (same_upd nr) (.tup upd_same (.cons (.str _) (.cons (.str _) (.cons (.int _) .nil))))⟩
  rw [decide_eq_false h4]
  rw [if_neg h4] at q
  exact iteF ⟨_, rfl, _, rfl, by show 3 ≤ sizeLine; decide, fun r nr => q r _ (same_upd nr) (.tup upd_same (.cons (.str _) (.cons .non (.cons (.int _) .nil))))⟩
end
end W4
set_option Elab.async false
set_option linter.all false
set_option maxRecDepth 100000
set_option maxHeartbeats 4000000
namespace W4
open PySem PySem.Spec PyProof.Rows L2 Com SX GxR
/-! the reader's state -/
structure KM (M0 : List Addr) (H0 H : Hp) : Prop where
  k : ∀ b o, b ∉ M0 → H0 b = some o → (∀ ps, o ≠ .tbl ps) → H b = some o
  t : ∀ b ps, H0 b = some (.tbl ps) → ∃ ps', H b = some (.tbl ps')
theorem KM.kt {M0 : List Addr} {H0 H H' : Hp} (a : KM M0 H0 H) (b : KT H H') : KM M0 H0 H' := ⟨fun c o hc h n => b.k c o (a.k c o hc h n) n, fun c ps h => by
  obtain ⟨ps', h'⟩ := a.t c ps h
  exact b.t c ps' h'⟩
theorem KM.of {M0 : List Addr} {H H' : Hp} (b : KT H H') : KM M0 H H' := ⟨fun c o _ h n => b.k c o h n, b.t⟩
theorem KM.kt' {H0 H : Hp} (a : KM [] H0 H) : KT H0 H := ⟨fun b o h n => a.k b o (fun z => by cases z) h n, a.t⟩
theorem KM.put {M0 : List Addr} {H0 H : Hp} {p : Addr} {xs ys : List V} (a : KM M0 H0 H) (h : H p = some (.lst xs)) (hp : p ∈ M0 ∨ H0 p = none) : KM M0 H0 (upd H p (.lst ys)) := by
  refine ⟨fun b o hb e n => ?_, fun b ps e => ?_⟩
  · rw [upd_ne]
    · exact a.k b o hb e n
    · intro z
      rcases hp with hp | hp
      · exact hb (z ▸ hp)
      · rw [z, hp] at e
        cases e
  · obtain ⟨ps', e'⟩ := a.t b ps e
    refine ⟨ps', ?_⟩
    rw [upd_ne]
    · exact e'
    · intro z
      rw [z, h] at e'
      cases e'
theorem KM.nn {M0 : List Addr} {H0 H : Hp} {b : Addr} (a : KM M0 H0 H) (hb : b ∉ M0) (n : H b = none) : H0 b = none := by
  cases e : H0 b with
  | none => rfl
  | some o =>
    by_cases h : ∃ ps, o = .tbl ps
    · obtain ⟨ps, rfl⟩ := h
      obtain ⟨ps', e'⟩ := a.t b ps e
      rw [n] at e'
      cases e'
    · rw [a.k _ _ hb e fun ps z => h ⟨ps, z⟩] at n
      cases n
structure Rdr where
  a : Addr
  dx : Addr
  fa : Addr
  sa : Addr
  oa : Addr
def Rdr.M (R : Rdr) (ps : List Addr) : List Addr := R.fa :: R.sa :: R.oa :: ps
def FrsAt (H : Hp) : List V → List Fr → List Addr → Prop
  | [], [], [] => True
  | x :: xs, f :: fs, p :: ps => (∃ b, x = .ref b ∧ H b = some (.tup [.str (S f.sg), .int (f.pl : Nat), .ref p])) ∧ (∃ ys, H p = some (.lst ys) ∧ DtAll H ys f.ps) ∧ FrsAt H xs fs ps
  | _, _, _ => False
theorem FrsAt.keep {H H' : Hp} (k : Tk H H') : ∀ {xs : List V} {fs : List Fr} {ps : List Addr}, (∀ p ∈ ps, ∀ ys, H p = some (.lst ys) → H' p = some (.lst ys)) → FrsAt H xs fs ps → FrsAt H' xs fs ps
  | [], [], [], _, _ => True.intro
  | x :: xs, f :: fs, p :: ps, hk, ⟨⟨b, e, h1⟩, ⟨ys, h2, h3⟩, h4⟩ => ⟨⟨b, e, k _ _ h1⟩, ⟨ys, hk p (List.mem_cons_self) ys h2, h3.tk k⟩, FrsAt.keep k (fun q hq => hk q (List.mem_cons_of_mem _ hq)) h4⟩
theorem FrsAt.len {H : Hp} : ∀ {xs : List V} {fs : List Fr} {ps : List Addr}, FrsAt H xs fs ps → xs.length = fs.length
  | [], [], [], _ => rfl
  | x :: xs, f :: fs, p :: ps, ⟨_, _, h⟩ => congrArg Nat.succ h.len
theorem FrsAt.isLst {H : Hp} : ∀ {xs : List V} {fs : List Fr} {ps : List Addr}, FrsAt H xs fs ps → ∀ p ∈ ps, ∃ ys, H p = some (.lst ys)
  | [], [], [], _, p, hp => by cases hp
  | x :: xs, f :: fs, p :: ps, ⟨_, ⟨ys, h2, _⟩, h⟩, q, hq => by
    rcases List.mem_cons.mp hq with rfl | hq
    · exact ⟨ys, h2⟩
    · exact h.isLst q hq
theorem FrsAt.nil {H : Hp} {xs : List V} {ps : List Addr} (h : FrsAt H xs [] ps) : xs = [] ∧ ps = [] := by
  cases xs with
  | nil => cases ps with
    | nil => exact ⟨rfl, rfl⟩
    | cons p ps => exact False.elim h
  | cons x xs => cases ps with
    | nil => exact False.elim h
    | cons p ps => exact False.elim h
theorem FrsAt.cons {H : Hp} {xs : List V} {f : Fr} {fs : List Fr} {ps : List Addr} (h : FrsAt H xs (f :: fs) ps) : ∃ b xs' p ps' ys, xs = .ref b :: xs' ∧ ps = p :: ps' ∧ H b = some (.tup [.str (S f.sg), .int (f.pl : Nat), .ref p]) ∧ H p = some (.lst ys) ∧ DtAll H ys f.ps ∧ FrsAt H xs' fs ps' := by
  cases xs with
  | nil => exact False.elim h
  | cons x xs => cases ps with
    | nil => exact False.elim h
    | cons p ps =>
      obtain ⟨⟨b, rfl, h1⟩, ⟨ys, h2, h3⟩, h4⟩ := h
      exact ⟨b, xs, p, ps, ys, rfl, rfl, h1, h2, h3, h4⟩
def flds (R : Rdr) (t : T) : List (Str × V) := [("source", .str (S t)), ("forms", .ref R.fa), ("starts", .ref R.sa), ("open_lists", .ref R.oa)]
structure RdAt (C : Addr) (R : Rdr) (t : T) (H : Hp) (ps : List Addr) (st : List Fr) (fm : List PyData) (ss : List Nat) : Prop where
  ins : H R.a = some (.ins C R.dx (flds R t))
  fm : ∃ xs, H R.fa = some (.lst xs) ∧ DtAll H xs fm
  ss : H R.sa = some (.lst (ss.map fun n => V.int (n : Nat)))
  st : ∃ xs, H R.oa = some (.lst xs.reverse) ∧ FrsAt H xs st ps
  nd : (R.M ps).Nodup
theorem RdAt.kt {C : Addr} {R : Rdr} {t : T} {H H' : Hp} {ps : List Addr} {st : List Fr} {fm : List PyData} {ss : List Nat} (h : RdAt C R t H ps st fm ss) (k : KT H H') : RdAt C R t H' ps st fm ss := by
  obtain ⟨h1, ⟨xs, h2, h3⟩, h4, ⟨ys, h5, h6⟩, h7⟩ := h
  exact ⟨k.ins h1, ⟨xs, k.lst h2, h3.tk k.tk⟩, k.lst h4, ⟨ys, k.lst h5, h6.keep k.tk fun p _ ys e => k.lst e⟩, h7⟩
structure RS (C PN PD : Addr) (M0 : List Addr) (H0 : Hp) (R : Rdr) (t : T) (H : Hp) (st : List Fr) (fm : List PyData) (ss : List Nat) : Prop where
  ex : ∃ ps, RdAt C R t H ps st fm ss ∧ ∀ b ∈ R.M ps, b ∈ M0 ∨ H0 b = none
  km : KM M0 H0 H
  tt : TT PN PD H
/-- bounds -/
structure Bd (n : Nat) (st : List Fr) (fm : List PyData) (ss : List Nat) : Prop where
  bs : ss.length ≤ 2 * n
  bf : fm.length ≤ n
  bt : st.length ≤ 60
  bp : ∀ f ∈ st, f.ps.length ≤ n + 1
  bn : ∀ f ∈ st, f.sg ≠ [40] → f.ps ≠ []
theorem Bd.mono {n m : Nat} {st : List Fr} {fm : List PyData} {ss : List Nat} (h : Bd n st fm ss) (k : n ≤ m) : Bd m st fm ss := ⟨Nat.le_trans h.bs (by omega), Nat.le_trans h.bf k, h.bt, fun f hf => Nat.le_trans (h.bp f hf) (by omega), h.bn⟩
theorem Bd.put {n : Nat} {fm : List PyData} {ss : List Nat} : ∀ {st : List Fr} {D : PyData}, Bd n st fm ss → Bd (n + 1) (put st fm ss D).st (put st fm ss D).fm (put st fm ss D).ss
  | [], D, h => ⟨Nat.le_trans h.bs (by omega), by show (fm ++ [D]).length ≤ n + 1; rw [List.length_append]; exact Nat.succ_le_succ h.bf, (by show 0 ≤ 60; omega), fun f hf => (nomatch hf), fun f hf => (nomatch hf)⟩
  | f :: r, D, h => by
    unfold W4.put
    split
    · rename_i e
      refine ⟨Nat.le_trans h.bs (by omega), Nat.le_trans h.bf (by omega), h.bt, fun g hg => ?_, fun g hg ng => ?_⟩
      · rcases List.mem_cons.mp hg with rfl | hg
        · show (f.ps ++ [D]).length ≤ _
          rw [List.length_append]
          exact Nat.succ_le_succ (h.bp f List.mem_cons_self)
        · exact Nat.le_trans (h.bp g (List.mem_cons_of_mem _ hg)) (by omega)
      · rcases List.mem_cons.mp hg with rfl | hg
        · exact absurd e ng
        · exact h.bn g (List.mem_cons_of_mem _ hg) ng
    · exact Bd.put (st := r) ⟨h.bs, h.bf, Nat.le_trans (Nat.le_succ _) h.bt, fun g hg => h.bp g (List.mem_cons_of_mem _ hg), fun g hg => h.bn g (List.mem_cons_of_mem _ hg)⟩
theorem RdAt.isLst {C : Addr} {R : Rdr} {t : T} {H : Hp} {ps : List Addr} {st : List Fr} {fm : List PyData} {ss : List Nat} (h : RdAt C R t H ps st fm ss) : ∀ b ∈ R.M ps, ∃ ys, H b = some (.lst ys) := by
  obtain ⟨h1, ⟨xs, h2, h3⟩, h4, ⟨ys, h5, h6⟩, h7⟩ := h
  intro b hb
  rcases List.mem_cons.mp hb with rfl | hb
  · exact ⟨_, h2⟩
  rcases List.mem_cons.mp hb with rfl | hb
  · exact ⟨_, h4⟩
  rcases List.mem_cons.mp hb with rfl | hb
  · exact ⟨_, h5⟩
  exact h6.isLst b hb
section
variable {C PN PD : Addr} {M0 : List Addr} {H0 H H' : Hp} {R : Rdr} {t : T} {st st' : List Fr} {fm fm' : List PyData} {ss ss' : List Nat}
theorem RS.kt (h : RS C PN PD M0 H0 R t H st fm ss) (k : KT H H') (k2 : TT PN PD H') : RS C PN PD M0 H0 R t H' st fm ss := by
  obtain ⟨⟨ps, h1, h2⟩, h3, _⟩ := h
  exact ⟨⟨ps, h1.kt k, h2⟩, h3.kt k, k2⟩
theorem RS.upd {ps ps' : List Addr} {p : Addr} {ys : List V} (h1 : RdAt C R t H ps st fm ss) (h2 : ∀ b ∈ R.M ps, b ∈ M0 ∨ H0 b = none) (h3 : KM M0 H0 H) (h4 : TT PN PD H) (hp : p ∈ R.M ps)
    (h' : RdAt C R t (L2.upd H p (.lst ys)) ps' st' fm' ss') (hps : ∀ b ∈ R.M ps', b ∈ M0 ∨ H0 b = none) : RS C PN PD M0 H0 R t (L2.upd H p (.lst ys)) st' fm' ss' := by
  obtain ⟨zs, hz⟩ := h1.isLst p hp
  exact ⟨⟨ps', h', hps⟩, h3.put hz (h2 p hp), h4.put fun ps e => by rw [hz] at e; cases e⟩
/-- as it stands, anew -/
theorem RS.here {ps : List Addr} (h : RdAt C R t H ps st fm ss) (k : TT PN PD H) : RS C PN PD (R.M ps) H R t H st fm ss := ⟨⟨ps, h, fun b hb => .inl hb⟩, .of (.refl H), k⟩
theorem RS.comp {ps : List Addr} (h1 : ∀ b ∈ R.M ps, b ∈ M0 ∨ H0 b = none) (km : KM M0 H0 H) (h2 : RS C PN PD (R.M ps) H R t H' st fm ss) : RS C PN PD M0 H0 R t H' st fm ss := by
  obtain ⟨⟨ps', a1, a2⟩, a3, a4⟩ := h2
  refine ⟨⟨ps', a1, fun b hb => ?_⟩, ⟨fun b o hb e n => ?_, fun b ps e => ?_⟩, a4⟩
  · rcases a2 b hb with z | z
    · exact h1 b z
    · by_cases hm : b ∈ M0
      · exact .inl hm
      · exact .inr (km.nn hm z)
  · refine a3.k b o (fun z => ?_) (km.k b o hb e n) n
    rcases h1 b z with z | z
    · exact hb z
    · rw [z] at e
      cases e
  · obtain ⟨ps', e'⟩ := km.t b ps e
    exact a3.t b ps' e'
end
section
variable {P : Program} {w : World} {K : PySem.W.Frag} {mg : Str → Option Value} {base : Heap} {C PN PD : Addr}
/-! new_place -/
def spNew (C PN PD : Addr) : Sp := fun vs H Q _ => ∃ (M0 : List Addr) (H0 : Hp) (R : Rdr) (t : T) (st : List Fr) (fm : List PyData) (ss : List Nat) (s : Nat), vs = [.ref R.a, .int (s : Nat)] ∧ RS C PN PD M0 H0 R t H st fm ss ∧ ss.length ≤ 20000 ∧
  ∀ H', RS C PN PD M0 H0 R t H' st fm (ss ++ [s]) → Q (.int (ss.length : Nat)) H'
theorem RdAt.starts {R : Rdr} {t : T} {H : Hp} {ps : List Addr} {st : List Fr} {fm : List PyData} {ss ss' : List Nat} (h : RdAt C R t H ps st fm ss) : RdAt C R t (upd H R.sa (.lst (ss'.map fun n => V.int (n : Nat)))) ps st fm ss' := by
  have nd := h.nd
  obtain ⟨h1, ⟨xs, h2, h3⟩, h4, ⟨ys, h5, h6⟩, h7⟩ := h
  have nd' : (R.fa :: R.sa :: R.oa :: ps).Nodup := nd
  simp only [List.nodup_cons, List.mem_cons, not_or] at nd'
  obtain ⟨⟨n1, n2, n3⟩, ⟨n4, n5⟩, n6, n7⟩ := nd'
  have tk : Tk H (upd H R.sa (.lst (ss'.map fun n => V.int (n : Nat)))) := Tk.upd fun xs z => by rw [h4] at z; cases z
  refine ⟨?_, ⟨xs, ?_, h3.tk tk⟩, upd_same, ⟨ys, ?_, h6.keep tk fun p hp ys e => ?_⟩, nd⟩
  · rw [upd_ne (fun z => by rw [z, h4] at h1; cases h1)]
    exact h1
  · rw [upd_ne n1]
    exact h2
  · rw [upd_ne (Ne.symm n4)]
    exact h5
  · rw [upd_ne (fun z : p = R.sa => n5 (by rw [← z]; exact hp))]
    exact e
theorem ok_new {f : Addr} {fd : FuncData} (F : DfnM K C "new_place" "Reader.new_place" st_Reader_new_place f fd ["self", "start"]) (M : Mg mg) (T : Cls K C) (nS : NoAttr K C "starts") : CalM CX0 P w K mg base 1 C "new_place" (spNew C PN PD) := by
  refine calm_mk F scReader_new_place (fun vs H Q E h => ?_) (fun cdv A outer s H vs Q E hr h => ?_)
  · obtain ⟨M0, H0, R, t, st, fm, ss, s, rfl, _⟩ := h
    rfl
  obtain ⟨M0, H0, R, t, st, fm, ss, s, rfl, h, hl, q⟩ := h
  refine ⟨_, (pss_cons (ps_expr (pe_bm PySem.F.plainAttrs_list PySem.F.slot_list_append PySem.F.type_list_append mt_append (pe_fld (pv 0) rfl) (pa_cons (pv 1) pa_nil)))
      (pss_one (ps_ret (pe_op op_sub (pe_callB (cLen K rfl) (by rfl) M.len b_len (pa_cons (pe_fld (pv 0) rfl) pa_nil)) pe_int)))), ?_⟩
  obtain ⟨⟨ps, h1, h2⟩, h3, h4⟩ := h
  refine ⟨_, rfl, R.a, C, R.dx, _, _, rfl, h1.ins, T, nS, rfl, .inl ⟨rfl, _, SqL.of h1.ss⟩, _, rfl, R.sa, _, _, rfl, rfl, h1.ss, by rw [List.length_map]; show _ < 2 ^ 24; omega, ?_⟩
  have e : (ss.map fun n => V.int (n : Nat)) ++ [V.int (s : Nat)] = (ss ++ [s]).map fun n => V.int (n : Nat) := by rw [List.map_append]; rfl
  rw [e]
  have h1' := h1.starts (ss' := ss ++ [s])
  refine ⟨_, rfl, R.a, C, R.dx, _, _, rfl, h1'.ins, T, nS, rfl, R.sa, _, rfl, .inl (SqL.of h1'.ss), _, _, rfl, rfl, ?_⟩
  have q1 := q _ (RS.upd h1 h2 h3 h4 (p := R.sa) (by unfold Rdr.M; simp) h1' h2)
  rw [List.length_map, List.length_append, List.length_singleton]
  dsimp only
  rw [show (((ss.length + 1 : Nat) : Int) - 1) = ((ss.length : Nat) : Int) by omega]
  exact q1
/-! put -/
def spPut (C PN PD : Addr) : Sp := fun vs H Q _ => ∃ (M0 : List Addr) (H0 : Hp) (R : Rdr) (t : T) (st : List Fr) (fm : List PyData) (ss : List Nat) (n : Nat) (v : V) (D : PyData), vs = [.ref R.a, v] ∧ RS C PN PD M0 H0 R t H st fm ss ∧ Bd n st fm ss ∧ n ≤ 7000 ∧ Dt H v D ∧
  ∀ H', RS C PN PD M0 H0 R t H' (put st fm ss D).st (put st fm ss D).fm (put st fm ss D).ss → Q .non H'
theorem RdAt.opens {R : Rdr} {t : T} {H : Hp} {ps ps' : List Addr} {st st' : List Fr} {fm : List PyData} {ss : List Nat} {xs' : List V} (h : RdAt C R t H ps st fm ss) (g : FrsAt H xs' st' ps') (nd : (R.M ps').Nodup) : RdAt C R t (upd H R.oa (.lst xs'.reverse)) ps' st' fm ss := by
  obtain ⟨h1, ⟨xs, h2, h3⟩, h4, ⟨ys, h5, h6⟩, h7⟩ := h
  have nd' : (R.fa :: R.sa :: R.oa :: ps').Nodup := nd
  simp only [List.nodup_cons, List.mem_cons, not_or] at nd'
  obtain ⟨⟨n1, n2, n3⟩, ⟨n4, n5⟩, n6, n7⟩ := nd'
  have tk : Tk H (upd H R.oa (.lst xs'.reverse)) := Tk.upd fun xs z => by rw [h5] at z; cases z
  refine ⟨?_, ⟨xs, ?_, h3.tk tk⟩, ?_, ⟨xs', upd_same, g.keep tk fun p hp ys e => ?_⟩, nd⟩
  · rw [upd_ne (fun z => by rw [z, h5] at h1; cases h1)]
    exact h1
  · rw [upd_ne n2]
    exact h2
  · rw [upd_ne n4]
    exact h4
  · rw [upd_ne (fun z : p = R.oa => n6 (by rw [← z]; exact hp))]
    exact e
theorem RdAt.forms {R : Rdr} {t : T} {H : Hp} {ps : List Addr} {st : List Fr} {fm fm' : List PyData} {ss : List Nat} {xs' : List V} (h : RdAt C R t H ps st fm ss) (g : DtAll H xs' fm') : RdAt C R t (upd H R.fa (.lst xs')) ps st fm' ss := by
  have nd := h.nd
  obtain ⟨h1, ⟨xs, h2, h3⟩, h4, ⟨ys, h5, h6⟩, h7⟩ := h
  have nd' : (R.fa :: R.sa :: R.oa :: ps).Nodup := nd
  simp only [List.nodup_cons, List.mem_cons, not_or] at nd'
  obtain ⟨⟨n1, n2, n3⟩, ⟨n4, n5⟩, n6, n7⟩ := nd'
  have tk : Tk H (upd H R.fa (.lst xs')) := Tk.upd fun xs z => by rw [h2] at z; cases z
  refine ⟨?_, ⟨xs', upd_same, g.tk tk⟩, ?_, ⟨ys, ?_, h6.keep tk fun p hp ys e => ?_⟩, nd⟩
  · rw [upd_ne (fun z => by rw [z, h2] at h1; cases h1)]
    exact h1
  · rw [upd_ne (Ne.symm n1)]
    exact h4
  · rw [upd_ne (Ne.symm n2)]
    exact h5
  · rw [upd_ne (fun z : p = R.fa => n3 (by rw [← z]; exact hp))]
    exact e
theorem RdAt.parts {R : Rdr} {t : T} {H : Hp} {p : Addr} {ps : List Addr} {f : Fr} {st : List Fr} {fm : List PyData} {ss : List Nat} {xs' : List V} {ds : List PyData} (h : RdAt C R t H (p :: ps) (f :: st) fm ss) (g : DtAll H xs' ds) : RdAt C R t (upd H p (.lst xs')) (p :: ps) (⟨f.sg, f.pl, ds⟩ :: st) fm ss := by
  have nd := h.nd
  obtain ⟨h1, ⟨xs, h2, h3⟩, h4, ⟨ys, h5, h6⟩, h7⟩ := h
  have nd' : (R.fa :: R.sa :: R.oa :: p :: ps).Nodup := nd
  simp only [List.nodup_cons, List.mem_cons, not_or] at nd'
  obtain ⟨⟨n1, n2, n3, n4⟩, ⟨n5, n6, n7⟩, ⟨n8, n9⟩, n10, n11⟩ := nd'
  obtain ⟨b, ys', p', ps', zs, rfl, e, g1, g2, g3, g4⟩ := h6.cons
  obtain ⟨rfl, rfl⟩ := List.cons.inj e
  have tk : Tk H (upd H p (.lst xs')) := Tk.upd fun xs z => by rw [g2] at z; cases z
  refine ⟨?_, ⟨xs, ?_, h3.tk tk⟩, ?_, ⟨.ref b :: ys', ?_, ⟨b, rfl, tk _ _ g1⟩, ⟨xs', upd_same, g.tk tk⟩, g4.keep tk fun q hq ys e => ?_⟩, nd⟩
  · rw [upd_ne (fun z => by rw [z, g2] at h1; cases h1)]
    exact h1
  · rw [upd_ne n3]
    exact h2
  · rw [upd_ne n6]
    exact h4
  · rw [upd_ne n8]
    exact h5
  · rw [upd_ne (fun z : q = p => n10 (by rw [← z]; exact hq))]
    exact e
theorem iteTr {c : Bool} {A B : Prop} (hc : c = true) (h : A) : if c = true then A else B := by rw [if_pos hc]; exact h
theorem atI_last (l : List V) (v : V) : atI (l ++ [v]) (-1) = some v := by
  unfold atI ixN
  rw [if_neg (by omega), List.length_append, List.length_singleton, if_pos (by omega)]
  show (l ++ [v])[((-1 : Int) + ((l.length + 1 : Nat) : Int)).toNat]? = some v
  rw [show ((-1 : Int) + ((l.length + 1 : Nat) : Int)).toNat = l.length by omega]
  exact List.getElem?_concat_length
theorem top_at {xs : List V} {v : V} : atI (v :: xs).reverse (-1) = some v := by
  rw [List.reverse_cons]
  exact atI_last _ _
theorem top_pop {xs : List V} {v : V} : (v :: xs).reverse[(v :: xs).reverse.length - 1]? = some v := by
  rw [List.reverse_cons, List.length_append, List.length_singleton, Nat.add_sub_cancel]
  exact List.getElem?_concat_length
theorem top_drop {xs : List V} {v : V} : (v :: xs).reverse.dropLast = xs.reverse := by
  rw [List.reverse_cons, List.dropLast_concat]
theorem ok_put {f : Addr} {fd : FuncData} (F : DfnM K C "put" "Reader.put" st_Reader_put f fd ["self", "datum"]) (M : Mg mg) (T : Cls K C) (nO : NoAttr K C "open_lists") (nF : NoAttr K C "forms") : CalM CX0 P w K mg base 1 C "put" (spPut C PN PD) := by
  refine calm_mk F scReader_put (fun vs H Q E h => ?_) (fun cdv A outer s H vs Q E hr h => ?_)
  · obtain ⟨M0, H0, R, t, st, fm, ss, n, v, D, rfl, _⟩ := h
    rfl
  obtain ⟨M0, H0, R, t, st, fm, ss, n, v, D, rfl, h, hb, hn, hv, q⟩ := h
  refine ⟨_, (pss_cons (ps_while PassesOwn.never (PW.pt (pw_and (pt_truth (pe_fld (pv 0) rfl) (by intro _; rfl)) (pw_and1 (pt_cmpR op_ne (pe_ix (ixT K rfl) (pe_ix (ixL K rfl) (pe_fld (pv 0) rfl) (pe_un un_neg pe_int) (fun _ _ => rfl)) pe_int (fun _ _ => rfl)) pe_str (nomark _)))))
      (pss_cons (ps_asg (pe_bm0 PySem.F.plainAttrs_list PySem.F.slot_list_pop PySem.F.type_list_pop mt_pop (pe_fld (pv 0) rfl)) (pg_tup rfl (pgs_cons (pg_name (i := 2) scReader_put.nd rfl (.inl rfl)) (pgs_cons (pg_name (i := 3) scReader_put.nd rfl (.inl rfl)) (pgs_cons (pg_name (i := 4) scReader_put.nd rfl (.inl rfl)) pgs_nil)))))
      (pss_one (ps_set (i := 1) scReader_put.nd rfl (.inl rfl) (pe_tup (pa_cons pe_str (pa_cons (pe_tup (pa_cons (pe_ix (ixL K rfl) (pv 4) pe_int (fun _ _ => rfl)) (pa_cons (pv 1) pa_nil))) (pa_cons (pv 3) pa_nil))))))))
      (pss_one (ps_if (pt_truth (pe_fld (pv 0) rfl) (by intro _; rfl)) (pss_one (ps_expr (pe_bm PySem.F.plainAttrs_list PySem.F.slot_list_append PySem.F.type_list_append mt_append (pe_ix (ixT K rfl) (pe_ix (ixL K rfl) (pe_fld (pv 0) rfl) (pe_un un_neg pe_int) (fun _ _ => rfl)) pe_int (fun _ _ => rfl)) (pa_cons (pv 1) pa_nil)))) (pss_one (ps_expr (pe_bm PySem.F.plainAttrs_list PySem.F.slot_list_append PySem.F.type_list_append mt_append (pe_fld (pv 0) rfl) (pa_cons (pv 1) pa_nil))))))), ?_⟩
  refine ⟨fun m σ H' => ∃ (st' : List Fr) (v' : V) (D' : PyData) (y1 y2 y3 : Option V), σ = [some (.ref R.a), some v', y1, y2, y3] ∧ RS C PN PD M0 H0 R t H' st' fm ss ∧ Bd n st' fm ss ∧ Dt H' v' D' ∧ W4.put st' fm ss D' = W4.put st fm ss D ∧ m = st'.length,
    ⟨_, st, v, D, none, none, none, rfl, h, hb, hv, rfl, rfl⟩, ?_⟩
  rintro m σ H' ⟨st', v', D', y1, y2, y3, rfl, ⟨⟨ps, h1, h2⟩, h3, h4⟩, hb', hv', he, rfl⟩
  rw [← he] at q
  obtain ⟨xs, h5, h6⟩ := h1.st
  refine ⟨_, rfl, R.a, C, R.dx, _, _, rfl, h1.ins, T, nO, rfl, _, .inl ⟨_, SqL.of h5, rfl⟩, ?_⟩
  cases st' with
  | nil =>
    obtain ⟨rfl, rfl⟩ := h6.nil
    refine iteF (iteF ⟨_, rfl, R.a, C, R.dx, _, _, rfl, h1.ins, T, nO, rfl, _, .inl ⟨_, SqL.of h5, rfl⟩, ?_⟩)
    obtain ⟨zs, h7, h8⟩ := h1.fm
    have hl := h8.len
    have hbf := hb'.bf
    refine iteF ⟨_, rfl, R.a, C, R.dx, _, _, rfl, h1.ins, T, nF, rfl, .inl ⟨rfl, _, SqL.of h7⟩, _, rfl, R.fa, _, _, rfl, rfl, h7, by show _ < 2 ^ 24; omega, ?_⟩
    exact q _ (RS.upd h1 h2 h3 h4 (p := R.fa) (by unfold Rdr.M; simp) (h1.forms (h8.app (.one hv'))) h2)
  | cons f r =>
    obtain ⟨b, xs', p, ps', ys, rfl, rfl, g1, g2, g3, g4⟩ := h6.cons
    refine iteTr (by simp) ?_
    refine ⟨_, rfl, R.a, C, R.dx, _, _, rfl, h1.ins, T, nO, rfl, _, rfl, ixl h5 top_at (tc (ixt g1 (atI_nat (j := 0) rfl) (tc ⟨rfl, _, rfl, ?_⟩)))⟩
    rw [wdE q_open]
    by_cases hsg : f.sg = [40]
    · rw [decide_eq_true hsg]
      have e : W4.put (f :: r) fm ss D' = ⟨⟨f.sg, f.pl, f.ps ++ [D']⟩ :: r, fm, ss⟩ := by unfold W4.put; rw [if_pos hsg]
      rw [e] at q
      have hl := g3.len
      have hbf := hb'.bp f List.mem_cons_self
      refine iteF ⟨_, rfl, R.a, C, R.dx, _, _, rfl, h1.ins, T, nO, rfl, _, .inl ⟨_, SqL.of h5, rfl⟩, ?_⟩
      refine iteTr (by simp) ?_
      refine ⟨_, rfl, R.a, C, R.dx, _, _, rfl, h1.ins, T, nO, rfl, _, rfl, ixl h5 top_at (tc (ixt g1 (atI_nat (j := 2) rfl) ⟨.inl ⟨rfl, _, SqL.of g2⟩, _, rfl, p, _, _, rfl, rfl, g2, by show _ < 2 ^ 24; omega, ?_⟩))⟩
      exact q _ (RS.upd h1 h2 h3 h4 (p := p) (by unfold Rdr.M; simp) (h1.parts (g3.app (.one hv'))) h2)
    rw [decide_eq_false hsg]
    have e : W4.put (f :: r) fm ss D' = W4.put r fm ss (lstD (f.ps.take 1 ++ [D']) f.pl) := by rw [show W4.put (f :: r) fm ss D' = if f.sg = [40] then (⟨⟨f.sg, f.pl, f.ps ++ [D']⟩ :: r, fm, ss⟩ : Cf) else W4.put r fm ss (lstD (f.ps.take 1 ++ [D']) f.pl) from rfl, if_neg hsg]
    have hne := hb'.bn f List.mem_cons_self hsg
    cases efp : f.ps with
    | nil => exact absurd efp hne
    | cons d0 dr =>
    rw [efp] at g3 e
    cases g3 with
    | @cons y0 yr _ _ gy0 gyr =>
    have nd' := h1.nd
    have nd0 : (R.fa :: R.sa :: R.oa :: p :: ps').Nodup := nd'
    simp only [List.nodup_cons, List.mem_cons, not_or] at nd0
    obtain ⟨⟨n1, n2, n3, n4⟩, ⟨n5, n6, n7⟩, ⟨n8, n9⟩, n10, n11⟩ := nd0
    have ndp : (R.M ps').Nodup := by
      unfold Rdr.M
      simp only [List.nodup_cons, List.mem_cons, not_or]
      exact ⟨⟨n1, n2, n4⟩, ⟨n5, n7⟩, n9, n11⟩
    have h2' : ∀ b ∈ R.M ps', b ∈ M0 ∨ H0 b = none := fun b hb => h2 b (by
      unfold Rdr.M at hb ⊢
      simp only [List.mem_cons] at hb ⊢
      rcases hb with h | h | h | h
      · exact .inl h
      · exact .inr (.inl h)
      · exact .inr (.inr (.inl h))
      · exact .inr (.inr (.inr (.inr h))))
    refine iteT ⟨fun σ' H'' => ∃ m', m' < (f :: r).length ∧ ∃ (st' : List Fr) (v' : V) (D' : PyData) (y1 y2 y3 : Option V), σ' = [some (.ref R.a), some v', y1, y2, y3] ∧ RS C PN PD M0 H0 R t H'' st' fm ss ∧ Bd n st' fm ss ∧ Dt H'' v' D' ∧ W4.put st' fm ss D' = W4.put st fm ss D ∧ m' = st'.length, fun σ' H' h => h, ?_⟩
    refine ⟨_, rfl, R.a, C, R.dx, _, _, rfl, h1.ins, T, nO, rfl, .inl ⟨rfl, _, SqL.of h5⟩, R.oa, _, _, rfl, rfl, h5, top_pop, ?_⟩
    rw [top_drop]
    have tk1 : Tk H' (L2.upd H' R.oa (.lst xs'.reverse)) := Tk.upd fun xs z => by rw [h5] at z; cases z
    have r1 := RS.upd h1 h2 h3 h4 (p := R.oa) (by unfold Rdr.M; simp) (h1.opens g4 ndp) h2'
    have g1' := tk1 _ _ g1
    have g2' : L2.upd H' R.oa (.lst xs'.reverse) p = some (.lst (y0 :: yr)) := by rw [upd_ne (Ne.symm n8)]; exact g2
    have hv1 := hv'.tk tk1
    have gy1 := gy0.tk tk1
    generalize L2.upd H' R.oa (.lst xs'.reverse) = H1 at r1 g1' g2' hv1 gy1 ⊢
    refine ⟨b, _, rfl, SqT.of g1', rfl, ?_⟩
    dsimp only [gCons, gName, gNil]
    refine ⟨_, _, rfl, _, _, rfl, _, _, rfl, rfl, ?_⟩
    refine ⟨_, rfl, tc (ixl g2' (atI_nat (j := 0) rfl) ⟨_, rfl, by show 2 ≤ sizeLine; decide, fun p1 np1 => ⟨_, rfl, by show 3 ≤ sizeLine; decide, fun p2 np2 => ?_⟩⟩)⟩
    have k1 : KT H1 (L2.upd H1 p1 (.tup [y0, v'])) := .new np1
    have e1 := upd_same (H := H1) (a := p1) (o := .tup [y0, v'])
    have T1 := r1.tt.new (o := .tup [y0, v']) np1
    have r2 := r1.kt k1 T1
    have d1 : Dt (L2.upd H1 p1 (.tup [y0, v'])) (.ref p1) (.tuple [d0, D']) := .tup e1 (.cons (gy1.tk k1.tk) (.cons (hv1.tk k1.tk) .nil))
    generalize L2.upd H1 p1 (.tup [y0, v']) = H2 at np2 r2 d1 ⊢
    have k2 : KT H2 (L2.upd H2 p2 (.tup [.str "list", .ref p1, .int (f.pl : Nat)])) := .new np2
    have T2 := r2.tt.new (o := .tup [.str "list", .ref p1, .int (f.pl : Nat)]) np2
    refine ⟨r.length, Nat.lt_succ_self _, r, .ref p2, lstD ([d0] ++ [D']) f.pl, _, _, _, rfl, r2.kt k2 T2, ⟨hb'.bs, hb'.bf, Nat.le_trans (Nat.le_succ _) hb'.bt, fun g hg => hb'.bp g (List.mem_cons_of_mem _ hg), fun g hg => hb'.bn g (List.mem_cons_of_mem _ hg)⟩, .tup upd_same (.cons (.str _) (.cons (d1.tk k2.tk) (.cons (.int _) .nil))), ?_, rfl⟩
    rw [← he, e]
    rfl
end
end W4
set_option Elab.async false
set_option linter.all false
set_option maxRecDepth 100000
set_option maxHeartbeats 4000000
namespace W4
open PySem PySem.Spec PyProof.Rows L2 Com SX GxR
/-- what the module says of the reader and of errors -/
structure ReT (w : World) (K : PySem.W.Frag) (mg : Str → Option Value) (C CE CW fI fR pS : Addr) : Prop where
  cl : Cls K C
  mkR : Mk K C fR
  mgC : mg "Reader" = some (.ref C)
  nS : NoAttr K C "source"
  nF : NoAttr K C "forms"
  nT : NoAttr K C "starts"
  nO : NoAttr K C "open_lists"
  ox : OexC K CE
  iR : PySem.W.findIn K (.ref CE) "__init__" = some (some (.ref fI))
  tR : PySem.W.typeIn K (.ref fI) = some (.type "function")
  nAt : PySem.W.findIn K (.ref CE) "at" = some none
  mR : mg "ReadError" = some (.ref CE)
  mW : mg "WhereError" = some (.ref CW)
  wgg : PySem.W.specialIn K (.ref CW) "__getattribute__" = some (some (.builtin "type.__getattribute__"))
  wrd : PySem.W.readsIn K CW (.type "type") = true
  wV : PySem.W.findCls K (.ref CW) (.type "type") "__init__" = some (.val (.builtin "ValueError.__init__"))
  xf : XfC K CE
  ex : PySem.W.exmOne K (.ref CE) (.ref CE) = some true
  gSN : mg "SIGN_NAMES" = some (.ref pS)
  kq : KDct K w pS (S [39]) (.str "quote")
  ks : KDct K w pS (S [35, 39]) (.str "syntax")
section
variable {P : Program} {w : World} {K : PySem.W.Frag} {mg : Str → Option Value} {base : Heap} {C CE CW fI fR pS PN PD : Addr}
def atX (n : Nat) : HO := .xd [("at", .int (n : Nat))]
def spRE (CE : Addr) : Sp := fun vs H Q _ => ∃ (a : Addr) (n : Nat), vs = [.ref a, .int (n : Nat)] ∧ n ≤ 7000 ∧ H a = some (exo a CE none) ∧ ∀ dx, H dx = none → dx ≠ a → Q .non (upd (upd H dx (exd dx [("at", .int (n : Nat))])) a (exo a CE (some dx)))
theorem raise_at {n : Nat} {H : Hp} {Q : XK} (hn : n ≤ 7000) (h : ∀ d H', Same H H' → H' d = some (atX n) → Q (.ref CE) (some d) H') {a : Addr} (na : H a = none) :
    spRE CE (.ref a :: ([.int (n : Nat)] ++ [])) (upd H a (exo a CE none)) (fun v H2 => v = .non ∧ ∃ (d : Addr) (fs : List (Str × V)), H2 a = some (exo a CE (some d)) ∧ H2 d = some (exd d fs) ∧ H d = none ∧ Q (.ref CE) (some d) (upd (del H2 a) d (.xd fs))) (fun _ _ _ => False) := by
  refine ⟨a, n, rfl, hn, upd_same, fun dx nd da => ⟨rfl, dx, [("at", .int (n : Nat))], upd_same, ?_, ?_, ?_⟩⟩
  · rw [upd_ne da, upd_same]
  · rw [upd_ne da] at nd
    exact nd
  · refine h dx _ (fun b o e => ?_) upd_same
    have h1 : b ≠ a := fun z => by rw [z, na] at e; cases e
    have h2 : b ≠ dx := fun z => by
      rw [upd_ne da] at nd
      rw [z, nd] at e
      cases e
    rw [upd_ne h2, del_ne h1, upd_ne h1, upd_ne h2, upd_ne h1]
    exact e
theorem log_small {n : Nat} (h : n ≤ 7000) : ((n : Nat) : Int).natAbs.log2 < 13 := by
  show n.log2 < 13
  by_cases e : n = 0
  · subst e
    decide
  · exact (Nat.log2_lt e).mpr (by omega)
theorem ok_re {fd : FuncData} (F : Fun K "__init__" "ReadError.__init__" st_ReadError___init__ fI fd) (T : ReT w K mg C CE CW fI fR pS) : FnOk P w K mg base CX0 1 fI fd ["self", "at"] (spRE CE) := by
  refine F.ok scReadError___init__ (fun vs H Q E h => ?_) (fun cdv A outer s H vs Q E hr h => ?_)
  · obtain ⟨a, n, rfl, _⟩ := h
    rfl
  obtain ⟨a, n, rfl, hn, ha, q⟩ := h
  refine ⟨_, (pss_cons (ps_expr (pe_weinit (by rfl) T.mW T.wgg T.wrd T.wV (pa_cons (pv 0) (pa_cons (pe_joined (.cons pe_str (.cons (pe_fmt (pv 1)) .nil))) pa_nil))))
      (pss_one (ps_ost (pv 0) (pv 1)))), ?_⟩
  have hlen : (Str.ofString (toString ((n : Nat) : Int))).length ≤ 14 := by
    rw [PySem.ofString_length]
    exact int_text_length_le (k := 13) (by decide) (log_small hn)
  have l1 : ((Str.empty ++ ("the text cannot be read at " : Str)).length) ≤ 40 := by decide +kernel
  have hs : sizeLine = 16777216 := sizeLine_eq
  refine ⟨_, rfl, ?_⟩
  dsimp only [tJs, tC, tCons]
  refine ⟨_, rfl, by omega, _, rfl, .inr ⟨_, rfl, by have := log_small hn; omega, _, rfl, by rw [Str.length_append]; omega, a, CE, _, rfl, by show 1 ≤ 1000; decide, T.ox, ha, _, rfl, _, rfl, a, CE, rfl, T.ox, T.nAt, .inl ⟨ha, q⟩⟩⟩
end
end W4
set_option Elab.async false
set_option linter.all false
set_option maxRecDepth 100000
set_option maxHeartbeats 4000000
namespace W4
open PySem PySem.Spec PyProof.Rows L2 Com SX GxR
theorem iteFr {c : Bool} {A B : Prop} (hc : c = false) (h : B) : if c = true then A else B := by rw [hc, if_neg (by decide)]; exact h
theorem nd_tail {R : Rdr} {p : Addr} {ps : List Addr} (h : (R.M (p :: ps)).Nodup) : (R.M ps).Nodup := by
  unfold Rdr.M at h ⊢
  simp only [List.nodup_cons, List.mem_cons, not_or] at h ⊢
  obtain ⟨⟨n1, n2, n3, n4⟩, ⟨n5, n6, n7⟩, ⟨n8, n9⟩, n10, n11⟩ := h
  exact ⟨⟨n1, n2, n4⟩, ⟨n5, n7⟩, n9, n11⟩
theorem nd_oa {R : Rdr} {p : Addr} {ps : List Addr} (h : (R.M (p :: ps)).Nodup) : R.oa ≠ p := by
  unfold Rdr.M at h
  simp only [List.nodup_cons, List.mem_cons, not_or] at h
  exact h.2.2.1.1
theorem mem_tail {R : Rdr} {p b : Addr} {ps : List Addr} (h : b ∈ R.M ps) : b ∈ R.M (p :: ps) := by
  unfold Rdr.M at h ⊢
  simp only [List.mem_cons] at h ⊢
  rcases h with h | h | h | h
  · exact .inl h
  · exact .inr (.inl h)
  · exact .inr (.inr (.inl h))
  · exact .inr (.inr (.inr (.inr h)))
theorem Bd.tail {n : Nat} {f : Fr} {r : List Fr} {fm : List PyData} {ss : List Nat} (h : Bd n (f :: r) fm ss) : Bd n r fm ss := ⟨h.bs, h.bf, Nat.le_trans (Nat.le_succ _) h.bt, fun g hg => h.bp g (List.mem_cons_of_mem _ hg), fun g hg => h.bn g (List.mem_cons_of_mem _ hg)⟩
section
variable {P : Program} {w : World} {K : PySem.W.Frag} {mg : Str → Option Value} {base : Heap} {C CE CW fI fR pS PN PD : Addr}
/-! end_list -/
def spEnd (C CE PN PD : Addr) : Sp := fun vs H Q E => ∃ (M0 : List Addr) (H0 : Hp) (R : Rdr) (t : T) (st : List Fr) (fm : List PyData) (ss : List Nat) (n s : Nat), vs = [.ref R.a, .int (s : Nat)] ∧ RS C PN PD M0 H0 R t H st fm ss ∧ Bd n st fm ss ∧ n ≤ 6500 ∧ s ≤ 7000 ∧
  (∀ f r, st = f :: r → f.sg = [40] → ∀ H', RS C PN PD M0 H0 R t H' (put r fm ss (lstD f.ps f.pl)).st (put r fm ss (lstD f.ps f.pl)).fm (put r fm ss (lstD f.ps f.pl)).ss → Q .non H') ∧
  ((st = [] ∨ ∃ f r, st = f :: r ∧ f.sg ≠ [40]) → ∀ d H', Same H H' → H' d = some (atX s) → E (.ref CE) (some d) H')
theorem ok_end {f : Addr} {fd fdI : FuncData} (F : DfnM K C "end_list" "Reader.end_list" st_Reader_end_list f fd ["self", "start"]) (M : Mg mg) (T : ReT w K mg C CE CW fI fR pS) (bRE : Binds K fdI ["self", "at"] []) (GRE : FnOk P w K mg base CX0 1 fI fdI ["self", "at"] (spRE CE))
    (Gput : CalM CX0 P w K mg base 1 C "put" (spPut C PN PD)) : CalM (L2.CX P w) P w K mg base 3 C "end_list" (spEnd C CE PN PD) := by
  refine calm_mkX F scReader_end_list (fun vs H Q E h => ?_) (fun cdv A outer s H vs Q E hr h => ?_)
  · obtain ⟨M0, H0, R, t, st, fm, ss, n, s, rfl, _⟩ := h
    rfl
  obtain ⟨M0, H0, R, t, st, fm, ss, n, s, rfl, h, hb, hn, hs, q1, q2⟩ := h
  refine ⟨_, (pss_cons (ps_if (PW.pt (pw_or (pt_not (pt_truth (pe_fld (pv 0) rfl) (by intro _; rfl))) (pw_or1 (pt_cmpR op_ne (pe_ix (ixT K rfl) (pe_ix (ixL K rfl) (pe_fld (pv 0) rfl) (pe_un un_neg pe_int) (fun _ _ => rfl)) pe_int (fun _ _ => rfl)) pe_str (nomark _))))) (pss_one (ps_raise rfl (takes_of rfl rfl rfl rfl) (pmk_oex T.ox T.iR T.tR GRE (hr.mono (by omega)) bRE .nil L2.pass0 (by rfl) T.mR (pa_cons (pv 1) pa_nil)))) pss_nil)
      (pss_cons (ps_asg (pe_bm0 PySem.F.plainAttrs_list PySem.F.slot_list_pop PySem.F.type_list_pop mt_pop (pe_fld (pv 0) rfl)) (pg_tup rfl (pgs_cons (pg_name (i := 2) scReader_end_list.nd rfl (.inl rfl)) (pgs_cons (pg_name (i := 3) scReader_end_list.nd rfl (.inl rfl)) (pgs_cons (pg_name (i := 4) scReader_end_list.nd rfl (.inl rfl)) pgs_nil)))))
      (pss_one (ps_expr (pe_m (pv 0) T.cl Gput hr (by omega) L2.pass0 (pa_cons (pe_tup (pa_cons pe_str (pa_cons (pe_callTy (cTup K rfl) (by rfl) M.tuple b_tuple (pa_cons (pv 4) pa_nil)) (pa_cons (pv 3) pa_nil)))) pa_nil)))))), ?_⟩
  obtain ⟨⟨ps, h1, h2⟩, h3, h4⟩ := h
  obtain ⟨xs, h5, h6⟩ := h1.st
  refine ⟨_, rfl, R.a, C, R.dx, _, _, rfl, h1.ins, T.cl, T.nO, rfl, _, .inl ⟨_, SqL.of h5, rfl⟩, ?_⟩
  cases st with
  | nil =>
    obtain ⟨rfl, rfl⟩ := h6.nil
    refine iteT (iteT ⟨_, rfl, by show 1 ≤ 1000; decide, fun a na => ?_⟩)
    exact raise_at hs (fun d H' k e => q2 (.inl rfl) d H' k e) na
  | cons f r =>
    obtain ⟨b, xs', p, ps', ys, rfl, rfl, g1, g2, g3, g4⟩ := h6.cons
    refine iteFr (by simp) ?_
    refine ⟨_, rfl, R.a, C, R.dx, _, _, rfl, h1.ins, T.cl, T.nO, rfl, _, rfl, ixl h5 top_at (tc (ixt g1 (atI_nat (j := 0) rfl) (tc ⟨rfl, _, rfl, ?_⟩)))⟩
    rw [wdE q_open]
    by_cases hsg : f.sg = [40]
    case neg =>
      rw [decide_eq_false hsg]
      refine iteT ⟨_, rfl, by show 1 ≤ 1000; decide, fun a na => ?_⟩
      exact raise_at hs (fun d H' k e => q2 (.inr ⟨f, r, rfl, hsg⟩) d H' k e) na
    rw [decide_eq_true hsg]
    have ndp := nd_tail h1.nd
    have h2' : ∀ b ∈ R.M ps', b ∈ M0 ∨ H0 b = none := fun b hb => h2 b (mem_tail hb)
    refine iteF ?_
    refine ⟨_, rfl, R.a, C, R.dx, _, _, rfl, h1.ins, T.cl, T.nO, rfl, .inl ⟨rfl, _, SqL.of h5⟩, R.oa, _, _, rfl, rfl, h5, top_pop, ?_⟩
    rw [top_drop]
    have tk1 : Tk H (L2.upd H R.oa (.lst xs'.reverse)) := Tk.upd fun xs z => by rw [h5] at z; cases z
    have r1 := RS.upd h1 h2 h3 h4 (p := R.oa) (by unfold Rdr.M; simp) (h1.opens g4 ndp) h2'
    have g1' := tk1 _ _ g1
    have g2' : L2.upd H R.oa (.lst xs'.reverse) p = some (.lst ys) := by rw [upd_ne (fun z => nd_oa h1.nd z.symm)]; exact g2
    have g3' := g3.tk tk1
    generalize L2.upd H R.oa (.lst xs'.reverse) = H1 at r1 g1' g2' g3' ⊢
    refine ⟨b, _, rfl, SqT.of g1', rfl, ?_⟩
    dsimp only [gCons, gName, gNil]
    refine ⟨_, _, rfl, _, _, rfl, _, _, rfl, rfl, ?_⟩
    have ins1 : H1 R.a = some (.ins C R.dx (flds R t)) := by
      obtain ⟨⟨_, z, _⟩, _, _⟩ := r1
      exact z.ins
    refine ⟨_, rfl, R.a, R.dx, _, rfl, ins1, rfl, ?_⟩
    dsimp only [tCons, tC, tTup]
    refine ⟨_, rfl, p, _, rfl, .inl ⟨SqL.of g2', fun l nl => ⟨_, rfl, by show 3 ≤ sizeLine; decide, fun p2 np2 => ?_⟩⟩⟩
    have k1 : KT H1 (L2.upd H1 l (.tup ys)) := .new nl
    have e1 := upd_same (H := H1) (a := l) (o := .tup ys)
    have r2 := r1.kt k1 (r1.tt.new nl)
    have d1 : Dt (L2.upd H1 l (.tup ys)) (.ref l) (.tuple f.ps) := .tup e1 (g3'.tk k1.tk)
    generalize L2.upd H1 l (.tup ys) = H2 at np2 r2 d1 ⊢
    have k2 : KT H2 (L2.upd H2 p2 (.tup [.str "list", .ref l, .int (f.pl : Nat)])) := .new np2
    exact ⟨M0, H0, R, t, r, fm, ss, n, .ref p2, lstD f.ps f.pl, rfl, r2.kt k2 (r2.tt.new np2), hb.tail, by omega, .tup upd_same (.cons (.str _) (.cons (d1.tk k2.tk) (.cons (.int _) .nil))), fun H' h' => q1 f r rfl hsg H' h'⟩
end
end W4
set_option Elab.async false
set_option linter.all false
set_option maxRecDepth 100000
set_option maxHeartbeats 4000000
namespace W4
open PySem PySem.Spec PyProof.Rows L2 Com SX GxR
theorem nd_push {R : Rdr} {q : Addr} {ps : List Addr} (h : (R.M ps).Nodup) (hq : q ∉ R.M ps) : (R.M (q :: ps)).Nodup := by
  unfold Rdr.M at h hq ⊢
  simp only [List.nodup_cons, List.mem_cons, not_or] at h hq ⊢
  obtain ⟨⟨n1, n2, n3⟩, ⟨n4, n5⟩, n6, n7⟩ := h
  obtain ⟨m1, m2, m3, m4⟩ := hq
  exact ⟨⟨n1, n2, Ne.symm m1, n3⟩, ⟨n4, Ne.symm m2, n5⟩, ⟨Ne.symm m3, n6⟩, m4, n7⟩
theorem mem_push {R : Rdr} {q b : Addr} {ps : List Addr} (h : b ∈ R.M (q :: ps)) : b = q ∨ b ∈ R.M ps := by
  unfold Rdr.M at h ⊢
  simp only [List.mem_cons] at h ⊢
  rcases h with h | h | h | h | h
  · exact .inr (.inl h)
  · exact .inr (.inr (.inl h))
  · exact .inr (.inr (.inr (.inl h)))
  · exact .inl h
  · exact .inr (.inr (.inr (.inr h)))
theorem RdAt.other {C : Addr} {R : Rdr} {t : T} {H : Hp} {ps : List Addr} {st : List Fr} {fm : List PyData} {ss : List Nat} {q : Addr} {xs ys : List V} (h : RdAt C R t H ps st fm ss) (hq : q ∉ R.M ps) (e : H q = some (.lst xs)) : RdAt C R t (upd H q (.lst ys)) ps st fm ss := by
  have nd := h.nd
  obtain ⟨h1, ⟨zs, h2, h3⟩, h4, ⟨us, h5, h6⟩, h7⟩ := h
  have tk : Tk H (upd H q (.lst ys)) := Tk.upd fun xs z => by rw [e] at z; cases z
  unfold Rdr.M at hq
  simp only [List.mem_cons, not_or] at hq
  obtain ⟨m1, m2, m3, m4⟩ := hq
  refine ⟨?_, ⟨zs, ?_, h3.tk tk⟩, ?_, ⟨us, ?_, h6.keep tk fun p hp ys g => ?_⟩, nd⟩
  · rw [upd_ne (fun z => by rw [z, e] at h1; cases h1)]
    exact h1
  · rw [upd_ne (Ne.symm m1)]
    exact h2
  · rw [upd_ne (Ne.symm m2)]
    exact h4
  · rw [upd_ne (Ne.symm m3)]
    exact h5
  · rw [upd_ne (fun z : p = q => m4 (by rw [← z]; exact hp))]
    exact g
section
variable {P : Program} {w : World} {K : PySem.W.Frag} {mg : Str → Option Value} {base : Heap} {C CE CW fI fR pS PN PD : Addr}
/-! begin_list -/
def begDs (w : T) (n : Nat) : List PyData := if w = [40] then [] else [namD (sgN w) (n + 1)]
def begSs (w : T) (ss : List Nat) (s : Nat) : List Nat := if w = [40] then ss ++ [s] else ss ++ [s, s]
def spBegin (C CE PN PD : Addr) : Sp := fun vs H Q E => ∃ (M0 : List Addr) (H0 : Hp) (R : Rdr) (t : T) (st : List Fr) (fm : List PyData) (ss : List Nat) (n s : Nat) (wd : T), vs = [.ref R.a, .str (S wd), .int (s : Nat)] ∧ (wd = [40] ∨ wd = [39] ∨ wd = [35, 39]) ∧ RS C PN PD M0 H0 R t H st fm ss ∧ Bd n st fm ss ∧ n ≤ 6500 ∧ s ≤ 7000 ∧
  (st.length ≠ 60 → ∀ H', RS C PN PD M0 H0 R t H' (⟨wd, ss.length, begDs wd ss.length⟩ :: st) fm (begSs wd ss s) → Q .non H') ∧
  (st.length = 60 → ∀ d H', Same H H' → H' d = some (atX s) → E (.ref CE) (some d) H')
theorem ok_begin {f : Addr} {fd fdI : FuncData} (F : DfnM K C "begin_list" "Reader.begin_list" st_Reader_begin_list f fd ["self", "sign", "start"]) (M : Mg mg) (G : Gb mg) (T : ReT w K mg C CE CW fI fR pS) (bRE : Binds K fdI ["self", "at"] []) (GRE : FnOk P w K mg base CX0 1 fI fdI ["self", "at"] (spRE CE))
    (Gnew_place : CalM CX0 P w K mg base 1 C "new_place" (spNew C PN PD)) : CalM (L2.CX P w) P w K mg base 3 C "begin_list" (spBegin C CE PN PD) := by
  refine calm_mkX F scReader_begin_list (fun vs H Q E h => ?_) (fun cdv A outer s H vs Q E hr h => ?_)
  · obtain ⟨M0, H0, R, t, st, fm, ss, n, s, wd, rfl, _⟩ := h
    rfl
  obtain ⟨M0, H0, R, t, st, fm, ss, n, s, wd, rfl, hw, h, hb, hn, hs, q1, q2⟩ := h
  refine ⟨_, (pss_cons (ps_if (pt_cmpR op_eq (pe_callB (cLen K rfl) (by rfl) M.len b_len (pa_cons (pe_fld (pv 0) rfl) pa_nil)) (pe_glob (v := .int 60) (by rfl) G.deep ⟨_, rfl⟩) (nomark _)) (pss_one (ps_raise rfl (takes_of rfl rfl rfl rfl) (pmk_oex T.ox T.iR T.tR GRE (hr.mono (by omega)) bRE .nil L2.pass0 (by rfl) T.mR (pa_cons (pv 2) pa_nil)))) pss_nil)
      (pss_cons (ps_set (i := 3) scReader_begin_list.nd rfl (.inl rfl) (pe_m (pv 0) T.cl Gnew_place hr (by omega) L2.pass0 (pa_cons (pv 2) pa_nil)))
      (pss_cons (ps_set (i := 4) scReader_begin_list.nd rfl (.inl rfl) (pe_lst pa_nil))
      (pss_cons (ps_if (pt_cmpR op_ne (pv 1) pe_str (nomark _)) (pss_one (ps_expr (pe_bm PySem.F.plainAttrs_list PySem.F.slot_list_append PySem.F.type_list_append mt_append (pv 4) (pa_cons (pe_tup (pa_cons pe_str (pa_cons (pe_ix ix_kdict (pe_glob (v := .ref pS) (by rfl) T.gSN rfl) (pv 1) (fun _ _ => rfl)) (pa_cons (pe_m (pv 0) T.cl Gnew_place hr (by omega) L2.pass0 (pa_cons (pv 2) pa_nil)) pa_nil)))) pa_nil)))) pss_nil)
      (pss_one (ps_expr (pe_bm PySem.F.plainAttrs_list PySem.F.slot_list_append PySem.F.type_list_append mt_append (pe_fld (pv 0) rfl) (pa_cons (pe_tup (pa_cons (pv 1) (pa_cons (pv 3) (pa_cons (pv 4) pa_nil)))) pa_nil)))))))), ?_⟩
  obtain ⟨⟨ps, h1, h2⟩, h3, h4⟩ := id h
  obtain ⟨xs, h5, h6⟩ := h1.st
  refine ⟨_, rfl, R.a, C, R.dx, _, _, rfl, h1.ins, T.cl, T.nO, rfl, R.oa, _, rfl, .inl (SqL.of h5), rfl, _, rfl, ?_⟩
  have hxl := h6.len
  have hbs := hb.bs
  rw [List.length_reverse, hxl]
  by_cases h60 : st.length = 60
  · rw [h60, decide_eq_true (show V.int ((60 : Nat) : Int) = V.int 60 from rfl)]
    refine iteT ⟨_, rfl, by show 1 ≤ 1000; decide, fun a na => ?_⟩
    exact raise_at hs (fun d H' k e => q2 h60 d H' k e) na
  rw [decide_eq_false (show ¬ (V.int (st.length : Int) = V.int 60) from fun z => h60 (by have := V.int.inj z; omega))]
  refine iteF ⟨_, rfl, R.a, R.dx, _, rfl, h1.ins, rfl, _, rfl, M0, H0, R, t, st, fm, ss, s, rfl, h, by omega, fun H1 r1 => ?_⟩
  dsimp only [gName]
  refine ⟨Nat.zero_le _, fun q nq => ?_⟩
  dsimp only [gName]
  obtain ⟨ps1, a1, a2⟩ := r1.ex
  have k1 : KT H1 (L2.upd H1 q (.lst [])) := .new nq
  have e1 := upd_same (H := H1) (a := q) (o := .lst [])
  have a1' := a1.kt k1
  have T1 := r1.tt.new (o := .lst []) nq
  have h1q : q ∉ R.M ps1 := fun z => by
    obtain ⟨ys, e⟩ := a1.isLst q z
    rw [nq] at e
    cases e
  have km1 : KM (R.M ps1) H1 (L2.upd H1 q (.lst [])) := .of k1
  generalize L2.upd H1 q (.lst []) = H2 at k1 e1 a1' T1 km1 ⊢
  refine seq_split (t1 := tIfS _ _ _) (fun σ' H' => ∃ (ps3 : List Addr) (ys : List V), σ' = [some (.ref R.a), some (.str (S wd)), some (.int (s : Nat)), some (.int (ss.length : Nat)), some (.ref q)] ∧ RdAt C R t H' ps3 st fm (begSs wd ss s) ∧ (∀ b ∈ R.M ps3, b ∈ R.M ps1 ∨ H2 b = none) ∧ KM (R.M ps1) H1 H' ∧ TT PN PD H' ∧ H' q = some (.lst ys) ∧ DtAll H' ys (begDs wd ss.length)) ?_ (fun J => ?_)
  · rintro σ' H' ⟨ps3, ys, rfl, b1, b2, b3, b4, b5, b6⟩
    obtain ⟨xs3, c5, c6⟩ := b1.st
    have b2' : ∀ b ∈ R.M ps3, b ∈ R.M ps1 ∨ H1 b = none := fun b hb => (b2 b hb).imp_right fun z => k1.nn z
    refine ⟨_, rfl, R.a, C, R.dx, _, _, rfl, b1.ins, T.cl, T.nO, rfl, .inl ⟨rfl, _, SqL.of c5⟩, _, rfl, _, rfl, _, rfl, by show 3 ≤ sizeLine; decide, fun p np => ?_⟩
    have k3 : KT H' (L2.upd H' p (.tup [.str (S wd), .int (ss.length : Nat), .ref q])) := .new np
    have e3 := upd_same (H := H') (a := p) (o := .tup [.str (S wd), .int (ss.length : Nat), .ref q])
    have b1' := b1.kt k3
    have T3 := b4.new (o := .tup [.str (S wd), .int (ss.length : Nat), .ref q]) np
    have b3' := b3.kt k3
    have b5' := k3.lst b5
    have b6' := b6.tk k3.tk
    have c5' := k3.lst c5
    have c6' := c6.keep k3.tk fun p _ ys e => k3.lst e
    generalize L2.upd H' p (.tup [.str (S wd), .int (ss.length : Nat), .ref q]) = H4 at e3 b1' T3 b3' b5' b6' c5' c6' ⊢
    have hl3 := c6'.len
    refine ⟨R.oa, _, _, rfl, rfl, c5', by rw [List.length_reverse, hl3]; show _ < 2 ^ 24; have := hb.bt; omega, ?_⟩
    have g : FrsAt H4 (.ref p :: xs3) (⟨wd, ss.length, begDs wd ss.length⟩ :: st) (q :: ps3) := ⟨⟨p, rfl, e3⟩, ⟨ys, b5', b6'⟩, c6'⟩
    have hq3 : q ∉ R.M ps3 := fun z => by
      rcases b2 q z with y | y
      · exact h1q y
      · rw [e1] at y
        cases y
    have nd : (R.M (q :: ps3)).Nodup := nd_push b1'.nd hq3
    have r4 := b1'.opens g nd
    rw [List.reverse_cons] at r4
    refine q1 h60 _ (RS.comp a2 r1.km (RS.upd b1' b2' b3' T3 (p := R.oa) (by unfold Rdr.M; simp) r4 fun b hb => ?_))
    rcases mem_push hb with rfl | hb
    · exact .inr nq
    · exact b2' b hb
  · refine ⟨_, rfl, rfl, _, rfl, ?_⟩
    rw [wdE q_open]
    by_cases hwd : wd = [40]
    · rw [decide_eq_true hwd]
      refine iteF ?_
      dsimp only [tNext]
      refine J _ _ ⟨ps1, [], rfl, ?_, fun b hb => .inl hb, km1, T1, e1, ?_⟩
      · unfold begSs
        rw [if_pos hwd]
        exact a1'
      · unfold begDs
        rw [if_pos hwd]
        exact .nil
    rw [decide_eq_false hwd]
    have hkd : KDct K w pS (S wd) (.str (sgN wd)) := by
      rcases hw with z | z | z
      · exact absurd z hwd
      · subst z
        exact T.kq
      · subst z
        exact T.ks
    refine iteT ⟨_, rfl, .inl ⟨rfl, _, SqL.of e1⟩, _, rfl, pS, _, _, rfl, rfl, hkd, _, rfl, R.a, R.dx, _, rfl, a1'.ins, rfl, _, rfl, R.M ps1, H2, R, t, st, fm, ss ++ [s], s, rfl, RS.here a1' T1, by rw [List.length_append, List.length_singleton]; omega, fun H3 r3 => ?_⟩
    obtain ⟨⟨ps3, d1, d2⟩, d3, d4⟩ := r3
    have eq3 : H3 q = some (.lst []) := d3.k q _ h1q e1 fun ps z => by cases z
    refine ⟨by show 3 ≤ sizeLine; decide, fun b nb => ?_⟩
    rw [List.length_append, List.length_singleton]
    have k3 : KT H3 (L2.upd H3 b (.tup [.str "name", .str (sgN wd), .int ((ss.length + 1 : Nat))])) := .new nb
    have e3 := upd_same (H := H3) (a := b) (o := .tup [.str "name", .str (sgN wd), .int ((ss.length + 1 : Nat))])
    have d1' := d1.kt k3
    have T3 := d4.new (o := .tup [.str "name", .str (sgN wd), .int ((ss.length + 1 : Nat))]) nb
    have eq3' := k3.lst eq3
    have km3 : KM (R.M ps1) H1 H3 := by
      refine ⟨fun b o hb e n => d3.k b o hb (k1.k b o e n) n, fun b ps e => ?_⟩
      obtain ⟨ps', e'⟩ := k1.t b ps e
      exact d3.t b ps' e'
    have km4 := km3.kt k3
    have dt : Dt (L2.upd H3 b (.tup [.str "name", .str (sgN wd), .int ((ss.length + 1 : Nat))])) (.ref b) (namD (sgN wd) (ss.length + 1)) := .tup e3 (.cons (.str _) (.cons (.str _) (.cons (.int _) .nil)))
    generalize L2.upd H3 b (.tup [.str "name", .str (sgN wd), .int ((ss.length + 1 : Nat))]) = H4 at d1' T3 eq3' km4 dt ⊢
    refine ⟨q, _, _, rfl, rfl, eq3', by show 0 < 2 ^ 24; decide, ?_⟩
    have hq3 : q ∉ R.M ps3 := fun z => by
      rcases d2 q z with y | y
      · exact h1q y
      · rw [e1] at y
        cases y
    have tk5 : Tk H4 (L2.upd H4 q (.lst ([] ++ [.ref b]))) := Tk.upd fun xs z => by rw [eq3'] at z; cases z
    refine J _ _ ⟨ps3, [.ref b], rfl, ?_, d2, km4.put eq3' (.inr nq), T3.put (fun ps z => by rw [eq3'] at z; cases z), upd_same, ?_⟩
    · unfold begSs
      rw [if_neg hwd, show ss ++ [s, s] = ss ++ [s] ++ [s] by rw [List.append_assoc]; rfl]
      exact d1'.other hq3 eq3'
    · unfold begDs
      rw [if_neg hwd]
      exact .one (dt.tk tk5)
end
end W4
set_option Elab.async false
set_option linter.all false
set_option maxRecDepth 100000
set_option maxHeartbeats 4000000
namespace W4
open PySem PySem.Spec PyProof.Rows L2 Com SX GxR
/-! steps keep the bounds -/
theorem bd_step {t : T} {n : Nat} {cf cf' : Cf} {k : Tok} (h : Bd n cf.st cf.fm cf.ss) (e : step t cf k = .ok cf') : Bd (n + 1) cf'.st cf'.fm cf'.ss := by
  unfold W4.step at e
  split at e
  · cases e
  split at e
  · obtain rfl := Except.ok.inj e
    have h' : Bd n cf.st cf.fm cf.ss := h
    have := (Bd.put (D := atomD k.1 (wrd t k.2.1 k.2.2) cf.ss.length) h')
    have g : ∀ (st : List Fr) (ss ss' : List Nat) (D : PyData), (put st cf.fm ss D).st = (put st cf.fm ss' D).st ∧ (put st cf.fm ss D).fm = (put st cf.fm ss' D).fm ∧ (put st cf.fm ss D).ss = ss := by
      intro st
      induction st with
      | nil => intro ss ss' D; exact ⟨rfl, rfl, rfl⟩
      | cons f r ih =>
        intro ss ss' D
        unfold W4.put
        split
        · exact ⟨rfl, rfl, rfl⟩
        · exact ih ss ss' _
    obtain ⟨g1, g2, g3⟩ := g cf.st (cf.ss ++ [k.2.1]) cf.ss (atomD k.1 (wrd t k.2.1 k.2.2) cf.ss.length)
    rw [g1, g2, g3]
    refine ⟨?_, this.bf, this.bt, this.bp, this.bn⟩
    rw [List.length_append, List.length_singleton]
    have := h.bs
    omega
  split at e
  · cases hst : cf.st with
    | nil =>
      rw [hst] at e
      cases e
    | cons f r =>
      rw [hst] at e h
      dsimp only at e
      split at e
      · obtain rfl := Except.ok.inj e
        exact Bd.put h.tail
      · cases e
  split at e
  · cases e
  rename_i h60
  split at e
  · obtain rfl := Except.ok.inj e
    refine ⟨?_, Nat.le_trans h.bf (by omega), ?_, fun g hg => ?_, fun g hg ng => ?_⟩
    · show (cf.ss ++ [k.2.1]).length ≤ _
      rw [List.length_append, List.length_singleton]
      have := h.bs
      omega
    · show cf.st.length + 1 ≤ 60
      have := h.bt
      omega
    · rcases List.mem_cons.mp hg with rfl | hg
      · exact Nat.zero_le _
      · exact Nat.le_trans (h.bp g hg) (by omega)
    · rcases List.mem_cons.mp hg with rfl | hg
      · exact absurd rfl ng
      · exact h.bn g hg ng
  · obtain rfl := Except.ok.inj e
    refine ⟨?_, Nat.le_trans h.bf (by omega), ?_, fun g hg => ?_, fun g hg ng => ?_⟩
    · show (cf.ss ++ [k.2.1, k.2.1]).length ≤ _
      rw [List.length_append]
      have := h.bs
      show cf.ss.length + 2 ≤ _
      omega
    · show cf.st.length + 1 ≤ 60
      have := h.bt
      omega
    · rcases List.mem_cons.mp hg with rfl | hg
      · show 1 ≤ _
        omega
      · exact Nat.le_trans (h.bp g hg) (by omega)
    · rcases List.mem_cons.mp hg with rfl | hg
      · intro z
        cases z
      · exact h.bn g hg ng
section
variable {P : Program} {w : World} {K : PySem.W.Frag} {mg : Str → Option Value} {base : Heap} {C CE CW fI fR pS PN PD : Addr}
/-! take -/
def spTake4 (C CE PN PD : Addr) : Sp := fun vs H Q E => ∃ (M0 : List Addr) (H0 : Hp) (R : Rdr) (t : T) (cf : Cf) (n : Nat) (k : Tok), vs = [.ref R.a, .str k.1, .int (k.2.1 : Nat), .int (k.2.2 : Nat)] ∧ RS C PN PD M0 H0 R t H cf.st cf.fm cf.ss ∧ Bd n cf.st cf.fm cf.ss ∧ n ≤ 6000 ∧ Ok t ∧ t.length ≤ 6000 ∧ TokOk t k ∧
  (∀ cf', step t cf k = .ok cf' → ∀ H', RS C PN PD M0 H0 R t H' cf'.st cf'.fm cf'.ss → Q .non H') ∧
  (∀ b, step t cf k = .error b → ∀ d H', Same H H' → H' d = some (atX b) → E (.ref CE) (some d) H')
theorem ok_take {f : Addr} {fd fdI : FuncData} (F : DfnM K C "take" "Reader.take" st_Reader_take f fd ["self", "sort", "start", "end"]) (M : Mg mg) (T : ReT w K mg C CE CW fI fR pS) (bRE : Binds K fdI ["self", "at"] []) (GRE : FnOk P w K mg base CX0 1 fI fdI ["self", "at"] (spRE CE))
    (G_atom : Cal P w K mg base 1 "_atom" spAtom) (Gnew_place : CalM CX0 P w K mg base 1 C "new_place" (spNew C PN PD)) (Gput : CalM CX0 P w K mg base 1 C "put" (spPut C PN PD)) (Gend_list : CalM (L2.CX P w) P w K mg base 3 C "end_list" (spEnd C CE PN PD)) (Gbegin_list : CalM (L2.CX P w) P w K mg base 3 C "begin_list" (spBegin C CE PN PD)) :
    CalM (L2.CX P w) P w K mg base 4 C "take" (spTake4 C CE PN PD) := by
  refine calm_mkX F scReader_take (fun vs H Q E h => ?_) (fun cdv A outer s H vs Q E hr h => ?_)
  · obtain ⟨M0, H0, R, t, cf, n, k, rfl, _⟩ := h
    rfl
  obtain ⟨M0, H0, R, t, cf, n, k, rfl, h, hb, hn, ok, ht, tok, q1, q2⟩ := h
  refine ⟨_, (pss_cons (ps_set (i := 4) scReader_take.nd rfl (.inl rfl) (pe_slice sl_str (pe_fld (pv 0) rfl) (po_some (pv 2)) (po_some (pv 3))))
      (pss_cons (ps_if (pt_cmpR op_eq (pv 1) pe_str (nomark _)) (pss_one (ps_raise rfl (takes_of rfl rfl rfl rfl) (pmk_oex T.ox T.iR T.tR GRE (hr.mono (by omega)) bRE .nil L2.pass0 (by rfl) T.mR (pa_cons (pv 2) pa_nil)))) pss_nil)
      (pss_one (ps_if (pt_cmpR op_ne (pv 1) pe_str (nomark _)) (pss_one (ps_expr (pe_m (pv 0) T.cl Gput hr (by omega) L2.pass0 (pa_cons (pe_c G_atom hr (by omega) (by rfl) (pa_cons (pv 1) (pa_cons (pv 4) (pa_cons (pe_m (pv 0) T.cl Gnew_place hr (by omega) L2.pass0 (pa_cons (pv 2) pa_nil)) pa_nil)))) pa_nil)))) (pss_one (ps_if (pt_cmpR op_eq (pv 4) pe_str (nomark _)) (pss_one (ps_expr (pe_m (pv 0) T.cl Gend_list hr (by omega) (passes_call (takes_of rfl rfl rfl rfl) fun _ _ _ _ h => h) (pa_cons (pv 2) pa_nil)))) (pss_one (ps_expr (pe_m (pv 0) T.cl Gbegin_list hr (by omega) (passes_call (takes_of rfl rfl rfl rfl) fun _ _ _ _ h => h) (pa_cons (pv 4) (pa_cons (pv 2) pa_nil))))))))))), ?_⟩
  obtain ⟨⟨ps, h1, h2⟩, h3, h4⟩ := id h
  have hle := tok.le
  have hz := ok.z
  refine ⟨_, rfl, R.a, C, R.dx, _, _, rfl, h1.ins, T.cl, T.nS, rfl, _, rfl, _, rfl, _, rfl, _, rfl, S t, rfl, hz, ?_⟩
  rw [cut_wrd (by omega) hle.2]
  dsimp only [gName]
  refine ⟨_, rfl, rfl, _, rfl, ?_⟩
  rw [strE]
  by_cases c1 : k.1 = "wrong"
  · rw [decide_eq_true c1]
    refine iteT ⟨_, rfl, by show 1 ≤ 1000; decide, fun a na => ?_⟩
    exact raise_at (by omega) (fun d H' kk e => q2 _ (by unfold step; rw [if_pos c1]) d H' kk e) na
  rw [decide_eq_false c1]
  refine iteF ?_
  dsimp only [tNext]
  refine ⟨_, rfl, rfl, _, rfl, ?_⟩
  rw [strE]
  have hbs := hb.bs
  by_cases c2 : k.1 = "sign"
  case neg =>
    rw [decide_eq_false c2]
    have hst : step t cf k = .ok (put cf.st cf.fm (cf.ss ++ [k.2.1]) (atomD k.1 (wrd t k.2.1 k.2.2) cf.ss.length)) := by
      unfold step
      rw [if_neg c1, if_pos c2]
    refine iteT ⟨_, rfl, R.a, R.dx, _, rfl, h1.ins, rfl, _, rfl, _, rfl, _, rfl, R.a, R.dx, _, rfl, h1.ins, rfl, _, rfl, M0, H0, R, t, cf.st, cf.fm, cf.ss, k.2.1, rfl, h, by omega, fun H1 r1 => ?_⟩
    refine ⟨k.1, wrd t k.2.1 k.2.2, cf.ss.length, rfl, ok.wrd _ _, tok.num, tok.str, fun r H2 sm dt => ?_⟩
    have r2 := r1.kt (.same sm) (r1.tt.same sm)
    have hb2 : Bd (n + 1) cf.st cf.fm (cf.ss ++ [k.2.1]) := by
      refine ⟨?_, Nat.le_trans hb.bf (by omega), hb.bt, fun f hf => Nat.le_trans (hb.bp f hf) (by omega), hb.bn⟩
      rw [List.length_append, List.length_singleton]
      omega
    exact ⟨M0, H0, R, t, cf.st, cf.fm, cf.ss ++ [k.2.1], n + 1, .ref r, _, rfl, r2, hb2, by omega, dt, fun H' h' => q1 _ hst H' h'⟩
  rw [decide_eq_true c2]
  refine iteF ⟨_, rfl, rfl, _, rfl, ?_⟩
  rw [wdE q_close]
  by_cases c3 : wrd t k.2.1 k.2.2 = [41]
  · rw [decide_eq_true c3]
    refine iteT ⟨_, rfl, R.a, R.dx, _, rfl, h1.ins, rfl, _, rfl, ?_⟩
    refine ⟨M0, H0, R, t, cf.st, cf.fm, cf.ss, n, k.2.1, rfl, h, hb, by omega, by omega, fun f r e hsg H' h' => q1 _ ?_ H' h', fun hh d H' sm e => q2 _ ?_ d H' sm e⟩
    · unfold step
      rw [if_neg c1, if_neg (fun z => z c2), if_pos c3, e]
      dsimp only
      rw [if_pos hsg]
    · unfold step
      rw [if_neg c1, if_neg (fun z => z c2), if_pos c3]
      rcases hh with e | ⟨f, r, e, hsg⟩
      · rw [e]
      · rw [e]
        dsimp only
        rw [if_neg hsg]
  rw [decide_eq_false c3]
  have hw : wrd t k.2.1 k.2.2 = [40] ∨ wrd t k.2.1 k.2.2 = [39] ∨ wrd t k.2.1 k.2.2 = [35, 39] := by
    rcases tok.sig c2 with z | z | z | z
    · exact .inl z
    · exact absurd z c3
    · exact .inr (.inl z)
    · exact .inr (.inr z)
  refine iteF ⟨_, rfl, R.a, R.dx, _, rfl, h1.ins, rfl, _, rfl, _, rfl, ?_⟩
  refine ⟨M0, H0, R, t, cf.st, cf.fm, cf.ss, n, k.2.1, wrd t k.2.1 k.2.2, rfl, hw, h, hb, by omega, by omega, fun h60 H' h' => ?_, fun h60 d H' sm e => q2 _ ?_ d H' sm e⟩
  · have hst : step t cf k = .ok ⟨⟨wrd t k.2.1 k.2.2, cf.ss.length, begDs (wrd t k.2.1 k.2.2) cf.ss.length⟩ :: cf.st, cf.fm, begSs (wrd t k.2.1 k.2.2) cf.ss k.2.1⟩ := by
      unfold step begDs begSs
      rw [if_neg c1, if_neg (fun z => z c2), if_neg c3, if_neg h60]
      by_cases c4 : wrd t k.2.1 k.2.2 = [40]
      · rw [if_pos c4, if_pos c4, if_pos c4, c4]
      · rw [if_neg c4, if_neg c4, if_neg c4]
    exact q1 _ hst H' h'
  · unfold step
    rw [if_neg c1, if_neg (fun z => z c2), if_neg c3, if_pos h60]
end
end W4
set_option Elab.async false
set_option linter.all false
set_option maxRecDepth 100000
set_option maxHeartbeats 4000000
namespace W4
open PySem PySem.Spec PyProof.Rows L2 Com SX GxR
theorem tok_of {H : Hp} {v : V} {k : Tok} (h : Dt H v (tokD k)) : ∃ p, v = .ref p ∧ TokAt H p k := by
  unfold tokD at h
  cases h with
  | @tup p xs _ e g =>
    cases g with
    | cons g1 g =>
      cases g with
      | cons g2 g =>
        cases g with
        | cons g3 g =>
          cases g
          cases g1
          cases g2
          cases g3
          exact ⟨p, rfl, e⟩
theorem runM_cons {t : T} {cf : Cf} {k : Tok} {ks : List Tok} : runM t cf (k :: ks) = match step t cf k with
    | .error b => .error b
    | .ok cf' => runM t cf' ks := rfl
theorem KM.tk {M0 : List Addr} {H0 H : Hp} (k : KM M0 H0 H) (hm : ∀ b ∈ M0, ∃ ys, H0 b = some (.lst ys)) : Tk H0 H := fun b xs e => k.k b _ (fun z => by
  obtain ⟨ys, e'⟩ := hm b z
  rw [e] at e'
  cases e') e fun ps z => by cases z
section
variable {P : Program} {w : World} {K : PySem.W.Frag} {mg : Str → Option Value} {base : Heap} {C CE CW fI fR pS PN PD : Addr}
/-! read_all -/
def spAll (C CE PN PD : Addr) : Sp := fun vs H Q E => ∃ (M0 : List Addr) (H0 : Hp) (R : Rdr) (t : T), vs = [.ref R.a] ∧ RS C PN PD M0 H0 R t H [] [] [] ∧ Ok t ∧
  (∀ fm ss, readM t = .ok (fm, ss) → ∀ H', RS C PN PD M0 H0 R t H' [] fm ss → Q .non H') ∧
  (∀ b, readM t = .error b → ∀ d H', KM M0 H0 H' → TT PN PD H' → H' d = some (atX b) → E (.ref CE) (some d) H')
theorem ok_read_all {f : Addr} {fd fdI : FuncData} (F : DfnM K C "read_all" "Reader.read_all" st_Reader_read_all f fd ["self"]) (M : Mg mg) (G : Gb mg) (T : ReT w K mg C CE CW fI fR pS) (bRE : Binds K fdI ["self", "at"] []) (GRE : FnOk P w K mg base CX0 1 fI fdI ["self", "at"] (spRE CE))
    (Gtokens : Cal P w K mg base 6 "tokens" (spToks PN PD)) (Gtake : CalM (L2.CX P w) P w K mg base 4 C "take" (spTake4 C CE PN PD)) :
    CalM (L2.CX P w) P w K mg base 7 C "read_all" (spAll C CE PN PD) := by
  refine calm_mkX F scReader_read_all (fun vs H Q E h => ?_) (fun cdv A outer s H vs Q E hr h => ?_)
  · obtain ⟨M0, H0, R, t, rfl, _⟩ := h
    rfl
  obtain ⟨M0, H0, R, t, rfl, h, ok, q1, q2⟩ := h
  refine ⟨_, (pss_cons (ps_if (pt_cmpR op_gt (pe_callB call_len_str (by rfl) M.len b_len (pa_cons (pe_fld (pv 0) rfl) pa_nil)) (pe_glob (v := .int 6000) (by rfl) G.ltext ⟨_, rfl⟩) (nomark _)) (pss_one (ps_raise rfl (takes_of rfl rfl rfl rfl) (pmk_oex T.ox T.iR T.tR GRE (hr.mono (by omega)) bRE .nil L2.pass0 (by rfl) T.mR (pa_cons (pe_glob (v := .int 6000) (by rfl) G.ltext ⟨_, rfl⟩) pa_nil)))) pss_nil)
      (pss_cons (ps_for (passes_of rfl) rfl (pi_list (pe_c Gtokens hr (by omega) (by rfl) (pa_cons (pe_fld (pv 0) rfl) pa_nil))) (pg_tup rfl (pgs_cons (pg_name (i := 1) scReader_read_all.nd rfl (.inl rfl)) (pgs_cons (pg_name (i := 2) scReader_read_all.nd rfl (.inl rfl)) (pgs_cons (pg_name (i := 3) scReader_read_all.nd rfl (.inl rfl)) pgs_nil))))
      (pss_one (ps_expr (pe_m (pv 0) T.cl Gtake hr (by omega) (passes_call (takes_of rfl rfl rfl rfl) fun _ _ _ _ h => h) (pa_cons (pv 1) (pa_cons (pv 2) (pa_cons (pv 3) pa_nil)))))))
      (pss_one (ps_if (pt_truth (pe_fld (pv 0) rfl) (by intro _; rfl)) (pss_one (ps_raise rfl (takes_of rfl rfl rfl rfl) (pmk_oex T.ox T.iR T.tR GRE (hr.mono (by omega)) bRE .nil L2.pass0 (by rfl) T.mR (pa_cons (pe_callB call_len_str (by rfl) M.len b_len (pa_cons (pe_fld (pv 0) rfl) pa_nil)) pa_nil)))) pss_nil)))), ?_⟩
  obtain ⟨⟨ps, h1, h2⟩, h3, h4⟩ := id h
  have hz := ok.z
  refine ⟨_, rfl, R.a, C, R.dx, _, _, rfl, h1.ins, T.cl, T.nS, rfl, S t, rfl, hz, _, _, rfl, rfl, _, rfl, ?_⟩
  rw [len_S]
  unfold readM at q1 q2
  by_cases hlt : 6000 < t.length
  · rw [decide_eq_true (show (6000 : Int) < ((t.length : Nat) : Int) by omega)]
    rw [if_pos hlt] at q2
    refine iteT ⟨by show 1 ≤ 1000; decide, fun a na => ?_⟩
    exact raise_at (n := 6000) (by omega) (fun d H' k e => q2 6000 rfl d H' (h3.kt (.same k)) (h4.same k) e) na
  rw [decide_eq_false (show ¬ (6000 : Int) < ((t.length : Nat) : Int) by omega)]
  rw [if_neg hlt] at q1 q2
  refine iteF ?_
  dsimp only [tNext]
  refine ⟨_, rfl, R.a, C, R.dx, _, _, rfl, h1.ins, T.cl, T.nS, rfl, t, rfl, ok, h4, fun r H2 ys k2 T2 nr hr2 dv => ?_⟩
  have a1 := h1.kt k2
  have hr1 : r ∉ R.M ps := fun z => by
    obtain ⟨zs, e⟩ := h1.isLst r z
    rw [nr] at e
    cases e
  have kmA := h3.kt k2
  have hyl := dv.len
  rw [List.length_map] at hyl
  have hl6 : (toksF t 0).length ≤ 6000 := by
    have := toksF_len (t := t) t.length (a := 0) (by omega)
    omega
  have key : ∀ {H' : Hp}, KM (R.M ps) H2 H' → H' r = some (.lst ys) ∧ DtAll H' ys ((toksF t 0).map tokD) := fun km => ⟨km.k r _ hr1 hr2 (fun ps z => by cases z), dv.tk (km.tk a1.isLst)⟩
  refine ⟨r, rfl, ⟨_, SqL.of hr2⟩, fun i m σ H' => ∃ (cf : Cf) (y1 y2 y3 : Option V), σ = [some (.ref R.a), y1, y2, y3] ∧ RS C PN PD (R.M ps) H2 R t H' cf.st cf.fm cf.ss ∧ Bd i cf.st cf.fm cf.ss ∧ i ≤ (toksF t 0).length ∧ runM t ⟨[], [], []⟩ (toksF t 0) = runM t cf ((toksF t 0).drop i) ∧ m = (toksF t 0).length - i,
    ⟨_, ⟨[], [], []⟩, none, none, none, rfl, RS.here a1 T2, ⟨Nat.zero_le _, Nat.zero_le _, Nat.zero_le _, (fun f hf => by cases hf), (fun f hf => by cases hf)⟩, Nat.zero_le _, rfl, rfl⟩, ?_⟩
  rintro i m σ H' ⟨cf, y1, y2, y3, rfl, rs, hb, hi, hrun, rfl⟩
  obtain ⟨hr', dv'⟩ := key rs.km
  by_cases hlast : i < (toksF t 0).length
  · refine .inr ⟨⟨ys, _, SqL.of hr', List.getElem?_eq_getElem (by omega)⟩, fun σ' H'' => ∃ m', m' < (toksF t 0).length - i ∧ ∃ (cf : Cf) (y1 y2 y3 : Option V), σ' = [some (.ref R.a), y1, y2, y3] ∧ RS C PN PD (R.M ps) H2 R t H'' cf.st cf.fm cf.ss ∧ Bd (i + 1) cf.st cf.fm cf.ss ∧ i + 1 ≤ (toksF t 0).length ∧ runM t ⟨[], [], []⟩ (toksF t 0) = runM t cf ((toksF t 0).drop (i + 1)) ∧ m' = (toksF t 0).length - (i + 1), fun σ' H' h => h, ?_⟩
    rintro x H'' ⟨rfl, hx⟩
    have hx := hx ys (SqL.of hr')
    obtain ⟨k, hk, dk⟩ := dv'.get_map hx
    obtain ⟨p, rfl, hp⟩ := tok_of dk
    have tok := toks_ok t.length (a := 0) (by omega) k (List.mem_of_getElem? hk)
    have hdrop : (toksF t 0).drop i = k :: (toksF t 0).drop (i + 1) := by
      obtain ⟨hk1, hk2⟩ := List.getElem?_eq_some_iff.mp hk
      rw [List.drop_eq_getElem_cons hk1, hk2]
    rw [hdrop] at hrun
    refine ⟨p, _, rfl, SqT.of hp, rfl, ?_⟩
    dsimp only [gCons, gName, gNil]
    refine ⟨_, _, rfl, _, _, rfl, _, _, rfl, rfl, ?_⟩
    obtain ⟨ps3, b1, b2⟩ := rs.ex
    refine ⟨_, rfl, R.a, R.dx, _, rfl, b1.ins, rfl, _, rfl, _, rfl, _, rfl, R.M ps, H2, R, t, cf, i, k, rfl, rs, hb, by omega, ok, by omega, tok, fun cf' hs H3 r3 => ?_, fun b hs d H3 sm e => ?_⟩
    · refine ⟨_, ?_, cf', _, _, _, rfl, r3, bd_step hb hs, hlast, ?_, rfl⟩
      · omega
      · rw [hrun, runM_cons, hs]
    · refine q2 b ?_ d H3 ?_ (rs.tt.same sm) e
      · rw [hrun, runM_cons, hs]
      · have kk := rs.km.kt (.same sm)
        exact (RS.comp (st := cf.st) (fm := cf.fm) (ss := cf.ss) (fun b hb => h2 b hb) kmA ⟨⟨ps3, b1.kt (.same sm), b2⟩, kk, rs.tt.same sm⟩).km
  · rw [show (toksF t 0).drop i = [] from List.drop_eq_nil_of_le (by omega)] at hrun
    rw [hrun] at q1 q2
    dsimp only [runM] at q1 q2
    refine .inl ⟨⟨ys, SqL.of hr', by omega⟩, ?_⟩
    obtain ⟨ps3, b1, b2⟩ := id rs.ex
    obtain ⟨xs, c5, c6⟩ := b1.st
    refine ⟨_, rfl, R.a, C, R.dx, _, _, rfl, b1.ins, T.cl, T.nO, rfl, _, .inl ⟨_, SqL.of c5, rfl⟩, ?_⟩
    have rs' := RS.comp h2 kmA rs
    obtain ⟨st, fm, ss⟩ := cf
    cases st with
    | nil =>
      obtain ⟨rfl, rfl⟩ := c6.nil
      exact iteF (q1 fm ss rfl H' rs')
    | cons f rr =>
      obtain ⟨b, xs', p, ps', ys', rfl, rfl, _⟩ := c6.cons
      refine iteTr (by simp) ?_
      refine ⟨_, rfl, R.a, C, R.dx, _, _, rfl, b1.ins, T.cl, T.nS, rfl, S t, rfl, hz, ?_⟩
      rw [len_S]
      refine ⟨by show 1 ≤ 1000; decide, fun a na => ?_⟩
      exact raise_at (n := t.length) (by omega) (fun d H'' k e => q2 t.length rfl d H'' (rs'.km.kt (.same k)) (rs'.tt.same k) e) na
end
end W4
set_option Elab.async false
set_option linter.all false
set_option maxRecDepth 100000
set_option maxHeartbeats 4000000
namespace W4
open PySem PySem.Spec PyProof.Rows L2 Com SX GxR
section
variable {P : Program} {w : World} {K : PySem.W.Frag} {mg : Str → Option Value} {base : Heap} {C CE CW fI fR pS PN PD : Addr}
/-! Reader.__init__ -/
def spInit (C : Addr) : Sp := fun vs H Q _ => ∃ (a dx : Addr) (t : T), vs = [.ref a, .str (S t)] ∧ H a = some (.ins C dx []) ∧
  ∀ (R : Rdr) (H' : Hp), R.a = a → R.dx = dx → RdAt C R t H' [] [] [] [] → (∀ b o, b ≠ a → H b = some o → H' b = some o) → H R.fa = none → H R.sa = none → H R.oa = none → Q .non H'
theorem ok_init {fd : FuncData} (F : Fun K "__init__" "Reader.__init__" st_Reader___init__ fR fd) (T : ReT w K mg C CE CW fI fR pS) : FnOk P w K mg base CX0 1 fR fd ["self", "text"] (spInit C) := by
  refine F.ok scReader___init__ (fun vs H Q E h => ?_) (fun cdv A outer s H vs Q E hr h => ?_)
  · obtain ⟨a, dx, t, rfl, _⟩ := h
    rfl
  obtain ⟨a, dx, t, rfl, ha, q⟩ := h
  refine ⟨_, (pss_cons (ps_fld (pv 0) (pv 1) rfl)
      (pss_cons (ps_fld (pv 0) (pe_lst pa_nil) rfl)
      (pss_cons (ps_fld (pv 0) (pe_lst pa_nil) rfl)
      (pss_one (ps_fld (pv 0) (pe_lst pa_nil) rfl))))), ?_⟩
  refine ⟨_, rfl, _, rfl, a, C, dx, _, rfl, ha, T.cl, T.nS, by show 0 < 1000; decide, ?_⟩
  have i1 := upd_same (H := H) (a := a) (o := .ins C dx (putF "source" (.str (S t)) []))
  have k1 : ∀ b o, b ≠ a → H b = some o → L2.upd H a (.ins C dx (putF "source" (.str (S t)) [])) b = some o := fun b o n e => by rw [upd_ne n]; exact e
  have n1 : ∀ b, L2.upd H a (.ins C dx (putF "source" (.str (S t)) [])) b = none → b ≠ a ∧ H b = none := fun b e => by
    have : b ≠ a := fun z => by rw [z, upd_same] at e; cases e
    exact ⟨this, by rw [upd_ne this] at e; exact e⟩
  generalize L2.upd H a (.ins C dx (putF "source" (.str (S t)) [])) = H1 at i1 k1 n1 ⊢
  refine ⟨Nat.zero_le _, fun fa nfa => ⟨_, rfl, a, C, dx, _, rfl, by rw [upd_ne (Ne.symm (n1 fa nfa).1)]; exact i1, T.cl, T.nF, by show 1 < 1000; decide, ?_⟩⟩
  have hfa := n1 fa nfa
  have i2 := upd_same (H := L2.upd H1 fa (.lst [])) (a := a) (o := .ins C dx (putF "forms" (.ref fa) (putF "source" (.str (S t)) [])))
  have f2 : L2.upd (L2.upd H1 fa (.lst [])) a (.ins C dx (putF "forms" (.ref fa) (putF "source" (.str (S t)) []))) fa = some (.lst []) := by rw [upd_ne hfa.1, upd_same]
  have k2 : ∀ b o, b ≠ a → H b = some o → L2.upd (L2.upd H1 fa (.lst [])) a (.ins C dx (putF "forms" (.ref fa) (putF "source" (.str (S t)) []))) b = some o := fun b o n e => by
    rw [upd_ne n, upd_ne (fun z => by rw [z, hfa.2] at e; cases e)]
    exact k1 b o n e
  have n2 : ∀ b, L2.upd (L2.upd H1 fa (.lst [])) a (.ins C dx (putF "forms" (.ref fa) (putF "source" (.str (S t)) []))) b = none → b ≠ a ∧ b ≠ fa ∧ H b = none := fun b e => by
    have m1 : b ≠ a := fun z => by rw [z, upd_same] at e; cases e
    rw [upd_ne m1] at e
    have m2 : b ≠ fa := fun z => by rw [z, upd_same] at e; cases e
    rw [upd_ne m2] at e
    exact ⟨m1, m2, (n1 b e).2⟩
  generalize L2.upd (L2.upd H1 fa (.lst [])) a (.ins C dx (putF "forms" (.ref fa) (putF "source" (.str (S t)) []))) = H2 at i2 f2 k2 n2 ⊢
  refine ⟨Nat.zero_le _, fun sa nsa => ⟨_, rfl, a, C, dx, _, rfl, by rw [upd_ne (Ne.symm (n2 sa nsa).1)]; exact i2, T.cl, T.nT, by show 2 < 1000; decide, ?_⟩⟩
  have hsa := n2 sa nsa
  have i3 := upd_same (H := L2.upd H2 sa (.lst [])) (a := a) (o := .ins C dx (putF "starts" (.ref sa) (putF "forms" (.ref fa) (putF "source" (.str (S t)) []))))
  have s3 : L2.upd (L2.upd H2 sa (.lst [])) a (.ins C dx (putF "starts" (.ref sa) (putF "forms" (.ref fa) (putF "source" (.str (S t)) [])))) sa = some (.lst []) := by rw [upd_ne hsa.1, upd_same]
  have f3 : L2.upd (L2.upd H2 sa (.lst [])) a (.ins C dx (putF "starts" (.ref sa) (putF "forms" (.ref fa) (putF "source" (.str (S t)) [])))) fa = some (.lst []) := by rw [upd_ne hfa.1, upd_ne (Ne.symm hsa.2.1)]; exact f2
  have k3 : ∀ b o, b ≠ a → H b = some o → L2.upd (L2.upd H2 sa (.lst [])) a (.ins C dx (putF "starts" (.ref sa) (putF "forms" (.ref fa) (putF "source" (.str (S t)) [])))) b = some o := fun b o n e => by
    rw [upd_ne n, upd_ne (fun z => by rw [z, hsa.2.2] at e; cases e)]
    exact k2 b o n e
  have n3 : ∀ b, L2.upd (L2.upd H2 sa (.lst [])) a (.ins C dx (putF "starts" (.ref sa) (putF "forms" (.ref fa) (putF "source" (.str (S t)) [])))) b = none → b ≠ a ∧ b ≠ fa ∧ b ≠ sa ∧ H b = none := fun b e => by
    have m1 : b ≠ a := fun z => by rw [z, upd_same] at e; cases e
    rw [upd_ne m1] at e
    have m2 : b ≠ sa := fun z => by rw [z, upd_same] at e; cases e
    rw [upd_ne m2] at e
    have := n2 b e
    exact ⟨m1, this.2.1, m2, this.2.2⟩
  generalize L2.upd (L2.upd H2 sa (.lst [])) a (.ins C dx (putF "starts" (.ref sa) (putF "forms" (.ref fa) (putF "source" (.str (S t)) [])))) = H3 at i3 s3 f3 k3 n3 ⊢
  refine ⟨Nat.zero_le _, fun oa noa => ⟨_, rfl, a, C, dx, _, rfl, by rw [upd_ne (Ne.symm (n3 oa noa).1)]; exact i3, T.cl, T.nO, by show 3 < 1000; decide, ?_⟩⟩
  have hoa := n3 oa noa
  refine q ⟨a, dx, fa, sa, oa⟩ _ rfl rfl ⟨upd_same, ⟨[], ?_, .nil⟩, ?_, ⟨[], ?_, True.intro⟩, ?_⟩ (fun b o n e => ?_) hfa.2 hsa.2.2 hoa.2.2.2
  · rw [upd_ne hfa.1, upd_ne (Ne.symm hoa.2.1)]; exact f3
  · rw [upd_ne hsa.1, upd_ne (Ne.symm hoa.2.2.1)]; exact s3
  · rw [upd_ne hoa.1, upd_same]; rfl
  · unfold Rdr.M
    simp only [List.nodup_cons, List.mem_cons, not_or, List.not_mem_nil, not_false_eq_true, and_true, List.nodup_nil]
    exact ⟨⟨Ne.symm hsa.2.1, Ne.symm hoa.2.1⟩, Ne.symm hoa.2.2.1⟩
  · rw [upd_ne n, upd_ne (fun z => by rw [z, hoa.2.2.2] at e; cases e)]
    exact k3 b o n e
/-! read, offsets -/
def spRead (CE PN PD : Addr) : Sp := fun vs H Q E => ∃ t : T, vs = [.str (S t)] ∧ Ok t ∧ TT PN PD H ∧ (∀ fm ss, readM t = .ok (fm, ss) → ∀ r H', KT H H' → TT PN PD H' → Dt H' (.ref r) (.tuple fm) → Q (.ref r) H') ∧
  (∀ b, readM t = .error b → ∀ d H', KT H H' → TT PN PD H' → H' d = some (atX b) → E (.ref CE) (some d) H')
def spOffs (CE PN PD : Addr) : Sp := fun vs H Q E => ∃ t : T, vs = [.str (S t)] ∧ Ok t ∧ TT PN PD H ∧ (∀ fm ss, readM t = .ok (fm, ss) → ∀ r H', KT H H' → TT PN PD H' → H r = none → H' r = some (.lst (ss.map fun n => V.int (n : Nat))) → Q (.ref r) H') ∧
  (∀ b, readM t = .error b → ∀ d H', KT H H' → TT PN PD H' → H' d = some (atX b) → E (.ref CE) (some d) H')
theorem made {H H' : Hp} {x dx : Addr} (nx : H x = none) (nd : H dx = none) (k : ∀ b o, b ≠ x → L2.upd (L2.upd H dx (.own x)) x (.ins C dx []) b = some o → H' b = some o) : KT H H' := by
  refine .same fun b o e => k b o ?_ ?_
  · intro z
    rw [z, nx] at e
    cases e
  · rw [upd_ne (fun z => by rw [z, nx] at e; cases e), upd_ne (fun z => by rw [z, nd] at e; cases e)]
    exact e
theorem Same.of_made {H H' : Hp} {x dx : Addr} (nx : H x = none) (nd : H dx = none) (k : ∀ b o, b ≠ x → L2.upd (L2.upd H dx (.own x)) x (.ins C dx []) b = some o → H' b = some o) : Same H H' := fun b o e => k b o (fun z => by rw [z, nx] at e; cases e) (by
  rw [upd_ne (fun z => by rw [z, nx] at e; cases e), upd_ne (fun z => by rw [z, nd] at e; cases e)]
  exact e)
theorem nn_made {H : Hp} {x dx b : Addr} (n : L2.upd (L2.upd H dx (.own x)) x (.ins C dx []) b = none) : H b = none := by
  have h1 : b ≠ x := fun z => by rw [z, upd_same] at n; cases n
  rw [upd_ne h1] at n
  have h2 : b ≠ dx := fun z => by rw [z, upd_same] at n; cases n
  rw [upd_ne h2] at n
  exact n
theorem readM_len {t : T} {fm : List PyData} {ss : List Nat} (h : readM t = .ok (fm, ss)) : fm.length ≤ 6000 ∧ ss.length ≤ 12000 := by
  unfold readM at h
  split at h
  · cases h
  rename_i hl
  have key : ∀ (ks : List Tok) (cf cf' : Cf) (n : Nat), Bd n cf.st cf.fm cf.ss → runM t cf ks = .ok cf' → Bd (n + ks.length) cf'.st cf'.fm cf'.ss := by
    intro ks
    induction ks with
    | nil =>
      intro cf cf' n hb e
      obtain rfl := Except.ok.inj e
      exact hb
    | cons k ks ih =>
      intro cf cf' n hb e
      rw [runM_cons] at e
      cases hs : step t cf k with
      | error b =>
        rw [hs] at e
        cases e
      | ok c2 =>
        rw [hs] at e
        have := ih c2 cf' (n + 1) (bd_step hb hs) e
        rw [List.length_cons, show n + (ks.length + 1) = n + 1 + ks.length by omega]
        exact this
  have hl6 : (toksF t 0).length ≤ 6000 := by
    have := toksF_len (t := t) t.length (a := 0) (by omega)
    omega
  cases hr : runM t ⟨[], [], []⟩ (toksF t 0) with
  | error b =>
    rw [hr] at h
    cases h
  | ok cf =>
    rw [hr] at h
    dsimp only at h
    have hb := key _ _ cf 0 ⟨Nat.zero_le _, Nat.zero_le _, Nat.zero_le _, (fun f hf => by cases hf), (fun f hf => by cases hf)⟩ hr
    split at h
    · have := Except.ok.inj h
      obtain ⟨rfl, rfl⟩ := Prod.mk.inj this
      have h1 := hb.bf
      have h2 := hb.bs
      exact ⟨by omega, by omega⟩
    · cases h
theorem ok_read {f : Addr} {fd fdR : FuncData} (F : Dfn K mg "read" st_read f fd ["text"]) (M : Mg mg) (T : ReT w K mg C CE CW fI fR pS) (bI : Binds K fdR ["self", "text"] []) (GI : FnOk P w K mg base CX0 1 fR fdR ["self", "text"] (spInit C))
    (Gread_all : CalM (L2.CX P w) P w K mg base 7 C "read_all" (spAll C CE PN PD)) : CalX P w K mg base 8 "read" (spRead CE PN PD) := by
  refine cal_mkX F scread (fun vs H Q E h => ?_) (fun cdv A outer s H vs Q E hr h => ?_)
  · obtain ⟨t, rfl, _⟩ := h
    rfl
  obtain ⟨t, rfl, ok, hT, q1, q2⟩ := h
  refine ⟨_, (pss_cons (ps_set (i := 1) scread.nd rfl (.inl rfl) (pe_make T.mkR GI (hr.mono (by omega)) (by rfl) T.mgC bI .nil L2.pass0 (pa_cons (pv 0) pa_nil)))
      (pss_cons (ps_expr (pe_m0c (pv 1) T.cl Gread_all hr (by omega) (passes_call (takes_of rfl rfl rfl rfl) fun _ _ _ _ h => h)))
      (pss_one (ps_ret (pe_callTy (cTup K rfl) (by rfl) M.tuple b_tuple (pa_cons (pe_fld (pv 1) rfl) pa_nil)))))), ?_⟩
  refine ⟨_, rfl, fun x dx nx nd hne => ⟨x, dx, t, rfl, upd_same, fun R H1 ea edx ra k1 n1 n2 n3 => ⟨rfl, ?_⟩⟩⟩
  have kt1 := made nx nd k1
  have nx' : H R.a = none := by rw [ea]; exact nx
  have rs : RS C PN PD [] H R t H1 [] [] [] := by
    refine ⟨⟨[], ra, fun b hb => .inr ?_⟩, .of kt1, hT.same (Same.of_made nx nd k1)⟩
    unfold Rdr.M at hb
    simp only [List.mem_cons, List.not_mem_nil, or_false] at hb
    rcases hb with rfl | rfl | rfl
    · exact nn_made n1
    · exact nn_made n2
    · exact nn_made n3
  subst ea
  dsimp only [gName]
  refine ⟨_, rfl, R.a, R.dx, _, rfl, ra.ins, rfl, [], H, R, t, rfl, rs, ok, fun fm ss e H2 r2 => ?_, fun b e d H2 km tt ed => q2 b e d H2 km.kt' tt ed⟩
  obtain ⟨⟨ps, b1, b2⟩, km, tt⟩ := r2
  have kt2 := km.kt'
  obtain ⟨xs, f1, f2⟩ := b1.fm
  refine ⟨_, rfl, R.a, C, R.dx, _, _, rfl, b1.ins, T.cl, T.nF, rfl, R.fa, xs, rfl, .inl ⟨SqL.of f1, fun l nl => ?_⟩⟩
  have k3 := KT.new (o := .tup xs) nl
  exact q1 fm ss e l _ (kt2.trans k3) (tt.new nl) (.tup upd_same (f2.tk k3.tk))
theorem ok_offsets {f : Addr} {fd fdR : FuncData} (F : Dfn K mg "offsets" st_offsets f fd ["text"]) (M : Mg mg) (T : ReT w K mg C CE CW fI fR pS) (bI : Binds K fdR ["self", "text"] []) (GI : FnOk P w K mg base CX0 1 fR fdR ["self", "text"] (spInit C))
    (Gread_all : CalM (L2.CX P w) P w K mg base 7 C "read_all" (spAll C CE PN PD)) : CalX P w K mg base 8 "offsets" (spOffs CE PN PD) := by
  refine cal_mkX F scoffsets (fun vs H Q E h => ?_) (fun cdv A outer s H vs Q E hr h => ?_)
  · obtain ⟨t, rfl, _⟩ := h
    rfl
  obtain ⟨t, rfl, ok, hT, q1, q2⟩ := h
  refine ⟨_, (pss_cons (ps_set (i := 1) scoffsets.nd rfl (.inl rfl) (pe_make T.mkR GI (hr.mono (by omega)) (by rfl) T.mgC bI .nil L2.pass0 (pa_cons (pv 0) pa_nil)))
      (pss_cons (ps_expr (pe_m0c (pv 1) T.cl Gread_all hr (by omega) (passes_call (takes_of rfl rfl rfl rfl) fun _ _ _ _ h => h)))
      (pss_one (ps_ret (pe_callTy (cList K rfl) (by rfl) M.list b_list (pa_cons (pe_fld (pv 1) rfl) pa_nil)))))), ?_⟩
  refine ⟨_, rfl, fun x dx nx nd hne => ⟨x, dx, t, rfl, upd_same, fun R H1 ea edx ra k1 n1 n2 n3 => ⟨rfl, ?_⟩⟩⟩
  have kt1 := made nx nd k1
  have nx' : H R.a = none := by rw [ea]; exact nx
  have rs : RS C PN PD [] H R t H1 [] [] [] := by
    refine ⟨⟨[], ra, fun b hb => .inr ?_⟩, .of kt1, hT.same (Same.of_made nx nd k1)⟩
    unfold Rdr.M at hb
    simp only [List.mem_cons, List.not_mem_nil, or_false] at hb
    rcases hb with rfl | rfl | rfl
    · exact nn_made n1
    · exact nn_made n2
    · exact nn_made n3
  subst ea
  dsimp only [gName]
  refine ⟨_, rfl, R.a, R.dx, _, rfl, ra.ins, rfl, [], H, R, t, rfl, rs, ok, fun fm ss e H2 r2 => ?_, fun b e d H2 km tt ed => q2 b e d H2 km.kt' tt ed⟩
  obtain ⟨⟨ps, b1, b2⟩, km, tt⟩ := r2
  have kt2 := km.kt'
  refine ⟨_, rfl, R.a, C, R.dx, _, _, rfl, b1.ins, T.cl, T.nT, rfl, R.sa, _, rfl, .inl (SqL.of b1.ss), fun l nl => ?_⟩
  have k3 := KT.new (o := .lst (ss.map fun n => V.int (n : Nat))) nl
  exact q1 fm ss e l _ (kt2.trans k3) (tt.new nl) (kt2.nn nl) upd_same
end
end W4
set_option Elab.async false
set_option linter.all false
set_option maxRecDepth 100000
set_option maxHeartbeats 4000000
namespace Com
open PySem PySem.Spec PyProof.Rows L2
/-! list(text) -/
def sgs (z : Str) : List V := z.cps.toList.map fun c => V.str ⟨#[c]⟩
def rListStr : List V → Hp → VK → Prop := fun xs H Q => ∃ z : Str, xs = [.str z] ∧ z.length ≤ sizeLine ∧ ∀ p, H p = none → Q (.ref p) (upd H p (.lst (sgs z)))
theorem cListS {X : Cx} (hc : X.calm = true) : CallR X (.type "list") rListStr := by
  intro pins s σ H xs us Q I r h
  obtain ⟨z, rfl, hz, q⟩ := h
  obtain ⟨u, rfl, t, rfl⟩ := vals1 r
  refine call_list_str (I.ok.hd hc) z t (fun h' tk acc' c' hkeep hS hacc => ?_) hz
  refine ⟨.ref s.heap.objs.size, upd H s.heap.objs.size (.lst (sgs z)), I.laid hkeep (Nat.le_refl _) (show ObjOk X.prog X.w _ _ _ (.lst (sgs z)) from ⟨?_, acc'.toList, c', ?_, ?_⟩), rfl, q _ (I.hok.fresh (Nat.le_refl _))⟩
  · unfold sgs
    rw [List.length_map]
    exact hz
  · have el : acc'.toList.length = acc'.size := by simp
    refine vals_of_at (by unfold sgs; rw [List.length_map, el, hacc.1]; rfl) fun j x w h1 h2 => ?_
    obtain ⟨c, u, hc', rfl⟩ := hacc.2 j w (by rw [← Array.getElem?_toList]; exact h2)
    have e2 : (sgs z)[j]? = some (.str ⟨#[c]⟩) := by
      unfold sgs
      rw [List.getElem?_map, Array.getElem?_toList, hc'] <;> rfl
    rw [e2] at h1
    cases h1
    exact ⟨u, rfl⟩
  · rw [Array.toArray_toList]; exact hS
theorem opInF (K : PySem.W.Frag) {X : Cx} (h : X.K = K) : OpR X (compareOp .In) (rIn K false) := h ▸ op_in_seq
end Com
set_option Elab.async false
set_option linter.all false
set_option maxRecDepth 100000
set_option maxHeartbeats 4000000
namespace W4
open PySem PySem.Spec PyProof.Rows L2 Com SX GxR
theorem lc_str {x : Str} {g : TG} {tt : L2.TT} {te : TE} {vs : List Nat} {σ : L2.St} {H1 : Hp} {D : Addr} {Qd : Hp → Prop} (Pv : Nat → Hp → Prop) (h0 : Pv 0 (upd H1 D (.lst [])))
    (hs : ∀ i c H, x.cps[i]? = some c → Pv i H → g (.str ⟨#[c]⟩) (wipe σ vs) H fun σ2 H2 => wipe σ2 vs = wipe σ vs ∧ tt σ2 H2 fun b H3 =>
      if b = true then te σ2 H3 fun y H4 => ∃ acc, H4 D = some (.lst acc) ∧ acc.length < sizeLine ∧ Pv (i + 1) (upd H4 D (.lst (acc ++ [y]))) else Pv (i + 1) H3) (hd : ∀ H, Pv x.cps.size H → Qd H) :
    ∃ W : Nat → Nat → Hp → Prop, (∃ m, W 0 m (upd H1 D (.lst []))) ∧ ∀ i m H, W i m H →
      ((Its x).stop i H ∧ Qd H) ∨ ((Its x).go i H ∧ ∃ Nx : Hp → Prop, (∀ H', Nx H' → ∃ m', m' < m ∧ W (i + 1) m' H') ∧ ∀ v H', (Its x).yld i H v H' → g v (wipe σ vs) H' fun σ2 H2 => wipe σ2 vs = wipe σ vs ∧ tt σ2 H2 fun b H3 =>
        if b = true then te σ2 H3 fun y H4 => ∃ acc, H4 D = some (.lst acc) ∧ acc.length < sizeLine ∧ Nx (upd H4 D (.lst (acc ++ [y]))) else Nx H3) := by
  refine ⟨fun i m H => m = x.cps.size - i ∧ i ≤ x.cps.size ∧ Pv i H, ⟨_, rfl, Nat.zero_le _, h0⟩, ?_⟩
  rintro i m H ⟨rfl, hi, p⟩
  by_cases hlt : i < x.cps.size
  · refine .inr ⟨hlt, Pv (i + 1), fun H' p' => ⟨x.cps.size - (i + 1), by omega, rfl, hlt, p'⟩, fun v H' y => ?_⟩
    obtain ⟨rfl, c, hc, rfl⟩ := y
    exact hs i c _ hc p
  · have e : i = x.cps.size := by omega
    subst e
    exact .inl ⟨Nat.le_refl _, hd _ p⟩
theorem sw_min (t : T) : Txt.startswith (S t) ("-" : Str) = decide (t.head? = some 45) := by
  rw [q_min]
  cases t with
  | nil => rfl
  | cons c r =>
    unfold Txt.startswith Builtin.Str.subAt
    have e : (S (c :: r)).cps.extract 0 (0 + (S [45]).length) = #[c] := by
      show (c :: r).toArray.extract 0 1 = #[c]
      simp
    rw [e, len_S, len_S]
    show (decide (0 + 1 ≤ r.length + 1) && (#[c] == #[45])) = decide (some c = some 45)
    rw [decide_eq_true (show 0 + 1 ≤ r.length + 1 by omega), Bool.true_and]
    by_cases h : c = 45
    · subst h
      rfl
    · rw [decide_eq_false (fun z => h (Option.some.inj z))]
      rw [beq_eq_false_iff_ne]
      intro z
      have := congrArg Array.toList z
      exact h (List.cons.inj this).1
theorem sgs_S (t : T) : sgs (S t) = t.map fun c => V.str (S [c]) := rfl
theorem q_dig : ("0123456789" : Str) = S digC := by decide +kernel
theorem in_dig (b : T) : inV (.str (S (b.take 1))) (sgs "0123456789") = match b.head? with | some c => isD c | none => false := by
  rw [q_dig, sgs_S]
  unfold inV
  rw [List.any_map]
  cases b with
  | nil =>
    show (digC.any fun c => eqV (V.str (S [c])) (V.str (S []))) = false
    decide +kernel
  | cons c r =>
    show (digC.any fun d => eqV (V.str (S [d])) (V.str (S [c]))) = isD c
    have e : ∀ d : Nat, eqV (V.str (S [d])) (V.str (S [c])) = decide (d = c) := fun d => by
      show (S [d] == S [c]) = decide (d = c)
      by_cases h : d = c
      · subst h
        rw [decide_eq_true rfl]
        exact beq_self_eq_true _
      · rw [decide_eq_false h, beq_eq_false_iff_ne]
        intro z
        exact h (List.cons.inj (S_inj z)).1
    simp only [e]
    unfold isD
    rw [Bool.eq_iff_iff, List.any_eq_true, decide_eq_true_iff]
    constructor
    · rintro ⟨d, h1, h2⟩
      rw [decide_eq_true_iff] at h2
      exact h2 ▸ h1
    · intro h
      exact ⟨c, h, decide_eq_true rfl⟩
theorem sgs_flat (z : Str) : (sgs z).all flatV = true := by
  unfold sgs
  rw [List.all_map, List.all_eq_true]
  intro c _
  rfl
theorem cut_head {b : T} : cutS (S b) none (some 1) = S (b.take 1) := by
  unfold cutS
  have e : (S b).length = b.length := S_len b
  rw [show (some 1 : Option Int) = some ((1 : Nat) : Int) from rfl, HT.sIx_nat, HT.sIx_none, e]
  show S ((b.drop 0).take (min 1 b.length - 0)) = _
  rw [List.drop_zero, Nat.sub_zero]
  cases b with
  | nil => rfl
  | cons c r => rw [Nat.min_eq_left (by simp)]
theorem same_trans {H1 H2 H3 : Hp} (a : Same H1 H2) (b : Same H2 H3) : Same H1 H3 := fun c o e => b c o (a c o e)
theorem isD_ne {c : Nat} (h : isD c = true) : c ≠ 35 ∧ c ≠ 46 ∧ c ≠ 95 ∧ c ≠ 45 := by
  have := (dig_iff c).mp h
  omega
/-- a body that is digits -/
theorem sort_dig {t : T} (hb : body t ≠ []) (hd : (body t).all isD = true) : sortW t = if isNum t = true then "number" else "wrong" := by
  have hh : ∃ c r, body t = c :: r ∧ isD c = true := by
    obtain ⟨c, r, e⟩ := List.exists_cons_of_ne_nil hb
    rw [e, List.all_cons, Bool.and_eq_true] at hd
    exact ⟨c, r, e, hd.1⟩
  obtain ⟨c, r, e, hc⟩ := hh
  obtain ⟨n1, n2, n3, n4⟩ := isD_ne hc
  have ht : t = c :: r ∨ t = 45 :: c :: r := by
    cases t with
    | nil => cases e
    | cons d s =>
      by_cases h : d = 45
      · subst h
        have : body (45 :: s) = s := rfl
        rw [this] at e
        exact .inr (by rw [e])
      · have : body (d :: s) = d :: s := by
          unfold body
          rw [if_neg (show ¬ (d :: s).head? = some 45 from fun z => h (Option.some.inj z))]
        rw [this] at e
        exact .inl e
  have hbeg : begN t = true := by
    unfold begN
    rw [e]
    exact hc
  have hnam : ¬ isNam t = true := by
    unfold isNam
    rw [hbeg]
    simp
  unfold sortW
  rw [if_neg, if_neg, if_neg]
  · by_cases h : isNum t = true
    · rw [if_pos h, if_pos h]
    · rw [if_neg h, if_neg h, if_neg hnam]
  · rcases ht with z | z <;> rw [z] <;> intro y
    · exact n3 (List.cons.inj y).1
    · exact absurd (List.cons.inj y).1 (by decide)
  · rcases ht with z | z <;> rw [z] <;> intro y
    · exact n2 (List.cons.inj y).1
    · exact absurd (List.cons.inj y).1 (by decide)
  · rcases ht with z | z <;> rw [z] <;> intro y
    · rcases y with y | y <;> exact n1 (List.cons.inj y).1
    · rcases y with y | y <;> exact absurd (List.cons.inj y).1 (by decide)
theorem num_dig {t : T} (h : isNum t = true) : body t ≠ [] ∧ (body t).all isD = true := by
  unfold isNum at h
  rw [Bool.or_eq_true, decide_eq_true_iff] at h
  rcases h with h | h
  · subst h
    exact ⟨by decide, by decide +kernel⟩
  · simp only [Bool.and_eq_true, decide_eq_true_eq] at h
    obtain ⟨⟨⟨h1, _⟩, _⟩, h4⟩ := h
    exact ⟨fun z => by rw [z] at h1; simp at h1, h4⟩
section
variable {P : Program} {w : World} {K : PySem.W.Frag} {mg : Str → Option Value} {base : Heap}
/-! the law's own sort of a word -/
def spLSort : Sp := fun vs H Q _ => ∃ t : T, vs = [.str (S t)] ∧ Ok t ∧ 1 ≤ t.length ∧ ∀ H', Same H H' → Q (.str (sortW t)) H'
theorem ok_lsort {f : Addr} {fd : FuncData} (F : Dfn K mg "_law_sort" st__law_sort f fd ["word"]) (M : Mg mg) : Cal P w K mg base 1 "_law_sort" spLSort := by
  refine cal_mk F sc_law_sort (fun vs H Q E h => ?_) (fun cdv A outer s H vs Q E hr h => ?_)
  · obtain ⟨t, rfl, _⟩ := h
    rfl
  obtain ⟨t, rfl, ok, h1, q⟩ := h
  have hz := ok.z
  have okb := ok.body
  have hzb := okb.z
  refine ⟨_, (pss_cons (ps_set (i := 1) sc_law_sort.nd rfl (.inl rfl) (pe_ifExp (pt_val (pe_bm PySem.F.plainAttrs_str PySem.F.slot_str_startswith PySem.F.type_str_startswith mt_startswith (pv 0) (pa_cons pe_str pa_nil))) (pe_slice sl_str (pv 0) (po_some pe_int) po_none) (pv 0)))
      (pss_cons (ps_if (PW.pt (pw_and (pt_cmpR op_ne (pv 1) pe_str (nomark _)) (pw_and1 (pt_val (pe_callB (cAll K rfl) (by rfl) M.all b_all (pa_cons (pe_lc (own := [("sign", 2)]) (g := gName 2) (by rfl) sc_law_sort.nd (pi_str (pv 1)) (blkOk_by (own := [("sign", 2)]) (N := ["word", "body", "sign"]) (sc := defScope st__law_sort) (by decide +kernel)) (fun _ _ _ _ _ => (pg_name (i := 2) sc_law_sort.nd rfl (.inl rfl))) (fun _ _ _ _ _ => pts_nil) (fun _ _ _ _ _ => (pe_cmpR op_inS (pv 2) pe_str (by rfl)))) pa_nil)))))) (pss_one (ps_ret (pe_ifExp (PW.pt (pw_or (pt_cmpR op_eq (pv 0) pe_str (nomark _)) (pw_or1 (PW.pt (pw_and (pt_cmpR op_ne (pe_ix ix_str (pv 1) pe_int (fun _ _ => rfl)) pe_str (nomark _)) (pw_and1 (pt_cmpR op_lt (pe_callB call_len_str (by rfl) M.len b_len (pa_cons (pv 1) pa_nil)) pe_int (nomark _)))))))) pe_str pe_str))) pss_nil)
      (pss_cons (ps_if (PW.pt (pw_or (pt_cmpR op_eq (pv 0) pe_str (nomark _)) (pw_or1 (pt_cmpR op_eq (pv 0) pe_str (nomark _))))) (pss_one (ps_ret pe_str)) pss_nil)
      (pss_cons (ps_if (PW.pt (pw_or (pt_cmpR op_eq (pv 0) pe_str (nomark _)) (pw_or1 (pt_cmpR op_eq (pv 0) pe_str (nomark _))))) (pss_one (ps_ret (pe_ix (ixT K rfl) (pe_tup (pa_cons pe_str (pa_cons pe_str pa_nil))) (pe_callTy call_int1 (by rfl) M.int b_int (pa_cons (pe_cmpR op_eq (pv 0) pe_str (nomark _)) pa_nil)) (fun _ _ => rfl)))) pss_nil)
      (pss_cons (ps_for PassesOwn.never rfl (pi_str (pv 0)) (pg_name (i := 2) sc_law_sort.nd rfl (.inl rfl))
      (pss_one (ps_if (pt_cmpR op_notInS (pv 2) pe_str (by rfl)) (pss_one (ps_ret pe_str)) pss_nil)))
      (pss_cons (ps_if (PW.pt (pw_or (pt_cmpR op_gt (pe_callB call_len_str (by rfl) M.len b_len (pa_cons (pv 0) pa_nil)) pe_int (nomark _)) (pw_or1 (pt_cmpR (opInF K rfl) (pe_slice sl_str (pv 1) po_none (po_some pe_int)) (pe_callTy (cListS rfl) (by rfl) M.list b_list (pa_cons pe_str pa_nil)) (by rfl))))) (pss_one (ps_ret pe_str)) pss_nil)
      (pss_one (ps_ret pe_str)))))))), ?_⟩
  refine seq_split (t1 := tAsg _ _) (fun σ' H' => σ' = [some (.str (S t)), some (.str (S (body t))), none] ∧ H' = H) ?_ (fun J => ?_)
  case refine_2 =>
    refine ⟨_, rfl, rfl, _, _, rfl, rfl, _, rfl, ?_⟩
    rw [sw_min]
    by_cases h : t.head? = some 45
    · rw [decide_eq_true h]
      refine iteT ⟨_, rfl, _, rfl, S t, rfl, hz, ?_⟩
      rw [cut_tail]
      refine J _ _ ⟨?_, rfl⟩
      unfold body
      rw [if_pos h]
      rfl
    · rw [decide_eq_false h]
      refine iteF ⟨_, rfl, ?_⟩
      refine J _ _ ⟨?_, rfl⟩
      unfold body
      rw [if_neg h]
      rfl
  rintro σ' H' ⟨rfl, rfl⟩
  refine seq_split (t1 := tIfS _ _ _) (fun σ' H1 => σ' = [some (.str (S t)), some (.str (S (body t))), none] ∧ Same H' H1 ∧ ¬ isNum t = true) ?_ (fun J => ?_)
  case refine_2 =>
    refine ⟨_, rfl, rfl, _, rfl, ?_⟩
    rw [wdE q_emp]
    by_cases hb : body t = []
    · rw [decide_eq_true hb]
      refine iteF (iteF ?_)
      dsimp only [tNext]
      exact J _ _ ⟨rfl, Same.refl _, fun z => (num_dig z).1 hb⟩
    rw [decide_eq_false hb]
    refine iteT ⟨_, rfl, S (body t), rfl, fun D nD => ?_⟩
    refine lc_str (fun i H1 => Same H' H1 ∧ H1 D = some (.lst (((body t).take i).map fun c => V.bl (isD c)))) ⟨same_upd nD, upd_same⟩ (fun i c H1 hc ⟨ss, hD⟩ => ?_) (fun H1 ⟨ss, hD⟩ => ?_)
    · have hc' : (body t)[i]? = some c := by
        rw [← hc]
        show _ = (body t).toArray[i]?
        rw [List.getElem?_toArray]
      refine ⟨rfl, ?_⟩
      unfold tYes
      refine iteT ⟨_, rfl, tc ⟨c, _, rfl, rfl, ?_⟩⟩
      rw [dig_lit]
      refine ⟨_, hD, ?_, fun b o e => ?_, ?_⟩
      · rw [List.length_map, List.length_take]
        have := okb.len
        show _ < 2 ^ 24
        omega
      · rw [upd_ne (ne_of_none e nD)]
        exact ss _ _ e
      · rw [upd_same, List.take_add_one, hc', List.map_append]
        rfl
    · have hsz : (S (body t)).cps.size = (body t).length := by
        show (body t).toArray.size = _
        exact List.size_toArray
      rw [hsz, List.take_length] at hD
      refine ⟨D, (body t).map isD, rfl, by rw [List.map_map]; exact SqL.of hD, _, rfl, ?_⟩
      have e : ((body t).map isD).all id = (body t).all isD := by rw [List.all_map]; rfl
      rw [e]
      cases hd : (body t).all isD with
      | false =>
        refine iteF ?_
        dsimp only [tNext]
        exact J _ _ ⟨rfl, ss, fun z => by rw [(num_dig z).2] at hd; cases hd⟩
      | true =>
        have hs := sort_dig hb hd
        rw [hs] at q
        refine iteT ⟨_, rfl, rfl, _, rfl, ?_⟩
        rw [wdE q_zero]
        by_cases h0 : t = [48]
        · rw [decide_eq_true h0]
          have e : isNum t = true := by unfold isNum; rw [decide_eq_true h0]; rfl
          rw [if_pos e] at q
          exact iteT (iteT (q H1 ss))
        rw [decide_eq_false h0]
        obtain ⟨c, r, hcr⟩ := List.exists_cons_of_ne_nil hb
        have hc0 : atI ((S (body t)).cps.toList) 0 = some c := by rw [hcr]; exact atS (w := c :: r) (i := 0) rfl
        refine iteF ⟨_, rfl, tc ⟨_, 0, c, rfl, rfl, hzb, hc0, rfl, _, rfl, ?_⟩⟩
        rw [sgE q_zero]
        have hh : (body t).head? = some c := by rw [hcr]; rfl
        have hl1 : 1 ≤ (body t).length := by rw [hcr]; simp
        by_cases hc : c = 48
        · rw [decide_eq_true hc]
          have e : ¬ isNum t = true := by
            unfold isNum
            rw [decide_eq_false h0, hh, hc]
            simp
          rw [if_neg e] at q
          exact iteF (iteF (q H1 ss))
        rw [decide_eq_false hc]
        refine iteT ⟨_, rfl, S (body t), rfl, hzb, _, _, rfl, rfl, _, rfl, ?_⟩
        rw [len_S]
        by_cases hl : (body t).length < 31
        · rw [decide_eq_true (show ((body t).length : Int) < 31 by omega)]
          have e : isNum t = true := by
            unfold isNum
            rw [decide_eq_false h0, hh, hd, decide_eq_true hl1, decide_eq_true (show (body t).length ≤ 30 by omega), decide_eq_false (fun z => hc (Option.some.inj z))]
            rfl
          rw [if_pos e] at q
          exact iteT (q H1 ss)
        · rw [decide_eq_false (show ¬ ((body t).length : Int) < 31 by omega)]
          have e : ¬ isNum t = true := by
            unfold isNum
            rw [decide_eq_false h0, decide_eq_false (show ¬ (body t).length ≤ 30 by omega)]
            simp
          rw [if_neg e] at q
          exact iteF (q H1 ss)
  rintro σ' H1 ⟨rfl, ss, hnum⟩
  refine ⟨_, rfl, rfl, _, rfl, ?_⟩
  rw [wdE q_t]
  by_cases f1 : t = [35, 116]
  · rw [decide_eq_true f1]
    have e : sortW t = "flag" := by unfold sortW; rw [if_pos (.inl f1)]
    rw [e] at q
    exact iteT (iteT (q H1 ss))
  rw [decide_eq_false f1]
  refine iteF ⟨_, rfl, rfl, _, rfl, ?_⟩
  rw [wdE q_f]
  by_cases f2 : t = [35, 102]
  · rw [decide_eq_true f2]
    have e : sortW t = "flag" := by unfold sortW; rw [if_pos (.inr f2)]
    rw [e] at q
    exact iteT (q H1 ss)
  rw [decide_eq_false f2]
  have f3 : ¬ (t = [35, 116] ∨ t = [35, 102]) := fun z => z.elim f1 f2
  refine iteF ?_
  dsimp only [tNext]
  refine ⟨_, rfl, rfl, _, rfl, ?_⟩
  rw [wdE q_dots]
  by_cases d1 : t = [46, 46, 46]
  · rw [decide_eq_true d1]
    have e : sortW t = "dots" := by unfold sortW; rw [if_neg f3, if_pos d1]
    rw [e] at q
    refine iteT (iteT ⟨by show 2 ≤ sizeLine; decide, fun p np => ⟨_, rfl, rfl, .inr ⟨_, rfl, ?_⟩⟩⟩)
    rw [wdE q_wild, decide_eq_false (show ¬ t = [95] by rw [d1]; decide)]
    exact ixt upd_same (atI_nat (j := 0) rfl) (q _ (same_trans ss (same_upd np)))
  rw [decide_eq_false d1]
  refine iteF ⟨_, rfl, rfl, _, rfl, ?_⟩
  rw [wdE q_wild]
  by_cases d2 : t = [95]
  · rw [decide_eq_true d2]
    have e : sortW t = "wild" := by unfold sortW; rw [if_neg f3, if_neg d1, if_pos d2]
    rw [e] at q
    refine iteT ⟨by show 2 ≤ sizeLine; decide, fun p np => ⟨_, rfl, rfl, .inr ⟨_, rfl, ?_⟩⟩⟩
    rw [wdE q_wild, decide_eq_true d2]
    exact ixt upd_same (atI_nat (j := 1) rfl) (q _ (same_trans ss (same_upd np)))
  rw [decide_eq_false d2]
  refine iteF ?_
  dsimp only [tNext]
  have hsw : sortW t = if isNam t = true then ("name" : Str) else ("wrong" : Str) := by
    unfold sortW
    rw [if_neg f3, if_neg d1, if_neg d2, if_neg hnum]
  have hsz : (S t).cps.size = t.length := by
    show t.toArray.size = _
    exact List.size_toArray
  refine ⟨_, rfl, S t, rfl, fun i m σ H2 => ∃ y : Option V, σ = [some (.str (S t)), some (.str (S (body t))), y] ∧ H2 = H1 ∧ (∀ c ∈ t.take i, isN c = true) ∧ i ≤ t.length ∧ m = t.length - i, ⟨_, none, rfl, rfl, (fun c hc => by cases hc), Nat.zero_le _, rfl⟩, ?_⟩
  rintro i m σ H2 ⟨y, rfl, rfl, hall, hi, rfl⟩
  by_cases hlt : i < t.length
  · refine .inr ⟨by show i < (S t).cps.size; rw [hsz]; exact hlt, fun σ' H3 => ∃ m', m' < t.length - i ∧ ∃ y : Option V, σ' = [some (.str (S t)), some (.str (S (body t))), y] ∧ H3 = H2 ∧ (∀ c ∈ t.take (i + 1), isN c = true) ∧ i + 1 ≤ t.length ∧ m' = t.length - (i + 1), fun σ' H' h => h, ?_⟩
    rintro x H3 ⟨rfl, c, hc, rfl⟩
    have hc' : t[i]? = some c := by
      rw [← hc]
      show _ = t.toArray[i]?
      rw [List.getElem?_toArray]
    dsimp only [gName]
    refine ⟨_, rfl, tc ⟨c, _, rfl, rfl, _, rfl, ?_⟩⟩
    rw [nam_lit]
    by_cases hn : c ∈ namC
    · rw [decide_eq_true hn]
      refine iteF ?_
      dsimp only [tNext]
      refine ⟨t.length - (i + 1), by omega, _, rfl, rfl, fun d hd => ?_, hlt, rfl⟩
      rw [List.take_add_one, hc'] at hd
      rcases List.mem_append.mp hd with hd | hd
      · exact hall d hd
      · rw [List.mem_singleton.mp hd]
        exact decide_eq_true hn
    · rw [decide_eq_false hn]
      have e : ¬ isNam t = true := by
        have : t.all isN = false := by
          rw [List.all_eq_false]
          exact ⟨c, List.mem_of_getElem? hc', by unfold isN; rw [decide_eq_false hn]; exact Bool.false_ne_true⟩
        unfold isNam
        rw [this]
        simp
      rw [hsw, if_neg e] at q
      exact iteT (q _ ss)
  · refine .inl ⟨by show (S t).cps.size ≤ i; rw [hsz]; omega, ?_⟩
    have hall' : t.all isN = true := by
      rw [List.all_eq_true]
      intro c hc
      rw [List.take_of_length_le (by omega)] at hall
      exact hall c hc
    refine ⟨_, rfl, S t, rfl, hz, _, _, rfl, rfl, _, rfl, ?_⟩
    rw [len_S]
    by_cases hl : 20 < t.length
    · rw [decide_eq_true (show (20 : Int) < (t.length : Int) by omega)]
      have e : ¬ isNam t = true := by
        unfold isNam
        rw [decide_eq_false (show ¬ t.length ≤ 20 by omega)]
        simp
      rw [hsw, if_neg e] at q
      exact iteT (iteT (q _ ss))
    rw [decide_eq_false (show ¬ (20 : Int) < (t.length : Int) by omega)]
    refine iteF ⟨_, rfl, _, rfl, S (body t), rfl, hzb, "0123456789", rfl, by decide +kernel, fun p np => ?_⟩
    rw [cut_head]
    refine ⟨p, _, rfl, .inl (SqL.of upd_same), rfl, sgs_flat _, _, rfl, ?_⟩
    rw [show (if false = true then !inV (V.str (S ((body t).take 1))) (sgs "0123456789") else inV (V.str (S ((body t).take 1))) (sgs "0123456789")) = begN t from in_dig _]
    have hn1 : isNam t = !begN t := by
      unfold isNam
      rw [decide_eq_true h1, decide_eq_true (show t.length ≤ 20 by omega), decide_eq_false d1, decide_eq_false d2, hall']
      simp
    cases hbg : begN t with
    | true =>
      rw [hbg] at hn1
      rw [hsw, if_neg (by rw [hn1]; exact Bool.false_ne_true)] at q
      exact iteT (q _ (same_trans ss (same_upd np)))
    | false =>
      rw [hbg] at hn1
      rw [hsw, if_pos (show isNam t = true from hn1)] at q
      exact iteF (q _ (same_trans ss (same_upd np)))
end
end W4
set_option Elab.async false
set_option linter.all false
set_option maxRecDepth 100000
set_option maxHeartbeats 4000000
namespace W4
open PySem PySem.Spec PyProof.Rows L2 Com SX GxR
section
variable {P : Program} {w : World} {K : PySem.W.Frag} {mg : Str → Option Value} {base : Heap}
/-! the law's own tokens -/
def spLToks : Sp := fun vs H Q _ => ∃ t : T, vs = [.str (S t)] ∧ Ok t ∧ ∀ r H' ys, Same H H' → H r = none → H' r = some (.lst ys) → DtAll H' ys ((toksF t 0).map tokD) → Q (.ref r) H'
structure LT (H : Hp) (B : Addr) (t : T) (a : Nat) (H' : Hp) : Prop where
  sm : Same H H'
  ex : ∃ vs ks, H' B = some (.lst vs) ∧ DtAll H' vs (ks.map tokD) ∧ ks ++ toksF t a = toksF t 0
theorem LT.push {H H' : Hp} {B : Addr} {t : T} {a : Nat} {p : Addr} {k : Tok} {vs : List V} (nB : H B = none) (h : Same H H') (hB : H' B = some (.lst vs)) {ks : List Tok} (dv : DtAll H' vs (ks.map tokD)) (hk : ks ++ k :: toksF t a = toksF t 0) (hp : TokAt H' p k) : LT H B t a (upd H' B (.lst (vs ++ [.ref p]))) := by
  have tk : Tk H' (upd H' B (.lst (vs ++ [.ref p]))) := Tk.upd fun xs z => by rw [hB] at z; cases z
  refine ⟨fun b o e => ?_, _, ks ++ [k], upd_same, ?_, ?_⟩
  · rw [upd_ne (ne_of_none e nB)]
    exact h b o e
  · rw [List.map_append]
    have hp' : TokAt (upd H' B (.lst (vs ++ [.ref p]))) p k := tk _ _ hp
    exact (dv.tk tk).app (.one hp'.dt)
  · rw [List.append_assoc]
    exact hk
theorem ok_ltoks {f : Addr} {fd : FuncData} (F : Dfn K mg "_law_tokens" st__law_tokens f fd ["text"]) (M : Mg mg) (G_law_sort : Cal P w K mg base 1 "_law_sort" spLSort) : Cal P w K mg base 2 "_law_tokens" spLToks := by
  refine cal_mk F sc_law_tokens (fun vs H Q E h => ?_) (fun cdv A outer s H vs Q E hr h => ?_)
  · obtain ⟨t, rfl, _⟩ := h
    rfl
  obtain ⟨t, rfl, ok, q⟩ := h
  have hz := ok.z
  have hn := ok.len
  refine ⟨_, (pss_cons (ps_set (i := 1) sc_law_tokens.nd rfl (.inl rfl) (pe_lst pa_nil))
      (pss_cons (ps_set (i := 2) sc_law_tokens.nd rfl (.inl rfl) pe_int)
      (pss_cons (ps_for PassesOwn.never rfl (pi_range1 (by rfl) M.range (pa_cons (pe_op op_add (pe_callB call_len_str (by rfl) M.len b_len (pa_cons (pv 0) pa_nil)) pe_int) pa_nil)) (pg_name (i := 3) sc_law_tokens.nd rfl (.inl rfl))
      (pss_cons (ps_if (pt_cmpR op_ge (pv 2) (pe_callB call_len_str (by rfl) M.len b_len (pa_cons (pv 0) pa_nil)) (nomark _)) (pss_one ps_break) pss_nil)
      (pss_cons (ps_set (i := 4) sc_law_tokens.nd rfl (.inl rfl) (pe_ix ix_str (pv 0) (pv 2) (fun _ _ => rfl)))
      (pss_cons (ps_set (i := 5) sc_law_tokens.nd rfl (.inl rfl) (pe_op op_add (pv 2) pe_int))
      (pss_cons (ps_if (pt_cmpR op_eq (pv 4) pe_str (nomark _)) (pss_one (ps_while PassesOwn.never (PW.pt (pw_and (pt_cmpR op_lt (pv 5) (pe_callB call_len_str (by rfl) M.len b_len (pa_cons (pv 0) pa_nil)) (nomark _)) (pw_and1 (pt_cmpR op_ne (pe_ix ix_str (pv 0) (pv 5) (fun _ _ => rfl)) pe_str (nomark _)))))
      (pss_one (ps_set (i := 5) sc_law_tokens.nd rfl (.inl rfl) (pe_op op_add (pv 5) pe_int))))) (pss_one (ps_if (pt_cmpR op_inS (pv 4) pe_str (by rfl)) (pss_one (ps_expr (pe_bm PySem.F.plainAttrs_list PySem.F.slot_list_append PySem.F.type_list_append mt_append (pv 1) (pa_cons (pe_tup (pa_cons pe_str (pa_cons (pv 2) (pa_cons (pv 5) pa_nil)))) pa_nil)))) (pss_one (ps_if (pt_cmpR op_eq (pv 4) pe_str (nomark _)) (pss_cons (ps_while PassesOwn.never (PW.pt (pw_and (pt_cmpR op_lt (pv 5) (pe_callB call_len_str (by rfl) M.len b_len (pa_cons (pv 0) pa_nil)) (nomark _)) (pw_and (pt_cmpR op_ne (pe_ix ix_str (pv 0) (pv 5) (fun _ _ => rfl)) pe_str (nomark _)) (pw_and1 (pt_cmpR op_ne (pe_ix ix_str (pv 0) (pv 5) (fun _ _ => rfl)) pe_str (nomark _))))))
      (pss_one (ps_set (i := 5) sc_law_tokens.nd rfl (.inl rfl) (pe_op op_add (pv 5) pe_int))))
      (pss_cons (ps_set (i := 6) sc_law_tokens.nd rfl (.inl rfl) (pe_and (pe_cmpR op_lt (pv 5) (pe_callB call_len_str (by rfl) M.len b_len (pa_cons (pv 0) pa_nil)) (nomark _)) (pe_one (pe_cmpR op_eq (pe_ix ix_str (pv 0) (pv 5) (fun _ _ => rfl)) pe_str (nomark _)))))
      (pss_cons (ps_set (i := 5) sc_law_tokens.nd rfl (.inl rfl) (pe_op op_add (pv 5) (pe_callTy call_int1 (by rfl) M.int b_int (pa_cons (pv 6) pa_nil))))
      (pss_one (ps_expr (pe_bm PySem.F.plainAttrs_list PySem.F.slot_list_append PySem.F.type_list_append mt_append (pv 1) (pa_cons (pe_tup (pa_cons (pe_ifExp (PW.pt (pw_and (pt_val (pv 6)) (pw_and1 (pt_cmpR op_lt (pe_op op_sub (pv 5) (pv 2)) pe_int (nomark _))))) pe_str pe_str) (pa_cons (pv 2) (pa_cons (pv 5) pa_nil)))) pa_nil))))))) (pss_one (ps_if (PW.pt (pw_and (pt_cmpR op_ne (pv 4) pe_str (nomark _)) (pw_and1 (pt_cmpR op_ne (pv 4) pe_str (nomark _))))) (pss_cons (ps_while PassesOwn.never (PW.pt (pw_and (pt_cmpR op_lt (pv 5) (pe_callB call_len_str (by rfl) M.len b_len (pa_cons (pv 0) pa_nil)) (nomark _)) (pw_and1 (pt_cmpR op_notInS (pe_ix ix_str (pv 0) (pv 5) (fun _ _ => rfl)) pe_str (by rfl)))))
      (pss_one (ps_set (i := 5) sc_law_tokens.nd rfl (.inl rfl) (pe_op op_add (pv 5) pe_int))))
      (pss_one (ps_if (PW.pt (pw_and (pt_cmpR op_eq (pe_slice sl_str (pv 0) (po_some (pv 2)) (po_some (pv 5))) pe_str (nomark _)) (pw_and1 (pt_cmpR op_eq (pe_slice sl_str (pv 0) (po_some (pv 5)) (po_some (pe_op op_add (pv 5) pe_int))) pe_str (nomark _))))) (pss_cons (ps_set (i := 5) sc_law_tokens.nd rfl (.inl rfl) (pe_op op_add (pv 5) pe_int))
      (pss_one (ps_expr (pe_bm PySem.F.plainAttrs_list PySem.F.slot_list_append PySem.F.type_list_append mt_append (pv 1) (pa_cons (pe_tup (pa_cons pe_str (pa_cons (pv 2) (pa_cons (pv 5) pa_nil)))) pa_nil))))) (pss_one (ps_expr (pe_bm PySem.F.plainAttrs_list PySem.F.slot_list_append PySem.F.type_list_append mt_append (pv 1) (pa_cons (pe_tup (pa_cons (pe_c G_law_sort hr (by omega) (by rfl) (pa_cons (pe_slice sl_str (pv 0) (po_some (pv 2)) (po_some (pv 5))) pa_nil)) (pa_cons (pv 2) (pa_cons (pv 5) pa_nil)))) pa_nil))))))) pss_nil)))))))
      (pss_one (ps_set (i := 2) sc_law_tokens.nd rfl (.inl rfl) (pv 5))))))))
      (pss_one (ps_ret (pv 1)))))), ?_⟩
  refine ⟨by decide, fun B nB => ?_⟩
  have k1 := same_upd (o := .lst []) nB
  have hB1 : upd H B (.lst []) B = some (.lst []) := upd_same
  generalize upd H B (.lst []) = H1 at k1 hB1 ⊢
  refine ⟨_, rfl, S t, rfl, hz, _, _, rfl, rfl, _, rfl, ?_, ?_, ?_⟩
  · rw [len_S]; omega
  · rw [len_S]; omega
  rw [len_S, show ((t.length : Int) + 1).toNat = t.length + 1 by omega]
  refine ⟨fun i m σ H' => ∃ (a : Nat) (y3 y4 y5 y6 : Option V), σ = [some (.str (S t)), some (.ref B), some (.int (a : Nat)), y3, y4, y5, y6] ∧ LT H B t a H' ∧ i ≤ a ∧ a ≤ t.length ∧ m = t.length - a,
    ⟨_, 0, none, none, none, none, rfl, ⟨k1, [], [], hB1, .nil, rfl⟩, Nat.le_refl _, Nat.zero_le _, rfl⟩, ?_⟩
  rintro i m σ H' ⟨a, y3, y4, y5, y6, rfl, ⟨sm, vs, ks, hB, dv, hks⟩, hia, han, rfl⟩
  refine .inr ⟨by show i < t.length + 1; omega, fun σ' H'' => ∃ m', m' < t.length - a ∧ ∃ (a : Nat) (y3 y4 y5 y6 : Option V), σ' = [some (.str (S t)), some (.ref B), some (.int (a : Nat)), y3, y4, y5, y6] ∧ LT H B t a H'' ∧ i + 1 ≤ a ∧ a ≤ t.length ∧ m' = t.length - a, fun σ' H' h => h, ?_⟩
  rintro x H'' ⟨rfl, rfl⟩
  dsimp only [gName]
  refine ⟨_, rfl, _, rfl, S t, rfl, hz, _, _, rfl, rfl, _, rfl, ?_⟩
  rw [len_S]
  by_cases hb : a < t.length
  case neg =>
    rw [decide_eq_true (show ((t.length : Nat) : Int) ≤ (a : Int) by omega)]
    rw [toksF_end (by omega), List.append_nil] at hks
    rw [hks] at dv
    exact iteT ⟨_, rfl, q B _ vs sm nB hB dv⟩
  rw [decide_eq_false (show ¬ ((t.length : Nat) : Int) ≤ (a : Int) by omega)]
  refine iteF ?_
  dsimp only [tNext]
  have ha := List.getElem?_eq_getElem hb
  obtain ⟨c, hc⟩ : ∃ c, c = t[a] := ⟨_, rfl⟩
  rw [← hc] at ha
  refine ⟨_, rfl, _, rfl, S t, _, c, rfl, rfl, hz, atS ha, ?_⟩
  dsimp only [gName]
  refine ⟨_, rfl, _, _, rfl, rfl, ?_⟩
  dsimp only [gName]
  have hgt := nxt_gt ha
  have hle := nxt_le ha
  refine seq_split (t1 := tIfS _ _ _) (fun σ' H1 => ∃ (y3 y4 y6 : Option V), σ' = [some (.str (S t)), some (.ref B), some (.int (a : Nat)), y3, y4, some (.int (nxt t a c : Nat)), y6] ∧ LT H B t (nxt t a c) H1) ?_ (fun J => ?_)
  · rintro σ' H1 ⟨y3, y4, y6, rfl, lt⟩
    exact ⟨_, rfl, t.length - nxt t a c, by omega, nxt t a c, _, _, _, _, rfl, lt, by omega, hle, rfl⟩
  rw [show ((a : Nat) : Int) + 1 = ((a + 1 : Nat) : Int) from rfl]
  have hvl : vs.length ≤ 1000000 := by
    have e1 := dv.len
    rw [List.length_map] at e1
    have e2 := congrArg List.length hks
    rw [List.length_append] at e2
    have e3 := toksF_len (t := t) t.length (a := 0) (by omega)
    omega
  refine ⟨_, rfl, tc ⟨rfl, _, rfl, ?_⟩⟩
  rw [sgE q_semi]
  by_cases c59 : c = 59
  · rw [decide_eq_true c59]
    rw [c59] at ha J
    rw [toksF_rem ha] at hks
    have en : nxt t a 59 = runE noL t (a + 1) := by
      unfold nxt
      rw [if_neg (by omega), if_pos rfl]
      exact runE_step ha rfl
    have en2 : runE noL t a = runE noL t (a + 1) := runE_step ha rfl
    rw [en] at J
    rw [en2] at hks
    refine iteT ⟨fun m σ H' => ∃ e : Nat, σ = [some (.str (S t)), some (.ref B), some (.int (a : Nat)), some (.int (0 + (i : Int))), some (.str ⟨#[c]⟩), some (.int (e : Nat)), y6] ∧ H' = H'' ∧ e ≤ t.length ∧ runE noL t e = runE noL t (a + 1) ∧ m = t.length - e, ⟨_, a + 1, rfl, rfl, hb, rfl, rfl⟩, ?_⟩
    rintro m σ H1 ⟨e, rfl, rfl, he, hrun, rfl⟩
    refine ⟨_, rfl, _, rfl, S t, rfl, hz, _, _, rfl, rfl, _, rfl, ?_⟩
    rw [len_S]
    by_cases hel : e < t.length
    case neg =>
      rw [decide_eq_false (show ¬ (e : Int) < (t.length : Int) by omega)]
      refine iteF (iteF ?_)
      rw [runE_end (by omega)] at hrun
      exact J _ _ ⟨_, _, _, by rw [← hrun], sm, vs, ks, hB, dv, hks⟩
    rw [decide_eq_true (show (e : Int) < (t.length : Int) by omega)]
    have hd := List.getElem?_eq_getElem hel
    obtain ⟨d, hdd⟩ : ∃ d, d = t[e] := ⟨_, rfl⟩
    rw [← hdd] at hd
    refine iteT ⟨_, rfl, _, rfl, S t, _, d, rfl, rfl, hz, atS hd, tc ⟨rfl, _, rfl, ?_⟩⟩
    rw [sgE q_nl]
    by_cases d10 : d = 10
    · rw [decide_eq_true d10]
      refine iteF ?_
      rw [runE_stop hd (by rw [d10]; rfl)] at hrun
      exact J _ _ ⟨_, _, _, by rw [← hrun], sm, vs, ks, hB, dv, hks⟩
    · rw [decide_eq_false d10]
      refine iteT ⟨fun σ' H2 => ∃ m', m' < t.length - e ∧ ∃ e : Nat, σ' = [some (.str (S t)), some (.ref B), some (.int (a : Nat)), some (.int (0 + (i : Int))), some (.str ⟨#[c]⟩), some (.int (e : Nat)), y6] ∧ H2 = H1 ∧ e ≤ t.length ∧ runE noL t e = runE noL t (a + 1) ∧ m' = t.length - e, fun σ' H' h => h, ?_⟩
      refine ⟨_, rfl, _, _, rfl, rfl, ?_⟩
      refine ⟨t.length - (e + 1), by omega, e + 1, rfl, rfl, hel, ?_, rfl⟩
      rw [← hrun]
      exact (runE_step hd (by unfold noL; rw [decide_eq_false d10]; rfl)).symm
  rw [decide_eq_false c59]
  refine iteF ⟨_, rfl, tc ⟨c, _, rfl, rfl, _, rfl, ?_⟩⟩
  rw [w_sig, sig_in]
  by_cases csg : c = 40 ∨ c = 41 ∨ c = 39
  · rw [decide_eq_true csg]
    have n1 : ¬ (c = 32 ∨ c = 10) := by omega
    have ek : tokA t a c = (("sign" : Str), a + 1) := by unfold tokA; rw [if_pos csg]
    have en : nxt t a c = a + 1 := by unfold nxt; rw [if_neg n1, if_neg c59, ek]
    rw [toksF_tok ha n1 c59, ek] at hks
    rw [en] at J
    refine iteT ⟨_, rfl, .inl ⟨rfl, _, SqL.of hB⟩, _, rfl, _, rfl, by show 3 ≤ sizeLine; decide, fun p np => ?_⟩
    have k2 := same_upd (o := .tup [.str "sign", .int (a : Nat), .int ((a + 1 : Nat))]) np
    refine ⟨B, vs, _, rfl, rfl, k2 _ _ hB, by show _ < 2 ^ 24; omega, ?_⟩
    exact J _ _ ⟨_, _, _, rfl, LT.push nB (same_trans sm k2) (k2 _ _ hB) (dv.tk (same_tk k2)) hks upd_same⟩
  rw [decide_eq_false csg]
  refine iteF ⟨_, rfl, tc ⟨rfl, _, rfl, ?_⟩⟩
  rw [sgE q_qq]
  by_cases c34 : c = 34
  · rw [decide_eq_true c34]
    have n1 : ¬ (c = 32 ∨ c = 10) := by omega
    have en : nxt t a c = (tokA t a c).2 := by unfold nxt; rw [if_neg n1, if_neg c59]
    have ek : tokA t a c = if t[runE noQ t (a + 1)]? = some 34 then (if runE noQ t (a + 1) - a - 1 ≤ 100 then ("string" : Str) else ("wrong" : Str), runE noQ t (a + 1) + 1) else (("wrong" : Str), runE noQ t (a + 1)) := by
      unfold tokA
      rw [if_neg csg, if_pos c34]
    rw [toksF_tok ha n1 c59] at hks
    rw [en] at J
    refine iteT (seq_split (t1 := tWhile _ _) (fun σ' H1 => ∃ e : Nat, σ' = [some (.str (S t)), some (.ref B), some (.int (a : Nat)), some (.int (0 + (i : Int))), some (.str ⟨#[c]⟩), some (.int (e : Nat)), y6] ∧ H1 = H'' ∧ e = runE noQ t (a + 1)) ?_ (fun J2 => ?_))
    case refine_2 =>
      refine ⟨fun m σ H' => ∃ e : Nat, σ = [some (.str (S t)), some (.ref B), some (.int (a : Nat)), some (.int (0 + (i : Int))), some (.str ⟨#[c]⟩), some (.int (e : Nat)), y6] ∧ H' = H'' ∧ e ≤ t.length ∧ runE noQ t e = runE noQ t (a + 1) ∧ m = t.length - e, ⟨_, a + 1, rfl, rfl, hb, rfl, rfl⟩, ?_⟩
      rintro m σ H1 ⟨e, rfl, rfl, he, hrun, rfl⟩
      refine ⟨_, rfl, _, rfl, S t, rfl, hz, _, _, rfl, rfl, _, rfl, ?_⟩
      rw [len_S]
      by_cases hel : e < t.length
      case neg =>
        rw [decide_eq_false (show ¬ (e : Int) < (t.length : Int) by omega)]
        refine iteF (iteF ?_)
        rw [runE_end (by omega)] at hrun
        exact J2 _ _ ⟨e, rfl, rfl, hrun⟩
      rw [decide_eq_true (show (e : Int) < (t.length : Int) by omega)]
      have hd := List.getElem?_eq_getElem hel
      obtain ⟨d, hdd⟩ : ∃ d, d = t[e] := ⟨_, rfl⟩
      rw [← hdd] at hd
      refine iteT ⟨_, rfl, _, rfl, S t, _, d, rfl, rfl, hz, atS hd, tc ⟨rfl, _, rfl, ?_⟩⟩
      rw [sgE q_nl]
      by_cases d10 : d = 10
      · rw [decide_eq_true d10]
        refine iteF (iteF ?_)
        rw [runE_stop hd (by rw [d10]; rfl)] at hrun
        exact J2 _ _ ⟨e, rfl, rfl, hrun⟩
      rw [decide_eq_false d10]
      refine iteT ⟨_, rfl, _, rfl, S t, _, d, rfl, rfl, hz, atS hd, tc ⟨rfl, _, rfl, ?_⟩⟩
      rw [sgE q_qq]
      by_cases d34 : d = 34
      · rw [decide_eq_true d34]
        refine iteF ?_
        rw [runE_stop hd (by rw [d34]; rfl)] at hrun
        exact J2 _ _ ⟨e, rfl, rfl, hrun⟩
      rw [decide_eq_false d34]
      refine iteT ⟨fun σ' H2 => ∃ m', m' < t.length - e ∧ ∃ e : Nat, σ' = [some (.str (S t)), some (.ref B), some (.int (a : Nat)), some (.int (0 + (i : Int))), some (.str ⟨#[c]⟩), some (.int (e : Nat)), y6] ∧ H2 = H1 ∧ e ≤ t.length ∧ runE noQ t e = runE noQ t (a + 1) ∧ m' = t.length - e, fun σ' H' h => h, ?_⟩
      refine ⟨_, rfl, _, _, rfl, rfl, ?_⟩
      refine ⟨t.length - (e + 1), by omega, e + 1, rfl, rfl, hel, ?_, rfl⟩
      rw [← hrun]
      exact (runE_step hd (by unfold noQ; rw [decide_eq_false d10, decide_eq_false d34]; rfl)).symm
    rintro σ' H1 ⟨e, rfl, rfl, hrun⟩
    rw [← hrun] at ek
    have hge := runE_ge noQ t (a + 1)
    have hle2 : runE noQ t (a + 1) ≤ t.length := runE_le hb
    rw [← hrun] at hge hle2
    refine seq_split (t1 := tAsg _ _) (fun σ' H2 => σ' = [some (.str (S t)), some (.ref B), some (.int (a : Nat)), some (.int (0 + (i : Int))), some (.str ⟨#[c]⟩), some (.int (e : Nat)), some (.bl (decide (t[e]? = some 34)))] ∧ H2 = H1) ?_ (fun J3 => ?_)
    case refine_2 =>
      refine ⟨_, rfl, _, rfl, S t, rfl, hz, _, _, rfl, rfl, _, rfl, ?_⟩
      rw [len_S]
      by_cases hel : e < t.length
      case neg =>
        rw [decide_eq_false (show ¬ (e : Int) < (t.length : Int) by omega)]
        refine iteF ?_
        refine J3 _ _ ⟨?_, rfl⟩
        rw [decide_eq_false (fun z => hel (List.getElem?_eq_some_iff.mp z).1)]
        rfl
      rw [decide_eq_true (show (e : Int) < (t.length : Int) by omega)]
      have hd := List.getElem?_eq_getElem hel
      obtain ⟨d, hdd⟩ : ∃ d, d = t[e] := ⟨_, rfl⟩
      rw [← hdd] at hd
      refine iteT ⟨_, rfl, _, rfl, S t, _, d, rfl, rfl, hz, atS hd, tc ⟨rfl, ?_⟩⟩
      rw [sgE q_qq]
      refine J3 _ _ ⟨?_, rfl⟩
      rw [hd]
      have : decide (some d = some 34) = decide (d = 34) := by
        congr 1
        exact propext ⟨Option.some.inj, fun z => by rw [z]⟩
      rw [this]
      rfl
    rintro σ' H2 ⟨rfl, rfl⟩
    rw [ek] at hks J
    refine ⟨_, rfl, _, rfl, .inr ⟨_, rfl, _, _, rfl, rfl, ?_⟩⟩
    dsimp only [gName]
    by_cases h34 : t[e]? = some 34
    · rw [decide_eq_true h34]
      rw [if_pos h34] at hks J
      dsimp only at hks J
      rw [show ((e : Int) + if true = true then 1 else 0) = ((e + 1 : Nat) : Int) from rfl]
      refine ⟨_, rfl, .inl ⟨rfl, _, SqL.of hB⟩, _, rfl, _, rfl, iteT ⟨_, rfl, _, rfl, _, _, rfl, rfl, _, _, rfl, rfl, _, rfl, ?_⟩⟩
      have fin : ∀ (z : Str), z = (if e - a - 1 ≤ 100 then ("string" : Str) else ("wrong" : Str)) → ∀ p, H2 p = none → LT H B t (e + 1) (upd (upd H2 p (.tup [.str z, .int (a : Nat), .int ((e + 1 : Nat))])) B (.lst (vs ++ [.ref p]))) := fun z ez p np => by
        have k2 := same_upd (o := .tup [.str z, .int (a : Nat), .int ((e + 1 : Nat))]) np
        exact LT.push nB (same_trans sm k2) (k2 _ _ hB) (dv.tk (same_tk k2)) hks (by rw [← ez]; exact upd_same)
      by_cases h100 : e - a - 1 ≤ 100
      · rw [decide_eq_true (show ((e + 1 : Nat) : Int) - (a : Int) < 103 by omega)]
        refine iteT ⟨_, rfl, _, rfl, by show 3 ≤ sizeLine; decide, fun p np => ?_⟩
        refine ⟨B, vs, _, rfl, rfl, same_upd np _ _ hB, by show _ < 2 ^ 24; omega, ?_⟩
        exact J _ _ ⟨_, _, _, rfl, fin _ (by rw [if_pos h100]) p np⟩
      · rw [decide_eq_false (show ¬ ((e + 1 : Nat) : Int) - (a : Int) < 103 by omega)]
        refine iteF ⟨_, rfl, _, rfl, by show 3 ≤ sizeLine; decide, fun p np => ?_⟩
        refine ⟨B, vs, _, rfl, rfl, same_upd np _ _ hB, by show _ < 2 ^ 24; omega, ?_⟩
        exact J _ _ ⟨_, _, _, rfl, fin _ (by rw [if_neg h100]) p np⟩
    · rw [decide_eq_false h34]
      rw [if_neg h34] at hks J
      dsimp only at hks J
      rw [show ((e : Int) + if false = true then 1 else 0) = ((e : Nat) : Int) by rw [if_neg (by decide)]; omega]
      refine ⟨_, rfl, .inl ⟨rfl, _, SqL.of hB⟩, _, rfl, _, rfl, iteF (iteF ⟨_, rfl, _, rfl, by show 3 ≤ sizeLine; decide, fun p np => ?_⟩)⟩
      have k2 := same_upd (o := .tup [.str "wrong", .int (a : Nat), .int (e : Nat)]) np
      refine ⟨B, vs, _, rfl, rfl, k2 _ _ hB, by show _ < 2 ^ 24; omega, ?_⟩
      exact J _ _ ⟨_, _, _, rfl, LT.push nB (same_trans sm k2) (k2 _ _ hB) (dv.tk (same_tk k2)) hks upd_same⟩
  rw [decide_eq_false c34]
  refine iteF ⟨_, rfl, tc ⟨rfl, _, rfl, ?_⟩⟩
  rw [sgE q_sp]
  by_cases c32 : c = 32
  · rw [decide_eq_true c32]
    have en : nxt t a c = a + 1 := by unfold nxt; rw [if_pos (.inl c32)]
    rw [en] at J
    rw [toksF_blank ha (.inl c32)] at hks
    refine iteF (iteF ?_)
    dsimp only [tNext]
    exact J _ _ ⟨_, _, _, rfl, sm, vs, ks, hB, dv, hks⟩
  rw [decide_eq_false c32]
  refine iteT ⟨_, rfl, tc ⟨rfl, _, rfl, ?_⟩⟩
  rw [sgE q_nl]
  by_cases c10 : c = 10
  · rw [decide_eq_true c10]
    have en : nxt t a c = a + 1 := by unfold nxt; rw [if_pos (.inr c10)]
    rw [en] at J
    rw [toksF_blank ha (.inr c10)] at hks
    refine iteF ?_
    dsimp only [tNext]
    exact J _ _ ⟨_, _, _, rfl, sm, vs, ks, hB, dv, hks⟩
  rw [decide_eq_false c10]
  have n1 : ¬ (c = 32 ∨ c = 10) := by omega
  have hnoE : noE c = true := by
    unfold noE endC
    simp only [List.mem_cons, List.not_mem_nil, or_false]
    have : ¬ (c = 32 ∨ c = 10 ∨ c = 40 ∨ c = 41 ∨ c = 39 ∨ c = 34 ∨ c = 59) := by omega
    simp [this]
  have hst := runE_step ha hnoE
  have en : nxt t a c = (tokA t a c).2 := by unfold nxt; rw [if_neg n1, if_neg c59]
  have ek : tokA t a c = if wrd t a (runE noE t a) = [35] ∧ t[runE noE t a]? = some 39 then (("sign" : Str), runE noE t a + 1) else (sortW (wrd t a (runE noE t a)), runE noE t a) := by
    unfold tokA
    rw [if_neg csg, if_neg c34]
  rw [toksF_tok ha n1 c59] at hks
  rw [en] at J
  refine iteT (seq_split (t1 := tWhile _ _) (fun σ' H1 => ∃ e : Nat, σ' = [some (.str (S t)), some (.ref B), some (.int (a : Nat)), some (.int (0 + (i : Int))), some (.str ⟨#[c]⟩), some (.int (e : Nat)), y6] ∧ H1 = H'' ∧ e = runE noE t a) ?_ (fun J2 => ?_))
  case refine_2 =>
    refine ⟨fun m σ H' => ∃ e : Nat, σ = [some (.str (S t)), some (.ref B), some (.int (a : Nat)), some (.int (0 + (i : Int))), some (.str ⟨#[c]⟩), some (.int (e : Nat)), y6] ∧ H' = H'' ∧ e ≤ t.length ∧ runE noE t e = runE noE t a ∧ m = t.length - e, ⟨_, a + 1, rfl, rfl, hb, hst.symm, rfl⟩, ?_⟩
    rintro m σ H1 ⟨e, rfl, rfl, he, hrun, rfl⟩
    refine ⟨_, rfl, _, rfl, S t, rfl, hz, _, _, rfl, rfl, _, rfl, ?_⟩
    rw [len_S]
    by_cases hel : e < t.length
    case neg =>
      rw [decide_eq_false (show ¬ (e : Int) < (t.length : Int) by omega)]
      refine iteF (iteF ?_)
      rw [runE_end (by omega)] at hrun
      exact J2 _ _ ⟨e, rfl, rfl, hrun⟩
    rw [decide_eq_true (show (e : Int) < (t.length : Int) by omega)]
    have hd := List.getElem?_eq_getElem hel
    obtain ⟨d, hdd⟩ : ∃ d, d = t[e] := ⟨_, rfl⟩
    rw [← hdd] at hd
    refine iteT ⟨_, rfl, _, rfl, S t, _, d, rfl, rfl, hz, atS hd, tc ⟨d, _, rfl, rfl, _, rfl, ?_⟩⟩
    rw [end_lit]
    by_cases hE : d ∈ endC
    · rw [decide_eq_true hE]
      refine iteF ?_
      rw [runE_stop hd (by unfold noE; rw [decide_eq_true hE]; rfl)] at hrun
      exact J2 _ _ ⟨e, rfl, rfl, hrun⟩
    rw [decide_eq_false hE]
    refine iteT ⟨fun σ' H2 => ∃ m', m' < t.length - e ∧ ∃ e : Nat, σ' = [some (.str (S t)), some (.ref B), some (.int (a : Nat)), some (.int (0 + (i : Int))), some (.str ⟨#[c]⟩), some (.int (e : Nat)), y6] ∧ H2 = H1 ∧ e ≤ t.length ∧ runE noE t e = runE noE t a ∧ m' = t.length - e, fun σ' H' h => h, ?_⟩
    refine ⟨_, rfl, _, _, rfl, rfl, ?_⟩
    refine ⟨t.length - (e + 1), by omega, e + 1, rfl, rfl, hel, ?_, rfl⟩
    rw [← hrun]
    exact (runE_step hd (by unfold noE; rw [decide_eq_false hE]; rfl)).symm
  rintro σ' H1 ⟨e, rfl, rfl, hrun⟩
  have hge := runE_ge noE t (a + 1)
  have hle2 : runE noE t a ≤ t.length := runE_le (by omega)
  rw [← hst, ← hrun] at hge
  rw [← hrun] at ek hle2
  refine ⟨_, rfl, _, rfl, _, rfl, _, rfl, _, rfl, S t, rfl, hz, rfl, _, rfl, ?_⟩
  rw [cut_wrd (by omega) hle2, wdE q_sh]
  have push : ∀ (z : Str) (n : Nat), tokA t a c = (z, n) → ∀ p, H1 p = none → LT H B t (tokA t a c).2 (upd (upd H1 p (.tup [.str z, .int (a : Nat), .int (n : Nat)])) B (.lst (vs ++ [.ref p]))) := fun z n ez p np => by
    have k2 := same_upd (o := .tup [.str z, .int (a : Nat), .int (n : Nat)]) np
    exact LT.push nB (same_trans sm k2) (k2 _ _ hB) (dv.tk (same_tk k2)) hks (by rw [ez]; exact upd_same)
  by_cases hsh : wrd t a e = [35]
  · rw [decide_eq_true hsh]
    refine iteT ⟨_, rfl, _, rfl, _, rfl, _, rfl, _, _, rfl, rfl, _, rfl, S t, rfl, hz, rfl, _, rfl, ?_⟩
    rw [cut_one hle2, wdE q_ap]
    by_cases hap : t[e]? = some 39
    · rw [decide_eq_true (take1.mpr hap)]
      rw [if_pos ⟨hsh, hap⟩] at ek
      rw [ek] at J hks
      refine iteT ⟨_, rfl, _, _, rfl, rfl, ?_⟩
      dsimp only [gName]
      refine ⟨_, rfl, .inl ⟨rfl, _, SqL.of hB⟩, _, rfl, _, rfl, by show 3 ≤ sizeLine; decide, fun p np => ?_⟩
      have k2 := same_upd (o := .tup [.str "sign", .int (a : Nat), .int ((e + 1 : Nat))]) np
      refine ⟨B, vs, _, rfl, rfl, k2 _ _ hB, by show _ < 2 ^ 24; omega, ?_⟩
      exact J _ _ ⟨_, _, _, rfl, LT.push nB (same_trans sm k2) (k2 _ _ hB) (dv.tk (same_tk k2)) hks upd_same⟩
    rw [decide_eq_false (fun z => hap (take1.mp z))]
    have hno : ¬ (wrd t a e = [35] ∧ t[e]? = some 39) := fun z => hap z.2
    refine iteF ?_
    rw [if_neg hno] at ek
    refine ⟨_, rfl, .inl ⟨rfl, _, SqL.of hB⟩, _, rfl, _, rfl, _, rfl, _, rfl, _, rfl, S t, rfl, hz, ?_⟩
    rw [cut_wrd (by omega) hle2]
    refine ⟨wrd t a e, rfl, ok.wrd _ _, by rw [wrd_len (by omega) hle2]; omega, fun H2 s2 => ⟨_, rfl, _, rfl, by show 3 ≤ sizeLine; decide, fun p np => ?_⟩⟩
    have k2 := same_upd (o := .tup [.str (sortW (wrd t a e)), .int (a : Nat), .int (e : Nat)]) np
    rw [ek] at J hks
    refine ⟨B, vs, _, rfl, rfl, k2 _ _ (s2 _ _ hB), by show _ < 2 ^ 24; omega, ?_⟩
    exact J _ _ ⟨_, _, _, rfl, LT.push nB (same_trans (same_trans sm s2) k2) (k2 _ _ (s2 _ _ hB)) (dv.tk (same_tk (same_trans s2 k2))) hks upd_same⟩
  rw [decide_eq_false hsh]
  have hno : ¬ (wrd t a e = [35] ∧ t[e]? = some 39) := fun z => hsh z.1
  refine iteF (iteF ?_)
  rw [if_neg hno] at ek
  refine ⟨_, rfl, .inl ⟨rfl, _, SqL.of hB⟩, _, rfl, _, rfl, _, rfl, _, rfl, _, rfl, S t, rfl, hz, ?_⟩
  rw [cut_wrd (by omega) hle2]
  refine ⟨wrd t a e, rfl, ok.wrd _ _, by rw [wrd_len (by omega) hle2]; omega, fun H2 s2 => ⟨_, rfl, _, rfl, by show 3 ≤ sizeLine; decide, fun p np => ?_⟩⟩
  have k2 := same_upd (o := .tup [.str (sortW (wrd t a e)), .int (a : Nat), .int (e : Nat)]) np
  rw [ek] at J hks
  refine ⟨B, vs, _, rfl, rfl, k2 _ _ (s2 _ _ hB), by show _ < 2 ^ 24; omega, ?_⟩
  exact J _ _ ⟨_, _, _, rfl, LT.push nB (same_trans (same_trans sm s2) k2) (k2 _ _ (s2 _ _ hB)) (dv.tk (same_tk (same_trans s2 k2))) hks upd_same⟩
/-! the law's own value of a token -/
def valD (s : Str) (w : T) : PyData :=
  if s = "string" then .tuple [.str "text", .str (S (wrd w 1 (w.length - 1)))] else if s = "number" then .tuple [.str "number", .int (intW w)]
  else if s = "flag" then .tuple [.str "flag", .bool (decide (w = [35, 116]))] else if s = "name" then .tuple [.str "name", .str (S w)] else .tuple [.str s, .none]
def spLVal : Sp := fun vs H Q _ => ∃ (s : Str) (w : T), vs = [.str s, .str (S w)] ∧ Ok w ∧ (s = "number" → isNum w = true) ∧ (s = "string" → 2 ≤ w.length) ∧ ∀ r H' ys, Same H H' → H' r = some (.tup ys) → (∃ ds, valD s w = .tuple ds ∧ DtAll H' ys ds) → Q (.ref r) H'
theorem ok_lval {f : Addr} {fd : FuncData} (F : Dfn K mg "_law_value" st__law_value f fd ["sort", "word"]) (M : Mg mg) : Cal P w K mg base 1 "_law_value" spLVal := by
  refine cal_mk F sc_law_value (fun vs H Q E h => ?_) (fun cdv A outer s H vs Q E hr h => ?_)
  · obtain ⟨s, w, rfl, _⟩ := h
    rfl
  obtain ⟨s, w, rfl, ok, hnum, hstr, q⟩ := h
  refine ⟨_, (pss_cons (ps_if (pt_cmpR op_eq (pv 0) pe_str (nomark _)) (pss_one (ps_ret (pe_tup (pa_cons pe_str (pa_cons (pe_slice sl_str (pv 1) (po_some pe_int) (po_some (pe_op op_sub (pe_callB call_len_str (by rfl) M.len b_len (pa_cons (pv 1) pa_nil)) pe_int))) pa_nil))))) pss_nil)
      (pss_cons (ps_if (pt_cmpR op_eq (pv 0) pe_str (nomark _)) (pss_one (ps_ret (pe_tup (pa_cons pe_str (pa_cons (pe_callTy call_int_str (by rfl) M.int b_int (pa_cons (pv 1) pa_nil)) pa_nil))))) pss_nil)
      (pss_cons (ps_if (pt_cmpR op_eq (pv 0) pe_str (nomark _)) (pss_one (ps_ret (pe_tup (pa_cons pe_str (pa_cons (pe_cmpR op_eq (pv 1) pe_str (nomark _)) pa_nil))))) pss_nil)
      (pss_one (ps_ret (pe_ifExp (pt_cmpR op_eq (pv 0) pe_str (nomark _)) (pe_tup (pa_cons pe_str (pa_cons (pv 1) pa_nil))) (pe_tup (pa_cons (pv 0) (pa_cons pe_non pa_nil))))))))), ?_⟩
  refine ⟨_, rfl, rfl, _, rfl, ?_⟩
  rw [strE]
  unfold valD at q
  by_cases h3 : s = "string"
  · rw [decide_eq_true h3]
    rw [if_pos h3] at q
    have := hstr h3
    refine iteT ⟨_, rfl, _, rfl, _, rfl, S w, rfl, ok.z, _, _, rfl, rfl, _, rfl, S w, rfl, ok.z, ?_⟩
    rw [len_S, show ((w.length : Int) - 1) = ((w.length - 1 : Nat) : Int) by omega]
    rw [show cutS (S w) (some 1) (some ((w.length - 1 : Nat) : Int)) = S (wrd w 1 (w.length - 1)) from cut_wrd (a := 1) (by omega) (by omega)]
    exact ⟨by show 2 ≤ sizeLine; decide, fun r nr => q r _ _ (same_upd nr) upd_same ⟨_, rfl, .cons (.str _) (.cons (.str _) .nil)⟩⟩
  rw [decide_eq_false h3]
  rw [if_neg h3] at q
  refine iteF ?_
  dsimp only [tNext]
  refine ⟨_, rfl, rfl, _, rfl, ?_⟩
  rw [strE]
  by_cases h1 : s = "number"
  · rw [decide_eq_true h1]
    rw [if_pos h1] at q
    obtain ⟨hi, hl⟩ := num_int (hnum h1)
    exact iteT ⟨_, rfl, S w, _, rfl, hi, by rw [len_S]; omega, by show 2 ≤ sizeLine; decide, fun r nr => q r _ _ (same_upd nr) upd_same ⟨_, rfl, .cons (.str _) (.cons (.int _) .nil)⟩⟩
  rw [decide_eq_false h1]
  rw [if_neg h1] at q
  refine iteF ?_
  dsimp only [tNext]
  refine ⟨_, rfl, rfl, _, rfl, ?_⟩
  rw [strE]
  by_cases h2 : s = "flag"
  · rw [decide_eq_true h2]
    rw [if_pos h2] at q
    refine iteT ⟨_, rfl, rfl, ?_⟩
    rw [wdE q_t]
    exact ⟨by show 2 ≤ sizeLine; decide, fun r nr => q r _ _ (same_upd nr) upd_same ⟨_, rfl, .cons (.str _) (.cons (.bl _) .nil)⟩⟩
  rw [decide_eq_false h2]
  rw [if_neg h2] at q
  refine iteF ?_
  dsimp only [tNext]
  refine ⟨_, rfl, rfl, _, rfl, ?_⟩
  rw [strE]
  by_cases h4 : s = "name"
  · rw [decide_eq_true h4]
    rw [if_pos h4] at q
    exact iteT ⟨_, rfl, by show 2 ≤ sizeLine; decide, fun r nr => q r _ _ (same_upd nr) upd_same ⟨_, rfl, .cons (.str _) (.cons (.str _) .nil)⟩⟩
  rw [decide_eq_false h4]
  rw [if_neg h4] at q
  exact iteF ⟨_, rfl, by show 2 ≤ sizeLine; decide, fun r nr => q r _ _ (same_upd nr) upd_same ⟨_, rfl, .cons (.str _) (.cons .non .nil)⟩⟩
end
end W4
set_option Elab.async false
set_option linter.all false
set_option maxRecDepth 100000
set_option maxHeartbeats 4000000
namespace W4
open PySem PySem.Spec PyProof.Rows L2 Com SX GxR
theorem unit1 {k : Nat} {A : Around} (r : Room k A) : A.units + 1 < cLine := by have := r.un; omega
/-! the law's reading -/
def finM (t : T) (cf : Cf) (ks : List Tok) : Except Nat (List PyData × List Nat) := match runM t cf ks with
  | .error b => .error b
  | .ok c => match c.st with
    | [] => .ok (c.fm, c.ss)
    | _ :: _ => .error t.length
theorem finM_cons {t : T} {cf : Cf} {k : Tok} {ks : List Tok} : finM t cf (k :: ks) = match step t cf k with
    | .error b => .error b
    | .ok cf' => finM t cf' ks := by
  unfold finM
  rw [runM_cons]
  cases step t cf k with
  | error b => rfl
  | ok cf' => rfl
theorem finM_nil {t : T} {st : List Fr} {fm : List PyData} {ss : List Nat} (h : st ≠ []) : finM t ⟨st, fm, ss⟩ [] = .error t.length := by
  cases st with
  | nil => exact absurd rfl h
  | cons f r => rfl
theorem finM_err {t : T} {cf : Cf} {k : Tok} {ks : List Tok} {b : Nat} (h : step t cf k = .error b) : finM t cf (k :: ks) = .error b := by rw [finM_cons, h]
theorem finM_ok {t : T} {cf cf' : Cf} {k : Tok} {ks : List Tok} (h : step t cf k = .ok cf') : finM t cf (k :: ks) = finM t cf' ks := by rw [finM_cons, h]
theorem readM_fin (t : T) : readM t = if 6000 < t.length then .error 6000 else finM t ⟨[], [], []⟩ (toksF t 0) := by
  unfold readM finM
  rfl
def kBad : Key := .inr "bad"
def kAt : Key := .inr "at"
def kPl : Key := .inr "place"
def kSs : Key := .inr "starts"
theorem kn1 : ¬ kBad = kAt := by decide +kernel
theorem kn2 : ¬ kBad = kPl := by decide +kernel
theorem kn3 : ¬ kBad = kSs := by decide +kernel
theorem kn4 : ¬ kAt = kPl := by decide +kernel
theorem kn5 : ¬ kAt = kSs := by decide +kernel
theorem kn6 : ¬ kPl = kSs := by decide +kernel
def stK (bad : Int) (i pl : Nat) (ls : Addr) : List (Key × V) := [(kBad, .int bad), (kAt, .int (i : Nat)), (kPl, .int (pl : Nat)), (kSs, .ref ls)]
section
variable {bad bad' : Int} {i pl i' pl' : Nat} {ls : Addr}
theorem gBad : valV (stK bad i pl ls) kBad = some (.int bad) := valV_pos rfl
theorem gAt : valV (stK bad i pl ls) kAt = some (.int (i : Nat)) := (valV_neg kn1).trans (valV_pos rfl)
theorem gPl : valV (stK bad i pl ls) kPl = some (.int (pl : Nat)) := (valV_neg kn2).trans ((valV_neg kn4).trans (valV_pos rfl))
theorem gSs : valV (stK bad i pl ls) kSs = some (.ref ls) := (valV_neg kn3).trans ((valV_neg kn5).trans ((valV_neg kn6).trans (valV_pos rfl)))
theorem pBad : putK (stK bad i pl ls) kBad (.int bad') = stK bad' i pl ls := by
  unfold putK stK
  simp [kn1, kn2, kn3, Ne.symm kn1, Ne.symm kn2, Ne.symm kn3]
theorem pAt : putK (stK bad i pl ls) kAt (.int (i' : Nat)) = stK bad i' pl ls := by
  unfold putK stK
  simp [kn1, kn4, kn5, Ne.symm kn4, Ne.symm kn5]
theorem pPl : putK (stK bad i pl ls) kPl (.int (pl' : Nat)) = stK bad i pl' ls := by
  unfold putK stK
  simp [kn2, kn4, kn6, Ne.symm kn6]
end
structure LS (sd ls it : Addr) (ks : List Tok) (H : Hp) (bad : Int) (i pl : Nat) (ss : List Nat) : Prop where
  hsd : H sd = some (.dK (stK bad i pl ls))
  hls : H ls = some (.lst (ss.map fun n => V.int (n : Nat)))
  hit : ∃ ys, H it = some (.lst ys) ∧ DtAll H ys (ks.map tokD)
  hne : it ≠ ls
def KL (sd ls : Addr) (H H' : Hp) : Prop := ∀ b o, b ≠ sd → b ≠ ls → H b = some o → H' b = some o
section
variable {sd ls it : Addr} {ks : List Tok} {H H0 H1 H' : Hp} {bad bad' : Int} {i pl i' pl' : Nat} {ss ss' : List Nat}
theorem KL.refl : KL sd ls H H := fun _ _ _ _ h => h
theorem KL.trans (a : KL sd ls H0 H) (b : KL sd ls H H') : KL sd ls H0 H' := fun c o n1 n2 h => b c o n1 n2 (a c o n1 n2 h)
theorem KL.same (a : KL sd ls H0 H) (b : Same H H') : KL sd ls H0 H' := fun c o n1 n2 h => b c o (a c o n1 n2 h)
theorem KL.atS {o : HO} (a : KL sd ls H0 H) : KL sd ls H0 (upd H sd o) := fun c u n1 n2 h => by rw [upd_ne n1]; exact a c u n1 n2 h
theorem KL.atL {o : HO} (a : KL sd ls H0 H) : KL sd ls H0 (upd H ls o) := fun c u n1 n2 h => by rw [upd_ne n2]; exact a c u n1 n2 h
theorem KL.other {q : Addr} {o : HO} (a : KL sd ls H0 H) (hq : H0 q = none) : KL sd ls H0 (upd H q o) := fun c u n1 n2 h => by
  rw [upd_ne (fun z => by rw [z, hq] at h; cases h)]
  exact a c u n1 n2 h
theorem LS.tkl (h : LS sd ls it ks H bad i pl ss) (k : KL sd ls H H') : Tk H H' := fun b xs e => k b _ (fun z => by rw [z, h.hsd] at e; cases e) (fun z => by rw [z, h.hls] at e; cases e) e
theorem LS.same (h : LS sd ls it ks H bad i pl ss) (k : Same H H') : LS sd ls it ks H' bad i pl ss := by
  obtain ⟨ys, e, d⟩ := h.hit
  exact ⟨k _ _ h.hsd, k _ _ h.hls, ⟨ys, k _ _ e, d.tk (same_tk k)⟩, h.hne⟩
theorem LS.upS (h : LS sd ls it ks H bad i pl ss) : LS sd ls it ks (upd H sd (.dK (stK bad' i' pl' ls))) bad' i' pl' ss := by
  obtain ⟨ys, e, d⟩ := h.hit
  have tk : Tk H (upd H sd (.dK (stK bad' i' pl' ls))) := Tk.upd fun xs z => by rw [h.hsd] at z; cases z
  refine ⟨upd_same, ?_, ⟨ys, ?_, d.tk tk⟩, h.hne⟩
  · rw [upd_ne (fun z => by have := h.hls; rw [z, h.hsd] at this; cases this)]
    exact h.hls
  · rw [upd_ne (fun z => by rw [z, h.hsd] at e; cases e)]
    exact e
theorem LS.upL (h : LS sd ls it ks H bad i pl ss) : LS sd ls it ks (upd H ls (.lst (ss'.map fun n => V.int (n : Nat)))) bad i pl ss' := by
  obtain ⟨ys, e, d⟩ := h.hit
  have tk : Tk H (upd H ls (.lst (ss'.map fun n => V.int (n : Nat)))) := Tk.upd fun xs z => by rw [h.hls] at z; cases z
  refine ⟨?_, upd_same, ⟨ys, ?_, d.tk tk⟩, h.hne⟩
  · rw [upd_ne (fun z => by have := h.hsd; rw [z, h.hls] at this; cases this)]
    exact h.hsd
  · rw [upd_ne h.hne]
    exact e
theorem LS.other {q : Addr} {xs ys : List V} (h : LS sd ls it ks H bad i pl ss) (hq : H q = some (.lst xs)) (n1 : q ≠ ls) (n2 : q ≠ it) : LS sd ls it ks (upd H q (.lst ys)) bad i pl ss := by
  obtain ⟨zs, e, d⟩ := h.hit
  have tk : Tk H (upd H q (.lst ys)) := Tk.upd fun xs z => by rw [hq] at z; cases z
  refine ⟨?_, ?_, ⟨zs, ?_, d.tk tk⟩, h.hne⟩
  · rw [upd_ne (fun z => by have := h.hsd; rw [z, hq] at this; cases this)]
    exact h.hsd
  · rw [upd_ne (Ne.symm n1)]
    exact h.hls
  · rw [upd_ne (Ne.symm n2)]
    exact e
theorem LS.gBad (h : LS sd ls it ks H bad i pl ss) : DGet H sd (.str "bad") (some (.int bad)) := by rw [← W4.gBad (bad := bad) (i := i) (pl := pl) (ls := ls)]; exact DGet.k (k := kBad) h.hsd
theorem LS.gAt (h : LS sd ls it ks H bad i pl ss) : DGet H sd (.str "at") (some (.int (i : Nat))) := by rw [← W4.gAt (bad := bad) (i := i) (pl := pl) (ls := ls)]; exact DGet.k (k := kAt) h.hsd
theorem LS.gPl (h : LS sd ls it ks H bad i pl ss) : DGet H sd (.str "place") (some (.int (pl : Nat))) := by rw [← W4.gPl (bad := bad) (i := i) (pl := pl) (ls := ls)]; exact DGet.k (k := kPl) h.hsd
theorem LS.gSs (h : LS sd ls it ks H bad i pl ss) : DGet H sd (.str "starts") (some (.ref ls)) := by rw [← W4.gSs (bad := bad) (i := i) (pl := pl) (ls := ls)]; exact DGet.k (k := kSs) h.hsd
theorem st4 : (stK bad i pl ls).length < sizeLine := by show 4 < 2 ^ 24; decide
theorem LS.pBad (h : LS sd ls it ks H bad i pl ss) : DPut H sd (.str "bad") (.int bad') (upd H sd (.dK (stK bad' i pl ls))) := by rw [← W4.pBad (bad := bad)]; exact DPut.k (k := kBad) h.hsd st4
theorem LS.pAt (h : LS sd ls it ks H bad i pl ss) : DPut H sd (.str "at") (.int (i' : Nat)) (upd H sd (.dK (stK bad i' pl ls))) := by rw [← W4.pAt (i := i)]; exact DPut.k (k := kAt) h.hsd st4
theorem LS.pPl (h : LS sd ls it ks H bad i pl ss) : DPut H sd (.str "place") (.int (pl' : Nat)) (upd H sd (.dK (stK bad i pl' ls))) := by rw [← W4.pPl (pl := pl)]; exact DPut.k (k := kPl) h.hsd st4
end
theorem val_atom {s : Str} {w : T} {ds : List PyData} {pl : Nat} (h : valD s w = .tuple ds) : atomD s w pl = .tuple (ds ++ [.int (pl : Nat)]) ∧ ds.length = 2 := by
  unfold valD at h
  unfold atomD
  by_cases h3 : s = "string"
  · rw [if_pos h3] at h
    rw [if_neg (by rw [h3]; decide +kernel), if_neg (by rw [h3]; decide +kernel), if_pos h3]
    obtain rfl := PyData.tuple.inj h
    exact ⟨rfl, rfl⟩
  rw [if_neg h3] at h
  by_cases h1 : s = "number"
  · rw [if_pos h1] at h
    rw [if_pos h1]
    obtain rfl := PyData.tuple.inj h
    exact ⟨rfl, rfl⟩
  rw [if_neg h1] at h
  rw [if_neg h1]
  by_cases h2 : s = "flag"
  · rw [if_pos h2] at h
    rw [if_pos h2]
    obtain rfl := PyData.tuple.inj h
    exact ⟨rfl, rfl⟩
  rw [if_neg h2] at h
  rw [if_neg h2, if_neg h3]
  by_cases h4 : s = "name"
  · rw [if_pos h4] at h
    rw [if_pos h4]
    obtain rfl := PyData.tuple.inj h
    exact ⟨rfl, rfl⟩
  rw [if_neg h4] at h
  rw [if_neg h4]
  obtain rfl := PyData.tuple.inj h
  exact ⟨rfl, rfl⟩
section
variable {P : Program} {w : World} {K : PySem.W.Frag} {mg : Str → Option Value} {base : Heap}
def spDat (n : Nat) : Sp := fun vs H Q _ => ∃ (t : T) (sd ls it : Addr) (ks : List Tok) (i : Nat) (ss : List Nat) (st : List Fr) (fm : List PyData), vs = [.str (S t), .ref it, .ref sd, .int (st.length : Nat)] ∧ Ok t ∧ ks.length ≤ 1000000 ∧ (∀ k ∈ ks, TokOk t k) ∧ LS sd ls it ks H (-1) i ss.length ss ∧ i ≤ ks.length ∧ ss.length ≤ 2 * i ∧ st.length ≤ 60 ∧ 60 < st.length + n ∧
  (i < ks.length ∨ st ≠ []) ∧ (∀ k f r, ks[i]? = some k → wrd t k.2.1 k.2.2 = [41] → st = f :: r → f.sg ≠ [40]) ∧
  (∀ v D j ss' H', KL sd ls H H' → LS sd ls it ks H' (-1) j ss'.length ss' → Dt H' v D → i < j → j ≤ ks.length → ss'.length ≤ 2 * j → finM t ⟨st, fm, ss⟩ (ks.drop i) = finM t (put st fm ss' D) (ks.drop j) → Q v H') ∧
  (∀ v (b : Nat) j pl ss' H', KL sd ls H H' → LS sd ls it ks H' (b : Int) j pl ss' → finM t ⟨st, fm, ss⟩ (ks.drop i) = .error b → Q v H')
theorem ok_dat {f : Addr} {fd : FuncData} {n k : Nat} (hk : 1 ≤ k) (F : Dfn K mg "_law_datum" st__law_datum f fd ["text", "items", "state", "depth"]) (M : Mg mg) (G_law_value : Cal P w K mg base 1 "_law_value" spLVal) (G_law_datum : Cal P w K mg base k "_law_datum" (spDat n)) : Cal P w K mg base (k + 1) "_law_datum" (spDat (n + 1)) := by
  refine cal_mk F sc_law_datum (fun vs H Q E h => ?_) (fun cdv A outer s H vs Q E hr h => ?_)
  · obtain ⟨t, sd, ls, it, ks, i, ss, st, fm, rfl, _⟩ := h
    rfl
  obtain ⟨t, sd, ls, it, ks, i, ss, st, fm, rfl, ok, hkl, tok, h, hik, hss, hst, hn, hne, htop, q1, q2⟩ := h
  have hu := unit1 hr
  have hz := ok.z
  refine ⟨_, (pss_cons (ps_if (pt_cmpR op_ge (pe_dget hu (pv 2) pe_str (fun _ _ => rfl)) pe_int (nomark _)) (pss_one (ps_ret pe_non)) pss_nil)
      (pss_cons (ps_if (pt_cmpR op_eq (pe_dget hu (pv 2) pe_str (fun _ _ => rfl)) (pe_callB (cLen K rfl) (by rfl) M.len b_len (pa_cons (pv 1) pa_nil)) (nomark _)) (pss_cons (ps_dput hu (pv 2) pe_str (pe_callB call_len_str (by rfl) M.len b_len (pa_cons (pv 0) pa_nil)) rfl)
      (pss_one (ps_ret pe_non))) pss_nil)
      (pss_cons (ps_asg (pe_ix (ixL K rfl) (pv 1) (pe_dget hu (pv 2) pe_str (fun _ _ => rfl)) (fun _ _ => rfl)) (pg_tup rfl (pgs_cons (pg_name (i := 4) sc_law_datum.nd rfl (.inl rfl)) (pgs_cons (pg_name (i := 5) sc_law_datum.nd rfl (.inl rfl)) (pgs_cons (pg_name (i := 6) sc_law_datum.nd rfl (.inl rfl)) pgs_nil)))))
      (pss_cons (ps_set (i := 7) sc_law_datum.nd rfl (.inl rfl) (pe_slice sl_str (pv 0) (po_some (pv 5)) (po_some (pv 6))))
      (pss_cons (ps_dput hu (pv 2) pe_str (pe_op op_add (pe_dget hu (pv 2) pe_str (fun _ _ => rfl)) pe_int) rfl)
      (pss_cons (ps_if (PW.pt (pw_or (pt_cmpR op_eq (pv 4) pe_str (nomark _)) (pw_or (pt_cmpR op_eq (pv 7) pe_str (nomark _)) (pw_or1 (PW.pt (pw_and (pt_cmpR op_eq (pv 4) pe_str (nomark _)) (pw_and1 (pt_cmpR op_eq (pv 3) pe_int (nomark _))))))))) (pss_cons (ps_dput hu (pv 2) pe_str (pv 5) rfl)
      (pss_one (ps_ret pe_non))) pss_nil)
      (pss_cons (ps_set (i := 8) sc_law_datum.nd rfl (.inl rfl) (pe_dget hu (pv 2) pe_str (fun _ _ => rfl)))
      (pss_cons (ps_dput hu (pv 2) pe_str (pe_op op_add (pv 8) pe_int) rfl)
      (pss_cons (ps_expr (pe_bm PySem.F.plainAttrs_list PySem.F.slot_list_append PySem.F.type_list_append mt_append (pe_dget hu (pv 2) pe_str (fun _ _ => rfl)) (pa_cons (pv 5) pa_nil)))
      (pss_cons (ps_if (pt_cmpR op_ne (pv 4) pe_str (nomark _)) (pss_one (ps_ret (pe_op (opCatT K rfl) (pe_c G_law_value hr (by omega) (by rfl) (pa_cons (pv 4) (pa_cons (pv 7) pa_nil))) (pe_tup (pa_cons (pv 8) pa_nil))))) pss_nil)
      (pss_cons (ps_set (i := 9) sc_law_datum.nd rfl (.inl rfl) (pe_lst pa_nil))
      (pss_cons (ps_if (pt_cmpR op_ne (pv 7) pe_str (nomark _)) (pss_cons (ps_expr (pe_bm PySem.F.plainAttrs_list PySem.F.slot_list_append PySem.F.type_list_append mt_append (pe_dget hu (pv 2) pe_str (fun _ _ => rfl)) (pa_cons (pv 5) pa_nil)))
      (pss_cons (ps_dput hu (pv 2) pe_str (pe_op op_add (pv 8) pe_int) rfl)
      (pss_cons (ps_expr (pe_bm PySem.F.plainAttrs_list PySem.F.slot_list_append PySem.F.type_list_append mt_append (pv 9) (pa_cons (pe_tup (pa_cons pe_str (pa_cons (pe_ifExp (pt_cmpR op_eq (pv 7) pe_str (nomark _)) pe_str pe_str) (pa_cons (pe_op op_add (pv 8) pe_int) pa_nil)))) pa_nil)))
      (pss_cons (ps_expr (pe_bm PySem.F.plainAttrs_list PySem.F.slot_list_append PySem.F.type_list_append mt_append (pv 9) (pa_cons (pe_c G_law_datum hr (by omega) (by rfl) (pa_cons (pv 0) (pa_cons (pv 1) (pa_cons (pv 2) (pa_cons (pe_op op_add (pv 3) pe_int) pa_nil))))) pa_nil)))
      (pss_one (ps_ret (pe_tup (pa_cons pe_str (pa_cons (pe_callTy (cTup K rfl) (by rfl) M.tuple b_tuple (pa_cons (pv 9) pa_nil)) (pa_cons (pv 8) pa_nil)))))))))) pss_nil)
      (pss_cons (ps_while PassesOwn.never (pt_cmpR op_lt (pe_dget hu (pv 2) pe_str (fun _ _ => rfl)) pe_int (nomark _))
      (pss_cons (ps_if (PW.pt (pw_and (pt_cmpR op_lt (pe_dget hu (pv 2) pe_str (fun _ _ => rfl)) (pe_callB (cLen K rfl) (by rfl) M.len b_len (pa_cons (pv 1) pa_nil)) (nomark _)) (pw_and1 (pt_cmpR op_eq (pe_slice sl_str (pv 0) (po_some (pe_ix (ixT K rfl) (pe_ix (ixL K rfl) (pv 1) (pe_dget hu (pv 2) pe_str (fun _ _ => rfl)) (fun _ _ => rfl)) pe_int (fun _ _ => rfl))) (po_some (pe_ix (ixT K rfl) (pe_ix (ixL K rfl) (pv 1) (pe_dget hu (pv 2) pe_str (fun _ _ => rfl)) (fun _ _ => rfl)) pe_int (fun _ _ => rfl)))) pe_str (nomark _))))) (pss_cons (ps_dput hu (pv 2) pe_str (pe_op op_add (pe_dget hu (pv 2) pe_str (fun _ _ => rfl)) pe_int) rfl)
      (pss_one (ps_ret (pe_tup (pa_cons pe_str (pa_cons (pe_callTy (cTup K rfl) (by rfl) M.tuple b_tuple (pa_cons (pv 9) pa_nil)) (pa_cons (pv 8) pa_nil))))))) pss_nil)
      (pss_one (ps_expr (pe_bm PySem.F.plainAttrs_list PySem.F.slot_list_append PySem.F.type_list_append mt_append (pv 9) (pa_cons (pe_c G_law_datum hr (by omega) (by rfl) (pa_cons (pv 0) (pa_cons (pv 1) (pa_cons (pv 2) (pa_cons (pe_op op_add (pv 3) pe_int) pa_nil))))) pa_nil))))))
      (pss_one (ps_ret pe_non))))))))))))))), ?_⟩
  refine ⟨_, rfl, sd, _, rfl, h.gBad, _, _, rfl, rfl, _, rfl, ?_⟩
  rw [decide_eq_false (show ¬ (0 : Int) ≤ -1 by decide)]
  refine iteF ?_
  dsimp only [tNext]
  obtain ⟨ys, hit, dv⟩ := h.hit
  have hyl := dv.len
  rw [List.length_map] at hyl
  refine ⟨_, rfl, sd, _, rfl, h.gAt, _, rfl, it, _, rfl, .inl (SqL.of hit), rfl, _, rfl, ?_⟩
  rw [hyl]
  by_cases hlast : i = ks.length
  · rw [decide_eq_true (show V.int ((i : Nat) : Int) = V.int ((ks.length : Nat) : Int) by rw [hlast])]
    refine iteT ⟨_, rfl, S t, rfl, hz, _, rfl, sd, _, rfl, h.pBad, ?_⟩
    rw [len_S]
    refine q2 _ t.length _ _ _ _ KL.refl.atS h.upS ?_
    rw [List.drop_of_length_le (by omega)]
    exact finM_nil (hne.resolve_left (by omega))
  rw [decide_eq_false (show ¬ V.int ((i : Nat) : Int) = V.int ((ks.length : Nat) : Int) from fun z => hlast (by have := V.int.inj z; omega))]
  refine iteF ?_
  dsimp only [tNext]
  have hlt : i < ks.length := by omega
  have hki := List.getElem?_eq_getElem hlt
  obtain ⟨kk, hkk⟩ : ∃ kk, kk = ks[i] := ⟨_, rfl⟩
  rw [← hkk] at hki
  have tk := tok kk (List.mem_of_getElem? hki)
  have hdrop : ks.drop i = kk :: ks.drop (i + 1) := by rw [List.drop_eq_getElem_cons hlt, ← hkk]
  have hyi : i < ys.length := by omega
  obtain ⟨kk', hkk', dk⟩ := dv.get_map (List.getElem?_eq_getElem hyi)
  rw [hki] at hkk'
  obtain rfl := Option.some.inj hkk'
  obtain ⟨p, hyp, hp⟩ := tok_of dk
  refine ⟨_, rfl, _, rfl, sd, _, rfl, h.gAt, ixl hit (atI_nat (List.getElem?_eq_getElem hyi)) ?_⟩
  rw [hyp]
  refine ⟨p, _, rfl, SqT.of hp, rfl, ?_⟩
  dsimp only [gCons, gName, gNil]
  refine ⟨_, _, rfl, _, _, rfl, _, _, rfl, rfl, ?_⟩
  have hle := tk.le
  refine ⟨_, rfl, _, rfl, _, rfl, _, rfl, _, rfl, S t, rfl, hz, ?_⟩
  rw [cut_wrd (by omega) hle.2]
  dsimp only [gName]
  refine ⟨_, rfl, sd, _, rfl, h.gAt, _, _, rfl, rfl, _, rfl, sd, _, rfl, h.pAt (i' := i + 1), ?_⟩
  have h1 : LS sd ls it ks _ (-1) (i + 1) ss.length ss := h.upS
  have kl1 : KL sd ls H _ := KL.refl.atS (o := .dK (stK (-1) (i + 1) ss.length ls))
  generalize L2.upd H sd (.dK (stK (-1) (i + 1) ss.length ls)) = H1 at h1 kl1 ⊢
  have hbad : step t ⟨st, fm, ss⟩ kk = .error kk.2.1 → ∀ v, Q v (L2.upd H1 sd (.dK (stK (kk.2.1 : Nat) (i + 1) ss.length ls))) := fun hs v => q2 v kk.2.1 _ _ _ _ kl1.atS h1.upS (by rw [hdrop]; exact finM_err hs)
  dsimp only
  refine seq_split (t1 := tIfS _ _ _) (fun σ' H' => σ' = [some (.str (S t)), some (.ref it), some (.ref sd), some (.int (st.length : Nat)), some (.str kk.1), some (.int (kk.2.1 : Nat)), some (.int (kk.2.2 : Nat)), some (.str (S (wrd t kk.2.1 kk.2.2))), none, none] ∧ H' = H1 ∧ ¬ kk.1 = "wrong" ∧ ¬ wrd t kk.2.1 kk.2.2 = [41] ∧ ¬ (kk.1 = "sign" ∧ st.length = 60)) ?_ (fun J => ?_)
  case refine_2 =>
    refine ⟨_, rfl, rfl, _, rfl, ?_⟩
    rw [strE]
    by_cases c1 : kk.1 = "wrong"
    · rw [decide_eq_true c1]
      exact iteT (iteT ⟨_, rfl, _, rfl, sd, _, rfl, h1.pBad, hbad (by unfold step; rw [if_pos c1]) _⟩)
    rw [decide_eq_false c1]
    refine iteF ⟨_, rfl, rfl, _, rfl, ?_⟩
    rw [wdE q_close]
    by_cases c2 : wrd t kk.2.1 kk.2.2 = [41]
    · rw [decide_eq_true c2]
      have hsg : kk.1 = "sign" := Classical.byContradiction fun z => tk.nsg z c2
      refine iteT (iteT ⟨_, rfl, _, rfl, sd, _, rfl, h1.pBad, hbad ?_ _⟩)
      unfold step
      rw [if_neg c1, if_neg (fun z => z hsg), if_pos c2]
      cases st with
      | nil => rfl
      | cons f r =>
        dsimp only
        rw [if_neg (htop kk f r hki c2 rfl)]
    rw [decide_eq_false c2]
    refine iteF ⟨_, rfl, rfl, _, rfl, ?_⟩
    rw [strE]
    by_cases c3 : kk.1 = "sign"
    · rw [decide_eq_true c3]
      refine iteT ⟨_, rfl, rfl, _, rfl, ?_⟩
      by_cases c4 : st.length = 60
      · rw [c4, decide_eq_true (show V.int ((60 : Nat) : Int) = V.int 60 from rfl)]
        refine iteT ⟨_, rfl, _, rfl, sd, _, rfl, h1.pBad, ?_⟩
        refine hbad ?_ _
        unfold step
        rw [if_neg c1, if_neg (fun z => z c3), if_neg c2, if_pos c4]
      · rw [decide_eq_false (show ¬ (V.int (st.length : Int) = V.int 60) from fun z => c4 (by have := V.int.inj z; omega))]
        refine iteF ?_
        dsimp only [tNext]
        exact J _ _ ⟨rfl, rfl, c1, c2, fun z => c4 z.2⟩
    · rw [decide_eq_false c3]
      refine iteF (iteF ?_)
      dsimp only [tNext]
      exact J _ _ ⟨rfl, rfl, c1, c2, fun z => c3 z.1⟩
  rintro σ' H' ⟨rfl, rfl, c1, c2, c34⟩
  refine ⟨_, rfl, sd, _, rfl, h1.gPl, ?_⟩
  dsimp only [gName]
  refine ⟨_, rfl, _, _, rfl, rfl, _, rfl, sd, _, rfl, h1.pPl (pl' := ss.length + 1), ?_⟩
  have h2 : LS sd ls it ks _ (-1) (i + 1) (ss.length + 1) ss := h1.upS
  have kl2 : KL sd ls H _ := kl1.atS (o := .dK (stK (-1) (i + 1) (ss.length + 1) ls))
  generalize L2.upd H' sd (.dK (stK (-1) (i + 1) (ss.length + 1) ls)) = H2 at h2 kl2 ⊢
  refine ⟨_, rfl, sd, _, rfl, h2.gSs, .inl ⟨rfl, _, SqL.of h2.hls⟩, _, rfl, ls, _, _, rfl, rfl, h2.hls, by rw [List.length_map]; show _ < 2 ^ 24; omega, ?_⟩
  have em : ∀ l : List Nat, (l.map fun n => V.int (n : Nat)) ++ [V.int (kk.2.1 : Nat)] = (l ++ [kk.2.1]).map fun n => V.int (n : Nat) := fun l => by rw [List.map_append]; rfl
  rw [em]
  have h3 : LS sd ls it ks _ (-1) (i + 1) (ss.length + 1) (ss ++ [kk.2.1]) := h2.upL
  have kl3 : KL sd ls H _ := kl2.atL (o := .lst ((ss ++ [kk.2.1]).map fun n => V.int (n : Nat)))
  generalize L2.upd H2 ls (.lst ((ss ++ [kk.2.1]).map fun n => V.int (n : Nat))) = H3 at h3 kl3 ⊢
  have hl3 : (ss ++ [kk.2.1]).length = ss.length + 1 := by rw [List.length_append]; rfl
  refine ⟨_, rfl, rfl, _, rfl, ?_⟩
  rw [strE]
  by_cases c3 : kk.1 = "sign"
  case neg =>
    rw [decide_eq_false c3]
    refine iteT ⟨_, rfl, _, rfl, kk.1, wrd t kk.2.1 kk.2.2, rfl, ok.wrd _ _, tk.num, tk.str, fun r H4 xs s4 hr ⟨ds, ed, dd⟩ => ⟨_, rfl, by show 1 ≤ sizeLine; decide, fun p2 np2 => ?_⟩⟩
    have kx : Same H3 (L2.upd H4 p2 (.tup [.int (ss.length : Nat)])) := same_trans s4 (same_upd np2)
    have h5 := h3.same kx
    have kl5 := kl3.same kx
    have hr5 : L2.upd H4 p2 (.tup [.int (ss.length : Nat)]) r = some (.tup xs) := same_upd np2 _ _ hr
    have dd5 := dd.tk (same_tk (same_upd (o := .tup [.int (ss.length : Nat)]) np2))
    have e5 : L2.upd H4 p2 (.tup [.int (ss.length : Nat)]) p2 = some (.tup [.int (ss.length : Nat)]) := upd_same
    generalize L2.upd H4 p2 (.tup [.int (ss.length : Nat)]) = H5 at h5 kl5 hr5 dd5 e5 ⊢
    obtain ⟨ea, el⟩ := val_atom (pl := ss.length) ed
    have hxl := dd5.len
    refine ⟨r, p2, xs, _, rfl, rfl, SqT.of hr5, SqT.of e5, (fun z => by rw [z] at hxl; rw [el] at hxl; cases hxl), by rw [hxl, el]; show 3 ≤ 2 ^ 24; decide, (fun z => by cases z), fun _ p3 np3 => ?_⟩
    have k6 := same_upd (o := .tup (xs ++ [.int (ss.length : Nat)])) np3
    refine q1 (.ref p3) (atomD kk.1 (wrd t kk.2.1 kk.2.2) ss.length) (i + 1) (ss ++ [kk.2.1]) _ (kl5.same k6) (by rw [hl3]; exact h5.same k6) ?_ (by omega) hlt (by rw [hl3]; omega) ?_
    · rw [ea]
      exact .tup upd_same ((dd5.tk (same_tk k6)).app (.one (.int _)))
    · rw [hdrop]
      refine finM_ok ?_
      unfold step
      rw [if_neg c1, if_pos c3]
  rw [decide_eq_true c3]
  refine iteF ?_
  dsimp only [tNext]
  have h60 : ¬ st.length = 60 := fun z => c34 ⟨c3, z⟩
  obtain ⟨wd, hwd⟩ : ∃ wd, wd = wrd t kk.2.1 kk.2.2 := ⟨_, rfl⟩
  have hw : wd = [40] ∨ wd = [39] ∨ wd = [35, 39] := by
    rw [hwd]
    rcases tk.sig c3 with z | z | z | z
    · exact .inl z
    · exact absurd z c2
    · exact .inr (.inl z)
    · exact .inr (.inr z)
  have hstep : step t ⟨st, fm, ss⟩ kk = .ok ⟨⟨wd, ss.length, begDs wd ss.length⟩ :: st, fm, begSs wd ss kk.2.1⟩ := by
    rw [hwd]
    unfold step begDs begSs
    rw [if_neg c1, if_neg (fun z => z c3), if_neg c2, if_neg h60]
    by_cases c4 : wrd t kk.2.1 kk.2.2 = [40]
    · rw [if_pos c4, if_pos c4, if_pos c4, c4]
    · rw [if_neg c4, if_neg c4, if_neg c4]
  rw [← hwd]
  refine ⟨Nat.zero_le _, fun q nq => ?_⟩
  dsimp only [gName]
  have h4 := h3.same (same_upd (o := .lst []) nq)
  have qls : q ≠ ls := fun z => by have := h3.hls; rw [← z, nq] at this; cases this
  have qsd : q ≠ sd := fun z => by have := h3.hsd; rw [← z, nq] at this; cases this
  have qit : q ≠ it := fun z => by obtain ⟨_, this, _⟩ := h3.hit; rw [← z, nq] at this; cases this
  have hq0 : H q = none := by
    cases e : H q with
    | none => rfl
    | some o =>
      rw [kl3 q o qsd qls e] at nq
      cases nq
  have kl4 := kl3.same (same_upd (o := .lst []) nq)
  have e4 := upd_same (H := H3) (a := q) (o := .lst [])
  generalize L2.upd H3 q (.lst []) = H4 at h4 kl4 e4 ⊢
  have fin : ∀ (H9 : Hp) (xs : List V) (ds : List PyData) (j : Nat) (ss' : List Nat), KL sd ls H H9 → LS sd ls it ks H9 (-1) j ss'.length ss' → DtAll H9 xs ds → i < j → j ≤ ks.length → ss'.length ≤ 2 * j → finM t ⟨st, fm, ss⟩ (ks.drop i) = finM t (put st fm ss' (lstD ds ss.length)) (ks.drop j) →
      ∀ l, H9 l = none → ∀ p, L2.upd H9 l (.tup xs) p = none → Q (.ref p) (L2.upd (L2.upd H9 l (.tup xs)) p (.tup [.str "list", .ref l, .int (ss.length : Nat)])) := fun H9 xs ds j ss' kl ls9 d hij hj hs hf l nl p np => by
    have k1 := same_upd (o := .tup xs) nl
    have k2 := same_upd (o := .tup [.str "list", .ref l, .int (ss.length : Nat)]) np
    have k3 := same_trans k1 k2
    refine q1 (.ref p) (lstD ds ss.length) j ss' _ (kl.same k3) (ls9.same k3) (.tup upd_same (.cons (.str _) (.cons (.tup (k2 _ _ upd_same) (d.tk (same_tk k3))) (.cons (.int _) .nil)))) hij hj hs hf
  have finb : ∀ (H9 : Hp) (xs : List V) (b : Nat) (j pl : Nat) (ss' : List Nat), KL sd ls H H9 → LS sd ls it ks H9 (b : Int) j pl ss' → finM t ⟨st, fm, ss⟩ (ks.drop i) = .error b →
      ∀ l, H9 l = none → ∀ p, L2.upd H9 l (.tup xs) p = none → Q (.ref p) (L2.upd (L2.upd H9 l (.tup xs)) p (.tup [.str "list", .ref l, .int (ss.length : Nat)])) := fun H9 xs b j pl ss' kl ls9 hf l nl p np => by
    have k3 := same_trans (same_upd (o := .tup xs) nl) (same_upd (o := .tup [.str "list", .ref l, .int (ss.length : Nat)]) np)
    exact q2 _ b j pl ss' _ (kl.same k3) (ls9.same k3) hf
  refine ⟨_, rfl, rfl, _, rfl, ?_⟩
  rw [wdE q_open]
  by_cases c40 : wd = [40]
  case neg =>
    rw [decide_eq_false c40]
    have hss2 : begSs wd ss kk.2.1 = ss ++ [kk.2.1] ++ [kk.2.1] := by
      unfold begSs
      rw [if_neg c40, List.append_assoc]
      rfl
    have hds2 : begDs wd ss.length = [namD (sgN wd) (ss.length + 1)] := by
      unfold begDs
      rw [if_neg c40]
    rw [hss2, hds2] at hstep
    have hl5 : (ss ++ [kk.2.1] ++ [kk.2.1]).length = ss.length + 2 := by rw [List.length_append, hl3]; rfl
    refine iteT ⟨_, rfl, sd, _, rfl, h4.gSs, .inl ⟨rfl, _, SqL.of h4.hls⟩, _, rfl, ls, _, _, rfl, rfl, h4.hls, by rw [List.length_map, hl3]; show _ < 2 ^ 24; omega, ?_⟩
    rw [em]
    have h5 : LS sd ls it ks _ (-1) (i + 1) (ss.length + 1) (ss ++ [kk.2.1] ++ [kk.2.1]) := h4.upL
    have kl5 : KL sd ls H _ := kl4.atL (o := .lst ((ss ++ [kk.2.1] ++ [kk.2.1]).map fun n => V.int (n : Nat)))
    have e5 : L2.upd H4 ls (.lst ((ss ++ [kk.2.1] ++ [kk.2.1]).map fun n => V.int (n : Nat))) q = some (.lst []) := by rw [upd_ne qls]; exact e4
    generalize L2.upd H4 ls (.lst ((ss ++ [kk.2.1] ++ [kk.2.1]).map fun n => V.int (n : Nat))) = H5 at h5 kl5 e5 ⊢
    dsimp only
    refine ⟨_, rfl, _, _, rfl, rfl, _, rfl, sd, _, rfl, h5.pPl (pl' := ss.length + 2), ?_⟩
    have h6 : LS sd ls it ks _ (-1) (i + 1) (ss.length + 2) (ss ++ [kk.2.1] ++ [kk.2.1]) := h5.upS
    have kl6 : KL sd ls H _ := kl5.atS (o := .dK (stK (-1) (i + 1) (ss.length + 2) ls))
    have e6 : L2.upd H5 sd (.dK (stK (-1) (i + 1) (ss.length + 2) ls)) q = some (.lst []) := by rw [upd_ne qsd]; exact e5
    generalize L2.upd H5 sd (.dK (stK (-1) (i + 1) (ss.length + 2) ls)) = H6 at h6 kl6 e6 ⊢
    dsimp only
    refine seq_split (t1 := tDrop _) (fun σ' H7 => ∃ nm, σ' = [some (.str (S t)), some (.ref it), some (.ref sd), some (.int (st.length : Nat)), some (.str kk.1), some (.int (kk.2.1 : Nat)), some (.int (kk.2.2 : Nat)), some (.str (S wd)), some (.int (ss.length : Nat)), some (.ref q)] ∧ KL sd ls H H7 ∧ LS sd ls it ks H7 (-1) (i + 1) (ss.length + 2) (ss ++ [kk.2.1] ++ [kk.2.1]) ∧ H7 q = some (.lst [.ref nm]) ∧ Dt H7 (.ref nm) (namD (sgN wd) (ss.length + 1))) ?_ (fun J => ?_)
    case refine_2 =>
      have body : ∀ p, H6 p = none → ∀ z : Str, z = sgN wd → KL sd ls H (L2.upd (L2.upd H6 p (.tup [.str "name", .str z, .int ((ss.length + 1 : Nat))])) q (.lst ([] ++ [.ref p]))) ∧ LS sd ls it ks (L2.upd (L2.upd H6 p (.tup [.str "name", .str z, .int ((ss.length + 1 : Nat))])) q (.lst ([] ++ [.ref p]))) (-1) (i + 1) (ss.length + 2) (ss ++ [kk.2.1] ++ [kk.2.1]) ∧ Dt (L2.upd (L2.upd H6 p (.tup [.str "name", .str z, .int ((ss.length + 1 : Nat))])) q (.lst ([] ++ [.ref p]))) (.ref p) (namD (sgN wd) (ss.length + 1)) := fun p np z ez => by
        have k7 := same_upd (o := .tup [.str "name", .str z, .int ((ss.length + 1 : Nat))]) np
        have e7 := k7 _ _ e6
        refine ⟨(kl6.same k7).other hq0, (h6.same k7).other e7 qls qit, ?_⟩
        have hpq : p ≠ q := fun y => by rw [y, e6] at np; cases np
        rw [← ez]
        exact .tup (by rw [upd_ne hpq, upd_same]) (.cons (.str _) (.cons (.str _) (.cons (.int _) .nil)))
      refine ⟨_, rfl, .inl ⟨rfl, _, SqL.of e6⟩, _, rfl, rfl, _, rfl, ?_⟩
      rw [wdE q_ap]
      by_cases c39 : wd = [39]
      · rw [decide_eq_true c39]
        refine iteT ⟨_, rfl, _, _, rfl, rfl, by show 3 ≤ sizeLine; decide, fun p np => ?_⟩
        have := body p np "quote" (by unfold sgN; rw [if_pos c39])
        refine ⟨q, _, _, rfl, rfl, same_upd np _ _ e6, by show 0 < 2 ^ 24; decide, ?_⟩
        exact J _ _ ⟨p, rfl, this.1, this.2.1, upd_same, this.2.2⟩
      · rw [decide_eq_false c39]
        refine iteF ⟨_, rfl, _, _, rfl, rfl, by show 3 ≤ sizeLine; decide, fun p np => ?_⟩
        have := body p np "syntax" (by unfold sgN; rw [if_neg c39])
        refine ⟨q, _, _, rfl, rfl, same_upd np _ _ e6, by show 0 < 2 ^ 24; decide, ?_⟩
        exact J _ _ ⟨p, rfl, this.1, this.2.1, upd_same, this.2.2⟩
    rintro σ' H7 ⟨nm, rfl, kl7, h7, e7, d7⟩
    rw [← hl5] at h7
    have hfin0 : finM t ⟨st, fm, ss⟩ (ks.drop i) = finM t ⟨⟨wd, ss.length, [namD (sgN wd) (ss.length + 1)]⟩ :: st, fm, ss ++ [kk.2.1] ++ [kk.2.1]⟩ (ks.drop (i + 1)) := by
      rw [hdrop]
      exact finM_ok hstep
    refine ⟨_, rfl, .inl ⟨rfl, _, SqL.of e7⟩, _, rfl, _, rfl, _, rfl, _, rfl, _, _, rfl, rfl, ?_⟩
    refine ⟨t, sd, ls, it, ks, i + 1, ss ++ [kk.2.1] ++ [kk.2.1], ⟨wd, ss.length, [namD (sgN wd) (ss.length + 1)]⟩ :: st, fm, rfl, ok, hkl, tok, h7, hlt, by omega, by rw [List.length_cons]; omega, by rw [List.length_cons]; omega, .inr (fun z => by cases z), fun _ f r _ _ z => ?_, fun v D j ss' H8 kl8 h8 d8 hij hj hs8 hf8 => ?_, fun v b j pl ss' H8 kl8 h8 hf8 => ?_⟩
    · obtain ⟨rfl, _⟩ := List.cons.inj z
      exact c40
    · have e8 := kl8 q _ qsd qls e7
      have d8' := d7.tk (h7.tkl kl8)
      refine ⟨q, _, _, rfl, rfl, e8, by show 1 < 2 ^ 24; decide, ?_⟩
      have tk9 : Tk H8 (L2.upd H8 q (.lst ([.ref nm] ++ [v]))) := Tk.upd fun xs z => by rw [e8] at z; cases z
      refine ⟨_, rfl, q, _, rfl, .inl ⟨SqL.of upd_same, fun l nl => ⟨_, rfl, by show 3 ≤ sizeLine; decide, fun p np => ?_⟩⟩⟩
      refine fin _ _ ([namD (sgN wd) (ss.length + 1)] ++ [D]) j ss' ((kl7.trans kl8).other hq0) (h8.other e8 qls qit) ((DtAll.one (d8'.tk tk9)).app (.one (d8.tk tk9))) (by omega) hj hs8 ?_ l nl p np
      rw [hfin0, hf8]
      congr 1
      rw [show W4.put (⟨wd, ss.length, [namD (sgN wd) (ss.length + 1)]⟩ :: st) fm ss' D = if wd = [40] then (⟨⟨wd, ss.length, [namD (sgN wd) (ss.length + 1)] ++ [D]⟩ :: st, fm, ss'⟩ : Cf) else W4.put st fm ss' (lstD ([namD (sgN wd) (ss.length + 1)].take 1 ++ [D]) ss.length) from rfl, if_neg c40]
      rfl
    · have e8 := kl8 q _ qsd qls e7
      refine ⟨q, _, _, rfl, rfl, e8, by show 1 < 2 ^ 24; decide, ?_⟩
      refine ⟨_, rfl, q, _, rfl, .inl ⟨SqL.of upd_same, fun l nl => ⟨_, rfl, by show 3 ≤ sizeLine; decide, fun p np => ?_⟩⟩⟩
      exact finb _ _ b j pl ss' ((kl7.trans kl8).other hq0) (h8.other e8 qls qit) (by rw [hfin0]; exact hf8) l nl p np
  rw [decide_eq_true c40]
  refine iteF ?_
  dsimp only [tNext]
  have hss1 : begSs wd ss kk.2.1 = ss ++ [kk.2.1] := by
    unfold begSs
    rw [if_pos c40]
  have hds1 : begDs wd ss.length = [] := by
    unfold begDs
    rw [if_pos c40]
  rw [hss1, hds1, c40] at hstep
  have hfin0 : finM t ⟨st, fm, ss⟩ (ks.drop i) = finM t ⟨⟨[40], ss.length, []⟩ :: st, fm, ss ++ [kk.2.1]⟩ (ks.drop (i + 1)) := by
    rw [hdrop]
    exact finM_ok hstep
  rw [← hl3] at h4
  refine ⟨fun m σ H' => ∃ (bad : Int) (i' pl' : Nat) (ss' : List Nat) (xs : List V), σ = [some (.str (S t)), some (.ref it), some (.ref sd), some (.int (st.length : Nat)), some (.str kk.1), some (.int (kk.2.1 : Nat)), some (.int (kk.2.2 : Nat)), some (.str (S wd)), some (.int (ss.length : Nat)), some (.ref q)] ∧ KL sd ls H H' ∧ LS sd ls it ks H' bad i' pl' ss' ∧ H' q = some (.lst xs) ∧
      ((bad = -1 ∧ pl' = ss'.length ∧ i < i' ∧ i' ≤ ks.length ∧ ss'.length ≤ 2 * i' ∧ xs.length ≤ i' ∧ m = ks.length - i' + 1 ∧ ∃ ds, DtAll H' xs ds ∧ finM t ⟨st, fm, ss⟩ (ks.drop i) = finM t ⟨⟨[40], ss.length, ds⟩ :: st, fm, ss'⟩ (ks.drop i')) ∨ (m = 0 ∧ ∃ b : Nat, bad = (b : Int) ∧ finM t ⟨st, fm, ss⟩ (ks.drop i) = .error b)),
    ⟨_, -1, i + 1, _, _, [], rfl, kl4, h4, e4, .inl ⟨rfl, rfl, by omega, hlt, by rw [hl3]; omega, Nat.zero_le _, rfl, [], .nil, hfin0⟩⟩, ?_⟩
  rintro m σ H' ⟨bad, i', pl', ss', xs, rfl, kl', h', e', hcase⟩
  refine ⟨_, rfl, sd, _, rfl, h'.gBad, _, _, rfl, rfl, _, rfl, ?_⟩
  rcases hcase with ⟨rfl, rfl, hii, hi', hs', hx', rfl, ds, dx, hfin⟩ | ⟨rfl, b, rfl, hfin⟩
  case inr =>
    rw [decide_eq_false (show ¬ ((b : Nat) : Int) < 0 by omega)]
    exact iteF (q2 _ b _ _ _ _ kl' h' hfin)
  rw [decide_eq_true (show (-1 : Int) < 0 by decide)]
  refine iteT ⟨fun σ' H'' => ∃ m', m' < ks.length - i' + 1 ∧ ∃ (bad : Int) (i' pl' : Nat) (ss' : List Nat) (xs : List V), σ' = [some (.str (S t)), some (.ref it), some (.ref sd), some (.int (st.length : Nat)), some (.str kk.1), some (.int (kk.2.1 : Nat)), some (.int (kk.2.2 : Nat)), some (.str (S wd)), some (.int (ss.length : Nat)), some (.ref q)] ∧ KL sd ls H H'' ∧ LS sd ls it ks H'' bad i' pl' ss' ∧ H'' q = some (.lst xs) ∧
      ((bad = -1 ∧ pl' = ss'.length ∧ i < i' ∧ i' ≤ ks.length ∧ ss'.length ≤ 2 * i' ∧ xs.length ≤ i' ∧ m' = ks.length - i' + 1 ∧ ∃ ds, DtAll H'' xs ds ∧ finM t ⟨st, fm, ss⟩ (ks.drop i) = finM t ⟨⟨[40], ss.length, ds⟩ :: st, fm, ss'⟩ (ks.drop i')) ∨ (m' = 0 ∧ ∃ b : Nat, bad = (b : Int) ∧ finM t ⟨st, fm, ss⟩ (ks.drop i) = .error b)), fun σ' H' h => h, ?_⟩
  obtain ⟨ys', hit', dv'⟩ := h'.hit
  have hyl' := dv'.len
  rw [List.length_map] at hyl'
  refine seq_split (t1 := tIfS _ _ _) (fun σ' H'' => σ' = [some (.str (S t)), some (.ref it), some (.ref sd), some (.int (st.length : Nat)), some (.str kk.1), some (.int (kk.2.1 : Nat)), some (.int (kk.2.2 : Nat)), some (.str (S wd)), some (.int (ss.length : Nat)), some (.ref q)] ∧ H'' = H' ∧ (∀ k, ks[i']? = some k → ¬ wrd t k.2.1 k.2.2 = [41])) ?_ (fun J => ?_)
  case refine_2 =>
    refine ⟨_, rfl, sd, _, rfl, h'.gAt, _, rfl, it, _, rfl, .inl (SqL.of hit'), _, _, rfl, rfl, _, rfl, ?_⟩
    rw [hyl']
    by_cases hlast' : i' < ks.length
    case neg =>
      rw [decide_eq_false (show ¬ ((i' : Nat) : Int) < ((ks.length : Nat) : Int) by omega)]
      refine iteF (iteF ?_)
      dsimp only [tNext]
      exact J _ _ ⟨rfl, rfl, fun k hk => by rw [List.getElem?_eq_none (by omega)] at hk; cases hk⟩
    rw [decide_eq_true (show ((i' : Nat) : Int) < ((ks.length : Nat) : Int) by omega)]
    have hki' := List.getElem?_eq_getElem hlast'
    obtain ⟨k2, hk2⟩ : ∃ k2, k2 = ks[i'] := ⟨_, rfl⟩
    rw [← hk2] at hki'
    have tk2 := tok k2 (List.mem_of_getElem? hki')
    have hle2 := tk2.le
    have hyi' : i' < ys'.length := by omega
    obtain ⟨kk', hkk', dk'⟩ := dv'.get_map (List.getElem?_eq_getElem hyi')
    rw [hki'] at hkk'
    obtain rfl := Option.some.inj hkk'
    obtain ⟨p', hyp', hp'⟩ := tok_of dk'
    have hg : ys'[i']? = some (.ref p') := by rw [List.getElem?_eq_getElem hyi', hyp']
    refine iteT ⟨_, rfl, _, rfl, _, rfl, sd, _, rfl, h'.gAt, ixl hit' (atI_nat hg) (tc (ixt hp' (atI_nat (j := 1) rfl) ⟨_, rfl, _, rfl, _, rfl, sd, _, rfl, h'.gAt, ixl hit' (atI_nat hg) (tc (ixt hp' (atI_nat (j := 2) rfl) ⟨_, rfl, S t, rfl, hz, ?_⟩))⟩))⟩
    refine tc ⟨rfl, _, rfl, ?_⟩
    rw [cut_wrd (by omega) hle2.2, wdE q_close]
    by_cases c41 : wrd t k2.2.1 k2.2.2 = [41]
    case neg =>
      rw [decide_eq_false c41]
      refine iteF ?_
      dsimp only [tNext]
      refine J _ _ ⟨rfl, rfl, fun k hk => ?_⟩
      rw [hki'] at hk
      obtain rfl := Option.some.inj hk
      exact c41
    rw [decide_eq_true c41]
    have hsg : k2.1 = "sign" := Classical.byContradiction fun z => tk2.nsg z c41
    have hst2 : step t ⟨⟨[40], ss.length, ds⟩ :: st, fm, ss'⟩ k2 = .ok (put st fm ss' (lstD ds ss.length)) := by
      unfold step
      rw [if_neg (fun z => by rw [hsg] at z; exact absurd z (by decide +kernel)), if_neg (fun z => z hsg), if_pos c41]
      dsimp only
      rw [if_pos rfl]
    have hdrop' : ks.drop i' = k2 :: ks.drop (i' + 1) := by rw [List.drop_eq_getElem_cons hlast', ← hk2]
    have hfin2 := hfin
    rw [hdrop', finM_ok hst2] at hfin2
    refine iteT ⟨_, rfl, sd, _, rfl, h'.gAt, _, _, rfl, rfl, _, rfl, sd, _, rfl, h'.pAt (i' := i' + 1), ?_⟩
    have h9 : LS sd ls it ks _ (-1) (i' + 1) ss'.length ss' := h'.upS
    have kl9 : KL sd ls H _ := kl'.atS (o := .dK (stK (-1) (i' + 1) ss'.length ls))
    have e9 : L2.upd H' sd (.dK (stK (-1) (i' + 1) ss'.length ls)) q = some (.lst xs) := by rw [upd_ne qsd]; exact e'
    have d9 : DtAll (L2.upd H' sd (.dK (stK (-1) (i' + 1) ss'.length ls))) xs ds := dx.tk (Tk.upd fun xs z => by rw [h'.hsd] at z; cases z)
    generalize L2.upd H' sd (.dK (stK (-1) (i' + 1) ss'.length ls)) = H9 at h9 kl9 e9 d9 ⊢
    refine ⟨_, rfl, q, _, rfl, .inl ⟨SqL.of e9, fun l nl => ⟨_, rfl, by show 3 ≤ sizeLine; decide, fun p np => ?_⟩⟩⟩
    exact fin H9 xs ds (i' + 1) ss' kl9 h9 d9 (by omega) hlast' (by omega) hfin2 l nl p np
  rintro σ' H'' ⟨rfl, rfl, hno⟩
  refine ⟨_, rfl, .inl ⟨rfl, _, SqL.of e'⟩, _, rfl, _, rfl, _, rfl, _, rfl, _, _, rfl, rfl, ?_⟩
  refine ⟨t, sd, ls, it, ks, i', ss', ⟨[40], ss.length, ds⟩ :: st, fm, rfl, ok, hkl, tok, h', hi', hs', by rw [List.length_cons]; omega, by rw [List.length_cons]; omega, .inr (fun z => by cases z), fun k2 f r hk2 z _ => absurd z (hno k2 hk2), fun v D j ss2 H8 kl8 h8 d8 hij hj hs8 hf8 => ?_, fun v b j pl ss2 H8 kl8 h8 hf8 => ?_⟩
  · have e8 := kl8 q _ qsd qls e'
    refine ⟨q, _, _, rfl, rfl, e8, by show _ < 2 ^ 24; omega, ?_⟩
    have tk9 : Tk H8 (L2.upd H8 q (.lst (xs ++ [v]))) := Tk.upd fun xs z => by rw [e8] at z; cases z
    refine ⟨ks.length - j + 1, by omega, -1, j, _, ss2, xs ++ [v], rfl, (kl'.trans kl8).other hq0, h8.other e8 qls qit, upd_same, .inl ⟨rfl, rfl, by omega, hj, hs8, ?_, rfl, ds ++ [D], ?_, ?_⟩⟩
    · rw [List.length_append, List.length_singleton]
      omega
    · exact ((dx.tk (h'.tkl kl8)).tk tk9).app (.one (d8.tk tk9))
    · rw [hfin, hf8]
      congr 1
  · have e8 := kl8 q _ qsd qls e'
    refine ⟨q, _, _, rfl, rfl, e8, by show _ < 2 ^ 24; omega, ?_⟩
    exact ⟨0, by omega, (b : Int), j, pl, ss2, xs ++ [v], rfl, (kl'.trans kl8).other hq0, h8.other e8 qls qit, upd_same, .inr ⟨rfl, b, rfl, by rw [hfin]; exact hf8⟩⟩
theorem dat0 {f : Addr} {fd : FuncData} (F : Dfn K mg "_law_datum" st__law_datum f fd ["text", "items", "state", "depth"]) : Cal P w K mg base 2 "_law_datum" (spDat 0) := by
  have no : ∀ vs H Q E, ¬ spDat 0 vs H Q E := fun vs H Q E h => by
    obtain ⟨t, sd, ls, it, ks, i, ss, st, fm, rfl, ok, hkl, tok, h, hik, hss, hst, hn, _⟩ := h
    omega
  exact ⟨f, fd, _, ⟨fun vs H Q E h => absurd h (no vs H Q E), fun A outer s H args us vs Q E _ _ _ _ h => absurd h (no vs H Q E)⟩, F.mgf, F.fn.kp, F.b⟩
theorem dat_all {f : Addr} {fd : FuncData} (F : Dfn K mg "_law_datum" st__law_datum f fd ["text", "items", "state", "depth"]) (M : Mg mg) (G_law_value : Cal P w K mg base 1 "_law_value" spLVal) : ∀ n : Nat, Cal P w K mg base (n + 2) "_law_datum" (spDat n)
  | 0 => dat0 F
  | n + 1 => ok_dat (by omega) F M G_law_value (dat_all F M G_law_value n)
end
end W4
set_option Elab.async false
set_option linter.all false
set_option maxRecDepth 100000
set_option maxHeartbeats 4000000
namespace W4
open PySem PySem.Spec PyProof.Rows L2 Com SX GxR
theorem merge_st {bad : Int} {i pl : Nat} {ls : Addr} : mergeK [] (stK bad i pl ls) = stK bad i pl ls := by
  unfold mergeK stK
  simp only [List.foldl]
  unfold putK
  simp [kn1, kn2, kn3, kn4, kn5, kn6]
theorem kl_same {sd ls : Addr} {H H1 H2 : Hp} (a : Same H H1) (n1 : H sd = none) (n2 : H ls = none) (k : KL sd ls H1 H2) : Same H H2 := fun b o e => k b o (fun z => by rw [z, n1] at e; cases e) (fun z => by rw [z, n2] at e; cases e) (a b o e)
section
variable {P : Program} {w : World} {K : PySem.W.Frag} {mg : Str → Option Value} {base : Heap}
def spLRead : Sp := fun vs H Q _ => ∃ t : T, vs = [.str (S t)] ∧ Ok t ∧ (∀ b, readM t = .error b → ∀ r H', Same H H' → Dt H' (.ref r) (.tuple [.str "bad", .int (b : Nat)]) → Q (.ref r) H') ∧
  (∀ fm ss, readM t = .ok (fm, ss) → ∀ r pf l H', Same H H' → H' r = some (.tup [.str "good", .ref pf, .ref l]) → Dt H' (.ref pf) (.tuple fm) → H' l = some (.lst (ss.map fun n => V.int (n : Nat))) → Q (.ref r) H')
theorem ok_lread {f : Addr} {fd : FuncData} (F : Dfn K mg "_law_read" st__law_read f fd ["text"]) (M : Mg mg) (G_law_tokens : Cal P w K mg base 2 "_law_tokens" spLToks) (G_law_datum : Cal P w K mg base 63 "_law_datum" (spDat 61)) : Cal P w K mg base 64 "_law_read" spLRead := by
  refine cal_mk F sc_law_read (fun vs H Q E h => ?_) (fun cdv A outer s H vs Q E hr h => ?_)
  · obtain ⟨t, rfl, _⟩ := h
    rfl
  obtain ⟨t, rfl, ok, q2, q1⟩ := h
  have hu := unit1 hr
  have hz := ok.z
  refine ⟨_, (pss_cons (ps_if (pt_cmpR op_gt (pe_callB call_len_str (by rfl) M.len b_len (pa_cons (pv 0) pa_nil)) pe_int (nomark _)) (pss_one (ps_ret (pe_tup (pa_cons pe_str (pa_cons pe_int pa_nil))))) pss_nil)
      (pss_cons (ps_set (i := 1) sc_law_read.nd rfl (.inl rfl) (pe_c G_law_tokens hr (by omega) (by rfl) (pa_cons (pv 0) pa_nil)))
      (pss_cons (ps_set (i := 2) sc_law_read.nd rfl (.inl rfl) (pe_disp (pps_cons pe_str (pe_op op_sub pe_int pe_int) (pps_cons pe_str pe_int (pps_cons pe_str pe_int (pps_cons pe_str (pe_lst pa_nil) pps_nil)))) (by rfl) (by rfl) (fun z => by cases z) (by decide)))
      (pss_cons (ps_set (i := 3) sc_law_read.nd rfl (.inl rfl) (pe_lst pa_nil))
      (pss_cons (ps_while PassesOwn.never (PW.pt (pw_and (pt_cmpR op_lt (pe_dget hu (pv 2) pe_str (fun _ _ => rfl)) pe_int (nomark _)) (pw_and1 (pt_cmpR op_lt (pe_dget hu (pv 2) pe_str (fun _ _ => rfl)) (pe_callB (cLen K rfl) (by rfl) M.len b_len (pa_cons (pv 1) pa_nil)) (nomark _)))))
      (pss_one (ps_expr (pe_bm PySem.F.plainAttrs_list PySem.F.slot_list_append PySem.F.type_list_append mt_append (pv 3) (pa_cons (pe_c G_law_datum hr (by omega) (by rfl) (pa_cons (pv 0) (pa_cons (pv 1) (pa_cons (pv 2) (pa_cons pe_int pa_nil))))) pa_nil)))))
      (pss_cons (ps_if (pt_cmpR op_ge (pe_dget hu (pv 2) pe_str (fun _ _ => rfl)) pe_int (nomark _)) (pss_one (ps_ret (pe_tup (pa_cons pe_str (pa_cons (pe_dget hu (pv 2) pe_str (fun _ _ => rfl)) pa_nil))))) pss_nil)
      (pss_one (ps_ret (pe_tup (pa_cons pe_str (pa_cons (pe_callTy (cTup K rfl) (by rfl) M.tuple b_tuple (pa_cons (pv 3) pa_nil)) (pa_cons (pe_dget hu (pv 2) pe_str (fun _ _ => rfl)) pa_nil)))))))))))), ?_⟩
  rw [readM_fin] at q1 q2
  refine ⟨_, rfl, S t, rfl, hz, _, _, rfl, rfl, _, rfl, ?_⟩
  rw [len_S]
  by_cases hlt : 6000 < t.length
  · rw [decide_eq_true (show (6000 : Int) < ((t.length : Nat) : Int) by omega)]
    rw [if_pos hlt] at q2
    exact iteT ⟨by show 2 ≤ sizeLine; decide, fun r nr => q2 6000 rfl r _ (same_upd nr) (.tup upd_same (.cons (.str _) (.cons (.int _) .nil)))⟩
  rw [decide_eq_false (show ¬ (6000 : Int) < ((t.length : Nat) : Int) by omega)]
  rw [if_neg hlt] at q1 q2
  refine iteF ?_
  dsimp only [tNext]
  refine ⟨_, rfl, t, rfl, ok, fun it H1 ys s1 nit hit dv => ?_⟩
  dsimp only [gName]
  have hyl := dv.len
  rw [List.length_map] at hyl
  have hl6 : (toksF t 0).length ≤ 6000 := by
    have := toksF_len (t := t) t.length (a := 0) (by omega)
    omega
  have tok := toks_ok (t := t) t.length (a := 0) (by omega)
  obtain ⟨ks, hks⟩ : ∃ ks, ks = toksF t 0 := ⟨_, rfl⟩
  rw [← hks] at q1 q2 dv hyl hl6 tok
  refine fun sd nsd => ⟨_, _, rfl, rfl, Nat.zero_le _, fun ls nls => ⟨?_, stK (-1) 0 0 ls, rfl, by show 4 ≤ 15; decide, ?_⟩⟩
  · rw [upd_ne (fun z => by rw [← z, upd_same] at nls; cases nls)]
    exact upd_same
  rw [merge_st]
  dsimp only [gName]
  have hls1 : ls ≠ sd := fun z => by rw [z, upd_same] at nls; cases nls
  have nls1 : H1 ls = none := by rw [upd_ne hls1] at nls; exact nls
  have nn : ∀ b, H1 b = none → H b = none := fun b e => by
    cases e2 : H b with
    | none => rfl
    | some o =>
      rw [s1 _ _ e2] at e
      cases e
  have s2 : Same H (L2.upd (L2.upd (L2.upd H1 sd (.dK [])) ls (.lst [])) sd (.dK (stK (-1) 0 0 ls))) := fun b o e => by
    have e1 := s1 _ _ e
    rw [upd_ne (fun z => by rw [z, nsd] at e1; cases e1), upd_ne (fun z => by rw [z, nls1] at e1; cases e1), upd_ne (fun z => by rw [z, nsd] at e1; cases e1)]
    exact e1
  have itsd : it ≠ sd := fun z => by rw [← z, hit] at nsd; cases nsd
  have itls : it ≠ ls := fun z => by rw [← z, hit] at nls1; cases nls1
  have tk2 : Tk H1 (L2.upd (L2.upd (L2.upd H1 sd (.dK [])) ls (.lst [])) sd (.dK (stK (-1) 0 0 ls))) := fun b xs e => by
    rw [upd_ne (fun z => by rw [z, nsd] at e; cases e), upd_ne (fun z => by rw [z, nls1] at e; cases e), upd_ne (fun z => by rw [z, nsd] at e; cases e)]
    exact e
  have h2 : LS sd ls it ks (L2.upd (L2.upd (L2.upd H1 sd (.dK [])) ls (.lst [])) sd (.dK (stK (-1) 0 0 ls))) (-1) 0 0 [] := by
    refine ⟨upd_same, ?_, ⟨ys, ?_, dv.tk tk2⟩, itls⟩
    · rw [upd_ne hls1, upd_same]
      rfl
    · rw [upd_ne itsd, upd_ne itls, upd_ne itsd]
      exact hit
  have nsdH := nn sd nsd
  have nlsH := nn ls nls1
  generalize L2.upd (L2.upd (L2.upd H1 sd (.dK [])) ls (.lst [])) sd (.dK (stK (-1) 0 0 ls)) = H2 at s2 h2 ⊢
  refine ⟨Nat.zero_le _, fun fa nfa => ?_⟩
  dsimp only [gName]
  have s3 := same_trans s2 (same_upd (o := .lst []) nfa)
  have h3 := h2.same (same_upd (o := .lst []) nfa)
  have e3 := upd_same (H := H2) (a := fa) (o := .lst [])
  have fals : fa ≠ ls := fun z => by have := h2.hls; rw [← z, nfa] at this; cases this
  have fasd : fa ≠ sd := fun z => by have := h2.hsd; rw [← z, nfa] at this; cases this
  have fait : fa ≠ it := fun z => by obtain ⟨_, this, _⟩ := h2.hit; rw [← z, nfa] at this; cases this
  have nfaH : H fa = none := by
    cases e : H fa with
    | none => rfl
    | some o =>
      rw [s2 _ _ e] at nfa
      cases nfa
  generalize L2.upd H2 fa (.lst []) = H3 at s3 h3 e3 ⊢
  refine ⟨fun m σ H' => ∃ (bad : Int) (i pl : Nat) (ss : List Nat) (xs : List V), σ = [some (.str (S t)), some (.ref it), some (.ref sd), some (.ref fa)] ∧ Same H H' ∧ LS sd ls it ks H' bad i pl ss ∧ H' fa = some (.lst xs) ∧
      ((bad = -1 ∧ pl = ss.length ∧ i ≤ ks.length ∧ ss.length ≤ 2 * i ∧ xs.length ≤ i ∧ m = ks.length - i + 1 ∧ ∃ fm, DtAll H' xs fm ∧ finM t ⟨[], [], []⟩ ks = finM t ⟨[], fm, ss⟩ (ks.drop i)) ∨ (m = 0 ∧ ∃ b : Nat, bad = (b : Int) ∧ finM t ⟨[], [], []⟩ ks = .error b)),
    ⟨_, -1, 0, 0, [], [], rfl, s3, h3, e3, .inl ⟨rfl, rfl, Nat.zero_le _, Nat.zero_le _, Nat.zero_le _, rfl, [], .nil, rfl⟩⟩, ?_⟩
  rintro m σ H' ⟨bad, i, pl, ss, xs, rfl, sm, h', e', hcase⟩
  obtain ⟨ys', hit', dv'⟩ := h'.hit
  have hyl' := dv'.len
  rw [List.length_map] at hyl'
  refine ⟨_, rfl, sd, _, rfl, h'.gBad, _, _, rfl, rfl, _, rfl, ?_⟩
  rcases hcase with ⟨rfl, rfl, hi', hs', hx', rfl, fm, dx, hfin⟩ | ⟨rfl, b, rfl, hfin⟩
  case inr =>
    rw [decide_eq_false (show ¬ ((b : Nat) : Int) < 0 by omega)]
    refine iteF (iteF ⟨_, rfl, sd, _, rfl, h'.gBad, _, _, rfl, rfl, _, rfl, ?_⟩)
    rw [decide_eq_true (show (0 : Int) ≤ ((b : Nat) : Int) by omega)]
    refine iteT ⟨_, rfl, sd, _, rfl, h'.gBad, by show 2 ≤ sizeLine; decide, fun r nr => ?_⟩
    exact q2 b hfin r _ (same_trans sm (same_upd nr)) (.tup upd_same (.cons (.str _) (.cons (.int _) .nil)))
  rw [decide_eq_true (show (-1 : Int) < 0 by decide)]
  refine iteT ⟨_, rfl, sd, _, rfl, h'.gAt, _, rfl, it, _, rfl, .inl (SqL.of hit'), _, _, rfl, rfl, _, rfl, ?_⟩
  rw [hyl']
  by_cases hlast : i < ks.length
  case neg =>
    rw [decide_eq_false (show ¬ ((i : Nat) : Int) < ((ks.length : Nat) : Int) by omega)]
    rw [List.drop_of_length_le (by omega)] at hfin
    refine iteF ⟨_, rfl, sd, _, rfl, h'.gBad, _, _, rfl, rfl, _, rfl, ?_⟩
    rw [decide_eq_false (show ¬ (0 : Int) ≤ -1 by decide)]
    refine iteF ?_
    dsimp only [tNext]
    refine ⟨_, rfl, fa, _, rfl, .inl ⟨SqL.of e', fun pf npf => ⟨_, rfl, sd, _, rfl, (h'.same (same_upd npf)).gSs, by show 3 ≤ sizeLine; decide, fun r nr => ?_⟩⟩⟩
    have k1 := same_upd (o := .tup xs) npf
    have k2 := same_upd (o := .tup [.str "good", .ref pf, .ref ls]) nr
    exact q1 fm ss hfin r pf ls _ (same_trans sm (same_trans k1 k2)) upd_same (.tup (k2 _ _ upd_same) (dx.tk (same_tk (same_trans k1 k2)))) (k2 _ _ (k1 _ _ h'.hls))
  rw [decide_eq_true (show ((i : Nat) : Int) < ((ks.length : Nat) : Int) by omega)]
  refine iteT ⟨fun σ' H'' => ∃ m', m' < ks.length - i + 1 ∧ ∃ (bad : Int) (i pl : Nat) (ss : List Nat) (xs : List V), σ' = [some (.str (S t)), some (.ref it), some (.ref sd), some (.ref fa)] ∧ Same H H'' ∧ LS sd ls it ks H'' bad i pl ss ∧ H'' fa = some (.lst xs) ∧
      ((bad = -1 ∧ pl = ss.length ∧ i ≤ ks.length ∧ ss.length ≤ 2 * i ∧ xs.length ≤ i ∧ m' = ks.length - i + 1 ∧ ∃ fm, DtAll H'' xs fm ∧ finM t ⟨[], [], []⟩ ks = finM t ⟨[], fm, ss⟩ (ks.drop i)) ∨ (m' = 0 ∧ ∃ b : Nat, bad = (b : Int) ∧ finM t ⟨[], [], []⟩ ks = .error b)), fun σ' H' h => h, ?_⟩
  refine ⟨_, rfl, .inl ⟨rfl, _, SqL.of e'⟩, _, rfl, _, rfl, _, rfl, ?_⟩
  refine ⟨t, sd, ls, it, ks, i, ss, [], fm, rfl, ok, by omega, tok, h', hi', hs', Nat.zero_le _, by show 60 < 0 + 61; decide, .inl hlast, (fun k f r _ _ z => by cases z), fun v D j ss2 H8 kl8 h8 d8 hij hj hs8 hf8 => ?_, fun v b j pl ss2 H8 kl8 h8 hf8 => ?_⟩
  · have e8 := kl8 fa _ fasd fals e'
    have s8 := kl_same sm nsdH nlsH kl8
    refine ⟨fa, _, _, rfl, rfl, e8, by show _ < 2 ^ 24; omega, ?_⟩
    have tk9 : Tk H8 (L2.upd H8 fa (.lst (xs ++ [v]))) := Tk.upd fun xs z => by rw [e8] at z; cases z
    have s9 : Same H (L2.upd H8 fa (.lst (xs ++ [v]))) := fun b o e => by rw [upd_ne (ne_of_none e nfaH)]; exact s8 b o e
    refine ⟨ks.length - j + 1, by omega, -1, j, _, ss2, xs ++ [v], rfl, s9, h8.other e8 fals fait, upd_same, .inl ⟨rfl, rfl, hj, hs8, ?_, rfl, fm ++ [D], ?_, ?_⟩⟩
    · rw [List.length_append, List.length_singleton]
      omega
    · exact ((dx.tk (h'.tkl kl8)).tk tk9).app (.one (d8.tk tk9))
    · rw [hfin, hf8]
      rfl
  · have e8 := kl8 fa _ fasd fals e'
    have s8 := kl_same sm nsdH nlsH kl8
    refine ⟨fa, _, _, rfl, rfl, e8, by show _ < 2 ^ 24; omega, ?_⟩
    have s9 : Same H (L2.upd H8 fa (.lst (xs ++ [v]))) := fun b o e => by rw [upd_ne (ne_of_none e nfaH)]; exact s8 b o e
    exact ⟨0, by omega, (b : Int), j, pl, ss2, xs ++ [v], rfl, s9, h8.other e8 fals fait, upd_same, .inr ⟨rfl, b, rfl, by rw [hfin]; exact hf8⟩⟩
end
end W4
set_option Elab.async false
set_option linter.all false
set_option maxRecDepth 100000
set_option maxHeartbeats 4000000
namespace W4
open PySem PySem.Spec PyProof.Rows L2 Com SX GxR
section
variable {P : Program} {w : World} {K : PySem.W.Frag} {mg : Str → Option Value} {base : Heap} {C CE CW fI fR pS PN PD : Addr}
def spTold (PN PD : Addr) : Sp := fun vs H Q _ => ∃ t : T, vs = [.str (S t)] ∧ Ok t ∧ TT PN PD H ∧ (∀ b, readM t = .error b → ∀ r H', KT H H' → TT PN PD H' → Dt H' (.ref r) (.tuple [.str "bad", .int (b : Nat)]) → Q (.ref r) H') ∧
  (∀ fm ss, readM t = .ok (fm, ss) → ∀ r pf l H', KT H H' → TT PN PD H' → H' r = some (.tup [.str "good", .ref pf, .ref l]) → Dt H' (.ref pf) (.tuple fm) → H' l = some (.lst (ss.map fun n => V.int (n : Nat))) → Q (.ref r) H')
theorem ok_told {f : Addr} {fd : FuncData} (F : Dfn K mg "_law_told" st__law_told f fd ["text"]) (M : Mg mg) (T : ReT w K mg C CE CW fI fR pS) (Gread : CalX P w K mg base 8 "read" (spRead CE PN PD)) (Goffsets : CalX P w K mg base 8 "offsets" (spOffs CE PN PD)) : Cal P w K mg base 9 "_law_told" (spTold PN PD) := by
  refine cal_mk F sc_law_told (fun vs H Q E h => ?_) (fun cdv A outer s H vs Q E hr h => ?_)
  · obtain ⟨t, rfl, _⟩ := h
    rfl
  obtain ⟨t, rfl, ok, hT, q2, q1⟩ := h
  refine ⟨_, (pss_cons (ps_set (i := 1) sc_law_told.nd rfl (.inl rfl) pe_non)
      (pss_cons (ps_try_as (i := 3) (tb := fun W => tAsg (tCallS (spRead CE PN PD) (WE W) (tCons (tVar 0) tNil)) (gName 2)) (ts := fun a cls d => tAsg (tTup (tCons (tC (.str "bad")) (tCons (tXf a cls d CE "at" (tVar 3)) tNil))) (gName 1)) (Wout := fun _ _ _ _ => False) rfl rfl sc_law_told.nd rfl rfl ⟨rfl, by decide, .inl T.mR⟩ takes0 (fun W pn xe tk _ => pss_one (ps_set (i := 2) sc_law_told.nd rfl (.inl rfl) (pe_cxS Gread hr (by omega) (by rfl) tk (pa_cons (pv 0) pa_nil)))) (fun a oe cls d pn hz hf => pss_one (ps_set (i := 1) sc_law_told.nd rfl (.inl rfl) (pe_tup (pa_cons pe_str (pa_cons (pe_xf T.xf T.nAt hz hf (pv 3)) pa_nil))))))
      (pss_cons (ps_if (pt_cmpR op_isN (pv 1) pe_non (nomark _)) (pss_one (ps_ret (pe_tup (pa_cons pe_str (pa_cons (pv 2) (pa_cons (pe_cx Goffsets hr (by omega) (by rfl) (passes_call takes0 fun _ _ _ _ h => h) (pa_cons (pv 0) pa_nil)) pa_nil)))))) pss_nil)
      (pss_cons (ps_try_as (i := 3) (tb := fun W => tDrop (tCallS (spOffs CE PN PD) (WE W) (tCons (tVar 0) tNil))) (ts := fun a cls d => tRet (tIf (tTest (tOp rEq (tXf a cls d CE "at" (tVar 3)) (tOp (rIxT K) (tVar 1) (tC (.int 1))))) (tVar 1) (tTup (tCons (tC (.str "unlike")) tNil)))) (Wout := fun _ _ _ _ => False) rfl rfl sc_law_told.nd rfl rfl ⟨rfl, by decide, .inl T.mR⟩ takes0 (fun W pn xe tk _ => pss_one (ps_expr (pe_cxS Goffsets hr (by omega) (by rfl) tk (pa_cons (pv 0) pa_nil)))) (fun a oe cls d pn hz hf => pss_one (ps_ret (pe_ifExp (pt_cmpR op_eq (pe_xf T.xf T.nAt hz hf (pv 3)) (pe_ix (ixT K rfl) (pv 1) pe_int (fun _ _ => rfl)) (nomark _)) (pv 1) (pe_tup (pa_cons pe_str pa_nil))))))
      (pss_one (ps_ret (pe_tup (pa_cons pe_str pa_nil)))))))), ?_⟩
  cases hrd : readM t with
  | ok p =>
    obtain ⟨fm, ss⟩ := p
    refine ⟨_, rfl, t, rfl, ok, hT, fun fm' ss' e r H1 k1 T1 d1 => ?_, fun b e => by rw [hrd] at e; cases e⟩
    rw [hrd] at e
    obtain ⟨rfl, rfl⟩ := Prod.mk.inj (Except.ok.inj e)
    dsimp only [gName]
    refine ⟨_, rfl, rfl, _, rfl, ?_⟩
    rw [decide_eq_true (show V.non = V.non from rfl)]
    refine iteT ⟨_, rfl, _, rfl, t, rfl, ok, T1, fun fm' ss' e l H2 k2 T2 nl hl => ?_, fun b e => by rw [hrd] at e; cases e⟩
    rw [hrd] at e
    obtain ⟨rfl, rfl⟩ := Prod.mk.inj (Except.ok.inj e)
    refine ⟨by show 3 ≤ sizeLine; decide, fun p np => ?_⟩
    have k3 := KT.new (o := .tup [.str "good", .ref r, .ref l]) np
    exact q1 fm ss hrd p r l _ ((k1.trans k2).trans k3) (T2.new np) upd_same (d1.tk (k2.trans k3).tk) (k3.lst hl)
  | error b =>
    refine ⟨_, rfl, t, rfl, ok, hT, (fun fm' ss' e => by rw [hrd] at e; cases e), fun b' e d H1 k1 T1 ed => ⟨true, T.ex, fun _ a na => ?_, fun z => by cases z⟩⟩
    rw [hrd] at e
    obtain rfl := Except.error.inj e
    refine ⟨_, rfl, rfl, rfl, d, _, _, rfl, ed, rfl, by show 2 ≤ sizeLine; decide, fun p np => ?_⟩
    have k2 := KT.new (o := .tup [.str "bad", .int (b : Nat)]) np
    have T2 := T1.new (o := .tup [.str "bad", .int (b : Nat)]) np
    have hp := upd_same (H := H1) (a := p) (o := .tup [.str "bad", .int (b : Nat)])
    generalize L2.upd H1 p (.tup [.str "bad", .int (b : Nat)]) = H2 at k2 T2 hp ⊢
    dsimp only [gName]
    refine ⟨_, rfl, rfl, _, rfl, ?_⟩
    rw [decide_eq_false (show ¬ V.ref p = V.non from fun z => by cases z)]
    refine iteF ?_
    dsimp only [tNext]
    refine ⟨_, rfl, t, rfl, ok, T2, (fun fm' ss' e => by rw [hrd] at e; cases e), fun b' e d2 H3 k3 T3 ed2 => ⟨true, T.ex, fun _ a2 na2 => ?_, fun z => by cases z⟩⟩
    rw [hrd] at e
    obtain rfl := Except.error.inj e
    have hp3 := k3.tup hp
    refine ⟨_, rfl, rfl, rfl, d2, _, _, rfl, ed2, rfl, _, rfl, tc (ixt hp3 (atI_nat (j := 1) rfl) ⟨rfl, _, rfl, ?_⟩)⟩
    rw [decide_eq_true rfl]
    exact iteT ⟨_, rfl, q2 b hrd p _ ((k1.trans k2).trans k3) T3 (.tup hp3 (.cons (.str _) (.cons (.int _) .nil)))⟩
end
end W4
set_option Elab.async false
set_option linter.all false
set_option maxRecDepth 100000
set_option maxHeartbeats 4000000
namespace W4
open PySem PySem.Spec PyProof.Rows L2 Com
def Keep (t : Addr) (H H' : Hp) : Prop := ∀ b o, H b = some o → b ≠ t → H' b = some o
theorem Keep.refl (t : Addr) (H : Hp) : Keep t H H := fun _ _ h _ => h
theorem Keep.trans {t : Addr} {H1 H2 H3 : Hp} (a : Keep t H1 H2) (b : Keep t H2 H3) : Keep t H1 H3 := fun c o h n => b c o (a c o h n) n
theorem Keep.at {t : Addr} {H : Hp} {o : HO} : Keep t H (upd H t o) := fun b u h n => by rw [upd_ne n]; exact h
theorem Keep.same {t : Addr} {H H' : Hp} (h : Same H H') : Keep t H H' := fun b o e _ => h b o e
theorem Keep.tk {t : Addr} {H H' : Hp} {xs : List V} (k : Keep t H H') (h : H t = some (.lst xs)) : Tk H H' := fun b ys e => k b _ e (ne_of e h (by intro z; cases z))
theorem iV_get {l : List Int} {i : Nat} (h : i < l.length) : (l.map V.int)[i]? = some (.int (l[i])) := by rw [List.getElem?_map, List.getElem?_eq_getElem h]; rfl
section
variable {P : Program} {w : World} {K : PySem.W.Frag} {mg : Str → Option Value} {base : Heap}
def spDraws (K : PySem.W.Frag) : Sp := fun vs H Q _ => ∃ (a : Addr) (ns : List Int) (N : Nat), vs = [.ref a, .int (N : Nat)] ∧ SqL K H a (ns.map V.int) ∧ ns.length ≤ 1000 ∧ N ≤ 1000 ∧ ∀ p H' (xs : List Int), Same H H' → H p = none → H' p = some (.lst (xs.map V.int)) → Q (.ref p) H'
theorem ok_law_draws {f : Addr} {fd : FuncData} (F : Dfn K mg "_law_draws" st__law_draws f fd ["script", "count"]) (M : Mg mg) : Cal P w K mg base 1 "_law_draws" (spDraws K) := by
  refine cal_mk F sc_law_draws (fun vs H Q E h => ?_) (fun cdv A outer s H vs Q E hr h => ?_)
  · obtain ⟨a, ns, N, rfl, _⟩ := h
    rfl
  obtain ⟨a, ns, N, rfl, hS, hlen, hN, q⟩ := h
  refine ⟨_, (pss_cons (ps_set (i := 2) sc_law_draws.nd rfl (.inl rfl) (pe_callTy (cList K rfl) (by rfl) M.list b_list (pa_cons (pv 0) pa_nil)))
      (pss_cons (ps_if (pt_cmpR op_eq (pe_callB (cLen K rfl) (by rfl) M.len b_len (pa_cons (pv 2) pa_nil)) pe_int (nomark _)) (pss_one (ps_set (i := 2) sc_law_draws.nd rfl (.inl rfl) (pe_lst (pa_cons pe_int pa_nil)))) pss_nil)
      (pss_cons (ps_set (i := 3) sc_law_draws.nd rfl (.inl rfl) (pe_lst pa_nil))
      (pss_cons (ps_set (i := 4) sc_law_draws.nd rfl (.inl rfl) pe_int)
      (pss_cons (ps_for PassesOwn.never rfl (pi_range1 (by rfl) M.range (pa_cons (pv 1) pa_nil)) (pg_name (i := 5) sc_law_draws.nd rfl (.inl rfl))
      (pss_cons (ps_set (i := 6) sc_law_draws.nd rfl (.inl rfl) (pe_op op_mod (pv 5) (pe_callB (cLen K rfl) (by rfl) M.len b_len (pa_cons (pv 2) pa_nil))))
      (pss_cons (ps_set (i := 7) sc_law_draws.nd rfl (.inl rfl) (pe_ix (ixL K rfl) (pv 2) (pv 6) (fun _ _ => rfl)))
      (pss_cons (ps_set (i := 4) sc_law_draws.nd rfl (.inl rfl) (pe_op op_mod (pe_callTy call_int1 (by rfl) M.int b_int (pa_cons (pe_op op_add (pe_op op_add (pe_op op_add (pe_op op_mul (pv 4) pe_int) (pe_op op_mul (pe_op op_mod (pe_callTy call_int1 (by rfl) M.int b_int (pa_cons (pv 7) pa_nil)) pe_int) pe_int)) (pe_op op_mul (pv 5) pe_int)) pe_int) pa_nil)) pe_int))
      (pss_cons (ps_set (i := 8) sc_law_draws.nd rfl (.inl rfl) (pe_op op_mod (pe_callTy call_int1 (by rfl) M.int b_int (pa_cons (pe_op op_add (pe_op op_add (pe_op op_mul (pv 4) (pv 4)) (pe_op op_mul pe_int (pv 4))) (pv 5)) pa_nil)) pe_int))
      (pss_one (ps_if (pt_cmpR op_ge (pv 7) (pe_op op_pow pe_int pe_int) (nomark _)) (pss_cons (ps_expr (pe_bm PySem.F.plainAttrs_list PySem.F.slot_list_append PySem.F.type_list_append mt_append (pv 3) (pa_cons (pe_op op_mod (pe_callTy call_int1 (by rfl) M.int b_int (pa_cons (pv 7) pa_nil)) pe_int) pa_nil)))
      (pss_one (ps_asg (pe_op op_fdiv (pv 7) pe_int) (pg_sub (pv 2) (pv 6) set_list)))) (pss_one (ps_expr (pe_bm PySem.F.plainAttrs_list PySem.F.slot_list_append PySem.F.type_list_append mt_append (pv 3) (pa_cons (pe_op op_mod (pe_callTy call_int1 (by rfl) M.int b_int (pa_cons (pv 8) pa_nil)) pe_int) pa_nil)))))))))))
      (pss_cons (ps_expr (pe_bm0 PySem.F.plainAttrs_list PySem.F.slot_list_reverse PySem.F.type_list_reverse mt_reverse (pv 3)))
      (pss_one (ps_ret (pv 3))))))))), ?_⟩
  -- cells = list(script)
  refine ⟨_, rfl, a, _, rfl, .inl hS, fun l nl => ?_⟩
  dsimp only [gName]
  refine seq_split (t1 := tIfS _ _ _) (fun σ' H' => ∃ (c : Addr) (cs : List Int), σ' = [some (.ref a), some (.int (N : Nat)), some (.ref c), none, none, none, none, none, none] ∧ Same H H' ∧ H c = none ∧ H' c = some (.lst (cs.map V.int)) ∧ 0 < cs.length ∧ cs.length ≤ 1000) ?_ (fun rest => ?_)
  · rintro σ' H1 ⟨c, cs, rfl, k1, nc, hc, hc0, hcl⟩
    -- found = []
    refine ⟨by decide, fun B nB => ?_⟩
    have hBn : H B = none := by
      cases e : H B with
      | none => rfl
      | some o => rw [k1 _ _ e] at nB; cases nB
    have hcB : c ≠ B := ne_of_none hc nB
    have k2 := k1.trans (same_upd (o := .lst []) nB)
    have hc2 : upd H1 B (.lst []) c = some (.lst (cs.map V.int)) := by rw [upd_ne hcB]; exact hc
    have hB2 : upd H1 B (.lst []) B = some (.lst (([] : List Int).map V.int)) := upd_same
    generalize upd H1 B (.lst []) = H2 at k2 hc2 hB2 ⊢
    -- for k in range(count)
    refine ⟨_, rfl, _, rfl, by omega, by omega, for_range (lo := 0) (n := N) (fun i σ H' => ∃ (mx : Int) (cs : List Int) (fs : List Int) (y5 y6 y7 y8 : Option V), σ = [some (.ref a), some (.int (N : Nat)), some (.ref c), some (.ref B), some (.int mx), y5, y6, y7, y8] ∧ 0 ≤ mx ∧ mx < 2147483647 ∧ Same H H' ∧ H' c = some (.lst (cs.map V.int)) ∧ 0 < cs.length ∧ cs.length ≤ 1000 ∧ H' B = some (.lst (fs.map V.int)) ∧ fs.length = i)
      ⟨12345, cs, [], none, none, none, none, rfl, by decide, by decide, k2, hc2, hc0, hcl, hB2, rfl⟩ ?_ ?_⟩
    · rintro i σ H3 hi ⟨mx, cs, fs, y5, y6, y7, y8, rfl, hm0, hm1, k3, hc3, hc0, hcl, hB3, hfl⟩
      -- j = k % len(cells)
      refine ⟨_, rfl, _, rfl, c, _, rfl, .inl (SqL.of hc3), _, _, rfl, rfl, by rw [List.length_map]; omega, ?_⟩
      rw [List.length_map]
      dsimp only [gName]
      have j0 : 0 ≤ ((0 : Int) + (i : Int)) % (cs.length : Int) := Int.emod_nonneg _ (by omega)
      have j1 : ((0 : Int) + (i : Int)) % (cs.length : Int) < (cs.length : Int) := Int.emod_lt_of_pos _ (by omega)
      generalize ((0 : Int) + (i : Int)) % (cs.length : Int) = j at j0 j1 ⊢
      obtain ⟨jn, rfl⟩ : ∃ jn : Nat, j = (jn : Int) := ⟨j.toNat, by omega⟩
      have jl : jn < cs.length := by omega
      -- cell = cells[j]
      refine ⟨_, rfl, _, rfl, c, _, _, _, rfl, rfl, SqL.of hc3, atN (iV_get jl), ?_⟩
      generalize cs[jn] = cl
      -- mixed = ..
      refine ⟨_, rfl, _, _, rfl, rfl, .inr (by constructor <;> decide), _, rfl, .inl ⟨_, rfl, _, _, rfl, rfl, (by show (0 : Int) < 1000003; decide), _, _, rfl, rfl, .inr (by constructor <;> decide), _, _, rfl, rfl, _, rfl, _, _, rfl, rfl, .inr (by constructor <;> decide), _, _, rfl, rfl, _, _, rfl, rfl, .inl ⟨_, rfl, _, _, rfl, rfl, (by show (0 : Int) < 2147483647; decide), ?_⟩⟩⟩
      dsimp only [gName]
      have m0 : ∀ z : Int, 0 ≤ z % 2147483647 := fun z => Int.emod_nonneg _ (by decide)
      have m1 : ∀ z : Int, z % 2147483647 < 2147483647 := fun z => Int.emod_lt_of_pos _ (by decide)
      generalize hz : (mx * 48271 + cl % 1000003 * 69621 + (0 + (i : Int)) * 7919 + 11) = z
      have hm0' := m0 z
      have hm1' := m1 z
      generalize z % 2147483647 = my at hm0' hm1' ⊢
      -- again = ..
      refine ⟨_, rfl, _, rfl, _, _, rfl, rfl, .inl ⟨by omega, by omega⟩, _, rfl, _, _, rfl, rfl, .inl (by constructor <;> decide), _, _, rfl, rfl, _, rfl, _, _, rfl, rfl, .inl ⟨_, rfl, _, _, rfl, rfl, (by show (0 : Int) < 1000003; decide), ?_⟩⟩
      dsimp only [gName]
      generalize (my * my + 31 * my + (0 + (i : Int))) % 1000003 = ag
      have hBH : H B = none := hBn
      have hf1 : fs.length + 1 ≤ 1000 := by omega
      have bd : ∀ z : Int, (fs ++ [z]).length = i + 1 := fun z => by rw [List.length_append, hfl]; rfl
      have nB3 : ∀ b o, H b = some o → b ≠ B := fun b o e => ne_of_none e hBn
      have nc3 : ∀ b o, H b = some o → b ≠ c := fun b o e => ne_of_none e nc
      -- if cell >= 10 ** 18
      refine ⟨_, rfl, _, _, rfl, rfl, ⟨by decide, by decide, by decide⟩, _, _, rfl, rfl, _, rfl, ite2 (fun c1 => ?_) (fun c1 => ?_)⟩
      · refine ⟨_, rfl, .inl ⟨rfl, _, SqL.of hB3⟩, _, rfl, .inl ⟨_, rfl, _, _, rfl, rfl, (by show (0 : Int) < 1000; decide), B, _, _, rfl, rfl, hB3, by rw [List.length_map]; exact small1000 (by omega), ?_⟩⟩
        refine ⟨_, rfl, _, _, rfl, rfl, by constructor <;> decide, _, rfl, _, rfl, c, cs.map V.int, jn, jn, rfl, rfl, by rw [upd_ne hcB]; exact hc3, ?_, ?_⟩
        · rw [List.length_map]
          unfold ixN
          rw [if_pos (by omega), if_pos (by omega)]
          simp
        · refine ⟨my, cs.set jn (cl / 1000), fs ++ [cl % 1000], _, _, _, _, rfl, hm0', hm1', fun b o e => ?_, ?_, ?_, ?_, ?_, bd _⟩
          · rw [upd_ne (nc3 b o e), upd_ne (nB3 b o e)]
            exact k3 _ _ e
          · rw [upd_same, List.map_set]
          · rw [List.length_set]; exact hc0
          · rw [List.length_set]; exact hcl
          · rw [upd_ne hcB.symm, upd_same, List.map_append]
            rfl
      · refine ⟨_, rfl, .inl ⟨rfl, _, SqL.of hB3⟩, _, rfl, .inl ⟨_, rfl, _, _, rfl, rfl, (by show (0 : Int) < 1000; decide), B, _, _, rfl, rfl, hB3, by rw [List.length_map]; exact small1000 (by omega), ?_⟩⟩
        refine ⟨my, cs, fs ++ [ag % 1000], _, _, _, _, rfl, hm0', hm1', fun b o e => ?_, ?_, hc0, hcl, ?_, bd _⟩
        · rw [upd_ne (nB3 b o e)]
          exact k3 _ _ e
        · rw [upd_ne hcB]; exact hc3
        · rw [upd_same, List.map_append]
          rfl
    · rintro σ H3 ⟨mx, cs, fs, y5, y6, y7, y8, rfl, hm0, hm1, k3, hc3, hc0, hcl, hB3, hfl⟩
      -- found.reverse()
      refine ⟨_, rfl, .inl ⟨rfl, _, SqL.of hB3⟩, B, _, rfl, rfl, hB3, ?_⟩
      refine ⟨_, rfl, q B _ fs.reverse (fun b o e => by rw [upd_ne (ne_of_none e hBn)]; exact k3 _ _ e) hBn ?_⟩
      rw [upd_same, List.map_reverse]
  · have k2 := same_upd (o := .lst (ns.map V.int)) nl
    have hl : upd H l (.lst (ns.map V.int)) l = some (.lst (ns.map V.int)) := upd_same
    generalize upd H l (.lst (ns.map V.int)) = H2 at k2 hl ⊢
    refine ⟨_, rfl, l, _, rfl, .inl (SqL.of hl), rfl, _, rfl, ite2 (fun c1 => ?_) (fun c1 => ?_)⟩
    · refine ⟨by show 1 ≤ sizeLine; decide, fun l2 nl2 => rest _ _ ⟨l2, [7], rfl, k2.trans (same_upd nl2), ?_, upd_same, by decide, by decide⟩⟩
      cases e : H l2 with
      | none => rfl
      | some o => rw [k2 _ _ e] at nl2; cases nl2
    · have c1' : ¬ ((ns.map V.int).length : Int) = 0 := fun z => by
        apply c1
        rw [show V.int ((ns.map V.int).length : Int) = V.int 0 from by rw [z]]
        simp
      rw [List.length_map] at c1'
      exact rest _ _ ⟨l, ns, rfl, k2, nl, hl, by omega, hlen⟩
/-- _law_take: any draw that may come -/
def spTake : Sp := fun vs H Q _ => ∃ (t : Addr) (m : Int) (xs : List Int), vs = [.ref t, .int m] ∧ H t = some (.lst (xs.map V.int)) ∧ 0 < m ∧ ∀ (r : Int) (H' : Hp) (ys : List Int), 0 ≤ r → r < m → Keep t H H' → H' t = some (.lst (ys.map V.int)) → Q (.int r) H'
theorem ok_law_take {f : Addr} {fd : FuncData} (F : Dfn K mg "_law_take" st__law_take f fd ["draws", "limit"]) (M : Mg mg) : Cal P w K mg base 1 "_law_take" spTake := by
  refine cal_mk F sc_law_take (fun vs H Q E h => ?_) (fun cdv A outer s H vs Q E hr h => ?_)
  · obtain ⟨t, m, xs, rfl, _⟩ := h
    rfl
  obtain ⟨p, m, xs, rfl, hT, hm0, q⟩ := h
  refine ⟨_, (pss_cons (ps_if (pt_cmpR op_eq (pe_callB (cLen K rfl) (by rfl) M.len b_len (pa_cons (pv 0) pa_nil)) pe_int (nomark _)) (pss_one (ps_ret pe_int)) pss_nil)
      (pss_one (ps_ret (pe_op op_mod (pe_callTy call_int1 (by rfl) M.int b_int (pa_cons (pe_bm0 PySem.F.plainAttrs_list PySem.F.slot_list_pop PySem.F.type_list_pop mt_pop (pv 0)) pa_nil)) (pv 1))))), ?_⟩
  refine ⟨_, rfl, p, _, rfl, .inl (SqL.of hT), rfl, _, rfl, ite2 (fun c1 => ?_) (fun c1 => ?_)⟩
  · exact q 0 H xs (Int.le_refl 0) hm0 (Keep.refl _ _) hT
  · have c1' : ¬ ((xs.map V.int).length : Int) = 0 := fun z => by
      apply c1
      rw [show V.int ((xs.map V.int).length : Int) = V.int 0 from by rw [z]]
      simp
    rw [List.length_map] at c1'
    have hl : (xs.map V.int).length - 1 < xs.length := by rw [List.length_map]; omega
    refine ⟨_, rfl, .inl ⟨rfl, _, SqL.of hT⟩, p, _, _, rfl, rfl, hT, iV_get hl, .inl ⟨_, rfl, _, rfl, _, _, rfl, rfl, hm0, ?_⟩⟩
    exact q _ _ xs.dropLast (Int.emod_nonneg _ (by omega)) (Int.emod_lt_of_pos _ hm0) Keep.at (by rw [upd_same, List.map_dropLast])
end
section
variable {P : Program} {w : World} {K : PySem.W.Frag} {mg : Str → Option Value} {base : Heap}
/-- both stand for one datum of at most this depth -/
def spSame (K : PySem.W.Frag) (n : Nat) : Sp := fun vs H Q _ => ∃ (v u : V) (d : PyData), vs = [v, u] ∧ Dp K H v d ∧ Dp K H u d ∧ d.depth < n ∧ smD d = true ∧ ∀ H', Same H H' → Q (.bl true) H'
theorem same0 {f : Addr} {fd : FuncData} (F : Dfn K mg "_law_same" st__law_same f fd ["found", "due"]) : Cal P w K mg base 1 "_law_same" (spSame K 0) := by
  have no : ∀ vs H Q E, ¬ spSame K 0 vs H Q E := fun vs H Q E h => by
    obtain ⟨_, _, _, _, _, _, h1, _⟩ := h
    omega
  exact ⟨f, fd, _, ⟨fun vs H Q E h => absurd h (no vs H Q E), fun A outer s H args us vs Q E _ _ _ _ h => absurd h (no vs H Q E)⟩, F.mgf, F.fn.kp, F.b⟩
theorem ok_law_same {f : Addr} {fd : FuncData} {n k : Nat} (F : Dfn K mg "_law_same" st__law_same f fd ["found", "due"]) (M : Mg mg) (G_law_same : Cal P w K mg base k "_law_same" (spSame K n)) : Cal P w K mg base (k + 1) "_law_same" (spSame K (n + 1)) := by
  refine cal_mk F sc_law_same (fun vs H Q E h => ?_) (fun cdv A outer s H vs Q E hr h => ?_)
  · obtain ⟨v, u, d, rfl, _⟩ := h
    rfl
  obtain ⟨v, u, d, rfl, hv, hu', hdp, hsm, q⟩ := h
  have same1 : ∀ b c : Addr, ∀ (b : Bool), True := fun _ _ _ => True.intro
  -- the end: lengths, and all
  have fin : ∀ (a b : Addr) (xs ys : List V) (ds : List PyData), Sq K H a xs → Sq K H b ys → DpAll K H xs ds → DpAll K H ys ds → PyData.depthAll ds < n → ds.length ≤ 1000000 → smAll ds = true → xs.length = ds.length ∧ ys.length = ds.length := fun a b xs ys ds _ _ h1 h2 _ _ _ => ⟨DpAll_len h1, DpAll_len h2⟩
  refine ⟨_, (pss_cons (ps_if (pt_cmpR op_isN (pv 1) pe_non (nomark _)) (pss_one (ps_ret (pe_cmpR op_isN (pv 0) pe_non (nomark _)))) pss_nil)
      (pss_cons (ps_if (pt_val (pe_callB (cIsi K rfl) (by rfl) M.isinstance b_isinstance (pa_cons (pv 1) (pa_cons (pe_bltn (v := .ty "bool") (by rfl) M.bool b_bool rfl) pa_nil)))) (pss_one (ps_ret (pe_and (pe_callB (cIsi K rfl) (by rfl) M.isinstance b_isinstance (pa_cons (pv 0) (pa_cons (pe_bltn (v := .ty "bool") (by rfl) M.bool b_bool rfl) pa_nil))) (pe_one (pe_cmpR op_eq (pv 0) (pv 1) (nomark _)))))) pss_nil)
      (pss_cons (ps_if (pt_val (pe_callB (cIsi K rfl) (by rfl) M.isinstance b_isinstance (pa_cons (pv 1) (pa_cons (pe_bltn (v := .ty "int") (by rfl) M.int b_int rfl) pa_nil)))) (pss_one (ps_ret (pe_and (pe_callB (cIsi K rfl) (by rfl) M.isinstance b_isinstance (pa_cons (pv 0) (pa_cons (pe_bltn (v := .ty "int") (by rfl) M.int b_int rfl) pa_nil))) (pe_and (pe_not (pe_callB (cIsi K rfl) (by rfl) M.isinstance b_isinstance (pa_cons (pv 0) (pa_cons (pe_bltn (v := .ty "bool") (by rfl) M.bool b_bool rfl) pa_nil)))) (pe_one (pe_cmpR op_eq (pv 0) (pv 1) (nomark _))))))) pss_nil)
      (pss_cons (ps_if (pt_val (pe_callB (cIsi K rfl) (by rfl) M.isinstance b_isinstance (pa_cons (pv 1) (pa_cons (pe_bltn (v := .ty "str") (by rfl) M.str b_str rfl) pa_nil)))) (pss_one (ps_ret (pe_and (pe_callB (cIsi K rfl) (by rfl) M.isinstance b_isinstance (pa_cons (pv 0) (pa_cons (pe_bltn (v := .ty "str") (by rfl) M.str b_str rfl) pa_nil))) (pe_one (pe_cmpR op_eq (pv 0) (pv 1) (nomark _)))))) pss_nil)
      (pss_cons (ps_if (PW.pt (pw_or (pt_cmpR op_ne (pe_callB (cIsi K rfl) (by rfl) M.isinstance b_isinstance (pa_cons (pv 1) (pa_cons (pe_bltn (v := .ty "tuple") (by rfl) M.tuple b_tuple rfl) pa_nil))) (pe_callB (cIsi K rfl) (by rfl) M.isinstance b_isinstance (pa_cons (pv 0) (pa_cons (pe_bltn (v := .ty "tuple") (by rfl) M.tuple b_tuple rfl) pa_nil))) (nomark _)) (pw_or1 (pt_cmpR op_ne (pe_callB (cIsi K rfl) (by rfl) M.isinstance b_isinstance (pa_cons (pv 1) (pa_cons (pe_bltn (v := .ty "list") (by rfl) M.list b_list rfl) pa_nil))) (pe_callB (cIsi K rfl) (by rfl) M.isinstance b_isinstance (pa_cons (pv 0) (pa_cons (pe_bltn (v := .ty "list") (by rfl) M.list b_list rfl) pa_nil))) (nomark _))))) (pss_one (ps_ret pe_bl)) pss_nil)
      (pss_one (ps_ret (pe_and (pe_cmpR op_eq (pe_callB (cLen K rfl) (by rfl) M.len b_len (pa_cons (pv 0) pa_nil)) (pe_callB (cLen K rfl) (by rfl) M.len b_len (pa_cons (pv 1) pa_nil)) (nomark _)) (pe_one (pe_callB (cAll K rfl) (by rfl) M.all b_all (pa_cons (pe_lc (own := [("k", 2)]) (g := gName 2) (by rfl) sc_law_same.nd (pi_range1 (by rfl) M.range (pa_cons (pe_callB (cLen K rfl) (by rfl) M.len b_len (pa_cons (pv 1) pa_nil)) pa_nil)) (blkOk_by (own := [("k", 2)]) (N := ["found", "due", "k"]) (sc := defScope st__law_same) (by decide +kernel)) (fun _ _ _ _ _ => (pg_name (i := 2) sc_law_same.nd rfl (.inl rfl))) (fun _ _ _ _ _ => pts_nil) (fun _ _ _ _ _ => (pe_c G_law_same hr (by omega) (by rfl) (pa_cons (pe_ix (ixQ K rfl) (pv 0) (pv 2) (fun _ _ => rfl)) (pa_cons (pe_ix (ixQ K rfl) (pv 1) (pv 2) (fun _ _ => rfl)) pa_nil))))) pa_nil))))))))))), ?_⟩
  have tail : ∀ (a b : Addr) (xs ys : List V) (ds : List PyData), Sq K H a xs → Sq K H b ys → DpAll K H xs ds → DpAll K H ys ds → PyData.depthAll ds < n → ds.length ≤ 1000000 → smAll ds = true → ∀ D : Addr, H D = none →
      ∃ W : Nat → Nat → Hp → Prop, (∃ m, W 0 m (upd H D (.lst []))) ∧ ∀ i m H1, W i m H1 →
      ((Itr 0 ys.length).stop i H1 ∧ rAll K [.ref D] H1 Q) ∨ ((Itr 0 ys.length).go i H1 ∧ ∃ Nx : Hp → Prop, (∀ H', Nx H' → ∃ m', m' < m ∧ W (i + 1) m' H') ∧ ∀ x H', (Itr 0 ys.length).yld i H1 x H' → gName 2 x (wipe [some (.ref a), some (.ref b), none] [2]) H' fun σ2 H2 => wipe σ2 [2] = wipe [some (.ref a), some (.ref b), none] [2] ∧ tYes σ2 H2 fun c H3 =>
        if c = true then tCall (spSame K n) [] E0 (tCons (tOp (rIx K) (tVar 0) (tVar 2)) (tCons (tOp (rIx K) (tVar 1) (tVar 2)) tNil)) σ2 H3 fun y H4 => ∃ acc, H4 D = some (.lst acc) ∧ acc.length < sizeLine ∧ Nx (upd H4 D (.lst (acc ++ [y]))) else Nx H3) := by
    intro a b xs ys ds ha hb hx hy hdp hmil hsm D nD
    have ex := DpAll_len hx
    have ey := DpAll_len hy
    refine lc_range (lo := 0) (n := ys.length) (fun i H' => Same H H' ∧ H' D = some (.lst ((List.replicate i true).map V.bl))) ⟨same_upd nD, upd_same⟩ ?_ ?_
    · rintro i H' hi ⟨ss, hD⟩
      have hix : i < xs.length := by omega
      obtain ⟨d, hd, dx⟩ := DpAll.getE hx (List.getElem?_eq_getElem hix)
      obtain ⟨d', hd', dy⟩ := DpAll.getE hy (List.getElem?_eq_getElem hi)
      rw [hd] at hd'
      cases hd'
      have hdm := depth_mem (List.mem_of_getElem? hd)
      have e0 : (0 : Int) + (i : Int) = (i : Int) := Int.zero_add _
      refine ⟨rfl, ?_⟩
      unfold tYes
      refine iteT ⟨_, rfl, _, rfl, ixq (same_sq ss ha) (by rw [e0]; exact atN (List.getElem?_eq_getElem hix)) ⟨_, rfl, _, rfl, ixq (same_sq ss hb) (by rw [e0]; exact atN (List.getElem?_eq_getElem hi)) ⟨_, _, d, rfl, Dp.same ss d _ dx, Dp.same ss d _ dy, by omega, smAll_mem hsm (List.mem_of_getElem? hd), fun H4 s4 => ?_⟩⟩⟩
      refine ⟨_, s4 _ _ hD, ?_, fun c o e => ?_, ?_⟩
      · rw [List.length_map, List.length_replicate]
        show _ < 2 ^ 24
        omega
      · rw [upd_ne (ne_of_none e nD)]
        exact s4 _ _ (ss _ _ e)
      · rw [upd_same, List.replicate_succ', List.map_append]
        rfl
    · rintro H' ⟨ss, hD⟩
      refine ⟨D, List.replicate ys.length true, rfl, SqL.of hD, ?_⟩
      have e : (List.replicate ys.length true).all id = true := by
        rw [List.all_eq_true]
        intro x hx
        rw [List.eq_of_mem_replicate hx]
        rfl
      rw [e]
      exact q H' ss
  cases hv with
  | non =>
    cases hu'
    exact ⟨_, rfl, rfl, _, rfl, iteT ⟨_, rfl, rfl, q H fun _ _ e => e⟩⟩
  | bl b =>
    cases hu'
    refine ⟨_, rfl, rfl, _, rfl, iteF ?_⟩
    refine ⟨_, rfl, _, _, _, _, true, rfl, .ty "bool", .base (.bl b), kit_ty k_bb, true, rfl, iteT ?_⟩
    exact ⟨_, rfl, _, _, _, _, true, rfl, .ty "bool", .base (.bl b), kit_ty k_bb, true, rfl, iteT ⟨_, rfl, _, rfl, rfl, by rw [decide_eq_true rfl]; exact q H fun _ _ e => e⟩⟩
  | int i =>
    cases hu'
    refine ⟨_, rfl, rfl, _, rfl, iteF ?_⟩
    refine ⟨_, rfl, _, _, _, _, false, rfl, .ty "bool", .base (.int i), kit_ty k_ib, false, rfl, iteF ?_⟩
    refine ⟨_, rfl, _, _, _, _, true, rfl, .ty "int", .base (.int i), kit_ty k_ii, true, rfl, iteT ?_⟩
    refine ⟨_, rfl, _, _, _, _, true, rfl, .ty "int", .base (.int i), kit_ty k_ii, true, rfl, iteT ?_⟩
    refine ⟨_, rfl, _, _, _, _, false, rfl, .ty "bool", .base (.int i), kit_ty k_ib, false, rfl, true, rfl, iteT ?_⟩
    exact ⟨_, rfl, _, rfl, rfl, by rw [decide_eq_true rfl]; exact q H fun _ _ e => e⟩
  | str x =>
    cases hu'
    refine ⟨_, rfl, rfl, _, rfl, iteF ?_⟩
    refine ⟨_, rfl, _, _, _, _, false, rfl, .ty "bool", .base (.str x), kit_ty k_sb, false, rfl, iteF ?_⟩
    refine ⟨_, rfl, _, _, _, _, false, rfl, .ty "int", .base (.str x), kit_ty k_si, false, rfl, iteF ?_⟩
    refine ⟨_, rfl, _, _, _, _, true, rfl, .ty "str", .base (.str x), kit_ty k_ss, true, rfl, iteT ?_⟩
    exact ⟨_, rfl, _, _, _, _, true, rfl, .ty "str", .base (.str x), kit_ty k_ss, true, rfl, iteT ⟨_, rfl, _, rfl, rfl, by rw [decide_eq_true rfl]; exact q H fun _ _ e => e⟩⟩
  | @tup a xs ds ha hx =>
    cases hu' with
    | @tup b ys _ hb hy =>
    refine ⟨_, rfl, rfl, _, rfl, iteF ?_⟩
    refine ⟨_, rfl, _, _, _, _, false, rfl, .ty "bool", tyT hb, kit_ty k_tb, false, rfl, iteF ?_⟩
    refine ⟨_, rfl, _, _, _, _, false, rfl, .ty "int", tyT hb, kit_ty k_ti, false, rfl, iteF ?_⟩
    refine ⟨_, rfl, _, _, _, _, false, rfl, .ty "str", tyT hb, kit_ty k_ts, false, rfl, iteF ?_⟩
    refine ⟨_, rfl, _, _, _, _, true, rfl, .ty "tuple", tyT hb, kit_ty k_tt, _, rfl, _, _, _, _, true, rfl, .ty "tuple", tyT ha, kit_ty k_tt, rfl, _, rfl, iteNS rfl ?_⟩
    refine ⟨_, rfl, _, _, _, _, false, rfl, .ty "list", tyT hb, kit_ty k_tl, _, rfl, _, _, _, _, false, rfl, .ty "list", tyT ha, kit_ty k_tl, rfl, _, rfl, iteNS rfl ?_⟩
    simp only [PyData.depth] at hdp
    simp only [smD, Bool.and_eq_true, decide_eq_true_eq] at hsm
    obtain ⟨l1, l2⟩ := fin a b xs ys ds (.inr ha) (.inr hb) hx hy (by omega) hsm.1 hsm.2
    refine ⟨_, rfl, a, xs, rfl, .inr ha, _, rfl, b, ys, rfl, .inr hb, rfl, _, rfl, ?_⟩
    rw [decide_eq_true (show V.int (xs.length : Int) = V.int (ys.length : Int) by rw [l1, l2])]
    refine iteT ⟨_, rfl, b, ys, rfl, .inr hb, _, rfl, by omega, by omega, fun D nD => ?_⟩
    exact tail a b xs ys ds (.inr ha) (.inr hb) hx hy (by omega) hsm.1 hsm.2 D nD
  | @lst a xs ds ha hx =>
    cases hu' with
    | @lst b ys _ hb hy =>
    refine ⟨_, rfl, rfl, _, rfl, iteF ?_⟩
    refine ⟨_, rfl, _, _, _, _, false, rfl, .ty "bool", tyL hb, kit_ty k_lb, false, rfl, iteF ?_⟩
    refine ⟨_, rfl, _, _, _, _, false, rfl, .ty "int", tyL hb, kit_ty k_li, false, rfl, iteF ?_⟩
    refine ⟨_, rfl, _, _, _, _, false, rfl, .ty "str", tyL hb, kit_ty k_ls, false, rfl, iteF ?_⟩
    refine ⟨_, rfl, _, _, _, _, false, rfl, .ty "tuple", tyL hb, kit_ty k_lt, _, rfl, _, _, _, _, false, rfl, .ty "tuple", tyL ha, kit_ty k_lt, rfl, _, rfl, iteNS rfl ?_⟩
    refine ⟨_, rfl, _, _, _, _, true, rfl, .ty "list", tyL hb, kit_ty k_ll, _, rfl, _, _, _, _, true, rfl, .ty "list", tyL ha, kit_ty k_ll, rfl, _, rfl, iteNS rfl ?_⟩
    simp only [PyData.depth] at hdp
    simp only [smD, Bool.and_eq_true, decide_eq_true_eq] at hsm
    obtain ⟨l1, l2⟩ := fin a b xs ys ds (.inl ha) (.inl hb) hx hy (by omega) hsm.1 hsm.2
    refine ⟨_, rfl, a, xs, rfl, .inl ha, _, rfl, b, ys, rfl, .inl hb, rfl, _, rfl, ?_⟩
    rw [decide_eq_true (show V.int (xs.length : Int) = V.int (ys.length : Int) by rw [l1, l2])]
    refine iteT ⟨_, rfl, b, ys, rfl, .inl hb, _, rfl, by omega, by omega, fun D nD => ?_⟩
    exact tail a b xs ys ds (.inl ha) (.inl hb) hx hy (by omega) hsm.1 hsm.2 D nD
theorem same_all {f : Addr} {fd : FuncData} (F : Dfn K mg "_law_same" st__law_same f fd ["found", "due"]) (M : Mg mg) : ∀ n : Nat, Cal P w K mg base (n + 1) "_law_same" (spSame K n)
  | 0 => same0 F
  | n + 1 => ok_law_same F M (same_all F M n)
end
end W4
set_option Elab.async false
set_option linter.all false
set_option maxRecDepth 100000
set_option maxHeartbeats 4000000
namespace W4
open PySem PySem.Spec PyProof.Rows L2 Com
/-! what is read is neither deep nor long -/
def Lv (L : Nat) (d : PyData) : Prop := d.depth ≤ 2 * (60 - L) + 1 ∧ smD d = true
def Fok : List Fr → Prop
  | [] => True
  | f :: r => (∀ d ∈ f.ps, Lv (r.length + 1) d) ∧ Fok r
theorem depthAll_le {k : Nat} : ∀ {ds : List PyData}, (∀ d ∈ ds, d.depth ≤ k) → PyData.depthAll ds ≤ k
  | [], _ => Nat.zero_le _
  | d :: ds, h => by
    simp only [PyData.depthAll]
    have h1 := h d List.mem_cons_self
    have h2 := depthAll_le (ds := ds) fun x hx => h x (List.mem_cons_of_mem _ hx)
    omega
theorem smAll_of : ∀ {ds : List PyData}, (∀ d ∈ ds, smD d = true) → smAll ds = true
  | [], _ => rfl
  | d :: ds, h => by
    simp only [smAll, Bool.and_eq_true]
    exact ⟨h d List.mem_cons_self, smAll_of fun x hx => h x (List.mem_cons_of_mem _ hx)⟩
theorem lv_atom {L : Nat} {s : Str} {w : T} {pl : Nat} : Lv L (atomD s w pl) := by
  unfold Lv atomD
  split
  · exact ⟨by simp only [PyData.depth, PyData.depthAll]; omega, by simp [smD, smAll]⟩
  split
  · exact ⟨by simp only [PyData.depth, PyData.depthAll]; omega, by simp [smD, smAll]⟩
  split
  · exact ⟨by simp only [PyData.depth, PyData.depthAll]; omega, by simp [smD, smAll]⟩
  split
  · exact ⟨by simp only [PyData.depth, PyData.depthAll]; omega, by simp [smD, smAll]⟩
  · exact ⟨by simp only [PyData.depth, PyData.depthAll]; omega, by simp [smD, smAll]⟩
theorem lv_nam {L : Nat} {s : Str} {pl : Nat} : Lv L (namD s pl) := by
  unfold Lv namD
  exact ⟨by simp only [PyData.depth, PyData.depthAll]; omega, by simp [smD, smAll]⟩
theorem lv_lst {L : Nat} {ps : List PyData} {pl : Nat} (hL : L + 1 ≤ 60) (hp : ∀ d ∈ ps, Lv (L + 1) d) (hl : ps.length ≤ 1000000) : Lv L (lstD ps pl) := by
  have h1 := depthAll_le (k := 2 * (60 - (L + 1)) + 1) fun d hd => (hp d hd).1
  have h2 := smAll_of fun d hd => (hp d hd).2
  unfold Lv lstD
  refine ⟨?_, ?_⟩
  · simp only [PyData.depth, PyData.depthAll]
    omega
  · simp [smD, smAll, h2, hl]
theorem put_ok {D : PyData} : ∀ {st : List Fr} {fm : List PyData} {ss : List Nat} {D : PyData}, st.length ≤ 60 → Fok st → (∀ f ∈ st, f.ps.length ≤ 900000) → (∀ d ∈ fm, Lv 0 d) → Lv st.length D → Fok (put st fm ss D).st ∧ ∀ d ∈ (put st fm ss D).fm, Lv 0 d
  | [], fm, ss, D, _, _, _, hf, hD => ⟨True.intro, fun d hd => by
    rcases List.mem_append.mp hd with h | h
    · exact hf d h
    · rw [List.mem_singleton.mp h]
      exact hD⟩
  | f :: r, fm, ss, D, hl, ⟨h1, h2⟩, hp, hf, hD => by
    have hl' : r.length + 1 ≤ 60 := hl
    unfold put
    split
    · refine ⟨⟨fun d hd => ?_, h2⟩, hf⟩
      rcases List.mem_append.mp hd with h | h
      · exact h1 d h
      · rw [List.mem_singleton.mp h]
        exact hD
    · refine put_ok (D := D) (st := r) (by omega) h2 (fun g hg => hp g (List.mem_cons_of_mem _ hg)) hf (lv_lst hl' (fun d hd => ?_) ?_)
      · rcases List.mem_append.mp hd with h | h
        · exact h1 d (List.mem_of_mem_take h)
        · rw [List.mem_singleton.mp h]
          exact hD
      · have := List.length_take (i := 1) (l := f.ps)
        rw [List.length_append, List.length_singleton]
        omega
structure Gd (cf : Cf) : Prop where
  st : Fok cf.st
  fm : ∀ d ∈ cf.fm, Lv 0 d
theorem gd_step {t : T} {n : Nat} {cf cf' : Cf} {k : Tok} (hb : Bd n cf.st cf.fm cf.ss) (hn : n ≤ 6000) (h : Gd cf) (e : step t cf k = .ok cf') : Gd cf' := by
  have hp : ∀ f ∈ cf.st, f.ps.length ≤ 900000 := fun f hf => Nat.le_trans (hb.bp f hf) (by omega)
  unfold step at e
  split at e
  · cases e
  split at e
  · obtain rfl := Except.ok.inj e
    obtain ⟨h1, h2⟩ := put_ok (D := .none) (ss := cf.ss ++ [k.2.1]) hb.bt h.st hp h.fm (lv_atom (s := k.1) (w := wrd t k.2.1 k.2.2) (pl := cf.ss.length))
    exact ⟨h1, h2⟩
  split at e
  · cases hst : cf.st with
    | nil =>
      rw [hst] at e
      cases e
    | cons f r =>
      rw [hst] at e
      dsimp only at e
      have hs := h.st
      have hbt := hb.bt
      rw [hst] at hs hp hbt
      have hbt' : r.length + 1 ≤ 60 := hbt
      split at e
      · obtain rfl := Except.ok.inj e
        obtain ⟨h1, h2⟩ := put_ok (D := .none) (ss := cf.ss) (st := r) (by omega) hs.2 (fun g hg => hp g (List.mem_cons_of_mem _ hg)) h.fm (lv_lst (pl := f.pl) hbt' hs.1 (by have := hp f List.mem_cons_self; omega))
        exact ⟨h1, h2⟩
      · cases e
  split at e
  · cases e
  split at e
  · obtain rfl := Except.ok.inj e
    exact ⟨⟨(fun d hd => by cases hd), h.st⟩, h.fm⟩
  · obtain rfl := Except.ok.inj e
    refine ⟨⟨fun d hd => ?_, h.st⟩, h.fm⟩
    rw [List.mem_singleton.mp hd]
    exact lv_nam
theorem gd_run {t : T} : ∀ (ks : List Tok) (cf cf' : Cf) (n : Nat), Bd n cf.st cf.fm cf.ss → n + ks.length ≤ 6000 → Gd cf → runM t cf ks = .ok cf' → Gd cf'
  | [], cf, cf', n, hb, hn, h, e => by
    obtain rfl := Except.ok.inj e
    exact h
  | k :: ks, cf, cf', n, hb, hn, h, e => by
    rw [List.length_cons] at hn
    rw [runM_cons] at e
    cases hs : step t cf k with
    | error b =>
      rw [hs] at e
      cases e
    | ok c2 =>
      rw [hs] at e
      exact gd_run ks c2 cf' (n + 1) (bd_step hb hs) (by omega) (gd_step hb (by omega) h hs) e
def goodD (fm : List PyData) (ss : List Nat) : PyData := .tuple [.str "good", .tuple fm, .list (ss.map fun n => .int (n : Nat))]
theorem good_ok {t : T} {fm : List PyData} {ss : List Nat} (h : readM t = .ok (fm, ss)) : (goodD fm ss).depth < 125 ∧ smD (goodD fm ss) = true := by
  have hlen := readM_len h
  have hg : ∀ d ∈ fm, Lv 0 d := by
    unfold readM at h
    split at h
    · cases h
    rename_i hl
    have hl6 : (toksF t 0).length ≤ 6000 := by
      have := toksF_len (t := t) t.length (a := 0) (by omega)
      omega
    cases hr : runM t ⟨[], [], []⟩ (toksF t 0) with
    | error b =>
      rw [hr] at h
      cases h
    | ok cf =>
      rw [hr] at h
      dsimp only at h
      have := gd_run _ ⟨[], [], []⟩ _ 0 ⟨Nat.zero_le _, Nat.zero_le _, Nat.zero_le _, (fun f hf => by cases hf), (fun f hf => by cases hf)⟩ (by omega) ⟨True.intro, (fun d hd => by cases hd)⟩ hr
      split at h
      · obtain ⟨rfl, rfl⟩ := Prod.mk.inj (Except.ok.inj h)
        exact this.fm
      · cases h
  have h1 := depthAll_le (k := 121) fun d hd => (hg d hd).1
  have h2 := smAll_of fun d hd => (hg d hd).2
  have h3 : PyData.depthAll (ss.map fun n => PyData.int (n : Nat)) ≤ 0 := depthAll_le fun d hd => by
    obtain ⟨x, _, rfl⟩ := List.mem_map.mp hd
    simp only [PyData.depth]
    omega
  have h4 : smAll (ss.map fun n => PyData.int (n : Nat)) = true := smAll_of fun d hd => by
    obtain ⟨x, _, rfl⟩ := List.mem_map.mp hd
    simp [smD]
  unfold goodD
  refine ⟨?_, ?_⟩
  · simp only [PyData.depth, PyData.depthAll]
    omega
  · have e1 : fm.length ≤ 1000000 := by omega
    have e2 : ss.length ≤ 1000000 := by omega
    simp [smD, smAll, h2, h4, e1, e2]
end W4
set_option Elab.async false
set_option linter.all false
set_option maxRecDepth 100000
set_option maxHeartbeats 4000000
namespace W4
open PySem PySem.Spec PyProof.Rows L2 Com SX GxR
/-! texts that the law makes -/
def OkS (x : Str) (n : Nat) : Prop := x.cps.toList.length ≤ n ∧ ∀ c ∈ x.cps.toList, c < 1114112
theorem OkS.len {x : Str} {n : Nat} (h : OkS x n) : x.length ≤ n := by
  have := h.1
  rw [Array.length_toList] at this
  exact this
theorem OkS.mono {x : Str} {n m : Nat} (h : OkS x n) (k : n ≤ m) : OkS x m := ⟨Nat.le_trans h.1 k, h.2⟩
theorem OkS.app {x y : Str} {n m : Nat} (a : OkS x n) (b : OkS y m) : OkS (x ++ y) (n + m) := by
  have e : (x ++ y).cps.toList = x.cps.toList ++ y.cps.toList := Array.toList_append
  refine ⟨?_, fun c hc => ?_⟩
  · rw [e, List.length_append]
    have := a.1
    have := b.1
    omega
  · rw [e] at hc
    rcases List.mem_append.mp hc with h | h
    · exact a.2 c h
    · exact b.2 c h
theorem OkS.cut {x : Str} {n : Nat} {lo hi : Option Int} (a : OkS x n) : OkS (cutS x lo hi) n := by
  unfold cutS
  refine ⟨?_, fun c hc => ?_⟩
  · show (List.take _ _).length ≤ n
    rw [List.length_take, List.length_drop]
    have := a.1
    omega
  · exact a.2 c (List.mem_of_mem_drop (List.mem_of_mem_take hc))
theorem OkS.sg {x : Str} {n c i : Nat} (a : OkS x n) (h : x.cps.toList[i]? = some c) : OkS ⟨#[c]⟩ 1 := ⟨Nat.le_refl _, fun d hd => by
  have : d = c := List.mem_singleton.mp hd
  rw [this]
  exact a.2 c (List.mem_of_getElem? h)⟩
theorem OkS.lit {x : Str} {n : Nat} (h : (decide (x.cps.toList.length ≤ n) && x.cps.toList.all fun c => decide (c < 1114112)) = true) : OkS x n := by
  rw [Bool.and_eq_true, decide_eq_true_iff, List.all_eq_true] at h
  exact ⟨h.1, fun c hc => of_decide_eq_true (h.2 c hc)⟩
theorem join_ok {n : Nat} : ∀ {ys : List Str}, (∀ y ∈ ys, OkS y n) → OkS (Txt.join "" ys) (ys.length * n)
  | ys, h => by
    rw [TL.join_eq]
    have e : ∀ zs : List Str, (∀ y ∈ zs, OkS y n) → (TL.joinL (TL.tl "") (zs.map TL.tl)).length ≤ zs.length * n ∧ ∀ c ∈ TL.joinL (TL.tl "") (zs.map TL.tl), c < 1114112 := by
      intro zs
      induction zs with
      | nil => intro _; exact ⟨Nat.zero_le _, fun c hc => by cases hc⟩
      | cons z r ih =>
        intro hz
        have h1 := hz z List.mem_cons_self
        obtain ⟨h2, h3⟩ := ih fun y hy => hz y (List.mem_cons_of_mem _ hy)
        cases r with
        | nil =>
          refine ⟨?_, fun c hc => h1.2 c hc⟩
          have := h1.1
          show z.cps.toList.length ≤ 1 * n
          omega
        | cons z2 r =>
          have ej : TL.joinL (TL.tl "") ((z :: z2 :: r).map TL.tl) = z.cps.toList ++ TL.joinL (TL.tl "") ((z2 :: r).map TL.tl) := rfl
          rw [ej]
          refine ⟨?_, fun c hc => ?_⟩
          · rw [List.length_append, List.length_cons, Nat.succ_mul]
            have := h1.1
            omega
          · rcases List.mem_append.mp hc with h | h
            · exact h1.2 c h
            · exact h3 c h
    obtain ⟨h1, h2⟩ := e ys h
    have et := TL.tl_join "" ys
    refine ⟨?_, fun c hc => ?_⟩
    · show (TL.tl (Str.join "" ys)).length ≤ _
      rw [et]
      exact h1
    · have hc' : c ∈ TL.tl (Str.join "" ys) := hc
      rw [et] at hc'
      exact h2 c hc'
theorem sum_ok {n : Nat} : ∀ {ys : List Str}, (∀ y ∈ ys, OkS y n) → (ys.map (·.length)).sum ≤ ys.length * n
  | [], _ => Nat.zero_le _
  | y :: ys, h => by
    have h1 := (h y List.mem_cons_self).len
    have h2 := sum_ok fun z hz => h z (List.mem_cons_of_mem _ hz)
    rw [List.map_cons, List.sum_cons, List.length_cons, Nat.succ_mul]
    omega
theorem OkS.ok {x : Str} {n : Nat} (h : OkS x n) (hn : n ≤ 1000000) : x = S x.cps.toList ∧ Ok x.cps.toList := by
  refine ⟨?_, Nat.le_trans h.1 hn, h.2⟩
  cases x
  unfold S
  simp
theorem atI_mem {xs : List V} {i : Int} (h0 : 0 ≤ i) (h1 : i < (xs.length : Int)) : ∃ v, atI xs i = some v ∧ v ∈ xs := by
  obtain ⟨n, rfl⟩ : ∃ n : Nat, i = (n : Int) := ⟨i.toNat, by omega⟩
  have hn : n < xs.length := by omega
  exact ⟨xs[n], atI_nat (List.getElem?_eq_getElem hn), List.getElem_mem hn⟩
theorem atI_mem' {xs : List Nat} {i : Int} (h0 : 0 ≤ i) (h1 : i < (xs.length : Int)) : ∃ (n c : Nat), atI xs i = some c ∧ xs[n]? = some c := by
  obtain ⟨n, rfl⟩ : ∃ n : Nat, i = (n : Int) := ⟨i.toNat, by omega⟩
  have hn : n < xs.length := by omega
  exact ⟨n, xs[n], atI_nat (List.getElem?_eq_getElem hn), List.getElem?_eq_getElem hn⟩
theorem dp_ints {K : PySem.W.Frag} {H : Hp} : ∀ l : List Nat, DpAll K H (l.map fun n => V.int (n : Nat)) (l.map fun n => PyData.int (n : Nat))
  | [] => .nil
  | a :: l => .cons (.int _) (dp_ints l)
section
variable {PN PD : Addr}
theorem TT.keep {td : Addr} {H H' : Hp} {xs : List V} (h : TT PN PD H) (k : Keep td H H') (e : H td = some (.lst xs)) : TT PN PD H' := by
  obtain ⟨⟨p1, h1, h2⟩, ⟨p2, h3, h4⟩⟩ := h
  exact ⟨⟨p1, k _ _ h1 (fun z => by rw [z, e] at h1; cases h1), h2⟩, ⟨p2, k _ _ h3 (fun z => by rw [z, e] at h3; cases h3), h4⟩⟩
end
theorem Keep.new {td p : Addr} {H : Hp} {o : HO} (np : H p = none) : Keep td H (upd H p o) := fun b u e _ => by rw [upd_ne (ne_of_none e np)]; exact e
theorem pick {K : PySem.W.Frag} {H : Hp} {td p : Addr} {xs : List V} {ys : List Int} {m : Int} {Q : VK} (htd : H td = some (.lst (ys.map V.int))) (np : H p = none) (hm : (xs.length : Int) = m) (h0 : 0 < m)
    (q : ∀ v ∈ xs, ∀ H' (us : List Int), Keep td H H' → H' td = some (.lst (us.map V.int)) → Q v H') : spTake [.ref td, .int m] (upd H p (.tup xs)) (fun v H2 => rIxT K (.ref p) v H2 Q) E0 := by
  have hptd : p ≠ td := fun z => by rw [z, htd] at np; cases np
  refine ⟨td, m, ys, rfl, by rw [upd_ne (Ne.symm hptd)]; exact htd, h0, fun r H5 us hr0 hr1 k5 htd5 => ?_⟩
  have hp5 := k5 p _ upd_same hptd
  obtain ⟨v, hv, hvm⟩ := atI_mem (xs := xs) hr0 (by rw [hm]; exact hr1)
  exact ixt hp5 hv (q v hvm H5 us ((Keep.new np).trans k5) htd5)
section
variable {P : Program} {w : World} {K : PySem.W.Frag} {mg : Str → Option Value} {base : Heap} {PN PD : Addr}
def spText : Sp := fun vs H Q _ => ∃ (td : Addr) (xs : List Int), vs = [.ref td] ∧ H td = some (.lst (xs.map V.int)) ∧ ∀ x H' (ys : List Int), OkS x 100000 → Keep td H H' → H' td = some (.lst (ys.map V.int)) → Q (.str x) H'
theorem ok_long {f : Addr} {fd : FuncData} (F : Dfn K mg "_law_long" st__law_long f fd ["draws"]) (M : Mg mg) (G_law_take : Cal P w K mg base 1 "_law_take" spTake) : Cal P w K mg base 2 "_law_long" spText := by
  refine cal_mk F sc_law_long (fun vs H Q E h => ?_) (fun cdv A outer s H vs Q E hr h => ?_)
  · obtain ⟨td, xs, rfl, _⟩ := h
    rfl
  obtain ⟨td, xs, rfl, htd, q⟩ := h
  have hsl : sizeLine = 16777216 := sizeLine_eq
  refine ⟨_, (pss_cons (ps_set (i := 1) sc_law_long.nd rfl (.inl rfl) (pe_op op_add pe_int (pe_c G_law_take hr (by omega) (by rfl) (pa_cons (pv 0) (pa_cons pe_int pa_nil)))))
      (pss_cons (ps_set (i := 2) sc_law_long.nd rfl (.inl rfl) (pe_ix (ixT K rfl) (pe_tup (pa_cons pe_str (pa_cons pe_str (pa_cons pe_str (pa_cons pe_str (pa_cons pe_str (pa_cons pe_str (pa_cons pe_str pa_nil)))))))) (pe_c G_law_take hr (by omega) (by rfl) (pa_cons (pv 0) (pa_cons pe_int pa_nil))) (fun _ _ => rfl)))
      (pss_cons (ps_set (i := 3) sc_law_long.nd rfl (.inl rfl) (pe_ix (ixT K rfl) (pe_tup (pa_cons pe_str (pa_cons pe_str (pa_cons pe_str (pa_cons pe_str (pa_cons pe_str pa_nil)))))) (pe_c G_law_take hr (by omega) (by rfl) (pa_cons (pv 0) (pa_cons pe_int pa_nil))) (fun _ _ => rfl)))
      (pss_one (ps_ret (pe_slice sl_str (pe_op op_add_str (pv 2) (pe_op op_mulS (pv 3) pe_int)) po_none (po_some (pv 1)))))))), ?_⟩
  refine ⟨_, rfl, td, _, xs, rfl, htd, by decide, fun r H1 ys hr0 hr9 k1 htd1 => ⟨_, _, rfl, rfl, ?_⟩⟩
  dsimp only [gName]
  refine ⟨by show 7 ≤ sizeLine; decide, fun p np => ⟨_, rfl, pick htd1 np rfl (by decide) fun v hv H2 zs k2 htd2 => ?_⟩⟩
  have hvo : ∃ z, v = .str z ∧ OkS z 10 := by
    simp only [List.mem_cons, List.not_mem_nil, or_false] at hv
    rcases hv with rfl | rfl | rfl | rfl | rfl | rfl | rfl <;> exact ⟨_, rfl, OkS.lit (by decide +kernel)⟩
  obtain ⟨z, rfl, oz⟩ := hvo
  dsimp only [gName]
  refine ⟨by show 5 ≤ sizeLine; decide, fun p2 np2 => ⟨_, rfl, pick htd2 np2 rfl (by decide) fun v hv H3 us k3 htd3 => ?_⟩⟩
  have hvo : ∃ z, v = .str z ∧ OkS z 4 := by
    simp only [List.mem_cons, List.not_mem_nil, or_false] at hv
    rcases hv with rfl | rfl | rfl | rfl | rfl <;> exact ⟨_, rfl, OkS.lit (by decide +kernel)⟩
  obtain ⟨y, rfl, oy⟩ := hvo
  have hyl := oy.len
  have hzl := oz.len
  dsimp only [gName]
  refine ⟨_, rfl, _, rfl, y, 6003, rfl, rfl, by decide, by decide, by omega, fun g hg1 hg2 => ?_⟩
  have og : OkS g 24012 := ⟨Nat.le_trans hg1 (by omega), fun c hc => oy.2 c (hg2 c hc)⟩
  have hgl := og.len
  have oo := oz.app og
  have hol := oo.len
  refine ⟨_, _, rfl, rfl, by omega, _, rfl, _, rfl, _, rfl, by omega, ?_⟩
  exact q _ H3 us (oo.cut.mono (by decide)) ((k1.trans k2).trans k3) htd3
theorem ok_deep {f : Addr} {fd : FuncData} (F : Dfn K mg "_law_deep" st__law_deep f fd ["draws"]) (M : Mg mg) (G_law_take : Cal P w K mg base 1 "_law_take" spTake) : Cal P w K mg base 2 "_law_deep" spText := by
  refine cal_mk F sc_law_deep (fun vs H Q E h => ?_) (fun cdv A outer s H vs Q E hr h => ?_)
  · obtain ⟨td, xs, rfl, _⟩ := h
    rfl
  obtain ⟨td, xs, rfl, htd, q⟩ := h
  have hsl : sizeLine = 16777216 := sizeLine_eq
  refine ⟨_, (pss_cons (ps_set (i := 1) sc_law_deep.nd rfl (.inl rfl) (pe_op op_add pe_int (pe_c G_law_take hr (by omega) (by rfl) (pa_cons (pv 0) (pa_cons pe_int pa_nil)))))
      (pss_cons (ps_set (i := 2) sc_law_deep.nd rfl (.inl rfl) pe_str)
      (pss_cons (ps_set (i := 3) sc_law_deep.nd rfl (.inl rfl) pe_str)
      (pss_cons (ps_for PassesOwn.never rfl (pi_range1 (by rfl) M.range (pa_cons (pv 1) pa_nil)) (pg_name (i := 4) sc_law_deep.nd rfl (.inl rfl))
      (pss_cons (ps_set (i := 5) sc_law_deep.nd rfl (.inl rfl) (pe_ix (ixT K rfl) (pe_tup (pa_cons pe_str (pa_cons pe_str (pa_cons pe_str (pa_cons pe_str (pa_cons pe_str (pa_cons pe_str pa_nil))))))) (pe_c G_law_take hr (by omega) (by rfl) (pa_cons (pv 0) (pa_cons pe_int pa_nil))) (fun _ _ => rfl)))
      (pss_cons (ps_set (i := 2) sc_law_deep.nd rfl (.inl rfl) (pe_op op_add_str (pe_op op_add_str (pv 2) (pv 5)) (pe_ix (ixT K rfl) (pe_tup (pa_cons pe_str (pa_cons pe_str (pa_cons pe_str pa_nil)))) (pe_c G_law_take hr (by omega) (by rfl) (pa_cons (pv 0) (pa_cons pe_int pa_nil))) (fun _ _ => rfl))))
      (pss_one (ps_set (i := 3) sc_law_deep.nd rfl (.inl rfl) (pe_op op_add_str (pe_ifExp (pt_cmpR op_eq (pe_ix ix_str (pv 5) pe_int (fun _ _ => rfl)) pe_str (nomark _)) pe_str pe_str) (pv 3)))))))
      (pss_cons (ps_set (i := 2) sc_law_deep.nd rfl (.inl rfl) (pe_op op_add_str (pe_op op_add_str (pv 2) (pe_ix (ixT K rfl) (pe_tup (pa_cons pe_str (pa_cons pe_str (pa_cons pe_str (pa_cons pe_str (pa_cons pe_str (pa_cons pe_str pa_nil))))))) (pe_c G_law_take hr (by omega) (by rfl) (pa_cons (pv 0) (pa_cons pe_int pa_nil))) (fun _ _ => rfl))) (pv 3)))
      (pss_one (ps_ret (pe_slice sl_str (pv 2) po_none (po_some (pe_op op_sub (pe_callB call_len_str (by rfl) M.len b_len (pa_cons (pv 2) pa_nil)) (pe_ix (ixT K rfl) (pe_tup (pa_cons pe_int (pa_cons pe_int (pa_cons pe_int (pa_cons pe_int (pa_cons pe_int pa_nil)))))) (pe_c G_law_take hr (by omega) (by rfl) (pa_cons (pv 0) (pa_cons pe_int pa_nil))) (fun _ _ => rfl)))))))))))), ?_⟩
  refine ⟨_, rfl, td, _, xs, rfl, htd, by decide, fun r H1 ys hr0 hr9 k1 htd1 => ⟨_, _, rfl, rfl, ?_⟩⟩
  dsimp only [gName]
  refine ⟨_, rfl, (58 : Int) + r, rfl, by omega, by omega, for_range (lo := 0) (n := ((58 : Int) + r).toNat) (fun i σ H' => ∃ (x c : Str) (zs : List Int) (y4 y5 : Option V), σ = [some (.ref td), some (.int (58 + r)), some (.str x), some (.str c), y4, y5] ∧ OkS x (5 * i) ∧ OkS c i ∧ Keep td H H' ∧ H' td = some (.lst (zs.map V.int))) ⟨"", "", ys, none, none, rfl, OkS.lit (by decide +kernel), OkS.lit (by decide +kernel), k1, htd1⟩ ?_ ?_⟩
  · rintro i σ H2 hi ⟨x, c, zs, y4, y5, rfl, ox, oc, k2, htd2⟩
    have hxl := ox.len
    have hcl := oc.len
    have hi62 : i ≤ 62 := by omega
    dsimp only [gName]
    refine ⟨by show 6 ≤ sizeLine; decide, fun p np => ⟨_, rfl, pick htd2 np rfl (by decide) fun v hv H3 us k3 htd3 => ?_⟩⟩
    have hvo : ∃ z c, v = .str z ∧ OkS z 4 ∧ atI z.cps.toList 0 = some c := by
      simp only [List.mem_cons, List.not_mem_nil, or_false] at hv
      rcases hv with rfl | rfl | rfl | rfl | rfl | rfl
      · exact ⟨_, 40, rfl, OkS.lit (by decide +kernel), by decide +kernel⟩
      · exact ⟨_, 40, rfl, OkS.lit (by decide +kernel), by decide +kernel⟩
      · exact ⟨_, 39, rfl, OkS.lit (by decide +kernel), by decide +kernel⟩
      · exact ⟨_, 35, rfl, OkS.lit (by decide +kernel), by decide +kernel⟩
      · exact ⟨_, 40, rfl, OkS.lit (by decide +kernel), by decide +kernel⟩
      · exact ⟨_, 40, rfl, OkS.lit (by decide +kernel), by decide +kernel⟩
    obtain ⟨z, c0, rfl, oz, hc0⟩ := hvo
    have hzl := oz.len
    dsimp only [gName]
    refine ⟨_, rfl, _, rfl, _, _, rfl, rfl, by omega, by show 3 ≤ sizeLine; decide, fun p2 np2 => ⟨_, rfl, pick htd3 np2 rfl (by decide) fun v hv H4 ws k4 htd4 => ?_⟩⟩
    have hvo : ∃ z, v = .str z ∧ OkS z 1 := by
      simp only [List.mem_cons, List.not_mem_nil, or_false] at hv
      rcases hv with rfl | rfl | rfl <;> exact ⟨_, rfl, OkS.lit (by decide +kernel)⟩
    obtain ⟨y, rfl, oy⟩ := hvo
    have hyl := oy.len
    have o1 := (ox.app oz).app oy
    refine ⟨_, _, rfl, rfl, by rw [Str.length_append]; omega, ?_⟩
    dsimp only [gName]
    have kk := (k2.trans k3).trans k4
    refine ⟨_, rfl, tc ⟨z, 0, c0, rfl, rfl, by omega, hc0, rfl, _, rfl, ?_⟩⟩
    have la : (")" : Str).length = 1 := by decide +kernel
    have lb : ("" : Str).length = 0 := by decide +kernel
    by_cases hc : V.str ⟨#[c0]⟩ = V.str "("
    · rw [decide_eq_true hc]
      refine iteT ⟨_, rfl, _, _, rfl, rfl, by rw [la]; omega, ?_⟩
      exact ⟨_, _, ws, _, _, rfl, o1.mono (by omega), ((OkS.lit (n := 1) (by decide +kernel)).app oc).mono (by omega), kk, htd4⟩
    · rw [decide_eq_false hc]
      refine iteF ⟨_, rfl, _, _, rfl, rfl, by rw [lb]; omega, ?_⟩
      exact ⟨_, _, ws, _, _, rfl, o1.mono (by omega), ((OkS.lit (n := 1) (by decide +kernel)).app oc).mono (by omega), kk, htd4⟩
  · rintro σ H2 ⟨x, c, zs, y4, y5, rfl, ox, oc, k2, htd2⟩
    have hxl := ox.len
    have hcl := oc.len
    have hn : ((58 : Int) + r).toNat ≤ 62 := by omega
    refine ⟨_, rfl, by show 6 ≤ sizeLine; decide, fun p np => ⟨_, rfl, pick htd2 np rfl (by decide) fun v hv H3 us k3 htd3 => ?_⟩⟩
    have hvo : ∃ z, v = .str z ∧ OkS z 3 := by
      simp only [List.mem_cons, List.not_mem_nil, or_false] at hv
      rcases hv with rfl | rfl | rfl | rfl | rfl | rfl <;> exact ⟨_, rfl, OkS.lit (by decide +kernel)⟩
    obtain ⟨z, rfl, oz⟩ := hvo
    have hzl := oz.len
    have o1 := (ox.app oz).app oc
    have hol := o1.len
    refine ⟨_, _, rfl, rfl, by omega, _, rfl, _, _, rfl, rfl, by rw [Str.length_append]; omega, ?_⟩
    dsimp only [gName]
    refine ⟨_, rfl, _, rfl, _, rfl, by omega, by show 5 ≤ sizeLine; decide, fun p2 np2 => ⟨_, rfl, pick htd3 np2 rfl (by decide) fun v hv H4 ws k4 htd4 => ?_⟩⟩
    have hvo : ∃ j, v = .int j := by
      simp only [List.mem_cons, List.not_mem_nil, or_false] at hv
      rcases hv with rfl | rfl | rfl | rfl | rfl <;> exact ⟨_, rfl⟩
    obtain ⟨j, rfl⟩ := hvo
    refine ⟨_, _, rfl, rfl, _, rfl, _, rfl, by omega, ?_⟩
    exact q _ H4 ws (o1.cut.mono (by omega)) ((k2.trans k3).trans k4) htd4
theorem ok_worded {f : Addr} {fd : FuncData} (F : Dfn K mg "_law_worded" st__law_worded f fd ["draws"]) (M : Mg mg) (G_law_take : Cal P w K mg base 1 "_law_take" spTake) : Cal P w K mg base 2 "_law_worded" spText := by
  refine cal_mk F sc_law_worded (fun vs H Q E h => ?_) (fun cdv A outer s H vs Q E hr h => ?_)
  · obtain ⟨td, xs, rfl, _⟩ := h
    rfl
  obtain ⟨td, xs, rfl, htd, q⟩ := h
  have hsl : sizeLine = 16777216 := sizeLine_eq
  have l1 : ("\"" : Str).length = 1 := by decide +kernel
  have o1 : OkS ("\"" : Str) 1 := OkS.lit (by decide +kernel)
  have ly : ("y" : Str).length = 1 := by decide +kernel
  have oy : OkS ("y" : Str) 1 := OkS.lit (by decide +kernel)
  have lz : ("z" : Str).length = 1 := by decide +kernel
  have oz : OkS ("z" : Str) 1 := OkS.lit (by decide +kernel)
  refine ⟨_, (pss_cons (ps_set (i := 1) sc_law_worded.nd rfl (.inl rfl) (pe_c G_law_take hr (by omega) (by rfl) (pa_cons (pv 0) (pa_cons pe_int pa_nil))))
      (pss_cons (ps_set (i := 2) sc_law_worded.nd rfl (.inl rfl) (pe_c G_law_take hr (by omega) (by rfl) (pa_cons (pv 0) (pa_cons pe_int pa_nil))))
      (pss_cons (ps_set (i := 3) sc_law_worded.nd rfl (.inl rfl) (pe_op op_add_str (pe_op op_add_str pe_str (pe_op op_mulS pe_str (pe_op op_add pe_int (pv 2)))) pe_str))
      (pss_cons (ps_if (pt_cmpR op_eq (pv 1) pe_int (nomark _)) (pss_one (ps_set (i := 3) sc_law_worded.nd rfl (.inl rfl) (pe_op op_add_str (pe_op op_add_str (pe_ix (ixT K rfl) (pe_tup (pa_cons pe_str (pa_cons pe_str pa_nil))) (pe_c G_law_take hr (by omega) (by rfl) (pa_cons (pv 0) (pa_cons pe_int pa_nil))) (fun _ _ => rfl)) (pe_ix ix_str pe_str (pe_c G_law_take hr (by omega) (by rfl) (pa_cons (pv 0) (pa_cons pe_int pa_nil))) (fun _ _ => rfl))) (pe_op op_mulS (pe_ix ix_str pe_str (pe_c G_law_take hr (by omega) (by rfl) (pa_cons (pv 0) (pa_cons pe_int pa_nil))) (fun _ _ => rfl)) (pe_op op_add pe_int (pv 2)))))) pss_nil)
      (pss_cons (ps_if (pt_cmpR op_eq (pv 1) pe_int (nomark _)) (pss_one (ps_set (i := 3) sc_law_worded.nd rfl (.inl rfl) (pe_op op_add_str (pe_ix (ixT K rfl) (pe_tup (pa_cons pe_str (pa_cons pe_str (pa_cons pe_str (pa_cons pe_str pa_nil))))) (pe_c G_law_take hr (by omega) (by rfl) (pa_cons (pv 0) (pa_cons pe_int pa_nil))) (fun _ _ => rfl)) (pe_op op_mulS pe_str (pe_op op_add pe_int (pv 2)))))) pss_nil)
      (pss_one (ps_ret (pe_op op_add_str (pe_op op_add_str (pe_ix (ixT K rfl) (pe_tup (pa_cons pe_str (pa_cons pe_str (pa_cons pe_str (pa_cons pe_str pa_nil))))) (pe_c G_law_take hr (by omega) (by rfl) (pa_cons (pv 0) (pa_cons pe_int pa_nil))) (fun _ _ => rfl)) (pv 3)) (pe_ix (ixT K rfl) (pe_tup (pa_cons pe_str (pa_cons pe_str (pa_cons pe_str (pa_cons pe_str pa_nil))))) (pe_c G_law_take hr (by omega) (by rfl) (pa_cons (pv 0) (pa_cons pe_int pa_nil))) (fun _ _ => rfl)))))))))), ?_⟩
  refine ⟨_, rfl, td, _, xs, rfl, htd, by decide, fun r H1 ys hr0 hr9 k1 htd1 => ?_⟩
  dsimp only [gName]
  refine ⟨_, rfl, td, _, ys, rfl, htd1, by decide, fun r2 H2 zs hs0 hs9 k2 htd2 => ?_⟩
  obtain ⟨n, rfl⟩ : ∃ n : Nat, r2 = (n : Int) := ⟨r2.toNat, by omega⟩
  dsimp only [gName]
  refine ⟨_, rfl, _, _, rfl, rfl, "y", 99 + n, rfl, by show V.int ((99 : Int) + (n : Int)) = _; rw [show ((99 : Int) + (n : Int)) = ((99 + n : Nat) : Int) by omega], by omega, by omega, by rw [ly]; omega, fun g hg1 hg2 => ?_⟩
  have og : OkS g 102 := ⟨Nat.le_trans hg1 (by rw [ly]; omega), fun c hc => oy.2 c (hg2 c hc)⟩
  have hgl := og.len
  refine ⟨_, _, rfl, rfl, by rw [l1]; omega, _, _, rfl, rfl, by rw [Str.length_append, l1]; omega, ?_⟩
  have kA := k1.trans k2
  dsimp only [gName]
  refine seq_split (t1 := tIfS _ _ _) (fun σ' H' => ∃ (x : Str) (us : List Int), σ' = [some (.ref td), some (.int r), some (.int (n : Nat)), some (.str x)] ∧ OkS x 200 ∧ Keep td H H' ∧ H' td = some (.lst (us.map V.int))) ?_ (fun J => ?_)
  case refine_2 =>
    refine ⟨_, rfl, rfl, _, rfl, ?_⟩
    by_cases c1 : V.int r = V.int 1
    case neg =>
      rw [decide_eq_false c1]
      refine iteF ?_
      dsimp only [tNext]
      exact J _ _ ⟨_, zs, rfl, ((o1.app og).app o1).mono (by omega), kA, htd2⟩
    rw [decide_eq_true c1]
    refine iteT ⟨by show 2 ≤ sizeLine; decide, fun p np => ⟨_, rfl, pick htd2 np rfl (by decide) fun v hv H3 us k3 htd3 => ?_⟩⟩
    have hvo : ∃ z, v = .str z ∧ OkS z 1 := by
      simp only [List.mem_cons, List.not_mem_nil, or_false] at hv
      rcases hv with rfl | rfl <;> exact ⟨_, rfl, OkS.lit (by decide +kernel)⟩
    obtain ⟨a, rfl, oa⟩ := hvo
    have hal := oa.len
    have olit : OkS ("123456789" : Str) 9 := OkS.lit (by decide +kernel)
    have llit : ("123456789" : Str).cps.toList.length = 9 := by decide +kernel
    refine ⟨_, rfl, td, _, us, rfl, htd3, by decide, fun r4 H4 ws ha0 ha9 k4 htd4 => ?_⟩
    obtain ⟨n1, c, hc, hcn⟩ := atI_mem' (xs := ("123456789" : Str).cps.toList) ha0 (by rw [llit]; exact ha9)
    have oc := olit.sg hcn
    have hcl := oc.len
    refine ⟨_, _, c, rfl, rfl, by have := olit.len; omega, hc, _, _, rfl, rfl, by omega, ?_⟩
    have olit2 : OkS ("0123456789" : Str) 10 := OkS.lit (by decide +kernel)
    have llit2 : ("0123456789" : Str).cps.toList.length = 10 := by decide +kernel
    refine ⟨_, rfl, td, _, ws, rfl, htd4, by decide, fun r5 H5 vs hb0 hb9 k5 htd5 => ?_⟩
    obtain ⟨n2, e, he, hen⟩ := atI_mem' (xs := ("0123456789" : Str).cps.toList) hb0 (by rw [llit2]; exact hb9)
    have oe := olit2.sg hen
    have hel := oe.len
    have hel1 : (⟨#[e]⟩ : Str).length = 1 := rfl
    refine ⟨_, _, e, rfl, rfl, by have := olit2.len; omega, he, _, rfl, _, _, rfl, rfl, _, 28 + n, rfl, by show V.int ((28 : Int) + (n : Int)) = _; rw [show ((28 : Int) + (n : Int)) = ((28 + n : Nat) : Int) by omega], by omega, by omega, by rw [hel1]; omega, fun g2 hg21 hg22 => ?_⟩
    have og2 : OkS g2 31 := ⟨Nat.le_trans hg21 (by rw [hel1]; omega), fun c hc => oe.2 c (hg22 c hc)⟩
    have hg2l := og2.len
    refine ⟨_, _, rfl, rfl, by rw [Str.length_append]; omega, ?_⟩
    dsimp only [gName]
    exact J _ _ ⟨_, vs, rfl, ((oa.app oc).app og2).mono (by omega), ((kA.trans k3).trans k4).trans k5, htd5⟩
  rintro σ' H3 ⟨x, us, rfl, ox, k3, htd3⟩
  refine seq_split (t1 := tIfS _ _ _) (fun σ' H' => ∃ (x : Str) (us : List Int), σ' = [some (.ref td), some (.int r), some (.int (n : Nat)), some (.str x)] ∧ OkS x 200 ∧ Keep td H H' ∧ H' td = some (.lst (us.map V.int))) ?_ (fun J => ?_)
  case refine_2 =>
    refine ⟨_, rfl, rfl, _, rfl, ?_⟩
    by_cases c1 : V.int r = V.int 2
    case neg =>
      rw [decide_eq_false c1]
      refine iteF ?_
      dsimp only [tNext]
      exact J _ _ ⟨_, us, rfl, ox, k3, htd3⟩
    rw [decide_eq_true c1]
    refine iteT ⟨by show 4 ≤ sizeLine; decide, fun p np => ⟨_, rfl, pick htd3 np rfl (by decide) fun v hv H4 ws k4 htd4 => ?_⟩⟩
    have hvo : ∃ z, v = .str z ∧ OkS z 2 := by
      simp only [List.mem_cons, List.not_mem_nil, or_false] at hv
      rcases hv with rfl | rfl | rfl | rfl <;> exact ⟨_, rfl, OkS.lit (by decide +kernel)⟩
    obtain ⟨a, rfl, oa⟩ := hvo
    have hal := oa.len
    refine ⟨_, rfl, _, _, rfl, rfl, "z", 17 + n, rfl, by show V.int ((17 : Int) + (n : Int)) = _; rw [show ((17 : Int) + (n : Int)) = ((17 + n : Nat) : Int) by omega], by omega, by omega, by rw [lz]; omega, fun g2 hg21 hg22 => ?_⟩
    have og2 : OkS g2 20 := ⟨Nat.le_trans hg21 (by rw [lz]; omega), fun c hc => oz.2 c (hg22 c hc)⟩
    have hg2l := og2.len
    refine ⟨_, _, rfl, rfl, by omega, ?_⟩
    dsimp only [gName]
    exact J _ _ ⟨_, ws, rfl, (oa.app og2).mono (by omega), k3.trans k4, htd4⟩
  rintro σ' H4 ⟨x, ws, rfl, ox, k4, htd4⟩
  have hxl := ox.len
  refine ⟨by show 4 ≤ sizeLine; decide, fun p np => ⟨_, rfl, pick htd4 np rfl (by decide) fun v hv H5 vs k5 htd5 => ?_⟩⟩
  have hvo : ∃ z, v = .str z ∧ OkS z 3 := by
    simp only [List.mem_cons, List.not_mem_nil, or_false] at hv
    rcases hv with rfl | rfl | rfl | rfl <;> exact ⟨_, rfl, OkS.lit (by decide +kernel)⟩
  obtain ⟨a, rfl, oa⟩ := hvo
  have hal := oa.len
  refine ⟨_, rfl, _, _, rfl, rfl, by omega, by show 4 ≤ sizeLine; decide, fun p2 np2 => ⟨_, rfl, pick htd5 np2 rfl (by decide) fun v hv H6 ts k6 htd6 => ?_⟩⟩
  have hvo : ∃ z, v = .str z ∧ OkS z 2 := by
    simp only [List.mem_cons, List.not_mem_nil, or_false] at hv
    rcases hv with rfl | rfl | rfl | rfl <;> exact ⟨_, rfl, OkS.lit (by decide +kernel)⟩
  obtain ⟨b, rfl, ob⟩ := hvo
  have hbl := ob.len
  refine ⟨_, _, rfl, rfl, by rw [Str.length_append]; omega, ?_⟩
  exact q _ H6 ts (((oa.app ox).app ob).mono (by omega)) ((k4.trans k5).trans k6) htd6
end
end W4
set_option Elab.async false
set_option linter.all false
set_option maxRecDepth 100000
set_option maxHeartbeats 4000000
namespace W4
open PySem PySem.Spec PyProof.Rows L2 Com SX GxR
section
variable {P : Program} {w : World} {K : PySem.W.Frag} {mg : Str → Option Value} {base : Heap} {PN PD : Addr}
def spLaw (K : PySem.W.Frag) (PN PD : Addr) : Sp := fun vs H Q _ => ∃ (a : Addr) (ns : List Int), vs = [.ref a] ∧ SqL K H a (ns.map V.int) ∧ ns.length ≤ 1000 ∧ TT PN PD H ∧ ∀ H', Q (.bl true) H'
theorem ok_law {f : Addr} {fd : FuncData} (F : Dfn K mg "law" st_law f fd ["script"]) (M : Mg mg) (G_law_draws : Cal P w K mg base 1 "_law_draws" (spDraws K)) (G_law_take : Cal P w K mg base 1 "_law_take" spTake) (G_law_deep : Cal P w K mg base 2 "_law_deep" spText) (G_law_long : Cal P w K mg base 2 "_law_long" spText) (G_law_worded : Cal P w K mg base 2 "_law_worded" spText)
    (G_law_same : Cal P w K mg base 126 "_law_same" (spSame K 125)) (G_law_told : Cal P w K mg base 9 "_law_told" (spTold PN PD)) (G_law_read : Cal P w K mg base 64 "_law_read" spLRead) : FnOk P w K mg base CX0 127 f fd ["script"] (spLaw K PN PD) := by
  refine F.fn.ok sclaw (fun vs H Q E h => ?_) (fun cdv A outer s H vs Q E hr h => ?_)
  · obtain ⟨a, ns, rfl, _⟩ := h
    rfl
  obtain ⟨a, ns, rfl, hS, hl, hT, q⟩ := h
  have hsl : sizeLine = 16777216 := sizeLine_eq
  refine ⟨_, (pss_cons (ps_set (i := 1) sclaw.nd rfl (.inl rfl) (pe_c G_law_draws hr (by omega) (by rfl) (pa_cons (pv 0) (pa_cons pe_int pa_nil))))
      (pss_cons (ps_set (i := 2) sclaw.nd rfl (.inl rfl) (pe_c G_law_take hr (by omega) (by rfl) (pa_cons (pv 1) (pa_cons pe_int pa_nil))))
      (pss_cons (ps_for PassesOwn.never rfl (pi_range1 (by rfl) M.range (pa_cons pe_int pa_nil)) (pg_name (i := 3) sclaw.nd rfl (.inl rfl))
      (pss_cons (ps_set (i := 4) sclaw.nd rfl (.inl rfl) (pe_ifExp (pt_cmpR op_gt (pv 2) pe_int (nomark _)) (pe_c G_law_worded hr (by omega) (by rfl) (pa_cons (pv 1) pa_nil)) (pe_ifExp (pt_cmpR op_eq (pv 2) pe_int (nomark _)) (pe_c G_law_deep hr (by omega) (by rfl) (pa_cons (pv 1) pa_nil)) (pe_c G_law_long hr (by omega) (by rfl) (pa_cons (pv 1) pa_nil)))))
      (pss_one (ps_if (pt_not (pt_val (pe_c G_law_same hr (by omega) (by rfl) (pa_cons (pe_c G_law_told hr (by omega) (by rfl) (pa_cons (pv 4) pa_nil)) (pa_cons (pe_c G_law_read hr (by omega) (by rfl) (pa_cons (pv 4) pa_nil)) pa_nil))))) (pss_one (ps_ret pe_bl)) pss_nil))))
      (pss_one (ps_ret pe_bl))))), ?_⟩
  refine ⟨_, rfl, a, ns, 300, rfl, hS, hl, by decide, fun td H1 xs s1 ntd htd => ?_⟩
  dsimp only [gName]
  refine ⟨_, rfl, td, _, xs, rfl, htd, by decide, fun kd H1' xs' hk0 hk4 k1 htd' => ?_⟩
  have T1 := (hT.same s1).keep k1 htd
  dsimp only [gName]
  refine ⟨3, rfl, by omega, by omega, for_range (lo := 0) (n := 3) (fun i σ H' => ∃ (zs : List Int) (y3 y4 : Option V), σ = [some (.ref a), some (.ref td), some (.int kd), y3, y4] ∧ TT PN PD H' ∧ H' td = some (.lst (zs.map V.int))) ⟨xs', none, none, rfl, T1, htd'⟩ ?_ ?_⟩
  · rintro i σ H2 hi ⟨zs, y3, y4, rfl, T2, htd2⟩
    dsimp only [gName]
    refine seq_split (t1 := tAsg _ _) (fun σ' H' => ∃ (x : Str) (vs : List Int), σ' = [some (.ref a), some (.ref td), some (.int kd), some (.int (0 + (i : Int))), some (.str x)] ∧ OkS x 100000 ∧ TT PN PD H' ∧ H' td = some (.lst (vs.map V.int))) ?_ (fun J => ?_)
    case refine_2 =>
      have fin : ∀ (x : Str) (H' : Hp) (ys : List Int), OkS x 100000 → Keep td H2 H' → H' td = some (.lst (ys.map V.int)) → _ := fun x H' ys ox k h => J _ H' ⟨x, ys, rfl, ox, T2.keep k htd2, h⟩
      refine ⟨_, rfl, _, _, rfl, rfl, _, rfl, ?_⟩
      by_cases c1 : (1 : Int) < kd
      · rw [decide_eq_true c1]
        exact iteT ⟨_, rfl, td, zs, rfl, htd2, fun x H' ys ox k h => fin x H' ys ox k h⟩
      rw [decide_eq_false c1]
      refine iteF ⟨_, rfl, rfl, _, rfl, ?_⟩
      by_cases c2 : V.int kd = V.int 0
      · rw [decide_eq_true c2]
        exact iteT ⟨_, rfl, td, zs, rfl, htd2, fun x H' ys ox k h => fin x H' ys ox k h⟩
      rw [decide_eq_false c2]
      exact iteF ⟨_, rfl, td, zs, rfl, htd2, fun x H' ys ox k h => fin x H' ys ox k h⟩
    rintro σ' H5 ⟨x, vs, rfl, ox, T5, htd5⟩
    obtain ⟨ex, ok⟩ := ox.ok (by omega)
    have evs : ([V.str x] : List V) = [.str (S x.cps.toList)] := by rw [← ex]
    refine ⟨_, rfl, x.cps.toList, evs, ok, T5, fun b hrd r H6 k6 T6 d6 => ?_, fun fm ss hrd r pf l H6 k6 T6 hr6 dpf hl6 => ?_⟩
    · refine ⟨_, rfl, x.cps.toList, evs, ok, (fun b' e r2 H7 s7 d7 => ?_), fun fm ss e => by rw [hrd] at e; cases e⟩
      rw [hrd] at e
      obtain rfl := Except.error.inj e
      have T7 := T6.same s7
      refine ⟨.ref r, .ref r2, _, rfl, (d6.tk (same_tk s7)).dp, d7.dp, by simp [PyData.depth, PyData.depthAll], by simp [smD, smAll], fun H8 s8 => ⟨_, rfl, iteF ?_⟩⟩
      dsimp only [tNext]
      exact ⟨vs, _, _, rfl, T7.same s8, s8 _ _ (s7 _ _ (k6.lst htd5))⟩
    · refine ⟨_, rfl, x.cps.toList, evs, ok, (fun b' e => by rw [hrd] at e; cases e), fun fm' ss' e r2 pf2 l2 H7 s7 hr7 dpf7 hl7 => ?_⟩
      rw [hrd] at e
      obtain ⟨rfl, rfl⟩ := Prod.mk.inj (Except.ok.inj e)
      have T7 := T6.same s7
      obtain ⟨g1, g2⟩ := good_ok hrd
      have mkD : ∀ {r pf l : Addr}, H7 r = some (.tup [.str "good", .ref pf, .ref l]) → Dt H7 (.ref pf) (.tuple fm) → H7 l = some (.lst (ss.map fun n => V.int (n : Nat))) → Dp K H7 (.ref r) (goodD fm ss) := fun {r pf l} h1 h2 h3 => .tup (SqT.of h1) (.cons (.str _) (.cons h2.dp (.cons (.lst (SqL.of h3) (dp_ints ss)) .nil)))
      refine ⟨.ref r, .ref r2, goodD fm ss, rfl, (mkD (s7 _ _ hr6) (dpf.tk (same_tk s7)) (s7 _ _ hl6)), (mkD hr7 dpf7 hl7), g1, g2, fun H8 s8 => ⟨_, rfl, iteF ?_⟩⟩
      dsimp only [tNext]
      exact ⟨vs, _, _, rfl, T7.same s8, s8 _ _ (s7 _ _ (k6.lst htd5))⟩
  · rintro σ H' _
    exact q H'
end
end W4
set_option Elab.async false
set_option linter.all false
set_option maxRecDepth 100000
set_option maxHeartbeats 4000000
namespace W4
open PySem PySem.Spec PyProof.Rows L2 Com SX GxR
theorem walk_ofTab2 {l : PySem.W.OpenLaw} {n k : Nat} {q : Program} {loose : List Str} {XP : (Str → Option Value) → Heap → Prop} {YP : World → Heap → Prop} {d d1 d2 : DefRec} {K : Params → PySem.W.Frag} {CX : World → CXT} {x x1 x2 : Str}
    (hn : l.most = some n) (hn2 : n ≤ sizeLine) (hdf : d.params.defaults = []) (hr : Room k callerA) (h1 : (recsOf q).find? (fun e => e.name == x1) = some d1) (h2 : (recsOf q).find? (fun e => e.name == x2) = some d2) (hY : ∀ (w : World) (h : Heap), YP w h → (K w.params).In h)
    (F : ∀ (w : World) (mg : Str → Option Value) (fa : Addr) (h : Heap), YP w h → (K w.params).In h → h.Ns mainGlobals mg → mg d.name = some (.ref fa) →
      (∀ c P : Addr, PySem.W.tabIn (K w.params) x1 = some (c, P) → PySem.W.CodeHd h c P ∧ h.get? P = some (PySem.W.tabObj #[])) → (∀ c P : Addr, PySem.W.tabIn (K w.params) x2 = some (c, P) → PySem.W.CodeHd h c P ∧ h.get? P = some (PySem.W.tabObj #[])) → LamX.LawAtS l w (K w.params) (CX w) k n x mg fa h)
    (hCX : ∀ (w : World) (H : Hp) (s : Shared) (e : Value) (s' : Shared), CX w [] H s (fun _ _ _ => False) e s' → False) :
    PySem.W.WalkO q loose XP YP l.row.toRowW d [] (fun f vs => PySem.call f vs) := by
  refine Att.attach_callB hn hdf fun w s₀ s₁ mg mb fa o pm cd doc a vs ns G Y ho hd hcd hmg hobj hints hlen hbits hg => ?_
  have KX := hY w _ Y
  obtain ⟨fd, cs, sp, hT, nT, C, hb, hsp, hF⟩ := F w mg fa _ Y KX G.T.g hmg (fun c P ht => PySem.W.tab_of G.T KX h1 ht) (fun c P ht => PySem.W.tab_of G.T KX h2 ht)
  exact LamX.law_callTs KX G.T.g G.T.b G.T.builtins G.T.nolimit hg hT nT C G.T.bmain hobj hints (Nat.le_trans hlen hn2) hr hF hb (fun H hH hS => hsp H a ns hlen hbits hH hS) fun H e s' => hCX w H s₁ e s'
theorem exm_self {K : PySem.W.Frag} {S : Addr} (h1 : PySem.W.subIn K (.ref S) (.type "BaseException") = some true) (h2 : PySem.W.isClsIn K S = true) (h3 : PySem.W.typeIn K (.ref S) = some (.type "type")) (h4 : PySem.W.subIn K (.ref S) (.ref S) = some true) :
    PySem.W.exmOne K (.ref S) (.ref S) = some true := by
  have e1 : (PySem.W.subIn K (.ref S) (.type "BaseException") == some true) = true := by rw [h1] <;> rfl
  have e2 : ((PySem.W.clsIn K S).isSome && PySem.W.typeIn K (.ref S) == some (.type "type")) = true := by
    have h2' : (PySem.W.clsIn K S).isSome = true := h2
    rw [h2', h3] <;> rfl
  show (if (PySem.W.subIn K (.ref S) (.type "BaseException") == some true) = true then (if ((PySem.W.clsIn K S).isSome && PySem.W.typeIn K (.ref S) == some (.type "type")) = true then PySem.W.subIn K (.ref S) (.ref S) else none) else none) = some true
  rw [if_pos e1, if_pos e2]
  exact h4
theorem q_shap : ("#'" : Str) = S [35, 39] := by decide +kernel
theorem tab0 {H : Hp} {P : Addr} (h : H P = some (.tbl #[])) : TabG H P := ⟨#[], h, True.intro⟩
theorem all_mk {l : PySem.W.OpenLaw} {w : World} {K : PySem.W.Frag} {h : Heap} {mg : Str → Option Value} {fa cN PN cD PD C CE CW pS fI : Addr} {f1 f2 f3 f4 f5 f6 f7 f8 f9 f10 f11 f12 f13 f14 f15 f16 f17 f18 f19 f20 f21 f22 f23 f24 f25 m1 m2 m3 m4 m5 m6 m7 : Addr}
    {odI anI od1 an1 od2 an2 od3 an3 od4 an4 od5 an5 od6 an6 od7 an7 od8 an8 od9 an9 od10 an10 od11 an11 od12 an12 od13 an13 od14 an14 od15 an15 od16 an16 od17 an17 od18 an18 od19 an19 od20 an20 od21 an21 od22 an22 od23 an23 od24 an24 od25 an25 odm1 anm1 odm2 anm2 odm3 anm3 odm4 anm4 odm5 anm5 odm6 anm6 odm7 anm7 : Option Addr} {slI sl1 sl2 sl3 sl4 sl5 sl6 sl7 sl8 sl9 sl10 sl11 sl12 sl13 sl14 sl15 sl16 sl17 sl18 sl19 sl20 sl21 sl22 sl23 sl24 sl25 slm1 slm2 slm3 slm4 slm5 slm6 slm7 : Array (Option Value)} {tk1 tk2 tk3 tk4 tk5 tk6 tk7 tk8 tq ts : PySem.Tok}
    {cdI ocI kVI dcI pmI ctI oc1 kV1 dc1 pm1 ct1 cd2 oc2 kV2 dc2 pm2 ct2 oc3 kV3 dc3 pm3 ct3 cd4 oc4 kV4 dc4 pm4 ct4 cd5 oc5 kV5 dc5 pm5 ct5 cd6 oc6 kV6 dc6 pm6 ct6 cd7 oc7 kV7 dc7 pm7 ct7 cd8 oc8 kV8 dc8 pm8 ct8 cd9 oc9 kV9 dc9 pm9 ct9 cd10 oc10 kV10 dc10 pm10 ct10 cd11 oc11 kV11 dc11 pm11 ct11 cd12 oc12 kV12 dc12 pm12 ct12 cd13 oc13 kV13 dc13 pm13 ct13 cd14 oc14 kV14 dc14 pm14 ct14 cd15 oc15 kV15 dc15 pm15 ct15 cd16 oc16 kV16 dc16 pm16 ct16 cd17 oc17 kV17 dc17 pm17 ct17 cd18 oc18 kV18 dc18 pm18 ct18 cd19 oc19 kV19 dc19 pm19 ct19 cd20 oc20 kV20 dc20 pm20 ct20 cd21 oc21 kV21 dc21 pm21 ct21 cd22 oc22 kV22 dc22 pm22 ct22 cd23 oc23 kV23 dc23 pm23 ct23 cd24 oc24 kV24 dc24 pm24 ct24 cd25 oc25 kV25 dc25 pm25 ct25 cdm1 ocm1 kVm1 dcm1 pmm1 ctm1 cdm2 ocm2 kVm2 dcm2 pmm2 ctm2 cdm3 ocm3 kVm3 dcm3 pmm3 ctm3 cdm4 ocm4 kVm4 dcm4 pmm4 ctm4 cdm5 ocm5 kVm5 dcm5 pmm5 ctm5 cdm6 ocm6 kVm6 dcm6 pmm6 ctm6 cdm7 ocm7 kVm7 dcm7 pmm7 ctm7 : Value} (X : K.In h) (G : h.Ns mainGlobals mg) (hfa : mg "law" = some (.ref fa))
    (TN : ∀ c P : Addr, PySem.W.tabIn K "is_name" = some (c, P) → PySem.W.CodeHd h c P ∧ h.get? P = some (PySem.W.tabObj #[])) (TD : ∀ c P : Addr, PySem.W.tabIn K "_is_number" = some (c, P) → PySem.W.CodeHd h c P ∧ h.get? P = some (PySem.W.tabObj #[]))
    (a1 : PySem.W.nsIn K mainGlobals "is_name" = some (some (.ref f1))) (l1 : K.lookup f1 = some ⟨oc1, od1, .func (PySem.W.fnOf "is_name" "is_name" (defArgs st_is_name) (defBody st_is_name) (defScope st_is_name) .none kV1 dc1 pm1 an1 (.ref cN) ct1), sl1⟩) (c1 : PySem.W.codeIn K (.ref cN) "is_name" = true) (k1 : PySem.W.keepIn K (.ref f1) = true)
    (a2 : PySem.W.nsIn K mainGlobals "_begins_as_number" = some (some (.ref f2))) (l2 : K.lookup f2 = some ⟨oc2, od2, .func (PySem.W.fnOf "_begins_as_number" "_begins_as_number" (defArgs st__begins_as_number) (defBody st__begins_as_number) (defScope st__begins_as_number) .none kV2 dc2 pm2 an2 cd2 ct2), sl2⟩) (c2 : PySem.W.codeIn K cd2 "_begins_as_number" = true) (k2 : PySem.W.keepIn K (.ref f2) = true)
    (a3 : PySem.W.nsIn K mainGlobals "_is_number" = some (some (.ref f3))) (l3 : K.lookup f3 = some ⟨oc3, od3, .func (PySem.W.fnOf "_is_number" "_is_number" (defArgs st__is_number) (defBody st__is_number) (defScope st__is_number) .none kV3 dc3 pm3 an3 (.ref cD) ct3), sl3⟩) (c3 : PySem.W.codeIn K (.ref cD) "_is_number" = true) (k3 : PySem.W.keepIn K (.ref f3) = true)
    (a4 : PySem.W.nsIn K mainGlobals "_sort_of_word" = some (some (.ref f4))) (l4 : K.lookup f4 = some ⟨oc4, od4, .func (PySem.W.fnOf "_sort_of_word" "_sort_of_word" (defArgs st__sort_of_word) (defBody st__sort_of_word) (defScope st__sort_of_word) .none kV4 dc4 pm4 an4 cd4 ct4), sl4⟩) (c4 : PySem.W.codeIn K cd4 "_sort_of_word" = true) (k4 : PySem.W.keepIn K (.ref f4) = true)
    (a5 : PySem.W.nsIn K mainGlobals "_line_end" = some (some (.ref f5))) (l5 : K.lookup f5 = some ⟨oc5, od5, .func (PySem.W.fnOf "_line_end" "_line_end" (defArgs st__line_end) (defBody st__line_end) (defScope st__line_end) .none kV5 dc5 pm5 an5 cd5 ct5), sl5⟩) (c5 : PySem.W.codeIn K cd5 "_line_end" = true) (k5 : PySem.W.keepIn K (.ref f5) = true)
    (a6 : PySem.W.nsIn K mainGlobals "_string_at" = some (some (.ref f6))) (l6 : K.lookup f6 = some ⟨oc6, od6, .func (PySem.W.fnOf "_string_at" "_string_at" (defArgs st__string_at) (defBody st__string_at) (defScope st__string_at) .none kV6 dc6 pm6 an6 cd6 ct6), sl6⟩) (c6 : PySem.W.codeIn K cd6 "_string_at" = true) (k6 : PySem.W.keepIn K (.ref f6) = true)
    (a7 : PySem.W.nsIn K mainGlobals "_word_at" = some (some (.ref f7))) (l7 : K.lookup f7 = some ⟨oc7, od7, .func (PySem.W.fnOf "_word_at" "_word_at" (defArgs st__word_at) (defBody st__word_at) (defScope st__word_at) .none kV7 dc7 pm7 an7 cd7 ct7), sl7⟩) (c7 : PySem.W.codeIn K cd7 "_word_at" = true) (k7 : PySem.W.keepIn K (.ref f7) = true)
    (a8 : PySem.W.nsIn K mainGlobals "_token_at" = some (some (.ref f8))) (l8 : K.lookup f8 = some ⟨oc8, od8, .func (PySem.W.fnOf "_token_at" "_token_at" (defArgs st__token_at) (defBody st__token_at) (defScope st__token_at) .none kV8 dc8 pm8 an8 cd8 ct8), sl8⟩) (c8 : PySem.W.codeIn K cd8 "_token_at" = true) (k8 : PySem.W.keepIn K (.ref f8) = true)
    (a9 : PySem.W.nsIn K mainGlobals "tokens" = some (some (.ref f9))) (l9 : K.lookup f9 = some ⟨oc9, od9, .func (PySem.W.fnOf "tokens" "tokens" (defArgs st_tokens) (defBody st_tokens) (defScope st_tokens) .none kV9 dc9 pm9 an9 cd9 ct9), sl9⟩) (c9 : PySem.W.codeIn K cd9 "tokens" = true) (k9 : PySem.W.keepIn K (.ref f9) = true)
    (a10 : PySem.W.nsIn K mainGlobals "_atom" = some (some (.ref f10))) (l10 : K.lookup f10 = some ⟨oc10, od10, .func (PySem.W.fnOf "_atom" "_atom" (defArgs st__atom) (defBody st__atom) (defScope st__atom) .none kV10 dc10 pm10 an10 cd10 ct10), sl10⟩) (c10 : PySem.W.codeIn K cd10 "_atom" = true) (k10 : PySem.W.keepIn K (.ref f10) = true)
    (a11 : PySem.W.nsIn K mainGlobals "read" = some (some (.ref f11))) (l11 : K.lookup f11 = some ⟨oc11, od11, .func (PySem.W.fnOf "read" "read" (defArgs st_read) (defBody st_read) (defScope st_read) .none kV11 dc11 pm11 an11 cd11 ct11), sl11⟩) (c11 : PySem.W.codeIn K cd11 "read" = true) (k11 : PySem.W.keepIn K (.ref f11) = true)
    (a12 : PySem.W.nsIn K mainGlobals "offsets" = some (some (.ref f12))) (l12 : K.lookup f12 = some ⟨oc12, od12, .func (PySem.W.fnOf "offsets" "offsets" (defArgs st_offsets) (defBody st_offsets) (defScope st_offsets) .none kV12 dc12 pm12 an12 cd12 ct12), sl12⟩) (c12 : PySem.W.codeIn K cd12 "offsets" = true) (k12 : PySem.W.keepIn K (.ref f12) = true)
    (a13 : PySem.W.nsIn K mainGlobals "_law_draws" = some (some (.ref f13))) (l13 : K.lookup f13 = some ⟨oc13, od13, .func (PySem.W.fnOf "_law_draws" "_law_draws" (defArgs st__law_draws) (defBody st__law_draws) (defScope st__law_draws) .none kV13 dc13 pm13 an13 cd13 ct13), sl13⟩) (c13 : PySem.W.codeIn K cd13 "_law_draws" = true) (k13 : PySem.W.keepIn K (.ref f13) = true)
    (a14 : PySem.W.nsIn K mainGlobals "_law_take" = some (some (.ref f14))) (l14 : K.lookup f14 = some ⟨oc14, od14, .func (PySem.W.fnOf "_law_take" "_law_take" (defArgs st__law_take) (defBody st__law_take) (defScope st__law_take) .none kV14 dc14 pm14 an14 cd14 ct14), sl14⟩) (c14 : PySem.W.codeIn K cd14 "_law_take" = true) (k14 : PySem.W.keepIn K (.ref f14) = true)
    (a15 : PySem.W.nsIn K mainGlobals "_law_same" = some (some (.ref f15))) (l15 : K.lookup f15 = some ⟨oc15, od15, .func (PySem.W.fnOf "_law_same" "_law_same" (defArgs st__law_same) (defBody st__law_same) (defScope st__law_same) .none kV15 dc15 pm15 an15 cd15 ct15), sl15⟩) (c15 : PySem.W.codeIn K cd15 "_law_same" = true) (k15 : PySem.W.keepIn K (.ref f15) = true)
    (a16 : PySem.W.nsIn K mainGlobals "_law_sort" = some (some (.ref f16))) (l16 : K.lookup f16 = some ⟨oc16, od16, .func (PySem.W.fnOf "_law_sort" "_law_sort" (defArgs st__law_sort) (defBody st__law_sort) (defScope st__law_sort) .none kV16 dc16 pm16 an16 cd16 ct16), sl16⟩) (c16 : PySem.W.codeIn K cd16 "_law_sort" = true) (k16 : PySem.W.keepIn K (.ref f16) = true)
    (a17 : PySem.W.nsIn K mainGlobals "_law_tokens" = some (some (.ref f17))) (l17 : K.lookup f17 = some ⟨oc17, od17, .func (PySem.W.fnOf "_law_tokens" "_law_tokens" (defArgs st__law_tokens) (defBody st__law_tokens) (defScope st__law_tokens) .none kV17 dc17 pm17 an17 cd17 ct17), sl17⟩) (c17 : PySem.W.codeIn K cd17 "_law_tokens" = true) (k17 : PySem.W.keepIn K (.ref f17) = true)
    (a18 : PySem.W.nsIn K mainGlobals "_law_value" = some (some (.ref f18))) (l18 : K.lookup f18 = some ⟨oc18, od18, .func (PySem.W.fnOf "_law_value" "_law_value" (defArgs st__law_value) (defBody st__law_value) (defScope st__law_value) .none kV18 dc18 pm18 an18 cd18 ct18), sl18⟩) (c18 : PySem.W.codeIn K cd18 "_law_value" = true) (k18 : PySem.W.keepIn K (.ref f18) = true)
    (a19 : PySem.W.nsIn K mainGlobals "_law_datum" = some (some (.ref f19))) (l19 : K.lookup f19 = some ⟨oc19, od19, .func (PySem.W.fnOf "_law_datum" "_law_datum" (defArgs st__law_datum) (defBody st__law_datum) (defScope st__law_datum) .none kV19 dc19 pm19 an19 cd19 ct19), sl19⟩) (c19 : PySem.W.codeIn K cd19 "_law_datum" = true) (k19 : PySem.W.keepIn K (.ref f19) = true)
    (a20 : PySem.W.nsIn K mainGlobals "_law_read" = some (some (.ref f20))) (l20 : K.lookup f20 = some ⟨oc20, od20, .func (PySem.W.fnOf "_law_read" "_law_read" (defArgs st__law_read) (defBody st__law_read) (defScope st__law_read) .none kV20 dc20 pm20 an20 cd20 ct20), sl20⟩) (c20 : PySem.W.codeIn K cd20 "_law_read" = true) (k20 : PySem.W.keepIn K (.ref f20) = true)
    (a21 : PySem.W.nsIn K mainGlobals "_law_told" = some (some (.ref f21))) (l21 : K.lookup f21 = some ⟨oc21, od21, .func (PySem.W.fnOf "_law_told" "_law_told" (defArgs st__law_told) (defBody st__law_told) (defScope st__law_told) .none kV21 dc21 pm21 an21 cd21 ct21), sl21⟩) (c21 : PySem.W.codeIn K cd21 "_law_told" = true) (k21 : PySem.W.keepIn K (.ref f21) = true)
    (a22 : PySem.W.nsIn K mainGlobals "_law_deep" = some (some (.ref f22))) (l22 : K.lookup f22 = some ⟨oc22, od22, .func (PySem.W.fnOf "_law_deep" "_law_deep" (defArgs st__law_deep) (defBody st__law_deep) (defScope st__law_deep) .none kV22 dc22 pm22 an22 cd22 ct22), sl22⟩) (c22 : PySem.W.codeIn K cd22 "_law_deep" = true) (k22 : PySem.W.keepIn K (.ref f22) = true)
    (a23 : PySem.W.nsIn K mainGlobals "_law_long" = some (some (.ref f23))) (l23 : K.lookup f23 = some ⟨oc23, od23, .func (PySem.W.fnOf "_law_long" "_law_long" (defArgs st__law_long) (defBody st__law_long) (defScope st__law_long) .none kV23 dc23 pm23 an23 cd23 ct23), sl23⟩) (c23 : PySem.W.codeIn K cd23 "_law_long" = true) (k23 : PySem.W.keepIn K (.ref f23) = true)
    (a24 : PySem.W.nsIn K mainGlobals "_law_worded" = some (some (.ref f24))) (l24 : K.lookup f24 = some ⟨oc24, od24, .func (PySem.W.fnOf "_law_worded" "_law_worded" (defArgs st__law_worded) (defBody st__law_worded) (defScope st__law_worded) .none kV24 dc24 pm24 an24 cd24 ct24), sl24⟩) (c24 : PySem.W.codeIn K cd24 "_law_worded" = true) (k24 : PySem.W.keepIn K (.ref f24) = true)
    (a25 : PySem.W.nsIn K mainGlobals "law" = some (some (.ref f25))) (l25 : K.lookup f25 = some ⟨oc25, od25, .func (PySem.W.fnOf "law" "law" (defArgs st_law) (defBody st_law) (defScope st_law) .none kV25 dc25 pm25 an25 cd25 ct25), sl25⟩) (c25 : PySem.W.codeIn K cd25 "law" = true) (k25 : PySem.W.keepIn K (.ref f25) = true)
    (am1 : PySem.W.findIn K (.ref C) "__init__" = some (some (.ref m1))) (im1 : PySem.W.isFn K (.ref m1) = true) (lm1 : K.lookup m1 = some ⟨ocm1, odm1, .func (PySem.W.fnOf "__init__" "Reader.__init__" (defArgs st_Reader___init__) (defBody st_Reader___init__) (defScope st_Reader___init__) .none kVm1 dcm1 pmm1 anm1 cdm1 ctm1), slm1⟩) (cm1 : PySem.W.codeIn K cdm1 "Reader.__init__" = true) (km1 : PySem.W.keepIn K (.ref m1) = true)
    (am2 : PySem.W.findIn K (.ref C) "new_place" = some (some (.ref m2))) (im2 : PySem.W.isFn K (.ref m2) = true) (lm2 : K.lookup m2 = some ⟨ocm2, odm2, .func (PySem.W.fnOf "new_place" "Reader.new_place" (defArgs st_Reader_new_place) (defBody st_Reader_new_place) (defScope st_Reader_new_place) .none kVm2 dcm2 pmm2 anm2 cdm2 ctm2), slm2⟩) (cm2 : PySem.W.codeIn K cdm2 "Reader.new_place" = true) (km2 : PySem.W.keepIn K (.ref m2) = true)
    (am3 : PySem.W.findIn K (.ref C) "put" = some (some (.ref m3))) (im3 : PySem.W.isFn K (.ref m3) = true) (lm3 : K.lookup m3 = some ⟨ocm3, odm3, .func (PySem.W.fnOf "put" "Reader.put" (defArgs st_Reader_put) (defBody st_Reader_put) (defScope st_Reader_put) .none kVm3 dcm3 pmm3 anm3 cdm3 ctm3), slm3⟩) (cm3 : PySem.W.codeIn K cdm3 "Reader.put" = true) (km3 : PySem.W.keepIn K (.ref m3) = true)
    (am4 : PySem.W.findIn K (.ref C) "end_list" = some (some (.ref m4))) (im4 : PySem.W.isFn K (.ref m4) = true) (lm4 : K.lookup m4 = some ⟨ocm4, odm4, .func (PySem.W.fnOf "end_list" "Reader.end_list" (defArgs st_Reader_end_list) (defBody st_Reader_end_list) (defScope st_Reader_end_list) .none kVm4 dcm4 pmm4 anm4 cdm4 ctm4), slm4⟩) (cm4 : PySem.W.codeIn K cdm4 "Reader.end_list" = true) (km4 : PySem.W.keepIn K (.ref m4) = true)
    (am5 : PySem.W.findIn K (.ref C) "begin_list" = some (some (.ref m5))) (im5 : PySem.W.isFn K (.ref m5) = true) (lm5 : K.lookup m5 = some ⟨ocm5, odm5, .func (PySem.W.fnOf "begin_list" "Reader.begin_list" (defArgs st_Reader_begin_list) (defBody st_Reader_begin_list) (defScope st_Reader_begin_list) .none kVm5 dcm5 pmm5 anm5 cdm5 ctm5), slm5⟩) (cm5 : PySem.W.codeIn K cdm5 "Reader.begin_list" = true) (km5 : PySem.W.keepIn K (.ref m5) = true)
    (am6 : PySem.W.findIn K (.ref C) "take" = some (some (.ref m6))) (im6 : PySem.W.isFn K (.ref m6) = true) (lm6 : K.lookup m6 = some ⟨ocm6, odm6, .func (PySem.W.fnOf "take" "Reader.take" (defArgs st_Reader_take) (defBody st_Reader_take) (defScope st_Reader_take) .none kVm6 dcm6 pmm6 anm6 cdm6 ctm6), slm6⟩) (cm6 : PySem.W.codeIn K cdm6 "Reader.take" = true) (km6 : PySem.W.keepIn K (.ref m6) = true)
    (am7 : PySem.W.findIn K (.ref C) "read_all" = some (some (.ref m7))) (im7 : PySem.W.isFn K (.ref m7) = true) (lm7 : K.lookup m7 = some ⟨ocm7, odm7, .func (PySem.W.fnOf "read_all" "Reader.read_all" (defArgs st_Reader_read_all) (defBody st_Reader_read_all) (defScope st_Reader_read_all) .none kVm7 dcm7 pmm7 anm7 cdm7 ctm7), slm7⟩) (cm7 : PySem.W.codeIn K cdm7 "Reader.read_all" = true) (km7 : PySem.W.keepIn K (.ref m7) = true)
    (y1 : PySem.W.nsIn K mainGlobals "DIGITS" = some (some (.str "0123456789" tk1)))
    (y2 : PySem.W.nsIn K mainGlobals "NAME_SIGNS" = some (some (.str "abcdefghijklmnopqrstuvwxyz0123456789!*+-./:<=>?_" tk2)))
    (y3 : PySem.W.nsIn K mainGlobals "WORD_ENDS" = some (some (.str " \n()'\";" tk3)))
    (y4 : PySem.W.nsIn K mainGlobals "LONGEST_NAME" = some (some (.int 20 tk4)))
    (y5 : PySem.W.nsIn K mainGlobals "MOST_DIGITS" = some (some (.int 30 tk5)))
    (y6 : PySem.W.nsIn K mainGlobals "LONGEST_STRING" = some (some (.int 100 tk6)))
    (y7 : PySem.W.nsIn K mainGlobals "LONGEST_TEXT" = some (some (.int 6000 tk7)))
    (y8 : PySem.W.nsIn K mainGlobals "DEEPEST_LIST" = some (some (.int 60 tk8)))
    (aC : PySem.W.nsIn K mainGlobals "Reader" = some (some (.ref C))) (aE : PySem.W.nsIn K mainGlobals "ReadError" = some (some (.ref CE))) (aW : PySem.W.nsIn K mainGlobals "WhereError" = some (some (.ref CW))) (aS : PySem.W.nsIn K mainGlobals "SIGN_NAMES" = some (some (.ref pS)))
    (pg : PySem.W.plainGet K C Str.empty = true) (hd : PySem.W.hasDictIn K C = true) (po : PySem.W.plainOver K C = true) (sa : PySem.W.findIn K (.ref C) "__setattr__" = some (some (.builtin "object.__setattr__"))) (mk : PySem.W.makesIn K C = true) (kc : PySem.W.keepIn K (.ref C) = true)
    (n1 : PySem.W.findIn K (.ref C) "source" = some none) (n2 : PySem.W.findIn K (.ref C) "forms" = some none) (n3 : PySem.W.findIn K (.ref C) "starts" = some none) (n4 : PySem.W.findIn K (.ref C) "open_lists" = some none)
    {nm q : Str} {N : Addr} {bs bm : List Value} {sn : List Str} {sub : List Value} {ab : Bool} {col : Option Bool} {dd : Option Addr} {g0 g1 g2 g3 g5 : Option Value}
    (xL : K.lookup CE = some (excClassObj nm q CE N bs bm true sn sub ab col dd g0 g1 g2 g3 g5 "ValueError.__new__")) (xR : PySem.HandSPX.refsVE bm = true)
    (xsa : PySem.W.findIn K (.ref CE) "__setattr__" = some (some (.builtin "object.__setattr__"))) (xga : PySem.W.findIn K (.ref CE) "__getattribute__" = some (some (.builtin "BaseException.__getattribute__"))) (xgg : PySem.W.findIn K (.ref CE) "__getattr__" = some none) (xnb : PySem.W.findIn K (.ref CE) "at" = some none)
    (xa : PySem.W.findIn K (.ref CE) "__init__" = some (some (.ref fI))) (xt : PySem.W.typeIn K (.ref fI) = some (.type "function"))
    (xl : K.lookup fI = some ⟨ocI, odI, .func (PySem.W.fnOf "__init__" "ReadError.__init__" (defArgs st_ReadError___init__) (defBody st_ReadError___init__) (defScope st_ReadError___init__) .none kVI dcI pmI anI cdI ctI), slI⟩) (xc : PySem.W.codeIn K cdI "ReadError.__init__" = true) (xk : PySem.W.keepIn K (.ref fI) = true)
    (kC : PySem.W.keepIn K (.ref CE) = true) (eC : PySem.W.subIn K (.ref CE) (.type "BaseException") = some true) (tC : PySem.W.typeIn K (.ref CE) = some (.type "type")) (hC : PySem.W.hasDictIn K CE = true) (iC : PySem.W.isClsIn K CE = true) (sC : PySem.W.subIn K (.ref CE) (.ref CE) = some true)
    (wgg : PySem.W.specialIn K (.ref CW) "__getattribute__" = some (some (.builtin "type.__getattribute__"))) (wrd : PySem.W.readsIn K CW (.type "type") = true) (wV : PySem.W.findCls K (.ref CW) (.type "type") "__init__" = some (.val (.builtin "ValueError.__init__")))
    {es : Array DictEntry} {nd : Nat} (lS : K.lookup pS = some ⟨.type "dict", none, .dict es nd, #[]⟩) (kl : PySem.W.KeysLit w.params es.toList) (v1 : PySem.W.nsIn K pS "'" = some (some (.str "quote" tq))) (v2 : PySem.W.nsIn K pS "#'" = some (some (.str "syntax" ts)))
    {oN : Value} {dN : Option Addr} {vN : Array Value} {sN : Array (Option Value)} (lN : K.lookup cN = some ⟨oN, dN, .fields vN, sN⟩) (eN : (vN[11]? : Option Value) = some (.ref PN)) (nN : K.lookup PN = none)
    {oD : Value} {dD : Option Addr} {vD : Array Value} {sD : Array (Option Value)} (lD : K.lookup cD = some ⟨oD, dD, .fields vD, sD⟩) (eD : (vD[11]? : Option Value) = some (.ref PD)) (nD : K.lookup PD = none)
    (z1 : PySem.W.nsIn K mainGlobals "len" = some none) (z2 : PySem.W.nsIn K mainGlobals "int" = some none) (z3 : PySem.W.nsIn K mainGlobals "bool" = some none) (z4 : PySem.W.nsIn K mainGlobals "str" = some none) (z5 : PySem.W.nsIn K mainGlobals "tuple" = some none) (z6 : PySem.W.nsIn K mainGlobals "list" = some none) (z7 : PySem.W.nsIn K mainGlobals "range" = some none) (z8 : PySem.W.nsIn K mainGlobals "isinstance" = some none) (z9 : PySem.W.nsIn K mainGlobals "all" = some none) : LamX.LawAtS l w K CX0 127 63 "script" mg fa h := by
  have tN : PySem.W.tabIn K "is_name" = some (cN, PN) := by
    unfold PySem.W.tabIn
    simp only [a1, l1, lN, eN, PySem.W.fnOf]
  have tD : PySem.W.tabIn K "_is_number" = some (cD, PD) := by
    unfold PySem.W.tabIn
    simp only [a3, l3, lD, eD, PySem.W.fnOf]
  obtain ⟨TNC, TNP⟩ := TN cN PN tN
  obtain ⟨TDC, TDP⟩ := TD cD PD tD
  have e := hfa.symm.trans (PySem.W.mg_of X G a25)
  cases e
  have M : Mg mg := ⟨PySem.W.mg_none_of X G z1, PySem.W.mg_none_of X G z2, PySem.W.mg_none_of X G z3, PySem.W.mg_none_of X G z4, PySem.W.mg_none_of X G z5, PySem.W.mg_none_of X G z6, PySem.W.mg_none_of X G z7, PySem.W.mg_none_of X G z8, PySem.W.mg_none_of X G z9⟩
  have Gb : Gb mg := ⟨tk1, tk2, tk3, tk4, tk5, tk6, tk7, tk8, PySem.W.mg_of X G y1, PySem.W.mg_of X G y2, PySem.W.mg_of X G y3, PySem.W.mg_of X G y4, PySem.W.mg_of X G y5, PySem.W.mg_of X G y6, PySem.W.mg_of X G y7, PySem.W.mg_of X G y8⟩
  have E1 := funC_mk (st := st_is_name) l1 c1 k1
  have b1 := E1.fun.binds (ps := ["text"]) fun _ _ _ _ _ _ us hl => match us, hl with | [_], _ => rfl
  have F1 : DfnC K mg "is_name" st_is_name f1 _ ["text"] cN := ⟨E1, PySem.W.mg_of X G a1, b1⟩
  have E2 := fun_mk (st := st__begins_as_number) l2 c2 k2
  have b2 := E2.binds (ps := ["word"]) fun _ _ _ _ _ _ us hl => match us, hl with | [_], _ => rfl
  have F2 : Dfn K mg "_begins_as_number" st__begins_as_number f2 _ ["word"] := ⟨E2, PySem.W.mg_of X G a2, b2⟩
  have E3 := funC_mk (st := st__is_number) l3 c3 k3
  have b3 := E3.fun.binds (ps := ["word"]) fun _ _ _ _ _ _ us hl => match us, hl with | [_], _ => rfl
  have F3 : DfnC K mg "_is_number" st__is_number f3 _ ["word"] cD := ⟨E3, PySem.W.mg_of X G a3, b3⟩
  have E4 := fun_mk (st := st__sort_of_word) l4 c4 k4
  have b4 := E4.binds (ps := ["word"]) fun _ _ _ _ _ _ us hl => match us, hl with | [_], _ => rfl
  have F4 : Dfn K mg "_sort_of_word" st__sort_of_word f4 _ ["word"] := ⟨E4, PySem.W.mg_of X G a4, b4⟩
  have E5 := fun_mk (st := st__line_end) l5 c5 k5
  have b5 := E5.binds (ps := ["text", "at"]) fun _ _ _ _ _ _ us hl => match us, hl with | [_, _], _ => rfl
  have F5 : Dfn K mg "_line_end" st__line_end f5 _ ["text", "at"] := ⟨E5, PySem.W.mg_of X G a5, b5⟩
  have E6 := fun_mk (st := st__string_at) l6 c6 k6
  have b6 := E6.binds (ps := ["text", "at"]) fun _ _ _ _ _ _ us hl => match us, hl with | [_, _], _ => rfl
  have F6 : Dfn K mg "_string_at" st__string_at f6 _ ["text", "at"] := ⟨E6, PySem.W.mg_of X G a6, b6⟩
  have E7 := fun_mk (st := st__word_at) l7 c7 k7
  have b7 := E7.binds (ps := ["text", "at"]) fun _ _ _ _ _ _ us hl => match us, hl with | [_, _], _ => rfl
  have F7 : Dfn K mg "_word_at" st__word_at f7 _ ["text", "at"] := ⟨E7, PySem.W.mg_of X G a7, b7⟩
  have E8 := fun_mk (st := st__token_at) l8 c8 k8
  have b8 := E8.binds (ps := ["text", "at"]) fun _ _ _ _ _ _ us hl => match us, hl with | [_, _], _ => rfl
  have F8 : Dfn K mg "_token_at" st__token_at f8 _ ["text", "at"] := ⟨E8, PySem.W.mg_of X G a8, b8⟩
  have E9 := fun_mk (st := st_tokens) l9 c9 k9
  have b9 := E9.binds (ps := ["text"]) fun _ _ _ _ _ _ us hl => match us, hl with | [_], _ => rfl
  have F9 : Dfn K mg "tokens" st_tokens f9 _ ["text"] := ⟨E9, PySem.W.mg_of X G a9, b9⟩
  have E10 := fun_mk (st := st__atom) l10 c10 k10
  have b10 := E10.binds (ps := ["sort", "word", "place"]) fun _ _ _ _ _ _ us hl => match us, hl with | [_, _, _], _ => rfl
  have F10 : Dfn K mg "_atom" st__atom f10 _ ["sort", "word", "place"] := ⟨E10, PySem.W.mg_of X G a10, b10⟩
  have E11 := fun_mk (st := st_read) l11 c11 k11
  have b11 := E11.binds (ps := ["text"]) fun _ _ _ _ _ _ us hl => match us, hl with | [_], _ => rfl
  have F11 : Dfn K mg "read" st_read f11 _ ["text"] := ⟨E11, PySem.W.mg_of X G a11, b11⟩
  have E12 := fun_mk (st := st_offsets) l12 c12 k12
  have b12 := E12.binds (ps := ["text"]) fun _ _ _ _ _ _ us hl => match us, hl with | [_], _ => rfl
  have F12 : Dfn K mg "offsets" st_offsets f12 _ ["text"] := ⟨E12, PySem.W.mg_of X G a12, b12⟩
  have E13 := fun_mk (st := st__law_draws) l13 c13 k13
  have b13 := E13.binds (ps := ["script", "count"]) fun _ _ _ _ _ _ us hl => match us, hl with | [_, _], _ => rfl
  have F13 : Dfn K mg "_law_draws" st__law_draws f13 _ ["script", "count"] := ⟨E13, PySem.W.mg_of X G a13, b13⟩
  have E14 := fun_mk (st := st__law_take) l14 c14 k14
  have b14 := E14.binds (ps := ["draws", "limit"]) fun _ _ _ _ _ _ us hl => match us, hl with | [_, _], _ => rfl
  have F14 : Dfn K mg "_law_take" st__law_take f14 _ ["draws", "limit"] := ⟨E14, PySem.W.mg_of X G a14, b14⟩
  have E15 := fun_mk (st := st__law_same) l15 c15 k15
  have b15 := E15.binds (ps := ["found", "due"]) fun _ _ _ _ _ _ us hl => match us, hl with | [_, _], _ => rfl
  have F15 : Dfn K mg "_law_same" st__law_same f15 _ ["found", "due"] := ⟨E15, PySem.W.mg_of X G a15, b15⟩
  have E16 := fun_mk (st := st__law_sort) l16 c16 k16
  have b16 := E16.binds (ps := ["word"]) fun _ _ _ _ _ _ us hl => match us, hl with | [_], _ => rfl
  have F16 : Dfn K mg "_law_sort" st__law_sort f16 _ ["word"] := ⟨E16, PySem.W.mg_of X G a16, b16⟩
  have E17 := fun_mk (st := st__law_tokens) l17 c17 k17
  have b17 := E17.binds (ps := ["text"]) fun _ _ _ _ _ _ us hl => match us, hl with | [_], _ => rfl
  have F17 : Dfn K mg "_law_tokens" st__law_tokens f17 _ ["text"] := ⟨E17, PySem.W.mg_of X G a17, b17⟩
  have E18 := fun_mk (st := st__law_value) l18 c18 k18
  have b18 := E18.binds (ps := ["sort", "word"]) fun _ _ _ _ _ _ us hl => match us, hl with | [_, _], _ => rfl
  have F18 : Dfn K mg "_law_value" st__law_value f18 _ ["sort", "word"] := ⟨E18, PySem.W.mg_of X G a18, b18⟩
  have E19 := fun_mk (st := st__law_datum) l19 c19 k19
  have b19 := E19.binds (ps := ["text", "items", "state", "depth"]) fun _ _ _ _ _ _ us hl => match us, hl with | [_, _, _, _], _ => rfl
  have F19 : Dfn K mg "_law_datum" st__law_datum f19 _ ["text", "items", "state", "depth"] := ⟨E19, PySem.W.mg_of X G a19, b19⟩
  have E20 := fun_mk (st := st__law_read) l20 c20 k20
  have b20 := E20.binds (ps := ["text"]) fun _ _ _ _ _ _ us hl => match us, hl with | [_], _ => rfl
  have F20 : Dfn K mg "_law_read" st__law_read f20 _ ["text"] := ⟨E20, PySem.W.mg_of X G a20, b20⟩
  have E21 := fun_mk (st := st__law_told) l21 c21 k21
  have b21 := E21.binds (ps := ["text"]) fun _ _ _ _ _ _ us hl => match us, hl with | [_], _ => rfl
  have F21 : Dfn K mg "_law_told" st__law_told f21 _ ["text"] := ⟨E21, PySem.W.mg_of X G a21, b21⟩
  have E22 := fun_mk (st := st__law_deep) l22 c22 k22
  have b22 := E22.binds (ps := ["draws"]) fun _ _ _ _ _ _ us hl => match us, hl with | [_], _ => rfl
  have F22 : Dfn K mg "_law_deep" st__law_deep f22 _ ["draws"] := ⟨E22, PySem.W.mg_of X G a22, b22⟩
  have E23 := fun_mk (st := st__law_long) l23 c23 k23
  have b23 := E23.binds (ps := ["draws"]) fun _ _ _ _ _ _ us hl => match us, hl with | [_], _ => rfl
  have F23 : Dfn K mg "_law_long" st__law_long f23 _ ["draws"] := ⟨E23, PySem.W.mg_of X G a23, b23⟩
  have E24 := fun_mk (st := st__law_worded) l24 c24 k24
  have b24 := E24.binds (ps := ["draws"]) fun _ _ _ _ _ _ us hl => match us, hl with | [_], _ => rfl
  have F24 : Dfn K mg "_law_worded" st__law_worded f24 _ ["draws"] := ⟨E24, PySem.W.mg_of X G a24, b24⟩
  have E25 := fun_mk (st := st_law) l25 c25 k25
  have b25 := E25.binds (ps := ["script"]) fun _ _ _ _ _ _ us hl => match us, hl with | [_], _ => rfl
  have F25 : Dfn K mg "law" st_law fa _ ["script"] := ⟨E25, PySem.W.mg_of X G a25, b25⟩
  have Em1 := fun_mk (st := st_Reader___init__) lm1 cm1 km1
  have bm1 := Em1.binds (ps := ["self", "text"]) fun _ _ _ _ _ _ us hl => match us, hl with | [_, _], _ => rfl
  have Em2 := fun_mk (st := st_Reader_new_place) lm2 cm2 km2
  have bm2 := Em2.binds (ps := ["self", "start"]) fun _ _ _ _ _ _ us hl => match us, hl with | [_, _], _ => rfl
  have Fm2 : DfnM K C "new_place" "Reader.new_place" st_Reader_new_place m2 _ ["self", "start"] := ⟨Em2, ⟨am2, im2, km2⟩, bm2⟩
  have Em3 := fun_mk (st := st_Reader_put) lm3 cm3 km3
  have bm3 := Em3.binds (ps := ["self", "datum"]) fun _ _ _ _ _ _ us hl => match us, hl with | [_, _], _ => rfl
  have Fm3 : DfnM K C "put" "Reader.put" st_Reader_put m3 _ ["self", "datum"] := ⟨Em3, ⟨am3, im3, km3⟩, bm3⟩
  have Em4 := fun_mk (st := st_Reader_end_list) lm4 cm4 km4
  have bm4 := Em4.binds (ps := ["self", "start"]) fun _ _ _ _ _ _ us hl => match us, hl with | [_, _], _ => rfl
  have Fm4 : DfnM K C "end_list" "Reader.end_list" st_Reader_end_list m4 _ ["self", "start"] := ⟨Em4, ⟨am4, im4, km4⟩, bm4⟩
  have Em5 := fun_mk (st := st_Reader_begin_list) lm5 cm5 km5
  have bm5 := Em5.binds (ps := ["self", "sign", "start"]) fun _ _ _ _ _ _ us hl => match us, hl with | [_, _, _], _ => rfl
  have Fm5 : DfnM K C "begin_list" "Reader.begin_list" st_Reader_begin_list m5 _ ["self", "sign", "start"] := ⟨Em5, ⟨am5, im5, km5⟩, bm5⟩
  have Em6 := fun_mk (st := st_Reader_take) lm6 cm6 km6
  have bm6 := Em6.binds (ps := ["self", "sort", "start", "end"]) fun _ _ _ _ _ _ us hl => match us, hl with | [_, _, _, _], _ => rfl
  have Fm6 : DfnM K C "take" "Reader.take" st_Reader_take m6 _ ["self", "sort", "start", "end"] := ⟨Em6, ⟨am6, im6, km6⟩, bm6⟩
  have Em7 := fun_mk (st := st_Reader_read_all) lm7 cm7 km7
  have bm7 := Em7.binds (ps := ["self"]) fun _ _ _ _ _ _ us hl => match us, hl with | [_], _ => rfl
  have Fm7 : DfnM K C "read_all" "Reader.read_all" st_Reader_read_all m7 _ ["self"] := ⟨Em7, ⟨am7, im7, km7⟩, bm7⟩
  have EI := fun_mk (st := st_ReadError___init__) xl xc xk
  have bI := EI.binds (ps := ["self", "at"]) fun _ _ _ _ _ _ us hl => match us, hl with | [_, _], _ => rfl
  have T : ReT w K mg C CE CW fI m1 pS :=
    { cl := ⟨pg, hd, po, sa⟩, mkR := ⟨mk, am1, im1, kc⟩, mgC := PySem.W.mg_of X G aC, nS := n1, nF := n2, nT := n3, nO := n4, ox := ⟨⟨nm, q, N, bs, bm, sn, sub, ab, col, dd, g0, g1, g2, g3, g5, xL, xR⟩, xsa, eC, tC, kC⟩, iR := xa, tR := xt, nAt := xnb,
      mR := PySem.W.mg_of X G aE, mW := PySem.W.mg_of X G aW, wgg := wgg, wrd := wrd, wV := wV, xf := ⟨xga, xgg, eC, hC⟩, ex := exm_self eC iC tC sC, gSN := PySem.W.mg_of X G aS,
      kq := ⟨es, nd, _, lS, kl, by rw [← q_ap]; exact v1, ⟨_, rfl⟩⟩, ks := ⟨es, nd, _, lS, kl, by rw [← q_shap]; exact v2, ⟨_, rfl⟩⟩ }
  have two : ∀ {q : Addr × Addr → Prop}, q (cN, PN) → q (cD, PD) → ∀ p ∈ [(cN, PN), (cD, PD)], q p := fun h1 h2 p hp => by
    rcases List.mem_cons.mp hp with e | hp
    · rw [e]; exact h1
    · rw [List.mem_singleton.mp hp]; exact h2
  refine ⟨PySem.W.fnOf "law" "law" (defArgs st_law) (defBody st_law) (defScope st_law) .none kV25 dc25 pm25 an25 cd25 ct25, [(cN, PN), (cD, PD)], spLaw K PN PD, two TNP TDP, two nN nD, two TNC TDC, fun s v => .of_eq rfl,
    fun H a ns hl _ hP hS => ⟨a, ns, rfl, hS, Nat.le_trans hl (by decide), ⟨tab0 (hP _ List.mem_cons_self), tab0 (hP (cD, PD) (List.mem_cons_of_mem _ List.mem_cons_self))⟩, fun _ => rfl⟩, fun base hK hN hTb => ?_⟩
  have TB1 := hTb (cN, PN) List.mem_cons_self
  have TB2 := hTb (cD, PD) (List.mem_cons_of_mem _ List.mem_cons_self)
  have TBN : GxR.TabB base mg cN PN := ⟨TB1.code, TB1.bm, TB1.gP⟩
  have TBD : GxR.TabB base mg cD PD := ⟨TB2.code, TB2.bm, TB2.gP⟩
  have Cbeg : Cal l.prog w K mg base 1 "_begins_as_number" spBeg := ok_begins F2 M Gb
  have Cnum : Cal l.prog w K mg base 1 "_is_number" (spNum PN PD) := ok_is_number F3 M Gb TBD
  have Cnam : Cal l.prog w K mg base 2 "is_name" (spName PN PD) := ok_is_name F1 M Gb TBN Cbeg
  have Csor := ok_sort_of_word F4 M Cnum Cnam
  have Clin : Cal l.prog w K mg base 1 "_line_end" spLine := ok_line_end F5 M
  have Cstr := ok_string_at F6 M Gb Clin
  have Cwor := ok_word_at F7 M Gb Csor
  have Ctok := ok_token_at F8 M Cstr Cwor
  have Ctoks := ok_tokens F9 M Clin Ctok
  have Cato : Cal l.prog w K mg base 1 "_atom" spAtom := ok_atom F10 M
  have Cnew : CalM CX0 l.prog w K mg base 1 C "new_place" (spNew C PN PD) := ok_new Fm2 M T.cl T.nT
  have Cput : CalM CX0 l.prog w K mg base 1 C "put" (spPut C PN PD) := ok_put Fm3 M T.cl T.nO T.nF
  have CRE : FnOk l.prog w K mg base CX0 1 fI _ ["self", "at"] (spRE CE) := ok_re EI T
  have Cend := ok_end Fm4 M T bI CRE Cput
  have Cbegl := ok_begin Fm5 M Gb T bI CRE Cnew
  have Ctake := ok_take Fm6 M T bI CRE Cato Cnew Cput Cend Cbegl
  have Call := ok_read_all Fm7 M Gb T bI CRE Ctoks Ctake
  have CIn : FnOk l.prog w K mg base CX0 1 m1 _ ["self", "text"] (spInit C) := ok_init Em1 T
  have Crea := ok_read F11 M T bm1 CIn Call
  have Coff := ok_offsets F12 M T bm1 CIn Call
  have Ctold := ok_told F21 M T Crea Coff
  have Cls : Cal l.prog w K mg base 1 "_law_sort" spLSort := ok_lsort F16 M
  have Clt := ok_ltoks F17 M Cls
  have Clv : Cal l.prog w K mg base 1 "_law_value" spLVal := ok_lval F18 M
  have Cld := dat_all F19 M Clv 61
  have Clr := ok_lread F20 M Clt Cld
  have Cd : Cal l.prog w K mg base 1 "_law_draws" (spDraws K) := ok_law_draws F13 M
  have Ck : Cal l.prog w K mg base 1 "_law_take" spTake := ok_law_take F14 M
  have Csa : Cal l.prog w K mg base 126 "_law_same" (spSame K 125) := same_all F15 M 125
  exact ok_law F25 M Cd Ck (ok_deep F22 M Ck) (ok_long F23 M Ck) (ok_worded F24 M Ck) Csa Ctold Clr
end W4
open PySem PySem.W PyProof.Rows
set_option maxRecDepth 100000 in
set_option maxHeartbeats 0 in
theorem PySem.Challenge.cw_wherewritten_k04_bounds_of_texts_holds : PySem.Challenge.rw_wherewritten_k04_bounds_of_texts.Holds := by
  w_on; o_law; k_head; (case hw => w_witness2)
  k_fill
  refine W4.walk_ofTab2 (l := PySem.Challenge.rw_wherewritten_k04_bounds_of_texts) (n := 63) (k := 127) (x := "script") (x1 := "is_name") (x2 := "_is_number") (CX := fun _ => L2.CX0) rfl (by decide) rfl ⟨rfl, by decide, by decide⟩ rfl rfl (fun w h Y => PySem.W.kIn_of Y) ?F (fun _ _ _ _ _ h => h)
  case F =>
    intro w mg fa h _ KX G hmg TN TD
    refine' W4.all_mk KX G hmg TN TD ?a1 ?l1 ?c1 ?k1 ?a2 ?l2 ?c2 ?k2 ?a3 ?l3 ?c3 ?k3 ?a4 ?l4 ?c4 ?k4 ?a5 ?l5 ?c5 ?k5 ?a6 ?l6 ?c6 ?k6 ?a7 ?l7 ?c7 ?k7 ?a8 ?l8 ?c8 ?k8 ?a9 ?l9 ?c9 ?k9 ?a10 ?l10 ?c10 ?k10 ?a11 ?l11 ?c11 ?k11 ?a12 ?l12 ?c12 ?k12 ?a13 ?l13 ?c13 ?k13 ?a14 ?l14 ?c14 ?k14 ?a15 ?l15 ?c15 ?k15 ?a16 ?l16 ?c16 ?k16 ?a17 ?l17 ?c17 ?k17 ?a18 ?l18 ?c18 ?k18 ?a19 ?l19 ?c19 ?k19 ?a20 ?l20 ?c20 ?k20 ?a21 ?l21 ?c21 ?k21 ?a22 ?l22 ?c22 ?k22 ?a23 ?l23 ?c23 ?k23 ?a24 ?l24 ?c24 ?k24 ?a25 ?l25 ?c25 ?k25 ?am1 ?im1 ?lm1 ?cm1 ?km1 ?am2 ?im2 ?lm2 ?cm2 ?km2 ?am3 ?im3 ?lm3 ?cm3 ?km3 ?am4 ?im4 ?lm4 ?cm4 ?km4 ?am5 ?im5 ?lm5 ?cm5 ?km5 ?am6 ?im6 ?lm6 ?cm6 ?km6 ?am7 ?im7 ?lm7 ?cm7 ?km7 ?y1 ?y2 ?y3 ?y4 ?y5 ?y6 ?y7 ?y8 ?aC ?aE ?aW ?aS ?pg ?hd ?po ?sa ?mk ?kc ?n1 ?n2 ?n3 ?n4 ?xL ?xR ?xsa ?xga ?xgg ?xnb ?xa ?xt ?xl ?xc ?xk ?kC ?eC ?tC ?hC ?iC ?sC ?wgg ?wrd ?wV ?lS ?kl ?v1 ?v2 ?lN ?eN ?nN ?lD ?eD ?nD ?z1 ?z2 ?z3 ?z4 ?z5 ?z6 ?z7 ?z8 ?z9
    (case aC => k_is)
    (case aE => k_is)
    (case aW => k_is)
    (case aS => k_is)
    (case xa => k_is)
    (case a1 => k_is)
    (case l1 => k_is)
    (case c1 => k_is)
    (case k1 => k_is)
    (case a2 => k_is)
    (case l2 => k_is)
    (case c2 => k_is)
    (case k2 => k_is)
    (case a3 => k_is)
    (case l3 => k_is)
    (case c3 => k_is)
    (case k3 => k_is)
    (case a4 => k_is)
    (case l4 => k_is)
    (case c4 => k_is)
    (case k4 => k_is)
    (case a5 => k_is)
    (case l5 => k_is)
    (case c5 => k_is)
    (case k5 => k_is)
    (case a6 => k_is)
    (case l6 => k_is)
    (case c6 => k_is)
    (case k6 => k_is)
    (case a7 => k_is)
    (case l7 => k_is)
    (case c7 => k_is)
    (case k7 => k_is)
    (case a8 => k_is)
    (case l8 => k_is)
    (case c8 => k_is)
    (case k8 => k_is)
    (case a9 => k_is)
    (case l9 => k_is)
    (case c9 => k_is)
    (case k9 => k_is)
    (case a10 => k_is)
    (case l10 => k_is)
    (case c10 => k_is)
    (case k10 => k_is)
    (case a11 => k_is)
    (case l11 => k_is)
    (case c11 => k_is)
    (case k11 => k_is)
    (case a12 => k_is)
    (case l12 => k_is)
    (case c12 => k_is)
    (case k12 => k_is)
    (case a13 => k_is)
    (case l13 => k_is)
    (case c13 => k_is)
    (case k13 => k_is)
    (case a14 => k_is)
    (case l14 => k_is)
    (case c14 => k_is)
    (case k14 => k_is)
    (case a15 => k_is)
    (case l15 => k_is)
    (case c15 => k_is)
    (case k15 => k_is)
    (case a16 => k_is)
    (case l16 => k_is)
    (case c16 => k_is)
    (case k16 => k_is)
    (case a17 => k_is)
    (case l17 => k_is)
    (case c17 => k_is)
    (case k17 => k_is)
    (case a18 => k_is)
    (case l18 => k_is)
    (case c18 => k_is)
    (case k18 => k_is)
    (case a19 => k_is)
    (case l19 => k_is)
    (case c19 => k_is)
    (case k19 => k_is)
    (case a20 => k_is)
    (case l20 => k_is)
    (case c20 => k_is)
    (case k20 => k_is)
    (case a21 => k_is)
    (case l21 => k_is)
    (case c21 => k_is)
    (case k21 => k_is)
    (case a22 => k_is)
    (case l22 => k_is)
    (case c22 => k_is)
    (case k22 => k_is)
    (case a23 => k_is)
    (case l23 => k_is)
    (case c23 => k_is)
    (case k23 => k_is)
    (case a24 => k_is)
    (case l24 => k_is)
    (case c24 => k_is)
    (case k24 => k_is)
    (case a25 => k_is)
    (case l25 => k_is)
    (case c25 => k_is)
    (case k25 => k_is)
    (case am1 => k_is)
    (case im1 => k_is)
    (case lm1 => k_is)
    (case cm1 => k_is)
    (case km1 => k_is)
    (case am2 => k_is)
    (case im2 => k_is)
    (case lm2 => k_is)
    (case cm2 => k_is)
    (case km2 => k_is)
    (case am3 => k_is)
    (case im3 => k_is)
    (case lm3 => k_is)
    (case cm3 => k_is)
    (case km3 => k_is)
    (case am4 => k_is)
    (case im4 => k_is)
    (case lm4 => k_is)
    (case cm4 => k_is)
    (case km4 => k_is)
    (case am5 => k_is)
    (case im5 => k_is)
    (case lm5 => k_is)
    (case cm5 => k_is)
    (case km5 => k_is)
    (case am6 => k_is)
    (case im6 => k_is)
    (case lm6 => k_is)
    (case cm6 => k_is)
    (case km6 => k_is)
    (case am7 => k_is)
    (case im7 => k_is)
    (case lm7 => k_is)
    (case cm7 => k_is)
    (case km7 => k_is)
    (case y1 => k_is)
    (case y2 => k_is)
    (case y3 => k_is)
    (case y4 => k_is)
    (case y5 => k_is)
    (case y6 => k_is)
    (case y7 => k_is)
    (case y8 => k_is)
    (case pg => k_is)
    (case hd => k_is)
    (case po => k_is)
    (case sa => k_is)
    (case mk => k_is)
    (case kc => k_is)
    (case n1 => k_is)
    (case n2 => k_is)
    (case n3 => k_is)
    (case n4 => k_is)
    (case xL => k_is)
    (case xR => rfl)
    (case xsa => k_is)
    (case xga => k_is)
    (case xgg => k_is)
    (case xnb => k_is)
    (case xt => k_is)
    (case xl => k_is)
    (case xc => k_is)
    (case xk => k_is)
    (case kC => k_is)
    (case eC => k_is)
    (case tC => k_is)
    (case hC => k_is)
    (case iC => k_is)
    (case sC => first | rfl | k_is)
    (case wgg => k_is)
    (case wrd => k_is)
    (case wV => k_is)
    (case lS => k_is)
    (case kl => exact ⟨⟨_, _, rfl, rfl⟩, ⟨_, _, rfl, rfl⟩, True.intro⟩)
    (case v1 => k_is)
    (case v2 => k_is)
    (case lN => k_is)
    (case eN => rfl)
    (case nN => kernel_rfl)
    (case lD => k_is)
    (case eD => rfl)
    (case nD => kernel_rfl)
    (case z1 => k_is)
    (case z2 => k_is)
    (case z3 => k_is)
    (case z4 => k_is)
    (case z5 => k_is)
    (case z6 => k_is)
    (case z7 => k_is)
    (case z8 => k_is)
    (case z9 => k_is)
