import PyProof.Rows.All
import Wide.All
import OpenK.AllK
import Wide.FinOn
import HandS.Base
import HandS.Call
import HandS.List
import HandS.Words
import HandS.WordsList
import HandS.WordsDict
import HandS.Comp
import HandS.Dict
import HandS.Iter
import HandS.Ends
import HandS.IsInst
import HandS.Deep
import HandS.Style
import HandS.Flow
import HandS.TupAny
import HandS.SortInts
import HandS.EndTab
import KE.SortData
import HandS.AnyAll
import HandS.Nested
import KE.DataCmp
import KE.KRevSl
import HandS.Star
import HandS.Conv
import HandS.More
import PySem.Challenge.RW_wherewritten_k71_miscounts
set_option Elab.async false
set_option linter.all false
set_option maxRecDepth 100000
set_option maxHeartbeats 4000000
namespace Com
open PySem PySem.Spec PyProof.Rows L2
/-! data that are tuples all the way down -/
mutual
inductive Dt (H : Hp) : V → PyData → Prop
  | non : Dt H .non .none
  | bl (b : Bool) : Dt H (.bl b) (.bool b)
  | int (i : Int) : Dt H (.int i) (.int i)
  | str (x : Str) : Dt H (.str x) (.str x)
  | tup {a : Addr} {xs : List V} {ds : List PyData} : H a = some (.tup xs) → DtAll H xs ds → Dt H (.ref a) (.tuple ds)
inductive DtAll (H : Hp) : List V → List PyData → Prop
  | nil : DtAll H [] []
  | cons {v : V} {vs : List V} {d : PyData} {ds : List PyData} : Dt H v d → DtAll H vs ds → DtAll H (v :: vs) (d :: ds)
end
/-- the tuples stand -/
def Tk (H H' : Hp) : Prop := ∀ a xs, H a = some (.tup xs) → H' a = some (.tup xs)
theorem Tk.refl (H : Hp) : Tk H H := fun _ _ h => h
theorem Tk.trans {H1 H2 H3 : Hp} (a : Tk H1 H2) (b : Tk H2 H3) : Tk H1 H3 := fun c xs h => b c xs (a c xs h)
theorem Tk.upd {H : Hp} {a : Addr} {o : HO} (h : ∀ xs, H a ≠ some (.tup xs)) : Tk H (upd H a o) := fun b xs e => by
  have : b ≠ a := fun z => h xs (z ▸ e)
  rw [upd_ne this]
  exact e
theorem Tk.new {H : Hp} {a : Addr} {o : HO} (h : H a = none) : Tk H (L2.upd H a o) := Tk.upd fun xs e => by rw [h] at e; cases e
mutual
theorem Dt.mono {H H' : Hp} (k : Tk H H') : ∀ (d : PyData) (v : V), Dt H v d → Dt H' v d
  | .none, _, h => by cases h; exact .non
  | .bool _, _, h => by cases h; exact .bl _
  | .int _, _, h => by cases h; exact .int _
  | .str _, _, h => by cases h; exact .str _
  | .list _, _, h => by cases h
  | .tuple ds, _, h => by
    cases h with
    | tup e q => exact .tup (k _ _ e) (DtAll.mono k ds _ q)
  | .dict _, _, h => by cases h
theorem DtAll.mono {H H' : Hp} (k : Tk H H') : ∀ (ds : List PyData) (vs : List V), DtAll H vs ds → DtAll H' vs ds
  | [], _, h => by cases h; exact .nil
  | d :: ds, _, h => by
    cases h with
    | cons h1 h2 => exact .cons (Dt.mono k d _ h1) (DtAll.mono k ds _ h2)
end
theorem Dt.tk {H H' : Hp} {v : V} {d : PyData} (h : Dt H v d) (k : Tk H H') : Dt H' v d := Dt.mono k d v h
theorem DtAll.tk {H H' : Hp} {v : List V} {d : List PyData} (h : DtAll H v d) (k : Tk H H') : DtAll H' v d := DtAll.mono k d v h
mutual
theorem Dt.toDp {K : PySem.W.Frag} {H : Hp} : ∀ (d : PyData) (v : V), Dt H v d → Dp K H v d
  | .none, _, h => by cases h; exact .non
  | .bool _, _, h => by cases h; exact .bl _
  | .int _, _, h => by cases h; exact .int _
  | .str _, _, h => by cases h; exact .str _
  | .list _, _, h => by cases h
  | .tuple ds, _, h => by
    cases h with
    | tup e q => exact .tup (SqT.of e) (DtAll.toDp ds _ q)
  | .dict _, _, h => by cases h
theorem DtAll.toDp {K : PySem.W.Frag} {H : Hp} : ∀ (ds : List PyData) (vs : List V), DtAll H vs ds → DpAll K H vs ds
  | [], _, h => by cases h; exact .nil
  | d :: ds, _, h => by
    cases h with
    | cons h1 h2 => exact .cons (Dt.toDp d _ h1) (DtAll.toDp ds _ h2)
end
theorem Dt.dp {K : PySem.W.Frag} {H : Hp} {v : V} {d : PyData} (h : Dt H v d) : Dp K H v d := Dt.toDp d v h
theorem DtAll.dp {K : PySem.W.Frag} {H : Hp} {v : List V} {d : List PyData} (h : DtAll H v d) : DpAll K H v d := DtAll.toDp d v h
theorem DtAll.len {H : Hp} : ∀ {vs : List V} {ds : List PyData}, DtAll H vs ds → vs.length = ds.length
  | _, _, .nil => rfl
  | _, _, .cons _ h => congrArg (· + 1) h.len
theorem DtAll.get {H : Hp} : ∀ {vs : List V} {ds : List PyData} {i : Nat} {x : V}, DtAll H vs ds → vs[i]? = some x → ∃ d, ds[i]? = some d ∧ Dt H x d
  | _, _, _, _, .nil, e => by simp at e
  | _, _, 0, _, .cons h _, e => by
    simp at e
    subst e
    exact ⟨_, rfl, h⟩
  | _, _, i + 1, _, .cons _ t, e => by
    have e' := e
    simp only [List.getElem?_cons_succ] at e'
    obtain ⟨d, h1, h2⟩ := DtAll.get t e'
    exact ⟨d, by simpa using h1, h2⟩
theorem DtAll.at {H : Hp} {vs : List V} {ds : List PyData} {i : Nat} {d : PyData} (h : DtAll H vs ds) (e : ds[i]? = some d) : ∃ x, vs[i]? = some x ∧ Dt H x d := by
  have hi := (List.getElem?_eq_some_iff.mp e).1
  have hv : i < vs.length := by rw [h.len]; exact hi
  obtain ⟨d', e', q⟩ := h.get (List.getElem?_eq_getElem hv)
  rw [e] at e'
  cases e'
  exact ⟨_, List.getElem?_eq_getElem hv, q⟩
theorem DtAll.get_map {H : Hp} {α : Type} {f : α → PyData} {l : List α} {vs : List V} {i : Nat} {x : V} (h : DtAll H vs (l.map f)) (e : vs[i]? = some x) : ∃ a, l[i]? = some a ∧ Dt H x (f a) := by
  obtain ⟨d, h1, h2⟩ := h.get e
  rw [List.getElem?_map] at h1
  cases q : l[i]? with
  | none => rw [q] at h1; cases h1
  | some a =>
    rw [q] at h1
    cases h1
    exact ⟨a, rfl, h2⟩
theorem DtAll.app {H : Hp} : ∀ {vs ws : List V} {ds es : List PyData}, DtAll H vs ds → DtAll H ws es → DtAll H (vs ++ ws) (ds ++ es)
  | _, _, _, _, .nil, s => s
  | _, _, _, _, .cons r t, s => .cons r (t.app s)
theorem DtAll.one {H : Hp} {v : V} {d : PyData} (h : Dt H v d) : DtAll H [v] [d] := .cons h .nil
theorem Dt.intE {H : Hp} {v : V} {i : Int} (h : Dt H v (.int i)) : v = .int i := by cases h; rfl
theorem Dt.strE {H : Hp} {v : V} {x : Str} (h : Dt H v (.str x)) : v = .str x := by cases h; rfl
theorem Dt.nonE {H : Hp} {v : V} (h : Dt H v .none) : v = .non := by cases h; rfl
theorem Dt.blE {H : Hp} {v : V} {b : Bool} (h : Dt H v (.bool b)) : v = .bl b := by cases h; rfl
theorem Dt.tupE {H : Hp} {v : V} {ds : List PyData} (h : Dt H v (.tuple ds)) : ∃ a xs, v = .ref a ∧ H a = some (.tup xs) ∧ DtAll H xs ds := by
  cases h with
  | tup e q => exact ⟨_, _, rfl, e, q⟩
theorem DtAll.consE {H : Hp} {vs : List V} {d : PyData} {ds : List PyData} (h : DtAll H vs (d :: ds)) : ∃ x r, vs = x :: r ∧ Dt H x d ∧ DtAll H r ds := by
  cases h with
  | cons h1 h2 => exact ⟨_, _, rfl, h1, h2⟩
theorem DtAll.nilE {H : Hp} {vs : List V} (h : DtAll H vs []) : vs = [] := by cases h; rfl
/-! == of data without truth values is their being one -/
mutual
def pl : PyData → Bool
  | .none | .int _ | .str _ => true
  | .bool _ | .dict _ => false
  | .list xs | .tuple xs => plAll xs
def plAll : List PyData → Bool
  | [] => true
  | x :: xs => pl x && plAll xs
end
mutual
theorem eqv_pl : ∀ (d e : PyData), pl d = true → pl e = true → (PyData.eqv d e = true ↔ d = e)
  | .none, e, _, h => by cases e <;> simp [PyData.eqv, pl] at h ⊢
  | .int i, e, _, h => by cases e <;> simp [PyData.eqv, pl] at h ⊢
  | .str i, e, _, h => by cases e <;> simp [PyData.eqv, pl] at h ⊢
  | .bool b, _, h, _ => by simp [pl] at h
  | .dict b, _, h, _ => by simp [pl] at h
  | .list xs, e, h, h' => by
    cases e with
    | list ys =>
      have q := eqvAll_pl xs ys (by simpa [pl] using h) (by simpa [pl] using h')
      simp only [PyData.eqv, PyData.list.injEq]
      exact q
    | _ => simp [PyData.eqv]
  | .tuple xs, e, h, h' => by
    cases e with
    | tuple ys =>
      have q := eqvAll_pl xs ys (by simpa [pl] using h) (by simpa [pl] using h')
      simp only [PyData.eqv, PyData.tuple.injEq]
      exact q
    | _ => simp [PyData.eqv]
theorem eqvAll_pl : ∀ (d e : List PyData), plAll d = true → plAll e = true → (PyData.eqvAll d e = true ↔ d = e)
  | [], e, _, _ => by cases e <;> simp [PyData.eqvAll]
  | x :: xs, [], _, _ => by simp [PyData.eqvAll]
  | x :: xs, y :: ys, h, h' => by
    simp only [plAll, Bool.and_eq_true] at h h'
    simp only [PyData.eqvAll, Bool.and_eq_true, List.cons.injEq]
    rw [eqv_pl x y h.1 h'.1, eqvAll_pl xs ys h.2 h'.2]
end
theorem any_pl {ds : List PyData} {d : PyData} (h : plAll ds = true) (hd : pl d = true) : (ds.any fun z => PyData.eqv z d) = true ↔ d ∈ ds := by
  induction ds with
  | nil => simp
  | cons x xs ih =>
    simp only [plAll, Bool.and_eq_true] at h
    rw [List.any_cons, Bool.or_eq_true, ih h.2, eqv_pl x d h.1 hd, List.mem_cons]
    constructor
    · rintro (q | q)
      · exact .inl q.symm
      · exact .inr q
    · rintro (q | q)
      · exact .inl q.symm
      · exact .inr q
/-! in, not in, of a tuple of data -/
section
variable {X : Cx}
def rInT (K : PySem.W.Frag) : R2 := fun x y H Q => ∃ d ds, Dp K H x d ∧ Dp K H y (.tuple ds) ∧ SeqAt.shaped d = true ∧ SeqAt.shaped (.tuple ds) = true ∧ Q (.bl (ds.any fun z => PyData.eqv z d)) H
def rNotInT (K : PySem.W.Frag) : R2 := fun x y H Q => ∃ d ds, Dp K H x d ∧ Dp K H y (.tuple ds) ∧ SeqAt.shaped d = true ∧ SeqAt.shaped (.tuple ds) = true ∧ Q (.bl (!ds.any fun z => PyData.eqv z d)) H
theorem room_in {A : Around} {d : PyData} {ds : List PyData} (sd : SeqAt.shaped d = true) (hu : A.units + 65 < cLine) : A.units + 1 + min (PyData.depthAll ds) d.depth < cLine := by
  have h : d.depth ≤ 64 := by
    have q : (d.canLay0 && decide (d.depth ≤ 64)) = true := sd
    rw [Bool.and_eq_true] at q
    exact of_decide_eq_true q.2
  have := Nat.min_le_right (PyData.depthAll ds) d.depth
  omega
theorem op_inT (hu : X.A.units + 65 < cLine) : OpR X (compareOp .In) (rInT X.K) := by
  intro pins s σ H x y v u Q I rx ry h
  obtain ⟨d, ds, hd, he, sd, se, q⟩ := h
  obtain ⟨as, r1⟩ := Dp.reads I d x v hd rx
  obtain ⟨bs, r2⟩ := Dp.reads I (.tuple ds) y u he ry
  exact SeqAt.in_tuple_reads r2 r1 (SeqAt.canLay_of_shaped se) (SeqAt.canLay_of_shaped sd) (room_in sd hu) ⟨.bl _, H, I, rfl, q⟩
theorem op_notInT (hu : X.A.units + 65 < cLine) : OpR X (compareOp .NotIn) (rNotInT X.K) := by
  intro pins s σ H x y v u Q I rx ry h
  obtain ⟨d, ds, hd, he, sd, se, q⟩ := h
  obtain ⟨as, r1⟩ := Dp.reads I d x v hd rx
  obtain ⟨bs, r2⟩ := Dp.reads I (.tuple ds) y u he ry
  exact SeqAt.notIn_tuple_reads r2 r1 (SeqAt.canLay_of_shaped se) (SeqAt.canLay_of_shaped sd) (room_in sd hu) ⟨.bl _, H, I, rfl, q⟩
theorem units65 {k : Nat} {A : Around} (r : Room k A) : A.units + 65 < cLine := by have := r.un; omega
end
end Com
set_option Elab.async false
set_option linter.all false
set_option maxRecDepth 100000
set_option maxHeartbeats 4000000
namespace Com
open PySem PySem.Spec PyProof.Rows L2
theorem b_len : bootBuiltins "len" = some (.builtin "len") := by decide +kernel
theorem b_abs : bootBuiltins "abs" = some (.builtin "abs") := by decide +kernel
theorem b_int : bootBuiltins "int" = some (.type "int") := by decide +kernel
theorem b_bool : bootBuiltins "bool" = some (.type "bool") := by decide +kernel
theorem b_str : bootBuiltins "str" = some (.type "str") := by decide +kernel
theorem b_tuple : bootBuiltins "tuple" = some (.type "tuple") := by decide +kernel
theorem b_list : bootBuiltins "list" = some (.type "list") := by decide +kernel
theorem b_dict : bootBuiltins "dict" = some (.type "dict") := by decide +kernel
theorem b_range : bootBuiltins "range" = some (.type "range") := by decide +kernel
theorem b_enumerate : bootBuiltins "enumerate" = some (.type "enumerate") := by decide +kernel
theorem b_isinstance : bootBuiltins "isinstance" = some (.builtin "isinstance") := by decide +kernel
theorem b_sorted : bootBuiltins "sorted" = some (.builtin "sorted") := by decide +kernel
theorem b_any : bootBuiltins "any" = some (.builtin "any") := by decide +kernel
theorem b_all : bootBuiltins "all" = some (.builtin "all") := by decide +kernel
theorem b_max : bootBuiltins "max" = some (.builtin "max") := by decide +kernel
theorem b_min : bootBuiltins "min" = some (.builtin "min") := by decide +kernel
/-! defs by name -/
structure Dfn (K : PySem.W.Frag) (mg : Str → Option Value) (x : Str) (st : Stmt) (f : Addr) (fd : FuncData) (ps : List Str) : Prop where
  fn : Fun K x x st f fd
  mgf : mg x = some (.ref f)
  b : Binds K fd ps []
def Cal (P : Program) (w : World) (K : PySem.W.Frag) (mg : Str → Option Value) (base : Heap) (k : Nat) (x : Str) (sp : Sp) : Prop :=
  ∃ (f : Addr) (fd : FuncData) (ps : List Str), FnOk P w K mg base CX0 k f fd ps sp ∧ mg x = some (.ref f) ∧ PySem.W.keepIn K (.ref f) = true ∧ Binds K fd ps []
section
variable {P : Program} {w : World} {K : PySem.W.Frag} {mg : Str → Option Value} {base : Heap}
theorem Cal.mono {j k : Nat} {x : Str} {sp : Sp} (c : Cal P w K mg base j x sp) (h : j ≤ k) : Cal P w K mg base k x sp := by
  obtain ⟨f, fd, ps, F, r⟩ := c
  exact ⟨f, fd, ps, F.mono h, r⟩
theorem Cal.imp {k : Nat} {x : Str} {sp sp' : Sp} (c : Cal P w K mg base k x sp) (h : ∀ vs H Q E, sp' vs H Q E → sp vs H Q E) : Cal P w K mg base k x sp' := by
  obtain ⟨f, fd, ps, F, r⟩ := c
  exact ⟨f, fd, ps, F.imp h, r⟩
theorem cal_mk {x : Str} {st : Stmt} {f : Addr} {fd : FuncData} {N ps : List Str} {k : Nat} {sp : Sp} (F : Dfn K mg x st f fd ps) (S : FnScope N ps (defScope st)) (len : ∀ vs H Q E, sp vs H Q E → vs.length = ps.length)
    (hbody : ∀ (cdv : Value) (A : Around) (outer : List Env) (s : Shared) (H : Hp) (vs : List V) (Q : VK) (E : XK), Room k (A.deeper (envOfC x (defScope st) s.heap.objs.size f cdv)) → sp vs H Q E →
      ∃ t, PSs (cxOf CX0 P w K mg base N x (defScope st) f cdv A outer s H E).nox (defBody st) t ∧ t { nx := fun _ H' => Q .non H', rt := Q } (start N vs) H) : Cal P w K mg base (k + 1) x sp :=
  ⟨f, fd, ps, F.fn.ok S len hbody, F.mgf, F.fn.kp, F.b⟩
end
section
variable {X : Cx} {k j : Nat} {x : Str} {sp : Sp} {p pos : Pos} {e : Expr} {es : List Expr} {t : TA}
theorem pe_c (c : Cal X.prog X.w X.K X.mg X.base k x sp) (hr : Room j X.A) (hk : k ≤ j) (hg : Gl X x) (ha : PA X (e :: es) t)
    (hdb : (x == ("__debug__" : Str)) = false := by decide) (he : starEach (e :: es) X.env = (false, eval e X.env) :: starEach es X.env := by rfl) (hpl : (backTo pos (starEach es X.env)).any (·.1) = false := by rfl) :
    PE X (.Call (.Name x p) (e :: es) [] pos) (tCall sp [] E0 t) := by
  obtain ⟨f, fd, ps, F, hm, kp, b⟩ := c
  exact pe_call F (hr.mono hk) hg hm kp b .nil pass0 ha hdb he hpl
end
/-! sorted of a list of data -/
section
variable {X : Cx}
def rSortedD (K : PySem.W.Frag) : List V → Hp → VK → Prop := fun xs H Q => ∃ (a : Addr) (vs : List V) (ds : List PyData), xs = [.ref a] ∧ SqL K H a vs ∧ DpAll K H vs ds ∧ PySem.W.AllAlike ds ∧ PySem.W.Sortable ds ∧ (∀ d ∈ ds, d.depth ≤ 8) ∧
  ∀ p, H p = none → Q (.ref p) (upd H p (.lst (((vs.zip ds).mergeSort (PySem.W.dataLe false Prod.snd)).map Prod.fst)))
theorem each_zip {h : Heap} : ∀ {vs : List V} {us : List Value} {ds : List PyData}, Vals vs us → vs.length = ds.length → PySem.W.EachIs (fun (v : Value) (b : V × PyData) => RelV b.1 v) us (vs.zip ds)
  | _, _, [], .nil, _ => .nil
  | _, _, d :: ds, .cons r t, e => .cons r (each_zip (h := h) t (by simpa using e))
theorem each_zip_reads {h : Heap} : ∀ {vs : List V} {us : List Value} {ds : List PyData} {as : List Addr}, vs.length = ds.length → ReadsAll h us ds as → PySem.W.EachIs (fun (v : Value) (b : V × PyData) => ∃ as, Reads h v b.2 as) us (vs.zip ds)
  | [], _, [], _, _, r => by cases r; exact .nil
  | v :: vs, _, d :: ds, _, e, r => by
    cases r with
    | cons h1 h2 => exact .cons ⟨_, h1⟩ (each_zip_reads (by simpa using e) h2)
theorem vals_of_each : ∀ {out : List Value} {bs : List (V × PyData)}, PySem.W.EachIs (fun (v : Value) (b : V × PyData) => RelV b.1 v) out bs → Vals (bs.map Prod.fst) out
  | _, _, .nil => .nil
  | _, _, .cons h t => .cons h (vals_of_each t)
theorem zip_snd {vs : List V} {ds : List PyData} (e : vs.length = ds.length) : (vs.zip ds).map Prod.snd = ds := by
  rw [List.map_snd_zip]
  omega
theorem DpAll_len {K : PySem.W.Frag} {H : Hp} : ∀ {vs : List V} {ds : List PyData}, DpAll K H vs ds → vs.length = ds.length
  | _, _, .nil => rfl
  | _, _, .cons _ h => congrArg (· + 1) (DpAll_len h)
theorem call_sortedD (hu : X.A.units + 65 < cLine) : CallR X (.builtin "sorted") (rSortedD X.K) := by
  intro pins s σ H xs us Q I r h
  obtain ⟨a, vs, ds, rfl, hl, hd, hal, hk, hdp, q⟩ := h
  obtain ⟨u, rfl, ru⟩ := vals1 r
  cases (show u = Value.ref a from ru)
  obtain ⟨its, rv, pl, hlen⟩ := I.list hl
  obtain ⟨as, rd⟩ := Dp.readsAll I ds vs its hd rv
  have el := DpAll_len hd
  have es := zip_snd el
  refine PySem.W.sorted_data (R := fun (v : Value) (b : V × PyData) => RelV b.1 v) (enc := Prod.snd) (bs := vs.zip ds) (vs := its) pl.isList (each_zip (h := s.heap) rv el) (each_zip_reads el rd) (by rw [es]; exact hal) (by rw [es]; exact hk) (by rw [List.length_zip]; omega) (fun b hb => ?_) fun out ho eo => ?_
  · have hb2 : b.2 ∈ ds := by
      rw [← es]
      exact List.mem_map.mpr ⟨b, hb, rfl⟩
    have := hdp _ hb2
    omega
  · obtain ⟨ep, he'⟩ := PyProof.Rows.sortedAll_at s.heap its (List.toArray out)
    refine ⟨.ref _, upd H (s.heap.objs.size + 1) (.lst (((vs.zip ds).mergeSort (PySem.W.dataLe false Prod.snd)).map Prod.fst)), I.laid (t' := s.toks) (fun _ _ => PyProof.Rows.sortedAll_old) (Nat.le_succ _) ⟨?_, out, ep, vals_of_each eo, he'⟩, rfl, q _ (I.hok.fresh (Nat.le_succ _))⟩
    rw [List.length_map, List.length_mergeSort, List.length_zip]
    omega
end
/-! sorted lists told by what they are made of -/
theorem DtAll.of_pairs {H : Hp} {α : Type} {f : α → PyData} : ∀ {zs : List (V × α)}, (∀ z ∈ zs, Dt H z.1 (f z.2)) → DtAll H (zs.map Prod.fst) ((zs.map Prod.snd).map f)
  | [], _ => .nil
  | z :: zs, h => .cons (h z List.mem_cons_self) (DtAll.of_pairs fun y hy => h y (List.mem_cons_of_mem _ hy))
theorem DtAll.pairs {H : Hp} {α : Type} {f : α → PyData} : ∀ {vs : List V} {l : List α}, DtAll H vs (l.map f) → ∀ z ∈ vs.zip l, Dt H z.1 (f z.2)
  | [], _, _, z, hz => by simp at hz
  | v :: vs, [], h, z, hz => by simp at hz
  | v :: vs, a :: l, h, z, hz => by
    have h' : DtAll H (v :: vs) (f a :: l.map f) := h
    cases h' with
    | cons h1 h2 =>
      rw [List.zip_cons_cons] at hz
      rcases List.mem_cons.mp hz with e | hz
      · rw [e]; exact h1
      · exact DtAll.pairs h2 z hz
theorem zip_map_r {α β γ : Type} (f : β → γ) : ∀ (vs : List α) (l : List β), vs.zip (l.map f) = (vs.zip l).map fun p => (p.1, f p.2)
  | [], _ => by simp
  | _ :: _, [] => by simp
  | v :: vs, a :: l => by simp [zip_map_r f vs l]
/-- the list of an encoded list, sorted, stands for the sorted list -/
theorem sorted_enc {H : Hp} {α : Type} {f : α → PyData} {vs : List V} {l : List α} (h : DtAll H vs (l.map f)) :
    DtAll H (((vs.zip (l.map f)).mergeSort (PySem.W.dataLe false Prod.snd)).map Prod.fst) ((l.mergeSort (PySem.W.dataLe false f)).map f) := by
  have el : vs.length = l.length := by rw [h.len, List.length_map]
  rw [zip_map_r]
  rw [← PySem.W.sort_maps (r := PySem.W.dataLe false fun p : V × α => f p.2) (s := PySem.W.dataLe false Prod.snd) (fun p : V × α => (p.1, f p.2)) (fun _ _ _ _ => rfl), List.map_map]
  have e2 : (l.mergeSort (PySem.W.dataLe false f)) = ((vs.zip l).mergeSort (PySem.W.dataLe false fun p : V × α => f p.2)).map Prod.snd := by
    rw [PySem.W.sort_maps (r := PySem.W.dataLe false fun p : V × α => f p.2) (s := PySem.W.dataLe false f) Prod.snd (fun _ _ _ _ => rfl), List.map_snd_zip (by omega)]
  rw [e2]
  exact DtAll.of_pairs fun z hz => DtAll.pairs h z (by rw [List.mem_mergeSort] at hz; exact hz)
/-- lists of whole numbers -/
def natV (l : List Nat) : List V := l.map fun n => .int (n : Nat)
theorem nat_dt (H : Hp) : ∀ l : List Nat, DtAll H (natV l) (l.map fun n => .int (n : Nat))
  | [] => .nil
  | n :: l => .cons (.int _) (nat_dt H l)
theorem dt_nat {H : Hp} : ∀ {l : List Nat} {vs : List V}, DtAll H vs (l.map fun n => PyData.int (n : Nat)) → vs = natV l
  | [], _, h => by cases h; rfl
  | n :: l, _, h => by
    have h' : DtAll H _ (PyData.int (n : Nat) :: l.map fun n => PyData.int (n : Nat)) := h
    cases h' with
    | cons h1 h2 =>
      rw [h1.intE, dt_nat h2]
      rfl
theorem natV_get {l : List Nat} {i : Nat} {v : V} (h : (natV l)[i]? = some v) : ∃ n, l[i]? = some n ∧ v = .int (n : Nat) := by
  unfold natV at h
  rw [List.getElem?_map] at h
  cases e : l[i]? with
  | none => rw [e] at h; cases h
  | some n => rw [e] at h; exact ⟨n, rfl, (Option.some.inj h).symm⟩
theorem natV_at {l : List Nat} {i n : Nat} (h : l[i]? = some n) : (natV l)[i]? = some (.int (n : Nat)) := by
  unfold natV
  rw [List.getElem?_map, h]
  rfl
theorem natV_app (l m : List Nat) : natV (l ++ m) = natV l ++ natV m := List.map_append
theorem natV_len (l : List Nat) : (natV l).length = l.length := List.length_map _
/-! rules with the written part named: for comprehensions' blocks, too -/
section
variable {X : Cx} (K : PySem.W.Frag)
theorem ixT (h : X.K = K) : IxR X (rIxT K) := h ▸ ix_tup
theorem ixL (h : X.K = K) : IxR X (rIxL K) := h ▸ ix_list
theorem ixQ (h : X.K = K) : IxR X (rIx K) := h ▸ ix_seq
theorem opInT (h : X.K = K) (hu : X.A.units + 65 < cLine) : OpR X (compareOp .In) (rInT K) := h ▸ op_inT hu
theorem opNotInT (h : X.K = K) (hu : X.A.units + 65 < cLine) : OpR X (compareOp .NotIn) (rNotInT K) := h ▸ op_notInT hu
theorem opInD (h : X.K = K) (hu : X.A.units + 65 < cLine) : OpR X (compareOp .In) (rInD K) := h ▸ op_inD hu
theorem opNotInD (h : X.K = K) (hu : X.A.units + 65 < cLine) : OpR X (compareOp .NotIn) (rNotInD K) := h ▸ op_notInD hu
theorem opEqD (h : X.K = K) (hu : X.A.units + 64 < cLine) : OpR X (compareOp .Eq) (rEqD K) := h ▸ op_eqD hu
theorem opNeD (h : X.K = K) (hu : X.A.units + 64 < cLine) : OpR X (compareOp .NotEq) (rNeD K) := h ▸ op_neD hu
theorem opCatT (h : X.K = K) : OpR X (binaryOp .Add) (rCatT K) := h ▸ op_catT
def rLen (K : PySem.W.Frag) : List V → Hp → VK → Prop := fun xs H Q => ∃ p ys, xs = [.ref p] ∧ (SqL K H p ys ∨ SqT K H p ys) ∧ Q (.int ys.length) H
theorem cLen (h : X.K = K) : CallR X (.builtin "len") (rLen K) := h ▸ call_len_seq
def rListOf (K : PySem.W.Frag) : List V → Hp → VK → Prop := fun xs H Q => ∃ p ys, xs = [.ref p] ∧ (SqL K H p ys ∨ SqT K H p ys) ∧ ∀ l, H l = none → Q (.ref l) (upd H l (.lst ys))
theorem cList (h : X.K = K) : CallR X (.type "list") (rListOf K) := h ▸ call_list_of
def rTupOf (K : PySem.W.Frag) : List V → Hp → VK → Prop := fun xs H Q => ∃ p ys, xs = [.ref p] ∧ ((SqL K H p ys ∧ ∀ l, H l = none → Q (.ref l) (upd H l (.tup ys))) ∨ (SqT K H p ys ∧ Q (.ref p) H))
theorem cTup (h : X.K = K) : CallR X (.type "tuple") (rTupOf K) := h ▸ call_tuple_of
theorem cSort (h : X.K = K) (hu : X.A.units + 65 < cLine) : CallR X (.builtin "sorted") (rSortedD K) := h ▸ call_sortedD hu
theorem cIsi (h : X.K = K) : CallR X (.builtin "isinstance") (rIsi K) := h ▸ call_isi
theorem slT (h : X.K = K) : SlR X (rSlT K) := h ▸ sl_tup
theorem slA (h : X.K = K) : SlR X (rSlA K) := h ▸ sl_tupA
end
/-! small lemmas -/
def Sq (K : PySem.W.Frag) (H : Hp) (a : Addr) (xs : List V) : Prop := SqL K H a xs ∨ SqT K H a xs
theorem ixq {K : PySem.W.Frag} {H : Hp} {a : Addr} {xs : List V} {i : Int} {v : V} {Q : VK} (h : Sq K H a xs) (e : atI xs i = some v) (q : Q v H) : rIx K (.ref a) (.int i) H Q :=
  h.elim (fun h => .inl ⟨a, xs, i, v, rfl, rfl, h, e, q⟩) fun h => .inr (.inl ⟨a, xs, i, v, rfl, rfl, h, e, q⟩)
theorem atN {xs : List V} {i : Nat} {v : V} (h : xs[i]? = some v) : atI xs (i : Int) = some v := atI_nat h
theorem same_upd {H : Hp} {p : Addr} {o : HO} (h : H p = none) : Same H (upd H p o) := fun b x e => by rw [upd_ne (ne_of_none e h)]; exact e
theorem same_tk {H H' : Hp} (h : Same H H') : Tk H H' := fun a xs e => h a _ e
theorem same_sqT {K : PySem.W.Frag} {H H' : Hp} {a : Addr} {xs : List V} (e : Same H H') (h : SqT K H a xs) : SqT K H' a xs := by
  rcases h with h | h
  · rcases h with h | ⟨o, h⟩
    · exact .inl (.inl (e _ _ h))
    · exact .inl (.inr ⟨o, e _ _ h⟩)
  · exact .inr h
theorem same_sq {K : PySem.W.Frag} {H H' : Hp} {a : Addr} {xs : List V} (e : Same H H') (h : Sq K H a xs) : Sq K H' a xs := h.elim (fun h => .inl (e.seq h)) fun h => .inr (same_sqT e h)
end Com
set_option Elab.async false
set_option linter.all false
set_option maxRecDepth 100000
set_option maxHeartbeats 4000000
namespace GenT
open PySem PySem.Spec PyProof.Rows L2 GxR
/-- the element as a test of what the name x holds; the globals and the built-ins may be read -/
def EltB (X : Cx) (scope : Scope) (x : Str) (elt : Expr) (ok : Value → Prop) (pb : Value → Bool) : Prop :=
  ∀ (cenv : Env) (A' : Around) (E' : Value → Shared → Prop) (u : Value) (s₂ : Shared) (m₂ : Str → Option Value), cenv.scope = scope → cenv.globals = mainGlobals → cenv.builtins = builtinsNs → A'.handled = none → L2.Mod X.K X.mg X.base →
    (∀ b o, X.base.get? b = some o → s₂.heap.get? b = some o) → ok u → s₂.heap.Ns cenv.locals m₂ → m₂ x = some u →
    wpAny (model X.prog X.w) A' (eval elt cenv) (fun y s₃ => y = .bool (pb u) ∧ Keeps s₂ s₃) E' s₂
/-- the test at place j -/
def trV (pb : Value → Bool) (l : List Value) (j : Nat) : Bool := match l[j]? with
  | some b => pb b
  | none => false
theorem trV_some {pb : Value → Bool} {l : List Value} {j : Nat} {b : Value} (h : l[j]? = some b) : trV pb l j = pb b := by
  unfold trV
  rw [h]
theorem any_trV (l : List Value) (pb : Value → Bool) : (List.range l.length).any (trV pb l) = l.any pb := by
  rw [Bool.eq_iff_iff, List.any_eq_true, List.any_eq_true]
  constructor
  · intro ⟨j, hj, h⟩
    have hj' := List.mem_range.mp hj
    rw [trV_some (List.getElem?_eq_getElem hj')] at h
    exact ⟨l[j], List.getElem_mem hj', h⟩
  · intro ⟨b, hb, h⟩
    obtain ⟨j, hj, e⟩ := List.getElem_of_mem hb
    refine ⟨j, List.mem_range.mpr hj, ?_⟩
    rw [trV_some (List.getElem?_eq_getElem hj), e]
    exact h
theorem all_trV (l : List Value) (pb : Value → Bool) : (List.range l.length).all (trV pb l) = l.all pb := by
  rw [Bool.eq_iff_iff, List.all_eq_true, List.all_eq_true]
  constructor
  · intro h b hb
    obtain ⟨j, hj, e⟩ := List.getElem_of_mem hb
    have q := h j (List.mem_range.mpr hj)
    rw [trV_some (List.getElem?_eq_getElem hj), e] at q
    exact q
  · intro h j hj
    have hj' := List.mem_range.mp hj
    rw [trV_some (List.getElem?_eq_getElem hj')]
    exact h _ (List.getElem_mem hj')
/-- the generator g over the items, ready to be walked -/
def ReadyV (X : Cx) (pins : List (Addr × Obj)) (σ : L2.St) (H1 : Hp) (P : Addr) (l : List Value) (pb : Value → Bool) (g : Addr) (s5 : Shared) : Prop :=
  ∃ (fp wr : List Addr) (G : Array GenState → Array GenState → Prop) (F : Nat → Value → Prop) (St : Nat → Shared → Prop),
    WalksS X.prog X.w X.A.in1 g fp wr G l.length F St ∧ St 0 s5 ∧
    TruthOf X.prog X.w X.A.in1 F (trV pb l) ∧
    ∀ s', Moved wr G s5 s' → ∃ H2, Tabbed P H1 H2 ∧ Inv X pins σ H2 s'
/-- how a source is walked: the iterator is one new object -/
def Src (X : Cx) (H1 : Hp) (s1 : Shared) (u : Value) (l : List Value) : Prop :=
  ∀ (Q : Value → Shared → Prop), (∀ (o : Obj) (fp : List Addr) (St : Nat → Heap → Prop), (∀ b ∈ fp, b = s1.heap.objs.size ∨ ∃ ob, s1.heap.get? b = some ob ∧ ob.data ≠ .fields #[] ∧ H1 b ≠ some (.tbl #[]) ∧ ∀ ps, H1 b ≠ some (.tbl ps)) →
      (∀ A' : Around, A'.handled = none → Walks X.prog X.w A' s1.heap.objs.size fp [s1.heap.objs.size] l.length (fun i v => ∃ v', l[i]? = some v' ∧ v = v') St) → St 0 (s1.heap.push o) →
      Q (.ref s1.heap.objs.size) { s1 with heap := s1.heap.push o }) → ∀ E, wpAny (model X.prog X.w) X.A (pyIter u) Q E s1
section
variable {X : Cx} {pins : List (Addr × Obj)} {σ : L2.St} {H : Hp} {s : Shared}
theorem gen_src {c P : Addr} {elt iter : Expr} {x : Str} {px gpos : Pos} {scope : Scope} {pb : Value → Bool} {ok : Value → Prop} {te : TE} {k : Nat} {Q' : Value → Shared → Prop} {B : V → Hp → Prop} {R : V → List Value → Hp → Prop}
    (hB : ∀ (v : V) (H1 : Hp), B v H1 → TabG H1 P ∧ ∀ (u : Value) (s1 : Shared), RelV v u → Inv X pins σ H1 s1 → ∃ l : List Value, (∀ z ∈ l, ok z) ∧ Src X H1 s1 u l ∧ R v l H1)
    (hr : Room k X.A) (TB : TabB X.base X.mg c P) (hcode : X.env.code = .ref c) (S : GenS X.env scope x) (hi : PE X iter te) (hel : EltB X scope x elt ok pb)
    (hs : ∀ v, genFold iter X.env v = pure v) (I : Inv X pins σ H s)
    (h : te σ H B)
    (hQ : ∀ v l H1 g s5, R v l H1 → ReadyV X pins σ H1 P l pb g s5 → Q' (.ref g) s5) :
    wpAny (model X.prog X.w) X.A (eval (.GeneratorExp elt [⟨.Name x px, iter, [], 0⟩] scope gpos) X.env) Q' X.xe s := by
  refine wpAny_GeneratorExp_walksQ hr.hd S.co (closure_ok S.free) S.cell S.dot S.loc S.kind (by have := hr.dp; omega) ?_ hs
  refine thn (hi.run pins s σ H _ I h) fun xv s1 ⟨v, H1, I1, r1, q1⟩ => ?_
  obtain ⟨⟨ps, hP, ht⟩, q1⟩ := hB v H1 q1
  obtain ⟨l, hok, hsrc, q1⟩ := q1 xv s1 r1 I1
  refine hsrc _ (fun o fp0 St hfp W hst => ?_) _
  have hPs : s1.heap.get? P = some { cls := .none, data := .fields ps } := I1.hok P _ hP
  have hPlt : P < s1.heap.objs.size := Heap.lt_size hPs
  have hP2 : (s1.heap.push o).get? P = some { cls := .none, data := .fields ps } := Heap.get?_push_of_some _ hPs
  have cd : PySem.W.CodeHd (s1.heap.push o) c P := TB.code.keeps fun b u e => Heap.get?_push_of_some _ (I1.bk b u e)
  have lim2 : (s1.heap.push o).NoLimit := I1.nolimit.push o
  have cont : ∀ (code : Value) (h3 : Heap) (tk : Nat) (ps' : Array Value), Heap.ExtBut P (s1.heap.push o) h3 → (s1.heap.push o).objs.size ≤ h3.objs.size → h3.get? P = some { cls := .none, data := .fields ps' } → (∃ more, ps' = ps ++ more) → TriplesOk ps'.toList →
      wpAny (model X.prog X.w) X.A (builtinsFor X.env.globals X.env.builtins) (fun bi s₄ =>
        ∃ Ia fp wr n₀ Pf St₀ pz F, Value.ref s1.heap.objs.size = .ref Ia ∧ (∀ A' : Around, A'.handled = none → Walks X.prog X.w A' Ia fp wr n₀ Pf St₀) ∧ St₀ 0 s₄.heap ∧ (∀ b ∈ fp, b < s₄.heap.objs.size) ∧ s₄.heap.NoLimit ∧ cStatics ∉ wr ∧
          (∀ href : Heap, (∀ b o, s₄.heap.get? b = some o → href.get? b = some o) →
            QuietGen X.prog X.w (genEnv scope (cloFrom X.env.cells scope.names []) s₄.heap.objs.size code bi X.env) x [] elt (List.range s₄.heap.objs.size) wr Pf pz F href) ∧
          (∀ a h₅ tk gs, gs.bare = true → s₄.heap.objs.size < a → h₅.objs.size = a + 1 → (∀ b o, s₄.heap.get? b = some o → h₅.get? b = some o) →
            WalksS X.prog X.w X.A.in4 a (a :: s₄.heap.objs.size :: List.range s₄.heap.objs.size) (s₄.heap.objs.size :: wr) (GenOnlyQ s₄.gens.size) (passing pz n₀ 0).length
              (fun j y => ∃ i, (passing pz n₀ 0)[j]? = some i ∧ F i y) (GenAt X.prog X.w X.A.in4 a s₄.gens.size s₄.heap.objs.size (List.range s₄.heap.objs.size) wr pz n₀ F) →
            GenAt X.prog X.w X.A.in4 a s₄.gens.size s₄.heap.objs.size (List.range s₄.heap.objs.size) wr pz n₀ F 0 { s₄ with gens := s₄.gens.push gs, toks := tk, heap := h₅ } →
            Q' (.ref a) { s₄ with gens := s₄.gens.push gs, toks := tk, heap := h₅ })) X.xe { s1 with heap := h3, toks := tk } := by
    intro code h3 tk ps' hx hsz hP3 hmore ht3
    obtain ⟨bm, ob, e1, e2, e3, e4, e5, e6, e7, e8⟩ := TB.bm
    have hcP : cStatics ≠ P := fun e => by
      obtain ⟨_, hns, _⟩ := I1.nolimit
      obtain ⟨o', es, ep, ho, hd, _⟩ := hns
      rw [e, hPs] at ho
      cases ho
      cases hd
    have hcl : cStatics < s1.heap.objs.size := let ⟨_, hns, _⟩ := I1.nolimit; hns.lt
    have sz2 : (s1.heap.push o).objs.size = s1.heap.objs.size + 1 := Heap.size_push ..
    have keep3 : ∀ b u, b ≠ P → s1.heap.get? b = some u → h3.get? b = some u := fun b u hb e => hx b u hb (Heap.get?_push_of_some _ e)
    refine wpAny_builtinsFor (m := X.mg) (by rw [I1.ok.glob]; exact ((I1.mod.glob.keeps I1.bk).push o).extBut hx TB.gP) e1 e2 (keep3 _ _ e4 (I1.bk _ _ e5)) e6 e7 e8 ?_
    have hfpP : ∀ b ∈ fp0, b ≠ P := fun b hb z => by
      rcases hfp b hb with e | ⟨ob', q1', q2', _, q4'⟩
      · exact Nat.ne_of_lt hPlt (z.symm.trans e)
      · exact q4' ps (z ▸ hP)
    refine ⟨s1.heap.objs.size, fp0, [s1.heap.objs.size], l.length, (fun i v => ∃ v', l[i]? = some v' ∧ v = v'), St, (fun _ => true), (fun i y => ∃ cc, l[i]? = some cc ∧ y = .bool (pb cc)), rfl, W, ?_, ?_, lim2.extBut hx hcP, ?_, ?_, ?_⟩
    · refine (W X.A hr.hd).frame _ _ _ hst fun b hb u e => hx b u (hfpP b hb) e
    · intro b hb
      show b < h3.objs.size
      have hlt3 : s1.heap.objs.size < h3.objs.size := by omega
      rcases hfp b hb with z | ⟨ob', q1', _⟩
      · rw [z]
        exact hlt3
      · exact Nat.lt_trans (Heap.lt_size q1') hlt3
    · intro z
      rcases List.mem_cons.mp z with z | z
      · exact Nat.ne_of_lt hcl z
      · cases z
    · intro href hhref
      refine ⟨fun A' E' i v s₂ m₂ hA hPv hn hm hk => ?_, fun A' E' i v s₂ m₂ hA hPv hp hn hm hk => ?_⟩
      · simp only [List.forIn_nil]
        exact wpAny_pure ⟨rfl, keeps_refl _⟩
      · obtain ⟨cc, hcc, rfl⟩ := hPv
        have hb2 : ∀ b o', X.base.get? b = some o' → s₂.heap.get? b = some o' := fun b o' e => by
          have e1' := I1.bk b o' e
          have hlt := Heap.lt_size e1'
          have hbP : b ≠ P := fun z => by
            have z2 := (I1.bs b o' e).2
            rw [z, hP] at z2
            cases z2
          have e3' : h3.get? b = some o' := keep3 b o' hbP e1'
          have hl3 : b < h3.objs.size := Heap.lt_size e3'
          refine hk b (List.mem_range.mpr hl3) (fun z => ?_) o' (hhref b o' e3')
          rcases List.mem_cons.mp z with z | z
          · rw [z] at hlt
            exact Nat.lt_irrefl _ hlt
          · cases z
        exact wpAny_mono (hel _ A' E' v s₂ m₂ rfl I1.ok.glob rfl hA I1.mod hb2 (hok v (List.mem_of_getElem? hcc)) hn hm) (fun y s3 r => ⟨⟨v, hcc, r.1⟩, r.2⟩) fun _ _ e => e
    · intro g h5 tk5 gs hgb hag hsz5 hk5 W5 hat
      simp only [GxR.passing_true, List.length_range] at W5
      refine hQ v l H1 g _ q1 ⟨_, _, _, _, _, W5.in4_1, hat, ?_, fun s' hm => ?_⟩
      · intro j y sj Qj Ej hy hQj
        obtain ⟨i, hij, cc, hcc, rfl⟩ := hy
        obtain ⟨hj, ej⟩ := List.getElem?_eq_some_iff.mp hij
        rw [List.getElem_range] at ej
        subst ej
        have hQ2 : Qj (trV pb l j) sj := hQj
        rw [trV_some hcc] at hQ2
        exact wpAny_truthy_bool hQ2
      · obtain ⟨more, em⟩ := hmore
        have nwr : ∀ b u, s1.heap.get? b = some u → b ∉ h3.objs.size :: [s1.heap.objs.size] := fun b u e hb => by
          have hl := Heap.lt_size e
          rcases List.mem_cons.mp hb with z | z
          · rw [z] at hl
            have h9 : (h3.objs.size : Nat) < s1.heap.objs.size := hl
            omega
          · rcases List.mem_cons.mp z with z | z
            · rw [z] at hl
              exact Nat.lt_irrefl _ hl
            · cases z
        have J := inv_tab (more := more) (h' := s'.heap) (g' := s'.gens) (d' := s'.drawn) (t' := s'.toks) I1 hP (fun b u hb e => hm.heap b u (nwr b u e) (hk5 b u (keep3 b u hb e)))
          (by rw [← em]; exact hm.heap P _ (nwr P _ hPs) (hk5 P _ hP3)) (AllBare.movedS (I1.bare.push hgb) hm)
        rw [sh_eta s1 s' hm.os] at J
        refine ⟨upd H1 P (.tbl (ps ++ more)), ⟨⟨ps ++ more, upd_same, by rw [← em]; exact ht3⟩, fun b hb => upd_ne hb⟩, J⟩
  refine ⟨lim2, ?_⟩
  cases hf : codeAmong gpos ps.toList with
  | none =>
    refine wpAny_genexprCodeX hcode (cd.code hP2 ht) (cd.tab hP2) hf fun c' h' tk hx hge hlt hco' _ htab' _ => ?_
    obtain ⟨o1, vs, f1, tf, fl, tg, inF, tx, tt, op, _, _, _, _, _, _, _, _, _, htr, _⟩ := hco'
    exact cont _ h' tk _ hx (Nat.le_trans hge (Nat.le_of_lt hlt)) htab'.2 ⟨_, rfl⟩ htr
  | some cv =>
    refine wpAny_genexprCode_hit hcode (cd.code hP2 ht) hf ?_
    exact cont cv (s1.heap.push o) s1.toks ps (Heap.ExtBut.refl _ _) (Nat.le_refl _) hP2 ⟨#[], by simp⟩ ht
/-- a tracked tuple as a source -/
theorem src_tup {H1 : Hp} {s1 : Shared} {a : Addr} {xs : List V} (I1 : Inv X pins σ H1 s1) (h : H1 a = some (.tup xs)) : ∃ l : List Value, Vals xs l ∧ Src X H1 s1 (.ref a) l := by
  obtain ⟨_, its, rv, o, e1, e2, n, e3⟩ := (show ObjOk X.prog X.w H1 s1.heap a (.tup xs) from I1.hok a _ h)
  refine ⟨its, rv, fun Q hQ E => ?_⟩
  have hlt : a < s1.heap.objs.size := Heap.lt_size e1
  have hT : s1.heap.IsTuple a its.toArray := ⟨o, e1, e2, n, e3⟩
  refine wpAny_pyIter_tuple hT (hQ _ [s1.heap.objs.size, a] (fun i h => h.IsTupleIter s1.heap.objs.size a i ∧ h.IsTuple a its.toArray) ?_ ?_ ?_)
  · intro b hb
    rcases List.mem_cons.mp hb with z | z
    · exact .inl z
    · rcases List.mem_cons.mp z with z | z
      · subst z
        refine .inr ⟨o, e1, fun q => ?_, fun q => ?_, fun ps q => ?_⟩
        · rw [e3] at q
          cases q
        · rw [h] at q
          cases q
        · rw [h] at q
          cases q
      · cases z
  · intro A' hA
    have W := Walks.tuple (prog := X.prog) (w := X.w) hA s1.heap.objs.size a (Nat.ne_of_lt hlt) its.toArray
    have e5 : its.toArray.size = its.length := by simp
    have e6 : (fun (i : Nat) (v : Value) => its.toArray[i]? = some v) = (fun i v => ∃ v', its[i]? = some v' ∧ v = v') := by
      funext i v
      apply propext
      constructor
      · intro q
        exact ⟨v, by simpa using q, rfl⟩
      · rintro ⟨v', q, rfl⟩
        simpa using q
    rw [e5, e6] at W
    exact W
  · exact ⟨⟨_, Heap.get?_push_size _ rfl, rfl, rfl⟩, _, Heap.get?_push_of_some _ e1, e2, n, e3⟩
/-- any(test for x in e), e a tuple; behind it the def's table may have grown. pv: the test on values -/
def tAnyT (P : Addr) (okv : V → Prop) (pv : V → Bool) (te : TE) : TE := fun σ H Q => te σ H fun v H1 => TabG H1 P ∧ ∃ (a : Addr) (xs : List V), v = .ref a ∧ H1 a = some (.tup xs) ∧ (∀ x ∈ xs, okv x) ∧ ∀ H2, Tabbed P H1 H2 → Q (.bl (xs.any pv)) H2
theorem any_vals {pv : V → Bool} {pb : Value → Bool} {okv : V → Prop} (hp : ∀ x u, okv x → RelV x u → pb u = pv x) : ∀ {xs : List V} {us : List Value}, Vals xs us → (∀ x ∈ xs, okv x) → us.any pb = xs.any pv
  | _, _, .nil, _ => rfl
  | _, _, .cons r t, h => by
    rw [List.any_cons, List.any_cons, any_vals hp t (fun x hx => h x (List.mem_cons_of_mem _ hx)), hp _ _ (h _ List.mem_cons_self) r]
theorem ok_vals {okv : V → Prop} {ok : Value → Prop} (hp : ∀ x u, okv x → RelV x u → ok u) : ∀ {xs : List V} {us : List Value}, Vals xs us → (∀ x ∈ xs, okv x) → ∀ z ∈ us, ok z
  | _, _, .nil, _, z, hz => by cases hz
  | _, _, .cons r t, h, z, hz => by
    rcases List.mem_cons.mp hz with e | hz
    · rw [e]
      exact hp _ _ (h _ List.mem_cons_self) r
    · exact ok_vals hp t (fun x hx => h x (List.mem_cons_of_mem _ hx)) z hz
theorem pe_anyT {c P : Addr} {elt iter : Expr} {x : Str} {px p pos gpos : Pos} {scope : Scope} {pb : Value → Bool} {ok : Value → Prop} {okv : V → Prop} {pv : V → Bool} {te : TE} {k : Nat}
    (hr : Room k X.A) (hg : Gl X "any") (hm : X.mg "any" = none) (TB : TabB X.base X.mg c P) (hcode : X.env.code = .ref c) (S : GenS X.env scope x) (hi : PE X iter te) (hel : EltB X scope x elt ok pb)
    (hp : ∀ x u, okv x → RelV x u → pb u = pv x) (hp2 : ∀ x u, okv x → RelV x u → ok u)
    (hs : ∀ v, genFold iter X.env v = pure v)
    (he : starEach [.GeneratorExp elt [⟨.Name x px, iter, [], 0⟩] scope gpos] X.env = (false, eval (.GeneratorExp elt [⟨.Name x px, iter, [], 0⟩] scope gpos) X.env) :: starEach [] X.env := by rfl) :
    PE X (.Call (.Name "any" p) [.GeneratorExp elt [⟨.Name x px, iter, [], 0⟩] scope gpos] [] pos) (tAnyT P okv pv te) := by
  refine ⟨fun pins s σ H Q I h => ?_⟩
  refine wpAny_Call_Name_kw (ld_blt I hg hm boot_any ?_)
  refine PyProof.Rows.callWith_builtin1 ?_ he (by rfl)
  rw [he]
  show wpAny _ _ (spliced ((false, eval (.GeneratorExp elt [⟨.Name x px, iter, [], 0⟩] scope gpos) X.env) :: backTo pos (starEach [] X.env))) _ _ s
  refine Calls.spliced_cons (gen_src (te := te) (R := fun v l H1 => ∀ H2, Tabbed P H1 H2 → Q (.bl (l.any pb)) H2) (hB := ?_) hr TB hcode S hi hel hs I h fun v l H1 g s5 hR hG => ?_)
  · rintro v H1 ⟨hT, a, xs, rfl, ha, hok, hq⟩
    refine ⟨hT, fun u s1 ru I1 => ?_⟩
    cases (show u = Value.ref a from ru)
    obtain ⟨l, rv, hsrc⟩ := src_tup I1 ha
    refine ⟨l, ok_vals hp2 rv hok, hsrc, fun H2 hTb => ?_⟩
    rw [any_vals hp rv hok]
    exact hq H2 hTb
  obtain ⟨fp, wr, G, F, St, W, hst, htr, hI⟩ := hG
  refine Calls.spliced_nil ?_
  refine call_any_walkS (W.self 0 _ _ _ hst ⟨g, fp, wr, G, _, F, St, _, rfl, W, hst, htr, fun s' hmv => ?_⟩)
  obtain ⟨H2, hT, J⟩ := hI s' hmv
  refine ⟨.bl _, H2, J, rfl, ?_⟩
  rw [any_trV l pb]
  exact hR H2 hT
end
/-- isinstance(x, bool) of an int, a text, a truth value, None -/
def isB : Value → Bool
  | .bool _ => true
  | _ => false
def Flat (u : Value) : Prop := (∃ n t, u = .int n t) ∨ (∃ y t, u = .str y t) ∨ ∃ b, u = .bool b
theorem elt_isb {X : Cx} {scope : Scope} {x : Str} {p1 p2 p3 p4 : Pos} (hk : scope.kind = .function) (hl : scope.names.lookup x = some .local) (hi : scope.names.lookup ("isinstance" : Str) = some .globalImplicit) (hb : scope.names.lookup ("bool" : Str) = some .globalImplicit)
    (mi : X.mg "isinstance" = none) (mb : X.mg "bool" = none) (vi : bootBuiltins "isinstance" = some (.builtin "isinstance")) (vb : bootBuiltins "bool" = some (.type "bool")) (hd : (x == ("__debug__" : Str)) = false := by decide) :
    EltB X scope x (.Call (.Name "isinstance" p1) [.Name x p2, .Name "bool" p3] [] p4) Flat isB := by
  intro cenv A' E' u s₂ m₂ hs hg hbn hA M hkp hok hn hm
  obtain ⟨mbn, h1, h2⟩ := M.blt
  have kB : ∀ {s : Shared}, s.heap = s₂.heap → X.K.In s.heap := fun e => by rw [e]; exact M.kin.keeps hkp
  refine wpAny_Call_Name_kw (Calls.Name_function_global (by rw [hs]; exact hk) (show cenv.scope.names.lookup ("isinstance" : Str) = some .globalImplicit by rw [hs]; exact hi)
    (Calls.loadGlobal_builtin (by rw [hg]; exact M.glob.keeps hkp) mi (by rw [hbn]; exact h1.keeps hkp) ((h2 _ (by decide)).trans vi) ?_))
  refine PyProof.Rows.callWith_builtin1 ?_ (by rfl) (by rfl)
  refine Calls.spliced_cons (wpAny_Name (wpAny_loadName_local (by rw [hs]; exact hk) (show cenv.scope.names.lookup x = some .local by rw [hs]; exact hl) hn hm ?_) hd)
  refine Calls.spliced_cons (Calls.Name_function_global (by rw [hs]; exact hk) (show cenv.scope.names.lookup ("bool" : Str) = some .globalImplicit by rw [hs]; exact hb)
    (Calls.loadGlobal_builtin (by rw [hg]; exact M.glob.keeps hkp) mb (by rw [hbn]; exact h1.keeps hkp) ((h2 _ (by decide)).trans vb) ?_))
  refine Calls.spliced_nil ?_
  rcases hok with ⟨n, t, rfl⟩ | ⟨y, t, rfl⟩ | ⟨b, rfl⟩
  · exact PySem.W.kia_one PySem.W.kitx_int (M.kin.keeps hkp) trivial (kit_ty (a := "int") (b := "bool") (r := false) (by decide +kernel)) (fun z => nomatch z) fun tk => ⟨rfl, keeps_tok _ _⟩
  · exact PySem.W.kia_one PySem.W.kitx_str (M.kin.keeps hkp) trivial (kit_ty (a := "str") (b := "bool") (r := false) (by decide +kernel)) (fun z => nomatch z) fun tk => ⟨rfl, keeps_tok _ _⟩
  · exact PySem.W.kia_one PySem.W.kitx_bool (M.kin.keeps hkp) trivial (kit_ty (a := "bool") (b := "bool") (r := true) (by decide +kernel)) (fun z => nomatch z) fun tk => ⟨rfl, keeps_tok _ _⟩
end GenT
set_option Elab.async false
set_option linter.all false
set_option maxRecDepth 100000
set_option maxHeartbeats 4000000
namespace RuleX
open PySem PySem.Spec PyProof.Rows L2 Com HT
/-! a tuple from its end -/
section
variable {prog : Program} {w : World} {A : Around} {E : Value → Shared → Prop} {s : Shared}
theorem adjust_rev (n : Nat) : Builtin.Slice.sliceAdjust none none (-1) (n : Int) = ((n : Int) - 1, -1) := by
  unfold Builtin.Slice.sliceAdjust
  rfl
theorem places_rev (n : Nat) : Builtin.Slice.slicePlaces ((n : Int) - 1) (-1) (-1) = n := by
  unfold Builtin.Slice.slicePlaces
  have h1 : ¬ ((-1 : Int) > 0) := by omega
  have h2 : (- -1 : Int) = 1 := by omega
  simp only [h1, if_false, h2, Int.ediv_one]
  split <;> omega
theorem applied_rev {sl : Addr} {t : Tok} {n : Nat} {Q : Int × Int × Nat → Shared → Prop} (hs : s.heap.IsSliceOf sl .none .none (.int (-1) t))
    (h : Q ((n : Int) - 1, -1, n) s) : wpAny (model prog w) A (Builtin.Slice.sliceApplied (.ref sl) (pure (n : Int))) Q E s := by
  obtain ⟨os, hos, hcs, hds⟩ := id hs
  unfold Builtin.Slice.sliceApplied Builtin.Slice.sliceFields
  refine wpAny_bind (wpAny_bind (wpAny_field hos hds (x := .none) rfl (wpAny_bind (wpAny_field hos hds (x := .none) rfl (wpAny_bind (wpAny_field hos hds (x := .int (-1) t) rfl (wpAny_pure ?_)))))))
  refine wpAny_bind (slicePart_int ?_)
  show wpAny _ _ (if ((-1 : Int) == 0) = true then _ else _) _ _ s
  rw [if_neg (by decide)]
  refine wpAny_bind (slicePart_none (wpAny_bind (slicePart_none (wpAny_bind (wpAny_pure ?_)))))
  show wpAny _ _ (match Builtin.Slice.sliceAdjust none none (-1) (n : Int) with | (lo, hi) => pure (lo, (-1 : Int), Builtin.Slice.slicePlaces lo hi (-1))) _ _ s
  rw [adjust_rev n]
  show wpAny _ _ (pure ((n : Int) - 1, (-1 : Int), Builtin.Slice.slicePlaces ((n : Int) - 1) (-1) (-1))) _ _ s
  rw [places_rev]
  exact wpAny_pure h
theorem pick_rev (xs : Array Value) : ((List.range xs.size).filterMap fun (m : Nat) => xs[(((xs.size : Int) - 1) + (m : Int) * -1).toNat]?).toArray = xs.toList.reverse.toArray := by
  congr 1
  have e : ∀ m ∈ List.range xs.size, xs[(((xs.size : Int) - 1) + (m : Int) * -1).toNat]? = xs[xs.size - 1 - m]? := fun m hm => by
    have h := List.mem_range.mp hm
    have : (((xs.size : Int) - 1) + (m : Int) * -1).toNat = xs.size - 1 - m := by omega
    rw [this]
  have fc : ∀ (l : List Nat) (f g : Nat → Option Value), (∀ m ∈ l, f m = g m) → l.filterMap f = l.filterMap g := fun l f g h => by
    induction l with
    | nil => rfl
    | cons a r ih => rw [List.filterMap_cons, List.filterMap_cons, h a List.mem_cons_self, ih fun m hm => h m (List.mem_cons_of_mem _ hm)]
  rw [fc _ _ _ e]
  have e2 : (List.range xs.size).filterMap (fun m => xs[xs.size - 1 - m]?) = ((List.range xs.size).map (fun k => xs.size - 1 - k)).filterMap (xs[·]?) := by rw [List.filterMap_map]; rfl
  rw [e2, PySem.W.krv_range, List.filterMap_reverse, PySem.W.krv_all]
theorem getItem_tuple_rev {t sl : Addr} {tk : Tok} {items : Array Value} {Q : Value → Shared → Prop} (ht : IsTup s.heap t items) (hs : s.heap.IsSliceOf sl .none .none (.int (-1) tk))
    (h : Q (.ref s.heap.objs.size) { s with heap := s.heap.push { cls := .type "tuple", data := .seq items.toList.reverse.toArray } })
    (hsz : items.size ≤ sizeLine) : wpAny (model prog w) A (getItem (.ref t) (.ref sl)) Q E s := by
  have htake : sizeOk (.seq items.toList.reverse.toArray) := by
    show items.toList.reverse.toArray.size ≤ sizeLine
    rw [List.size_toArray, List.length_reverse, Array.length_toList]
    exact hsz
  obtain ⟨os, hos, hcs, hds⟩ := id hs
  have hTs : s.TypeIs (.ref sl) "slice" := ⟨os, hos, hcs⟩
  unfold getItem
  try with_reducible refine wpAny_holding ?_
  first | refine wpAny_bind (wpAny_pure ?_) | skip
  refine wpAny_bind (wpAny_sequenceKey ht.typeIs (by decide) ?_)
  refine wpAny_bind (wpAny_callSpecial?_slot (name := Str.ofString "__getitem__") ht.typeIs PyProof.Rows.slot_tuple_getitem
    (wpAny_call_entry PyProof.Rows.slot_tuple_getitem ht.typeIs entry_tuple_getitem ?_ (args_tuple_getitem _ _)))
  show wpAny _ _ (Builtin.Tuple.tupleItemsOf (.ref t) >>= _) _ _ s
  refine wpAny_bind (tupleItemsOf_ ht ?_)
  refine wpAny_bind (wpAny_typeOf hTs ?_)
  rw [if_pos (by decide)]
  refine wpAny_bind (applied_rev hs ?_)
  have hno : ¬ ((((items.size : Int) - 1) == 0 && (-1 : Int) == 1 && items.size == items.size) = true) := by
    intro q
    rw [Bool.and_eq_true, Bool.and_eq_true] at q
    exact absurd q.1.2 (by decide)
  show wpAny _ _ (if (((items.size : Int) - 1) == 0 && (-1 : Int) == 1 && items.size == items.size) = true then _ else _) _ _ s
  rw [if_neg hno, pick_rev]
  first
    | exact wpAny_bind (m := Builtin.Tuple.tupleExact _) (wpAny_newObj_type (wpAny_pure ⟨_, rfl, wpAny_pure h⟩) htake)
    | exact wpAny_bind (m := Builtin.Tuple.tupleExact _) (wpAny_newObj_type (wpAny_bind (wpAny_pure (wpAny_pure ⟨_, rfl, wpAny_pure h⟩))) htake)
    | exact wpAny_bind (wpAny_bind (m := Builtin.Tuple.tupleExact _) (wpAny_newObj_type (wpAny_pure (wpAny_pure ⟨_, rfl, wpAny_pure h⟩)) htake))
    | exact wpAny_bind (wpAny_bind (m := Builtin.Tuple.tupleExact _) (wpAny_newObj_type (wpAny_pure ⟨_, rfl, wpAny_pure h⟩) htake))
end
section
variable {X : Cx} {K : PySem.W.Frag}
def tRevT (K : PySem.W.Frag) (te : TE) : TE := fun σ H Q => te σ H fun x H1 => ∃ a xs, x = .ref a ∧ SqT K H1 a xs ∧ ∀ p, H1 p = none → Q (.ref p) (upd H1 p (.tup xs.reverse))
theorem pe_revT {e : Expr} {te : TE} {k : Nat} {p1 p2 p3 pos : Pos} (hK : X.K = K) (he : PE X e te) : PE X (.Subscript e (.Slice none none (some (.UnaryOp .USub (.Constant (.int 1) k p1) p2)) p3) pos) (tRevT K te) := by
  subst hK
  refine ⟨fun pins s σ H Q I h => ?_⟩
  refine Subscript_ (thn (he.run pins s σ H _ I h) fun v s1 ⟨x, H1, I1, r1, q1⟩ => ?_)
  obtain ⟨a, xs, ex, hx, q⟩ := q1
  subst ex
  cases r1
  have hst : PO X (some (.UnaryOp .USub (.Constant (.int 1) k p1) p2)) (tPart (tUn (rU fun i => .int (-i)) (tC (.int 1)))) := po_some (pe_un un_neg pe_int)
  refine wpAny_Slice (thn (po_none.run pins s1 σ H1 (fun o H2 => o = none ∧ H2 = H1) I1 ⟨rfl, rfl⟩) fun vl s2 ⟨l, H2, I2, pl, el, e2⟩ => ?_)
  subst el e2
  refine thn (po_none.run pins s2 σ H2 (fun o H3 => o = none ∧ H3 = H2) I2 ⟨rfl, rfl⟩) fun vu s3 ⟨u, H3, I3, pu, eu, e3⟩ => ?_
  subst eu e3
  refine thn (hst.run pins s3 σ H3 (fun o H4 => o = some (-1) ∧ H4 = H3) I3 ⟨1, rfl, -1, rfl, rfl, rfl⟩) fun vs s4 ⟨o, H4, I4, ps, eo, e4⟩ => ?_
  subst eo e4
  have I5 : Inv X pins σ H4 { s4 with heap := s4.heap.push { cls := .type "slice", data := .fields #[vl, vu, vs] } } := I4.kept (t' := s4.toks) fun b ob q => Heap.get?_push_of_some _ q
  obtain ⟨its, r, ht, hz⟩ := I5.tuple hx
  cases pl
  cases pu
  cases ps with
  | int i tk =>
    show wpAny (model X.prog X.w) X.A (subscriptTail e (.Slice none none (some (.UnaryOp .USub (.Constant (.int 1) k p1) p2)) p3) (.ref a) (.ref s4.heap.objs.size)) (EP X pins σ Q) X.xe _
    refine tail_any (ops := [.ref a, .ref s4.heap.objs.size]) ht.typeIs (PyProof.Rows.slot_tuple_getitem.lookup) ?_ (by with_unfolding_all rfl)
    refine getItem_tuple_rev ht (Heap.IsSliceOf.new _ _ _ _) ?_ (by rw [List.size_toArray, ← r.length]; exact hz)
    refine ⟨.ref _, _, I5.laid (t' := s4.toks) (o := .tup xs.reverse) (fun b ob q => Heap.get?_push_of_some _ q) (Nat.le_refl _) ?_, rfl, q _ (I5.hok.fresh (Nat.le_refl _))⟩
    exact ⟨by rw [List.length_reverse]; exact hz, _, r.reverse, IsTup.new _ _⟩
/-! xs.extend(t) -/
theorem extT_meets (l : Addr) (items : Array Value) (n : Nat) (b : Addr) (items2 : Array Value) (n2 : Nat) (dd : Option Addr) (sl : Array (Option Value)) (hs0 : ¬(!items.isEmpty && Builtin.List.listTooLong (items.size + items2.size)) = true) (hs1 : items.size ≤ sizeLine) (hs2 : items.size + items2.size ≤ sizeLine + 1) :
    Meets (Builtin.«list.extend» ⟨[.ref l, .ref b], []⟩) (fun _ R s => s.heap.get? l = some { cls := .type "list", dict := none, data := .seq items n, slots := #[] } ∧ s.heap.get? b = some { cls := .type "tuple", dict := dd, data := .seq items2 n2, slots := sl } ∧ R (.ok (.ret Value.none)) { s with heap := s.heap.update l (Obj.mapSeq fun x => x ++ items2), toks := s.toks }) :=
  .of_wp fun prog w A R s h => by
    obtain ⟨hp, g, d, tk, os⟩ := s; obtain ⟨hl, hb, h⟩ := h; have f1 := AutoSeq1.idx_int; have f2 := AutoSeq1.sub_tuple_tuple; have f3 := AutoSeq1.sub_list_list; have f4 := AutoSeq1.sub_tuple_list; have f5 := AutoSeq1.sub_list_tuple
    have hz' : (items ++ items2).size ≤ sizeLine + 1 := by rw [Array.size_append]; exact hs2
    wp_walk using (wpAny_updateSeq hl rfl (hz := hs1) (_hz' := hz')), wpAny_loadPart' hl, wpAny_loadPart' hb; exact ⟨_, rfl, h⟩
def rExtT (K : PySem.W.Frag) : V → List V → Hp → VK → Prop := fun x vs H Q => ∃ l b xs zs, x = .ref l ∧ vs = [.ref b] ∧ H l = some (.lst xs) ∧ H b = some (.tup zs) ∧ xs.length + zs.length ≤ sizeLine ∧ Q .non (upd H l (.lst (xs ++ zs)))
theorem mt_extT : MtM X "list.extend" (rExtT K) := by
  intro pins s σ H x vs v us Q I rx rv h
  obtain ⟨l, b, xs, zs, rfl, rfl, hH, hB, hz, q⟩ := h
  cases rx
  obtain ⟨u, rfl, ru⟩ := rv.one
  cases ru
  obtain ⟨z, its, n, r, hl, e⟩ := I.lstM hH
  obtain ⟨z2, its2, r2, hb⟩ := (show ObjOk X.prog X.w H s.heap b (.tup zs) from I.hok b _ hB)
  have hl2 := r2.length
  obtain ⟨⟨cls2, dd2, data2, sl2⟩, ho2, hc2, n2, hd2⟩ := id hb
  simp only at hc2 hd2
  subst hc2 hd2
  have hsz : its.toArray.size + its2.toArray.size ≤ sizeLine := by rw [List.size_toArray, List.size_toArray]; omega
  have hlong : ¬ (!its.toArray.isEmpty && Builtin.List.listTooLong (its.toArray.size + its2.toArray.size)) = true := by
    rw [notLongL hsz, Bool.and_false]
    exact Bool.false_ne_true
  refine call_meets F.slot_list_extend ⟨_, e, rfl⟩ F.entry_list_extend (F.args_list_extend_2 _ _)
    (extT_meets l its.toArray n b its2.toArray n2 dd2 sl2 hlong (by rw [List.size_toArray]; omega) (by omega)) ⟨e, ho2, ?_⟩
  refine ⟨.non, _, I.lset (its' := its ++ its2) hH e (by simp) (r.append r2) ?_, rfl, q⟩
  rw [List.length_append]
  omega
/-! a < b of data -/
def rLtD (K : PySem.W.Frag) : R2 := fun x y H Q => ∃ d e, Dp K H x d ∧ Dp K H y e ∧ PySem.W.alike d e = true ∧ d ≠ .none ∧ d.depth ≤ 8 ∧ Q (.bl (PySem.W.dataLt d e)) H
theorem op_ltD (hK : X.K = K) (hu : X.A.units + 64 < cLine) : OpR X (compareOp .Lt) (rLtD K) := by
  subst hK
  intro pins s σ H x y v u Q I rx ry h
  obtain ⟨d, e, hd, he, ha, hn, hdp, q⟩ := h
  obtain ⟨as, r1⟩ := Dp.reads I d x v hd rx
  obtain ⟨bs, r2⟩ := Dp.reads I e y u he ry
  exact PySem.W.lt_data r1 r2 ha hn (by omega) ⟨.bl _, H, I, rfl, q⟩
end
end RuleX
set_option Elab.async false
set_option linter.all false
set_option maxRecDepth 100000
set_option maxHeartbeats 4000000
namespace GenU
open PySem PySem.Spec PyProof.Rows L2 GxR
/-- the element as a test of what the name x holds; the globals and the built-ins may be read -/
def EltB (X : Cx) (scope : Scope) (x : Str) (elt : Expr) (ok : Value → Prop) (pb : Value → Bool) : Prop :=
  ∀ (cenv : Env) (A' : Around) (E' : Value → Shared → Prop) (u : Value) (s₂ : Shared) (m₂ : Str → Option Value), cenv.scope = scope → cenv.globals = mainGlobals → cenv.builtins = builtinsNs → A'.handled = none → L2.Mod X.K X.mg X.base →
    (∀ b o, X.base.get? b = some o → s₂.heap.get? b = some o) → ok u → s₂.heap.Ns cenv.locals m₂ → m₂ x = some u →
    wpAny (model X.prog X.w) A' (eval elt cenv) (fun y s₃ => y = .bool (pb u) ∧ Keeps s₂ s₃) E' s₂
/-- the generator g over the items, ready to be walked -/
def ReadyV (X : Cx) (pins : List (Addr × Obj)) (σ : L2.St) (H1 : Hp) (P : Addr) (n : Nat) (tr : Nat → Bool) (g : Addr) (s5 : Shared) : Prop :=
  ∃ (fp wr : List Addr) (G : Array GenState → Array GenState → Prop) (F : Nat → Value → Prop) (St : Nat → Shared → Prop),
    WalksS X.prog X.w X.A.in1 g fp wr G n F St ∧ St 0 s5 ∧
    TruthOf X.prog X.w X.A.in1 F tr ∧
    ∀ s', Moved wr G s5 s' → ∃ H2, Tabbed P H1 H2 ∧ Inv X pins σ H2 s'
/-- how a source is walked: the iterator is one new object -/
def Src (X : Cx) (H1 : Hp) (s1 : Shared) (u : Value) (n : Nat) (It : Nat → Value → Prop) : Prop :=
  ∀ (Q : Value → Shared → Prop), (∀ (o : Obj) (fp : List Addr) (St : Nat → Heap → Prop), (∀ b ∈ fp, b = s1.heap.objs.size ∨ ∃ ob, s1.heap.get? b = some ob ∧ ob.data ≠ .fields #[] ∧ H1 b ≠ some (.tbl #[]) ∧ ∀ ps, H1 b ≠ some (.tbl ps)) →
      (∀ A' : Around, A'.handled = none → Walks X.prog X.w A' s1.heap.objs.size fp [s1.heap.objs.size] n It St) → St 0 (s1.heap.push o) →
      Q (.ref s1.heap.objs.size) { s1 with heap := s1.heap.push o }) → ∀ E, wpAny (model X.prog X.w) X.A (pyIter u) Q E s1
section
variable {X : Cx} {pins : List (Addr × Obj)} {σ : L2.St} {H : Hp} {s : Shared}
theorem gen_src {c P : Addr} {elt iter : Expr} {x : Str} {px gpos : Pos} {scope : Scope} {pb : Value → Bool} {ok : Value → Prop} {te : TE} {k : Nat} {Q' : Value → Shared → Prop} {B : V → Hp → Prop} {R : V → Nat → (Nat → Bool) → Hp → Prop}
    (hB : ∀ (v : V) (H1 : Hp), B v H1 → TabG H1 P ∧ ∀ (u : Value) (s1 : Shared), RelV v u → Inv X pins σ H1 s1 → ∃ (n : Nat) (It : Nat → Value → Prop) (tr : Nat → Bool), (∀ i z, It i z → ok z ∧ pb z = tr i) ∧ Src X H1 s1 u n It ∧ R v n tr H1)
    (hr : Room k X.A) (TB : TabB X.base X.mg c P) (hcode : X.env.code = .ref c) (S : GenS X.env scope x) (hi : PE X iter te) (hel : EltB X scope x elt ok pb)
    (hs : ∀ v, genFold iter X.env v = pure v) (I : Inv X pins σ H s)
    (h : te σ H B)
    (hQ : ∀ v n tr H1 g s5, R v n tr H1 → ReadyV X pins σ H1 P n tr g s5 → Q' (.ref g) s5) :
    wpAny (model X.prog X.w) X.A (eval (.GeneratorExp elt [⟨.Name x px, iter, [], 0⟩] scope gpos) X.env) Q' X.xe s := by
  refine wpAny_GeneratorExp_walksQ hr.hd S.co (closure_ok S.free) S.cell S.dot S.loc S.kind (by have := hr.dp; omega) ?_ hs
  refine thn (hi.run pins s σ H _ I h) fun xv s1 ⟨v, H1, I1, r1, q1⟩ => ?_
  obtain ⟨⟨ps, hP, ht⟩, q1⟩ := hB v H1 q1
  obtain ⟨nn, It, tr, hok, hsrc, q1⟩ := q1 xv s1 r1 I1
  refine hsrc _ (fun o fp0 St hfp W hst => ?_) _
  have hPs : s1.heap.get? P = some { cls := .none, data := .fields ps } := I1.hok P _ hP
  have hPlt : P < s1.heap.objs.size := Heap.lt_size hPs
  have hP2 : (s1.heap.push o).get? P = some { cls := .none, data := .fields ps } := Heap.get?_push_of_some _ hPs
  have cd : PySem.W.CodeHd (s1.heap.push o) c P := TB.code.keeps fun b u e => Heap.get?_push_of_some _ (I1.bk b u e)
  have lim2 : (s1.heap.push o).NoLimit := I1.nolimit.push o
  have cont : ∀ (code : Value) (h3 : Heap) (tk : Nat) (ps' : Array Value), Heap.ExtBut P (s1.heap.push o) h3 → (s1.heap.push o).objs.size ≤ h3.objs.size → h3.get? P = some { cls := .none, data := .fields ps' } → (∃ more, ps' = ps ++ more) → TriplesOk ps'.toList →
      wpAny (model X.prog X.w) X.A (builtinsFor X.env.globals X.env.builtins) (fun bi s₄ =>
        ∃ Ia fp wr n₀ Pf St₀ pz F, Value.ref s1.heap.objs.size = .ref Ia ∧ (∀ A' : Around, A'.handled = none → Walks X.prog X.w A' Ia fp wr n₀ Pf St₀) ∧ St₀ 0 s₄.heap ∧ (∀ b ∈ fp, b < s₄.heap.objs.size) ∧ s₄.heap.NoLimit ∧ cStatics ∉ wr ∧
          (∀ href : Heap, (∀ b o, s₄.heap.get? b = some o → href.get? b = some o) →
            QuietGen X.prog X.w (genEnv scope (cloFrom X.env.cells scope.names []) s₄.heap.objs.size code bi X.env) x [] elt (List.range s₄.heap.objs.size) wr Pf pz F href) ∧
          (∀ a h₅ tk gs, gs.bare = true → s₄.heap.objs.size < a → h₅.objs.size = a + 1 → (∀ b o, s₄.heap.get? b = some o → h₅.get? b = some o) →
            WalksS X.prog X.w X.A.in4 a (a :: s₄.heap.objs.size :: List.range s₄.heap.objs.size) (s₄.heap.objs.size :: wr) (GenOnlyQ s₄.gens.size) (passing pz n₀ 0).length
              (fun j y => ∃ i, (passing pz n₀ 0)[j]? = some i ∧ F i y) (GenAt X.prog X.w X.A.in4 a s₄.gens.size s₄.heap.objs.size (List.range s₄.heap.objs.size) wr pz n₀ F) →
            GenAt X.prog X.w X.A.in4 a s₄.gens.size s₄.heap.objs.size (List.range s₄.heap.objs.size) wr pz n₀ F 0 { s₄ with gens := s₄.gens.push gs, toks := tk, heap := h₅ } →
            Q' (.ref a) { s₄ with gens := s₄.gens.push gs, toks := tk, heap := h₅ })) X.xe { s1 with heap := h3, toks := tk } := by
    intro code h3 tk ps' hx hsz hP3 hmore ht3
    obtain ⟨bm, ob, e1, e2, e3, e4, e5, e6, e7, e8⟩ := TB.bm
    have hcP : cStatics ≠ P := fun e => by
      obtain ⟨_, hns, _⟩ := I1.nolimit
      obtain ⟨o', es, ep, ho, hd, _⟩ := hns
      rw [e, hPs] at ho
      cases ho
      cases hd
    have hcl : cStatics < s1.heap.objs.size := let ⟨_, hns, _⟩ := I1.nolimit; hns.lt
    have sz2 : (s1.heap.push o).objs.size = s1.heap.objs.size + 1 := Heap.size_push ..
    have keep3 : ∀ b u, b ≠ P → s1.heap.get? b = some u → h3.get? b = some u := fun b u hb e => hx b u hb (Heap.get?_push_of_some _ e)
    refine wpAny_builtinsFor (m := X.mg) (by rw [I1.ok.glob]; exact ((I1.mod.glob.keeps I1.bk).push o).extBut hx TB.gP) e1 e2 (keep3 _ _ e4 (I1.bk _ _ e5)) e6 e7 e8 ?_
    have hfpP : ∀ b ∈ fp0, b ≠ P := fun b hb z => by
      rcases hfp b hb with e | ⟨ob', q1', q2', _, q4'⟩
      · exact Nat.ne_of_lt hPlt (z.symm.trans e)
      · exact q4' ps (z ▸ hP)
    refine ⟨s1.heap.objs.size, fp0, [s1.heap.objs.size], nn, It, St, (fun _ => true), (fun i y => y = .bool (tr i)), rfl, W, ?_, ?_, lim2.extBut hx hcP, ?_, ?_, ?_⟩
    · refine (W X.A hr.hd).frame _ _ _ hst fun b hb u e => hx b u (hfpP b hb) e
    · intro b hb
      show b < h3.objs.size
      have hlt3 : s1.heap.objs.size < h3.objs.size := by omega
      rcases hfp b hb with z | ⟨ob', q1', _⟩
      · rw [z]
        exact hlt3
      · exact Nat.lt_trans (Heap.lt_size q1') hlt3
    · intro z
      rcases List.mem_cons.mp z with z | z
      · exact Nat.ne_of_lt hcl z
      · cases z
    · intro href hhref
      refine ⟨fun A' E' i v s₂ m₂ hA hPv hn hm hk => ?_, fun A' E' i v s₂ m₂ hA hPv hp hn hm hk => ?_⟩
      · simp only [List.forIn_nil]
        exact wpAny_pure ⟨rfl, keeps_refl _⟩
      · obtain ⟨hov, hpv⟩ := hok i v hPv
        have hb2 : ∀ b o', X.base.get? b = some o' → s₂.heap.get? b = some o' := fun b o' e => by
          have e1' := I1.bk b o' e
          have hlt := Heap.lt_size e1'
          have hbP : b ≠ P := fun z => by
            have z2 := (I1.bs b o' e).2
            rw [z, hP] at z2
            cases z2
          have e3' : h3.get? b = some o' := keep3 b o' hbP e1'
          have hl3 : b < h3.objs.size := Heap.lt_size e3'
          refine hk b (List.mem_range.mpr hl3) (fun z => ?_) o' (hhref b o' e3')
          rcases List.mem_cons.mp z with z | z
          · rw [z] at hlt
            exact Nat.lt_irrefl _ hlt
          · cases z
        exact wpAny_mono (hel _ A' E' v s₂ m₂ rfl I1.ok.glob rfl hA I1.mod hb2 hov hn hm) (fun y s3 r => ⟨by rw [r.1, hpv], r.2⟩) fun _ _ e => e
    · intro g h5 tk5 gs hgb hag hsz5 hk5 W5 hat
      simp only [GxR.passing_true, List.length_range] at W5
      refine hQ v nn tr H1 g _ q1 ⟨_, _, _, _, _, W5.in4_1, hat, ?_, fun s' hm => ?_⟩
      · intro j y sj Qj Ej hy hQj
        obtain ⟨i, hij, hyb⟩ := hy
        have hyb : y = .bool (tr i) := hyb
        subst hyb
        obtain ⟨hj, ej⟩ := List.getElem?_eq_some_iff.mp hij
        rw [List.getElem_range] at ej
        subst ej
        exact wpAny_truthy_bool hQj
      · obtain ⟨more, em⟩ := hmore
        have nwr : ∀ b u, s1.heap.get? b = some u → b ∉ h3.objs.size :: [s1.heap.objs.size] := fun b u e hb => by
          have hl := Heap.lt_size e
          rcases List.mem_cons.mp hb with z | z
          · rw [z] at hl
            have h9 : (h3.objs.size : Nat) < s1.heap.objs.size := hl
            omega
          · rcases List.mem_cons.mp z with z | z
            · rw [z] at hl
              exact Nat.lt_irrefl _ hl
            · cases z
        have J := inv_tab (more := more) (h' := s'.heap) (g' := s'.gens) (d' := s'.drawn) (t' := s'.toks) I1 hP (fun b u hb e => hm.heap b u (nwr b u e) (hk5 b u (keep3 b u hb e)))
          (by rw [← em]; exact hm.heap P _ (nwr P _ hPs) (hk5 P _ hP3)) (AllBare.movedS (I1.bare.push hgb) hm)
        rw [sh_eta s1 s' hm.os] at J
        refine ⟨upd H1 P (.tbl (ps ++ more)), ⟨⟨ps ++ more, upd_same, by rw [← em]; exact ht3⟩, fun b hb => upd_ne hb⟩, J⟩
  refine ⟨lim2, ?_⟩
  cases hf : codeAmong gpos ps.toList with
  | none =>
    refine wpAny_genexprCodeX hcode (cd.code hP2 ht) (cd.tab hP2) hf fun c' h' tk hx hge hlt hco' _ htab' _ => ?_
    obtain ⟨o1, vs, f1, tf, fl, tg, inF, tx, tt, op, _, _, _, _, _, _, _, _, _, htr, _⟩ := hco'
    exact cont _ h' tk _ hx (Nat.le_trans hge (Nat.le_of_lt hlt)) htab'.2 ⟨_, rfl⟩ htr
  | some cv =>
    refine wpAny_genexprCode_hit hcode (cd.code hP2 ht) hf ?_
    exact cont cv (s1.heap.push o) s1.toks ps (Heap.ExtBut.refl _ _) (Nat.le_refl _) hP2 ⟨#[], by simp⟩ ht
/-- all(test for x in e), e a text, the test may read globals -/
def tAllU (P : Addr) (pc : Nat → Bool) (te : TE) : TE := fun σ H Q => te σ H fun v H1 => TabG H1 P ∧ ∃ a : Str, v = .str a ∧ ∀ H2, Tabbed P H1 H2 → Q (.bl (a.cps.toList.all pc)) H2
def OneSign (u : Value) : Prop := ∃ c t, u = .str ⟨#[c]⟩ t
theorem all_at (a : Str) (pc : Nat → Bool) : (List.range a.cps.size).all (fun i => match a.cps[i]? with | some c => pc c | none => false) = a.cps.toList.all pc := by
  rw [Bool.eq_iff_iff, List.all_eq_true, List.all_eq_true]
  constructor
  · intro h b hb
    obtain ⟨j, hj, e⟩ := List.getElem_of_mem hb
    have hj' : j < a.cps.size := by simpa using hj
    have q := h j (List.mem_range.mpr hj')
    rw [Array.getElem?_eq_getElem hj'] at q
    have e2 : a.cps[j] = b := by rw [← e]; simp
    rw [← e2]
    exact q
  · intro h j hj
    have hj' := List.mem_range.mp hj
    rw [Array.getElem?_eq_getElem hj']
    exact h _ (by simp)
theorem pe_allU {c P : Addr} {elt iter : Expr} {x : Str} {px p pos gpos : Pos} {scope : Scope} {pb : Value → Bool} {pc : Nat → Bool} {te : TE} {k : Nat}
    (hr : Room k X.A) (hg : Gl X "all") (hm : X.mg "all" = none) (hb : bootBuiltins "all" = some (.builtin "all")) (TB : TabB X.base X.mg c P) (hcode : X.env.code = .ref c) (S : GenS X.env scope x) (hi : PE X iter te) (hel : EltB X scope x elt OneSign pb)
    (hp : ∀ c t, pb (.str ⟨#[c]⟩ t) = pc c)
    (hs : ∀ v, genFold iter X.env v = pure v)
    (he : starEach [.GeneratorExp elt [⟨.Name x px, iter, [], 0⟩] scope gpos] X.env = (false, eval (.GeneratorExp elt [⟨.Name x px, iter, [], 0⟩] scope gpos) X.env) :: starEach [] X.env := by rfl) :
    PE X (.Call (.Name "all" p) [.GeneratorExp elt [⟨.Name x px, iter, [], 0⟩] scope gpos] [] pos) (tAllU P pc te) := by
  refine ⟨fun pins s σ H Q I h => ?_⟩
  refine wpAny_Call_Name_kw (ld_blt I hg hm hb ?_)
  refine PyProof.Rows.callWith_builtin1 ?_ he (by rfl)
  rw [he]
  show wpAny _ _ (spliced ((false, eval (.GeneratorExp elt [⟨.Name x px, iter, [], 0⟩] scope gpos) X.env) :: backTo pos (starEach [] X.env))) _ _ s
  refine Calls.spliced_cons (gen_src (te := te) (R := fun v n tr H1 => ∃ a : Str, n = a.cps.size ∧ tr = (fun i => match a.cps[i]? with | some c => pc c | none => false) ∧ ∀ H2, Tabbed P H1 H2 → Q (.bl (a.cps.toList.all pc)) H2) (hB := ?_) hr TB hcode S hi hel hs I h fun v n tr H1 g s5 hR hG => ?_)
  · rintro v H1 ⟨hT, a, rfl, hq⟩
    refine ⟨hT, fun u s1 ru I1 => ?_⟩
    obtain ⟨t, rfl⟩ := _root_.id ru
    refine ⟨a.cps.size, SignAt a, _, fun i z hz => ?_, fun Q2 hQ2 E => wpAny_pyIter_str fun o St W hst => ?_, a, rfl, rfl, hq⟩
    · obtain ⟨c, u, hc, rfl⟩ := hz
      refine ⟨⟨c, u, rfl⟩, ?_⟩
      rw [hp, hc]
    · exact hQ2 o _ St (fun b hb => .inl (List.mem_singleton.mp hb)) W hst
  obtain ⟨a, rfl, rfl, hR⟩ := hR
  obtain ⟨fp, wr, G, F, St, W, hst, htr, hI⟩ := hG
  refine Calls.spliced_nil ?_
  refine call_all_walkS (W.self 0 _ _ _ hst ⟨g, fp, wr, G, _, F, St, _, rfl, W, hst, htr, fun s' hmv => ?_⟩)
  obtain ⟨H2, hT, J⟩ := hI s' hmv
  refine ⟨.bl _, H2, J, rfl, ?_⟩
  rw [all_at a pc]
  exact hR H2 hT
end
/-- x in G, G a global text -/
def pbIn (y : Str) : Value → Bool
  | .str x _ => !(Builtin.Str.occurrences y x 0 y.length 1).isEmpty
  | _ => false
theorem elt_inG {X : Cx} {scope : Scope} {x g y : Str} {tk : Tok} {p1 p2 p3 : Pos} (hk : scope.kind = .function) (hl : scope.names.lookup x = some .local) (hi : scope.names.lookup g = some .globalImplicit) (mg' : X.mg g = some (.str y tk)) (hd : (x == ("__debug__" : Str)) = false := by decide) (hdg : (g == ("__debug__" : Str)) = false := by decide) :
    EltB X scope x (.Compare (.Name x p1) [.In] [.Name g p2] p3) OneSign (pbIn y) := by
  intro cenv A' E' u s₂ m₂ hs hgl hbn hA M hkp hok hn hm
  obtain ⟨c, t, rfl⟩ := hok
  refine wpAny_Compare1 ?_ (by rfl)
  refine wpAny_Name (wpAny_loadName_local (by rw [hs]; exact hk) (show cenv.scope.names.lookup x = some .local by rw [hs]; exact hl) hn hm ?_) hd
  refine Calls.Name_function_global (by rw [hs]; exact hk) (show cenv.scope.names.lookup g = some .globalImplicit by rw [hs]; exact hi) (Calls.loadGlobal_global (by rw [hgl]; exact M.glob.keeps hkp) mg' ?_) hdg
  exact in_str ⟨rfl, keeps_refl _⟩
end GenU
set_option Elab.async false
set_option linter.all false
set_option maxRecDepth 100000
set_option maxHeartbeats 4000000
namespace Com
open PySem PySem.Spec PyProof.Rows L2
mutual
theorem Dp.same {K : PySem.W.Frag} {H H' : Hp} (k : Same H H') : ∀ (d : PyData) (v : V), Dp K H v d → Dp K H' v d
  | .none, _, h => by cases h; exact .non
  | .bool _, _, h => by cases h; exact .bl _
  | .int _, _, h => by cases h; exact .int _
  | .str _, _, h => by cases h; exact .str _
  | .list ds, _, h => by
    cases h with
    | lst e q => exact .lst (k.seq e) (DpAll.same k ds _ q)
  | .tuple ds, _, h => by
    cases h with
    | tup e q => exact .tup (same_sqT k e) (DpAll.same k ds _ q)
  | .dict _, _, h => by cases h
theorem DpAll.same {K : PySem.W.Frag} {H H' : Hp} (k : Same H H') : ∀ (ds : List PyData) (vs : List V), DpAll K H vs ds → DpAll K H' vs ds
  | [], _, h => by cases h; exact .nil
  | d :: ds, _, h => by
    cases h with
    | cons h1 h2 => exact .cons (Dp.same k d _ h1) (DpAll.same k ds _ h2)
end
mutual
/-- no list in it is huge -/
def smD : PyData → Bool
  | .list xs | .tuple xs => decide (xs.length ≤ 1000000) && smAll xs
  | .none | .bool _ | .int _ | .str _ | .dict _ => true
def smAll : List PyData → Bool
  | [] => true
  | x :: xs => smD x && smAll xs
end
theorem smAll_mem : ∀ {ds : List PyData} {d : PyData}, smAll ds = true → d ∈ ds → smD d = true
  | x :: xs, d, h, hm => by
    simp only [smAll, Bool.and_eq_true] at h
    rcases List.mem_cons.mp hm with e | hm
    · rw [e]; exact h.1
    · exact smAll_mem h.2 hm
theorem smAll_map {α : Type} {f : α → PyData} (hf : ∀ x, smD (f x) = true) : ∀ l : List α, smAll (l.map f) = true
  | [] => rfl
  | a :: l => by simp [smAll, hf a, smAll_map hf l]
theorem DpAll.getE {K : PySem.W.Frag} {H : Hp} : ∀ {vs : List V} {ds : List PyData} {i : Nat} {x : V}, DpAll K H vs ds → vs[i]? = some x → ∃ d, ds[i]? = some d ∧ Dp K H x d
  | _, _, _, _, .nil, e => by simp at e
  | _, _, 0, _, .cons h _, e => by
    simp at e
    subst e
    exact ⟨_, rfl, h⟩
  | _, _, i + 1, _, .cons _ t, e => by
    simp only [List.getElem?_cons_succ] at e
    obtain ⟨d, h1, h2⟩ := DpAll.getE t e
    exact ⟨d, by simpa using h1, h2⟩
theorem depth_mem : ∀ {ds : List PyData} {d : PyData}, d ∈ ds → d.depth ≤ PyData.depthAll ds
  | x :: xs, d, h => by
    simp only [PyData.depthAll]
    rcases List.mem_cons.mp h with e | h
    · rw [e]; omega
    · have := depth_mem h
      omega
theorem depAll_map {α : Type} {f : α → PyData} {n : Nat} (hf : ∀ x, (f x).depth ≤ n) : ∀ l : List α, PyData.depthAll (l.map f) ≤ n
  | [] => by simp [PyData.depthAll]
  | a :: l => by
    have h1 := hf a
    have h2 := depAll_map hf l
    simp only [List.map_cons, PyData.depthAll]
    omega
theorem k_bb : kitB "bool" "bool" = some true := by decide +kernel
theorem k_ib : kitB "int" "bool" = some false := by decide +kernel
theorem k_ii : kitB "int" "int" = some true := by decide +kernel
theorem k_sb : kitB "str" "bool" = some false := by decide +kernel
theorem k_si : kitB "str" "int" = some false := by decide +kernel
theorem k_ss : kitB "str" "str" = some true := by decide +kernel
theorem k_tb : kitB "tuple" "bool" = some false := by decide +kernel
theorem k_ti : kitB "tuple" "int" = some false := by decide +kernel
theorem k_ts : kitB "tuple" "str" = some false := by decide +kernel
theorem k_tt : kitB "tuple" "tuple" = some true := by decide +kernel
theorem k_tl : kitB "tuple" "list" = some false := by decide +kernel
theorem k_lb : kitB "list" "bool" = some false := by decide +kernel
theorem k_li : kitB "list" "int" = some false := by decide +kernel
theorem k_ls : kitB "list" "str" = some false := by decide +kernel
theorem k_lt : kitB "list" "tuple" = some false := by decide +kernel
theorem k_ll : kitB "list" "list" = some true := by decide +kernel
theorem tyT {K : PySem.W.Frag} {H : Hp} {a : Addr} {xs : List V} (h : SqT K H a xs) : TyX K H (.ref a) (.type "tuple") := by
  rcases h with (h | ⟨o, h⟩) | ⟨o, its, n, h, hc, _⟩
  · exact .base (.tup h)
  · exact .fTuple h
  · exact .kTuple h hc
theorem tyL {K : PySem.W.Frag} {H : Hp} {a : Addr} {xs : List V} (h : SqL K H a xs) : TyX K H (.ref a) (.type "list") := by
  rcases h with (h | ⟨o, h⟩) | ⟨o, its, n, h, hc, _⟩
  · exact .base (.lst h)
  · exact .base (.frz h)
  · exact .kList h hc
theorem cAll {X : Cx} (K : PySem.W.Frag) (h : X.K = K) (hc : X.calm = true := by rfl) : CallR X (.builtin "all") (rAll K) := h ▸ cr_all hc
end Com
set_option Elab.async false
set_option linter.all false
set_option maxRecDepth 100000
set_option maxHeartbeats 4000000
namespace Kb
open PySem PySem.Spec PyProof.Rows L2 Com
/-! what is common -/
theorem seq_split {t1 t2 : TS} {D : Ends} {σ : L2.St} {H : Hp} (J : L2.St → Hp → Prop) (hJ : ∀ σ' H', J σ' H' → t2 D σ' H') (h1 : (∀ σ' H', J σ' H' → t2 D σ' H') → tSeq t1 t2 D σ H) : tSeq t1 t2 D σ H := h1 hJ
theorem tc {v : V} {σ : L2.St} {H : Hp} {Q : VK} (h : Q v H) : tC v σ H Q := h
theorem ixt {K : PySem.W.Frag} {H : Hp} {p : Addr} {xs : List V} {i : Int} {v : V} {Q : VK} (h : H p = some (.tup xs)) (e : atI xs i = some v) (q : Q v H) : rIxT K (.ref p) (.int i) H Q := ⟨p, xs, i, v, rfl, rfl, SqT.of h, e, q⟩
theorem ixk {K : PySem.W.Frag} {H : Hp} {p : Addr} {xs : List V} {i : Int} {v : V} {Q : VK} (h : SqT K H p xs) (e : atI xs i = some v) (q : Q v H) : rIxT K (.ref p) (.int i) H Q := ⟨p, xs, i, v, rfl, rfl, h, e, q⟩
theorem ixl {K : PySem.W.Frag} {H : Hp} {p : Addr} {xs : List V} {i : Int} {v : V} {Q : VK} (h : H p = some (.lst xs)) (e : atI xs i = some v) (q : Q v H) : rIxL K (.ref p) (.int i) H Q := ⟨p, xs, i, v, rfl, rfl, SqL.of h, e, q⟩
theorem strE (a b : Str) : decide (V.str a = V.str b) = decide (a = b) := by
  by_cases e : a = b
  · subst e
    rw [decide_eq_true rfl, decide_eq_true rfl]
  · rw [decide_eq_false e, decide_eq_false]
    intro z
    exact e (V.str.inj z)
theorem intE (a b : Int) : decide (V.int a = V.int b) = decide (a = b) := by
  by_cases e : a = b
  · subst e
    rw [decide_eq_true rfl, decide_eq_true rfl]
  · rw [decide_eq_false e, decide_eq_false]
    intro z
    exact e (V.int.inj z)
theorem same_trans {H1 H2 H3 : Hp} (a : Same H1 H2) (b : Same H2 H3) : Same H1 H3 := fun c o e => b c o (a c o e)
/-- all but one stays -/
def Keep (t : Addr) (H H' : Hp) : Prop := ∀ b o, H b = some o → b ≠ t → H' b = some o
theorem Keep.refl (t : Addr) (H : Hp) : Keep t H H := fun _ _ h _ => h
theorem Keep.trans {t : Addr} {H1 H2 H3 : Hp} (a : Keep t H1 H2) (b : Keep t H2 H3) : Keep t H1 H3 := fun c o h n => b c o (a c o h n) n
theorem Keep.at {t : Addr} {H : Hp} {o : HO} : Keep t H (upd H t o) := fun b u h n => by rw [upd_ne n]; exact h
theorem Keep.same {t : Addr} {H H' : Hp} (h : Same H H') : Keep t H H' := fun b o e _ => h b o e
theorem Keep.tk {t : Addr} {H H' : Hp} {xs : List V} (k : Keep t H H') (h : H t = some (.lst xs)) : Tk H H' := fun b ys e => k b _ e (ne_of e h (by intro z; cases z))
theorem Keep.new {td p : Addr} {H : Hp} {o : HO} (np : H p = none) : Keep td H (upd H p o) := fun b u e _ => by rw [upd_ne (ne_of_none e np)]; exact e
theorem Keep.nn {td b : Addr} {H H' : Hp} (k : Keep td H H') (n : H' b = none) (h : b ≠ td) : H b = none := by
  cases e : H b with
  | none => rfl
  | some o => rw [k b o e h] at n; cases n
theorem Same.nn {b : Addr} {H H' : Hp} (k : Same H H') (n : H' b = none) : H b = none := by
  cases e : H b with
  | none => rfl
  | some o => rw [k b o e] at n; cases n
theorem ne_td {td b : Addr} {H : Hp} {o : HO} (h : H td = some o) (n : H b = none) : b ≠ td := fun z => by rw [z, h] at n; cases n
theorem iV_get {l : List Int} {i : Nat} (h : i < l.length) : (l.map V.int)[i]? = some (.int (l[i])) := by rw [List.getElem?_map, List.getElem?_eq_getElem h]; rfl
theorem atI_mem {xs : List V} {i : Int} (h0 : 0 ≤ i) (h1 : i < (xs.length : Int)) : ∃ v, atI xs i = some v ∧ v ∈ xs := by
  obtain ⟨n, rfl⟩ : ∃ n : Nat, i = (n : Int) := ⟨i.toNat, by omega⟩
  have hn : n < xs.length := by omega
  exact ⟨xs[n], atI_nat (List.getElem?_eq_getElem hn), List.getElem_mem hn⟩
/-- what a list comprehension over a list is -/
theorem lc_listK {K : PySem.W.Frag} {q : Addr} {xs : List V} {g : TG} {tt : L2.TT} {te : TE} {vs : List Nat} {σ : L2.St} {H1 : Hp} {D : Addr} {Qd : Hp → Prop} (Pv : Nat → Hp → Prop) (hq : ∀ i H, Pv i H → SqL K H q xs) (h0 : Pv 0 (upd H1 D (.lst [])))
    (hs : ∀ i v H, xs[i]? = some v → Pv i H → g v (wipe σ vs) H fun σ2 H2 => wipe σ2 vs = wipe σ vs ∧ tt σ2 H2 fun b H3 =>
      if b = true then te σ2 H3 fun y H4 => ∃ acc, H4 D = some (.lst acc) ∧ acc.length < sizeLine ∧ Pv (i + 1) (upd H4 D (.lst (acc ++ [y]))) else Pv (i + 1) H3) (hd : ∀ H, Pv xs.length H → Qd H) :
    ∃ W : Nat → Nat → Hp → Prop, (∃ m, W 0 m (upd H1 D (.lst []))) ∧ ∀ i m H, W i m H →
      ((Itl K q).stop i H ∧ Qd H) ∨ ((Itl K q).go i H ∧ ∃ Nx : Hp → Prop, (∀ H', Nx H' → ∃ m', m' < m ∧ W (i + 1) m' H') ∧ ∀ v H', (Itl K q).yld i H v H' → g v (wipe σ vs) H' fun σ2 H2 => wipe σ2 vs = wipe σ vs ∧ tt σ2 H2 fun b H3 =>
        if b = true then te σ2 H3 fun y H4 => ∃ acc, H4 D = some (.lst acc) ∧ acc.length < sizeLine ∧ Nx (upd H4 D (.lst (acc ++ [y]))) else Nx H3) := by
  refine ⟨fun i m H => m = xs.length - i ∧ i ≤ xs.length ∧ Pv i H, ⟨_, rfl, Nat.zero_le _, h0⟩, ?_⟩
  rintro i m H ⟨rfl, hi, p⟩
  have e := hq i H p
  by_cases hlt : i < xs.length
  · refine .inr ⟨⟨xs, xs[i], e, List.getElem?_eq_getElem hlt⟩, Pv (i + 1), fun H' p' => ⟨xs.length - (i + 1), by omega, rfl, hlt, p'⟩, fun v H' y => ?_⟩
    obtain ⟨rfl, hv⟩ := y
    exact hs i v _ (hv xs e) p
  · have ei : i = xs.length := by omega
    subst ei
    exact .inl ⟨⟨xs, e, Nat.le_refl _⟩, hd _ p⟩
/-- .. over a tuple -/
theorem lc_tupK {K : PySem.W.Frag} {q : Addr} {xs : List V} {g : TG} {tt : L2.TT} {te : TE} {vs : List Nat} {σ : L2.St} {H1 : Hp} {D : Addr} {Qd : Hp → Prop} (Pv : Nat → Hp → Prop) (hq : ∀ i H, Pv i H → SqT K H q xs) (h0 : Pv 0 (upd H1 D (.lst [])))
    (hs : ∀ i v H, xs[i]? = some v → Pv i H → g v (wipe σ vs) H fun σ2 H2 => wipe σ2 vs = wipe σ vs ∧ tt σ2 H2 fun b H3 =>
      if b = true then te σ2 H3 fun y H4 => ∃ acc, H4 D = some (.lst acc) ∧ acc.length < sizeLine ∧ Pv (i + 1) (upd H4 D (.lst (acc ++ [y]))) else Pv (i + 1) H3) (hd : ∀ H, Pv xs.length H → Qd H) :
    ∃ W : Nat → Nat → Hp → Prop, (∃ m, W 0 m (upd H1 D (.lst []))) ∧ ∀ i m H, W i m H →
      ((Itt K q).stop i H ∧ Qd H) ∨ ((Itt K q).go i H ∧ ∃ Nx : Hp → Prop, (∀ H', Nx H' → ∃ m', m' < m ∧ W (i + 1) m' H') ∧ ∀ v H', (Itt K q).yld i H v H' → g v (wipe σ vs) H' fun σ2 H2 => wipe σ2 vs = wipe σ vs ∧ tt σ2 H2 fun b H3 =>
        if b = true then te σ2 H3 fun y H4 => ∃ acc, H4 D = some (.lst acc) ∧ acc.length < sizeLine ∧ Nx (upd H4 D (.lst (acc ++ [y]))) else Nx H3) := by
  refine ⟨fun i m H => m = xs.length - i ∧ i ≤ xs.length ∧ Pv i H, ⟨_, rfl, Nat.zero_le _, h0⟩, ?_⟩
  rintro i m H ⟨rfl, hi, p⟩
  have e := hq i H p
  by_cases hlt : i < xs.length
  · refine .inr ⟨⟨xs, xs[i], e, List.getElem?_eq_getElem hlt⟩, Pv (i + 1), fun H' p' => ⟨xs.length - (i + 1), by omega, rfl, hlt, p'⟩, fun v H' y => ?_⟩
    obtain ⟨rfl, hv⟩ := y
    exact hs i v _ (hv xs e) p
  · have ei : i = xs.length := by omega
    subst ei
    exact .inl ⟨⟨xs, e, Nat.le_refl _⟩, hd _ p⟩
/-- for over a tuple -/
theorem for_tupK {K : PySem.W.Frag} {q : Addr} {xs : List V} {g : TG} {tb : TS} {D : Ends} {σ : L2.St} {H : Hp} (Pv : Nat → L2.St → Hp → Prop) (h0 : Pv 0 σ H) (hl : ∀ i σ H, Pv i σ H → SqT K H q xs)
    (hs : ∀ i x σ H, xs[i]? = some x → Pv i σ H → g x σ H fun σ2 H2 => tb { D with nx := Pv (i + 1), ct := Pv (i + 1), bk := D.nx } σ2 H2) (hd : ∀ σ H, Pv xs.length σ H → D.nx σ H) :
    ∃ W : Nat → Nat → L2.St → Hp → Prop, (∃ m, W 0 m σ H) ∧ ∀ i m σ H, W i m σ H →
      ((Itt K q).stop i H ∧ D.nx σ H) ∨ ((Itt K q).go i H ∧ ∃ N : L2.St → Hp → Prop, (∀ σ' H', N σ' H' → ∃ m', m' < m ∧ W (i + 1) m' σ' H') ∧ ∀ x H', (Itt K q).yld i H x H' → g x σ H' fun σ2 H2 => tb { D with nx := N, ct := N, bk := D.nx } σ2 H2) := by
  refine ⟨fun i m σ H => m = xs.length - i ∧ i ≤ xs.length ∧ Pv i σ H, ⟨xs.length, by simp, Nat.zero_le _, h0⟩, ?_⟩
  rintro i m σ H ⟨rfl, hi, p⟩
  have e := hl i σ H p
  by_cases hlt : i < xs.length
  · refine .inr ⟨⟨xs, xs[i], e, List.getElem?_eq_getElem hlt⟩, Pv (i + 1), fun σ' H' p' => ⟨xs.length - (i + 1), by omega, rfl, hlt, p'⟩, fun x H' y => ?_⟩
    obtain ⟨rfl, hx⟩ := y
    exact hs i x σ _ (hx xs e) p
  · have ei : i = xs.length := by omega
    subst ei
    exact .inl ⟨⟨xs, e, Nat.le_refl _⟩, hd σ H p⟩
/-- a text among written texts -/
theorem shp {d : PyData} (h1 : d.canLay0 = true) (h2 : d.depth ≤ 64) : SeqAt.shaped d = true := by
  show (d.canLay0 && decide (d.depth ≤ 64)) = true
  rw [Bool.and_eq_true]
  exact ⟨h1, decide_eq_true h2⟩
theorem dt_strs {H : Hp} : ∀ ls : List Str, DtAll H (ls.map V.str) (ls.map PyData.str)
  | [] => .nil
  | a :: l => .cons (.str a) (dt_strs l)
theorem in_strs {K : PySem.W.Frag} {H : Hp} {p : Addr} {x : Str} {ls : List Str} {Q : VK} (hl : ls.all PyData.strOk = true) (hx : PyData.strOk x = true) (hp : H p = some (.tup (ls.map V.str))) (q : Q (.bl (decide (x ∈ ls))) H) : rInT K (.str x) (.ref p) H Q := by
  have d1 : Dt H (.ref p) (.tuple (ls.map PyData.str)) := .tup hp (dt_strs ls)
  have lay : ∀ l : List Str, l.all PyData.strOk = true → PyData.canLayAll0 (l.map PyData.str) = true := by
    intro l
    induction l with
    | nil => intro _; simp [PyData.canLayAll0]
    | cons a l ih =>
      intro h
      rw [List.all_cons, Bool.and_eq_true] at h
      simp [PyData.canLayAll0, PyData.canLay0, h.1, ih h.2]
  have dep : ∀ l : List Str, PyData.depthAll (l.map PyData.str) ≤ 1 := by
    intro l
    induction l with
    | nil => simp [PyData.depthAll]
    | cons a l ih =>
      simp only [List.map_cons, PyData.depthAll, PyData.depth]
      omega
  refine ⟨.str x, _, .str _, d1.dp, shp (by simp [PyData.canLay0, hx]) (by simp [PyData.depth]), shp (by simp [PyData.canLay0, lay ls hl]) (by have := dep ls; simp only [PyData.depth]; omega), ?_⟩
  have pls : ∀ l : List Str, plAll (l.map PyData.str) = true := by
    intro l
    induction l with
    | nil => rfl
    | cons a l ih => simp [plAll, pl, ih]
  have e : ((ls.map PyData.str).any fun z => PyData.eqv z (.str x)) = decide (x ∈ ls) := by
    rw [Bool.eq_iff_iff, any_pl (pls ls) rfl, decide_eq_true_iff]
    constructor
    · intro h
      obtain ⟨y, hy, e⟩ := List.mem_map.mp h
      cases e
      exact hy
    · intro h
      exact List.mem_map.mpr ⟨x, h, rfl⟩
  rw [e]
  exact q
end Kb
set_option Elab.async false
set_option linter.all false
set_option maxRecDepth 100000
set_option maxHeartbeats 4000000
namespace W7
open PySem PySem.Spec PyProof.Rows L2 Com Kb
inductive Lab where
  | con (d : PyData)
  | prim (x : Str)
  | top (m : Str) (lv k sp : Nat)
  | fn (ns : List Nat)
  | call (sp : Nat)
  | cond
  | seq
  | set
  | lrec (ns : List Nat)
inductive Nd where
  | mk (l : Lab) (ks : List Nd)
def Nd.lab : Nd → Lab | .mk l _ => l
def Nd.ks : Nd → List Nd | .mk _ ks => ks
def spD (n : Nat) : PyData := .tuple [.str "m", .int (n : Nat)]
def intsD (ns : List Nat) : PyData := .tuple (ns.map fun n => .int (n : Nat))
def pairD (p : Nat × PyData) : PyData := .tuple [.int (p.1 : Nat), p.2]
def dat : Lab → List PyData → PyData
  | .con d, _ => .tuple [.str "const", d]
  | .prim x, _ => .tuple [.str "prim", .str x]
  | .top m lv k sp, _ => .tuple [.str "top", .str m, .int (lv : Nat), .int (k : Nat), spD sp]
  | .fn ns, ds => .tuple [.str "fn", intsD ns, ds.headD .none]
  | .call sp, ds => .tuple [.str "call", ds.headD .none, .tuple ds.tail, spD sp]
  | .cond, ds => .tuple (.str "if" :: ds)
  | .seq, ds => .tuple [.str "do", .tuple ds]
  | .set, ds => .tuple (.str "set" :: ds)
  | .lrec ns, ds => .tuple [.str "rec", .tuple ((ns.zip ds).map pairD), (ds.drop ns.length).headD .none]
mutual
def tmD : Nd → PyData
  | .mk l ks => dat l (tmL ks)
def tmL : List Nd → List PyData
  | [] => []
  | t :: ts => tmD t :: tmL ts
end
theorem tmL_map : ∀ ts : List Nd, tmL ts = ts.map tmD
  | [] => by simp [tmL]
  | t :: ts => by simp [tmL, tmL_map ts]
/-- how many parts, and which names -/
def primN : List Str := ["list", "+", "not", "first", "cons", "same?", "parts", "fresh", "wrap"]
def okLab : Lab → List Nd → Prop
  | .con _, ks => ks = []
  | .prim x, ks => ks = [] ∧ x ∈ primN
  | .top m _ _ _, ks => ks = [] ∧ (m = "m" ∨ m = "other")
  | .fn ns, ks => ks.length = 1 ∧ ns.length ≤ 10
  | .call _, ks => 1 ≤ ks.length
  | .cond, ks => ks.length = 3
  | .seq, _ => True
  | .set, ks => ∃ m lv k sp v, ks = [.mk (.top m lv k sp) [], v]
  | .lrec ns, ks => ks.length = ns.length + 1
mutual
def okT : Nd → Prop
  | .mk l ks => okLab l ks ∧ ks.length ≤ 1000 ∧ okL ks
def okL : List Nd → Prop
  | [] => True
  | t :: ts => okT t ∧ okL ts
end
theorem okL_mem : ∀ {ts : List Nd} {t : Nd}, okL ts → t ∈ ts → okT t
  | a :: ts, t, h, hm => by
    simp only [okL] at h
    rcases List.mem_cons.mp hm with rfl | hm
    · exact h.1
    · exact okL_mem h.2 hm
theorem okL_of : ∀ {ts : List Nd}, (∀ t ∈ ts, okT t) → okL ts
  | [], _ => by simp only [okL]
  | a :: ts, h => by
    simp only [okL]
    exact ⟨h a List.mem_cons_self, okL_of fun t ht => h t (List.mem_cons_of_mem _ ht)⟩
/-! all parts, in order -/
mutual
def pre : Nd → List Nd
  | .mk l ks => .mk l ks :: preL ks
def preL : List Nd → List Nd
  | [] => []
  | t :: ts => pre t ++ preL ts
end
theorem preL_app : ∀ a b : List Nd, preL (a ++ b) = preL a ++ preL b
  | [], b => by simp [preL]
  | t :: a, b => by simp only [List.cons_append, preL, preL_app a b, List.append_assoc]
theorem preL_flat : ∀ a : List Nd, preL a = a.flatMap pre
  | [] => by simp [preL]
  | t :: a => by simp [preL, preL_flat a]
theorem pre_pos (t : Nd) : 1 ≤ (pre t).length := by
  cases t
  simp [pre]
def Lab.isCall : Lab → Bool
  | .call _ => true
  | _ => false
def callOf : Nd → Option Nat
  | .mk (.call sp) _ => some sp
  | _ => none
/-- the places of the calls in it -/
def cs (t : Nd) : List Nat := (pre t).filterMap callOf
def csL (ts : List Nd) : List Nat := (preL ts).filterMap callOf
theorem cs_mk (l : Lab) (ks : List Nd) : cs (.mk l ks) = (callOf (.mk l ks)).toList ++ csL ks := by
  unfold cs csL
  simp only [pre]
  cases h : callOf (.mk l ks) with
  | none => rw [List.filterMap_cons_none h]; rfl
  | some n => rw [List.filterMap_cons_some h]; rfl
theorem csL_cons (t : Nd) (ts : List Nd) : csL (t :: ts) = cs t ++ csL ts := by
  unfold csL cs
  simp only [preL, List.filterMap_append]
theorem csL_app (a b : List Nd) : csL (a ++ b) = csL a ++ csL b := by
  unfold csL
  rw [preL_app, List.filterMap_append]
theorem csL_nil : csL [] = [] := by simp [csL, preL]
theorem csL_one (t : Nd) : csL [t] = cs t := by rw [csL_cons, csL_nil, List.append_nil]
/-- the sets of variables of modules in it -/
def setOf : Nd → Option (Str × Nat × Nat)
  | .mk .set (.mk (.top m lv k _) _ :: _) => some (m, lv, k)
  | _ => none
/-- variables of modules stand at a level -/
def lvLab (L : Nat) : Lab → Prop
  | .top _ lv _ _ => lv = L
  | _ => True
def lvT (L : Nat) (t : Nd) : Prop := ∀ x ∈ pre t, lvLab L x.lab
def lvL (L : Nat) (ts : List Nd) : Prop := ∀ x ∈ preL ts, lvLab L x.lab
theorem lvT_mk {L : Nat} {l : Lab} {ks : List Nd} (h : lvLab L l) (k : lvL L ks) : lvT L (.mk l ks) := fun x hx => by
  simp only [pre] at hx
  rcases List.mem_cons.mp hx with rfl | hx
  · exact h
  · exact k x hx
theorem lvL_cons {L : Nat} {t : Nd} {ts : List Nd} (h : lvT L t) (k : lvL L ts) : lvL L (t :: ts) := fun x hx => by
  simp only [preL] at hx
  rcases List.mem_append.mp hx with hx | hx
  · exact h x hx
  · exact k x hx
theorem lvL_nil {L : Nat} : lvL L [] := fun x hx => by simp [preL] at hx
theorem lvL_app {L : Nat} {a b : List Nd} (h : lvL L a) (k : lvL L b) : lvL L (a ++ b) := fun x hx => by
  rw [preL_app] at hx
  rcases List.mem_append.mp hx with hx | hx
  · exact h x hx
  · exact k x hx
theorem mem_preL : ∀ {ts : List Nd} {t x : Nd}, t ∈ ts → x ∈ pre t → x ∈ preL ts
  | a :: ts, t, x, hm, hx => by
    simp only [preL]
    rcases List.mem_cons.mp hm with rfl | hm
    · exact List.mem_append_left _ hx
    · exact List.mem_append_right _ (mem_preL hm hx)
theorem pre_self (t : Nd) : t ∈ pre t := by
  cases t
  simp [pre]
theorem of_preL : ∀ {ts : List Nd} {x : Nd}, x ∈ preL ts → ∃ t ∈ ts, x ∈ pre t
  | [], x, h => by simp [preL] at h
  | t :: ts, x, h => by
    simp only [preL] at h
    rcases List.mem_append.mp h with h | h
    · exact ⟨t, List.mem_cons_self, h⟩
    · obtain ⟨u, hu, hx⟩ := of_preL h
      exact ⟨u, List.mem_cons_of_mem _ hu, hx⟩
/-- parts of what is in order are in order -/
theorem ok_pre : ∀ (t : Nd), okT t → ∀ x ∈ pre t, okT x := by
  intro t
  refine Nd.rec (motive_1 := fun t => okT t → ∀ x ∈ pre t, okT x) (motive_2 := fun ts => okL ts → ∀ x ∈ preL ts, okT x) ?_ ?_ ?_ t
  · intro l ks ih h x hx
    simp only [pre] at hx
    rcases List.mem_cons.mp hx with rfl | hx
    · exact h
    · simp only [okT] at h
      exact ih h.2.2 x hx
  · intro _ x hx
    simp [preL] at hx
  · intro t ts ih1 ih2 h x hx
    simp only [okL] at h
    simp only [preL] at hx
    rcases List.mem_append.mp hx with hx | hx
    · exact ih1 h.1 x hx
    · exact ih2 h.2 x hx
/-! how deep it is -/
mutual
def dpT : Nd → Nat
  | .mk _ ks => 1 + dpL ks
def dpL : List Nd → Nat
  | [] => 0
  | t :: ts => max (dpT t) (dpL ts)
end
theorem dpL_mem : ∀ {ts : List Nd} {t : Nd}, t ∈ ts → dpT t ≤ dpL ts
  | a :: ts, t, h => by
    simp only [dpL]
    rcases List.mem_cons.mp h with rfl | h
    · omega
    · have := dpL_mem h
      omega
theorem dpL_app : ∀ (a b : List Nd), dpL (a ++ b) = max (dpL a) (dpL b)
  | [], b => by simp [dpL]
  | t :: a, b => by
    simp only [List.cons_append, dpL, dpL_app a b]
    omega
/-! places that are all one's own -/
structure Own (c c' : Nat) (l : List Nat) : Prop where
  le : c ≤ c'
  mem : ∀ s ∈ l, c < s ∧ s ≤ c'
  nd : l.Nodup
theorem Own.nil {c c' : Nat} (h : c ≤ c') : Own c c' [] := ⟨h, (fun _ z => by cases z), List.nodup_nil⟩
theorem Own.app {c c' c'' : Nat} {l m : List Nat} (a : Own c c' l) (b : Own c' c'' m) : Own c c'' (l ++ m) := by
  refine ⟨Nat.le_trans a.le b.le, fun s hs => ?_, ?_⟩
  · have h1 := a.le
    have h2 := b.le
    rcases List.mem_append.mp hs with h | h
    · have := a.mem s h
      omega
    · have := b.mem s h
      omega
  · refine List.nodup_append.mpr ⟨a.nd, b.nd, fun x hx y hy e => ?_⟩
    have := a.mem x hx
    have := b.mem y hy
    omega
theorem Own.flip {c c' c'' : Nat} {l m : List Nat} (a : Own c c' l) (b : Own c' c'' m) : Own c c'' (m ++ l) := by
  have h := a.app b
  refine ⟨h.le, fun s hs => h.mem s ?_, ?_⟩
  · rcases List.mem_append.mp hs with z | z
    · exact List.mem_append_right _ z
    · exact List.mem_append_left _ z
  · exact (List.perm_append_comm.nodup_iff).mp h.nd
theorem Own.wide {c0 c c' c1 : Nat} {l : List Nat} (a : Own c c' l) (h : c0 ≤ c) (k : c' ≤ c1) : Own c0 c1 l := ⟨by have := a.le; omega, fun s hs => by have := a.mem s hs; omega, a.nd⟩
theorem Own.one {c c' : Nat} (h : c < c') : Own c c' [c'] := ⟨Nat.le_of_lt h, fun s hs => by rw [List.mem_singleton.mp hs]; omega, by simp⟩
end W7
set_option Elab.async false
set_option linter.all false
set_option maxRecDepth 100000
set_option maxHeartbeats 4000000
namespace W7
open PySem PySem.Spec PyProof.Rows L2 Com Kb
abbrev Vr := Str × Nat × Nat
structure Itm where
  k : Str
  lv : Nat
  n : Nat
  t : Nd
def itD (i : Itm) : PyData := .tuple [.str i.k, .int (i.lv : Nat), .int (i.n : Nat), tmD i.t]
def ph (i : Itm) : Nat := i.lv + if i.k = "mac" then 1 else 0
/-- an item that is in order -/
structure okI (i : Itm) : Prop where
  ok : okT i.t
  lv : lvT (ph i) i.t
  sz : (pre i.t).length ≤ 1000
  k : PyData.strOk i.k = true
def preI (is : List Itm) : List Nd := is.flatMap fun i => pre i.t
def setsI (is : List Itm) : List Vr := (preI is).filterMap setOf
def pm (x : Str) : Option Nat := if x = "list" then none else if x ∈ (["+", "cons", "same?", "wrap"] : List Str) then some 2 else some 1
def defOf (i : Itm) : Option (Nat × Nat × Nat) := match i.t.lab with
  | .fn ns => if i.k = "def" then some (i.lv, i.n, ns.length) else none
  | _ => none
def stepM (lv k : Nat) (o : Option Nat) (i : Itm) : Option Nat := match defOf i with
  | some (l', n', c) => if (l', n') = (lv, k) then some c else o
  | none => o
def lastM (is : List Itm) (lv k : Nat) : Option Nat := is.foldl (stepM lv k) none
def manyOf (S : List Vr) (is : List Itm) : Nd → Option Nat
  | .mk (.fn ns) _ => some ns.length
  | .mk (.prim x) _ => pm x
  | .mk (.top m lv k _) _ => if m = "m" ∧ (m, lv, k) ∉ S then lastM is lv k else none
  | _ => none
def bad (S : List Vr) (is : List Itm) : Nd → Option Nat
  | .mk (.call sp) (h :: as) => match manyOf S is h with
    | some n => if n ≠ as.length then some sp else none
    | none => none
  | _ => none
def bads (S : List Vr) (is : List Itm) (l : List Nd) : List Nat := l.filterMap (bad S is)
theorem bad_call {S : List Vr} {is : List Itm} {t : Nd} {n : Nat} (h : bad S is t = some n) : callOf t = some n := by
  obtain ⟨l, ks⟩ := t
  cases l with
  | call sp =>
    cases ks with
    | nil => simp [bad] at h
    | cons a r =>
      simp only [bad] at h
      cases hm : manyOf S is a with
      | none => rw [hm] at h; cases h
      | some k =>
        rw [hm] at h
        dsimp only at h
        split at h
        · exact h
        · cases h
  | _ => simp [bad] at h
theorem bads_sub {S : List Vr} {is : List Itm} : ∀ l : List Nd, (bads S is l).Sublist (l.filterMap callOf)
  | [] => by simp [bads]
  | t :: l => by
    unfold bads
    have ih := bads_sub (S := S) (is := is) l
    unfold bads at ih
    cases h : bad S is t with
    | some n =>
      rw [List.filterMap_cons_some h, List.filterMap_cons_some (bad_call h)]
      exact ih.cons₂ _
    | none =>
      rw [List.filterMap_cons_none h]
      cases hc : callOf t with
      | none => rw [List.filterMap_cons_none hc]; exact ih
      | some n => rw [List.filterMap_cons_some hc]; exact ih.cons _
/-! keys -/
def varK (x : Vr) : List Key := [.inr "top", .inr x.1, .inl (x.2.1 : Nat), .inl (x.2.2 : Nat)]
theorem varK_inj {x y : Vr} (h : varK x = varK y) : x = y := by
  unfold varK at h
  obtain ⟨a, b, c⟩ := x
  obtain ⟨a', b', c'⟩ := y
  simp only [List.cons.injEq, Sum.inr.injEq, Sum.inl.injEq] at h
  obtain ⟨_, rfl, h2, h3, _⟩ := h
  have e2 : b = b' := by omega
  have e3 : c = c' := by omega
  rw [e2, e3]
/-- the variables that are set -/
def chK (l : List Vr) : List (List Key × V) := l.foldl (fun kvs x => putK kvs (varK x) (.bl true)) []
theorem chK_snoc (l : List Vr) (x : Vr) : chK (l ++ [x]) = putK (chK l) (varK x) (.bl true) := by
  unfold chK
  rw [List.foldl_append]
  rfl
theorem snoc_rec {α : Type} {P : List α → Prop} (h0 : P []) (hs : ∀ l a, P l → P (l ++ [a])) : ∀ l : List α, P l := by
  intro l
  rw [← List.reverse_reverse l]
  induction l.reverse with
  | nil => exact h0
  | cons a r ih =>
    rw [List.reverse_cons]
    exact hs _ _ ih
theorem chK_val (l : List Vr) (x : Vr) : valV (chK l) (varK x) = if x ∈ l then some (.bl true) else none := by
  refine snoc_rec (P := fun l => valV (chK l) (varK x) = if x ∈ l then some (V.bl true) else none) rfl (fun l a ih => ?_) l
  rw [chK_snoc, valV_put, ih]
  by_cases e : varK x = varK a
  · rw [if_pos e, if_pos (by rw [varK_inj e]; exact List.mem_append_right _ List.mem_cons_self)]
  · rw [if_neg e]
    have ne : x ≠ a := fun z => e (by rw [z])
    by_cases hx : x ∈ l
    · rw [if_pos hx, if_pos (List.mem_append_left _ hx)]
    · rw [if_neg hx, if_neg (by simp [ne, hx])]
theorem chK_len (l : List Vr) : (chK l).length ≤ l.length := by
  refine snoc_rec (P := fun l => (chK l).length ≤ l.length) (Nat.le_refl _) (fun l a ih => ?_) l
  have h : (putK (chK l) (varK a) (V.bl true)).length ≤ (chK l).length + 1 := by
    unfold putK
    split
    · rw [List.length_map]; omega
    · rw [List.length_append]; exact Nat.le_refl _
  rw [chK_snoc, List.length_append, List.length_singleton]
  omega
/-- what the constants take -/
def tkStep (S : List Vr) (kvs : List (List Key × V)) (i : Itm) : List (List Key × V) := match defOf i with
  | some (lv, n, c) => if (("m" : Str), lv, n) ∉ S then putK kvs (varK ("m", lv, n)) (.int (c : Nat)) else kvs
  | none => kvs
def tkK (S : List Vr) (is : List Itm) : List (List Key × V) := is.foldl (tkStep S) []
theorem tkK_snoc (S : List Vr) (l : List Itm) (x : Itm) : tkK S (l ++ [x]) = tkStep S (tkK S l) x := by
  unfold tkK
  rw [List.foldl_append]
  rfl
theorem lastM_snoc (l : List Itm) (x : Itm) (lv k : Nat) : lastM (l ++ [x]) lv k = stepM lv k (lastM l lv k) x := by
  unfold lastM
  rw [List.foldl_append]
  rfl
theorem tkK_val (S : List Vr) (is : List Itm) (x : Vr) : valV (tkK S is) (varK x) = if x.1 = "m" ∧ x ∉ S then (lastM is x.2.1 x.2.2).map (fun c => V.int (c : Nat)) else none := by
  obtain ⟨m, lv, k⟩ := x
  refine snoc_rec (P := fun is => valV (tkK S is) (varK (m, lv, k)) = if m = "m" ∧ (m, lv, k) ∉ S then (lastM is lv k).map (fun c => V.int (c : Nat)) else none) ?_ (fun l a ih => ?_) is
  · unfold tkK lastM
    split <;> rfl
  · rw [tkK_snoc, lastM_snoc]
    unfold tkStep stepM
    cases hd : defOf a with
    | none => exact ih
    | some q =>
      obtain ⟨l', n', c⟩ := q
      dsimp only
      by_cases hS : (("m" : Str), l', n') ∉ S
      · rw [if_pos hS, valV_put, ih]
        by_cases e : varK (m, lv, k) = varK ("m", l', n')
        · have := varK_inj e
          obtain ⟨rfl, rfl, rfl⟩ : m = "m" ∧ lv = l' ∧ k = n' := by
            injection this with h1 h2
            injection h2 with h2 h3
            exact ⟨h1, h2, h3⟩
          rw [if_pos e, if_pos ⟨rfl, hS⟩, if_pos rfl]
          rfl
        · rw [if_neg e]
          by_cases hm : m = "m" ∧ (m, lv, k) ∉ S
          · rw [if_pos hm, if_pos hm, if_neg]
            rintro h
            injection h with h1 h2
            subst h1 h2
            exact e (by rw [hm.1])
          · rw [if_neg hm, if_neg hm]
      · rw [if_neg hS, ih]
        by_cases hm : m = "m" ∧ (m, lv, k) ∉ S
        · rw [if_pos hm, if_pos hm, if_neg]
          rintro h
          injection h with h1 h2
          subst h1 h2
          exact hS (by rw [← hm.1]; exact hm.2)
        · rw [if_neg hm, if_neg hm]
theorem tkK_len (S : List Vr) (is : List Itm) : (tkK S is).length ≤ is.length := by
  refine snoc_rec (P := fun is => (tkK S is).length ≤ is.length) (Nat.le_refl _) (fun l a ih => ?_) is
  have h : ∀ x v, (putK (tkK S l) x v).length ≤ (tkK S l).length + 1 := fun x v => by
    unfold putK
    split
    · rw [List.length_map]; omega
    · rw [List.length_append]; exact Nat.le_refl _
  rw [tkK_snoc, List.length_append, List.length_singleton]
  unfold tkStep
  cases defOf a with
  | none => dsimp only; omega
  | some q =>
    obtain ⟨l', n', c⟩ := q
    dsimp only
    by_cases hS : (("m" : Str), l', n') ∉ S
    · rw [if_pos hS]
      exact Nat.le_trans (h _ _) (by omega)
    · rw [if_neg hS]
      omega
/-- the places that are found -/
def spK (n : Nat) : List Key := [.inr "m", .inl (n : Nat)]
theorem spK_inj {a b : Nat} (h : spK a = spK b) : a = b := by
  unfold spK at h
  simp only [List.cons.injEq, Sum.inl.injEq] at h
  omega
def fdK (l : List Nat) : List (List Key × V) := l.map fun n => (spK n, .bl true)
theorem fdK_none {l : List Nat} {n : Nat} (h : n ∉ l) : valV (fdK l) (spK n) = none := by
  induction l with
  | nil => rfl
  | cons a l ih =>
    unfold fdK
    rw [List.map_cons, valV_neg]
    · exact ih fun z => h (List.mem_cons_of_mem _ z)
    · intro z
      exact h (by rw [← spK_inj z]; exact List.mem_cons_self)
theorem fdK_put {l : List Nat} {n : Nat} (h : n ∉ l) : putK (fdK l) (spK n) (.bl true) = fdK (l ++ [n]) := by
  rw [putK_new _ (fdK_none h)]
  unfold fdK
  rw [List.map_append]
  rfl
def srt (l : List Nat) : List Nat := l.mergeSort (PySem.W.dataLe false spD)
end W7
set_option Elab.async false
set_option linter.all false
set_option maxRecDepth 100000
set_option maxHeartbeats 4000000
namespace W7
open PySem PySem.Spec PyProof.Rows L2 Com
def topS (i : Nat) : Stmt := PySem.Challenge.pw_wherewritten_k71_miscounts.main.body.getD i (.Pass ⟨0, 0, 0, 0⟩)
abbrev st_parts_of_term : Stmt := topS 61
theorem scparts_of_term : FnScope ["term", "kind", "_", "part"] ["term"] (defScope st_parts_of_term) := ⟨rfl, rfl, rfl, by decide +kernel, rfl, by decide +kernel, by decide +kernel⟩
abbrev st_terms_in : Stmt := topS 62
theorem scterms_in : FnScope ["term", "found", "left", "part"] ["term"] (defScope st_terms_in) := ⟨rfl, rfl, rfl, by decide +kernel, rfl, by decide +kernel, by decide +kernel⟩
abbrev st_phase_of_item : Stmt := topS 64
theorem scphase_of_item : FnScope ["item", "shift"] ["item", "shift"] (defScope st_phase_of_item) := ⟨rfl, rfl, rfl, by decide +kernel, rfl, by decide +kernel, by decide +kernel⟩
abbrev st__variable_of : Stmt := topS 66
theorem sc_variable_of : FnScope ["term"] ["term"] (defScope st__variable_of) := ⟨rfl, rfl, rfl, by decide +kernel, rfl, by decide +kernel, by decide +kernel⟩
abbrev st__taken_by_constants : Stmt := topS 67
theorem sc_taken_by_constants : FnScope ["artifact", "_", "module", "items", "changed_ones", "item", "term", "taken", "kind", "level", "number", "variable"] ["artifact"] (defScope st__taken_by_constants) := ⟨rfl, rfl, rfl, by decide +kernel, rfl, by decide +kernel, by decide +kernel⟩
abbrev st__taken_by : Stmt := topS 68
theorem sc_taken_by : FnScope ["term", "level", "constants", "kinds"] ["term", "level", "constants"] (defScope st__taken_by) := ⟨rfl, rfl, rfl, by decide +kernel, rfl, by decide +kernel, by decide +kernel⟩
abbrev st_miscounts : Stmt := topS 69
theorem scmiscounts : FnScope ["artifact", "constants", "found", "item", "level", "term", "taken"] ["artifact"] (defScope st_miscounts) := ⟨rfl, rfl, rfl, by decide +kernel, rfl, by decide +kernel, by decide +kernel⟩
abbrev st__law_draws : Stmt := topS 71
theorem sc_law_draws : FnScope ["script", "count", "cells", "found", "mixed", "k", "j", "cell", "again"] ["script", "count"] (defScope st__law_draws) := ⟨rfl, rfl, rfl, by decide +kernel, rfl, by decide +kernel, by decide +kernel⟩
abbrev st__law_next : Stmt := topS 72
theorem sc_law_next : FnScope ["draws", "limit"] ["draws", "limit"] (defScope st__law_next) := ⟨rfl, rfl, rfl, by decide +kernel, rfl, by decide +kernel, by decide +kernel⟩
abbrev st__law_same : Stmt := topS 73
theorem sc_law_same : FnScope ["found", "due", "k"] ["found", "due"] (defScope st__law_same) := ⟨rfl, rfl, rfl, by decide +kernel, rfl, by decide +kernel, by decide +kernel⟩
abbrev st__law_new : Stmt := topS 74
theorem sc_law_new : FnScope ["draws"] ["draws"] (defScope st__law_new) := ⟨rfl, rfl, rfl, by decide +kernel, rfl, by decide +kernel, by decide +kernel⟩
abbrev st__law_head : Stmt := topS 75
theorem sc_law_head : FnScope ["draws", "level", "depth", "kind", "spot", "k"] ["draws", "level", "depth"] (defScope st__law_head) := ⟨rfl, rfl, rfl, by decide +kernel, rfl, by decide +kernel, by decide +kernel⟩
abbrev st__law_term : Stmt := topS 76
theorem sc_law_term : FnScope ["draws", "level", "depth", "kind", "spot", "inner", "k", "part"] ["draws", "level", "depth"] (defScope st__law_term) := ⟨rfl, rfl, rfl, by decide +kernel, rfl, by decide +kernel, by decide +kernel⟩
abbrev st__law_walk : Stmt := topS 77
theorem sc_law_walk : FnScope ["term", "calls", "sets", "kind", "part", "n"] ["term", "calls", "sets"] (defScope st__law_walk) := ⟨rfl, rfl, rfl, by decide +kernel, rfl, by decide +kernel, by decide +kernel⟩
abbrev st__law_many : Stmt := topS 78
theorem sc_law_many : FnScope ["name"] ["name"] (defScope st__law_many) := ⟨rfl, rfl, rfl, by decide +kernel, rfl, by decide +kernel, by decide +kernel⟩
abbrev st_law : Stmt := topS 79
theorem sclaw : FnScope ["script", "draws", "items", "level", "k", "term", "calls", "sets", "item", "found", "first", "many", "kind", "other", "j"] ["script"] (defScope st_law) := ⟨rfl, rfl, rfl, by decide +kernel, rfl, by decide +kernel, by decide +kernel⟩
end W7
set_option Elab.async false
set_option linter.all false
set_option maxRecDepth 100000
set_option maxHeartbeats 4000000
namespace W7
open PySem PySem.Spec PyProof.Rows L2 Com Kb
/-- the names of built-ins, which the module does not bind -/
structure Mg (mg : Str → Option Value) : Prop where
  len : mg "len" = none
  int : mg "int" = none
  bool : mg "bool" = none
  str : mg "str" = none
  tuple : mg "tuple" = none
  list : mg "list" = none
  range : mg "range" = none
  isinstance : mg "isinstance" = none
  all : mg "all" = none
  sorted : mg "sorted" = none
section
variable {P : Program} {w : World} {K : PySem.W.Frag} {mg : Str → Option Value} {base : Heap}
def spDraws (K : PySem.W.Frag) : Sp := fun vs H Q _ => ∃ (a : Addr) (ns : List Int) (N : Nat), vs = [.ref a, .int (N : Nat)] ∧ SqL K H a (ns.map V.int) ∧ ns.length ≤ 1000 ∧ N ≤ 2000 ∧ ∀ p H' (xs : List Int), xs.length = N → Same H H' → H p = none → H' p = some (.lst (xs.map V.int)) → Q (.ref p) H'
theorem ok_law_draws {f : Addr} {fd : FuncData} (F : Dfn K mg "_law_draws" st__law_draws f fd ["script", "count"]) (M : Mg mg) : Cal P w K mg base 1 "_law_draws" (spDraws K) := by
  refine cal_mk F sc_law_draws (fun vs H Q E h => ?_) (fun cdv A outer s H vs Q E hr h => ?_)
  · obtain ⟨a, ns, N, rfl, _⟩ := h
    rfl
  obtain ⟨a, ns, N, rfl, hS, hlen, hN, q⟩ := h
  refine ⟨_, (pss_cons (ps_set (i := 2) sc_law_draws.nd rfl (.inl rfl) (pe_callTy (cList K rfl) (by rfl) M.list b_list (pa_cons (pv 0) pa_nil)))
      (pss_cons (ps_if (pt_cmpR op_eq (pe_callB (cLen K rfl) (by rfl) M.len b_len (pa_cons (pv 2) pa_nil)) pe_int (nomark _)) (pss_one (ps_set (i := 2) sc_law_draws.nd rfl (.inl rfl) (pe_lst (pa_cons pe_int pa_nil)))) pss_nil)
      (pss_cons (ps_set (i := 3) sc_law_draws.nd rfl (.inl rfl) (pe_lst pa_nil))
      (pss_cons (ps_set (i := 4) sc_law_draws.nd rfl (.inl rfl) pe_int)
      (pss_cons (ps_for PassesOwn.never rfl (pi_range1 (by rfl) M.range (pa_cons (pv 1) pa_nil)) (pg_name (i := 5) sc_law_draws.nd rfl (.inl rfl))
      (pss_cons (ps_set (i := 6) sc_law_draws.nd rfl (.inl rfl) (pe_op op_mod (pv 5) (pe_callB (cLen K rfl) (by rfl) M.len b_len (pa_cons (pv 2) pa_nil))))
      (pss_cons (ps_set (i := 7) sc_law_draws.nd rfl (.inl rfl) (pe_ix (ixL K rfl) (pv 2) (pv 6) (fun _ _ => rfl)))
      (pss_cons (ps_set (i := 4) sc_law_draws.nd rfl (.inl rfl) (pe_op op_mod (pe_callTy call_int1 (by rfl) M.int b_int (pa_cons (pe_op op_add (pe_op op_add (pe_op op_add (pe_op op_mul (pv 4) pe_int) (pe_op op_mul (pe_op op_mod (pe_callTy call_int1 (by rfl) M.int b_int (pa_cons (pv 7) pa_nil)) pe_int) pe_int)) (pe_op op_mul (pv 5) pe_int)) pe_int) pa_nil)) pe_int))
      (pss_cons (ps_set (i := 8) sc_law_draws.nd rfl (.inl rfl) (pe_op op_mod (pe_callTy call_int1 (by rfl) M.int b_int (pa_cons (pe_op op_add (pe_op op_add (pe_op op_mul (pv 4) (pv 4)) (pe_op op_mul pe_int (pv 4))) (pv 5)) pa_nil)) pe_int))
      (pss_one (ps_if (pt_cmpR op_ge (pv 7) (pe_op op_pow pe_int pe_int) (nomark _)) (pss_cons (ps_expr (pe_bm PySem.F.plainAttrs_list PySem.F.slot_list_append PySem.F.type_list_append mt_append (pv 3) (pa_cons (pe_op op_mod (pe_callTy call_int1 (by rfl) M.int b_int (pa_cons (pv 7) pa_nil)) pe_int) pa_nil)))
      (pss_one (ps_asg (pe_op op_fdiv (pv 7) pe_int) (pg_sub (pv 2) (pv 6) set_list)))) (pss_one (ps_expr (pe_bm PySem.F.plainAttrs_list PySem.F.slot_list_append PySem.F.type_list_append mt_append (pv 3) (pa_cons (pe_op op_mod (pe_callTy call_int1 (by rfl) M.int b_int (pa_cons (pv 8) pa_nil)) pe_int) pa_nil)))))))))))
      (pss_cons (ps_expr (pe_bm0 PySem.F.plainAttrs_list PySem.F.slot_list_reverse PySem.F.type_list_reverse mt_reverse (pv 3)))
      (pss_one (ps_ret (pv 3))))))))), ?_⟩
  -- cells = list(script)
  refine ⟨_, rfl, a, _, rfl, .inl hS, fun l nl => ?_⟩
  dsimp only [gName]
  refine seq_split (t1 := tIfS _ _ _) (fun σ' H' => ∃ (c : Addr) (cs : List Int), σ' = [some (.ref a), some (.int (N : Nat)), some (.ref c), none, none, none, none, none, none] ∧ Same H H' ∧ H c = none ∧ H' c = some (.lst (cs.map V.int)) ∧ 0 < cs.length ∧ cs.length ≤ 1000) ?_ (fun rest => ?_)
  · rintro σ' H1 ⟨c, cs, rfl, k1, nc, hc, hc0, hcl⟩
    -- found = []
    refine ⟨by decide, fun B nB => ?_⟩
    have hBn : H B = none := by
      cases e : H B with
      | none => rfl
      | some o => rw [k1 _ _ e] at nB; cases nB
    have hcB : c ≠ B := ne_of_none hc nB
    have k2 := k1.trans (same_upd (o := .lst []) nB)
    have hc2 : upd H1 B (.lst []) c = some (.lst (cs.map V.int)) := by rw [upd_ne hcB]; exact hc
    have hB2 : upd H1 B (.lst []) B = some (.lst (([] : List Int).map V.int)) := upd_same
    generalize upd H1 B (.lst []) = H2 at k2 hc2 hB2 ⊢
    -- for k in range(count)
    refine ⟨_, rfl, _, rfl, by omega, by omega, for_range (lo := 0) (n := N) (fun i σ H' => ∃ (mx : Int) (cs : List Int) (fs : List Int) (y5 y6 y7 y8 : Option V), σ = [some (.ref a), some (.int (N : Nat)), some (.ref c), some (.ref B), some (.int mx), y5, y6, y7, y8] ∧ 0 ≤ mx ∧ mx < 2147483647 ∧ Same H H' ∧ H' c = some (.lst (cs.map V.int)) ∧ 0 < cs.length ∧ cs.length ≤ 1000 ∧ H' B = some (.lst (fs.map V.int)) ∧ fs.length = i)
      ⟨12345, cs, [], none, none, none, none, rfl, by decide, by decide, k2, hc2, hc0, hcl, hB2, rfl⟩ ?_ ?_⟩
    · rintro i σ H3 hi ⟨mx, cs, fs, y5, y6, y7, y8, rfl, hm0, hm1, k3, hc3, hc0, hcl, hB3, hfl⟩
      -- j = k % len(cells)
      refine ⟨_, rfl, _, rfl, c, _, rfl, .inl (SqL.of hc3), _, _, rfl, rfl, by rw [List.length_map]; omega, ?_⟩
      rw [List.length_map]
      dsimp only [gName]
      have j0 : 0 ≤ ((0 : Int) + (i : Int)) % (cs.length : Int) := Int.emod_nonneg _ (by omega)
      have j1 : ((0 : Int) + (i : Int)) % (cs.length : Int) < (cs.length : Int) := Int.emod_lt_of_pos _ (by omega)
      generalize ((0 : Int) + (i : Int)) % (cs.length : Int) = j at j0 j1 ⊢
      obtain ⟨jn, rfl⟩ : ∃ jn : Nat, j = (jn : Int) := ⟨j.toNat, by omega⟩
      have jl : jn < cs.length := by omega
      -- cell = cells[j]
      refine ⟨_, rfl, _, rfl, c, _, _, _, rfl, rfl, SqL.of hc3, atN (iV_get jl), ?_⟩
      generalize cs[jn] = cl
      -- mixed = ..
      refine ⟨_, rfl, _, _, rfl, rfl, .inr (by constructor <;> decide), _, rfl, .inl ⟨_, rfl, _, _, rfl, rfl, (by show (0 : Int) < 1000003; decide), _, _, rfl, rfl, .inr (by constructor <;> decide), _, _, rfl, rfl, _, rfl, _, _, rfl, rfl, .inr (by constructor <;> decide), _, _, rfl, rfl, _, _, rfl, rfl, .inl ⟨_, rfl, _, _, rfl, rfl, (by show (0 : Int) < 2147483647; decide), ?_⟩⟩⟩
      dsimp only [gName]
      have m0 : ∀ z : Int, 0 ≤ z % 2147483647 := fun z => Int.emod_nonneg _ (by decide)
      have m1 : ∀ z : Int, z % 2147483647 < 2147483647 := fun z => Int.emod_lt_of_pos _ (by decide)
      generalize hz : (mx * 48271 + cl % 1000003 * 69621 + (0 + (i : Int)) * 7919 + 11) = z
      have hm0' := m0 z
      have hm1' := m1 z
      generalize z % 2147483647 = my at hm0' hm1' ⊢
      -- again = ..
      refine ⟨_, rfl, _, rfl, _, _, rfl, rfl, .inl ⟨by omega, by omega⟩, _, rfl, _, _, rfl, rfl, .inl (by constructor <;> decide), _, _, rfl, rfl, _, rfl, _, _, rfl, rfl, .inl ⟨_, rfl, _, _, rfl, rfl, (by show (0 : Int) < 1000003; decide), ?_⟩⟩
      dsimp only [gName]
      generalize (my * my + 31 * my + (0 + (i : Int))) % 1000003 = ag
      have hBH : H B = none := hBn
      have hf1 : fs.length + 1 ≤ 2000 := by omega
      have bd : ∀ z : Int, (fs ++ [z]).length = i + 1 := fun z => by rw [List.length_append, hfl]; rfl
      have nB3 : ∀ b o, H b = some o → b ≠ B := fun b o e => ne_of_none e hBn
      have nc3 : ∀ b o, H b = some o → b ≠ c := fun b o e => ne_of_none e nc
      -- if cell >= 10 ** 18
      refine ⟨_, rfl, _, _, rfl, rfl, ⟨by decide, by decide, by decide⟩, _, _, rfl, rfl, _, rfl, ite2 (fun c1 => ?_) (fun c1 => ?_)⟩
      · refine ⟨_, rfl, .inl ⟨rfl, _, SqL.of hB3⟩, _, rfl, .inl ⟨_, rfl, _, _, rfl, rfl, (by show (0 : Int) < 1000; decide), B, _, _, rfl, rfl, hB3, by rw [List.length_map]; show _ < 2 ^ 24; omega, ?_⟩⟩
        refine ⟨_, rfl, _, _, rfl, rfl, by constructor <;> decide, _, rfl, _, rfl, c, cs.map V.int, jn, jn, rfl, rfl, by rw [upd_ne hcB]; exact hc3, ?_, ?_⟩
        · rw [List.length_map]
          unfold ixN
          rw [if_pos (by omega), if_pos (by omega)]
          simp
        · refine ⟨my, cs.set jn (cl / 1000), fs ++ [cl % 1000], _, _, _, _, rfl, hm0', hm1', fun b o e => ?_, ?_, ?_, ?_, ?_, bd _⟩
          · rw [upd_ne (nc3 b o e), upd_ne (nB3 b o e)]
            exact k3 _ _ e
          · rw [upd_same, List.map_set]
          · rw [List.length_set]; exact hc0
          · rw [List.length_set]; exact hcl
          · rw [upd_ne hcB.symm, upd_same, List.map_append]
            rfl
      · refine ⟨_, rfl, .inl ⟨rfl, _, SqL.of hB3⟩, _, rfl, .inl ⟨_, rfl, _, _, rfl, rfl, (by show (0 : Int) < 1000; decide), B, _, _, rfl, rfl, hB3, by rw [List.length_map]; show _ < 2 ^ 24; omega, ?_⟩⟩
        refine ⟨my, cs, fs ++ [ag % 1000], _, _, _, _, rfl, hm0', hm1', fun b o e => ?_, ?_, hc0, hcl, ?_, bd _⟩
        · rw [upd_ne (nB3 b o e)]
          exact k3 _ _ e
        · rw [upd_ne hcB]; exact hc3
        · rw [upd_same, List.map_append]
          rfl
    · rintro σ H3 ⟨mx, cs, fs, y5, y6, y7, y8, rfl, hm0, hm1, k3, hc3, hc0, hcl, hB3, hfl⟩
      -- found.reverse()
      refine ⟨_, rfl, .inl ⟨rfl, _, SqL.of hB3⟩, B, _, rfl, rfl, hB3, ?_⟩
      refine ⟨_, rfl, q B _ fs.reverse (by rw [List.length_reverse]; exact hfl) (fun b o e => by rw [upd_ne (ne_of_none e hBn)]; exact k3 _ _ e) hBn ?_⟩
      rw [upd_same, List.map_reverse]
  · have k2 := same_upd (o := .lst (ns.map V.int)) nl
    have hl : upd H l (.lst (ns.map V.int)) l = some (.lst (ns.map V.int)) := upd_same
    generalize upd H l (.lst (ns.map V.int)) = H2 at k2 hl ⊢
    refine ⟨_, rfl, l, _, rfl, .inl (SqL.of hl), rfl, _, rfl, ite2 (fun c1 => ?_) (fun c1 => ?_)⟩
    · refine ⟨by show 1 ≤ sizeLine; decide, fun l2 nl2 => rest _ _ ⟨l2, [7], rfl, k2.trans (same_upd nl2), ?_, upd_same, by decide, by decide⟩⟩
      cases e : H l2 with
      | none => rfl
      | some o => rw [k2 _ _ e] at nl2; cases nl2
    · have c1' : ¬ ((ns.map V.int).length : Int) = 0 := fun z => by
        apply c1
        rw [show V.int ((ns.map V.int).length : Int) = V.int 0 from by rw [z]]
        simp
      rw [List.length_map] at c1'
      exact rest _ _ ⟨l, ns, rfl, k2, nl, hl, by omega, hlen⟩
end
section
variable {P : Program} {w : World} {K : PySem.W.Frag} {mg : Str → Option Value} {base : Heap}
/-- both stand for one datum of at most this depth -/
def spSame (K : PySem.W.Frag) (n : Nat) : Sp := fun vs H Q _ => ∃ (v u : V) (d : PyData), vs = [v, u] ∧ Dp K H v d ∧ Dp K H u d ∧ d.depth < n ∧ smD d = true ∧ ∀ H', Same H H' → Q (.bl true) H'
theorem same0 {f : Addr} {fd : FuncData} (F : Dfn K mg "_law_same" st__law_same f fd ["found", "due"]) : Cal P w K mg base 1 "_law_same" (spSame K 0) := by
  have no : ∀ vs H Q E, ¬ spSame K 0 vs H Q E := fun vs H Q E h => by
    obtain ⟨_, _, _, _, _, _, h1, _⟩ := h
    omega
  exact ⟨f, fd, _, ⟨fun vs H Q E h => absurd h (no vs H Q E), fun A outer s H args us vs Q E _ _ _ _ h => absurd h (no vs H Q E)⟩, F.mgf, F.fn.kp, F.b⟩
theorem ok_law_same {f : Addr} {fd : FuncData} {n k : Nat} (F : Dfn K mg "_law_same" st__law_same f fd ["found", "due"]) (M : Mg mg) (G_law_same : Cal P w K mg base k "_law_same" (spSame K n)) : Cal P w K mg base (k + 1) "_law_same" (spSame K (n + 1)) := by
  refine cal_mk F sc_law_same (fun vs H Q E h => ?_) (fun cdv A outer s H vs Q E hr h => ?_)
  · obtain ⟨v, u, d, rfl, _⟩ := h
    rfl
  obtain ⟨v, u, d, rfl, hv, hu', hdp, hsm, q⟩ := h
  have same1 : ∀ b c : Addr, ∀ (b : Bool), True := fun _ _ _ => True.intro
  -- the end: lengths, and all
  have fin : ∀ (a b : Addr) (xs ys : List V) (ds : List PyData), Sq K H a xs → Sq K H b ys → DpAll K H xs ds → DpAll K H ys ds → PyData.depthAll ds < n → ds.length ≤ 1000000 → smAll ds = true → xs.length = ds.length ∧ ys.length = ds.length := fun a b xs ys ds _ _ h1 h2 _ _ _ => ⟨DpAll_len h1, DpAll_len h2⟩
  refine ⟨_, (pss_cons (ps_if (pt_cmpR op_isN (pv 1) pe_non (nomark _)) (pss_one (ps_ret (pe_cmpR op_isN (pv 0) pe_non (nomark _)))) pss_nil)
      (pss_cons (ps_if (pt_val (pe_callB (cIsi K rfl) (by rfl) M.isinstance b_isinstance (pa_cons (pv 1) (pa_cons (pe_bltn (v := .ty "bool") (by rfl) M.bool b_bool rfl) pa_nil)))) (pss_one (ps_ret (pe_and (pe_callB (cIsi K rfl) (by rfl) M.isinstance b_isinstance (pa_cons (pv 0) (pa_cons (pe_bltn (v := .ty "bool") (by rfl) M.bool b_bool rfl) pa_nil))) (pe_one (pe_cmpR op_eq (pv 0) (pv 1) (nomark _)))))) pss_nil)
      (pss_cons (ps_if (pt_val (pe_callB (cIsi K rfl) (by rfl) M.isinstance b_isinstance (pa_cons (pv 1) (pa_cons (pe_bltn (v := .ty "int") (by rfl) M.int b_int rfl) pa_nil)))) (pss_one (ps_ret (pe_and (pe_callB (cIsi K rfl) (by rfl) M.isinstance b_isinstance (pa_cons (pv 0) (pa_cons (pe_bltn (v := .ty "int") (by rfl) M.int b_int rfl) pa_nil))) (pe_and (pe_not (pe_callB (cIsi K rfl) (by rfl) M.isinstance b_isinstance (pa_cons (pv 0) (pa_cons (pe_bltn (v := .ty "bool") (by rfl) M.bool b_bool rfl) pa_nil)))) (pe_one (pe_cmpR op_eq (pv 0) (pv 1) (nomark _))))))) pss_nil)
      (pss_cons (ps_if (pt_val (pe_callB (cIsi K rfl) (by rfl) M.isinstance b_isinstance (pa_cons (pv 1) (pa_cons (pe_bltn (v := .ty "str") (by rfl) M.str b_str rfl) pa_nil)))) (pss_one (ps_ret (pe_and (pe_callB (cIsi K rfl) (by rfl) M.isinstance b_isinstance (pa_cons (pv 0) (pa_cons (pe_bltn (v := .ty "str") (by rfl) M.str b_str rfl) pa_nil))) (pe_one (pe_cmpR op_eq (pv 0) (pv 1) (nomark _)))))) pss_nil)
      (pss_cons (ps_if (PW.pt (pw_or (pt_cmpR op_ne (pe_callB (cIsi K rfl) (by rfl) M.isinstance b_isinstance (pa_cons (pv 1) (pa_cons (pe_bltn (v := .ty "tuple") (by rfl) M.tuple b_tuple rfl) pa_nil))) (pe_callB (cIsi K rfl) (by rfl) M.isinstance b_isinstance (pa_cons (pv 0) (pa_cons (pe_bltn (v := .ty "tuple") (by rfl) M.tuple b_tuple rfl) pa_nil))) (nomark _)) (pw_or1 (pt_cmpR op_ne (pe_callB (cIsi K rfl) (by rfl) M.isinstance b_isinstance (pa_cons (pv 1) (pa_cons (pe_bltn (v := .ty "list") (by rfl) M.list b_list rfl) pa_nil))) (pe_callB (cIsi K rfl) (by rfl) M.isinstance b_isinstance (pa_cons (pv 0) (pa_cons (pe_bltn (v := .ty "list") (by rfl) M.list b_list rfl) pa_nil))) (nomark _))))) (pss_one (ps_ret pe_bl)) pss_nil)
      (pss_one (ps_ret (pe_and (pe_cmpR op_eq (pe_callB (cLen K rfl) (by rfl) M.len b_len (pa_cons (pv 0) pa_nil)) (pe_callB (cLen K rfl) (by rfl) M.len b_len (pa_cons (pv 1) pa_nil)) (nomark _)) (pe_one (pe_callB (cAll K rfl) (by rfl) M.all b_all (pa_cons (pe_lc (own := [("k", 2)]) (g := gName 2) (by rfl) sc_law_same.nd (pi_range1 (by rfl) M.range (pa_cons (pe_callB (cLen K rfl) (by rfl) M.len b_len (pa_cons (pv 1) pa_nil)) pa_nil)) (blkOk_by (own := [("k", 2)]) (N := ["found", "due", "k"]) (sc := defScope st__law_same) (by decide +kernel)) (fun _ _ _ _ _ => (pg_name (i := 2) sc_law_same.nd rfl (.inl rfl))) (fun _ _ _ _ _ => pts_nil) (fun _ _ _ _ _ => (pe_c G_law_same hr (by omega) (by rfl) (pa_cons (pe_ix (ixQ K rfl) (pv 0) (pv 2) (fun _ _ => rfl)) (pa_cons (pe_ix (ixQ K rfl) (pv 1) (pv 2) (fun _ _ => rfl)) pa_nil))))) pa_nil))))))))))), ?_⟩
  have tail : ∀ (a b : Addr) (xs ys : List V) (ds : List PyData), Sq K H a xs → Sq K H b ys → DpAll K H xs ds → DpAll K H ys ds → PyData.depthAll ds < n → ds.length ≤ 1000000 → smAll ds = true → ∀ D : Addr, H D = none →
      ∃ W : Nat → Nat → Hp → Prop, (∃ m, W 0 m (upd H D (.lst []))) ∧ ∀ i m H1, W i m H1 →
      ((Itr 0 ys.length).stop i H1 ∧ rAll K [.ref D] H1 Q) ∨ ((Itr 0 ys.length).go i H1 ∧ ∃ Nx : Hp → Prop, (∀ H', Nx H' → ∃ m', m' < m ∧ W (i + 1) m' H') ∧ ∀ x H', (Itr 0 ys.length).yld i H1 x H' → gName 2 x (wipe [some (.ref a), some (.ref b), none] [2]) H' fun σ2 H2 => wipe σ2 [2] = wipe [some (.ref a), some (.ref b), none] [2] ∧ tYes σ2 H2 fun c H3 =>
        if c = true then tCall (spSame K n) [] E0 (tCons (tOp (rIx K) (tVar 0) (tVar 2)) (tCons (tOp (rIx K) (tVar 1) (tVar 2)) tNil)) σ2 H3 fun y H4 => ∃ acc, H4 D = some (.lst acc) ∧ acc.length < sizeLine ∧ Nx (upd H4 D (.lst (acc ++ [y]))) else Nx H3) := by
    intro a b xs ys ds ha hb hx hy hdp hmil hsm D nD
    have ex := DpAll_len hx
    have ey := DpAll_len hy
    refine lc_range (lo := 0) (n := ys.length) (fun i H' => Same H H' ∧ H' D = some (.lst ((List.replicate i true).map V.bl))) ⟨same_upd nD, upd_same⟩ ?_ ?_
    · rintro i H' hi ⟨ss, hD⟩
      have hix : i < xs.length := by omega
      obtain ⟨d, hd, dx⟩ := DpAll.getE hx (List.getElem?_eq_getElem hix)
      obtain ⟨d', hd', dy⟩ := DpAll.getE hy (List.getElem?_eq_getElem hi)
      rw [hd] at hd'
      cases hd'
      have hdm := depth_mem (List.mem_of_getElem? hd)
      have e0 : (0 : Int) + (i : Int) = (i : Int) := Int.zero_add _
      refine ⟨rfl, ?_⟩
      unfold tYes
      refine iteT ⟨_, rfl, _, rfl, ixq (same_sq ss ha) (by rw [e0]; exact atN (List.getElem?_eq_getElem hix)) ⟨_, rfl, _, rfl, ixq (same_sq ss hb) (by rw [e0]; exact atN (List.getElem?_eq_getElem hi)) ⟨_, _, d, rfl, Dp.same ss d _ dx, Dp.same ss d _ dy, by omega, smAll_mem hsm (List.mem_of_getElem? hd), fun H4 s4 => ?_⟩⟩⟩
      refine ⟨_, s4 _ _ hD, ?_, fun c o e => ?_, ?_⟩
      · rw [List.length_map, List.length_replicate]
        show _ < 2 ^ 24
        omega
      · rw [upd_ne (ne_of_none e nD)]
        exact s4 _ _ (ss _ _ e)
      · rw [upd_same, List.replicate_succ', List.map_append]
        rfl
    · rintro H' ⟨ss, hD⟩
      refine ⟨D, List.replicate ys.length true, rfl, SqL.of hD, ?_⟩
      have e : (List.replicate ys.length true).all id = true := by
        rw [List.all_eq_true]
        intro x hx
        rw [List.eq_of_mem_replicate hx]
        rfl
      rw [e]
      exact q H' ss
  cases hv with
  | non =>
    cases hu'
    exact ⟨_, rfl, rfl, _, rfl, iteT ⟨_, rfl, rfl, q H fun _ _ e => e⟩⟩
  | bl b =>
    cases hu'
    refine ⟨_, rfl, rfl, _, rfl, iteF ?_⟩
    refine ⟨_, rfl, _, _, _, _, true, rfl, .ty "bool", .base (.bl b), kit_ty k_bb, true, rfl, iteT ?_⟩
    exact ⟨_, rfl, _, _, _, _, true, rfl, .ty "bool", .base (.bl b), kit_ty k_bb, true, rfl, iteT ⟨_, rfl, _, rfl, rfl, by rw [decide_eq_true rfl]; exact q H fun _ _ e => e⟩⟩
  | int i =>
    cases hu'
    refine ⟨_, rfl, rfl, _, rfl, iteF ?_⟩
    refine ⟨_, rfl, _, _, _, _, false, rfl, .ty "bool", .base (.int i), kit_ty k_ib, false, rfl, iteF ?_⟩
    refine ⟨_, rfl, _, _, _, _, true, rfl, .ty "int", .base (.int i), kit_ty k_ii, true, rfl, iteT ?_⟩
    refine ⟨_, rfl, _, _, _, _, true, rfl, .ty "int", .base (.int i), kit_ty k_ii, true, rfl, iteT ?_⟩
    refine ⟨_, rfl, _, _, _, _, false, rfl, .ty "bool", .base (.int i), kit_ty k_ib, false, rfl, true, rfl, iteT ?_⟩
    exact ⟨_, rfl, _, rfl, rfl, by rw [decide_eq_true rfl]; exact q H fun _ _ e => e⟩
  | str x =>
    cases hu'
    refine ⟨_, rfl, rfl, _, rfl, iteF ?_⟩
    refine ⟨_, rfl, _, _, _, _, false, rfl, .ty "bool", .base (.str x), kit_ty k_sb, false, rfl, iteF ?_⟩
    refine ⟨_, rfl, _, _, _, _, false, rfl, .ty "int", .base (.str x), kit_ty k_si, false, rfl, iteF ?_⟩
    refine ⟨_, rfl, _, _, _, _, true, rfl, .ty "str", .base (.str x), kit_ty k_ss, true, rfl, iteT ?_⟩
    exact ⟨_, rfl, _, _, _, _, true, rfl, .ty "str", .base (.str x), kit_ty k_ss, true, rfl, iteT ⟨_, rfl, _, rfl, rfl, by rw [decide_eq_true rfl]; exact q H fun _ _ e => e⟩⟩
  | @tup a xs ds ha hx =>
    cases hu' with
    | @tup b ys _ hb hy =>
    refine ⟨_, rfl, rfl, _, rfl, iteF ?_⟩
    refine ⟨_, rfl, _, _, _, _, false, rfl, .ty "bool", tyT hb, kit_ty k_tb, false, rfl, iteF ?_⟩
    refine ⟨_, rfl, _, _, _, _, false, rfl, .ty "int", tyT hb, kit_ty k_ti, false, rfl, iteF ?_⟩
    refine ⟨_, rfl, _, _, _, _, false, rfl, .ty "str", tyT hb, kit_ty k_ts, false, rfl, iteF ?_⟩
    refine ⟨_, rfl, _, _, _, _, true, rfl, .ty "tuple", tyT hb, kit_ty k_tt, _, rfl, _, _, _, _, true, rfl, .ty "tuple", tyT ha, kit_ty k_tt, rfl, _, rfl, iteNS rfl ?_⟩
    refine ⟨_, rfl, _, _, _, _, false, rfl, .ty "list", tyT hb, kit_ty k_tl, _, rfl, _, _, _, _, false, rfl, .ty "list", tyT ha, kit_ty k_tl, rfl, _, rfl, iteNS rfl ?_⟩
    simp only [PyData.depth] at hdp
    simp only [smD, Bool.and_eq_true, decide_eq_true_eq] at hsm
    obtain ⟨l1, l2⟩ := fin a b xs ys ds (.inr ha) (.inr hb) hx hy (by omega) hsm.1 hsm.2
    refine ⟨_, rfl, a, xs, rfl, .inr ha, _, rfl, b, ys, rfl, .inr hb, rfl, _, rfl, ?_⟩
    rw [decide_eq_true (show V.int (xs.length : Int) = V.int (ys.length : Int) by rw [l1, l2])]
    refine iteT ⟨_, rfl, b, ys, rfl, .inr hb, _, rfl, by omega, by omega, fun D nD => ?_⟩
    exact tail a b xs ys ds (.inr ha) (.inr hb) hx hy (by omega) hsm.1 hsm.2 D nD
  | @lst a xs ds ha hx =>
    cases hu' with
    | @lst b ys _ hb hy =>
    refine ⟨_, rfl, rfl, _, rfl, iteF ?_⟩
    refine ⟨_, rfl, _, _, _, _, false, rfl, .ty "bool", tyL hb, kit_ty k_lb, false, rfl, iteF ?_⟩
    refine ⟨_, rfl, _, _, _, _, false, rfl, .ty "int", tyL hb, kit_ty k_li, false, rfl, iteF ?_⟩
    refine ⟨_, rfl, _, _, _, _, false, rfl, .ty "str", tyL hb, kit_ty k_ls, false, rfl, iteF ?_⟩
    refine ⟨_, rfl, _, _, _, _, false, rfl, .ty "tuple", tyL hb, kit_ty k_lt, _, rfl, _, _, _, _, false, rfl, .ty "tuple", tyL ha, kit_ty k_lt, rfl, _, rfl, iteNS rfl ?_⟩
    refine ⟨_, rfl, _, _, _, _, true, rfl, .ty "list", tyL hb, kit_ty k_ll, _, rfl, _, _, _, _, true, rfl, .ty "list", tyL ha, kit_ty k_ll, rfl, _, rfl, iteNS rfl ?_⟩
    simp only [PyData.depth] at hdp
    simp only [smD, Bool.and_eq_true, decide_eq_true_eq] at hsm
    obtain ⟨l1, l2⟩ := fin a b xs ys ds (.inl ha) (.inl hb) hx hy (by omega) hsm.1 hsm.2
    refine ⟨_, rfl, a, xs, rfl, .inl ha, _, rfl, b, ys, rfl, .inl hb, rfl, _, rfl, ?_⟩
    rw [decide_eq_true (show V.int (xs.length : Int) = V.int (ys.length : Int) by rw [l1, l2])]
    refine iteT ⟨_, rfl, b, ys, rfl, .inl hb, _, rfl, by omega, by omega, fun D nD => ?_⟩
    exact tail a b xs ys ds (.inl ha) (.inl hb) hx hy (by omega) hsm.1 hsm.2 D nD
theorem same_all {f : Addr} {fd : FuncData} (F : Dfn K mg "_law_same" st__law_same f fd ["found", "due"]) (M : Mg mg) : ∀ n : Nat, Cal P w K mg base (n + 1) "_law_same" (spSame K n)
  | 0 => same0 F
  | n + 1 => ok_law_same F M (same_all F M n)
end
end W7
set_option Elab.async false
set_option linter.all false
set_option maxRecDepth 100000
set_option maxHeartbeats 4000000
namespace W7
open PySem PySem.Spec PyProof.Rows L2 Com Kb StX
theorem dt_tup {H : Hp} {v : V} {ds : List PyData} (h : Dt H v (.tuple ds)) : ∃ p xs, v = .ref p ∧ H p = some (.tup xs) ∧ DtAll H xs ds := h.tupE
/-- what a node is made of -/
theorem at_con {H : Hp} {v : V} {d : PyData} {ds : List PyData} (h : Dt H v (dat (.con d) ds)) : ∃ p a, v = .ref p ∧ H p = some (.tup [.str "const", a]) := by
  obtain ⟨p, xs, rfl, hp, g1⟩ := dt_tup h
  obtain ⟨x1, r1, rfl, h1, g2⟩ := g1.consE
  obtain ⟨x2, r2, rfl, h2, g3⟩ := g2.consE
  obtain rfl := g3.nilE
  rw [h1.strE] at hp
  exact ⟨p, x2, rfl, hp⟩
theorem at_prim {H : Hp} {v : V} {x : Str} {ds : List PyData} (h : Dt H v (dat (.prim x) ds)) : ∃ p, v = .ref p ∧ H p = some (.tup [.str "prim", .str x]) := by
  obtain ⟨p, xs, rfl, hp, g1⟩ := dt_tup h
  obtain ⟨x1, r1, rfl, h1, g2⟩ := g1.consE
  obtain ⟨x2, r2, rfl, h2, g3⟩ := g2.consE
  rw [g3.nilE, h1.strE, h2.strE] at hp
  exact ⟨p, rfl, hp⟩
theorem at_top {H : Hp} {v : V} {m : Str} {lv k sp : Nat} {ds : List PyData} (h : Dt H v (dat (.top m lv k sp) ds)) : ∃ p o, v = .ref p ∧ H p = some (.tup [.str "top", .str m, .int (lv : Nat), .int (k : Nat), o]) := by
  obtain ⟨p, xs, rfl, hp, g1⟩ := dt_tup h
  obtain ⟨x1, r1, rfl, h1, g2⟩ := g1.consE
  obtain ⟨x2, r2, rfl, h2, g3⟩ := g2.consE
  obtain ⟨x3, r3, rfl, h3, g4⟩ := g3.consE
  obtain ⟨x4, r4, rfl, h4, g5⟩ := g4.consE
  obtain ⟨x5, r5, rfl, h5, g6⟩ := g5.consE
  rw [g6.nilE, h1.strE, h2.strE, h3.intE, h4.intE] at hp
  exact ⟨p, x5, rfl, hp⟩
theorem at_fn {H : Hp} {v : V} {ns : List Nat} {b : PyData} (h : Dt H v (dat (.fn ns) [b])) : ∃ p a u, v = .ref p ∧ H p = some (.tup [.str "fn", .ref a, u]) ∧ H a = some (.tup (natV ns)) ∧ Dt H u b := by
  obtain ⟨p, xs, rfl, hp, g1⟩ := dt_tup h
  obtain ⟨x1, r1, rfl, h1, g2⟩ := g1.consE
  obtain ⟨x2, r2, rfl, h2, g3⟩ := g2.consE
  obtain ⟨x3, r3, rfl, h3, g4⟩ := g3.consE
  obtain ⟨a, ys, rfl, ha, hy⟩ := dt_tup h2
  obtain rfl := g4.nilE
  rw [h1.strE] at hp
  rw [dt_nat hy] at ha
  exact ⟨p, a, x3, rfl, hp, ha, h3⟩
theorem at_call {H : Hp} {v : V} {sp : Nat} {d : PyData} {ds : List PyData} (h : Dt H v (dat (.call sp) (d :: ds))) : ∃ p u a o ws, v = .ref p ∧ H p = some (.tup [.str "call", u, .ref a, .ref o]) ∧ Dt H u d ∧ H a = some (.tup ws) ∧ DtAll H ws ds ∧ H o = some (.tup [.str "m", .int (sp : Nat)]) := by
  obtain ⟨p, xs, rfl, hp, g1⟩ := dt_tup h
  obtain ⟨x1, r1, rfl, h1, g2⟩ := g1.consE
  obtain ⟨x2, r2, rfl, h2, g3⟩ := g2.consE
  obtain ⟨x3, r3, rfl, h3, g4⟩ := g3.consE
  obtain ⟨x4, r4, rfl, h4, g5⟩ := g4.consE
  obtain ⟨a, ys, rfl, ha, hy⟩ := dt_tup h3
  obtain ⟨o, zs, rfl, ho, g6⟩ := dt_tup h4
  obtain ⟨z1, s1, rfl, k1, g7⟩ := g6.consE
  obtain ⟨z2, s2, rfl, k2, g8⟩ := g7.consE
  obtain rfl := g8.nilE
  rw [k1.strE, k2.intE] at ho
  obtain rfl := g5.nilE
  rw [h1.strE] at hp
  exact ⟨p, x2, a, o, ys, rfl, hp, h2, ha, hy, ho⟩
theorem at_cond {H : Hp} {v : V} {ds : List PyData} (h : Dt H v (dat .cond ds)) : ∃ p ws, v = .ref p ∧ H p = some (.tup (.str "if" :: ws)) ∧ DtAll H ws ds := by
  obtain ⟨p, xs, rfl, hp, g1⟩ := dt_tup h
  obtain ⟨x1, r1, rfl, h1, g2⟩ := g1.consE
  rw [h1.strE] at hp
  exact ⟨p, r1, rfl, hp, g2⟩
theorem at_set {H : Hp} {v : V} {ds : List PyData} (h : Dt H v (dat .set ds)) : ∃ p ws, v = .ref p ∧ H p = some (.tup (.str "set" :: ws)) ∧ DtAll H ws ds := by
  obtain ⟨p, xs, rfl, hp, g1⟩ := dt_tup h
  obtain ⟨x1, r1, rfl, h1, g2⟩ := g1.consE
  rw [h1.strE] at hp
  exact ⟨p, r1, rfl, hp, g2⟩
theorem at_seq {H : Hp} {v : V} {ds : List PyData} (h : Dt H v (dat .seq ds)) : ∃ p a ws, v = .ref p ∧ H p = some (.tup [.str "do", .ref a]) ∧ H a = some (.tup ws) ∧ DtAll H ws ds := by
  obtain ⟨p, xs, rfl, hp, g1⟩ := dt_tup h
  obtain ⟨x1, r1, rfl, h1, g2⟩ := g1.consE
  obtain ⟨x2, r2, rfl, h2, g3⟩ := g2.consE
  obtain ⟨a, ys, rfl, ha, hy⟩ := dt_tup h2
  obtain rfl := g3.nilE
  rw [h1.strE] at hp
  exact ⟨p, a, ys, rfl, hp, ha, hy⟩
theorem at_rec {H : Hp} {v : V} {ns : List Nat} {ds : List PyData} (h : Dt H v (dat (.lrec ns) ds)) : ∃ p a u ws, v = .ref p ∧ H p = some (.tup [.str "rec", .ref a, u]) ∧ H a = some (.tup ws) ∧ DtAll H ws ((ns.zip ds).map pairD) ∧ Dt H u ((ds.drop ns.length).headD .none) := by
  obtain ⟨p, xs, rfl, hp, g1⟩ := dt_tup h
  obtain ⟨x1, r1, rfl, h1, g2⟩ := g1.consE
  obtain ⟨x2, r2, rfl, h2, g3⟩ := g2.consE
  obtain ⟨x3, r3, rfl, h3, g4⟩ := g3.consE
  obtain ⟨a, ys, rfl, ha, hy⟩ := dt_tup h2
  obtain rfl := g4.nilE
  rw [h1.strE] at hp
  exact ⟨p, a, x3, ys, rfl, hp, ha, hy, h3⟩
theorem at_pair {H : Hp} {v : V} {q : Nat × PyData} (h : Dt H v (pairD q)) : ∃ p u, v = .ref p ∧ H p = some (.tup [.int (q.1 : Nat), u]) ∧ Dt H u q.2 := by
  obtain ⟨p, xs, rfl, hp, g1⟩ := dt_tup h
  obtain ⟨x1, r1, rfl, h1, g2⟩ := g1.consE
  obtain ⟨x2, r2, rfl, h2, g3⟩ := g2.consE
  obtain rfl := g3.nilE
  rw [h1.intE] at hp
  exact ⟨p, x2, rfl, hp, h2⟩
theorem cut_all {xs : List V} {x : V} : cutV (x :: xs) (some 1) none = xs := by
  unfold cutV
  have e1 : HT.sIx (x :: xs).length 0 (some 1) = min 1 (x :: xs).length := HT.sIx_nat _ _ 1
  have e2 : HT.sIx (x :: xs).length (x :: xs).length none = (x :: xs).length := rfl
  rw [e1, e2, List.length_cons, Nat.min_eq_left (by omega)]
  show List.take (xs.length + 1 - 1) xs = xs
  rw [Nat.add_sub_cancel, List.take_length]
theorem cut_no {xs : List V} {x : V} : ¬ (HT.sIx (x :: xs).length 0 (some 1) = 0 ∧ HT.sIx (x :: xs).length (x :: xs).length none = (x :: xs).length) := by
  rintro ⟨h, _⟩
  have e1 : HT.sIx (x :: xs).length 0 (some 1) = min 1 (x :: xs).length := HT.sIx_nat _ _ 1
  rw [e1, List.length_cons, Nat.min_eq_left (by omega)] at h
  exact absurd h (by decide)
section
variable {P : Program} {w : World} {K : PySem.W.Frag} {mg : Str → Option Value} {base : Heap}
def spParts : Sp := fun vs H Q _ => ∃ (v : V) (t : Nd), vs = [v] ∧ Dt H v (tmD t) ∧ okT t ∧ ∀ r ws H', Same H H' → H' r = some (.tup ws) → DtAll H' ws (tmL t.ks) → Q (.ref r) H'
theorem ok_parts {f : Addr} {fd : FuncData} (F : Dfn K mg "parts_of_term" st_parts_of_term f fd ["term"]) (M : Mg mg) : Cal P w K mg base 1 "parts_of_term" spParts := by
  refine cal_mk F scparts_of_term (fun vs H Q E h => ?_) (fun cdv A outer s H vs Q E hr h => ?_)
  · obtain ⟨v, t, rfl, _⟩ := h
    rfl
  obtain ⟨v, t, rfl, hv, ok, q⟩ := h
  obtain ⟨l, ks⟩ := t
  simp only [okT] at ok
  obtain ⟨okl, hkl, okk⟩ := ok
  have hkl' : (tmL ks).length ≤ 1000 := by rw [tmL_map, List.length_map]; exact hkl
  simp only [tmD] at hv
  have nil : ks = [] → ∀ p, H p = none → Q (.ref p) (L2.upd H p (.tup [])) := fun e p np => q p [] _ (same_upd np) upd_same (by subst e; simp only [Nd.ks, tmL]; exact .nil)
  refine ⟨_, (pss_cons (ps_set (i := 1) scparts_of_term.nd rfl (.inl rfl) (pe_ix (ixT K rfl) (pv 0) pe_int (fun _ _ => rfl)))
      (pss_cons (ps_if (pt_cmpR op_eq (pv 1) pe_str (nomark _)) (pss_one (ps_ret (pe_tup (pa_cons (pe_ix (ixT K rfl) (pv 0) pe_int (fun _ _ => rfl)) pa_nil)))) pss_nil)
      (pss_cons (ps_if (pt_cmpR op_eq (pv 1) pe_str (nomark _)) (pss_one (ps_ret (pe_tup (pa_cons (pe_ix (ixT K rfl) (pv 0) pe_int (fun _ _ => rfl)) (StX.pa_star (pe_ix (ixT K rfl) (pv 0) pe_int (fun _ _ => rfl)) pa_nil))))) pss_nil)
      (pss_cons (ps_if (pt_cmpR op_eq (pv 1) pe_str (nomark _)) (pss_one (ps_ret (pe_ix (ixT K rfl) (pv 0) pe_int (fun _ _ => rfl)))) pss_nil)
      (pss_cons (ps_if (pt_cmpR (opInT K rfl (units65 hr)) (pv 1) (pe_tup (pa_cons pe_str (pa_cons pe_str pa_nil))) (by rfl)) (pss_one (ps_ret (pe_slice (slA K rfl) (pv 0) (po_some pe_int) po_none))) pss_nil)
      (pss_cons (ps_if (pt_cmpR op_eq (pv 1) pe_str (nomark _)) (pss_one (ps_ret (pe_tup (StX.pa_star (pe_lc (own := [("_", 2), ("part", 3)]) (g := gTup K 2 (gCons (gName 2) (gCons (gName 3) (gNil)))) (by rfl) scparts_of_term.nd (pi_tup (pe_ix (ixT K rfl) (pv 0) pe_int (fun _ _ => rfl))) (blkOk_by (own := [("_", 2), ("part", 3)]) (N := ["term", "kind", "_", "part"]) (sc := defScope st_parts_of_term) (by decide +kernel)) (fun _ _ _ _ _ => (pg_tup rfl (pgs_cons (pg_name (i := 2) scparts_of_term.nd rfl (.inl rfl)) (pgs_cons (pg_name (i := 3) scparts_of_term.nd rfl (.inl rfl)) pgs_nil)))) (fun _ _ _ _ _ => pts_nil) (fun _ _ _ _ _ => (pv 3))) (pa_cons (pe_ix (ixT K rfl) (pv 0) pe_int (fun _ _ => rfl)) pa_nil))))) pss_nil)
      (pss_one (ps_ret (pe_tup pa_nil))))))))), ?_⟩
  cases l with
  | con d =>
    obtain ⟨p, a, rfl, hp⟩ := at_con hv
    refine ⟨_, rfl, tc (ixt hp (atI_nat (j := 0) rfl) ?_)⟩
    dsimp only [gName]
    refine ⟨_, rfl, rfl, _, rfl, ?_⟩
    rw [strE]
    rw [decide_eq_false (show ¬ ("const" : Str) = "fn" by decide +kernel)]
    refine iteF ?_
    dsimp only [tNext]
    refine ⟨_, rfl, rfl, _, rfl, ?_⟩
    rw [strE]
    rw [decide_eq_false (show ¬ ("const" : Str) = "call" by decide +kernel)]
    refine iteF ?_
    dsimp only [tNext]
    refine ⟨_, rfl, rfl, _, rfl, ?_⟩
    rw [strE]
    rw [decide_eq_false (show ¬ ("const" : Str) = "do" by decide +kernel)]
    refine iteF ?_
    dsimp only [tNext]
    refine ⟨_, rfl, by show 2 ≤ sizeLine; decide, fun pp npp => in_strs (ls := ["if", "set"]) (by decide +kernel) (by decide +kernel) upd_same ⟨_, rfl, ?_⟩⟩
    rw [decide_eq_false (show ¬ ("const" : Str) ∈ (["if", "set"] : List Str) by decide +kernel)]
    refine iteF ?_
    dsimp only [tNext]
    refine ⟨_, rfl, rfl, _, rfl, ?_⟩
    rw [strE]
    rw [decide_eq_false (show ¬ ("const" : Str) = "rec" by decide +kernel)]
    refine iteF ?_
    dsimp only [tNext]
    refine ⟨by decide, fun p2 np2 => ?_⟩
    refine q p2 [] _ (same_trans (same_upd npp) (same_upd np2)) upd_same ?_
    rw [show (Nd.mk _ ks).ks = ks from rfl, show ks = [] from okl]
    simp only [tmL]
    exact .nil
  | prim x =>
    obtain ⟨p, rfl, hp⟩ := at_prim hv
    refine ⟨_, rfl, tc (ixt hp (atI_nat (j := 0) rfl) ?_)⟩
    dsimp only [gName]
    refine ⟨_, rfl, rfl, _, rfl, ?_⟩
    rw [strE]
    rw [decide_eq_false (show ¬ ("prim" : Str) = "fn" by decide +kernel)]
    refine iteF ?_
    dsimp only [tNext]
    refine ⟨_, rfl, rfl, _, rfl, ?_⟩
    rw [strE]
    rw [decide_eq_false (show ¬ ("prim" : Str) = "call" by decide +kernel)]
    refine iteF ?_
    dsimp only [tNext]
    refine ⟨_, rfl, rfl, _, rfl, ?_⟩
    rw [strE]
    rw [decide_eq_false (show ¬ ("prim" : Str) = "do" by decide +kernel)]
    refine iteF ?_
    dsimp only [tNext]
    refine ⟨_, rfl, by show 2 ≤ sizeLine; decide, fun pp npp => in_strs (ls := ["if", "set"]) (by decide +kernel) (by decide +kernel) upd_same ⟨_, rfl, ?_⟩⟩
    rw [decide_eq_false (show ¬ ("prim" : Str) ∈ (["if", "set"] : List Str) by decide +kernel)]
    refine iteF ?_
    dsimp only [tNext]
    refine ⟨_, rfl, rfl, _, rfl, ?_⟩
    rw [strE]
    rw [decide_eq_false (show ¬ ("prim" : Str) = "rec" by decide +kernel)]
    refine iteF ?_
    dsimp only [tNext]
    refine ⟨by decide, fun p2 np2 => ?_⟩
    refine q p2 [] _ (same_trans (same_upd npp) (same_upd np2)) upd_same ?_
    rw [show (Nd.mk _ ks).ks = ks from rfl, show ks = [] from okl.1]
    simp only [tmL]
    exact .nil
  | top m lv k sp =>
    obtain ⟨p, o, rfl, hp⟩ := at_top hv
    refine ⟨_, rfl, tc (ixt hp (atI_nat (j := 0) rfl) ?_)⟩
    dsimp only [gName]
    refine ⟨_, rfl, rfl, _, rfl, ?_⟩
    rw [strE]
    rw [decide_eq_false (show ¬ ("top" : Str) = "fn" by decide +kernel)]
    refine iteF ?_
    dsimp only [tNext]
    refine ⟨_, rfl, rfl, _, rfl, ?_⟩
    rw [strE]
    rw [decide_eq_false (show ¬ ("top" : Str) = "call" by decide +kernel)]
    refine iteF ?_
    dsimp only [tNext]
    refine ⟨_, rfl, rfl, _, rfl, ?_⟩
    rw [strE]
    rw [decide_eq_false (show ¬ ("top" : Str) = "do" by decide +kernel)]
    refine iteF ?_
    dsimp only [tNext]
    refine ⟨_, rfl, by show 2 ≤ sizeLine; decide, fun pp npp => in_strs (ls := ["if", "set"]) (by decide +kernel) (by decide +kernel) upd_same ⟨_, rfl, ?_⟩⟩
    rw [decide_eq_false (show ¬ ("top" : Str) ∈ (["if", "set"] : List Str) by decide +kernel)]
    refine iteF ?_
    dsimp only [tNext]
    refine ⟨_, rfl, rfl, _, rfl, ?_⟩
    rw [strE]
    rw [decide_eq_false (show ¬ ("top" : Str) = "rec" by decide +kernel)]
    refine iteF ?_
    dsimp only [tNext]
    refine ⟨by decide, fun p2 np2 => ?_⟩
    refine q p2 [] _ (same_trans (same_upd npp) (same_upd np2)) upd_same ?_
    rw [show (Nd.mk _ ks).ks = ks from rfl, show ks = [] from okl.1]
    simp only [tmL]
    exact .nil
  | fn ns =>
    obtain ⟨t0, rfl⟩ : ∃ t0, ks = [t0] := by
      have h1 := okl.1
      cases ks with
      | nil => exact absurd h1 (by decide)
      | cons a r =>
        cases r with
        | nil => exact ⟨a, rfl⟩
        | cons _ _ => exact absurd h1 (by simp)
    simp only [tmL] at hv
    obtain ⟨p, a, u, rfl, hp, ha, hu⟩ := at_fn hv
    refine ⟨_, rfl, tc (ixt hp (atI_nat (j := 0) rfl) ?_)⟩
    dsimp only [gName]
    refine ⟨_, rfl, rfl, _, rfl, ?_⟩
    rw [strE]
    rw [decide_eq_true (show ("fn" : Str) = "fn" from rfl)]
    refine iteT ⟨_, rfl, tc (ixt hp (atI_nat (j := 2) rfl) ⟨by show 1 ≤ sizeLine; decide, fun p2 np2 => ?_⟩)⟩
    refine q p2 [u] _ (same_upd np2) upd_same ?_
    simp only [Nd.ks, tmL]
    exact .one (hu.tk (same_tk (same_upd np2)))
  | call sp =>
    obtain ⟨t0, ts, rfl⟩ : ∃ t0 ts, ks = t0 :: ts := by
      cases ks with
      | nil => exact absurd (show 1 ≤ ([] : List Nd).length from okl) (by decide)
      | cons a r => exact ⟨a, r, rfl⟩
    simp only [tmL] at hv
    obtain ⟨p, u, a, o, ws, rfl, hp, hu, ha, hw, ho⟩ := at_call hv
    have hwl := hw.len
    simp only [tmL, List.length_cons] at hkl'
    refine ⟨_, rfl, tc (ixt hp (atI_nat (j := 0) rfl) ?_)⟩
    dsimp only [gName]
    refine ⟨_, rfl, rfl, _, rfl, ?_⟩
    rw [strE]
    rw [decide_eq_false (show ¬ ("call" : Str) = "fn" by decide +kernel)]
    refine iteF ?_
    dsimp only [tNext]
    refine ⟨_, rfl, rfl, _, rfl, ?_⟩
    rw [strE]
    rw [decide_eq_true (show ("call" : Str) = "call" from rfl)]
    refine iteT ⟨_, rfl, tc (ixt hp (atI_nat (j := 1) rfl) ⟨_, rfl, tc (ixt hp (atI_nat (j := 2) rfl) ⟨a, ws, rfl, .inl (SqT.of ha), ?_⟩)⟩)⟩
    dsimp only [tNil]
    rw [List.append_nil]
    refine ⟨by show ws.length + 1 ≤ 2 ^ 24; omega, fun p2 np2 => ?_⟩
    refine q p2 (u :: ws) _ (same_upd np2) upd_same ?_
    simp only [Nd.ks, tmL]
    exact .cons (hu.tk (same_tk (same_upd np2))) (hw.tk (same_tk (same_upd np2)))
  | seq =>
    obtain ⟨p, a, ws, rfl, hp, ha, hw⟩ := at_seq hv
    refine ⟨_, rfl, tc (ixt hp (atI_nat (j := 0) rfl) ?_)⟩
    dsimp only [gName]
    refine ⟨_, rfl, rfl, _, rfl, ?_⟩
    rw [strE]
    rw [decide_eq_false (show ¬ ("do" : Str) = "fn" by decide +kernel)]
    refine iteF ?_
    dsimp only [tNext]
    refine ⟨_, rfl, rfl, _, rfl, ?_⟩
    rw [strE]
    rw [decide_eq_false (show ¬ ("do" : Str) = "call" by decide +kernel)]
    refine iteF ?_
    dsimp only [tNext]
    refine ⟨_, rfl, rfl, _, rfl, ?_⟩
    rw [strE]
    rw [decide_eq_true (show ("do" : Str) = "do" from rfl)]
    exact iteT ⟨_, rfl, tc (ixt hp (atI_nat (j := 1) rfl) (q a ws H (fun _ _ e => e) ha hw))⟩
  | cond =>
    obtain ⟨p, ws, rfl, hp, hw⟩ := at_cond hv
    have hwl := hw.len
    refine ⟨_, rfl, tc (ixt hp (atI_nat (j := 0) rfl) ?_)⟩
    dsimp only [gName]
    refine ⟨_, rfl, rfl, _, rfl, ?_⟩
    rw [strE]
    rw [decide_eq_false (show ¬ ("if" : Str) = "fn" by decide +kernel)]
    refine iteF ?_
    dsimp only [tNext]
    refine ⟨_, rfl, rfl, _, rfl, ?_⟩
    rw [strE]
    rw [decide_eq_false (show ¬ ("if" : Str) = "call" by decide +kernel)]
    refine iteF ?_
    dsimp only [tNext]
    refine ⟨_, rfl, rfl, _, rfl, ?_⟩
    rw [strE]
    rw [decide_eq_false (show ¬ ("if" : Str) = "do" by decide +kernel)]
    refine iteF ?_
    dsimp only [tNext]
    refine ⟨_, rfl, by show 2 ≤ sizeLine; decide, fun pp npp => in_strs (ls := ["if", "set"]) (by decide +kernel) (by decide +kernel) upd_same ⟨_, rfl, ?_⟩⟩
    rw [decide_eq_true (show ("if" : Str) ∈ (["if", "set"] : List Str) by decide +kernel)]
    refine iteT ⟨_, rfl, _, rfl, p, _, rfl, SqT.of (by rw [upd_ne (ne_of_none hp npp)]; exact hp), fun z => absurd z cut_no, fun _ p2 np2 => ?_⟩
    rw [cut_all]
    have s2 := same_trans (same_upd (o := .tup [.str "if", .str "set"]) npp) (same_upd (o := .tup ws) np2)
    exact q p2 ws _ s2 upd_same (hw.tk (same_tk s2))
  | set =>
    obtain ⟨p, ws, rfl, hp, hw⟩ := at_set hv
    have hwl := hw.len
    refine ⟨_, rfl, tc (ixt hp (atI_nat (j := 0) rfl) ?_)⟩
    dsimp only [gName]
    refine ⟨_, rfl, rfl, _, rfl, ?_⟩
    rw [strE]
    rw [decide_eq_false (show ¬ ("set" : Str) = "fn" by decide +kernel)]
    refine iteF ?_
    dsimp only [tNext]
    refine ⟨_, rfl, rfl, _, rfl, ?_⟩
    rw [strE]
    rw [decide_eq_false (show ¬ ("set" : Str) = "call" by decide +kernel)]
    refine iteF ?_
    dsimp only [tNext]
    refine ⟨_, rfl, rfl, _, rfl, ?_⟩
    rw [strE]
    rw [decide_eq_false (show ¬ ("set" : Str) = "do" by decide +kernel)]
    refine iteF ?_
    dsimp only [tNext]
    refine ⟨_, rfl, by show 2 ≤ sizeLine; decide, fun pp npp => in_strs (ls := ["if", "set"]) (by decide +kernel) (by decide +kernel) upd_same ⟨_, rfl, ?_⟩⟩
    rw [decide_eq_true (show ("set" : Str) ∈ (["if", "set"] : List Str) by decide +kernel)]
    refine iteT ⟨_, rfl, _, rfl, p, _, rfl, SqT.of (by rw [upd_ne (ne_of_none hp npp)]; exact hp), fun z => absurd z cut_no, fun _ p2 np2 => ?_⟩
    rw [cut_all]
    have s2 := same_trans (same_upd (o := .tup [.str "if", .str "set"]) npp) (same_upd (o := .tup ws) np2)
    exact q p2 ws _ s2 upd_same (hw.tk (same_tk s2))
  | lrec ns =>
    obtain ⟨p, a, u, ws, rfl, hp, ha, hw, hu⟩ := at_rec hv
    have hln : (tmL ks).length = ns.length + 1 := by rw [tmL_map, List.length_map]; exact okl
    simp only [Nd.ks] at q
    generalize tmL ks = ds at hv hkl' hw hu hln q
    have hwl := hw.len
    rw [List.length_map, List.length_zip] at hwl
    refine ⟨_, rfl, tc (ixt hp (atI_nat (j := 0) rfl) ?_)⟩
    dsimp only [gName]
    refine ⟨_, rfl, rfl, _, rfl, ?_⟩
    rw [strE]
    rw [decide_eq_false (show ¬ ("rec" : Str) = "fn" by decide +kernel)]
    refine iteF ?_
    dsimp only [tNext]
    refine ⟨_, rfl, rfl, _, rfl, ?_⟩
    rw [strE]
    rw [decide_eq_false (show ¬ ("rec" : Str) = "call" by decide +kernel)]
    refine iteF ?_
    dsimp only [tNext]
    refine ⟨_, rfl, rfl, _, rfl, ?_⟩
    rw [strE]
    rw [decide_eq_false (show ¬ ("rec" : Str) = "do" by decide +kernel)]
    refine iteF ?_
    dsimp only [tNext]
    refine ⟨_, rfl, by show 2 ≤ sizeLine; decide, fun pp npp => in_strs (ls := ["if", "set"]) (by decide +kernel) (by decide +kernel) upd_same ⟨_, rfl, ?_⟩⟩
    rw [decide_eq_false (show ¬ ("rec" : Str) ∈ (["if", "set"] : List Str) by decide +kernel)]
    refine iteF ?_
    dsimp only [tNext]
    refine ⟨_, rfl, rfl, _, rfl, ?_⟩
    rw [strE]
    rw [decide_eq_true (show ("rec" : Str) = "rec" from rfl)]
    have s1 := same_upd (o := .tup [.str "if", .str "set"]) npp
    have hp1 := s1 _ _ hp
    have ha1 := s1 _ _ ha
    have hw1 := hw.tk (same_tk s1)
    have hu1 := hu.tk (same_tk s1)
    generalize L2.upd H pp (.tup [.str "if", .str "set"]) = H1 at s1 hp1 ha1 hw1 hu1 ⊢
    refine iteT ⟨_, rfl, tc (ixt hp1 (atI_nat (j := 1) rfl) ⟨a, rfl, ⟨_, SqT.of ha1⟩, fun D nD => ?_⟩)⟩
    refine lc_tupK (fun i H' => Same H1 H' ∧ ∃ us, H' D = some (.lst us) ∧ DtAll H' us (ds.take i)) (fun i H' h => SqT.of (h.1 _ _ ha1)) ⟨same_upd nD, [], upd_same, .nil⟩ (fun i v H' hvi ⟨s2, us, hD, hus⟩ => ?_) (fun H' ⟨s2, us, hD, hus⟩ => ?_)
    · obtain ⟨q2, hq2, hd⟩ := DtAll.get_map hw1 hvi
      obtain ⟨pp2, u2, rfl, hpp2, hu2⟩ := at_pair hd
      have hds : ds[i]? = some q2.2 := by
        rw [List.getElem?_zip_eq_some] at hq2
        exact hq2.2
      have hul := hus.len
      rw [List.length_take] at hul
      refine ⟨_, _, rfl, SqT.of (s2 _ _ hpp2), rfl, _, _, rfl, _, _, rfl, rfl, rfl, ?_⟩
      unfold tYes
      refine iteT ⟨_, rfl, us, hD, by show _ < 2 ^ 24; omega, fun c o e => ?_, us ++ [u2], upd_same, ?_⟩
      · rw [upd_ne (ne_of_none e nD)]
        exact s2 _ _ e
      · have tk : Tk H' (L2.upd H' D (.lst (us ++ [u2]))) := Tk.upd fun ys z => by rw [hD] at z; cases z
        rw [List.take_add_one, hds]
        exact (hus.tk tk).app (.one ((hu2.tk (same_tk s2)).tk tk))
    · have e1 : ws.length = ns.length := by omega
      rw [e1] at hus
      have hul := hus.len
      rw [List.length_take] at hul
      refine ⟨D, us, rfl, .inr (SqL.of hD), _, rfl, tc (ixt (s2 _ _ hp1) (atI_nat (j := 2) rfl) ?_)⟩
      dsimp only [tNil]
      refine ⟨by rw [List.length_append]; show us.length + 1 ≤ 2 ^ 24; omega, fun p2 np2 => ?_⟩
      have s3 := same_upd (o := .tup (us ++ [u])) np2
      refine q p2 _ _ (same_trans s1 (same_trans s2 s3)) upd_same ?_
      have e2 : ds = ds.take ns.length ++ [(ds.drop ns.length).headD .none] := by
        have : (ds.drop ns.length).length = 1 := by rw [List.length_drop]; omega
        cases hdd : ds.drop ns.length with
        | nil => rw [hdd] at this; cases this
        | cons x r =>
          rw [hdd] at this
          cases r with
          | cons _ _ => simp at this
          | nil =>
            show ds = ds.take ns.length ++ [x]
            rw [← hdd, List.take_append_drop]
      rw [e2]
      exact (hus.tk (same_tk s3)).app (.one (hu1.tk (same_tk (same_trans s2 s3))))
end
end W7
set_option Elab.async false
set_option linter.all false
set_option maxRecDepth 100000
set_option maxHeartbeats 4000000
namespace W7
open PySem PySem.Spec PyProof.Rows L2 Com Kb StX
section
variable {P : Program} {w : World} {K : PySem.W.Frag} {mg : Str → Option Value} {base : Heap}
def spTermsIn : Sp := fun vs H Q _ => ∃ (v : V) (t : Nd), vs = [v] ∧ Dt H v (tmD t) ∧ okT t ∧ (pre t).length ≤ 1000000 ∧ ∀ r ws H', Same H H' → H' r = some (.lst ws) → DtAll H' ws ((pre t).map tmD) → Q (.ref r) H'
theorem preL_len : ∀ (ts : List Nd), ts.length ≤ (preL ts).length
  | [] => Nat.zero_le _
  | t :: ts => by
    simp only [preL, List.length_append, List.length_cons]
    have := pre_pos t
    have := preL_len ts
    omega
theorem pre_eq (t : Nd) : pre t = t :: preL t.ks := by
  cases t
  simp [pre, Nd.ks]
theorem dt_rev {H : Hp} : ∀ {vs : List V} {ds : List PyData}, DtAll H vs ds → DtAll H vs.reverse ds.reverse
  | _, _, .nil => .nil
  | _, _, .cons h t => by
    rw [List.reverse_cons, List.reverse_cons]
    exact (dt_rev t).app (.one h)
theorem dt_split {H : Hp} : ∀ {ds : List PyData} {vs : List V} {es : List PyData}, DtAll H vs (ds ++ es) → ∃ us ws, vs = us ++ ws ∧ DtAll H us ds ∧ DtAll H ws es
  | [], vs, es, h => ⟨[], vs, rfl, .nil, h⟩
  | d :: ds, vs, es, h => by
    have h' : DtAll H vs (d :: (ds ++ es)) := h
    obtain ⟨x, r, rfl, h1, h2⟩ := h'.consE
    obtain ⟨us, ws, rfl, h3, h4⟩ := dt_split h2
    exact ⟨x :: us, ws, rfl, .cons h1 h3, h4⟩
theorem dt_snoc {H : Hp} {ds : List PyData} {vs : List V} {d : PyData} (h : DtAll H vs (ds ++ [d])) : ∃ us u, vs = us ++ [u] ∧ DtAll H us ds ∧ Dt H u d := by
  obtain ⟨us, ws, rfl, h1, h2⟩ := dt_split h
  obtain ⟨u, r, rfl, h3, h4⟩ := h2.consE
  obtain rfl := h4.nilE
  exact ⟨us, u, rfl, h1, h3⟩
theorem ok_terms_in {f : Addr} {fd : FuncData} (F : Dfn K mg "terms_in" st_terms_in f fd ["term"]) (M : Mg mg) (Gparts_of_term : Cal P w K mg base 1 "parts_of_term" spParts) : Cal P w K mg base 2 "terms_in" spTermsIn := by
  refine cal_mk F scterms_in (fun vs H Q E h => ?_) (fun cdv A outer s H vs Q E hr h => ?_)
  · obtain ⟨v, t, rfl, _⟩ := h
    rfl
  obtain ⟨v, t, rfl, hv, ok, hsz, q⟩ := h
  refine ⟨_, (pss_cons (ps_set (i := 1) scterms_in.nd rfl (.inl rfl) (pe_lst pa_nil))
      (pss_cons (ps_set (i := 2) scterms_in.nd rfl (.inl rfl) (pe_lst (pa_cons (pv 0) pa_nil)))
      (pss_cons (ps_while PassesOwn.never (pt_truth (pv 2) (by intro _; rfl))
      (pss_cons (ps_set (i := 3) scterms_in.nd rfl (.inl rfl) (pe_bm0 PySem.F.plainAttrs_list PySem.F.slot_list_pop PySem.F.type_list_pop mt_pop (pv 2)))
      (pss_cons (ps_expr (pe_bm PySem.F.plainAttrs_list PySem.F.slot_list_append PySem.F.type_list_append mt_append (pv 1) (pa_cons (pv 3) pa_nil)))
      (pss_one (ps_expr (pe_bm PySem.F.plainAttrs_list PySem.F.slot_list_extend PySem.F.type_list_extend (RuleX.mt_extT (K := K)) (pv 2) (pa_cons (RuleX.pe_revT (K := K) rfl (pe_c Gparts_of_term hr (by omega) (by rfl) (pa_cons (pv 3) pa_nil))) pa_nil)))))))
      (pss_one (ps_ret (pv 1)))))), ?_⟩
  refine ⟨Nat.zero_le _, fun fa nfa => ?_⟩
  dsimp only [gName]
  have s1 := same_upd (o := .lst []) nfa
  have e1 := upd_same (H := H) (a := fa) (o := .lst [])
  generalize L2.upd H fa (.lst []) = H1 at s1 e1 ⊢
  refine ⟨_, rfl, by show 1 ≤ sizeLine; decide, fun la nla => ?_⟩
  have s2 := same_upd (o := .lst [v]) nla
  have e2 := upd_same (H := H1) (a := la) (o := .lst [v])
  have ef2 := s2 _ _ e1
  have hfl : fa ≠ la := fun z => by rw [← z, e1] at nla; cases nla
  have s12 := same_trans s1 s2
  have nla0 := Same.nn s1 nla
  generalize L2.upd H1 la (.lst [v]) = H2 at s2 e2 ef2 s12 ⊢
  dsimp only [gName]
  refine ⟨fun m σ H' => ∃ (done left : List Nd) (ws us : List V) (y3 : Option V), σ = [some v, some (.ref fa), some (.ref la), y3] ∧ Same H H' ∧ H' fa = some (.lst ws) ∧ DtAll H' ws (done.map tmD) ∧ H' la = some (.lst us) ∧ DtAll H' us (left.reverse.map tmD) ∧ done ++ preL left = pre t ∧ okL left ∧ m = (preL left).length, ⟨_, [], [t], [], [v], none, rfl, s12, ef2, .nil, e2, .one (hv.tk (same_tk s12)), by simp [preL], by simp only [okL]; exact ⟨ok, True.intro⟩, rfl⟩, ?_⟩
  rintro m σ H3 ⟨done, left, ws, us, y3, rfl, s3, hfa, dws, hla, dus, hpre, okl, rfl⟩
  have hwl := dws.len
  have hul := dus.len
  rw [List.length_map] at hwl
  rw [List.length_map, List.length_reverse] at hul
  have hdl : done.length + (preL left).length = (pre t).length := by rw [← hpre, List.length_append]
  have hll := preL_len left
  cases left with
  | nil =>
    have hus : us = [] := by cases us with | nil => rfl | cons _ _ => cases hul
    subst hus
    refine ⟨_, rfl, false, .inl ⟨_, SqL.of hla, rfl⟩, ?_⟩
    refine iteF ⟨_, rfl, q fa ws H3 s3 hfa ?_⟩
    have : done = pre t := by rw [← hpre]; simp [preL]
    rw [← this]
    exact dws
  | cons x left =>
    rw [List.reverse_cons, List.map_append] at dus
    obtain ⟨us0, u, rfl, du, dx⟩ : ∃ us0 u, us = us0 ++ [u] ∧ DtAll H3 us0 (left.reverse.map tmD) ∧ Dt H3 u (tmD x) := by
      exact dt_snoc (d := tmD x) dus
    simp only [okL] at okl
    simp only [preL, List.length_append] at hpre hdl hll
    have hxp := pre_pos x
    have hll2 := preL_len left
    have hdl2 : done.length ≤ 1000000 := by omega
    refine ⟨_, rfl, true, .inl ⟨_, SqL.of hla, by simp⟩, ?_⟩
    have hlast : (us0 ++ [u])[(us0 ++ [u]).length - 1]? = some u := by simp
    refine iteT ⟨fun σ' H' => ∃ m', m' < (preL (x :: left)).length ∧ ∃ (done left : List Nd) (ws us : List V) (y3 : Option V), σ' = [some v, some (.ref fa), some (.ref la), y3] ∧ Same H H' ∧ H' fa = some (.lst ws) ∧ DtAll H' ws (done.map tmD) ∧ H' la = some (.lst us) ∧ DtAll H' us (left.reverse.map tmD) ∧ done ++ preL left = pre t ∧ okL left ∧ m' = (preL left).length, fun σ' H' h => h, ?_⟩
    refine ⟨_, rfl, .inl ⟨rfl, _, SqL.of hla⟩, la, _, u, rfl, rfl, hla, hlast, ?_⟩
    rw [List.dropLast_concat]
    dsimp only [gName]
    have k4 : ∀ b o, H b = some o → L2.upd H3 la (.lst us0) b = some o := fun b o e => by rw [upd_ne (ne_of_none e nla0)]; exact s3 _ _ e
    have tk4 : Tk H3 (L2.upd H3 la (.lst us0)) := Tk.upd fun ys z => by rw [hla] at z; cases z
    have hfa4 : L2.upd H3 la (.lst us0) fa = some (.lst ws) := by rw [upd_ne hfl]; exact hfa
    have hla4 := upd_same (H := H3) (a := la) (o := .lst us0)
    generalize L2.upd H3 la (.lst us0) = H4 at k4 tk4 hfa4 hla4 ⊢
    refine ⟨_, rfl, .inl ⟨rfl, _, SqL.of hfa4⟩, _, rfl, fa, ws, u, rfl, rfl, hfa4, by show _ < 2 ^ 24; omega, ?_⟩
    have k5 : ∀ b o, H b = some o → L2.upd H4 fa (.lst (ws ++ [u])) b = some o := fun b o e => by rw [upd_ne (ne_of_none e nfa)]; exact k4 _ _ e
    have tk5 : Tk H3 (L2.upd H4 fa (.lst (ws ++ [u]))) := tk4.trans (Tk.upd fun ys z => by rw [hfa4] at z; cases z)
    have hfa5 := upd_same (H := H4) (a := fa) (o := .lst (ws ++ [u]))
    have hla5 : L2.upd H4 fa (.lst (ws ++ [u])) la = some (.lst us0) := by rw [upd_ne (Ne.symm hfl)]; exact hla4
    dsimp only
    generalize L2.upd H4 fa (.lst (ws ++ [u])) = H5 at k5 tk5 hfa5 hla5 ⊢
    refine ⟨_, rfl, .inl ⟨rfl, _, SqL.of hla5⟩, _, rfl, u, x, rfl, dx.tk tk5, okl.1, fun r ks H6 s6 hr6 dks => ?_⟩
    refine ⟨r, ks, rfl, SqT.of hr6, fun p np => ?_⟩
    have s7 := same_upd (o := .tup ks.reverse) np
    have hp7 := upd_same (H := H6) (a := p) (o := .tup ks.reverse)
    have s67 := same_trans s6 s7
    have dks7 := dks.tk (same_tk s7)
    generalize L2.upd H6 p (.tup ks.reverse) = H7 at s7 hp7 s67 dks7 ⊢
    have hkl := dks7.len
    rw [tmL_map, List.length_map] at hkl
    have hxk : x.ks.length ≤ (preL x.ks).length := preL_len _
    have hpx : (pre x).length = 1 + (preL x.ks).length := by rw [pre_eq, List.length_cons]; omega
    rw [List.length_append, List.length_singleton] at hul
    simp only [List.length_cons] at hul
    have hla7 := s67 _ _ hla5
    refine ⟨la, p, us0, ks.reverse, rfl, rfl, hla7, hp7, by rw [List.length_reverse]; show _ ≤ 2 ^ 24; omega, ?_⟩
    have tk8 : Tk H7 (L2.upd H7 la (.lst (us0 ++ ks.reverse))) := Tk.upd fun ys z => by rw [hla7] at z; cases z
    have tk38 := (tk5.trans (same_tk s67)).trans tk8
    refine ⟨(preL (x.ks ++ left)).length, ?_, done ++ [x], x.ks ++ left, ws ++ [u], us0 ++ ks.reverse, _, rfl, fun b o e => ?_, ?_, ?_, upd_same, ?_, ?_, ?_, rfl⟩
    · rw [preL_app, List.length_append]
      simp only [preL, List.length_append]
      omega
    · rw [upd_ne (ne_of_none e nla0)]
      exact s67 _ _ (k5 _ _ e)
    · rw [upd_ne hfl]
      exact s67 _ _ hfa5
    · rw [List.map_append]
      exact (dws.tk tk38).app (.one (dx.tk tk38))
    · rw [List.reverse_append, List.map_append]
      refine (du.tk tk38).app ?_
      have := dt_rev (dks7.tk tk8)
      rw [tmL_map, ← List.map_reverse] at this
      exact this
    · rw [← hpre, preL_app, pre_eq x]
      simp
    · have hok := okl.1
      obtain ⟨l, ks⟩ := x
      simp only [okT] at hok
      simp only [Nd.ks]
      exact okL_of fun y hy => by
        rcases List.mem_append.mp hy with h | h
        · exact okL_mem hok.2.2 h
        · exact okL_mem okl.2 h
end
end W7
set_option Elab.async false
set_option linter.all false
set_option maxRecDepth 100000
set_option maxHeartbeats 4000000
namespace W7
open PySem PySem.Spec PyProof.Rows L2 Com Kb StX
def kd : Lab → Str
  | .con _ => "const"
  | .prim _ => "prim"
  | .top _ _ _ _ => "top"
  | .fn _ => "fn"
  | .call _ => "call"
  | .cond => "if"
  | .seq => "do"
  | .set => "set"
  | .lrec _ => "rec"
theorem hd_of {H : Hp} {v : V} {t : Nd} (h : Dt H v (tmD t)) : ∃ p r, v = .ref p ∧ H p = some (.tup (.str (kd t.lab) :: r)) := by
  obtain ⟨l, ks⟩ := t
  simp only [tmD] at h
  have key : ∀ ds, Dt H v (.tuple (.str (kd l) :: ds)) → ∃ p r, v = .ref p ∧ H p = some (.tup (.str (kd l) :: r)) := fun ds h => by
    obtain ⟨p, xs, rfl, hp, g1⟩ := dt_tup h
    obtain ⟨x1, r1, rfl, h1, g2⟩ := g1.consE
    rw [h1.strE] at hp
    exact ⟨p, r1, rfl, hp⟩
  cases l <;> exact key _ h
theorem ci0 {x : V} {r : List V} : atI (x :: r) 0 = some x := atI_nat (j := 0) rfl
structure PrT (w : World) (K : PySem.W.Frag) (mg : Str → Option Value) (pS : Addr) : Prop where
  gP : mg "PRIMITIVES" = some (.ref pS)
  pr : ∀ x ∈ primN, ∃ a xs, KDct K w pS x (.ref a) ∧ (∀ H, SqT K H a xs) ∧ ((pm x = none ∧ atI xs 0 = some .non) ∨ ∃ b ys, atI xs 0 = some (.ref b) ∧ (∀ H, SqT K H b ys) ∧ pm x = some ys.length)
theorem cut4 {a b c d e : V} : cutV [a, b, c, d, e] none (some 4) = [a, b, c, d] := by
  unfold cutV
  have e1 : HT.sIx [a, b, c, d, e].length 0 none = 0 := rfl
  have e2 : HT.sIx [a, b, c, d, e].length [a, b, c, d, e].length (some 4) = min 4 5 := HT.sIx_nat _ _ 4
  rw [e1, e2]
  rfl
theorem cut4_no {a b c d e : V} : ¬ (HT.sIx [a, b, c, d, e].length 0 none = 0 ∧ HT.sIx [a, b, c, d, e].length [a, b, c, d, e].length (some 4) = [a, b, c, d, e].length) := by
  rintro ⟨_, h⟩
  have e2 : HT.sIx [a, b, c, d, e].length [a, b, c, d, e].length (some 4) = min 4 5 := HT.sIx_nat _ _ 4
  rw [e2] at h
  exact absurd h (by show ¬ (4 = 5); decide)
section
variable {P : Program} {w : World} {K : PySem.W.Frag} {mg : Str → Option Value} {base : Heap} {pS : Addr}
def spVar : Sp := fun vs H Q _ => ∃ (p o : Addr) (x : Vr) (u : V), vs = [.ref p] ∧ H p = some (.tup [.str "top", .str x.1, .int (x.2.1 : Nat), .int (x.2.2 : Nat), u]) ∧ ∀ q, H q = none → Q (.ref q) (upd H q (.tup ((varK x).map kV)))
theorem ok_var {f : Addr} {fd : FuncData} (F : Dfn K mg "_variable_of" st__variable_of f fd ["term"]) (M : Mg mg) : Cal P w K mg base 1 "_variable_of" spVar := by
  refine cal_mk F sc_variable_of (fun vs H Q E h => ?_) (fun cdv A outer s H vs Q E hr h => ?_)
  · obtain ⟨p, o, x, u, rfl, _⟩ := h
    rfl
  obtain ⟨p, o, x, u, rfl, hp, q⟩ := h
  refine ⟨_, (pss_one (ps_ret (pe_slice (slA K rfl) (pv 0) po_none (po_some pe_int)))), ?_⟩
  refine ⟨_, rfl, _, rfl, p, _, rfl, SqT.of hp, fun z => absurd z cut4_no, fun _ r nr => ?_⟩
  rw [cut4]
  exact q r nr
def spPh : Sp := fun vs H Q _ => ∃ (v : V) (i : Itm), vs = [v, .int 0] ∧ Dt H v (itD i) ∧ Q (.int (ph i : Nat)) H
theorem at_item {H : Hp} {v : V} {i : Itm} (h : Dt H v (itD i)) : ∃ p u, v = .ref p ∧ H p = some (.tup [.str i.k, .int (i.lv : Nat), .int (i.n : Nat), u]) ∧ Dt H u (tmD i.t) := by
  obtain ⟨p, xs, rfl, hp, g1⟩ := dt_tup h
  obtain ⟨x1, r1, rfl, h1, g2⟩ := g1.consE
  obtain ⟨x2, r2, rfl, h2, g3⟩ := g2.consE
  obtain ⟨x3, r3, rfl, h3, g4⟩ := g3.consE
  obtain ⟨x4, r4, rfl, h4, g5⟩ := g4.consE
  rw [g5.nilE, h1.strE, h2.intE, h3.intE] at hp
  exact ⟨p, x4, rfl, hp, h4⟩
theorem ok_phase {f : Addr} {fd : FuncData} (F : Dfn K mg "phase_of_item" st_phase_of_item f fd ["item", "shift"]) (M : Mg mg) : Cal P w K mg base 1 "phase_of_item" spPh := by
  refine cal_mk F scphase_of_item (fun vs H Q E h => ?_) (fun cdv A outer s H vs Q E hr h => ?_)
  · obtain ⟨v, i, rfl, _⟩ := h
    rfl
  obtain ⟨v, i, rfl, hv, q⟩ := h
  obtain ⟨p, u, rfl, hp, hu⟩ := at_item hv
  refine ⟨_, (pss_one (ps_ret (pe_op op_add (pe_op op_add (pv 1) (pe_ix (ixT K rfl) (pv 0) pe_int (fun _ _ => rfl))) (pe_ifExp (pt_cmpR op_eq (pe_ix (ixT K rfl) (pv 0) pe_int (fun _ _ => rfl)) pe_str (nomark _)) pe_int pe_int)))), ?_⟩
  refine ⟨_, rfl, _, rfl, tc (ixt hp (atI_nat (j := 1) rfl) ⟨_, _, rfl, rfl, _, rfl, tc (ixt hp (atI_nat (j := 0) rfl) (tc ⟨rfl, _, rfl, ?_⟩))⟩)⟩
  rw [strE]
  unfold ph at q
  by_cases e : i.k = "mac"
  · rw [decide_eq_true e]
    rw [if_pos e] at q
    refine iteT ⟨_, _, rfl, rfl, ?_⟩
    dsimp only
    rw [show (0 : Int) + (i.lv : Nat) + 1 = ((i.lv + 1 : Nat) : Int) by omega]
    exact q
  · rw [decide_eq_false e]
    rw [if_neg e] at q
    refine iteF ⟨_, _, rfl, rfl, ?_⟩
    dsimp only
    rw [show (0 : Int) + (i.lv : Nat) + 0 = ((i.lv + 0 : Nat) : Int) by omega]
    exact q
def optV : Option Nat → V
  | none => .non
  | some n => .int (n : Nat)
def spTB : Sp := fun vs H Q _ => ∃ (v : V) (t : Nd) (L : Nat) (d : Addr) (S : List Vr) (is : List Itm), vs = [v, .int (L : Nat), .ref d] ∧ Dt H v (tmD t) ∧ okT t ∧ lvT L t ∧ H d = some (.dT (tkK S is)) ∧ ∀ H', Same H H' → Q (optV (manyOf S is t)) H'
theorem lab_many {S : List Vr} {is : List Itm} {l : Lab} {ks : List Nd} (h1 : ∀ ns, l ≠ .fn ns) (h2 : ∀ x, l ≠ .prim x) (h3 : ∀ a b c d, l ≠ .top a b c d) : manyOf S is (.mk l ks) = none := by
  cases l with
  | fn ns => exact absurd rfl (h1 ns)
  | prim x => exact absurd rfl (h2 x)
  | top a b c d => exact absurd rfl (h3 a b c d)
  | _ => rfl
theorem ok_taken_by {f : Addr} {fd : FuncData} (F : Dfn K mg "_taken_by" st__taken_by f fd ["term", "level", "constants"]) (M : Mg mg) (T : PrT w K mg pS) (G_variable_of : Cal P w K mg base 1 "_variable_of" spVar) : Cal P w K mg base 2 "_taken_by" spTB := by
  refine cal_mk F sc_taken_by (fun vs H Q E h => ?_) (fun cdv A outer s H vs Q E hr h => ?_)
  · obtain ⟨v, t, L, d, S, is, rfl, _⟩ := h
    rfl
  obtain ⟨v, t, L, d, S, is, rfl, hv, ok, lv, hd, q⟩ := h
  have hu := units65 hr
  have hu : (A.deeper (envOfC "_taken_by" (defScope st__taken_by) s.heap.objs.size f cdv)).units + 1 < cLine := by omega
  refine ⟨_, (pss_cons (ps_if (pt_cmpR op_eq (pe_ix (ixT K rfl) (pv 0) pe_int (fun _ _ => rfl)) pe_str (nomark _)) (pss_one (ps_ret (pe_callB (cLen K rfl) (by rfl) M.len b_len (pa_cons (pe_ix (ixT K rfl) (pv 0) pe_int (fun _ _ => rfl)) pa_nil)))) pss_nil)
      (pss_cons (ps_if (pt_cmpR op_eq (pe_ix (ixT K rfl) (pv 0) pe_int (fun _ _ => rfl)) pe_str (nomark _)) (pss_cons (ps_set (i := 3) sc_taken_by.nd rfl (.inl rfl) (pe_ix (ixT K rfl) (pe_ix ix_kdict (pe_glob (v := .ref pS) (by rfl) T.gP rfl) (pe_ix (ixT K rfl) (pv 0) pe_int (fun _ _ => rfl)) (fun _ _ => rfl)) pe_int (fun _ _ => rfl)))
      (pss_one (ps_ret (pe_ifExp (pt_cmpR op_isN (pv 3) pe_non (nomark _)) pe_non (pe_callB (cLen K rfl) (by rfl) M.len b_len (pa_cons (pv 3) pa_nil)))))) pss_nil)
      (pss_cons (ps_if (PW.pt (pw_and (pt_cmpR op_eq (pe_ix (ixT K rfl) (pv 0) pe_int (fun _ _ => rfl)) pe_str (nomark _)) (pw_and1 (pt_cmpR op_eq (pe_ix (ixT K rfl) (pv 0) pe_int (fun _ _ => rfl)) (pv 1) (nomark _))))) (pss_one (ps_ret (pe_dget1 hu (pv 2) (pe_c G_variable_of hr (by omega) (by rfl) (pa_cons (pv 0) pa_nil)) ⟨rfl, rfl, rfl, rfl⟩))) pss_nil)
      (pss_one (ps_ret pe_non))))), ?_⟩
  have q0 := q H (fun _ _ e => e)
  obtain ⟨l, ks⟩ := t
  have hv0 := hv
  simp only [tmD] at hv
  simp only [okT] at ok
  have other : (∀ ns, l ≠ .fn ns) → (∀ x, l ≠ .prim x) → (∀ a b c e, l ≠ .top a b c e) → ¬ kd l = "fn" ∧ ¬ kd l = "prim" ∧ ¬ kd l = "top" := by
    intro h1 h2 h3
    cases l with
    | fn ns => exact absurd rfl (h1 ns)
    | prim x => exact absurd rfl (h2 x)
    | top a b c d => exact absurd rfl (h3 a b c d)
    | con _ => exact ⟨by show ¬ ("const" : Str) = "fn"; decide +kernel, by show ¬ ("const" : Str) = "prim"; decide +kernel, by show ¬ ("const" : Str) = "top"; decide +kernel⟩
    | call _ => exact ⟨by show ¬ ("call" : Str) = "fn"; decide +kernel, by show ¬ ("call" : Str) = "prim"; decide +kernel, by show ¬ ("call" : Str) = "top"; decide +kernel⟩
    | cond => exact ⟨by show ¬ ("if" : Str) = "fn"; decide +kernel, by show ¬ ("if" : Str) = "prim"; decide +kernel, by show ¬ ("if" : Str) = "top"; decide +kernel⟩
    | seq => exact ⟨by show ¬ ("do" : Str) = "fn"; decide +kernel, by show ¬ ("do" : Str) = "prim"; decide +kernel, by show ¬ ("do" : Str) = "top"; decide +kernel⟩
    | set => exact ⟨by show ¬ ("set" : Str) = "fn"; decide +kernel, by show ¬ ("set" : Str) = "prim"; decide +kernel, by show ¬ ("set" : Str) = "top"; decide +kernel⟩
    | lrec _ => exact ⟨by show ¬ ("rec" : Str) = "fn"; decide +kernel, by show ¬ ("rec" : Str) = "prim"; decide +kernel, by show ¬ ("rec" : Str) = "top"; decide +kernel⟩
  have rest : (∀ ns, l ≠ .fn ns) → (∀ x, l ≠ .prim x) → (∀ a b c e, l ≠ .top a b c e) → True := fun _ _ _ => True.intro
  cases l with
  | fn ns =>
    obtain ⟨t0, rfl⟩ : ∃ t0, ks = [t0] := by
      have h1 := ok.1.1
      cases ks with
      | nil => exact absurd h1 (by decide)
      | cons a r =>
        cases r with
        | nil => exact ⟨a, rfl⟩
        | cons _ _ => exact absurd h1 (by simp)
    simp only [tmL] at hv
    obtain ⟨p, a, u, rfl, hp, ha, hu'⟩ := at_fn hv
    refine ⟨_, rfl, tc (ixt hp (atI_nat (j := 0) rfl) (tc ⟨rfl, _, rfl, ?_⟩))⟩
    rw [strE, decide_eq_true rfl]
    refine iteT ⟨_, rfl, tc (ixt hp (atI_nat (j := 1) rfl) ⟨a, _, rfl, .inr (SqT.of ha), ?_⟩)⟩
    rw [natV_len]
    exact q0
  | prim x =>
    obtain ⟨p, rfl, hp⟩ := at_prim hv
    refine ⟨_, rfl, tc (ixt hp (atI_nat (j := 0) rfl) (tc ⟨rfl, _, rfl, ?_⟩))⟩
    rw [strE, decide_eq_false (show ¬ ("prim" : Str) = "fn" by decide +kernel)]
    refine iteF ?_
    dsimp only [tNext]
    refine ⟨_, rfl, tc (ixt hp (atI_nat (j := 0) rfl) (tc ⟨rfl, _, rfl, ?_⟩))⟩
    rw [strE, decide_eq_true rfl]
    obtain ⟨a, xs, hk, hx, hor⟩ := T.pr x ok.1.2
    refine iteT ⟨_, rfl, tc (ixt hp (atI_nat (j := 1) rfl) ⟨pS, x, .ref a, rfl, rfl, hk, ?_⟩)⟩
    have q1 : Q (optV (pm x)) H := q0
    rcases hor with ⟨h1, h2⟩ | ⟨b, ys, h2, hy, h1⟩
    · rw [h1] at q1
      refine tc (ixk (hx H) h2 ?_)
      dsimp only [gName]
      exact ⟨_, rfl, rfl, _, rfl, iteT q1⟩
    · rw [h1] at q1
      refine tc (ixk (hx H) h2 ?_)
      dsimp only [gName]
      exact ⟨_, rfl, rfl, _, rfl, iteF ⟨_, rfl, b, ys, rfl, .inr (hy H), q1⟩⟩
  | top m lv' k sp =>
    obtain ⟨p, o, rfl, hp⟩ := at_top hv
    refine ⟨_, rfl, tc (ixt hp (atI_nat (j := 0) rfl) (tc ⟨rfl, _, rfl, ?_⟩))⟩
    rw [strE, decide_eq_false (show ¬ ("top" : Str) = "fn" by decide +kernel)]
    refine iteF ?_
    dsimp only [tNext]
    refine ⟨_, rfl, tc (ixt hp (atI_nat (j := 0) rfl) (tc ⟨rfl, _, rfl, ?_⟩))⟩
    rw [strE, decide_eq_false (show ¬ ("top" : Str) = "prim" by decide +kernel)]
    refine iteF ?_
    dsimp only [tNext]
    refine ⟨_, rfl, tc (ixt hp (atI_nat (j := 0) rfl) (tc ⟨rfl, _, rfl, ?_⟩))⟩
    rw [strE, decide_eq_true rfl]
    have elv : lv' = L := lv (.mk (.top m lv' k sp) ks) (pre_self _)
    refine iteT ⟨_, rfl, tc (ixt hp (atI_nat (j := 2) rfl) ⟨_, rfl, rfl, _, rfl, ?_⟩)⟩
    rw [elv, decide_eq_true rfl]
    rw [elv] at hp q
    refine iteT ⟨_, rfl, d, rfl, .inr ⟨_, .inl hd⟩, _, rfl, p, p, (m, L, k), o, rfl, hp, fun r nr => ?_⟩
    have s1 := same_upd (o := .tup ((varK (m, L, k)).map kV)) nr
    refine ⟨_, DGet.t (s1 _ _ hd) upd_same, ?_⟩
    have q1 := q _ s1
    rw [tkK_val]
    have e : (optV (manyOf S is (.mk (.top m L k sp) ks))) = (if m = "m" ∧ (m, L, k) ∉ S then (lastM is L k).map (fun c => V.int (c : Nat)) else none).getD .non := by
      simp only [manyOf]
      by_cases hm : m = "m" ∧ (m, L, k) ∉ S
      · rw [if_pos hm, if_pos hm]
        cases lastM is L k <;> rfl
      · rw [if_neg hm, if_neg hm]
        rfl
    rw [e] at q1
    exact q1
  | con _ | call _ | cond | seq | set | lrec _ =>
    obtain ⟨o1, o2, o3⟩ := other (fun _ z => by cases z) (fun _ z => by cases z) (fun _ _ _ _ z => by cases z)
    obtain ⟨p, r, rfl, hp⟩ := hd_of hv0
    simp only [Nd.lab] at hp
    refine ⟨_, rfl, tc (ixt hp ci0 (tc ⟨rfl, _, rfl, ?_⟩))⟩
    rw [strE, decide_eq_false o1]
    refine iteF ?_
    dsimp only [tNext]
    refine ⟨_, rfl, tc (ixt hp ci0 (tc ⟨rfl, _, rfl, ?_⟩))⟩
    rw [strE, decide_eq_false o2]
    refine iteF ?_
    dsimp only [tNext]
    refine ⟨_, rfl, tc (ixt hp ci0 (tc ⟨rfl, _, rfl, ?_⟩))⟩
    rw [strE, decide_eq_false o3]
    exact iteF (iteF q0)
end
end W7
set_option Elab.async false
set_option linter.all false
set_option maxRecDepth 100000
set_option maxHeartbeats 4000000
namespace W7
open PySem PySem.Spec PyProof.Rows L2 Com Kb StX
def artD (is : List Itm) : PyData := .tuple [.str "module", .str "m", .tuple [], .tuple [], .tuple [], .tuple (is.map itD)]
theorem at_art {H : Hp} {v : V} {is : List Itm} (h : Dt H v (artD is)) : ∃ p x3 x4 x5 q xs, v = .ref p ∧ H p = some (.tup [.str "module", .str "m", x3, x4, x5, .ref q]) ∧ H q = some (.tup xs) ∧ DtAll H xs (is.map itD) := by
  obtain ⟨p, xs, rfl, hp, g1⟩ := dt_tup h
  obtain ⟨x1, r1, rfl, h1, g2⟩ := g1.consE
  obtain ⟨x2, r2, rfl, h2, g3⟩ := g2.consE
  obtain ⟨x3, r3, rfl, h3, g4⟩ := g3.consE
  obtain ⟨x4, r4, rfl, h4, g5⟩ := g4.consE
  obtain ⟨x5, r5, rfl, h5, g6⟩ := g5.consE
  obtain ⟨x6, r6, rfl, h6, g7⟩ := g6.consE
  obtain ⟨q, ys, rfl, hq, hy⟩ := dt_tup h6
  obtain rfl := g7.nilE
  rw [h1.strE, h2.strE] at hp
  exact ⟨p, x3, x4, x5, q, ys, rfl, hp, hq, hy⟩
theorem preI_app (a b : List Itm) : preI (a ++ b) = preI a ++ preI b := by unfold preI; rw [List.flatMap_append]
theorem preI_one (i : Itm) : preI [i] = pre i.t := by simp [preI]
theorem setsI_take {is : List Itm} {i : Nat} {x : Itm} (h : is[i]? = some x) : setsI (is.take (i + 1)) = setsI (is.take i) ++ (pre x.t).filterMap setOf := by
  unfold setsI
  rw [List.take_add_one, h]
  show (preI (is.take i ++ [x])).filterMap setOf = _
  rw [preI_app, preI_one, List.filterMap_append]
theorem kd_set {l : Lab} : kd l = "set" ↔ l = .set := by
  constructor
  · intro h
    cases l with
    | set => rfl
    | con _ => exact absurd (show ("const" : Str) = "set" from h) (by decide +kernel)
    | prim _ => exact absurd (show ("prim" : Str) = "set" from h) (by decide +kernel)
    | top _ _ _ _ => exact absurd (show ("top" : Str) = "set" from h) (by decide +kernel)
    | fn _ => exact absurd (show ("fn" : Str) = "set" from h) (by decide +kernel)
    | call _ => exact absurd (show ("call" : Str) = "set" from h) (by decide +kernel)
    | cond => exact absurd (show ("if" : Str) = "set" from h) (by decide +kernel)
    | seq => exact absurd (show ("do" : Str) = "set" from h) (by decide +kernel)
    | lrec _ => exact absurd (show ("rec" : Str) = "set" from h) (by decide +kernel)
  · rintro rfl
    rfl
theorem kd_fn {l : Lab} : kd l = "fn" ↔ ∃ ns, l = .fn ns := by
  constructor
  · intro h
    cases l with
    | fn ns => exact ⟨ns, rfl⟩
    | con _ => exact absurd (show ("const" : Str) = "fn" from h) (by decide +kernel)
    | prim _ => exact absurd (show ("prim" : Str) = "fn" from h) (by decide +kernel)
    | top _ _ _ _ => exact absurd (show ("top" : Str) = "fn" from h) (by decide +kernel)
    | set => exact absurd (show ("set" : Str) = "fn" from h) (by decide +kernel)
    | call _ => exact absurd (show ("call" : Str) = "fn" from h) (by decide +kernel)
    | cond => exact absurd (show ("if" : Str) = "fn" from h) (by decide +kernel)
    | seq => exact absurd (show ("do" : Str) = "fn" from h) (by decide +kernel)
    | lrec _ => exact absurd (show ("rec" : Str) = "fn" from h) (by decide +kernel)
  · rintro ⟨ns, rfl⟩
    rfl
theorem kd_call {l : Lab} : kd l = "call" ↔ ∃ sp, l = .call sp := by
  constructor
  · intro h
    cases l with
    | call sp => exact ⟨sp, rfl⟩
    | con _ => exact absurd (show ("const" : Str) = "call" from h) (by decide +kernel)
    | prim _ => exact absurd (show ("prim" : Str) = "call" from h) (by decide +kernel)
    | top _ _ _ _ => exact absurd (show ("top" : Str) = "call" from h) (by decide +kernel)
    | fn _ => exact absurd (show ("fn" : Str) = "call" from h) (by decide +kernel)
    | set => exact absurd (show ("set" : Str) = "call" from h) (by decide +kernel)
    | cond => exact absurd (show ("if" : Str) = "call" from h) (by decide +kernel)
    | seq => exact absurd (show ("do" : Str) = "call" from h) (by decide +kernel)
    | lrec _ => exact absurd (show ("rec" : Str) = "call" from h) (by decide +kernel)
  · rintro ⟨sp, rfl⟩
    rfl
/-- what a set is made of -/
theorem set_at {H : Hp} {v : V} {ks : List Nd} (ok : okT (.mk .set ks)) (h : Dt H v (tmD (.mk .set ks))) : ∃ (p p2 : Addr) (o u : V) (x : Vr), v = .ref p ∧ H p = some (.tup [.str "set", .ref p2, u]) ∧ H p2 = some (.tup [.str "top", .str x.1, .int (x.2.1 : Nat), .int (x.2.2 : Nat), o]) ∧ setOf (.mk .set ks) = some x := by
  simp only [okT] at ok
  obtain ⟨m, lv, k, sp, b, rfl⟩ := ok.1
  simp only [tmD, tmL] at h
  obtain ⟨p, ws, rfl, hp, g1⟩ := at_set h
  obtain ⟨x1, r1, rfl, h1, g2⟩ := g1.consE
  obtain ⟨x2, r2, rfl, h2, g3⟩ := g2.consE
  obtain rfl := g3.nilE
  obtain ⟨p2, o, rfl, hp2⟩ := at_top h1
  exact ⟨p, p2, o, x2, (m, lv, k), rfl, hp, hp2, rfl⟩
theorem setOf_none {l : Lab} {ks : List Nd} (h : ¬ l = .set) : setOf (.mk l ks) = none := by
  cases l with
  | set => exact absurd rfl h
  | _ => simp [setOf]
section
variable {P : Program} {w : World} {K : PySem.W.Frag} {mg : Str → Option Value} {base : Heap} {pS : Addr}
def spTC : Sp := fun vs H Q _ => ∃ (v : V) (is : List Itm), vs = [v] ∧ Dt H v (artD is) ∧ (∀ i ∈ is, okI i) ∧ is.length ≤ 1000 ∧ ∀ a H', Same H H' → H' a = some (.dT (tkK (setsI is) is)) → Q (.ref a) H'
theorem preI_len {is : List Itm} (h : ∀ i ∈ is, okI i) : (preI is).length ≤ 1000 * is.length := by
  induction is with
  | nil => exact Nat.zero_le _
  | cons a r ih =>
    have h1 := (h a List.mem_cons_self).sz
    have h2 := ih fun i hi => h i (List.mem_cons_of_mem _ hi)
    have e : preI (a :: r) = pre a.t ++ preI r := by simp [preI]
    rw [e, List.length_append, List.length_cons]
    omega
theorem ok_consts {f : Addr} {fd : FuncData} (F : Dfn K mg "_taken_by_constants" st__taken_by_constants f fd ["artifact"]) (M : Mg mg) (Gterms_in : Cal P w K mg base 2 "terms_in" spTermsIn) (G_variable_of : Cal P w K mg base 1 "_variable_of" spVar) : Cal P w K mg base 3 "_taken_by_constants" spTC := by
  refine cal_mk F sc_taken_by_constants (fun vs H Q E h => ?_) (fun cdv A outer s H vs Q E hr h => ?_)
  · obtain ⟨v, is, rfl, _⟩ := h
    rfl
  obtain ⟨v, is, rfl, hv, hok, hlen, q⟩ := h
  have hu := units65 hr
  have hu : (A.deeper (envOfC "_taken_by_constants" (defScope st__taken_by_constants) s.heap.objs.size f cdv)).units + 1 < cLine := by omega
  have hsl : sizeLine = 16777216 := sizeLine_eq
  obtain ⟨p, x3, x4, x5, pi, xs, rfl, hp, hpi, dxs⟩ := at_art hv
  have hxl := dxs.len
  rw [List.length_map] at hxl
  have hbig := preI_len hok
  have hsets : ∀ n, (setsI (is.take n)).length ≤ 1000000 := fun n => by
    have h1 : (setsI (is.take n)).length ≤ (preI (is.take n)).length := List.length_filterMap_le _ _
    have h2 := preI_len (is := is.take n) fun i hi => hok i (List.mem_of_mem_take hi)
    have h3 : (is.take n).length ≤ is.length := by rw [List.length_take]; omega
    omega
  refine ⟨_, (pss_cons (ps_asg (pv 0) (pg_tup rfl (pgs_cons (pg_name (i := 1) sc_taken_by_constants.nd rfl (.inl rfl)) (pgs_cons (pg_name (i := 2) sc_taken_by_constants.nd rfl (.inl rfl)) (pgs_cons (pg_name (i := 1) sc_taken_by_constants.nd rfl (.inl rfl)) (pgs_cons (pg_name (i := 1) sc_taken_by_constants.nd rfl (.inl rfl)) (pgs_cons (pg_name (i := 1) sc_taken_by_constants.nd rfl (.inl rfl)) (pgs_cons (pg_name (i := 3) sc_taken_by_constants.nd rfl (.inl rfl)) pgs_nil))))))))
      (pss_cons (ps_set (i := 4) sc_taken_by_constants.nd rfl (.inl rfl) pe_dnewT)
      (pss_cons (ps_for PassesOwn.never rfl (pi_tup (pv 3)) (pg_name (i := 5) sc_taken_by_constants.nd rfl (.inl rfl))
      (pss_one (ps_for PassesOwn.never rfl (pi_list (pe_c Gterms_in hr (by omega) (by rfl) (pa_cons (pe_ix (ixT K rfl) (pv 5) pe_int (fun _ _ => rfl)) pa_nil))) (pg_name (i := 6) sc_taken_by_constants.nd rfl (.inl rfl))
      (pss_one (ps_if (PW.pt (pw_and (pt_cmpR op_eq (pe_ix (ixT K rfl) (pv 6) pe_int (fun _ _ => rfl)) pe_str (nomark _)) (pw_and1 (pt_cmpR op_eq (pe_ix (ixT K rfl) (pe_ix (ixT K rfl) (pv 6) pe_int (fun _ _ => rfl)) pe_int (fun _ _ => rfl)) pe_str (nomark _))))) (pss_one (ps_dput hu (pv 4) (pe_c G_variable_of hr (by omega) (by rfl) (pa_cons (pe_ix (ixT K rfl) (pv 6) pe_int (fun _ _ => rfl)) pa_nil)) pe_bl rfl)) pss_nil)))))
      (pss_cons (ps_set (i := 7) sc_taken_by_constants.nd rfl (.inl rfl) pe_dnewT)
      (pss_cons (ps_for PassesOwn.never rfl (pi_tup (pv 3)) (pg_tup rfl (pgs_cons (pg_name (i := 8) sc_taken_by_constants.nd rfl (.inl rfl)) (pgs_cons (pg_name (i := 9) sc_taken_by_constants.nd rfl (.inl rfl)) (pgs_cons (pg_name (i := 10) sc_taken_by_constants.nd rfl (.inl rfl)) (pgs_cons (pg_name (i := 6) sc_taken_by_constants.nd rfl (.inl rfl)) pgs_nil)))))
      (pss_cons (ps_set (i := 11) sc_taken_by_constants.nd rfl (.inl rfl) (pe_tup (pa_cons pe_str (pa_cons (pv 2) (pa_cons (pv 9) (pa_cons (pv 10) pa_nil))))))
      (pss_one (ps_if (PW.pt (pw_and (pt_cmpR op_eq (pv 8) pe_str (nomark _)) (pw_and (pt_cmpR op_eq (pe_ix (ixT K rfl) (pv 6) pe_int (fun _ _ => rfl)) pe_str (nomark _)) (pw_and1 (pt_cmp (pc_dnotin hu (pv 11) (pv 4))))))) (pss_one (ps_dput hu (pv 7) (pv 11) (pe_callB (cLen K rfl) (by rfl) M.len b_len (pa_cons (pe_ix (ixT K rfl) (pv 6) pe_int (fun _ _ => rfl)) pa_nil)) rfl)) pss_nil))))
      (pss_one (ps_ret (pv 7)))))))), ?_⟩
  refine ⟨_, rfl, p, _, rfl, SqT.of hp, rfl, _, _, rfl, _, _, rfl, _, _, rfl, _, _, rfl, _, _, rfl, _, _, rfl, rfl, ?_⟩
  -- changed_ones
  refine fun d1 nd1 => ?_
  dsimp only [gName]
  have s1 := same_upd (o := .dT []) nd1
  have hd1 := upd_same (H := H) (a := d1) (o := .dT [])
  generalize L2.upd H d1 (.dT []) = H1 at s1 hd1 ⊢
  have sk : ∀ {H'}, Keep d1 H1 H' → Same H H' := fun k b o e => k b o (s1 _ _ e) (ne_of_none e nd1)
  refine ⟨_, rfl, pi, rfl, ⟨_, SqT.of (s1 _ _ hpi)⟩, ?_⟩
  refine for_tupK (K := K) (fun i σ H' => ∃ (y1 y5 y6 : Option V), σ = [some (.ref p), y1, some (.str "m"), some (.ref pi), some (.ref d1), y5, y6, none, none, none, none, none] ∧ Keep d1 H1 H' ∧ H' d1 = some (.dT (chK (setsI (is.take i))))) ⟨_, none, none, rfl, Keep.refl _ _, hd1⟩ (fun i σ H' ⟨_, _, _, _, k, _⟩ => SqT.of (sk k _ _ hpi)) ?_ ?_
  · rintro i x σ H2 hxi ⟨y1, y5, y6, rfl, k2, hd2⟩
    obtain ⟨it, hit, hdx⟩ := DtAll.get_map dxs hxi
    have hitm := List.mem_of_getElem? hit
    have oki := hok it hitm
    obtain ⟨pit, u, rfl, hpit, hu'⟩ := at_item (hdx.tk (same_tk (sk k2)))
    dsimp only [gName]
    refine ⟨_, rfl, tc (ixt hpit (atI_nat (j := 3) rfl) ⟨u, it.t, rfl, hu', oki.ok, by have := oki.sz; omega, fun r ws H3 s3 hr3 dws => ⟨r, rfl, ⟨_, SqL.of hr3⟩, ?_⟩⟩)⟩
    have hrd : r ≠ d1 := fun z => by rw [z, s3 _ _ hd2] at hr3; cases hr3
    have k3 := k2.trans (.same s3)
    have hwl := dws.len
    rw [List.length_map] at hwl
    refine for_list (K := K) (fun j σ H' => ∃ (y6 : Option V), σ = [some (.ref p), y1, some (.str "m"), some (.ref pi), some (.ref d1), some (.ref pit), y6, none, none, none, none, none] ∧ Keep d1 H3 H' ∧ H' d1 = some (.dT (chK (setsI (is.take i) ++ ((pre it.t).take j).filterMap setOf)))) ⟨_, rfl, Keep.refl _ _, by rw [List.take_zero, List.filterMap_nil, List.append_nil]; exact s3 _ _ hd2⟩ (fun j σ H' _ ⟨_, _, k, _⟩ => SqL.of (k _ _ hr3 hrd)) ?_ ?_
    · rintro j x σ H4 hxj ⟨y6, rfl, k4, hd4⟩
      obtain ⟨z, hz, hzd⟩ := DtAll.get_map dws hxj
      have hzm := List.mem_of_getElem? hz
      have okz := ok_pre _ oki.ok z hzm
      have tk4 : Tk H3 H4 := fun b ys e => k4 b _ e (ne_of e (s3 _ _ hd2) (by intro z; cases z))
      have hz4 := hzd.tk tk4
      have hl4 : (setsI (is.take i) ++ ((pre it.t).take j).filterMap setOf).length ≤ 2000000 := by
        rw [List.length_append]
        have := hsets i
        have h1 : (((pre it.t).take j).filterMap setOf).length ≤ ((pre it.t).take j).length := List.length_filterMap_le _ _
        have h2 : ((pre it.t).take j).length ≤ (pre it.t).length := by rw [List.length_take]; omega
        have := oki.sz
        omega
      dsimp only [gName]
      obtain ⟨l, ks⟩ := z
      by_cases hset : l = .set
      · subst hset
        obtain ⟨pz, p2, o, uu, xv, rfl, hpz, hp2, hso⟩ := set_at okz hz4
        refine ⟨_, rfl, tc (ixt hpz (atI_nat (j := 0) rfl) (tc ⟨rfl, _, rfl, ?_⟩))⟩
        rw [strE, decide_eq_true rfl]
        refine iteT ⟨_, rfl, tc (ixt hpz (atI_nat (j := 1) rfl) (tc (ixt hp2 (atI_nat (j := 0) rfl) (tc ⟨rfl, _, rfl, ?_⟩))))⟩
        rw [strE, decide_eq_true rfl]
        refine iteT ⟨_, rfl, _, rfl, tc (ixt hpz (atI_nat (j := 1) rfl) ⟨p2, p2, xv, o, rfl, hp2, fun k nk => ?_⟩)⟩
        have s5 := same_upd (o := .tup ((varK xv).map kV)) nk
        refine ⟨d1, _, rfl, DPut.t (s5 _ _ hd4) upd_same (by have := chK_len (setsI (is.take i) ++ ((pre it.t).take j).filterMap setOf); omega), ?_⟩
        refine ⟨_, rfl, fun b o e n => ?_, ?_⟩
        · rw [upd_ne n]
          exact s5 _ _ (k4 b o e n)
        · rw [upd_same, List.take_add_one, hz, List.filterMap_append, ← List.append_assoc]
          show some (HO.dT _) = some (HO.dT (chK ((setsI (is.take i) ++ ((pre it.t).take j).filterMap setOf) ++ ([Nd.mk .set ks].filterMap setOf))))
          rw [List.filterMap_cons_some hso, List.filterMap_nil, chK_snoc]
      · obtain ⟨pz, rz, rfl, hpz⟩ := hd_of hz4
        simp only [Nd.lab] at hpz
        refine ⟨_, rfl, tc (ixt hpz ci0 (tc ⟨rfl, _, rfl, ?_⟩))⟩
        rw [strE, decide_eq_false (fun z => hset (kd_set.mp z))]
        refine iteF (iteF ?_)
        dsimp only [tNext]
        refine ⟨_, rfl, k4, ?_⟩
        rw [List.take_add_one, hz, List.filterMap_append]
        show H4 d1 = some (HO.dT (chK (setsI (is.take i) ++ (((pre it.t).take j).filterMap setOf ++ ([Nd.mk l ks].filterMap setOf)))))
        rw [List.filterMap_cons_none (setOf_none hset), List.filterMap_nil, List.append_nil]
        exact hd4
    · rintro σ H4 ⟨y6, rfl, k4, hd4⟩
      rw [hwl, List.take_length, ← setsI_take hit] at hd4
      exact ⟨_, _, _, rfl, k3.trans k4, hd4⟩
  rintro σ H2 ⟨y1, y5, y6, rfl, k2, hd2⟩
  rw [hxl, List.take_length] at hd2
  have hSl := hsets is.length
  rw [List.take_length] at hSl
  obtain ⟨S, hS⟩ : ∃ S, S = setsI is := ⟨_, rfl⟩
  rw [← hS] at hd2 hSl q
  have s02 := sk k2
  -- taken
  refine fun d2 nd2 => ?_
  dsimp only [gName]
  have s3 := same_upd (o := .dT []) nd2
  have hd3 := upd_same (H := H2) (a := d2) (o := .dT [])
  have hd12 : d1 ≠ d2 := fun z => by rw [← z, hd2] at nd2; cases nd2
  have hd1' := s3 _ _ hd2
  generalize L2.upd H2 d2 (.dT []) = H3 at s3 hd3 hd1' ⊢
  have sk2 : ∀ {H'}, Keep d2 H3 H' → Same H H' := fun k b o e => k b o (s3 _ _ (s02 _ _ e)) (ne_of_none (s02 _ _ e) nd2)
  refine ⟨_, rfl, pi, rfl, ⟨_, SqT.of (s3 _ _ (s02 _ _ hpi))⟩, ?_⟩
  refine for_tupK (K := K) (fun i σ H' => ∃ (y6 y8 y9 y10 y11 : Option V), σ = [some (.ref p), y1, some (.str "m"), some (.ref pi), some (.ref d1), y5, y6, some (.ref d2), y8, y9, y10, y11] ∧ Keep d2 H3 H' ∧ H' d2 = some (.dT (tkK S (is.take i)))) ⟨_, none, none, none, none, rfl, Keep.refl _ _, hd3⟩ (fun i σ H' ⟨_, _, _, _, _, _, k, _⟩ => SqT.of (sk2 k _ _ hpi)) ?_ ?_
  · rintro i x σ H4 hxi ⟨y6, y8, y9, y10, y11, rfl, k4, hd4⟩
    obtain ⟨it, hit, hdx⟩ := DtAll.get_map dxs hxi
    have hitm := List.mem_of_getElem? hit
    have oki := hok it hitm
    obtain ⟨pit, u, rfl, hpit, hu'⟩ := at_item (hdx.tk (same_tk (sk2 k4)))
    have hd14 := k4 d1 _ hd1' hd12
    have hnext : tkK S (is.take (i + 1)) = tkStep S (tkK S (is.take i)) it := by rw [List.take_add_one, hit]; exact tkK_snoc _ _ _
    have hkl := tkK_len S (is.take i)
    have hil : (is.take i).length ≤ is.length := by rw [List.length_take]; omega
    refine ⟨pit, _, rfl, SqT.of hpit, rfl, _, _, rfl, _, _, rfl, _, _, rfl, _, _, rfl, rfl, ?_⟩
    refine ⟨_, rfl, _, rfl, _, rfl, by show 4 ≤ sizeLine; decide, fun kv nkv => ?_⟩
    have s5 := same_upd (o := .tup [.str "top", .str "m", .int (it.lv : Nat), .int (it.n : Nat)]) nkv
    have hkv := upd_same (H := H4) (a := kv) (o := .tup [.str "top", .str "m", .int (it.lv : Nat), .int (it.n : Nat)])
    have hu5 := hu'.tk (same_tk s5)
    have hd15 := s5 _ _ hd14
    have hd25 := s5 _ _ hd4
    dsimp only [gName]
    generalize L2.upd H4 kv (.tup [.str "top", .str "m", .int (it.lv : Nat), .int (it.n : Nat)]) = H5 at s5 hkv hu5 hd15 hd25 ⊢
    have k5 := k4.trans (.same s5)
    refine ⟨_, rfl, rfl, _, rfl, ?_⟩
    rw [strE]
    by_cases hdef : it.k = "def"
    case neg =>
      rw [decide_eq_false hdef]
      refine iteF (iteF ?_)
      dsimp only [tNext]
      refine ⟨_, _, _, _, _, rfl, k5, ?_⟩
      have : defOf it = none := by
        unfold defOf
        split
        · rw [if_neg hdef]
        · rfl
      rw [hnext]
      unfold tkStep
      rw [this]
      exact hd25
    rw [decide_eq_true hdef]
    refine iteT ?_
    obtain ⟨pz, rz, rfl, hpz⟩ := hd_of hu5
    refine ⟨_, rfl, tc (ixt hpz ci0 (tc ⟨rfl, _, rfl, ?_⟩))⟩
    rw [strE]
    by_cases hfn : kd it.t.lab = "fn"
    case neg =>
      rw [decide_eq_false hfn]
      refine iteF (iteF ?_)
      dsimp only [tNext]
      refine ⟨_, _, _, _, _, rfl, k5, ?_⟩
      have : defOf it = none := by
        unfold defOf
        split
        · next ns h => exact absurd (kd_fn.mpr ⟨ns, h⟩) hfn
        · rfl
      rw [hnext]
      unfold tkStep
      rw [this]
      exact hd25
    rw [decide_eq_true hfn]
    obtain ⟨ns, hns⟩ := kd_fn.mp hfn
    have hdo : defOf it = some (it.lv, it.n, ns.length) := by
      unfold defOf
      rw [hns]
      exact if_pos hdef
    refine iteT ⟨_, rfl, _, rfl, d1, _, rfl, DGet.t (k := varK ("m", it.lv, it.n)) hd15 hkv, ?_⟩
    rw [chK_val]
    by_cases hS2 : (("m" : Str), it.lv, it.n) ∈ S
    · rw [if_pos hS2]
      refine ⟨_, rfl, iteF ?_⟩
      dsimp only [tNext]
      refine ⟨_, _, _, _, _, rfl, k5, ?_⟩
      rw [hnext]
      unfold tkStep
      rw [hdo]
      dsimp only
      rw [if_neg (by intro z; exact z hS2)]
      exact hd25
    · rw [if_neg hS2]
      have oktt := oki.ok
      obtain ⟨kk, lvv, nn, tt⟩ := it
      obtain ⟨l, ks⟩ := tt
      simp only [Nd.lab] at hns
      subst hns
      simp only [okT] at oktt
      obtain ⟨t0, rfl⟩ : ∃ t0, ks = [t0] := by
        have h1 := oktt.1.1
        cases ks with
        | nil => exact absurd h1 (by decide)
        | cons a r =>
          cases r with
          | nil => exact ⟨a, rfl⟩
          | cons _ _ => exact absurd h1 (by simp)
      simp only [tmD, tmL] at hu5
      obtain ⟨pz', a, uu, e, hpz', ha, _⟩ := at_fn hu5
      cases e
      refine ⟨_, rfl, iteT ⟨_, rfl, tc (ixt hpz' (atI_nat (j := 1) rfl) ⟨a, _, rfl, .inr (SqT.of ha), _, rfl, _, rfl, d2, _, rfl, DPut.t (k := varK ("m", lvv, nn)) hd25 hkv (by omega), ?_⟩)⟩⟩
      refine ⟨_, _, _, _, _, rfl, fun b o e n => by rw [upd_ne n]; exact k5 b o e n, ?_⟩
      rw [upd_same, hnext]
      unfold tkStep
      rw [hdo]
      dsimp only
      rw [if_pos hS2, natV_len]
  · rintro σ H4 ⟨y6', y8, y9, y10, y11, rfl, k4, hd4⟩
    rw [hxl, List.take_length] at hd4
    exact ⟨_, rfl, q d2 H4 (sk2 k4) hd4⟩
end
end W7
set_option Elab.async false
set_option linter.all false
set_option maxRecDepth 100000
set_option maxHeartbeats 4000000
namespace W7
open PySem PySem.Spec PyProof.Rows L2 Com Kb StX
theorem keys_dt {H : Hp} : ∀ {l : List Nat} {bs : List Addr}, IsKeys H (fdK l) bs → DtAll H (bs.map V.ref) (l.map spD)
  | [], bs, h => by
    cases h
    exact .nil
  | n :: l, bs, h => by
    have h' : Paired (fun p b => H b = some (.tup (p.1.map kV))) ((spK n, V.bl true) :: fdK l) bs := h
    cases h' with
    | cons h1 h2 => exact .cons (.tup h1 (.cons (.str _) (.cons (.int _) .nil))) (keys_dt h2)
theorem alike_sp : ∀ a b : Nat, PySem.W.alike (spD a) (spD b) = true := fun a b => by simp [spD, PySem.W.alike, PySem.W.alikeAll]
theorem preI_take {is : List Itm} {i : Nat} {x : Itm} (h : is[i]? = some x) : preI (is.take (i + 1)) = preI (is.take i) ++ pre x.t := by
  rw [List.take_add_one, h]
  show preI (is.take i ++ [x]) = _
  rw [preI_app, preI_one]
section
variable {P : Program} {w : World} {K : PySem.W.Frag} {mg : Str → Option Value} {base : Heap} {pS : Addr}
def spMis : Sp := fun vs H Q _ => ∃ (v : V) (is : List Itm), vs = [v] ∧ Dt H v (artD is) ∧ (∀ i ∈ is, okI i) ∧ is.length ≤ 1000 ∧ ((preI is).filterMap callOf).Nodup ∧ ∀ p ws H', Same H H' → H' p = some (.lst ws) → DtAll H' ws ((srt (bads (setsI is) is (preI is))).map spD) → Q (.ref p) H'
theorem bads_app (S : List Vr) (is : List Itm) (a b : List Nd) : bads S is (a ++ b) = bads S is a ++ bads S is b := by unfold bads; rw [List.filterMap_append]
theorem bads_len (S : List Vr) (is : List Itm) (a : List Nd) : (bads S is a).length ≤ a.length := List.length_filterMap_le _ _
theorem call_parts {ks : List Nd} {sp : Nat} (ok : okT (.mk (.call sp) ks)) : ∃ h as, ks = h :: as ∧ okT h ∧ as.length ≤ 1000 := by
  simp only [okT] at ok
  cases ks with
  | nil => exact absurd (show 1 ≤ ([] : List Nd).length from ok.1) (by decide)
  | cons a r =>
    have h2 := ok.2.2
    simp only [okL] at h2
    have := ok.2.1
    rw [List.length_cons] at this
    exact ⟨a, r, rfl, h2.1, by omega⟩
theorem pre_trans {t x y : Nd} : x ∈ pre t → y ∈ pre x → y ∈ pre t := by
  refine Nd.rec (motive_1 := fun t => x ∈ pre t → y ∈ pre x → y ∈ pre t) (motive_2 := fun ts => x ∈ preL ts → y ∈ pre x → y ∈ preL ts) ?_ ?_ ?_ t
  · intro l ks ih h1 h2
    simp only [pre] at h1 ⊢
    rcases List.mem_cons.mp h1 with rfl | h1
    · simp only [pre] at h2
      exact h2
    · exact List.mem_cons_of_mem _ (ih h1 h2)
  · intro h
    simp [preL] at h
  · intro t ts i1 i2 h1 h2
    simp only [preL] at h1 ⊢
    rcases List.mem_append.mp h1 with h1 | h1
    · exact List.mem_append_left _ (i1 h1 h2)
    · exact List.mem_append_right _ (i2 h1 h2)
theorem ok_miscounts {f : Addr} {fd : FuncData} (F : Dfn K mg "miscounts" st_miscounts f fd ["artifact"]) (M : Mg mg) (Gterms_in : Cal P w K mg base 2 "terms_in" spTermsIn) (Gphase_of_item : Cal P w K mg base 1 "phase_of_item" spPh) (G_taken_by_constants : Cal P w K mg base 3 "_taken_by_constants" spTC) (G_taken_by : Cal P w K mg base 2 "_taken_by" spTB) : Cal P w K mg base 4 "miscounts" spMis := by
  refine cal_mk F scmiscounts (fun vs H Q E h => ?_) (fun cdv A outer s H vs Q E hr h => ?_)
  · obtain ⟨v, is, rfl, _⟩ := h
    rfl
  obtain ⟨v, is, rfl, hv, hok, hlen, hnd, q⟩ := h
  have hu := units65 hr
  have hu : (A.deeper (envOfC "miscounts" (defScope st_miscounts) s.heap.objs.size f cdv)).units + 1 < cLine := by omega
  have hsl : sizeLine = 16777216 := sizeLine_eq
  obtain ⟨p, x3, x4, x5, pi, xs, rfl, hp, hpi, dxs⟩ := at_art hv
  have hxl := dxs.len
  rw [List.length_map] at hxl
  obtain ⟨S, hS⟩ : ∃ S, S = setsI is := ⟨_, rfl⟩
  rw [← hS] at q
  have hbig := preI_len hok
  refine ⟨_, (pss_cons (ps_set (i := 1) scmiscounts.nd rfl (.inl rfl) (pe_c G_taken_by_constants hr (by omega) (by rfl) (pa_cons (pv 0) pa_nil)))
      (pss_cons (ps_set (i := 2) scmiscounts.nd rfl (.inl rfl) pe_dnewT)
      (pss_cons (ps_for PassesOwn.never rfl (pi_tup (pe_ix (ixT K rfl) (pv 0) pe_int (fun _ _ => rfl))) (pg_name (i := 3) scmiscounts.nd rfl (.inl rfl))
      (pss_cons (ps_set (i := 4) scmiscounts.nd rfl (.inl rfl) (pe_c Gphase_of_item hr (by omega) (by rfl) (pa_cons (pv 3) (pa_cons pe_int pa_nil))))
      (pss_one (ps_for PassesOwn.never rfl (pi_list (pe_c Gterms_in hr (by omega) (by rfl) (pa_cons (pe_ix (ixT K rfl) (pv 3) pe_int (fun _ _ => rfl)) pa_nil))) (pg_name (i := 5) scmiscounts.nd rfl (.inl rfl))
      (pss_one (ps_if (pt_cmpR op_eq (pe_ix (ixT K rfl) (pv 5) pe_int (fun _ _ => rfl)) pe_str (nomark _)) (pss_cons (ps_set (i := 6) scmiscounts.nd rfl (.inl rfl) (pe_c G_taken_by hr (by omega) (by rfl) (pa_cons (pe_ix (ixT K rfl) (pv 5) pe_int (fun _ _ => rfl)) (pa_cons (pv 4) (pa_cons (pv 1) pa_nil)))))
      (pss_one (ps_if (PW.pt (pw_and (pt_cmpR op_notN (pv 6) pe_non (nomark _)) (pw_and1 (pt_cmpR op_ne (pv 6) (pe_callB (cLen K rfl) (by rfl) M.len b_len (pa_cons (pe_ix (ixT K rfl) (pv 5) pe_int (fun _ _ => rfl)) pa_nil)) (nomark _))))) (pss_one (ps_dput hu (pv 2) (pe_ix (ixT K rfl) (pv 5) pe_int (fun _ _ => rfl)) pe_bl rfl)) pss_nil))) pss_nil))))))
      (pss_one (ps_ret (pe_callB (cSort K rfl (units65 hr)) (by rfl) M.sorted b_sorted (pa_cons (pe_callTy (call_list_dT rfl) (by rfl) M.list b_list (pa_cons (pv 2) pa_nil)) pa_nil))))))), ?_⟩
  refine ⟨_, rfl, .ref p, is, rfl, hv, hok, hlen, fun dc H1 s1 hdc1 => ?_⟩
  rw [← hS] at hdc1
  dsimp only [gName]
  refine fun fo nfo => ?_
  dsimp only [gName]
  have s2 := same_upd (o := .dT []) nfo
  have hfo2 := upd_same (H := H1) (a := fo) (o := .dT [])
  have hdc2 := s2 _ _ hdc1
  have hdf : dc ≠ fo := fun z => by rw [← z, hdc1] at nfo; cases nfo
  generalize L2.upd H1 fo (.dT []) = H2 at s2 hfo2 hdc2 ⊢
  have sk : ∀ {H'}, Keep fo H2 H' → Same H H' := fun k b o e => k b o (s2 _ _ (s1 _ _ e)) (ne_of_none (s1 _ _ e) nfo)
  refine ⟨_, rfl, tc (ixt (s2 _ _ (s1 _ _ hp)) (atI_nat (j := 5) rfl) ⟨pi, rfl, ⟨_, SqT.of (s2 _ _ (s1 _ _ hpi))⟩, ?_⟩)⟩
  refine for_tupK (K := K) (fun i σ H' => ∃ (y3 y4 y5 y6 : Option V), σ = [some (.ref p), some (.ref dc), some (.ref fo), y3, y4, y5, y6] ∧ Keep fo H2 H' ∧ H' fo = some (.dT (fdK (bads S is (preI (is.take i)))))) ⟨none, none, none, none, rfl, Keep.refl _ _, hfo2⟩ (fun i σ H' ⟨_, _, _, _, _, k, _⟩ => SqT.of (sk k _ _ hpi)) ?_ ?_
  · rintro i x σ H3 hxi ⟨y3, y4, y5, y6, rfl, k3, hfo3⟩
    obtain ⟨it, hit, hdx⟩ := DtAll.get_map dxs hxi
    have hitm := List.mem_of_getElem? hit
    have oki := hok it hitm
    have hd3 := hdx.tk (same_tk (sk k3))
    dsimp only [gName]
    refine ⟨_, rfl, x, it, rfl, hd3, ?_⟩
    dsimp only [gName]
    obtain ⟨pit, u, rfl, hpit, hu'⟩ := at_item hd3
    refine ⟨_, rfl, tc (ixt hpit (atI_nat (j := 3) rfl) ⟨u, it.t, rfl, hu', oki.ok, by have := oki.sz; omega, fun r ws H4 s4 hr4 dws => ⟨r, rfl, ⟨_, SqL.of hr4⟩, ?_⟩⟩)⟩
    have hrd : r ≠ fo := fun z => by rw [z, s4 _ _ hfo3] at hr4; cases hr4
    have k4 := k3.trans (.same s4)
    have hwl := dws.len
    rw [List.length_map] at hwl
    refine for_list (K := K) (fun j σ H' => ∃ (y5 y6 : Option V), σ = [some (.ref p), some (.ref dc), some (.ref fo), some (.ref pit), some (.int (ph it : Nat)), y5, y6] ∧ Keep fo H4 H' ∧ H' fo = some (.dT (fdK (bads S is (preI (is.take i) ++ (pre it.t).take j))))) ⟨_, _, rfl, Keep.refl _ _, by rw [List.take_zero, List.append_nil]; exact s4 _ _ hfo3⟩ (fun j σ H' _ ⟨_, _, _, k, _⟩ => SqL.of (k _ _ hr4 hrd)) ?_ ?_
    · rintro j x σ H5 hxj ⟨y5, y6, rfl, k5, hfo5⟩
      obtain ⟨z, hz, hzd⟩ := DtAll.get_map dws hxj
      have hzm := List.mem_of_getElem? hz
      have okz := ok_pre _ oki.ok z hzm
      have tk5 : Tk H4 H5 := fun b ys e => k5 b _ e (ne_of e (s4 _ _ hfo3) (by intro z; cases z))
      have hz5 := hzd.tk tk5
      have hdc5 := (k4.trans k5) dc _ hdc2 hdf
      have hlist : preI (is.take i) ++ (pre it.t).take (j + 1) = (preI (is.take i) ++ (pre it.t).take j) ++ [z] := by
        rw [List.take_add_one, hz, ← List.append_assoc]
        rfl
      have stay : bad S is z = none → H5 fo = some (.dT (fdK (bads S is (preI (is.take i) ++ (pre it.t).take (j + 1))))) := fun h => by
        rw [hlist, bads_app]
        have : bads S is [z] = [] := by unfold bads; rw [List.filterMap_cons_none h]; rfl
        rw [this, List.append_nil]
        exact hfo5
      have hlb : (bads S is (preI (is.take i) ++ (pre it.t).take j)).length ≤ 2000000 := by
        have h1 := bads_len S is (preI (is.take i) ++ (pre it.t).take j)
        rw [List.length_append] at h1
        have h2 := preI_len (is := is.take i) fun i hi => hok i (List.mem_of_mem_take hi)
        have h3 : (is.take i).length ≤ is.length := by rw [List.length_take]; omega
        have h4 : ((pre it.t).take j).length ≤ (pre it.t).length := by rw [List.length_take]; omega
        have := oki.sz
        omega
      dsimp only [gName]
      obtain ⟨pz, rz, rfl, hpz⟩ := hd_of hz5
      refine ⟨_, rfl, tc (ixt hpz ci0 (tc ⟨rfl, _, rfl, ?_⟩))⟩
      rw [strE]
      by_cases hcall : kd z.lab = "call"
      case neg =>
        rw [decide_eq_false hcall]
        refine iteF ?_
        dsimp only [tNext]
        refine ⟨_, _, rfl, k5, stay ?_⟩
        obtain ⟨l, ks⟩ := z
        cases l with
        | call sp => exact absurd rfl hcall
        | _ => rfl
      rw [decide_eq_true hcall]
      obtain ⟨l, ks⟩ := z
      obtain ⟨sp, rfl⟩ := kd_call.mp (show kd l = "call" from hcall)
      obtain ⟨h, as, rfl, okh, has⟩ := call_parts okz
      simp only [tmD, tmL] at hz5
      obtain ⟨pz', uh, pa, po, wa, e, hpz', dh, hpa, da, hpo⟩ := at_call hz5
      cases e
      have hal := da.len
      rw [tmL_map, List.length_map] at hal
      have lvh : lvT (ph it) h := fun y hy => oki.lv y (pre_trans hzm (by simp only [pre, preL]; exact List.mem_cons_of_mem _ (List.mem_append_left _ hy)))
      refine iteT ⟨_, rfl, tc (ixt hpz' (atI_nat (j := 1) rfl) ⟨_, rfl, _, rfl, uh, h, ph it, dc, S, is, rfl, dh, okh, lvh, hdc5, fun H6 s6 => ?_⟩)⟩
      dsimp only [gName]
      refine ⟨_, rfl, rfl, _, rfl, ?_⟩
      have k6 := k5.trans (.same s6)
      have hfo6 := s6 _ _ hfo5
      cases hm : manyOf S is h with
      | none =>
        refine iteF (iteF ?_)
        dsimp only [tNext]
        refine ⟨_, _, rfl, k6, s6 _ _ (stay ?_)⟩
        simp only [bad, hm]
      | some n =>
        refine iteT ⟨_, rfl, _, rfl, tc (ixt (s6 _ _ hpz') (atI_nat (j := 2) rfl) ⟨pa, wa, rfl, .inr (SqT.of (s6 _ _ hpa)), rfl, _, rfl, ?_⟩)⟩
        show (if (!decide (V.int ((n : Nat) : Int) = V.int (wa.length : Int))) = true then _ else _)
        rw [intE, hal]
        by_cases hne : n = as.length
        · rw [decide_eq_true (show ((n : Nat) : Int) = ((as.length : Nat) : Int) by rw [hne])]
          refine iteF ?_
          dsimp only [tNext]
          refine ⟨_, _, rfl, k6, s6 _ _ (stay ?_)⟩
          simp only [bad, hm]
          rw [if_neg (fun z => z hne)]
        · rw [decide_eq_false (show ¬ ((n : Nat) : Int) = ((as.length : Nat) : Int) by omega)]
          have hb : bad S is (.mk (.call sp) (h :: as)) = some sp := by
            simp only [bad, hm]
            rw [if_pos hne]
          have hb1 : bads S is [.mk (.call sp) (h :: as)] = [sp] := by unfold bads; rw [List.filterMap_cons_some hb]; rfl
          have hnot : sp ∉ bads S is (preI (is.take i) ++ (pre it.t).take j) := by
            have hsub : ((preI (is.take i) ++ (pre it.t).take (j + 1))).Sublist (preI is) := by
              have e1 : preI is = preI (is.take (i + 1)) ++ preI (is.drop (i + 1)) := by rw [← preI_app, List.take_append_drop]
              rw [e1, preI_take hit]
              exact (List.Sublist.append_left (List.take_sublist _ _) _).trans (List.sublist_append_left _ _)
            have h2 := ((bads_sub (S := S) (is := is) (preI (is.take i) ++ (pre it.t).take (j + 1))).trans (hsub.filterMap callOf)).nodup hnd
            rw [hlist, bads_app, hb1] at h2
            intro z
            exact (List.nodup_append.mp h2).2.2 sp z sp List.mem_cons_self rfl
          refine iteT ⟨_, rfl, _, rfl, tc (ixt (s6 _ _ hpz') (atI_nat (j := 3) rfl) ⟨fo, _, rfl, DPut.t (k := spK sp) hfo6 (s6 _ _ hpo) (by unfold fdK; rw [List.length_map]; omega), ?_⟩)⟩
          refine ⟨_, _, rfl, fun b o e n => by rw [upd_ne n]; exact k6 b o e n, ?_⟩
          rw [upd_same, fdK_put hnot, hlist, bads_app S is (preI (is.take i) ++ (pre it.t).take j) [.mk (.call sp) (h :: as)], hb1]
    · rintro σ H5 ⟨y5, y6, rfl, k5, hfo5⟩
      rw [hwl, List.take_length, ← preI_take hit] at hfo5
      exact ⟨_, _, _, _, rfl, k4.trans k5, hfo5⟩
  · rintro σ H3 ⟨y3, y4, y5, y6, rfl, k3, hfo3⟩
    rw [hxl, List.take_length] at hfo3
    refine ⟨_, rfl, fo, _, rfl, .inl hfo3, fun l bs nl hk => ?_⟩
    have s4 := same_upd (o := .lst (bs.map V.ref)) nl
    have hdt := (keys_dt hk).tk (same_tk s4)
    refine ⟨l, bs.map V.ref, _, rfl, SqL.of upd_same, hdt.dp, PySem.W.AllAlike.of alike_sp, PySem.W.Sortable.tuples fun b => ⟨_, _, rfl⟩, fun d hd => ?_, fun r nr => ?_⟩
    · obtain ⟨n, _, rfl⟩ := List.mem_map.mp hd
      simp [spD, PyData.depth, PyData.depthAll]
    · have s5 := same_upd (o := .lst (((bs.map V.ref).zip ((bads S is (preI is)).map spD)).mergeSort (PySem.W.dataLe false Prod.snd) |>.map Prod.fst)) nr
      exact q r _ _ (same_trans (sk k3) (same_trans s4 s5)) upd_same ((sorted_enc hdt).tk (same_tk s5))
end
end W7
set_option Elab.async false
set_option linter.all false
set_option maxRecDepth 100000
set_option maxHeartbeats 4000000
namespace W7
open PySem PySem.Spec PyProof.Rows L2 Com Kb StX
/-- the draws: a count ahead, then what is left -/
def ST (td : Addr) (c : Nat) (H : Hp) : Prop := ∃ xs : List Int, H td = some (.lst ((((c : Nat) : Int) :: xs).map V.int))
theorem ST.same {td : Addr} {c : Nat} {H H' : Hp} (h : ST td c H) (s : Same H H') : ST td c H' := by
  obtain ⟨xs, e⟩ := h
  exact ⟨xs, s _ _ e⟩
theorem ST.ne {td p : Addr} {c : Nat} {H : Hp} (h : ST td c H) (np : H p = none) : p ≠ td := by
  obtain ⟨xs, e⟩ := h
  exact ne_td e np
theorem ST.tk {td : Addr} {c : Nat} {H H' : Hp} (h : ST td c H) (k : Keep td H H') : Tk H H' := by
  obtain ⟨xs, e⟩ := h
  exact k.tk e
theorem ST.put {td p : Addr} {c : Nat} {H : Hp} {o : HO} (h : ST td c H) (n : p ≠ td) : ST td c (upd H p o) := by
  obtain ⟨xs, e⟩ := h
  exact ⟨xs, by rw [upd_ne (Ne.symm n)]; exact e⟩
def tz : Nat → Nat
  | 0 => 2
  | d + 1 => 3 + 4 * tz d
theorem tz_pos (d : Nat) : 2 ≤ tz d := by cases d <;> simp [tz] <;> omega
theorem ok_leaf {l : Lab} (h : okLab l []) : okT (.mk l []) := by
  simp only [okT, okL]
  exact ⟨h, by decide, True.intro⟩
theorem cs_leaf {l : Lab} (h : callOf (.mk l []) = none) : cs (.mk l []) = [] := by rw [cs_mk, h, csL_nil]; rfl
theorem lv_leaf {L : Nat} {l : Lab} (h : lvLab L l) : lvT L (.mk l []) := lvT_mk h lvL_nil
theorem pre_leaf {l : Lab} : (pre (.mk l [])).length = 1 := by simp [pre, preL]
theorem pre_len (l : Lab) (ks : List Nd) : (pre (.mk l ks)).length = 1 + (preL ks).length := by simp only [pre, List.length_cons]; omega
/-- a node that was made -/
structure Md (L c c' : Nat) (t : Nd) (n e : Nat) : Prop where
  ok : okT t
  lv : lvT L t
  own : Own c c' (cs t)
  sz : (pre t).length ≤ n
  dp : dpT t ≤ e
structure MdL (L c c' : Nat) (ts : List Nd) (n e : Nat) : Prop where
  ok : okL ts
  lv : lvL L ts
  own : Own c c' (csL ts)
  sz : (preL ts).length ≤ n
  dp : dpL ts ≤ e
theorem MdL.nil {L c : Nat} {n e : Nat} : MdL L c c [] n e := ⟨by simp only [okL], lvL_nil, by rw [csL_nil]; exact .nil (Nat.le_refl _), by simp [preL], by simp [dpL]⟩
theorem okL_app {a b : List Nd} (h : okL a) (k : okL b) : okL (a ++ b) := okL_of fun t ht => by
  rcases List.mem_append.mp ht with z | z
  · exact okL_mem h z
  · exact okL_mem k z
theorem MdL.snoc {L c c' c'' : Nat} {ts : List Nd} {t : Nd} {n m e e' : Nat} (h : MdL L c c' ts n e) (k : Md L c' c'' t m e') : MdL L c c'' (ts ++ [t]) (n + m) (max e e') := by
  refine ⟨okL_app h.ok (by simp only [okL]; exact ⟨k.ok, True.intro⟩), lvL_app h.lv (lvL_cons k.lv lvL_nil), ?_, ?_, ?_⟩
  · rw [csL_app, csL_one]
    exact h.own.app k.own
  · rw [preL_app, List.length_append]
    simp only [preL, List.length_append, List.length_nil]
    have := h.sz
    have := k.sz
    omega
  · rw [dpL_app]
    simp only [dpL]
    have := h.dp
    have := k.dp
    omega
theorem MdL.wide {L c c' : Nat} {ts : List Nd} {n m e e' : Nat} (h : MdL L c c' ts n e) (hn : n ≤ m) (he : e ≤ e') : MdL L c c' ts m e' := ⟨h.ok, h.lv, h.own, Nat.le_trans h.sz hn, Nat.le_trans h.dp he⟩
theorem Md.leaf {L c c' : Nat} {l : Lab} {n e : Nat} (h : okLab l []) (hc : callOf (.mk l []) = none) (hl : lvLab L l) (hle : c ≤ c') (hn : 1 ≤ n) (he : 1 ≤ e := by omega) : Md L c c' (.mk l []) n e := ⟨ok_leaf h, lv_leaf hl, by rw [cs_leaf hc]; exact .nil hle, by rw [pre_leaf]; exact hn, by simp only [dpT, dpL]; omega⟩
theorem Md.wide {L c0 c c' c1 n m e e' : Nat} {t : Nd} (h : Md L c c' t n e) (h0 : c0 ≤ c) (h1 : c' ≤ c1) (hn : n ≤ m) (he : e ≤ e' := by omega) : Md L c0 c1 t m e' := ⟨h.ok, h.lv, h.own.wide h0 h1, Nat.le_trans h.sz hn, Nat.le_trans h.dp he⟩
/-- a node that is no call, over its parts -/
theorem Md.node {L c c' : Nat} {l : Lab} {ks : List Nd} {n m e e' : Nat} (h : MdL L c c' ks n e) (hl : okLab l ks) (hk : ks.length ≤ 1000) (hc : callOf (.mk l ks) = none) (hv : lvLab L l) (hm : 1 + n ≤ m) (he : 1 + e ≤ e' := by omega) : Md L c c' (.mk l ks) m e' := by
  refine ⟨?_, lvT_mk hv h.lv, ?_, ?_, ?_⟩
  · simp only [okT]
    exact ⟨hl, hk, h.ok⟩
  · rw [cs_mk, hc]
    exact h.own
  · rw [pre_len]
    have := h.sz
    omega
  · simp only [dpT]
    have := h.dp
    omega
theorem MdL.two {L c c' c'' : Nat} {a b : Nd} {n m e e' : Nat} (h : Md L c c' a n e) (k : Md L c' c'' b m e') : MdL L c c'' [a, b] (n + m) (max e e') := by
  refine ⟨by simp only [okL]; exact ⟨h.ok, k.ok, True.intro⟩, lvL_cons h.lv (lvL_cons k.lv lvL_nil), ?_, ?_, ?_⟩
  · rw [csL_cons, csL_one]
    exact h.own.app k.own
  · simp only [preL, List.length_append, List.length_nil]
    have := h.sz
    have := k.sz
    omega
  · simp only [dpL]
    have := h.dp
    have := k.dp
    omega
theorem MdL.one {L c c' : Nat} {a : Nd} {n e : Nat} (h : Md L c c' a n e) : MdL L c c' [a] n e := by
  refine ⟨by simp only [okL]; exact ⟨h.ok, True.intro⟩, lvL_cons h.lv lvL_nil, ?_, ?_, ?_⟩
  · rw [csL_one]
    exact h.own
  · simp only [preL, List.length_append, List.length_nil]
    have := h.sz
    omega
  · simp only [dpL]
    have := h.dp
    omega
section
variable {P : Program} {w : World} {K : PySem.W.Frag} {mg : Str → Option Value} {base : Heap}
def spNext : Sp := fun vs H Q _ => ∃ (td : Addr) (m : Int) (c : Nat), vs = [.ref td, .int m] ∧ ST td c H ∧ 0 < m ∧ ∀ (r : Int) (H' : Hp), 0 ≤ r → r < m → Keep td H H' → ST td c H' → Q (.int r) H'
theorem ok_next {f : Addr} {fd : FuncData} (F : Dfn K mg "_law_next" st__law_next f fd ["draws", "limit"]) (M : Mg mg) : Cal P w K mg base 1 "_law_next" spNext := by
  refine cal_mk F sc_law_next (fun vs H Q E h => ?_) (fun cdv A outer s H vs Q E hr h => ?_)
  · obtain ⟨td, m, c, rfl, _⟩ := h
    rfl
  obtain ⟨td, m, c, rfl, ⟨xs, htd⟩, hm, q⟩ := h
  refine ⟨_, (pss_cons (ps_if (pt_cmpR op_eq (pe_callB (cLen K rfl) (by rfl) M.len b_len (pa_cons (pv 0) pa_nil)) pe_int (nomark _)) (pss_one (ps_ret pe_int)) pss_nil)
      (pss_one (ps_ret (pe_op op_mod (pe_callTy call_int1 (by rfl) M.int b_int (pa_cons (pe_bm0 PySem.F.plainAttrs_list PySem.F.slot_list_pop PySem.F.type_list_pop mt_pop (pv 0)) pa_nil)) (pv 1))))), ?_⟩
  refine ⟨_, rfl, td, _, rfl, .inl (SqL.of htd), rfl, _, rfl, ?_⟩
  rw [intE, List.length_map, List.length_cons]
  by_cases e : xs.length = 0
  · rw [decide_eq_true (show ((xs.length + 1 : Nat) : Int) = 1 by omega)]
    exact iteT (q 0 H (Int.le_refl 0) hm (Keep.refl _ _) ⟨xs, htd⟩)
  · rw [decide_eq_false (show ¬ ((xs.length + 1 : Nat) : Int) = 1 by omega)]
    refine iteF ?_
    dsimp only [tNext]
    obtain ⟨ys, y, rfl⟩ : ∃ ys y, xs = ys ++ [y] := by
      refine ⟨xs.dropLast, xs.getLast (fun z => e (by rw [z]; rfl)), ?_⟩
      exact (List.dropLast_concat_getLast _).symm
    have e1 : ((((c : Nat) : Int) :: (ys ++ [y])).map V.int) = (((c : Nat) : Int) :: ys).map V.int ++ [.int y] := by simp
    rw [e1] at htd
    refine ⟨_, rfl, .inl ⟨rfl, _, SqL.of htd⟩, td, _, .int y, rfl, rfl, htd, by simp, .inl ⟨y, rfl, _, rfl, _, _, rfl, rfl, hm, ?_⟩⟩
    rw [List.dropLast_concat]
    exact q _ _ (Int.emod_nonneg _ (by omega)) (Int.emod_lt_of_pos _ hm) Keep.at ⟨ys, upd_same⟩
def spNew : Sp := fun vs H Q _ => ∃ (td : Addr) (c : Nat), vs = [.ref td] ∧ ST td c H ∧ ∀ (H' : Hp), Keep td H H' → ST td (c + 1) H' → Q (.int ((c + 1 : Nat) : Int)) H'
theorem ok_new {f : Addr} {fd : FuncData} (F : Dfn K mg "_law_new" st__law_new f fd ["draws"]) (M : Mg mg) : Cal P w K mg base 1 "_law_new" spNew := by
  refine cal_mk F sc_law_new (fun vs H Q E h => ?_) (fun cdv A outer s H vs Q E hr h => ?_)
  · obtain ⟨td, c, rfl, _⟩ := h
    rfl
  obtain ⟨td, c, rfl, ⟨xs, htd⟩, q⟩ := h
  refine ⟨_, (pss_cons (ps_asg (pe_op op_add (pe_ix (ixL K rfl) (pv 0) pe_int (fun _ _ => rfl)) pe_int) (pg_sub (pv 0) pe_int set_list))
      (pss_one (ps_ret (pe_ix (ixL K rfl) (pv 0) pe_int (fun _ _ => rfl))))), ?_⟩
  refine ⟨_, rfl, tc (ixl htd (atI_nat (j := 0) rfl) ?_)⟩
  refine ⟨_, _, rfl, rfl, _, rfl, td, _, 0, 0, rfl, rfl, htd, by rw [List.length_map, List.length_cons]; unfold ixN; rw [if_pos (by omega), if_pos (by omega)]; rfl, ?_⟩
  have e : (((((c : Nat) : Int) :: xs).map V.int).set 0 (V.int ((c : Nat) + 1))) = ((((c + 1 : Nat) : Int) :: xs).map V.int) := rfl
  have h1 : L2.upd H td (.lst (((((c : Nat) : Int) :: xs).map V.int).set 0 (V.int ((c : Nat) + 1)))) td = some (.lst ((((c + 1 : Nat) : Int) :: xs).map V.int)) := upd_same
  exact ⟨_, rfl, tc (ixl h1 (atI_nat (j := 0) rfl) (q _ Keep.at ⟨xs, upd_same⟩))⟩
theorem pickN {H : Hp} {td p : Addr} {xs : List V} {c : Nat} {m : Int} {Q : VK} (hst : ST td c H) (np : H p = none) (hm : (xs.length : Int) = m) (h0 : 0 < m)
    (q : ∀ v ∈ xs, ∀ H', Keep td H H' → ST td c H' → Q v H') : spNext [.ref td, .int m] (upd H p (.tup xs)) (fun v H2 => rIxT K (.ref p) v H2 Q) E0 := by
  refine ⟨td, m, c, rfl, hst.put (hst.ne np), h0, fun r H5 hr0 hr1 k5 h5 => ?_⟩
  obtain ⟨v, hv, hm⟩ := atI_mem (xs := xs) hr0 (by omega)
  exact ixt (k5 p _ upd_same (hst.ne np)) hv (q v hm H5 (fun b o e n => k5 b o (by rw [upd_ne (ne_of_none e np)]; exact e) n) h5)
def spTerm (n : Nat) : Sp := fun vs H Q _ => ∃ (td : Addr) (L d c : Nat), vs = [.ref td, .int (L : Nat), .int (d : Nat)] ∧ d < n ∧ d ≤ 4 ∧ ST td c H ∧ ∀ (v : V) (t : Nd) (c' : Nat) (H' : Hp), Dt H' v (tmD t) → Md L c c' t (tz d) (2 * d + 1) → Keep td H H' → ST td c' H' → Q v H'
def spHead (n : Nat) : Sp := fun vs H Q _ => ∃ (td : Addr) (L d c : Nat), vs = [.ref td, .int (L : Nat), .int ((d + 1 : Nat) : Int)] ∧ d < n ∧ d ≤ 4 ∧ ST td c H ∧ ∀ (v : V) (t : Nd) (c' : Nat) (H' : Hp), Dt H' v (tmD t) → Md L c c' t (1 + tz d) (2 * d + 2) → Keep td H H' → ST td c' H' → Q v H'
theorem sp_dt {H : Hp} {p : Addr} {n : Nat} (h : H p = some (.tup [.str "m", .int (n : Nat)])) : Dt H (.ref p) (spD n) := .tup h (.cons (.str _) (.cons (.int _) .nil))
theorem dt_top {H : Hp} {p o : Addr} {m : Str} {L k sp : Nat} (h : H p = some (.tup [.str "top", .str m, .int (L : Nat), .int (k : Nat), .ref o])) (ho : Dt H (.ref o) (spD sp)) : Dt H (.ref p) (tmD (.mk (.top m L k sp) [])) := by
  simp only [tmD]
  exact .tup h (.cons (.str _) (.cons (.str _) (.cons (.int _) (.cons (.int _) (.cons ho .nil)))))
theorem dt_prim {H : Hp} {p : Addr} {x : Str} (h : H p = some (.tup [.str "prim", .str x])) : Dt H (.ref p) (tmD (.mk (.prim x) [])) := by
  simp only [tmD]
  exact .tup h (.cons (.str _) (.cons (.str _) .nil))
theorem ok_head {f : Addr} {fd : FuncData} {n k : Nat} (hk : 1 ≤ k) (F : Dfn K mg "_law_head" st__law_head f fd ["draws", "level", "depth"]) (M : Mg mg) (G_law_next : Cal P w K mg base 1 "_law_next" spNext) (G_law_new : Cal P w K mg base 1 "_law_new" spNew) (G_law_term : Cal P w K mg base k "_law_term" (spTerm n)) : Cal P w K mg base (k + 1) "_law_head" (spHead n) := by
  refine cal_mk F sc_law_head (fun vs H Q E h => ?_) (fun cdv A outer s H vs Q E hr h => ?_)
  · obtain ⟨td, L, d, c, rfl, _⟩ := h
    rfl
  obtain ⟨td, L, d, c, rfl, hdn, hd4, hst, q⟩ := h
  have tz1 := tz_pos d
  have ed : ([V.ref td, V.int (L : Nat), V.int (((d + 1 : Nat) : Int) - 1)] : List V) = [.ref td, .int (L : Nat), .int (d : Nat)] := by rw [show (((d + 1 : Nat) : Int) - 1) = ((d : Nat) : Int) by omega]
  refine ⟨_, (pss_cons (ps_set (i := 3) sc_law_head.nd rfl (.inl rfl) (pe_c G_law_next hr (by omega) (by rfl) (pa_cons (pv 0) (pa_cons pe_int pa_nil))))
      (pss_cons (ps_set (i := 4) sc_law_head.nd rfl (.inl rfl) (pe_tup (pa_cons pe_str (pa_cons (pe_c G_law_new hr (by omega) (by rfl) (pa_cons (pv 0) pa_nil)) pa_nil))))
      (pss_cons (ps_if (pt_cmpR op_lt (pv 3) pe_int (nomark _)) (pss_one (ps_ret (pe_tup (pa_cons pe_str (pa_cons (pe_ix (ixT K rfl) (pe_tup (pa_cons pe_str (pa_cons pe_str (pa_cons pe_str (pa_cons pe_str (pa_cons pe_str (pa_cons pe_str (pa_cons pe_str (pa_cons pe_str (pa_cons pe_str pa_nil)))))))))) (pe_c G_law_next hr (by omega) (by rfl) (pa_cons (pv 0) (pa_cons pe_int pa_nil))) (fun _ _ => rfl)) pa_nil))))) pss_nil)
      (pss_cons (ps_if (pt_cmpR op_lt (pv 3) pe_int (nomark _)) (pss_one (ps_ret (pe_tup (pa_cons pe_str (pa_cons (pe_ix (ixT K rfl) (pe_tup (pa_cons pe_str (pa_cons pe_str (pa_cons pe_str (pa_cons pe_str pa_nil))))) (pe_c G_law_next hr (by omega) (by rfl) (pa_cons (pv 0) (pa_cons pe_int pa_nil))) (fun _ _ => rfl)) (pa_cons (pv 1) (pa_cons (pe_c G_law_next hr (by omega) (by rfl) (pa_cons (pv 0) (pa_cons pe_int pa_nil))) (pa_cons (pv 4) pa_nil)))))))) pss_nil)
      (pss_cons (ps_if (pt_cmpR op_lt (pv 3) pe_int (nomark _)) (pss_one (ps_ret (pe_tup (pa_cons pe_str (pa_cons (pe_callTy (cTup K rfl) (by rfl) M.tuple b_tuple (pa_cons (pe_lc (own := [("k", 5)]) (g := gName 5) (by rfl) sc_law_head.nd (pi_range1 (by rfl) M.range (pa_cons (pe_c G_law_next hr (by omega) (by rfl) (pa_cons (pv 0) (pa_cons pe_int pa_nil))) pa_nil)) (blkOk_by (own := [("k", 5)]) (N := ["draws", "level", "depth", "kind", "spot", "k"]) (sc := defScope st__law_head) (by decide +kernel)) (fun _ _ _ _ _ => (pg_name (i := 5) sc_law_head.nd rfl (.inl rfl))) (fun _ _ _ _ _ => pts_nil) (fun _ _ _ _ _ => (pe_c G_law_new hr (by omega) (by rfl) (pa_cons (pv 0) pa_nil)))) pa_nil)) (pa_cons (pe_c G_law_term hr (by omega) (by rfl) (pa_cons (pv 0) (pa_cons (pv 1) (pa_cons (pe_op op_sub (pv 2) pe_int) pa_nil)))) pa_nil)))))) pss_nil)
      (pss_one (ps_ret (pe_c G_law_term hr (by omega) (by rfl) (pa_cons (pv 0) (pa_cons (pv 1) (pa_cons (pe_op op_sub (pv 2) pe_int) pa_nil))))))))))), ?_⟩
  refine ⟨_, rfl, td, _, c, rfl, hst, by decide, fun r H1 hr0 hr8 k1 h1 => ?_⟩
  dsimp only [gName]
  refine ⟨_, rfl, td, c, rfl, h1, fun H2 k2 h2 => ⟨by show 2 ≤ sizeLine; decide, fun sp nsp => ?_⟩⟩
  dsimp only [gName]
  have s3 := same_upd (o := .tup [.str "m", .int ((c + 1 : Nat) : Int)]) nsp
  have hsp3 := upd_same (H := H2) (a := sp) (o := .tup [.str "m", .int ((c + 1 : Nat) : Int)])
  have h3 := h2.same s3
  have k3 := (k1.trans k2).trans (.same s3)
  generalize L2.upd H2 sp (.tup [.str "m", .int ((c + 1 : Nat) : Int)]) = H3 at s3 hsp3 h3 k3 ⊢
  refine ⟨_, rfl, _, _, rfl, rfl, _, rfl, ?_⟩
  by_cases c2 : r < 2
  · rw [decide_eq_true c2]
    refine iteT ⟨by show 9 ≤ sizeLine; decide, fun p np => ⟨_, rfl, pickN h3 np rfl (by decide) fun v hv H4 k4 h4 => ⟨by show 2 ≤ sizeLine; decide, fun p2 np2 => ?_⟩⟩⟩
    have hvo : ∃ x, v = .str x ∧ x ∈ primN := by
      simp only [List.mem_cons, List.not_mem_nil, or_false] at hv
      unfold primN
      rcases hv with rfl | rfl | rfl | rfl | rfl | rfl | rfl | rfl | rfl <;> exact ⟨_, rfl, by simp⟩
    obtain ⟨x, rfl, hx⟩ := hvo
    have s5 := same_upd (o := .tup [.str "prim", .str x]) np2
    exact q _ (.mk (.prim x) []) (c + 1) _ (dt_prim upd_same) (Md.leaf ⟨rfl, hx⟩ rfl True.intro (by omega) (by omega)) ((k3.trans k4).trans (.same s5)) (h4.same s5)
  rw [decide_eq_false c2]
  refine iteF ?_
  dsimp only [tNext]
  refine ⟨_, rfl, _, _, rfl, rfl, _, rfl, ?_⟩
  by_cases c5 : r < 5
  · rw [decide_eq_true c5]
    refine iteT ⟨by show 4 ≤ sizeLine; decide, fun p np => ⟨_, rfl, pickN h3 np rfl (by decide) fun v hv H4 k4 h4 => ?_⟩⟩
    have hvo : ∃ x : Str, v = .str x ∧ (x = "m" ∨ x = "other") := by
      simp only [List.mem_cons, List.not_mem_nil, or_false] at hv
      rcases hv with rfl | rfl | rfl | rfl
      · exact ⟨_, rfl, .inl rfl⟩
      · exact ⟨_, rfl, .inl rfl⟩
      · exact ⟨_, rfl, .inl rfl⟩
      · exact ⟨_, rfl, .inr rfl⟩
    obtain ⟨x, rfl, hx⟩ := hvo
    refine ⟨_, rfl, _, rfl, td, _, c + 1, rfl, h4, by decide, fun i H5 hi0 hi4 k5 h5 => ⟨_, rfl, by show 5 ≤ sizeLine; decide, fun p2 np2 => ?_⟩⟩
    obtain ⟨i', rfl⟩ : ∃ i' : Nat, i = (i' : Int) := ⟨i.toNat, by omega⟩
    have s6 := same_upd (o := .tup [.str "top", .str x, .int (L : Nat), .int (i' : Nat), .ref sp]) np2
    have hsp5 := (k4.trans k5) sp _ hsp3 (h2.ne nsp)
    exact q _ (.mk (.top x L i' (c + 1)) []) (c + 1) _ (dt_top upd_same (sp_dt (s6 _ _ hsp5))) (Md.leaf ⟨rfl, hx⟩ rfl rfl (by omega) (by omega)) (((k3.trans k4).trans k5).trans (.same s6)) (h5.same s6)
  rw [decide_eq_false c5]
  refine iteF ?_
  dsimp only [tNext]
  refine ⟨_, rfl, _, _, rfl, rfl, _, rfl, ?_⟩
  by_cases c7 : r < 7
  · rw [decide_eq_true c7]
    refine iteT ⟨_, rfl, td, _, c + 1, rfl, h3, by decide, fun m H4 hm0 hm4 k4 h4 => ⟨m, rfl, by omega, by omega, fun D nD => ?_⟩⟩
    have hDtd := h4.ne nD
    have k34 := k3.trans k4
    have nDH := k34.nn nD hDtd
    refine lc_range (lo := 0) (n := m.toNat) (fun i H' => Keep td H H' ∧ ∃ (c2 : Nat) (ns : List Nat), ST td c2 H' ∧ c + 1 ≤ c2 ∧ ns.length = i ∧ H' D = some (.lst (natV ns))) ⟨k34.trans (Keep.new nD), c + 1, [], h4.put hDtd, Nat.le_refl _, rfl, upd_same⟩ ?_ ?_
    · rintro i H5 hi ⟨k5, c2, ns, h5, hc2, hnl, hD5⟩
      refine ⟨rfl, ?_⟩
      unfold tYes
      refine iteT ⟨_, rfl, td, c2, rfl, h5, fun H6 k6 h6 => ⟨_, k6 D _ hD5 hDtd, by rw [natV_len]; show _ < 2 ^ 24; omega, fun b o e n => ?_, c2 + 1, ns ++ [c2 + 1], h6.put hDtd, by omega, by rw [List.length_append, hnl]; rfl, ?_⟩⟩
      · rw [upd_ne (ne_of_none e nDH)]
        exact (k5.trans k6) b o e n
      · rw [upd_same, natV_app]
        rfl
    · rintro H5 ⟨k5, c2, ns, h5, hc2, hnl, hD5⟩
      refine ⟨D, _, rfl, .inl ⟨SqL.of hD5, fun a na => ?_⟩⟩
      have s6 := same_upd (o := .tup (natV ns)) na
      have ha6 := upd_same (H := H5) (a := a) (o := .tup (natV ns))
      have h6 := h5.same s6
      have k6 := k5.trans (.same s6)
      generalize L2.upd H5 a (.tup (natV ns)) = H6 at s6 ha6 h6 k6 ⊢
      refine ⟨_, rfl, _, rfl, _, rfl, _, _, rfl, rfl, td, L, d, c2, ed, hdn, hd4, h6, fun v t c' H7 dv md k7 h7 => ⟨by show 3 ≤ sizeLine; decide, fun p np => ?_⟩⟩
      have s8 := same_upd (o := .tup [.str "fn", .ref a, v]) np
      have ha7 := k7 a _ ha6 (h5.ne na)
      refine q _ (.mk (.fn ns) [t]) c' _ ?_ ?_ ((k6.trans k7).trans (.same s8)) (h7.same s8)
      · simp only [tmD, tmL]
        exact .tup upd_same (.cons (.str _) (.cons (.tup (s8 _ _ ha7) (nat_dt _ ns)) (.cons (dv.tk (same_tk s8)) .nil)))
      · exact Md.node (MdL.one (md.wide (e' := 2 * d + 1) (show c ≤ c2 by omega) (Nat.le_refl _) (Nat.le_refl _) (Nat.le_refl _))) ⟨rfl, by omega⟩ (by simp) rfl True.intro (Nat.le_refl _)
  rw [decide_eq_false c7]
  refine iteF ?_
  dsimp only [tNext]
  refine ⟨_, rfl, _, rfl, _, rfl, _, _, rfl, rfl, td, L, d, c + 1, ed, hdn, hd4, h3, fun v t c' H7 dv md k7 h7 => ?_⟩
  exact q v t c' H7 dv (md.wide (by omega) (Nat.le_refl _) (by omega)) (k3.trans k7) h7
end
end W7
set_option Elab.async false
set_option linter.all false
set_option maxRecDepth 100000
set_option maxHeartbeats 4000000
namespace W7
open PySem PySem.Spec PyProof.Rows L2 Com Kb StX
theorem tmL_app (a b : List Nd) : tmL (a ++ b) = tmL a ++ tmL b := by rw [tmL_map, tmL_map, tmL_map, List.map_append]
theorem tmL_len (a : List Nd) : (tmL a).length = a.length := by rw [tmL_map, List.length_map]
theorem rec_dat {ns : List Nat} {ts : List Nd} {b : Nd} (h : ns.length = ts.length) : dat (.lrec ns) (tmL (ts ++ [b])) = .tuple [.str "rec", .tuple ((ns.zip (tmL ts)).map pairD), tmD b] := by
  have e1 : ns.zip (tmL (ts ++ [b])) = ns.zip (tmL ts) := by
    rw [tmL_app]
    have : ns.zip (tmL ts ++ tmL [b]) = (ns ++ []).zip (tmL ts ++ tmL [b]) := by rw [List.append_nil]
    rw [this, List.zip_append (by rw [tmL_len]; exact h)]
    simp
  have e2 : ((tmL (ts ++ [b])).drop ns.length).headD .none = tmD b := by
    rw [tmL_app, h, ← tmL_len ts, List.drop_left]
    simp [tmL]
  show PyData.tuple [.str "rec", .tuple ((ns.zip (tmL (ts ++ [b]))).map pairD), ((tmL (ts ++ [b])).drop ns.length).headD .none] = _
  rw [e1, e2]
section
variable {P : Program} {w : World} {K : PySem.W.Frag} {mg : Str → Option Value} {base : Heap}
theorem ok_term {f : Addr} {fd : FuncData} {n k k2 : Nat} (hk : 1 ≤ k2) (hk2 : k ≤ k2) (F : Dfn K mg "_law_term" st__law_term f fd ["draws", "level", "depth"]) (M : Mg mg) (G_law_next : Cal P w K mg base 1 "_law_next" spNext) (G_law_new : Cal P w K mg base 1 "_law_new" spNew) (G_law_term : Cal P w K mg base k "_law_term" (spTerm n)) (G_law_head : Cal P w K mg base k2 "_law_head" (spHead n)) : Cal P w K mg base (k2 + 1) "_law_term" (spTerm (n + 1)) := by
  refine cal_mk F sc_law_term (fun vs H Q E h => ?_) (fun cdv A outer s H vs Q E hr h => ?_)
  · obtain ⟨td, L, d, c, rfl, _⟩ := h
    rfl
  obtain ⟨td, L, d, c, rfl, hdn, hd4, hst, q⟩ := h
  have hsl : sizeLine = 16777216 := sizeLine_eq
  refine ⟨_, (pss_cons (ps_set (i := 3) sc_law_term.nd rfl (.inl rfl) (pe_c G_law_next hr (by omega) (by rfl) (pa_cons (pv 0) (pa_cons pe_int pa_nil))))
      (pss_cons (ps_set (i := 4) sc_law_term.nd rfl (.inl rfl) (pe_tup (pa_cons pe_str (pa_cons (pe_c G_law_new hr (by omega) (by rfl) (pa_cons (pv 0) pa_nil)) pa_nil))))
      (pss_cons (ps_if (PW.pt (pw_or (pt_cmpR op_le (pv 2) pe_int (nomark _)) (pw_or1 (pt_cmpR op_lt (pv 3) pe_int (nomark _))))) (pss_one (ps_ret (pe_ix (ixT K rfl) (pe_tup (pa_cons (pe_tup (pa_cons pe_str (pa_cons (pe_tup (pa_cons pe_str (pa_cons pe_int pa_nil))) pa_nil))) (pa_cons (pe_tup (pa_cons pe_str (pa_cons pe_str (pa_cons (pv 1) (pa_cons (pe_c G_law_next hr (by omega) (by rfl) (pa_cons (pv 0) (pa_cons pe_int pa_nil))) (pa_cons (pv 4) pa_nil)))))) (pa_cons (pe_tup (pa_cons pe_str (pa_cons pe_str pa_nil))) pa_nil)))) (pe_c G_law_next hr (by omega) (by rfl) (pa_cons (pv 0) (pa_cons pe_int pa_nil))) (fun _ _ => rfl)))) pss_nil)
      (pss_cons (ps_setLc (i := 5) (own := [("k", 6)]) (g := gName 6) (by rfl) sc_law_term.nd rfl rfl (sw_true rfl rfl rfl (by decide +kernel)) (pi_range1 (by rfl) M.range (pa_cons (pe_c G_law_next hr (by omega) (by rfl) (pa_cons (pv 0) (pa_cons pe_int pa_nil))) pa_nil)) (blkOk_by (own := [("k", 6)]) (N := ["draws", "level", "depth", "kind", "spot", "inner", "k", "part"]) (sc := defScope st__law_term) (by decide +kernel)) (fun _ _ _ _ _ => (pg_name (i := 6) sc_law_term.nd rfl (.inl rfl))) (fun _ _ _ _ _ => pts_nil) (fun _ _ _ _ _ => (pe_c G_law_term hr (by omega) (by rfl) (pa_cons (pv 0) (pa_cons (pv 1) (pa_cons (pe_op op_sub (pv 2) pe_int) pa_nil))))))
      (pss_cons (ps_if (pt_cmpR op_lt (pv 3) pe_int (nomark _)) (pss_one (ps_ret (pe_tup (pa_cons pe_str (pa_cons (pe_c G_law_head hr (by omega) (by rfl) (pa_cons (pv 0) (pa_cons (pv 1) (pa_cons (pv 2) pa_nil)))) (pa_cons (pe_callTy (cTup K rfl) (by rfl) M.tuple b_tuple (pa_cons (pv 5) pa_nil)) (pa_cons (pv 4) pa_nil))))))) pss_nil)
      (pss_cons (ps_if (pt_cmpR op_eq (pv 3) pe_int (nomark _)) (pss_one (ps_ret (pe_tup (pa_cons pe_str (pa_cons (pe_callTy (cTup K rfl) (by rfl) M.tuple b_tuple (pa_cons (pe_op op_cat (pv 5) (pe_lst (pa_cons (pe_tup (pa_cons pe_str (pa_cons (pe_tup (pa_cons pe_str (pa_cons pe_bl pa_nil))) pa_nil))) pa_nil))) pa_nil)) pa_nil))))) pss_nil)
      (pss_cons (ps_if (pt_cmpR op_eq (pv 3) pe_int (nomark _)) (pss_one (ps_ret (pe_tup (pa_cons pe_str (pa_cons (pe_c G_law_term hr (by omega) (by rfl) (pa_cons (pv 0) (pa_cons (pv 1) (pa_cons (pe_op op_sub (pv 2) pe_int) pa_nil)))) (pa_cons (pe_tup (pa_cons pe_str (pa_cons pe_str pa_nil))) (pa_cons (pe_c G_law_term hr (by omega) (by rfl) (pa_cons (pv 0) (pa_cons (pv 1) (pa_cons (pe_op op_sub (pv 2) pe_int) pa_nil)))) pa_nil))))))) pss_nil)
      (pss_cons (ps_if (pt_cmpR op_eq (pv 3) pe_int (nomark _)) (pss_one (ps_ret (pe_tup (pa_cons pe_str (pa_cons (pe_tup (pa_cons (pe_c G_law_new hr (by omega) (by rfl) (pa_cons (pv 0) pa_nil)) pa_nil)) (pa_cons (pe_c G_law_term hr (by omega) (by rfl) (pa_cons (pv 0) (pa_cons (pv 1) (pa_cons (pe_op op_sub (pv 2) pe_int) pa_nil)))) pa_nil)))))) pss_nil)
      (pss_cons (ps_if (PW.pt (pw_and (pt_cmpR op_eq (pv 3) pe_int (nomark _)) (pw_and1 (pt_cmpR op_eq (pe_c G_law_next hr (by omega) (by rfl) (pa_cons (pv 0) (pa_cons pe_int pa_nil))) pe_int (nomark _))))) (pss_one (ps_ret (pe_tup (pa_cons pe_str (pa_cons (pe_tup (pa_cons pe_str (pa_cons (pe_ix (ixT K rfl) (pe_tup (pa_cons pe_str (pa_cons pe_str pa_nil))) (pe_c G_law_next hr (by omega) (by rfl) (pa_cons (pv 0) (pa_cons pe_int pa_nil))) (fun _ _ => rfl)) (pa_cons (pv 1) (pa_cons (pe_c G_law_next hr (by omega) (by rfl) (pa_cons (pv 0) (pa_cons pe_int pa_nil))) (pa_cons (pv 4) pa_nil)))))) (pa_cons (pe_c G_law_term hr (by omega) (by rfl) (pa_cons (pv 0) (pa_cons (pv 1) (pa_cons (pe_op op_sub (pv 2) pe_int) pa_nil)))) pa_nil)))))) pss_nil)
      (pss_one (ps_ret (pe_tup (pa_cons pe_str (pa_cons (pe_callTy (cTup K rfl) (by rfl) M.tuple b_tuple (pa_cons (pe_lc (own := [("part", 7)]) (g := gName 7) (by rfl) sc_law_term.nd (pi_list (pv 5)) (blkOk_by (own := [("part", 7)]) (N := ["draws", "level", "depth", "kind", "spot", "inner", "k", "part"]) (sc := defScope st__law_term) (by decide +kernel)) (fun _ _ _ _ _ => (pg_name (i := 7) sc_law_term.nd rfl (.inl rfl))) (fun _ _ _ _ _ => pts_nil) (fun _ _ _ _ _ => (pe_tup (pa_cons (pe_c G_law_new hr (by omega) (by rfl) (pa_cons (pv 0) pa_nil)) (pa_cons (pv 7) pa_nil))))) pa_nil)) (pa_cons (pe_c G_law_term hr (by omega) (by rfl) (pa_cons (pv 0) (pa_cons (pv 1) (pa_cons (pe_op op_sub (pv 2) pe_int) pa_nil)))) pa_nil))))))))))))))), ?_⟩
  refine ⟨_, rfl, td, _, c, rfl, hst, by decide, fun kind H1 hr0 hr12 k1 h1 => ?_⟩
  dsimp only [gName]
  refine ⟨_, rfl, td, c, rfl, h1, fun H2 k2' h2 => ⟨by show 2 ≤ sizeLine; decide, fun sp nsp => ?_⟩⟩
  dsimp only [gName]
  have s3 := same_upd (o := .tup [.str "m", .int ((c + 1 : Nat) : Int)]) nsp
  have hsp3 := upd_same (H := H2) (a := sp) (o := .tup [.str "m", .int ((c + 1 : Nat) : Int)])
  have h3 := h2.same s3
  have k3 := (k1.trans k2').trans (.same s3)
  have hsptd := h2.ne nsp
  generalize L2.upd H2 sp (.tup [.str "m", .int ((c + 1 : Nat) : Int)]) = H3 at s3 hsp3 h3 k3 ⊢
  have leaf : tRet (tOp (rIxT K) (tTup (tCons (tTup (tCons (tC (.str "const")) (tCons (tTup (tCons (tC (.str "number")) (tCons (tC (.int 1)) tNil))) tNil))) (tCons (tTup (tCons (tC (.str "top")) (tCons (tC (.str "m")) (tCons (tVar 1) (tCons (tCall spNext [] E0 (tCons (tVar 0) (tCons (tC (.int 4)) tNil))) (tCons (tVar 4) tNil)))))) (tCons (tTup (tCons (tC (.str "prim")) (tCons (tC (.str "+")) tNil))) tNil)))) (tCall spNext [] E0 (tCons (tVar 0) (tCons (tC (.int 3)) tNil)))) { nx := fun _ H' => Q .non H', rt := Q } [some (.ref td), some (.int (L : Nat)), some (.int (d : Nat)), some (.int kind), some (.ref sp), none, none, none] H3 := by
    refine ⟨by show 2 ≤ sizeLine; decide, fun a1 na1 => ⟨by show 2 ≤ sizeLine; decide, fun a2 na2 => ?_⟩⟩
    have s4 := same_upd (o := .tup [.str "number", .int 1]) na1
    have s5 := same_upd (o := .tup [.str "const", .ref a1]) na2
    have s45 := same_trans s4 s5
    have ha1 := s5 _ _ (upd_same (H := H3) (a := a1) (o := .tup [.str "number", .int 1]))
    have ha2 := upd_same (H := L2.upd H3 a1 (.tup [.str "number", .int 1])) (a := a2) (o := .tup [.str "const", .ref a1])
    have h5 := h3.same s45
    have k5 := k3.trans (.same s45)
    have hsp5 := s45 _ _ hsp3
    have na1td := h3.ne na1
    have na2td := (h3.same s4).ne na2
    generalize L2.upd (L2.upd H3 a1 (.tup [.str "number", .int 1])) a2 (.tup [.str "const", .ref a1]) = H5 at ha1 ha2 h5 k5 hsp5 ⊢
    refine ⟨_, rfl, _, rfl, td, _, c + 1, rfl, h5, by decide, fun i H6 hi0 hi4 k6 h6 => ⟨_, rfl, by show 5 ≤ sizeLine; decide, fun a3 na3 => ⟨by show 2 ≤ sizeLine; decide, fun a4 na4 => ⟨by show 3 ≤ sizeLine; decide, fun p np => ?_⟩⟩⟩⟩
    obtain ⟨i', rfl⟩ : ∃ i' : Nat, i = (i' : Int) := ⟨i.toNat, by omega⟩
    have s7 := same_upd (o := .tup [.str "top", .str "m", .int (L : Nat), .int (i' : Nat), .ref sp]) na3
    have s8 := same_upd (o := .tup [.str "prim", .str "+"]) na4
    have s78 := same_trans s7 s8
    have d1 : Dt (L2.upd (L2.upd H6 a3 (.tup [.str "top", .str "m", .int (L : Nat), .int (i' : Nat), .ref sp])) a4 (.tup [.str "prim", .str "+"])) (.ref a2) (tmD (.mk (.con (.tuple [.str "number", .int 1])) [])) := by
      simp only [tmD]
      exact .tup (s78 _ _ (k6 a2 _ ha2 na2td)) (.cons (.str _) (.cons (.tup (s78 _ _ (k6 a1 _ ha1 na1td)) (.cons (.str _) (.cons (.int _) .nil))) .nil))
    have d2 := (dt_top (o := sp) (sp := c + 1) (upd_same (H := H6) (a := a3) (o := .tup [.str "top", .str "m", .int (L : Nat), .int (i' : Nat), .ref sp])) (sp_dt (s7 _ _ (k6 sp _ hsp5 hsptd)))).tk (same_tk s8)
    have d3 := dt_prim (upd_same (H := L2.upd H6 a3 (.tup [.str "top", .str "m", .int (L : Nat), .int (i' : Nat), .ref sp])) (a := a4) (o := .tup [.str "prim", .str "+"]))
    have h8 := h6.same s78
    have k8 := (k5.trans k6).trans (.same s78)
    generalize L2.upd (L2.upd H6 a3 (.tup [.str "top", .str "m", .int (L : Nat), .int (i' : Nat), .ref sp])) a4 (.tup [.str "prim", .str "+"]) = H8 at np d1 d2 d3 h8 k8 ⊢
    have tzd := tz_pos d
    refine ⟨_, rfl, pickN h8 np rfl (by decide) fun v hv H9 k9 h9 => ?_⟩
    have tk9 := h8.tk k9
    simp only [List.mem_cons, List.not_mem_nil, or_false] at hv
    rcases hv with rfl | rfl | rfl
    · exact q _ _ (c + 1) H9 (d1.tk tk9) (Md.leaf rfl rfl True.intro (by omega) (by omega)) (k8.trans k9) h9
    · exact q _ _ (c + 1) H9 (d2.tk tk9) (Md.leaf ⟨rfl, .inl rfl⟩ rfl rfl (by omega) (by omega)) (k8.trans k9) h9
    · exact q _ _ (c + 1) H9 (d3.tk tk9) (Md.leaf ⟨rfl, by unfold primN; simp⟩ rfl True.intro (by omega) (by omega)) (k8.trans k9) h9
  refine ⟨_, rfl, _, _, rfl, rfl, _, rfl, ?_⟩
  by_cases c0 : ((d : Nat) : Int) ≤ 0
  · rw [decide_eq_true c0]
    exact iteT (iteT leaf)
  rw [decide_eq_false c0]
  refine iteF ⟨_, rfl, _, _, rfl, rfl, _, rfl, ?_⟩
  by_cases c2 : kind < 2
  · rw [decide_eq_true c2]
    exact iteT leaf
  rw [decide_eq_false c2]
  refine iteF ?_
  dsimp only [tNext]
  obtain ⟨d, rfl⟩ : ∃ e, d = e + 1 := ⟨d - 1, by omega⟩
  have etz : tz (d + 1) = 3 + 4 * tz d := rfl
  have tzd := tz_pos d
  have ed : ([V.ref td, V.int (L : Nat), V.int (((d + 1 : Nat) : Int) - 1)] : List V) = [.ref td, .int (L : Nat), .int (d : Nat)] := by rw [show (((d + 1 : Nat) : Int) - 1) = ((d : Nat) : Int) by omega]
  -- inner
  refine ⟨_, rfl, td, _, c + 1, rfl, h3, by decide, fun m H4 hm0 hm4 k4 h4 => ⟨m, rfl, by omega, by omega, fun D nD => ?_⟩⟩
  have hDtd := h4.ne nD
  have k34 := k3.trans k4
  have nDH := k34.nn nD hDtd
  have hsp4 := k4 sp _ hsp3 hsptd
  have hspD : sp ≠ D := fun z => by rw [z, nD] at hsp4; cases hsp4
  refine lc_range (lo := 0) (n := m.toNat) (fun i H' => Keep td H H' ∧ H' sp = some (.tup [.str "m", .int ((c + 1 : Nat) : Int)]) ∧ ∃ (c2 : Nat) (ts : List Nd) (ws : List V), ST td c2 H' ∧ MdL L (c + 1) c2 ts (i * tz d) (2 * d + 1) ∧ ts.length = i ∧ H' D = some (.lst ws) ∧ DtAll H' ws (tmL ts)) ⟨k34.trans (Keep.new nD), by rw [upd_ne hspD]; exact hsp4, c + 1, [], [], h4.put hDtd, .nil, rfl, upd_same, by simp only [tmL]; exact .nil⟩ ?_ ?_
  · rintro i H5 hi ⟨k5, hsp5, c2, ts, ws, h5, md5, htl, hD5, dws⟩
    refine ⟨rfl, ?_⟩
    unfold tYes
    refine iteT ⟨_, rfl, _, rfl, _, rfl, _, _, rfl, rfl, td, L, d, c2, ed, by omega, by omega, h5, fun v t c3 H6 dv md6 k6 h6 => ?_⟩
    have hD6 := k6 D _ hD5 hDtd
    have tk6 := h5.tk k6
    have tk7 : Tk H6 (L2.upd H6 D (.lst (ws ++ [v]))) := Tk.upd fun ys z => by rw [hD6] at z; cases z
    have hwl := dws.len
    rw [tmL_len] at hwl
    refine ⟨ws, hD6, by show _ < 2 ^ 24; omega, fun b o e n => ?_, ?_, c3, ts ++ [t], ws ++ [v], h6.put hDtd, ?_, by rw [List.length_append, htl]; rfl, upd_same, ?_⟩
    · rw [upd_ne (ne_of_none e nDH)]
      exact (k5.trans k6) b o e n
    · rw [upd_ne hspD]
      exact k6 sp _ hsp5 hsptd
    · rw [Nat.succ_mul]
      exact (md5.snoc md6).wide (Nat.le_refl _) (by omega)
    · rw [tmL_app]
      refine ((dws.tk tk6).tk tk7).app ?_
      simp only [tmL]
      exact .one (dv.tk tk7)
  rintro H5 ⟨k5, hsp5, c2', ts, ws, h5, md5, htl, hD5, dws⟩
  have hm3 : m.toNat * tz d ≤ 3 * tz d := Nat.mul_le_mul_right _ (by omega)
  have hwl := dws.len
  rw [tmL_len] at hwl
  have hc2 := md5.own.le
  dsimp only [gName]
  -- call
  refine ⟨_, rfl, _, _, rfl, rfl, _, rfl, ?_⟩
  by_cases c7 : kind < 7
  · rw [decide_eq_true c7]
    refine iteT ⟨_, rfl, _, rfl, _, rfl, td, L, d, c2', rfl, by omega, by omega, h5, fun v h c3 H6 dv md6 k6 h6 => ?_⟩
    have tk6 := h5.tk k6
    refine ⟨_, rfl, D, _, rfl, .inl ⟨SqL.of (k6 D _ hD5 hDtd), fun a na => ⟨_, rfl, by show 4 ≤ sizeLine; decide, fun p np => ?_⟩⟩⟩
    have s7 := same_upd (o := .tup ws) na
    have s8 := same_upd (o := .tup [.str "call", v, .ref a, .ref sp]) np
    have s78 := same_trans s7 s8
    refine q _ (.mk (.call (c + 1)) (h :: ts)) c3 _ ?_ ?_ ((k5.trans k6).trans (.same s78)) (h6.same s78)
    · simp only [tmD, tmL]
      exact .tup upd_same (.cons (.str _) (.cons (dv.tk (same_tk s78)) (.cons (.tup (s8 _ _ upd_same) ((dws.tk tk6).tk (same_tk s78))) (.cons (sp_dt (s78 _ _ (k6 sp _ hsp5 hsptd))) .nil))))
    · refine ⟨?_, lvT_mk True.intro (lvL_cons md6.lv md5.lv), ?_, ?_, ?_⟩
      · simp only [okT, okL]
        refine ⟨by simp [okLab], by rw [List.length_cons]; omega, md6.ok, md5.ok⟩
      · rw [cs_mk, csL_cons]
        exact (Own.one (by omega)).app (md5.own.flip md6.own)
      · rw [pre_len]
        simp only [preL, List.length_append]
        have := md5.sz
        have := md6.sz
        omega
      · simp only [dpT, W7.dpL]
        have := md5.dp
        have := md6.dp
        omega
  rw [decide_eq_false c7]
  refine iteF ?_
  dsimp only [tNext]
  -- do
  refine ⟨_, rfl, rfl, _, rfl, ?_⟩
  by_cases e7 : V.int kind = V.int 7
  · rw [decide_eq_true e7]
    refine iteT ⟨_, rfl, by show 2 ≤ sizeLine; decide, fun a1 na1 => ⟨by show 2 ≤ sizeLine; decide, fun a2 na2 => ⟨by show 1 ≤ sizeLine; decide, fun z nz => ?_⟩⟩⟩
    have s6 := same_upd (o := .tup [.str "flag", .bl true]) na1
    have s7 := same_upd (o := .tup [.str "const", .ref a1]) na2
    have s8 := same_upd (o := .lst [.ref a2]) nz
    have s678 := same_trans s6 (same_trans s7 s8)
    refine ⟨D, z, ws, [.ref a2], rfl, rfl, s678 _ _ hD5, upd_same, by show ws.length + 1 ≤ 2 ^ 24; omega, fun y ny => ?_⟩
    have s9 := same_upd (o := .lst (ws ++ [.ref a2])) ny
    refine ⟨y, _, rfl, .inl ⟨SqL.of upd_same, fun b nb => ⟨by show 2 ≤ sizeLine; decide, fun p np => ?_⟩⟩⟩
    have s10 := same_upd (o := .tup (ws ++ [.ref a2])) nb
    have s11 := same_upd (o := .tup [.str "do", .ref b]) np
    have sA := same_trans s9 (same_trans s10 s11)
    have sB := same_trans s678 sA
    refine q _ (.mk .seq (ts ++ [.mk (.con (.tuple [.str "flag", .bool true])) []])) c2' _ ?_ ?_ (k5.trans (.same sB)) (h5.same sB)
    · simp only [tmD, tmL_app, tmL]
      refine .tup upd_same (.cons (.str _) (.cons (.tup (s11 _ _ upd_same) ((dws.tk (same_tk sB)).app (.one (.tup (sA _ _ (s8 _ _ upd_same)) (.cons (.str _) (.cons (.tup (sA _ _ (s8 _ _ (s7 _ _ upd_same))) (.cons (.str _) (.cons (.bl _) .nil))) .nil)))))) .nil))
    · have ml := md5.snoc (Md.leaf (l := .con (.tuple [.str "flag", .bool true])) (L := L) (c := c2') (c' := c2') (n := 1) (e := 1) rfl rfl True.intro (Nat.le_refl _) (Nat.le_refl _))
      exact (Md.node (l := .seq) (e' := 2 * d + 2) ml True.intro (by rw [List.length_append, List.length_singleton]; omega) rfl True.intro (by omega)).wide (show c ≤ c + 1 by omega) (Nat.le_refl _) (Nat.le_refl _)
  rw [decide_eq_false e7]
  refine iteF ?_
  dsimp only [tNext]
  -- if
  refine ⟨_, rfl, rfl, _, rfl, ?_⟩
  by_cases e8 : V.int kind = V.int 8
  · rw [decide_eq_true e8]
    refine iteT ⟨_, rfl, _, rfl, _, rfl, _, _, rfl, rfl, td, L, d, c2', ed, by omega, by omega, h5, fun va ta c3 H6 dva mda k6 h6 => ⟨by show 2 ≤ sizeLine; decide, fun a1 na1 => ?_⟩⟩
    have s7 := same_upd (o := .tup [.str "prim", .str "not"]) na1
    have d7 := dt_prim (upd_same (H := H6) (a := a1) (o := .tup [.str "prim", .str "not"]))
    have h7 := h6.same s7
    have dva7 := dva.tk (same_tk s7)
    have k7 := (k5.trans k6).trans (.same s7)
    generalize L2.upd H6 a1 (.tup [.str "prim", .str "not"]) = H7 at s7 d7 h7 dva7 k7 ⊢
    refine ⟨_, rfl, _, rfl, _, rfl, _, _, rfl, rfl, td, L, d, c3, ed, by omega, by omega, h7, fun vb tb c4 H8 dvb mdb k8 h8 => ⟨by show 4 ≤ sizeLine; decide, fun p np => ?_⟩⟩
    have tk8 := h7.tk k8
    have s9 := same_upd (o := .tup [.str "if", va, .ref a1, vb]) np
    refine q _ (.mk .cond [ta, .mk (.prim "not") [], tb]) c4 _ ?_ ?_ ((k7.trans k8).trans (.same s9)) (h8.same s9)
    · simp only [tmD, tmL]
      exact .tup upd_same (.cons (.str _) (.cons ((dva7.tk tk8).tk (same_tk s9)) (.cons (by have := (d7.tk tk8).tk (same_tk s9); simp only [tmD] at this; exact this) (.cons (dvb.tk (same_tk s9)) .nil))))
    · have m1 := (MdL.two mda (Md.leaf (l := .prim "not") (L := L) (c := c3) (c' := c3) (n := 1) (e := 1) ⟨rfl, by unfold primN; simp⟩ rfl True.intro (Nat.le_refl _) (Nat.le_refl _))).snoc mdb
      exact (Md.node (l := .cond) (e' := 2 * d + 2) m1 rfl (by simp) rfl True.intro (by omega)).wide (show c ≤ c2' by omega) (Nat.le_refl _) (Nat.le_refl _)
  rw [decide_eq_false e8]
  refine iteF ?_
  dsimp only [tNext]
  -- fn
  refine ⟨_, rfl, rfl, _, rfl, ?_⟩
  by_cases e9 : V.int kind = V.int 9
  · rw [decide_eq_true e9]
    refine iteT ⟨_, rfl, td, c2', rfl, h5, fun H6 k6 h6 => ⟨by show 1 ≤ sizeLine; decide, fun a na => ?_⟩⟩
    have s7 := same_upd (o := .tup [.int ((c2' + 1 : Nat) : Int)]) na
    have ha7 := upd_same (H := H6) (a := a) (o := .tup [.int ((c2' + 1 : Nat) : Int)])
    have h7 := h6.same s7
    have k7 := (k5.trans k6).trans (.same s7)
    have natd := h6.ne na
    generalize L2.upd H6 a (.tup [.int ((c2' + 1 : Nat) : Int)]) = H7 at s7 ha7 h7 k7 ⊢
    refine ⟨_, rfl, _, rfl, _, rfl, _, _, rfl, rfl, td, L, d, c2' + 1, ed, by omega, by omega, h7, fun v t c4 H8 dv md k8 h8 => ⟨by show 3 ≤ sizeLine; decide, fun p np => ?_⟩⟩
    have s9 := same_upd (o := .tup [.str "fn", .ref a, v]) np
    refine q _ (.mk (.fn [c2' + 1]) [t]) c4 _ ?_ ?_ ((k7.trans k8).trans (.same s9)) (h8.same s9)
    · simp only [tmD, tmL]
      exact .tup upd_same (.cons (.str _) (.cons (.tup (s9 _ _ (k8 a _ ha7 natd)) (nat_dt _ [c2' + 1])) (.cons (dv.tk (same_tk s9)) .nil)))
    · exact (Md.node (l := .fn [c2' + 1]) (e' := 2 * d + 2) (MdL.one md) ⟨rfl, by simp⟩ (by simp) rfl True.intro (by omega)).wide (by omega) (Nat.le_refl _) (Nat.le_refl _)
  rw [decide_eq_false e9]
  refine iteF ?_
  dsimp only [tNext]
  -- set
  refine seq_split (t1 := tIfS _ _ _) (fun σ' H' => σ' = [some (.ref td), some (.int (L : Nat)), some (.int ((d + 1 : Nat) : Int)), some (.int kind), some (.ref sp), some (.ref D), none, none] ∧ Keep td H5 H' ∧ ST td c2' H') ?_ (fun J => ?_)
  case refine_2 =>
    refine ⟨_, rfl, rfl, _, rfl, ?_⟩
    by_cases e10 : V.int kind = V.int 10
    case neg =>
      rw [decide_eq_false e10]
      exact iteF (iteF (J _ _ ⟨rfl, Keep.refl _ _, h5⟩))
    rw [decide_eq_true e10]
    refine iteT ⟨_, rfl, td, _, c2', rfl, h5, by decide, fun r H6 hr60 hr64 k6 h6 => ⟨rfl, _, rfl, ?_⟩⟩
    by_cases e0 : V.int r = V.int 0
    case neg =>
      rw [decide_eq_false e0]
      exact iteF (J _ _ ⟨rfl, k6, h6⟩)
    rw [decide_eq_true e0]
    refine iteT ⟨by show 2 ≤ sizeLine; decide, fun p0 np0 => ⟨_, rfl, pickN h6 np0 rfl (by decide) fun v hv H7 k7 h7 => ?_⟩⟩
    have hvo : ∃ x : Str, v = .str x ∧ (x = "m" ∨ x = "other") := by
      simp only [List.mem_cons, List.not_mem_nil, or_false] at hv
      rcases hv with rfl | rfl
      · exact ⟨_, rfl, .inl rfl⟩
      · exact ⟨_, rfl, .inr rfl⟩
    obtain ⟨x, rfl, hx⟩ := hvo
    refine ⟨_, rfl, _, rfl, td, _, c2', rfl, h7, by decide, fun i H8 hi0 hi4 k8 h8 => ⟨_, rfl, by show 5 ≤ sizeLine; decide, fun a na => ?_⟩⟩
    obtain ⟨i', rfl⟩ : ∃ i' : Nat, i = (i' : Int) := ⟨i.toNat, by omega⟩
    have s9 := same_upd (o := .tup [.str "top", .str x, .int (L : Nat), .int (i' : Nat), .ref sp]) na
    have k58 := (k6.trans k7).trans k8
    have d9 := dt_top (o := sp) (sp := c + 1) (upd_same (H := H8) (a := a) (o := .tup [.str "top", .str x, .int (L : Nat), .int (i' : Nat), .ref sp])) (sp_dt (s9 _ _ (k58 sp _ hsp5 hsptd)))
    have h9 := h8.same s9
    have k9 := (k5.trans k58).trans (.same s9)
    generalize L2.upd H8 a (.tup [.str "top", .str x, .int (L : Nat), .int (i' : Nat), .ref sp]) = H9 at s9 d9 h9 k9 ⊢
    refine ⟨_, rfl, _, rfl, _, rfl, _, _, rfl, rfl, td, L, d, c2', ed, by omega, by omega, h9, fun v t c4 H10 dv md k10 h10 => ⟨by show 3 ≤ sizeLine; decide, fun p np => ?_⟩⟩
    have s11 := same_upd (o := .tup [.str "set", .ref a, v]) np
    refine q _ (.mk .set [.mk (.top x L i' (c + 1)) [], t]) c4 _ ?_ ?_ ((k9.trans k10).trans (.same s11)) (h10.same s11)
    · simp only [tmD, tmL]
      exact .tup upd_same (.cons (.str _) (.cons (by have := (d9.tk (h9.tk k10)).tk (same_tk s11); simp only [tmD] at this; exact this) (.cons (dv.tk (same_tk s11)) .nil)))
    · have m1 := MdL.two (Md.leaf (l := .top x L i' (c + 1)) (L := L) (c := c2') (c' := c2') (n := 1) (e := 1) ⟨rfl, hx⟩ rfl rfl (Nat.le_refl _) (Nat.le_refl _)) md
      exact (Md.node (l := .set) (e' := 2 * d + 2) m1 ⟨x, L, i', c + 1, t, rfl⟩ (by simp) rfl True.intro (by omega)).wide (show c ≤ c2' by omega) (Nat.le_refl _) (Nat.le_refl _)
  rintro σ' H6 ⟨rfl, k56, h6⟩
  have k6 := k5.trans k56
  have hD6 := k56 D _ hD5 hDtd
  have dws6 := dws.tk (h5.tk k56)
  -- rec
  refine ⟨_, rfl, D, rfl, ⟨_, SqL.of hD6⟩, fun B nB => ?_⟩
  have hBtd := h6.ne nB
  have hBD : B ≠ D := fun z => by rw [z, hD6] at nB; cases nB
  have nBH := k6.nn nB hBtd
  refine lc_listK (fun i H' => Keep td H6 H' ∧ ∃ (c3 : Nat) (ns : List Nat) (us : List V), ST td c3 H' ∧ c2' ≤ c3 ∧ ns.length = i ∧ H' B = some (.lst us) ∧ DtAll H' us ((ns.zip ((tmL ts).take i)).map pairD)) (fun i H' h => SqL.of (h.1 D _ hD6 hDtd)) ⟨Keep.new nB, c2', [], [], h6.put hBtd, Nat.le_refl _, rfl, upd_same, .nil⟩ (fun i v H7 hvi ⟨k7, c3, ns, us, h7, hc3, hnl, hB7, dus⟩ => ?_) (fun H7 ⟨k7, c3, ns, us, h7, hc3, hnl, hB7, dus⟩ => ?_)
  · obtain ⟨dd, hdd, hdv⟩ := DtAll.get dws6 hvi
    have hil := (List.getElem?_eq_some_iff.mp hvi).1
    refine ⟨rfl, ?_⟩
    unfold tYes
    refine iteT ⟨_, rfl, td, c3, rfl, h7, fun H8 k8 h8 => ⟨_, rfl, by show 2 ≤ sizeLine; decide, fun pp npp => ?_⟩⟩
    have s9 := same_upd (o := .tup [.int ((c3 + 1 : Nat) : Int), v]) npp
    have hpp := upd_same (H := H8) (a := pp) (o := .tup [.int ((c3 + 1 : Nat) : Int), v])
    have h9 := h8.same s9
    have k89 := k8.trans (.same s9)
    generalize L2.upd H8 pp (.tup [.int ((c3 + 1 : Nat) : Int), v]) = H9 at s9 hpp h9 k89 ⊢
    have hB9 := k89 B _ hB7 hBtd
    have tk10 : Tk H9 (L2.upd H9 B (.lst (us ++ [.ref pp]))) := Tk.upd fun ys z => by rw [hB9] at z; cases z
    have tk79 := h7.tk k89
    have hul := dus.len
    rw [List.length_map, List.length_zip, List.length_take, tmL_len] at hul
    refine ⟨us, hB9, by show _ < 2 ^ 24; omega, fun b o e n => ?_, c3 + 1, ns ++ [c3 + 1], us ++ [.ref pp], h9.put hBtd, by omega, by rw [List.length_append, hnl]; rfl, upd_same, ?_⟩
    · rw [upd_ne (ne_of_none e nB)]
      exact (k7.trans k89) b o e n
    · rw [List.take_add_one, hdd, List.zip_append (by rw [List.length_take, tmL_len]; omega), List.map_append]
      refine ((dus.tk tk79).tk tk10).app ?_
      show DtAll _ _ [pairD (c3 + 1, dd)]
      exact .one (.tup (tk10 _ _ hpp) (.cons (.int _) (.cons (((hdv.tk (h6.tk k7)).tk tk79).tk tk10) .nil)))
  rw [hwl, ← tmL_len ts, List.take_length] at dus
  rw [hwl] at hnl
  refine ⟨B, _, rfl, .inl ⟨SqL.of hB7, fun a na => ?_⟩⟩
  have s8 := same_upd (o := .tup us) na
  have ha8 := upd_same (H := H7) (a := a) (o := .tup us)
  have h8 := h7.same s8
  have dus8 := dus.tk (same_tk s8)
  have k8 := (k6.trans k7).trans (.same s8)
  have dws8 := dws6.tk ((h6.tk k7).trans (same_tk s8))
  generalize L2.upd H7 a (.tup us) = H8 at s8 ha8 h8 dus8 k8 dws8 ⊢
  refine ⟨_, rfl, _, rfl, _, rfl, _, _, rfl, rfl, td, L, d, c3, ed, by omega, by omega, h8, fun v t c4 H9 dv md k9 h9 => ⟨by show 3 ≤ sizeLine; decide, fun p np => ?_⟩⟩
  have tk9 := h8.tk k9
  have s10 := same_upd (o := .tup [.str "rec", .ref a, v]) np
  refine q _ (.mk (.lrec ns) (ts ++ [t])) c4 _ ?_ ?_ ((k8.trans k9).trans (.same s10)) (h9.same s10)
  · simp only [tmD]
    rw [rec_dat hnl]
    exact .tup upd_same (.cons (.str _) (.cons (.tup (s10 _ _ (tk9 _ _ ha8)) ((dus8.tk tk9).tk (same_tk s10))) (.cons (dv.tk (same_tk s10)) .nil)))
  · have m1 := MdL.snoc ⟨md5.ok, md5.lv, md5.own.wide (Nat.le_refl _) hc3, md5.sz, md5.dp⟩ md
    exact (Md.node (l := .lrec ns) (e' := 2 * d + 2) m1 (by show (ts ++ [t]).length = ns.length + 1; rw [List.length_append, hnl]; rfl) (by rw [List.length_append, List.length_singleton]; omega) rfl True.intro (by omega)).wide (show c ≤ c + 1 by omega) (Nat.le_refl _) (Nat.le_refl _)
theorem term_all {f f2 : Addr} {fd fd2 : FuncData} (F : Dfn K mg "_law_term" st__law_term f fd ["draws", "level", "depth"]) (F2 : Dfn K mg "_law_head" st__law_head f2 fd2 ["draws", "level", "depth"]) (M : Mg mg) (G_law_next : Cal P w K mg base 1 "_law_next" spNext) (G_law_new : Cal P w K mg base 1 "_law_new" spNew) : ∀ n : Nat, Cal P w K mg base (2 * n + 1) "_law_term" (spTerm n)
  | 0 => by
    have no : ∀ vs H Q E, ¬ spTerm 0 vs H Q E := fun vs H Q E h => by
      obtain ⟨_, _, _, _, _, h, _⟩ := h
      exact Nat.not_lt_zero _ h
    exact ⟨f, fd, _, ⟨fun vs H Q E h => absurd h (no vs H Q E), fun A outer s H args us vs Q E _ _ _ _ h => absurd h (no vs H Q E)⟩, F.mgf, F.fn.kp, F.b⟩
  | n + 1 => by
    have h := term_all F F2 M G_law_next G_law_new n
    exact ok_term (k := 2 * n + 1) (k2 := 2 * n + 2) (by omega) (by omega) F M G_law_next G_law_new h (ok_head (by omega) F2 M G_law_next G_law_new h)
end
end W7
set_option Elab.async false
set_option linter.all false
set_option maxRecDepth 100000
set_option maxHeartbeats 4000000
namespace W7
open PySem PySem.Spec PyProof.Rows L2 Com Kb StX
def vrD (x : Vr) : PyData := .tuple [.str x.1, .int (x.2.1 : Nat), .int (x.2.2 : Nat)]
def isC (t : Nd) : Bool := (callOf t).isSome
/-- what a walk over these leaves -/
def Wk (ca sa : Addr) (cl sl : List V) (H H' : Hp) (ns : List Nd) : Prop :=
  (∀ b o, H b = some o → b ≠ ca → b ≠ sa → H' b = some o) ∧ ∃ cl2 sl2, H' ca = some (.lst (cl ++ cl2)) ∧ DtAll H' cl2 ((ns.filter isC).map tmD) ∧ H' sa = some (.lst (sl ++ sl2)) ∧ DtAll H' sl2 ((ns.filterMap setOf).map vrD)
theorem Wk.tk {ca sa : Addr} {cl sl : List V} {H H' : Hp} {ns : List Nd} (h : Wk ca sa cl sl H H' ns) (h1 : H ca = some (.lst cl)) (h2 : H sa = some (.lst sl)) : Tk H H' := fun b xs e => h.1 b _ e (ne_of e h1 (by intro z; cases z)) (ne_of e h2 (by intro z; cases z))
theorem Wk.refl {ca sa : Addr} {cl sl : List V} {H : Hp} (h1 : H ca = some (.lst cl)) (h2 : H sa = some (.lst sl)) : Wk ca sa cl sl H H [] := ⟨fun _ _ e _ _ => e, [], [], by rw [List.append_nil]; exact h1, .nil, by rw [List.append_nil]; exact h2, .nil⟩
theorem cut3 {a b c d e : V} : cutV [a, b, c, d, e] (some 1) (some 4) = [b, c, d] := by
  unfold cutV
  have e1 : HT.sIx [a, b, c, d, e].length 0 (some 1) = min 1 5 := HT.sIx_nat _ _ 1
  have e2 : HT.sIx [a, b, c, d, e].length [a, b, c, d, e].length (some 4) = min 4 5 := HT.sIx_nat _ _ 4
  rw [e1, e2]
  rfl
theorem cut3_no {a b c d e : V} : ¬ (HT.sIx [a, b, c, d, e].length 0 (some 1) = 0 ∧ HT.sIx [a, b, c, d, e].length [a, b, c, d, e].length (some 4) = [a, b, c, d, e].length) := by
  rintro ⟨h, _⟩
  have e1 : HT.sIx [a, b, c, d, e].length 0 (some 1) = min 1 5 := HT.sIx_nat _ _ 1
  rw [e1] at h
  exact absurd h (by show ¬ (1 = 0); decide)
section
variable {P : Program} {w : World} {K : PySem.W.Frag} {mg : Str → Option Value} {base : Heap}
def spWalk (n : Nat) : Sp := fun vs H Q _ => ∃ (v : V) (ca sa : Addr) (t : Nd) (cl sl : List V), vs = [v, .ref ca, .ref sa] ∧ Dt H v (tmD t) ∧ okT t ∧ dpT t < n ∧ ca ≠ sa ∧ H ca = some (.lst cl) ∧ H sa = some (.lst sl) ∧ cl.length + (pre t).length ≤ 1000000 ∧ sl.length + (pre t).length ≤ 1000000 ∧ ∀ H', Wk ca sa cl sl H H' (pre t) → Q .non H'
theorem Wk.len {ca sa : Addr} {cl sl : List V} {H H' : Hp} {ns : List Nd} (h : Wk ca sa cl sl H H' ns) : ∃ cl2 sl2, H' ca = some (.lst (cl ++ cl2)) ∧ H' sa = some (.lst (sl ++ sl2)) ∧ cl2.length ≤ ns.length ∧ sl2.length ≤ ns.length := by
  obtain ⟨_, cl2, sl2, h1, d1, h2, d2⟩ := h
  have e1 := d1.len
  have e2 := d2.len
  rw [List.length_map] at e1 e2
  have := List.length_filter_le isC ns
  have := List.length_filterMap_le setOf ns
  exact ⟨cl2, sl2, h1, h2, by omega, by omega⟩
theorem Wk.more {ca sa : Addr} {cl sl cl2 sl2 : List V} {H H1 H2 : Hp} {ns ms : List Nd} (h : Wk ca sa cl sl H H1 ns) (e1 : H1 ca = some (.lst (cl ++ cl2))) (e2 : H1 sa = some (.lst (sl ++ sl2))) (k : Wk ca sa (cl ++ cl2) (sl ++ sl2) H1 H2 ms) : Wk ca sa cl sl H H2 (ns ++ ms) := by
  have tk := k.tk e1 e2
  obtain ⟨k0, cl3, sl3, k1, k2, k3, k4⟩ := k
  obtain ⟨h0, c2, s2, h1, h2, h3, h4⟩ := h
  rw [e1] at h1
  rw [e2] at h3
  have hc := List.append_cancel_left (HO.lst.inj (Option.some.inj h1))
  have hs := List.append_cancel_left (HO.lst.inj (Option.some.inj h3))
  subst hc hs
  refine ⟨fun b o e n1 n2 => k0 b o (h0 b o e n1 n2) n1 n2, cl2 ++ cl3, sl2 ++ sl3, by rw [← List.append_assoc]; exact k1, ?_, by rw [← List.append_assoc]; exact k3, ?_⟩
  · rw [List.filter_append, List.map_append]
    exact (h2.tk tk).app k2
  · rw [List.filterMap_append, List.map_append]
    exact (h4.tk tk).app k4
theorem Wk.same {ca sa : Addr} {cl sl : List V} {H H1 H2 : Hp} {ns : List Nd} (h : Wk ca sa cl sl H H1 ns) (s : Same H1 H2) : Wk ca sa cl sl H H2 ns := by
  obtain ⟨h0, c2, s2, h1, h2, h3, h4⟩ := h
  exact ⟨fun b o e n1 n2 => s _ _ (h0 b o e n1 n2), c2, s2, s _ _ h1, h2.tk (same_tk s), s _ _ h3, h4.tk (same_tk s)⟩
theorem Wk.pre {ca sa : Addr} {cl sl : List V} {H0 H H1 : Hp} {ns : List Nd} (s : Same H0 H) (h : Wk ca sa cl sl H H1 ns) : Wk ca sa cl sl H0 H1 ns := by
  obtain ⟨h0, r⟩ := h
  exact ⟨fun b o e n1 n2 => h0 b o (s _ _ e) n1 n2, r⟩
theorem preL_take {ks : List Nd} {i : Nat} {x : Nd} (h : ks[i]? = some x) : preL (ks.take (i + 1)) = preL (ks.take i) ++ pre x := by
  rw [List.take_add_one, h, preL_app]
  congr 1
  show preL [x] = pre x
  simp [preL]
theorem preL_take_le : ∀ (ks : List Nd) (i : Nat), (preL (ks.take i)).length ≤ (preL ks).length
  | _, 0 => by rw [List.take_zero]; simp [preL]
  | [], _ + 1 => Nat.le_refl _
  | x :: ks, i + 1 => by
    have := preL_take_le ks i
    simp only [List.take_succ_cons, preL, List.length_append]
    omega
/-- walking over the parts in a tuple, one behind the other -/
theorem walk_parts {n : Nat} {ca sa : Addr} {cl sl : List V} {H : Hp} {q : Addr} {ws : List V} {ks : List Nd} {σ0 : L2.St} {D : Ends} (hcs : ca ≠ sa) (hca : H ca = some (.lst cl)) (hsa : H sa = some (.lst sl)) (hq : H q = some (.tup ws)) (dw : DtAll H ws (tmL ks)) (ok : okL ks) (hd : dpL ks < n) (h1 : cl.length + (preL ks).length ≤ 1000000) (h2 : sl.length + (preL ks).length ≤ 1000000)
    (a b c d e : V) (y4 y5 : Option V) (hσ : σ0 = [some a, some (.ref ca), some (.ref sa), some d, y4, y5])
    (hD : ∀ H' y4, Wk ca sa cl sl H H' (preL ks) → D.nx [some a, some (.ref ca), some (.ref sa), some d, y4, y5] H') :
    ∃ W : Nat → Nat → L2.St → Hp → Prop, (∃ m, W 0 m σ0 H) ∧ ∀ i m σ H, W i m σ H →
      ((Itt K q).stop i H ∧ D.nx σ H) ∨ ((Itt K q).go i H ∧ ∃ N : L2.St → Hp → Prop, (∀ σ' H', N σ' H' → ∃ m', m' < m ∧ W (i + 1) m' σ' H') ∧ ∀ x H', (Itt K q).yld i H x H' → gName 4 x σ H' fun σ2 H2 => tDrop (tCall (spWalk n) [] E0 (tCons (tVar 4) (tCons (tVar 1) (tCons (tVar 2) tNil)))) { D with nx := N, ct := N, bk := D.nx } σ2 H2) := by
  subst hσ
  have hwl := dw.len
  rw [tmL_len] at hwl
  refine for_tupK (K := K) (fun i σ H' => ∃ y4, σ = [some a, some (.ref ca), some (.ref sa), some d, y4, y5] ∧ Wk ca sa cl sl H H' (preL (ks.take i))) ⟨_, rfl, by rw [List.take_zero]; simp only [preL]; exact .refl hca hsa⟩ (fun i σ H' ⟨_, _, h⟩ => SqT.of (h.tk hca hsa _ _ hq)) ?_ ?_
  · rintro i x σ H1 hxi ⟨y4, rfl, wk⟩
    rw [tmL_map] at dw
    obtain ⟨z, hz, hzd⟩ := DtAll.get_map dw hxi
    have hzm := List.mem_of_getElem? hz
    obtain ⟨cl2, sl2, e1, e2, l1, l2⟩ := wk.len
    have hle := preL_take_le ks (i + 1)
    rw [preL_take hz, List.length_append] at hle
    have hdz := dpL_mem hzm
    dsimp only [gName]
    refine ⟨_, rfl, _, rfl, _, rfl, x, ca, sa, z, _, _, rfl, hzd.tk (wk.tk hca hsa), okL_mem ok hzm, by omega, hcs, e1, e2, by rw [List.length_append]; omega, by rw [List.length_append]; omega, fun H2 wk2 => ?_⟩
    exact ⟨_, rfl, by rw [preL_take hz]; exact wk.more e1 e2 wk2⟩
  · rintro σ H1 ⟨y4, rfl, wk⟩
    rw [hwl, List.take_length] at wk
    exact hD H1 y4 wk
theorem wk_self {ca sa : Addr} {cl sl : List V} {H H' : Hp} {l : Lab} {ks : List Nd} (h1 : callOf (.mk l ks) = none) (h2 : setOf (.mk l ks) = none) (h : Wk ca sa cl sl H H' (preL ks)) : Wk ca sa cl sl H H' (pre (.mk l ks)) := by
  obtain ⟨h0, c2, s2, k1, k2, k3, k4⟩ := h
  refine ⟨h0, c2, s2, k1, ?_, k3, ?_⟩
  · simp only [W7.pre]
    rw [List.filter_cons_of_neg (by unfold isC; rw [h1]; decide)]
    exact k2
  · simp only [W7.pre]
    rw [List.filterMap_cons_none h2]
    exact k4
theorem ok_walk {f : Addr} {fd : FuncData} {n k : Nat} (F : Dfn K mg "_law_walk" st__law_walk f fd ["term", "calls", "sets"]) (M : Mg mg) (G_law_walk : Cal P w K mg base k "_law_walk" (spWalk n)) : Cal P w K mg base (k + 1) "_law_walk" (spWalk (n + 1)) := by
  refine cal_mk F sc_law_walk (fun vs H Q E h => ?_) (fun cdv A outer s H vs Q E hr h => ?_)
  · obtain ⟨v, ca, sa, t, cl, sl, rfl, _⟩ := h
    rfl
  obtain ⟨v, ca, sa, t, cl, sl, rfl, hv, ok, hd, hcs, hca, hsa, hl1, hl2, q⟩ := h
  refine ⟨_, (pss_cons (ps_set (i := 3) sc_law_walk.nd rfl (.inl rfl) (pe_ix (ixT K rfl) (pv 0) pe_int (fun _ _ => rfl)))
      (pss_one (ps_if (pt_cmpR op_eq (pv 3) pe_str (nomark _)) (pss_cons (ps_expr (pe_bm PySem.F.plainAttrs_list PySem.F.slot_list_append PySem.F.type_list_append mt_append (pv 1) (pa_cons (pv 0) pa_nil)))
      (pss_one (ps_for PassesOwn.never rfl (pi_tup (pe_op (opCatT K rfl) (pe_tup (pa_cons (pe_ix (ixT K rfl) (pv 0) pe_int (fun _ _ => rfl)) pa_nil)) (pe_ix (ixT K rfl) (pv 0) pe_int (fun _ _ => rfl)))) (pg_name (i := 4) sc_law_walk.nd rfl (.inl rfl))
      (pss_one (ps_expr (pe_c G_law_walk hr (by omega) (by rfl) (pa_cons (pv 4) (pa_cons (pv 1) (pa_cons (pv 2) pa_nil))))))))) (pss_one (ps_if (pt_cmpR op_eq (pv 3) pe_str (nomark _)) (pss_one (ps_expr (pe_c G_law_walk hr (by omega) (by rfl) (pa_cons (pe_ix (ixT K rfl) (pv 0) pe_int (fun _ _ => rfl)) (pa_cons (pv 1) (pa_cons (pv 2) pa_nil)))))) (pss_one (ps_if (pt_cmpR op_eq (pv 3) pe_str (nomark _)) (pss_one (ps_for PassesOwn.never rfl (pi_tup (pe_ix (ixT K rfl) (pv 0) pe_int (fun _ _ => rfl))) (pg_name (i := 4) sc_law_walk.nd rfl (.inl rfl))
      (pss_one (ps_expr (pe_c G_law_walk hr (by omega) (by rfl) (pa_cons (pv 4) (pa_cons (pv 1) (pa_cons (pv 2) pa_nil)))))))) (pss_one (ps_if (pt_cmpR op_eq (pv 3) pe_str (nomark _)) (pss_one (ps_for PassesOwn.never rfl (pi_tup (pe_slice (slA K rfl) (pv 0) (po_some pe_int) po_none)) (pg_name (i := 4) sc_law_walk.nd rfl (.inl rfl))
      (pss_one (ps_expr (pe_c G_law_walk hr (by omega) (by rfl) (pa_cons (pv 4) (pa_cons (pv 1) (pa_cons (pv 2) pa_nil)))))))) (pss_one (ps_if (pt_cmpR op_eq (pv 3) pe_str (nomark _)) (pss_cons (ps_if (pt_cmpR op_eq (pe_ix (ixT K rfl) (pe_ix (ixT K rfl) (pv 0) pe_int (fun _ _ => rfl)) pe_int (fun _ _ => rfl)) pe_str (nomark _)) (pss_one (ps_expr (pe_bm PySem.F.plainAttrs_list PySem.F.slot_list_append PySem.F.type_list_append mt_append (pv 2) (pa_cons (pe_slice (slA K rfl) (pe_ix (ixT K rfl) (pv 0) pe_int (fun _ _ => rfl)) (po_some pe_int) (po_some pe_int)) pa_nil)))) pss_nil)
      (pss_one (ps_expr (pe_c G_law_walk hr (by omega) (by rfl) (pa_cons (pe_ix (ixT K rfl) (pv 0) pe_int (fun _ _ => rfl)) (pa_cons (pv 1) (pa_cons (pv 2) pa_nil))))))) (pss_one (ps_if (pt_cmpR op_eq (pv 3) pe_str (nomark _)) (pss_cons (ps_for PassesOwn.never rfl (pi_tup (pe_ix (ixT K rfl) (pv 0) pe_int (fun _ _ => rfl))) (pg_tup rfl (pgs_cons (pg_name (i := 5) sc_law_walk.nd rfl (.inl rfl)) (pgs_cons (pg_name (i := 4) sc_law_walk.nd rfl (.inl rfl)) pgs_nil)))
      (pss_one (ps_expr (pe_c G_law_walk hr (by omega) (by rfl) (pa_cons (pv 4) (pa_cons (pv 1) (pa_cons (pv 2) pa_nil)))))))
      (pss_one (ps_expr (pe_c G_law_walk hr (by omega) (by rfl) (pa_cons (pe_ix (ixT K rfl) (pv 0) pe_int (fun _ _ => rfl)) (pa_cons (pv 1) (pa_cons (pv 2) pa_nil))))))) pss_nil))))))))))))), ?_⟩
  obtain ⟨l, ks⟩ := t
  have hok := ok
  simp only [okT] at ok
  obtain ⟨okl, hkl, okk⟩ := ok
  simp only [dpT] at hd
  rw [pre_len] at hl1 hl2
  simp only [tmD] at hv
  have leaf : ks = [] → callOf (.mk l ks) = none → setOf (.mk l ks) = none → Q .non H := fun e c1 c2 => q H (wk_self c1 c2 (by subst e; simp only [preL]; exact .refl hca hsa))
  cases l with
  | con d =>
    obtain ⟨p, a, rfl, hp⟩ := at_con hv
    refine ⟨_, rfl, tc (ixt hp (atI_nat (j := 0) rfl) ?_)⟩
    dsimp only [gName]
    refine ⟨_, rfl, rfl, _, rfl, ?_⟩
    rw [strE]
    rw [decide_eq_false (show ¬ ("const" : Str) = "call" by decide +kernel)]
    refine iteF ?_
    refine ⟨_, rfl, rfl, _, rfl, ?_⟩
    rw [strE]
    rw [decide_eq_false (show ¬ ("const" : Str) = "fn" by decide +kernel)]
    refine iteF ?_
    refine ⟨_, rfl, rfl, _, rfl, ?_⟩
    rw [strE]
    rw [decide_eq_false (show ¬ ("const" : Str) = "do" by decide +kernel)]
    refine iteF ?_
    refine ⟨_, rfl, rfl, _, rfl, ?_⟩
    rw [strE]
    rw [decide_eq_false (show ¬ ("const" : Str) = "if" by decide +kernel)]
    refine iteF ?_
    refine ⟨_, rfl, rfl, _, rfl, ?_⟩
    rw [strE]
    rw [decide_eq_false (show ¬ ("const" : Str) = "set" by decide +kernel)]
    refine iteF ?_
    refine ⟨_, rfl, rfl, _, rfl, ?_⟩
    rw [strE]
    rw [decide_eq_false (show ¬ ("const" : Str) = "rec" by decide +kernel)]
    refine iteF ?_
    dsimp only [tNext]
    exact leaf okl rfl rfl
  | prim x =>
    obtain ⟨p, rfl, hp⟩ := at_prim hv
    refine ⟨_, rfl, tc (ixt hp (atI_nat (j := 0) rfl) ?_)⟩
    dsimp only [gName]
    refine ⟨_, rfl, rfl, _, rfl, ?_⟩
    rw [strE]
    rw [decide_eq_false (show ¬ ("prim" : Str) = "call" by decide +kernel)]
    refine iteF ?_
    refine ⟨_, rfl, rfl, _, rfl, ?_⟩
    rw [strE]
    rw [decide_eq_false (show ¬ ("prim" : Str) = "fn" by decide +kernel)]
    refine iteF ?_
    refine ⟨_, rfl, rfl, _, rfl, ?_⟩
    rw [strE]
    rw [decide_eq_false (show ¬ ("prim" : Str) = "do" by decide +kernel)]
    refine iteF ?_
    refine ⟨_, rfl, rfl, _, rfl, ?_⟩
    rw [strE]
    rw [decide_eq_false (show ¬ ("prim" : Str) = "if" by decide +kernel)]
    refine iteF ?_
    refine ⟨_, rfl, rfl, _, rfl, ?_⟩
    rw [strE]
    rw [decide_eq_false (show ¬ ("prim" : Str) = "set" by decide +kernel)]
    refine iteF ?_
    refine ⟨_, rfl, rfl, _, rfl, ?_⟩
    rw [strE]
    rw [decide_eq_false (show ¬ ("prim" : Str) = "rec" by decide +kernel)]
    refine iteF ?_
    dsimp only [tNext]
    exact leaf okl.1 rfl rfl
  | top m lv k sp =>
    obtain ⟨p, o, rfl, hp⟩ := at_top hv
    refine ⟨_, rfl, tc (ixt hp (atI_nat (j := 0) rfl) ?_)⟩
    dsimp only [gName]
    refine ⟨_, rfl, rfl, _, rfl, ?_⟩
    rw [strE]
    rw [decide_eq_false (show ¬ ("top" : Str) = "call" by decide +kernel)]
    refine iteF ?_
    refine ⟨_, rfl, rfl, _, rfl, ?_⟩
    rw [strE]
    rw [decide_eq_false (show ¬ ("top" : Str) = "fn" by decide +kernel)]
    refine iteF ?_
    refine ⟨_, rfl, rfl, _, rfl, ?_⟩
    rw [strE]
    rw [decide_eq_false (show ¬ ("top" : Str) = "do" by decide +kernel)]
    refine iteF ?_
    refine ⟨_, rfl, rfl, _, rfl, ?_⟩
    rw [strE]
    rw [decide_eq_false (show ¬ ("top" : Str) = "if" by decide +kernel)]
    refine iteF ?_
    refine ⟨_, rfl, rfl, _, rfl, ?_⟩
    rw [strE]
    rw [decide_eq_false (show ¬ ("top" : Str) = "set" by decide +kernel)]
    refine iteF ?_
    refine ⟨_, rfl, rfl, _, rfl, ?_⟩
    rw [strE]
    rw [decide_eq_false (show ¬ ("top" : Str) = "rec" by decide +kernel)]
    refine iteF ?_
    dsimp only [tNext]
    exact leaf okl.1 rfl rfl
  | fn ns =>
    obtain ⟨t0, rfl⟩ : ∃ t0, ks = [t0] := by
      have h1 := okl.1
      cases ks with
      | nil => exact absurd h1 (by decide)
      | cons a r =>
        cases r with
        | nil => exact ⟨a, rfl⟩
        | cons _ _ => exact absurd h1 (by simp)
    simp only [tmL] at hv
    obtain ⟨p, a, u, rfl, hp, ha, hu⟩ := at_fn hv
    simp only [preL, dpL, List.append_nil, okL] at hl1 hl2 hd okk
    refine ⟨_, rfl, tc (ixt hp (atI_nat (j := 0) rfl) ?_)⟩
    dsimp only [gName]
    refine ⟨_, rfl, rfl, _, rfl, ?_⟩
    rw [strE]
    rw [decide_eq_false (show ¬ ("fn" : Str) = "call" by decide +kernel)]
    refine iteF ?_
    refine ⟨_, rfl, rfl, _, rfl, ?_⟩
    rw [strE]
    rw [decide_eq_true (show ("fn" : Str) = "fn" from rfl)]
    refine iteT ⟨_, rfl, tc (ixt hp (atI_nat (j := 2) rfl) ⟨_, rfl, _, rfl, u, ca, sa, t0, cl, sl, rfl, hu, okk.1, by omega, hcs, hca, hsa, by omega, by omega, fun H' wk => ?_⟩)⟩
    exact q H' (wk_self rfl rfl (by simp only [preL, List.append_nil]; exact wk))
  | call sp =>
    obtain ⟨t0, ts, rfl⟩ : ∃ t0 ts, ks = t0 :: ts := by
      cases ks with
      | nil => exact absurd (show 1 ≤ ([] : List Nd).length from okl) (by decide)
      | cons a r => exact ⟨a, r, rfl⟩
    have hv0 := hv
    simp only [tmL] at hv
    obtain ⟨p, u, a, o, ws, rfl, hp, hu, ha, hw, ho⟩ := at_call hv
    refine ⟨_, rfl, tc (ixt hp (atI_nat (j := 0) rfl) ?_)⟩
    dsimp only [gName]
    refine ⟨_, rfl, rfl, _, rfl, ?_⟩
    rw [strE]
    rw [decide_eq_true (show ("call" : Str) = "call" from rfl)]
    refine iteT ⟨_, rfl, .inl ⟨rfl, _, SqL.of hca⟩, _, rfl, ca, cl, _, rfl, rfl, hca, by show _ < 2 ^ 24; omega, ?_⟩
    have hca1 := upd_same (H := H) (a := ca) (o := .lst (cl ++ [.ref p]))
    have hsa1 : L2.upd H ca (.lst (cl ++ [.ref p])) sa = some (.lst sl) := by rw [upd_ne (Ne.symm hcs)]; exact hsa
    have k1 : ∀ b o, H b = some o → b ≠ ca → b ≠ sa → L2.upd H ca (.lst (cl ++ [.ref p])) b = some o := fun b o e n _ => by rw [upd_ne n]; exact e
    have tk1 : Tk H (L2.upd H ca (.lst (cl ++ [.ref p]))) := Tk.upd fun ys z => by rw [hca] at z; cases z
    dsimp only
    generalize L2.upd H ca (.lst (cl ++ [.ref p])) = H1 at hca1 hsa1 k1 tk1 ⊢
    refine ⟨_, rfl, tc (ixt (tk1 _ _ hp) (atI_nat (j := 1) rfl) ⟨by show 1 ≤ sizeLine; decide, fun b nb => ?_⟩)⟩
    have s2 := same_upd (o := .tup [u]) nb
    refine ⟨_, rfl, tc (ixt (s2 _ _ (tk1 _ _ hp)) (atI_nat (j := 2) rfl) ?_)⟩
    have hwl := hw.len
    rw [tmL_len] at hwl
    rw [List.length_cons] at hkl
    have hb2 := upd_same (H := H1) (a := b) (o := .tup [u])
    have ha2 := s2 _ _ (tk1 _ _ ha)
    have hu2 := (hu.tk tk1).tk (same_tk s2)
    have hw2 := (hw.tk tk1).tk (same_tk s2)
    have hca2 := s2 _ _ hca1
    have hsa2 := s2 _ _ hsa1
    have fin : ∀ (r : Addr) (H3 : Hp), Same (L2.upd H1 b (.tup [u])) H3 → H3 r = some (.tup (u :: ws)) → ∀ H' (y4 : Option V), Wk ca sa (cl ++ [.ref p]) sl H3 H' (preL (t0 :: ts)) → Q .non H' := fun r H3 s3 hr3 H' y4 wk => by
      refine q H' ?_
      have wk1 := Wk.pre (same_trans s2 s3) wk
      have tk' := wk1.tk hca1 hsa1
      obtain ⟨h0, c2, s2', h1, h2, h3, h4⟩ := wk1
      refine ⟨fun b o e n1 n2 => h0 b o (k1 b o e n1 n2) n1 n2, .ref p :: c2, s2', by rw [h1, List.append_assoc]; rfl, ?_, h3, ?_⟩
      · simp only [W7.pre]
        rw [List.filter_cons_of_pos (by rfl), List.map_cons]
        exact .cons (by simp only [tmD]; exact (hv0.tk tk1).tk tk') h2
      · simp only [W7.pre]
        rw [List.filterMap_cons_none (by rfl)]
        exact h4
    generalize L2.upd H1 b (.tup [u]) = H2 at s2 hb2 ha2 hu2 hw2 hca2 hsa2 fin ⊢
    refine ⟨b, a, [u], ws, rfl, rfl, SqT.of hb2, SqT.of ha2, fun z => (by cases z), by show 1 + ws.length ≤ 2 ^ 24; omega, fun z => ?_, fun _ r nr => ?_⟩
    · subst z
      refine ⟨b, rfl, ⟨_, SqT.of hb2⟩, ?_⟩
      exact walk_parts hcs hca2 hsa2 hb2 (by simp only [tmL]; exact .cons hu2 hw2) okk (by omega) (by rw [List.length_append, List.length_singleton]; omega) (by omega) _ .non .non _ .non none none rfl fun H' y4 wk => fin b H2 (fun _ _ e => e) hb2 H' y4 wk
    · have s3 := same_upd (o := .tup ([u] ++ ws)) nr
      refine ⟨r, rfl, ⟨_, SqT.of upd_same⟩, ?_⟩
      exact walk_parts hcs (s3 _ _ hca2) (s3 _ _ hsa2) upd_same (by simp only [tmL]; exact .cons (hu2.tk (same_tk s3)) (hw2.tk (same_tk s3))) okk (by omega) (by rw [List.length_append, List.length_singleton]; omega) (by omega) _ .non .non _ .non none none rfl fun H' y4 wk => fin r _ s3 upd_same H' y4 wk
  | seq =>
    obtain ⟨p, a, ws, rfl, hp, ha, hw⟩ := at_seq hv
    refine ⟨_, rfl, tc (ixt hp (atI_nat (j := 0) rfl) ?_)⟩
    dsimp only [gName]
    refine ⟨_, rfl, rfl, _, rfl, ?_⟩
    rw [strE]
    rw [decide_eq_false (show ¬ ("do" : Str) = "call" by decide +kernel)]
    refine iteF ?_
    refine ⟨_, rfl, rfl, _, rfl, ?_⟩
    rw [strE]
    rw [decide_eq_false (show ¬ ("do" : Str) = "fn" by decide +kernel)]
    refine iteF ?_
    refine ⟨_, rfl, rfl, _, rfl, ?_⟩
    rw [strE]
    rw [decide_eq_true (show ("do" : Str) = "do" from rfl)]
    refine iteT ⟨_, rfl, tc (ixt hp (atI_nat (j := 1) rfl) ⟨a, rfl, ⟨_, SqT.of ha⟩, ?_⟩)⟩
    exact walk_parts hcs hca hsa ha hw okk (by omega) (by omega) (by omega) _ .non .non _ .non none none rfl fun H' y4 wk => q H' (wk_self rfl rfl wk)
  | cond =>
    obtain ⟨p, ws, rfl, hp, hw⟩ := at_cond hv
    refine ⟨_, rfl, tc (ixt hp (atI_nat (j := 0) rfl) ?_)⟩
    dsimp only [gName]
    refine ⟨_, rfl, rfl, _, rfl, ?_⟩
    rw [strE]
    rw [decide_eq_false (show ¬ ("if" : Str) = "call" by decide +kernel)]
    refine iteF ?_
    refine ⟨_, rfl, rfl, _, rfl, ?_⟩
    rw [strE]
    rw [decide_eq_false (show ¬ ("if" : Str) = "fn" by decide +kernel)]
    refine iteF ?_
    refine ⟨_, rfl, rfl, _, rfl, ?_⟩
    rw [strE]
    rw [decide_eq_false (show ¬ ("if" : Str) = "do" by decide +kernel)]
    refine iteF ?_
    refine ⟨_, rfl, rfl, _, rfl, ?_⟩
    rw [strE]
    rw [decide_eq_true (show ("if" : Str) = "if" from rfl)]
    refine iteT ⟨_, rfl, _, rfl, p, _, rfl, SqT.of hp, fun z => absurd z cut_no, fun _ p2 np2 => ?_⟩
    rw [cut_all]
    have s2 := same_upd (o := .tup ws) np2
    refine ⟨p2, rfl, ⟨_, SqT.of upd_same⟩, ?_⟩
    exact walk_parts hcs (s2 _ _ hca) (s2 _ _ hsa) upd_same (hw.tk (same_tk s2)) okk (by omega) (by omega) (by omega) _ .non .non _ .non none none rfl fun H' y4 wk => q H' (wk_self rfl rfl (.pre s2 wk))
  | set =>
    obtain ⟨m, lv, kk, sp, t1, rfl⟩ := okl
    simp only [tmL] at hv
    obtain ⟨p, ws, rfl, hp, dw⟩ := at_set hv
    obtain ⟨x1, r1, rfl, d1, dw⟩ := dw.consE
    obtain ⟨x2, r2, rfl, d2, dw⟩ := dw.consE
    obtain rfl := dw.nilE
    obtain ⟨p2, o, rfl, hp2⟩ := at_top (m := m) (lv := lv) (k := kk) (sp := sp) (ds := []) (by simp only [tmD, tmL] at d1; exact d1)
    simp only [preL, pre, dpL, dpT, List.append_nil, okL, List.length_append, List.length_cons, List.length_nil] at hl1 hl2 hd okk
    refine ⟨_, rfl, tc (ixt hp (atI_nat (j := 0) rfl) ?_)⟩
    dsimp only [gName]
    refine ⟨_, rfl, rfl, _, rfl, ?_⟩
    rw [strE]
    rw [decide_eq_false (show ¬ ("set" : Str) = "call" by decide +kernel)]
    refine iteF ?_
    refine ⟨_, rfl, rfl, _, rfl, ?_⟩
    rw [strE]
    rw [decide_eq_false (show ¬ ("set" : Str) = "fn" by decide +kernel)]
    refine iteF ?_
    refine ⟨_, rfl, rfl, _, rfl, ?_⟩
    rw [strE]
    rw [decide_eq_false (show ¬ ("set" : Str) = "do" by decide +kernel)]
    refine iteF ?_
    refine ⟨_, rfl, rfl, _, rfl, ?_⟩
    rw [strE]
    rw [decide_eq_false (show ¬ ("set" : Str) = "if" by decide +kernel)]
    refine iteF ?_
    refine ⟨_, rfl, rfl, _, rfl, ?_⟩
    rw [strE]
    rw [decide_eq_true (show ("set" : Str) = "set" from rfl)]
    refine iteT ⟨_, rfl, tc (ixt hp (atI_nat (j := 1) rfl) (tc (ixt hp2 (atI_nat (j := 0) rfl) (tc ⟨rfl, _, rfl, ?_⟩))))⟩
    rw [strE, decide_eq_true rfl]
    refine iteT ⟨_, rfl, .inl ⟨rfl, _, SqL.of hsa⟩, _, rfl, tc (ixt hp (atI_nat (j := 1) rfl) ⟨_, rfl, _, rfl, p2, _, rfl, SqT.of hp2, fun z => absurd z cut3_no, fun _ b nb => ?_⟩)⟩
    rw [cut3]
    have s1 := same_upd (o := .tup [.str m, .int (lv : Nat), .int (kk : Nat)]) nb
    have hb1 := upd_same (H := H) (a := b) (o := .tup [.str m, .int (lv : Nat), .int (kk : Nat)])
    generalize L2.upd H b (.tup [.str m, .int (lv : Nat), .int (kk : Nat)]) = H1 at s1 hb1 ⊢
    have hsa1 := s1 _ _ hsa
    refine ⟨sa, sl, _, rfl, rfl, hsa1, by show _ < 2 ^ 24; omega, ?_⟩
    have k2 : ∀ y o, H y = some o → y ≠ ca → y ≠ sa → L2.upd H1 sa (.lst (sl ++ [.ref b])) y = some o := fun y o e _ n => by rw [upd_ne n]; exact s1 _ _ e
    have tk2 : Tk H1 (L2.upd H1 sa (.lst (sl ++ [.ref b]))) := Tk.upd fun ys z => by rw [hsa1] at z; cases z
    have hsa2 := upd_same (H := H1) (a := sa) (o := .lst (sl ++ [.ref b]))
    have hca2 : L2.upd H1 sa (.lst (sl ++ [.ref b])) ca = some (.lst cl) := by rw [upd_ne hcs]; exact s1 _ _ hca
    have tk02 := (same_tk s1).trans tk2
    dsimp only
    generalize L2.upd H1 sa (.lst (sl ++ [.ref b])) = H2 at k2 tk2 hsa2 hca2 tk02 ⊢
    refine ⟨_, rfl, tc (ixt (tk02 _ _ hp) (atI_nat (j := 2) rfl) ⟨_, rfl, _, rfl, x2, ca, sa, t1, cl, _, rfl, d2.tk tk02, okk.2.1, by omega, hcs, hca2, hsa2, by omega, by rw [List.length_append, List.length_singleton]; omega, fun H' wk => ?_⟩)⟩
    have tk' := wk.tk hca2 hsa2
    obtain ⟨h0, c2, s2', h1, h2, h3, h4⟩ := wk
    refine q H' ⟨fun b o e n1 n2 => h0 b o (k2 b o e n1 n2) n1 n2, c2, .ref b :: s2', h1, ?_, by rw [h3, List.append_assoc]; rfl, ?_⟩
    · simp only [W7.pre, preL, List.append_nil, List.cons_append, List.nil_append]
      rw [List.filter_cons_of_neg (by simp [isC, callOf]), List.filter_cons_of_neg (by simp [isC, callOf])]
      exact h2
    · simp only [W7.pre, preL, List.append_nil, List.cons_append, List.nil_append]
      rw [List.filterMap_cons_some (b := (m, lv, kk)) (by rfl), List.filterMap_cons_none (by rfl), List.map_cons]
      exact .cons (.tup (tk' _ _ (tk2 _ _ hb1)) (.cons (.str _) (.cons (.int _) (.cons (.int _) .nil)))) h4
  | lrec ns =>
    obtain ⟨p, a, u, ws, rfl, hp, ha, hw, hu⟩ := at_rec hv
    have hkn : ks.length = ns.length + 1 := okl
    have hln : (tmL ks).length = ns.length + 1 := by rw [tmL_len]; exact hkn
    have hwl := hw.len
    rw [List.length_map, List.length_zip] at hwl
    refine ⟨_, rfl, tc (ixt hp (atI_nat (j := 0) rfl) ?_)⟩
    dsimp only [gName]
    refine ⟨_, rfl, rfl, _, rfl, ?_⟩
    rw [strE]
    rw [decide_eq_false (show ¬ ("rec" : Str) = "call" by decide +kernel)]
    refine iteF ?_
    refine ⟨_, rfl, rfl, _, rfl, ?_⟩
    rw [strE]
    rw [decide_eq_false (show ¬ ("rec" : Str) = "fn" by decide +kernel)]
    refine iteF ?_
    refine ⟨_, rfl, rfl, _, rfl, ?_⟩
    rw [strE]
    rw [decide_eq_false (show ¬ ("rec" : Str) = "do" by decide +kernel)]
    refine iteF ?_
    refine ⟨_, rfl, rfl, _, rfl, ?_⟩
    rw [strE]
    rw [decide_eq_false (show ¬ ("rec" : Str) = "if" by decide +kernel)]
    refine iteF ?_
    refine ⟨_, rfl, rfl, _, rfl, ?_⟩
    rw [strE]
    rw [decide_eq_false (show ¬ ("rec" : Str) = "set" by decide +kernel)]
    refine iteF ?_
    refine ⟨_, rfl, rfl, _, rfl, ?_⟩
    rw [strE]
    rw [decide_eq_true (show ("rec" : Str) = "rec" from rfl)]
    refine iteT ⟨_, rfl, tc (ixt hp (atI_nat (j := 1) rfl) ⟨a, rfl, ⟨_, SqT.of ha⟩, ?_⟩)⟩
    refine for_tupK (K := K) (fun i σ H' => ∃ y4 y5, σ = [some (.ref p), some (.ref ca), some (.ref sa), some (.str "rec"), y4, y5] ∧ Wk ca sa cl sl H H' (preL (ks.take i))) ⟨_, _, rfl, by rw [List.take_zero]; simp only [preL]; exact .refl hca hsa⟩ (fun i σ H' ⟨_, _, _, h⟩ => SqT.of (h.tk hca hsa _ _ ha)) ?_ ?_
    · rintro i x σ H1 hxi ⟨y4, y5, rfl, wk⟩
      obtain ⟨q2, hq2, hdq⟩ := DtAll.get_map (hw.tk (wk.tk hca hsa)) hxi
      obtain ⟨pp, u2, rfl, hpp, hu2⟩ := at_pair hdq
      have hds : (tmL ks)[i]? = some q2.2 := by
        rw [List.getElem?_zip_eq_some] at hq2
        exact hq2.2
      rw [tmL_map, List.getElem?_map] at hds
      cases hz : ks[i]? with
      | none => rw [hz] at hds; cases hds
      | some z =>
      rw [hz] at hds
      have hds := Option.some.inj hds
      rw [← hds] at hu2
      have hzm := List.mem_of_getElem? hz
      obtain ⟨cl2, sl2, e1, e2, l1, l2⟩ := wk.len
      have hle := preL_take_le ks (i + 1)
      rw [preL_take hz, List.length_append] at hle
      have hdz := dpL_mem hzm
      refine ⟨pp, _, rfl, SqT.of hpp, rfl, _, _, rfl, _, _, rfl, rfl, ?_⟩
      refine ⟨_, rfl, _, rfl, _, rfl, u2, ca, sa, z, _, _, rfl, hu2, okL_mem okk hzm, by omega, hcs, e1, e2, by rw [List.length_append]; omega, by rw [List.length_append]; omega, fun H2 wk2 => ?_⟩
      exact ⟨_, _, rfl, by rw [preL_take hz]; exact wk.more e1 e2 wk2⟩
    · rintro σ H1 ⟨y4, y5, rfl, wk⟩
      have hwn : ws.length = ns.length := by omega
      rw [hwn] at wk
      obtain ⟨b, hb⟩ : ∃ b, ks[ns.length]? = some b := ⟨_, List.getElem?_eq_getElem (by omega)⟩
      have hbm := List.mem_of_getElem? hb
      have ekb : ks.take (ns.length + 1) = ks := by rw [← hkn, List.take_length]
      have hpl := preL_take hb
      rw [ekb] at hpl
      have hub : Dt H u (tmD b) := by
        have : ((tmL ks).drop ns.length).headD .none = tmD b := by
          rw [List.headD_eq_head?_getD, List.head?_drop, tmL_map, List.getElem?_map, hb]
          rfl
        rw [this] at hu
        exact hu
      obtain ⟨cl2, sl2, e1, e2, l1, l2⟩ := wk.len
      have tk1 := wk.tk hca hsa
      have hdb := dpL_mem hbm
      rw [hpl, List.length_append] at hl1 hl2
      refine ⟨_, rfl, tc (ixt (tk1 _ _ hp) (atI_nat (j := 2) rfl) ⟨_, rfl, _, rfl, u, ca, sa, b, _, _, rfl, hub.tk tk1, okL_mem okk hbm, by omega, hcs, e1, e2, by rw [List.length_append]; omega, by rw [List.length_append]; omega, fun H2 wk2 => ?_⟩)⟩
      exact q H2 (wk_self rfl rfl (by rw [hpl]; exact wk.more e1 e2 wk2))
theorem walk_all {f : Addr} {fd : FuncData} (F : Dfn K mg "_law_walk" st__law_walk f fd ["term", "calls", "sets"]) (M : Mg mg) : ∀ n : Nat, Cal P w K mg base n "_law_walk" (spWalk n)
  | 0 => by
    have no : ∀ vs H Q E, ¬ spWalk 0 vs H Q E := fun vs H Q E h => by
      obtain ⟨_, _, _, _, _, _, _, _, _, h, _⟩ := h
      exact Nat.not_lt_zero _ h
    exact ⟨f, fd, _, ⟨fun vs H Q E h => absurd h (no vs H Q E), fun A outer s H args us vs Q E _ _ _ _ h => absurd h (no vs H Q E)⟩, F.mgf, F.fn.kp, F.b⟩
  | n + 1 => ok_walk F M (walk_all F M n)
end
end W7
set_option Elab.async false
set_option linter.all false
set_option maxRecDepth 100000
set_option maxHeartbeats 4000000
namespace W7
open PySem PySem.Spec PyProof.Rows L2 Com Kb StX
def mI : Option Nat → Int
  | none => -1
  | some n => (n : Int)
structure okJ (i : Itm) : Prop where
  o : okI i
  dp : dpT i.t ≤ 12
def csI (is : List Itm) : List Nat := (preI is).filterMap callOf
theorem csI_app (a : List Itm) (i : Itm) : csI (a ++ [i]) = csI a ++ cs i.t := by
  unfold csI cs
  rw [preI_app, preI_one, List.filterMap_append]
/-- the draws and the items -/
structure LS (td ia : Addr) (c : Nat) (is : List Itm) (H : Hp) : Prop where
  st : ST td c H
  ne : ia ≠ td
  it : ∃ ws, H ia = some (.lst ws) ∧ DtAll H ws (is.map itD)
  ok : ∀ i ∈ is, okJ i
  own : Own 100 c (csI is)
theorem LS.keep {td ia : Addr} {c c' : Nat} {is : List Itm} {H H' : Hp} (h : LS td ia c is H) (k : Keep td H H') (s : ST td c' H') (hc : c ≤ c') : LS td ia c' is H' := by
  obtain ⟨ws, h1, h2⟩ := h.it
  exact ⟨s, h.ne, ⟨ws, k _ _ h1 h.ne, h2.tk (h.st.tk k)⟩, h.ok, h.own.wide (Nat.le_refl _) hc⟩
theorem LS.same {td ia : Addr} {c : Nat} {is : List Itm} {H H' : Hp} (h : LS td ia c is H) (s : Same H H') : LS td ia c is H' := h.keep (.same s) (h.st.same s) (Nat.le_refl _)
theorem LS.add {td ia : Addr} {c : Nat} {is : List Itm} {H : Hp} {ws : List V} {v : V} {i : Itm} (h : LS td ia c is H) (hi : H ia = some (.lst ws)) (dv : Dt H v (itD i)) (ok : okJ i) (own : Own 100 c (csI is ++ cs i.t)) : LS td ia c (is ++ [i]) (L2.upd H ia (.lst (ws ++ [v]))) := by
  obtain ⟨ws', h1, h2⟩ := h.it
  rw [hi] at h1
  obtain rfl := HO.lst.inj (Option.some.inj h1)
  have tk : Tk H (L2.upd H ia (.lst (ws ++ [v]))) := Tk.upd fun ys z => by rw [hi] at z; cases z
  refine ⟨h.st.put h.ne, h.ne, ⟨_, upd_same, ?_⟩, fun j hj => ?_, by rw [csI_app]; exact own⟩
  · rw [List.map_append]
    exact (h2.tk tk).app (.one (dv.tk tk))
  · rcases List.mem_append.mp hj with z | z
    · exact h.ok j z
    · rw [List.mem_singleton.mp z]
      exact ok
theorem LS.len {td ia : Addr} {c : Nat} {is : List Itm} {H : Hp} (h : LS td ia c is H) : ∃ ws, H ia = some (.lst ws) ∧ ws.length = is.length := by
  obtain ⟨ws, h1, h2⟩ := h.it
  exact ⟨ws, h1, by rw [h2.len, List.length_map]⟩
theorem okJ_of {k : Str} {lv n L c c' m e : Nat} {t : Nd} (h : Md L c c' t m e) (hL : lv + (if k = "mac" then 1 else 0) = L) (hm : m ≤ 1000) (he : e ≤ 12) (hk : PyData.strOk k = true) : okJ ⟨k, lv, n, t⟩ := ⟨⟨h.ok, by show lvT (lv + _) t; rw [hL]; exact h.lv, Nat.le_trans h.sz hm, hk⟩, Nat.le_trans h.dp he⟩
theorem dt_item {H : Hp} {p : Addr} {k : Str} {lv n : Nat} {v : V} {t : Nd} (h : H p = some (.tup [.str k, .int (lv : Nat), .int (n : Nat), v])) (d : Dt H v (tmD t)) : Dt H (.ref p) (itD ⟨k, lv, n, t⟩) := .tup h (.cons (.str _) (.cons (.int _) (.cons (.int _) (.cons d .nil))))
theorem bads_filter (S : List Vr) (is : List Itm) (l : List Nd) : bads S is (l.filter isC) = bads S is l := by
  unfold bads
  induction l with
  | nil => rfl
  | cons t l ih =>
    cases h : bad S is t with
    | some n =>
      rw [List.filter_cons_of_pos (by unfold isC; rw [bad_call h]; rfl), List.filterMap_cons_some h, List.filterMap_cons_some h, ih]
    | none =>
      rw [List.filterMap_cons_none h]
      by_cases hc : isC t = true
      · rw [List.filter_cons_of_pos hc, List.filterMap_cons_none h, ih]
      · rw [List.filter_cons_of_neg hc, ih]
theorem okJ_mem {is : List Itm} (h : ∀ i ∈ is, okJ i) : ∀ i ∈ is, okI i := fun i hi => (h i hi).o
section
variable {P : Program} {w : World} {K : PySem.W.Frag} {mg : Str → Option Value} {base : Heap} {pS : Addr}
def spMany : Sp := fun vs H Q _ => ∃ x : Str, vs = [.str x] ∧ x ∈ primN ∧ ∀ H', Same H H' → Q (.int (mI (pm x))) H'
theorem ok_many {f : Addr} {fd : FuncData} (F : Dfn K mg "_law_many" st__law_many f fd ["name"]) (M : Mg mg) : Cal P w K mg base 1 "_law_many" spMany := by
  refine cal_mk F sc_law_many (fun vs H Q E h => ?_) (fun cdv A outer s H vs Q E hr h => ?_)
  · obtain ⟨x, rfl, _⟩ := h
    rfl
  obtain ⟨x, rfl, hx, q⟩ := h
  have hso : PyData.strOk x = true := by
    have : ∀ x ∈ primN, PyData.strOk x = true := by decide +kernel
    exact this x hx
  refine ⟨_, (pss_cons (ps_if (pt_cmpR (opInT K rfl (units65 hr)) (pv 0) (pe_tup (pa_cons pe_str (pa_cons pe_str (pa_cons pe_str (pa_cons pe_str pa_nil))))) (by rfl)) (pss_one (ps_ret pe_int)) pss_nil)
      (pss_one (ps_ret (pe_ifExp (pt_cmpR op_eq (pv 0) pe_str (nomark _)) (pe_op op_sub pe_int pe_int) pe_int)))), ?_⟩
  refine ⟨_, rfl, by show 4 ≤ sizeLine; decide, fun p np => in_strs (ls := ["+", "cons", "same?", "wrap"]) (by decide +kernel) hso upd_same ⟨_, rfl, ?_⟩⟩
  have q1 := q _ (same_upd (o := .tup ((["+", "cons", "same?", "wrap"] : List Str).map V.str)) np)
  unfold pm at q1
  by_cases h4 : x ∈ (["+", "cons", "same?", "wrap"] : List Str)
  · rw [decide_eq_true h4]
    have hl : ¬ x = "list" := by
      intro z
      subst z
      exact absurd h4 (by decide +kernel)
    rw [if_neg hl, if_pos h4] at q1
    exact iteT q1
  · rw [decide_eq_false h4]
    refine iteF ?_
    dsimp only [tNext]
    refine ⟨_, rfl, rfl, _, rfl, ?_⟩
    rw [strE]
    by_cases hl : x = "list"
    · rw [decide_eq_true hl]
      rw [if_pos hl] at q1
      exact iteT ⟨_, _, rfl, rfl, q1⟩
    · rw [decide_eq_false hl]
      rw [if_neg hl, if_neg h4] at q1
      exact iteF q1
end
end W7
set_option Elab.async false
set_option linter.all false
set_option maxRecDepth 100000
set_option maxHeartbeats 4000000
namespace W7
open PySem PySem.Spec PyProof.Rows L2 Com Kb StX
theorem kd_prim {l : Lab} (h : kd l = "prim") : ∃ x, l = .prim x := by
  cases l with
  | prim x => exact ⟨x, rfl⟩
  | con _ => exact absurd (show ("const" : Str) = "prim" from h) (by decide +kernel)
  | top _ _ _ _ => exact absurd (show ("top" : Str) = "prim" from h) (by decide +kernel)
  | fn _ => exact absurd (show ("fn" : Str) = "prim" from h) (by decide +kernel)
  | call _ => exact absurd (show ("call" : Str) = "prim" from h) (by decide +kernel)
  | cond => exact absurd (show ("if" : Str) = "prim" from h) (by decide +kernel)
  | seq => exact absurd (show ("do" : Str) = "prim" from h) (by decide +kernel)
  | set => exact absurd (show ("set" : Str) = "prim" from h) (by decide +kernel)
  | lrec _ => exact absurd (show ("rec" : Str) = "prim" from h) (by decide +kernel)
theorem kd_top {l : Lab} (h : kd l = "top") : ∃ a b c d, l = .top a b c d := by
  cases l with
  | top a b c d => exact ⟨a, b, c, d, rfl⟩
  | con _ => exact absurd (show ("const" : Str) = "top" from h) (by decide +kernel)
  | prim _ => exact absurd (show ("prim" : Str) = "top" from h) (by decide +kernel)
  | fn _ => exact absurd (show ("fn" : Str) = "top" from h) (by decide +kernel)
  | call _ => exact absurd (show ("call" : Str) = "top" from h) (by decide +kernel)
  | cond => exact absurd (show ("if" : Str) = "top" from h) (by decide +kernel)
  | seq => exact absurd (show ("do" : Str) = "top" from h) (by decide +kernel)
  | set => exact absurd (show ("set" : Str) = "top" from h) (by decide +kernel)
  | lrec _ => exact absurd (show ("rec" : Str) = "top" from h) (by decide +kernel)
theorem cut24 {a b c d e : V} : cutV [a, b, c, d, e] (some 2) (some 4) = [c, d] := by
  unfold cutV
  have e1 : HT.sIx [a, b, c, d, e].length 0 (some 2) = min 2 5 := HT.sIx_nat _ _ 2
  have e2 : HT.sIx [a, b, c, d, e].length [a, b, c, d, e].length (some 4) = min 4 5 := HT.sIx_nat _ _ 4
  rw [e1, e2]
  rfl
theorem cut24_no {a b c d e : V} : ¬ (HT.sIx [a, b, c, d, e].length 0 (some 2) = 0 ∧ HT.sIx [a, b, c, d, e].length [a, b, c, d, e].length (some 4) = [a, b, c, d, e].length) := by
  rintro ⟨h, _⟩
  have e1 : HT.sIx [a, b, c, d, e].length 0 (some 2) = min 2 5 := HT.sIx_nat _ _ 2
  rw [e1] at h
  exact absurd h (by show ¬ (2 = 0); decide)
section
variable {P : Program} {w : World} {K : PySem.W.Frag} {mg : Str → Option Value} {base : Heap} {pS : Addr}
def spLaw (K : PySem.W.Frag) : Sp := fun vs H Q _ => ∃ (a : Addr) (ns : List Int), vs = [.ref a] ∧ SqL K H a (ns.map V.int) ∧ ns.length ≤ 1000 ∧ ∀ H', Q (.bl true) H'
theorem tz3 : tz 3 = 191 := rfl
theorem tz4 : tz 4 = 767 := rfl
theorem ok_law {f : Addr} {fd : FuncData} (F : Dfn K mg "law" st_law f fd ["script"]) (M : Mg mg) (G_law_draws : Cal P w K mg base 1 "_law_draws" (spDraws K)) (G_law_next : Cal P w K mg base 1 "_law_next" spNext) (G_law_new : Cal P w K mg base 1 "_law_new" spNew) (G_law_term : Cal P w K mg base 11 "_law_term" (spTerm 5)) (G_law_walk : Cal P w K mg base 13 "_law_walk" (spWalk 13)) (G_law_many : Cal P w K mg base 1 "_law_many" spMany) (Gmiscounts : Cal P w K mg base 4 "miscounts" spMis) (G_law_same : Cal P w K mg base 11 "_law_same" (spSame K 10)) : FnOk P w K mg base CX0 20 f fd ["script"] (spLaw K) := by
  refine F.fn.ok sclaw (fun vs H Q E h => ?_) (fun cdv A outer s H vs Q E hr h => ?_)
  · obtain ⟨a, ns, rfl, _⟩ := h
    rfl
  obtain ⟨a, ns, rfl, hS, hl, q⟩ := h
  have hsl : sizeLine = 16777216 := sizeLine_eq
  have e3 := tz3
  have e4 := tz4
  refine ⟨_, (pss_cons (ps_set (i := 1) sclaw.nd rfl (.inr rfl) (pe_op op_cat (pe_lst (pa_cons pe_int pa_nil)) (pe_c G_law_draws hr (by omega) (by rfl) (pa_cons (pv 0) (pa_cons pe_int pa_nil)))))
      (pss_cons (ps_set (i := 2) sclaw.nd rfl (.inl rfl) (pe_lst pa_nil))
      (pss_cons (ps_for PassesOwn.never rfl (pi_range1 (by rfl) M.range (pa_cons pe_int pa_nil)) (pg_name (i := 3) sclaw.nd rfl (.inl rfl))
      (pss_cons (ps_for PassesOwn.never rfl (pi_range1 (by rfl) M.range (pa_cons (pe_c G_law_next hr (by omega) (by rfl) (pa_cons (pv 1) (pa_cons pe_int pa_nil))) pa_nil)) (pg_name (i := 4) sclaw.nd rfl (.inl rfl))
      (pss_cons (ps_set (i := 5) sclaw.nd rfl (.inl rfl) (pe_c G_law_term hr (by omega) (by rfl) (pa_cons (pv 1) (pa_cons (pv 3) (pa_cons pe_int pa_nil)))))
      (pss_cons (ps_if (pt_cmpR op_eq (pe_c G_law_next hr (by omega) (by rfl) (pa_cons (pv 1) (pa_cons pe_int pa_nil))) pe_int (nomark _)) (pss_one (ps_set (i := 5) sclaw.nd rfl (.inl rfl) (pe_tup (pa_cons pe_str (pa_cons (pe_callTy (cTup K rfl) (by rfl) M.tuple b_tuple (pa_cons (pe_lc (own := [("j", 14)]) (g := gName 14) (by rfl) sclaw.nd (pi_range1 (by rfl) M.range (pa_cons (pe_c G_law_next hr (by omega) (by rfl) (pa_cons (pv 1) (pa_cons pe_int pa_nil))) pa_nil)) (blkOk_by (own := [("j", 14)]) (N := ["script", "draws", "items", "level", "k", "term", "calls", "sets", "item", "found", "first", "many", "kind", "other", "j"]) (sc := defScope st_law) (by decide +kernel)) (fun _ _ _ _ _ => (pg_name (i := 14) sclaw.nd rfl (.inl rfl))) (fun _ _ _ _ _ => pts_nil) (fun _ _ _ _ _ => (pe_c G_law_new hr (by omega) (by rfl) (pa_cons (pv 1) pa_nil)))) pa_nil)) (pa_cons (pe_c G_law_term hr (by omega) (by rfl) (pa_cons (pv 1) (pa_cons (pv 3) (pa_cons pe_int pa_nil)))) pa_nil)))))) pss_nil)
      (pss_one (ps_expr (pe_bm PySem.F.plainAttrs_list PySem.F.slot_list_append PySem.F.type_list_append mt_append (pv 2) (pa_cons (pe_tup (pa_cons pe_str (pa_cons (pv 3) (pa_cons (pv 4) (pa_cons (pv 5) pa_nil))))) pa_nil)))))))
      (pss_cons (ps_for PassesOwn.never rfl (pi_range1 (by rfl) M.range (pa_cons (pe_c G_law_next hr (by omega) (by rfl) (pa_cons (pv 1) (pa_cons pe_int pa_nil))) pa_nil)) (pg_name (i := 4) sclaw.nd rfl (.inl rfl))
      (pss_one (ps_expr (pe_bm PySem.F.plainAttrs_list PySem.F.slot_list_append PySem.F.type_list_append mt_append (pv 2) (pa_cons (pe_tup (pa_cons pe_str (pa_cons (pv 3) (pa_cons pe_int (pa_cons (pe_c G_law_term hr (by omega) (by rfl) (pa_cons (pv 1) (pa_cons (pv 3) (pa_cons pe_int pa_nil)))) pa_nil))))) pa_nil)))))
      (pss_one (ps_if (PW.pt (pw_and (pt_cmpR op_gt (pv 3) pe_int (nomark _)) (pw_and1 (pt_cmpR op_eq (pe_c G_law_next hr (by omega) (by rfl) (pa_cons (pv 1) (pa_cons pe_int pa_nil))) pe_int (nomark _))))) (pss_one (ps_expr (pe_bm PySem.F.plainAttrs_list PySem.F.slot_list_append PySem.F.type_list_append mt_append (pv 2) (pa_cons (pe_tup (pa_cons pe_str (pa_cons (pe_op op_sub (pv 3) pe_int) (pa_cons (pe_c G_law_next hr (by omega) (by rfl) (pa_cons (pv 1) (pa_cons pe_int pa_nil))) (pa_cons (pe_c G_law_term hr (by omega) (by rfl) (pa_cons (pv 1) (pa_cons (pv 3) (pa_cons pe_int pa_nil)))) pa_nil))))) pa_nil)))) pss_nil)))))
      (pss_cons (ps_par (i := 6) (j := 7) (by rfl) sclaw.nd rfl rfl (by decide) rfl rfl (pa_cons (pe_lst pa_nil) (pa_cons (pe_lst pa_nil) pa_nil)) (by rfl))
      (pss_cons (ps_for PassesOwn.never rfl (pi_list (pv 2)) (pg_name (i := 8) sclaw.nd rfl (.inl rfl))
      (pss_one (ps_expr (pe_c G_law_walk hr (by omega) (by rfl) (pa_cons (pe_ix (ixT K rfl) (pv 8) pe_int (fun _ _ => rfl)) (pa_cons (pv 6) (pa_cons (pv 7) pa_nil)))))))
      (pss_cons (ps_set (i := 9) sclaw.nd rfl (.inl rfl) (pe_lst pa_nil))
      (pss_cons (ps_for PassesOwn.never rfl (pi_list (pv 6)) (pg_name (i := 5) sclaw.nd rfl (.inl rfl))
      (pss_cons (ps_set (i := 10) sclaw.nd rfl (.inl rfl) (pe_ix (ixT K rfl) (pv 5) pe_int (fun _ _ => rfl)))
      (pss_cons (ps_set (i := 11) sclaw.nd rfl (.inl rfl) (pe_op op_sub pe_int pe_int))
      (pss_cons (ps_if (pt_cmpR op_eq (pe_ix (ixT K rfl) (pv 10) pe_int (fun _ _ => rfl)) pe_str (nomark _)) (pss_one (ps_set (i := 11) sclaw.nd rfl (.inl rfl) (pe_callB (cLen K rfl) (by rfl) M.len b_len (pa_cons (pe_ix (ixT K rfl) (pv 10) pe_int (fun _ _ => rfl)) pa_nil)))) (pss_one (ps_if (pt_cmpR op_eq (pe_ix (ixT K rfl) (pv 10) pe_int (fun _ _ => rfl)) pe_str (nomark _)) (pss_one (ps_set (i := 11) sclaw.nd rfl (.inl rfl) (pe_c G_law_many hr (by omega) (by rfl) (pa_cons (pe_ix (ixT K rfl) (pv 10) pe_int (fun _ _ => rfl)) pa_nil)))) (pss_one (ps_if (PW.pt (pw_and (pt_cmpR op_eq (pe_ix (ixT K rfl) (pv 10) pe_int (fun _ _ => rfl)) pe_str (nomark _)) (pw_and (pt_cmpR op_eq (pe_ix (ixT K rfl) (pv 10) pe_int (fun _ _ => rfl)) pe_str (nomark _)) (pw_and1 (pt_cmpR (opNotInD K rfl (units65 hr)) (pe_slice (slA K rfl) (pv 10) (po_some pe_int) (po_some pe_int)) (pv 7) (by rfl)))))) (pss_one (ps_for PassesOwn.never rfl (pi_list (pv 2)) (pg_tup rfl (pgs_cons (pg_name (i := 12) sclaw.nd rfl (.inl rfl)) (pgs_cons (pg_name (i := 3) sclaw.nd rfl (.inl rfl)) (pgs_cons (pg_name (i := 4) sclaw.nd rfl (.inl rfl)) (pgs_cons (pg_name (i := 13) sclaw.nd rfl (.inl rfl)) pgs_nil)))))
      (pss_one (ps_if (PW.pt (pw_and (pt_cmpR op_eq (pv 12) pe_str (nomark _)) (pw_and (pt_cmpR (opEqD K rfl hr.units) (pe_tup (pa_cons (pv 3) (pa_cons (pv 4) pa_nil))) (pe_slice (slA K rfl) (pv 10) (po_some pe_int) (po_some pe_int)) (nomark _)) (pw_and1 (pt_cmpR op_eq (pe_ix (ixT K rfl) (pv 13) pe_int (fun _ _ => rfl)) pe_str (nomark _)))))) (pss_one (ps_set (i := 11) sclaw.nd rfl (.inl rfl) (pe_callB (cLen K rfl) (by rfl) M.len b_len (pa_cons (pe_ix (ixT K rfl) (pv 13) pe_int (fun _ _ => rfl)) pa_nil)))) pss_nil)))) pss_nil)))))
      (pss_one (ps_if (PW.pt (pw_and (pt_cmpR op_ge (pv 11) pe_int (nomark _)) (pw_and1 (pt_cmpR op_ne (pv 11) (pe_callB (cLen K rfl) (by rfl) M.len b_len (pa_cons (pe_ix (ixT K rfl) (pv 5) pe_int (fun _ _ => rfl)) pa_nil)) (nomark _))))) (pss_one (ps_expr (pe_bm PySem.F.plainAttrs_list PySem.F.slot_list_append PySem.F.type_list_append mt_append (pv 9) (pa_cons (pe_ix (ixT K rfl) (pv 5) pe_int (fun _ _ => rfl)) pa_nil)))) pss_nil))))))
      (pss_one (ps_ret (pe_c G_law_same hr (by omega) (by rfl) (pa_cons (pe_c Gmiscounts hr (by omega) (by rfl) (pa_cons (pe_tup (pa_cons pe_str (pa_cons pe_str (pa_cons (pe_tup pa_nil) (pa_cons (pe_tup pa_nil) (pa_cons (pe_tup pa_nil) (pa_cons (pe_callTy (cTup K rfl) (by rfl) M.tuple b_tuple (pa_cons (pv 2) pa_nil)) pa_nil))))))) pa_nil)) (pa_cons (pe_callB (cSort K rfl (units65 hr)) (by rfl) M.sorted b_sorted (pa_cons (pv 9) pa_nil)) pa_nil)))))))))))), ?_⟩
  -- draws
  refine ⟨by show 1 ≤ sizeLine; decide, fun l0 nl0 => ?_⟩
  have s0 := same_upd (o := .lst [V.int 100]) nl0
  have hl0 := upd_same (H := H) (a := l0) (o := .lst [V.int 100])
  have hS0 : SqL K (L2.upd H l0 (.lst [V.int 100])) a (ns.map V.int) := s0.seq hS
  generalize L2.upd H l0 (.lst [V.int 100]) = H0 at s0 hl0 hS0 ⊢
  refine ⟨_, rfl, a, ns, 1500, rfl, hS0, hl, by decide, fun l1 H1 xs hxl s1 nl1 hl1 => ?_⟩
  refine ⟨l0, l1, _, _, rfl, rfl, s1 _ _ hl0, hl1, by rw [List.length_map, hxl]; show 1 + 1500 ≤ 2 ^ 24; decide, fun td ntd => ?_⟩
  have h2 : ST td 100 (L2.upd H1 td (.lst ([V.int 100] ++ xs.map V.int))) := ⟨xs, upd_same⟩
  dsimp only [gName]
  generalize L2.upd H1 td (.lst ([V.int 100] ++ xs.map V.int)) = H2 at h2 ⊢
  -- items
  refine ⟨Nat.zero_le _, fun ia nia => ?_⟩
  dsimp only [gName]
  have hia := h2.ne nia
  have L3 : LS td ia 100 [] (L2.upd H2 ia (.lst [])) := ⟨h2.same (same_upd nia), hia, ⟨[], upd_same, .nil⟩, (fun _ z => by cases z), by show Own 100 100 []; exact .nil (Nat.le_refl _)⟩
  generalize L2.upd H2 ia (.lst []) = H3 at L3 ⊢
  refine ⟨4, rfl, by omega, by omega, for_range (lo := 0) (n := 4) (fun lv σ H' => ∃ (c : Nat) (is : List Itm) (y3 y4 y5 : Option V), σ = [some (.ref a), some (.ref td), some (.ref ia), y3, y4, y5, none, none, none, none, none, none, none, none, none] ∧ LS td ia c is H' ∧ is.length ≤ 10 * lv) ⟨100, [], none, none, none, rfl, L3, Nat.le_refl _⟩ ?_ ?_⟩
  · rintro lv σ H4 hlv ⟨c, is, y3, y4, y5, rfl, L4, hn⟩
    have e0 : (0 : Int) + (lv : Int) = (lv : Int) := Int.zero_add _
    rw [e0]
    dsimp only [gName]
    -- defs
    refine seq_split (t1 := tFor _ _ _) (fun σ' H' => ∃ (c : Nat) (is : List Itm) (y4 y5 : Option V), σ' = [some (.ref a), some (.ref td), some (.ref ia), some (.int (lv : Nat)), y4, y5, none, none, none, none, none, none, none, none, none] ∧ LS td ia c is H' ∧ is.length ≤ 10 * lv + 3) ?_ (fun J => ?_)
    case refine_2 =>
      refine ⟨_, rfl, td, _, c, rfl, L4.st, by decide, fun m H5 hm0 hm4 k5 h5 => ⟨m, rfl, by omega, by omega, ?_⟩⟩
      have L5 := L4.keep k5 h5 (Nat.le_refl _)
      refine for_range (lo := 0) (n := m.toNat) (fun i σ H' => ∃ (c : Nat) (is : List Itm) (y4 y5 : Option V), σ = [some (.ref a), some (.ref td), some (.ref ia), some (.int (lv : Nat)), y4, y5, none, none, none, none, none, none, none, none, none] ∧ LS td ia c is H' ∧ is.length ≤ 10 * lv + i) ⟨c, is, _, _, rfl, L5, by omega⟩ ?_ ?_
      · rintro i σ H6 hi ⟨c, is, y4, y5, rfl, L6, hn⟩
        have e0 : (0 : Int) + (i : Int) = (i : Int) := Int.zero_add _
        rw [e0]
        dsimp only [gName]
        refine ⟨_, rfl, _, rfl, td, lv, 3, c, rfl, by decide, by decide, L6.st, fun v t c1 H7 dv md k7 h7 => ?_⟩
        dsimp only [gName]
        have hc1 := md.own.le
        refine seq_split (t1 := tIfS _ _ _) (fun σ' H' => ∃ (c2 : Nat) (v : V) (t : Nd), σ' = [some (.ref a), some (.ref td), some (.ref ia), some (.int (lv : Nat)), some (.int (i : Nat)), some v, none, none, none, none, none, none, none, none, none] ∧ LS td ia c2 is H' ∧ Dt H' v (tmD t) ∧ Md lv c c2 t 1000 12) ?_ (fun J2 => ?_)
        case refine_2 =>
          refine ⟨_, rfl, td, _, c1, rfl, h7, by decide, fun r H8 hr0 hr2 k8 h8 => ⟨rfl, _, rfl, ?_⟩⟩
          have L8 := (L6.keep k7 h7 hc1).keep k8 h8 (Nat.le_refl _)
          by_cases er : V.int r = V.int 0
          case neg =>
            rw [decide_eq_false er]
            refine iteF ?_
            dsimp only [tNext]
            exact J2 _ _ ⟨c1, v, t, rfl, L8, dv.tk (h7.tk k8), md.wide (Nat.le_refl _) (Nat.le_refl _) (by omega) (by omega)⟩
          rw [decide_eq_true er]
          refine iteT ⟨_, rfl, td, _, c1, rfl, h8, by decide, fun m2 H9 hm20 hm24 k9 h9 => ⟨m2, rfl, by omega, by omega, fun D nD => ?_⟩⟩
          have L9 := L8.keep k9 h9 (Nat.le_refl _)
          have hDtd := h9.ne nD
          have hDia : D ≠ ia := fun z => by
            obtain ⟨ws, e, _⟩ := L9.it
            rw [z, e] at nD
            cases nD
          refine lc_range (lo := 0) (n := m2.toNat) (fun i H' => Keep td H9 H' ∧ ∃ (c2 : Nat) (ns : List Nat), ST td c2 H' ∧ c1 ≤ c2 ∧ ns.length = i ∧ H' D = some (.lst (natV ns))) ⟨Keep.new nD, c1, [], h9.put hDtd, Nat.le_refl _, rfl, upd_same⟩ ?_ ?_
          · rintro j H10 hj ⟨k10, c2, ns, h10, hc2, hnl, hD10⟩
            refine ⟨rfl, ?_⟩
            unfold tYes
            refine iteT ⟨_, rfl, td, c2, rfl, h10, fun H11 k11 h11 => ⟨_, k11 D _ hD10 hDtd, by rw [natV_len]; show _ < 2 ^ 24; omega, fun b o e n => ?_, c2 + 1, ns ++ [c2 + 1], h11.put hDtd, by omega, by rw [List.length_append, hnl]; rfl, ?_⟩⟩
            · rw [upd_ne (ne_of_none e nD)]
              exact (k10.trans k11) b o e n
            · rw [upd_same, natV_app]
              rfl
          · rintro H10 ⟨k10, c2, ns, h10, hc2, hnl, hD10⟩
            refine ⟨D, _, rfl, .inl ⟨SqL.of hD10, fun ta nta => ?_⟩⟩
            have s11 := same_upd (o := .tup (natV ns)) nta
            have ha11 := upd_same (H := H10) (a := ta) (o := .tup (natV ns))
            have L11 := (L9.keep k10 h10 hc2).same s11
            have hta := h10.ne nta
            generalize L2.upd H10 ta (.tup (natV ns)) = H11 at s11 ha11 L11 ⊢
            refine ⟨_, rfl, _, rfl, td, lv, 3, c2, rfl, by decide, by decide, L11.st, fun v2 t2 c3 H12 dv2 md2 k12 h12 => ⟨by show 3 ≤ sizeLine; decide, fun p np => ?_⟩⟩
            have s13 := same_upd (o := .tup [.str "fn", .ref ta, v2]) np
            dsimp only [gName]
            refine J2 _ _ ⟨c3, _, .mk (.fn ns) [t2], rfl, (L11.keep k12 h12 md2.own.le).same s13, ?_, ?_⟩
            · simp only [tmD, tmL]
              exact .tup upd_same (.cons (.str _) (.cons (.tup (s13 _ _ (k12 ta _ ha11 hta)) (nat_dt _ ns)) (.cons (dv2.tk (same_tk s13)) .nil)))
            · exact (Md.node (l := .fn ns) (e' := 8) (MdL.one md2) ⟨rfl, by omega⟩ (by simp) rfl True.intro (Nat.le_refl _)).wide (show c ≤ c2 by omega) (Nat.le_refl _) (by omega) (by omega)
        rintro σ' H8 ⟨c2, v, t, rfl, L8, dv8, md8⟩
        obtain ⟨ws, hia8, hwl⟩ := L8.len
        refine ⟨_, rfl, .inl ⟨rfl, _, SqL.of hia8⟩, _, rfl, _, rfl, _, rfl, by show 4 ≤ sizeLine; decide, fun p np => ?_⟩
        have s9 := same_upd (o := .tup [.str "def", .int (lv : Nat), .int (i : Nat), v]) np
        have hia9 := s9 _ _ hia8
        have L9 := L8.same s9
        refine ⟨ia, ws, _, rfl, rfl, hia9, by show _ < 2 ^ 24; omega, ?_⟩
        have oj : okJ ⟨"def", lv, i, t⟩ := okJ_of md8 (by rw [if_neg (by decide +kernel)]; rfl) (Nat.le_refl _) (Nat.le_refl _) (by decide +kernel)
        exact ⟨c2, _, _, _, rfl, L9.add hia9 (dt_item upd_same (dv8.tk (same_tk s9))) oj ((L6.own).app md8.own), by rw [List.length_append, List.length_singleton]; omega⟩
      · rintro σ H6 ⟨c, is, y4, y5, rfl, L6, hn⟩
        exact J _ _ ⟨c, is, y4, y5, rfl, L6, by omega⟩
    rintro σ' H5 ⟨c, is, y4, y5, rfl, L5, hn⟩
    -- exprs
    refine seq_split (t1 := tFor _ _ _) (fun σ' H' => ∃ (c : Nat) (is : List Itm) (y4 y5 : Option V), σ' = [some (.ref a), some (.ref td), some (.ref ia), some (.int (lv : Nat)), y4, y5, none, none, none, none, none, none, none, none, none] ∧ LS td ia c is H' ∧ is.length ≤ 10 * lv + 5) ?_ (fun J => ?_)
    case refine_2 =>
      refine ⟨_, rfl, td, _, c, rfl, L5.st, by decide, fun m H6 hm0 hm3 k6 h6 => ⟨m, rfl, by omega, by omega, ?_⟩⟩
      have L6 := L5.keep k6 h6 (Nat.le_refl _)
      refine for_range (lo := 0) (n := m.toNat) (fun i σ H' => ∃ (c : Nat) (is : List Itm) (y4 y5 : Option V), σ = [some (.ref a), some (.ref td), some (.ref ia), some (.int (lv : Nat)), y4, y5, none, none, none, none, none, none, none, none, none] ∧ LS td ia c is H' ∧ is.length ≤ 10 * lv + 3 + i) ⟨c, is, _, _, rfl, L6, by omega⟩ ?_ ?_
      · rintro i σ H7 hi ⟨c, is, y4, y5, rfl, L7, hn⟩
        dsimp only [gName]
        obtain ⟨ws0, hia7, hwl0⟩ := L7.len
        refine ⟨_, rfl, .inl ⟨rfl, _, SqL.of hia7⟩, _, rfl, _, rfl, _, rfl, td, lv, 4, c, rfl, by decide, by decide, L7.st, fun v t c1 H8 dv md k8 h8 => ⟨by show 4 ≤ sizeLine; decide, fun p np => ?_⟩⟩
        have L8 := L7.keep k8 h8 md.own.le
        obtain ⟨ws, hia8, hwl⟩ := L8.len
        have s9 := same_upd (o := .tup [.str "expr", .int (lv : Nat), .int 0, v]) np
        have hia9 := s9 _ _ hia8
        refine ⟨ia, ws, _, rfl, rfl, hia9, by show _ < 2 ^ 24; omega, ?_⟩
        have oj : okJ ⟨"expr", lv, 0, t⟩ := okJ_of md (by rw [if_neg (by decide +kernel)]; rfl) (by omega) (by omega) (by decide +kernel)
        exact ⟨c1, _, _, _, rfl, (L8.same s9).add hia9 (dt_item (n := 0) upd_same (dv.tk (same_tk s9))) oj ((L7.own).app md.own), by rw [List.length_append, List.length_singleton]; omega⟩
      · rintro σ H7 ⟨c, is, y4, y5, rfl, L7, hn⟩
        exact J _ _ ⟨c, is, y4, y5, rfl, L7, by omega⟩
    rintro σ' H6 ⟨c, is, y4, y5, rfl, L6, hn⟩
    -- macs
    refine ⟨_, rfl, _, _, rfl, rfl, _, rfl, ?_⟩
    by_cases hl0 : (0 : Int) < ((lv : Nat) : Int)
    case neg =>
      rw [decide_eq_false hl0]
      refine iteF (iteF ?_)
      dsimp only [tNext]
      exact ⟨c, is, _, _, _, rfl, L6, by omega⟩
    rw [decide_eq_true hl0]
    refine iteT ⟨_, rfl, td, _, c, rfl, L6.st, by decide, fun r H7 hr0 hr2 k7 h7 => ⟨rfl, _, rfl, ?_⟩⟩
    have L7 := L6.keep k7 h7 (Nat.le_refl _)
    by_cases er : V.int r = V.int 0
    case neg =>
      rw [decide_eq_false er]
      refine iteF ?_
      dsimp only [tNext]
      exact ⟨c, is, _, _, _, rfl, L7, by omega⟩
    rw [decide_eq_true er]
    obtain ⟨ws0, hia7, hwl0⟩ := L7.len
    obtain ⟨lv', rfl⟩ : ∃ e, lv = e + 1 := ⟨lv - 1, by omega⟩
    have elv : (((lv' + 1 : Nat) : Int) - 1) = ((lv' : Nat) : Int) := by omega
    refine iteT ⟨_, rfl, .inl ⟨rfl, _, SqL.of hia7⟩, _, rfl, _, _, rfl, rfl, _, rfl, td, _, c, rfl, h7, by decide, fun i H8 hi0 hi3 k8 h8 => ?_⟩
    obtain ⟨i', rfl⟩ : ∃ i' : Nat, i = (i' : Int) := ⟨i.toNat, by omega⟩
    have L8 := L7.keep k8 h8 (Nat.le_refl _)
    refine ⟨_, rfl, _, rfl, td, lv' + 1, 4, c, rfl, by decide, by decide, h8, fun v t c1 H9 dv md k9 h9 => ⟨by show 4 ≤ sizeLine; decide, fun p np => ?_⟩⟩
    dsimp only
    rw [elv]
    have L9 := L8.keep k9 h9 md.own.le
    obtain ⟨ws, hia9, hwl⟩ := L9.len
    have s10 := same_upd (o := .tup [.str "mac", .int (lv' : Nat), .int (i' : Nat), v]) np
    have hia10 := s10 _ _ hia9
    refine ⟨ia, ws, _, rfl, rfl, hia10, by show _ < 2 ^ 24; omega, ?_⟩
    have oj : okJ ⟨"mac", lv', i', t⟩ := okJ_of md (by rw [if_pos (by decide +kernel)]) (by omega) (by omega) (by decide +kernel)
    exact ⟨c1, _, _, _, _, rfl, (L9.same s10).add hia10 (dt_item upd_same (dv.tk (same_tk s10))) oj ((L8.own).app md.own), by rw [List.length_append, List.length_singleton]; omega⟩
  rintro σ H4 ⟨c, is, y3, y4, y5, rfl, L4, hn⟩
  obtain ⟨c0, rfl⟩ : ∃ e, e = c := ⟨c, rfl⟩
  obtain ⟨iws, hia4, diws⟩ := L4.it
  have hiw := diws.len
  rw [List.length_map] at hiw
  have oki := okJ_mem L4.ok
  have hbig := preI_len oki
  -- calls, sets
  refine ⟨Nat.zero_le _, fun ca nca => ⟨Nat.zero_le _, fun sa nsa => ⟨_, _, rfl, ?_⟩⟩⟩
  have s5 := same_upd (o := .lst []) nca
  have s6 := same_upd (o := .lst []) nsa
  have hca6 := s6 _ _ (upd_same (H := H4) (a := ca) (o := .lst []))
  have hsa6 := upd_same (H := L2.upd H4 ca (.lst [])) (a := sa) (o := .lst [])
  have s56 := same_trans s5 s6
  have hcs : ca ≠ sa := fun z => by rw [← z, upd_same] at nsa; cases nsa
  have nsa4 := Same.nn s5 nsa
  generalize L2.upd (L2.upd H4 ca (.lst [])) sa (.lst []) = H6 at hca6 hsa6 s56 ⊢
  have hia6 := s56 _ _ hia4
  have diws6 := diws.tk (same_tk s56)
  have hiac : ia ≠ ca := fun z => by rw [z, nca] at hia4; cases hia4
  have hias : ia ≠ sa := fun z => by rw [z, nsa4] at hia4; cases hia4
  refine ⟨_, rfl, ia, rfl, ⟨_, SqL.of hia6⟩, ?_⟩
  refine for_list (K := K) (fun i σ H' => ∃ (y8 : Option V), σ = [some (.ref a), some (.ref td), some (.ref ia), y3, y4, y5, some (.ref ca), some (.ref sa), y8, none, none, none, none, none, none] ∧ Wk ca sa [] [] H6 H' (preI (is.take i))) ⟨_, rfl, .refl hca6 hsa6⟩ (fun i σ H' _ ⟨_, _, h⟩ => SqL.of (h.1 _ _ hia6 hiac hias)) ?_ ?_
  · rintro i x σ H7 hxi ⟨y8, rfl, wk⟩
    obtain ⟨it, hit, hdx⟩ := DtAll.get_map (diws6.tk (wk.tk hca6 hsa6)) hxi
    have hitm := List.mem_of_getElem? hit
    obtain ⟨pit, u, rfl, hpit, hu⟩ := at_item hdx
    obtain ⟨cl2, sl2, e1, e2, l1, l2⟩ := wk.len
    have hsz := (oki it hitm).sz
    have hpl := preI_len (is := is.take i) fun j hj => oki j (List.mem_of_mem_take hj)
    have htl : (is.take i).length ≤ is.length := by rw [List.length_take]; omega
    have hdp := (L4.ok it hitm).dp
    dsimp only [gName]
    rw [List.nil_append] at e1 e2
    refine ⟨_, rfl, tc (ixt hpit (atI_nat (j := 3) rfl) ⟨_, rfl, _, rfl, u, ca, sa, it.t, cl2, sl2, rfl, hu, (oki it hitm).ok, by omega, hcs, e1, e2, by omega, by omega, fun H8 wk2 => ?_⟩)⟩
    refine ⟨_, rfl, ?_⟩
    rw [preI_take hit]
    exact Wk.more wk (cl2 := cl2) (sl2 := sl2) (by rw [List.nil_append]; exact e1) (by rw [List.nil_append]; exact e2) (by rw [List.nil_append, List.nil_append]; exact wk2)
  rintro σ H7 ⟨y8, rfl, wk⟩
  rw [hiw, List.take_length] at wk
  have tk7 := wk.tk hca6 hsa6
  obtain ⟨k7, cws, sws, hca7, dcws, hsa7, dsws⟩ := wk
  rw [List.nil_append] at hca7 hsa7
  have hia7 := k7 _ _ hia6 hiac hias
  have diws7 := diws6.tk tk7
  obtain ⟨S, hS⟩ : ∃ S, S = setsI is := ⟨_, rfl⟩
  have dsws : DtAll H7 sws (S.map vrD) := by rw [hS]; exact dsws
  have hcl := dcws.len
  rw [List.length_map] at hcl
  have hclb : ((preI is).filter isC).length ≤ (preI is).length := List.length_filter_le _ _
  have okc : ∀ t ∈ (preI is).filter isC, okT t ∧ ∃ it ∈ is, t ∈ pre it.t := fun t ht => by
    have h1 := (List.mem_filter.mp ht).1
    obtain ⟨it, hit, h2⟩ := List.mem_flatMap.mp h1
    exact ⟨ok_pre _ (oki it hit).ok t h2, it, hit, h2⟩
  have hSm : ∀ x ∈ S, x.1 = "m" ∨ x.1 = "other" := fun x hx => by
    rw [hS] at hx
    obtain ⟨t, ht, hso⟩ := List.mem_filterMap.mp hx
    obtain ⟨it, hit, h2⟩ := List.mem_flatMap.mp ht
    have okt := ok_pre _ (oki it hit).ok t h2
    obtain ⟨l, ks⟩ := t
    by_cases hl : l = .set
    · subst hl
      simp only [okT] at okt
      obtain ⟨m, lv, k, sp, v, rfl⟩ := okt.1
      have e : x = (m, lv, k) := by
        have : setOf (.mk .set [.mk (.top m lv k sp) [], v]) = some (m, lv, k) := rfl
        rw [this] at hso
        exact (Option.some.inj hso).symm
      have h3 := okt.2.2
      simp only [okL, okT] at h3
      rw [e]
      exact h3.1.1.2
    · rw [setOf_none hl] at hso
      cases hso
  -- found
  refine ⟨Nat.zero_le _, fun fo nfo => ?_⟩
  dsimp only [gName]
  have s8 := same_upd (o := .lst []) nfo
  have hfo8 := upd_same (H := H7) (a := fo) (o := .lst [])
  have hne : ∀ {b o}, H7 b = some o → b ≠ fo := fun e => ne_of_none e nfo
  have hca8 := s8 _ _ hca7
  have hsa8 := s8 _ _ hsa7
  have hia8 := s8 _ _ hia7
  have dcws8 := dcws.tk (same_tk s8)
  have dsws8 := dsws.tk (same_tk s8)
  have diws8 := diws7.tk (same_tk s8)
  have nca7 := hne hca7
  have nsa7 := hne hsa7
  have nia7 := hne hia7
  generalize L2.upd H7 fo (.lst []) = H8 at s8 hfo8 hca8 hsa8 hia8 dcws8 dsws8 diws8 ⊢
  refine ⟨_, rfl, ca, rfl, ⟨_, SqL.of hca8⟩, ?_⟩
  refine for_list (K := K) (fun i σ H' => ∃ (y3 y4 y5 y8 y10 y11 y12 y13 : Option V) (fws : List V), σ = [some (.ref a), some (.ref td), some (.ref ia), y3, y4, y5, some (.ref ca), some (.ref sa), y8, some (.ref fo), y10, y11, y12, y13, none] ∧ Keep fo H8 H' ∧ H' fo = some (.lst fws) ∧ DtAll H' fws ((bads S is (((preI is).filter isC).take i)).map spD)) ⟨_, _, _, _, _, _, _, _, [], rfl, Keep.refl _ _, hfo8, .nil⟩ (fun i σ H' _ ⟨_, _, _, _, _, _, _, _, _, _, k, _⟩ => SqL.of (k _ _ hca8 nca7)) ?_ ?_
  · rintro i x σ H9 hxi ⟨y3, y4, y5, y8, y10, y11, y12, y13, fws, rfl, k9, hfo9, dfws⟩
    have tk9 : Tk H8 H9 := k9.tk hfo8
    obtain ⟨t, ht, hdx⟩ := DtAll.get_map (dcws8.tk tk9) hxi
    have htm := List.mem_of_getElem? ht
    obtain ⟨okt, it0, hit0, hpre⟩ := okc t htm
    have hisc : isC t = true := (List.mem_filter.mp htm).2
    obtain ⟨l, ks⟩ := t
    obtain ⟨sp, rfl⟩ : ∃ sp, l = .call sp := by
      cases l with
      | call sp => exact ⟨sp, rfl⟩
      | _ => simp [isC, callOf] at hisc
    obtain ⟨h, as, rfl, okh, has⟩ := call_parts okt
    simp only [tmD, tmL] at hdx
    obtain ⟨pz, uh, pa, po, wa, rfl, hpz, dh, hpa, da, hpo⟩ := at_call hdx
    have hal := da.len
    rw [tmL_map, List.length_map] at hal
    have hflen := dfws.len
    rw [List.length_map] at hflen
    have hfb := bads_len S is (((preI is).filter isC).take i)
    have hft : (((preI is).filter isC).take i).length ≤ ((preI is).filter isC).length := by rw [List.length_take]; omega
    have hia9 := k9 _ _ hia8 nia7
    have hsa9 := k9 _ _ hsa8 nsa7
    have diws9 := diws8.tk tk9
    have dsws9 := dsws8.tk tk9
    dsimp only [gName]
    refine ⟨_, rfl, tc (ixt hpz (atI_nat (j := 1) rfl) ?_)⟩
    dsimp only [gName]
    refine ⟨_, _, rfl, rfl, ?_⟩
    dsimp only [gName]
    refine seq_split (t1 := tIfS _ _ _) (fun σ' H' => ∃ (y3 y4 y12 y13 : Option V), σ' = [some (.ref a), some (.ref td), some (.ref ia), y3, y4, some (.ref pz), some (.ref ca), some (.ref sa), y8, some (.ref fo), some uh, some (.int (mI (manyOf S is h))), y12, y13, none] ∧ Same H9 H') ?_ (fun J => ?_)
    case refine_2 =>
      obtain ⟨hl, hks⟩ := h
      have dh0 := dh
      simp only [tmD] at dh
      have okh0 := okh
      simp only [okT] at okh
      have m1 : (0 : Int) - 1 = -1 := rfl
      cases hl with
      | fn ns =>
        obtain ⟨t0, rfl⟩ : ∃ t0, hks = [t0] := by
          have h1 := okh.1.1
          cases hks with
          | nil => exact absurd h1 (by decide)
          | cons a r =>
            cases r with
            | nil => exact ⟨a, rfl⟩
            | cons _ _ => exact absurd h1 (by simp)
        simp only [tmL] at dh
        obtain ⟨p, b, u, rfl, hp, hb, hu⟩ := at_fn dh
        refine ⟨_, rfl, tc (ixt hp (atI_nat (j := 0) rfl) (tc ⟨rfl, _, rfl, ?_⟩))⟩
        rw [strE, decide_eq_true rfl]
        refine iteT ⟨_, rfl, tc (ixt hp (atI_nat (j := 1) rfl) ⟨b, _, rfl, .inr (SqT.of hb), ?_⟩)⟩
        rw [natV_len]
        exact J _ _ ⟨_, _, _, _, rfl, fun _ _ e => e⟩
      | prim x =>
        obtain ⟨p, rfl, hp⟩ := at_prim dh
        refine ⟨_, rfl, tc (ixt hp (atI_nat (j := 0) rfl) (tc ⟨rfl, _, rfl, ?_⟩))⟩
        rw [strE, decide_eq_false (show ¬ ("prim" : Str) = "fn" by decide +kernel)]
        refine iteF ?_
        refine ⟨_, rfl, tc (ixt hp (atI_nat (j := 0) rfl) (tc ⟨rfl, _, rfl, ?_⟩))⟩
        rw [strE, decide_eq_true rfl]
        refine iteT ⟨_, rfl, tc (ixt hp (atI_nat (j := 1) rfl) ⟨x, rfl, okh.1.2, fun H10 s10 => ?_⟩)⟩
        exact J _ _ ⟨_, _, _, _, rfl, s10⟩
      | top m lv k sp2 =>
        obtain ⟨p, o, rfl, hp⟩ := at_top dh
        refine ⟨_, rfl, tc (ixt hp (atI_nat (j := 0) rfl) (tc ⟨rfl, _, rfl, ?_⟩))⟩
        rw [strE, decide_eq_false (show ¬ ("top" : Str) = "fn" by decide +kernel)]
        refine iteF ?_
        refine ⟨_, rfl, tc (ixt hp (atI_nat (j := 0) rfl) (tc ⟨rfl, _, rfl, ?_⟩))⟩
        rw [strE, decide_eq_false (show ¬ ("top" : Str) = "prim" by decide +kernel)]
        refine iteF ?_
        refine ⟨_, rfl, tc (ixt hp (atI_nat (j := 0) rfl) (tc ⟨rfl, _, rfl, ?_⟩))⟩
        rw [strE, decide_eq_true rfl]
        refine iteT ⟨_, rfl, tc (ixt hp (atI_nat (j := 1) rfl) (tc ⟨rfl, _, rfl, ?_⟩))⟩
        rw [strE]
        by_cases hm : m = "m"
        case neg =>
          rw [decide_eq_false hm]
          refine iteF (iteF ?_)
          dsimp only [tNext]
          have em : manyOf S is (.mk (.top m lv k sp2) hks) = none := by simp only [manyOf]; rw [if_neg (fun z => hm z.1)]
          exact J _ _ ⟨y3, y4, y12, y13, by rw [em]; rfl, fun _ _ e => e⟩
        rw [decide_eq_true hm]
        subst hm
        refine iteT ⟨_, rfl, _, rfl, _, rfl, p, _, rfl, SqT.of hp, fun z => absurd z cut3_no, fun _ b nb => ?_⟩
        rw [cut3]
        have s10 := same_upd (o := .tup [.str "m", .int (lv : Nat), .int (k : Nat)]) nb
        have hb10 := upd_same (H := H9) (a := b) (o := .tup [.str "m", .int (lv : Nat), .int (k : Nat)])
        generalize L2.upd H9 b (.tup [.str "m", .int (lv : Nat), .int (k : Nat)]) = H10 at s10 hb10 ⊢
        have dvr : Dt H10 (.ref b) (vrD ("m", lv, k)) := .tup hb10 (.cons (.str _) (.cons (.int _) (.cons (.int _) .nil)))
        have lay : ∀ l : List Vr, (∀ x ∈ l, x.1 = "m" ∨ x.1 = "other") → PyData.canLayAll0 (l.map vrD) = true ∧ PyData.depthAll (l.map vrD) ≤ 1 ∧ plAll (l.map vrD) = true := by
          intro l
          induction l with
          | nil => intro _; exact ⟨by simp [PyData.canLayAll0], by simp [PyData.depthAll], rfl⟩
          | cons x l ih =>
            intro hx
            obtain ⟨i1, i2, i3⟩ := ih fun y hy => hx y (List.mem_cons_of_mem _ hy)
            have hs : PyData.strOk x.1 = true := by
              rcases hx x List.mem_cons_self with e | e <;> rw [e] <;> decide +kernel
            refine ⟨by simp [vrD, PyData.canLayAll0, PyData.canLay0, hs, i1], ?_, by simp [vrD, plAll, pl, i3]⟩
            simp only [List.map_cons, PyData.depthAll, vrD, PyData.depth]
            omega
        obtain ⟨y1, y2, y3'⟩ := lay S hSm
        have hsm : PyData.strOk "m" = true := by decide +kernel
        refine ⟨_, rfl, vrD ("m", lv, k), S.map vrD, dvr.dp, .lst (SqL.of (s10 _ _ hsa9)) (dsws9.tk (same_tk s10)).dp, shp (by simp [vrD, PyData.canLay0, PyData.canLayAll0, hsm]) (by simp [vrD, PyData.depth, PyData.depthAll]), shp (by simp [PyData.canLay0, y1]) (by simp only [PyData.depth]; omega), _, rfl, ?_⟩
        have emem : ((S.map vrD).any fun z => PyData.eqv z (vrD ("m", lv, k))) = decide ((("m" : Str), lv, k) ∈ S) := by
          rw [Bool.eq_iff_iff, any_pl y3' (by rfl), decide_eq_true_iff]
          constructor
          · intro hz
            obtain ⟨x, hx, e⟩ := List.mem_map.mp hz
            have ex : x = (("m" : Str), lv, k) := by
              obtain ⟨x1, x2, x3⟩ := x
              simp only [vrD, PyData.tuple.injEq, List.cons.injEq, PyData.str.injEq, PyData.int.injEq] at e
              obtain ⟨e1, e2, e3, _⟩ := e
              have e2' : x2 = lv := by omega
              have e3' : x3 = k := by omega
              rw [e1, e2', e3']
            rw [← ex]
            exact hx
          · intro hz
            exact List.mem_map.mpr ⟨_, hz, rfl⟩
        rw [emem]
        by_cases hin : (("m" : Str), lv, k) ∈ S
        case pos =>
          rw [decide_eq_true hin]
          refine iteF ?_
          dsimp only [tNext]
          have em : manyOf S is (.mk (.top "m" lv k sp2) hks) = none := by simp only [manyOf]; rw [if_neg (fun z => z.2 hin)]
          exact J _ _ ⟨y3, y4, y12, y13, by rw [em]; rfl, s10⟩
        rw [decide_eq_false hin]
        refine iteT ⟨_, rfl, ia, rfl, ⟨_, SqL.of (s10 _ _ hia9)⟩, ?_⟩
        have hp10 := s10 _ _ hp
        have diws10 := diws9.tk (same_tk s10)
        have hia10 := s10 _ _ hia9
        refine for_list (K := K) (fun i σ H' => ∃ (y3 y4 y12 y13 : Option V), σ = [some (.ref a), some (.ref td), some (.ref ia), y3, y4, some (.ref pz), some (.ref ca), some (.ref sa), y8, some (.ref fo), some (.ref p), some (.int (mI (lastM (is.take i) lv k))), y12, y13, none] ∧ Same H10 H') ⟨_, _, _, _, rfl, fun _ _ e => e⟩ (fun i σ H' _ ⟨_, _, _, _, _, s⟩ => SqL.of (s _ _ hia10)) ?_ ?_
        · rintro i x σ H11 hxi ⟨y3, y4, y12, y13, rfl, s11⟩
          obtain ⟨it, hit, hdx⟩ := DtAll.get_map (diws10.tk (same_tk s11)) hxi
          have hitm := List.mem_of_getElem? hit
          have oki2 := oki it hitm
          obtain ⟨pit, u, rfl, hpit, hu⟩ := at_item hdx
          have hnext : lastM (is.take (i + 1)) lv k = stepM lv k (lastM (is.take i) lv k) it := by rw [List.take_add_one, hit]; exact lastM_snoc _ _ _ _
          refine ⟨pit, _, rfl, SqT.of hpit, rfl, _, _, rfl, _, _, rfl, _, _, rfl, _, _, rfl, rfl, ?_⟩
          refine ⟨_, rfl, rfl, _, rfl, ?_⟩
          rw [strE]
          by_cases hdef : it.k = "def"
          case neg =>
            rw [decide_eq_false hdef]
            refine iteF (iteF ?_)
            dsimp only [tNext]
            have hdn : defOf it = none := by
              unfold defOf
              split
              · rw [if_neg hdef]
              · rfl
            have en : lastM (is.take (i + 1)) lv k = lastM (is.take i) lv k := by rw [hnext]; unfold stepM; rw [hdn]
            exact ⟨_, _, _, _, by rw [en]; rfl, s11⟩
          rw [decide_eq_true hdef]
          refine iteT ⟨_, rfl, _, rfl, by show 2 ≤ sizeLine; decide, fun b1 nb1 => ?_⟩
          have s12 := same_upd (o := .tup [.int (it.lv : Nat), .int (it.n : Nat)]) nb1
          have hb12 := upd_same (H := H11) (a := b1) (o := .tup [.int (it.lv : Nat), .int (it.n : Nat)])
          generalize L2.upd H11 b1 (.tup [.int (it.lv : Nat), .int (it.n : Nat)]) = H12 at s12 hb12 ⊢
          refine ⟨_, rfl, _, rfl, _, rfl, p, _, rfl, SqT.of (s12 _ _ (s11 _ _ hp10)), fun z => absurd z cut24_no, fun _ b2 nb2 => ?_⟩
          rw [cut24]
          have s13 := same_upd (o := .tup [.int (lv : Nat), .int (k : Nat)]) nb2
          have hb13 := upd_same (H := H12) (a := b2) (o := .tup [.int (lv : Nat), .int (k : Nat)])
          have hb113 := s13 _ _ hb12
          generalize L2.upd H12 b2 (.tup [.int (lv : Nat), .int (k : Nat)]) = H13 at s13 hb13 hb113 ⊢
          have s1113 := same_trans s11 (same_trans s12 s13)
          have sA := same_trans s12 s13
          have shp2 : ∀ x y : Nat, SeqAt.shaped (.tuple [.int (x : Nat), .int (y : Nat)]) = true := fun x y => shp (by simp [PyData.canLay0, PyData.canLayAll0]) (by simp [PyData.depth, PyData.depthAll])
          refine ⟨.tuple [.int (it.lv : Nat), .int (it.n : Nat)], .tuple [.int (lv : Nat), .int (k : Nat)], (Dt.tup hb113 (.cons (.int _) (.cons (.int _) .nil))).dp, (Dt.tup hb13 (.cons (.int _) (.cons (.int _) .nil))).dp, shp2 _ _, shp2 _ _, _, rfl, ?_⟩
          have eeq : PyData.eqv (.tuple [.int (it.lv : Nat), .int (it.n : Nat)]) (.tuple [.int (lv : Nat), .int (k : Nat)]) = decide ((it.lv, it.n) = (lv, k)) := by
            rw [Bool.eq_iff_iff, eqv_pl _ _ (by rfl) (by rfl), decide_eq_true_iff]
            simp only [PyData.tuple.injEq, List.cons.injEq, PyData.int.injEq, Prod.mk.injEq, and_true]
            constructor
            · rintro ⟨h1, h2⟩
              exact ⟨by omega, by omega⟩
            · rintro ⟨h1, h2⟩
              exact ⟨by omega, by omega⟩
          rw [eeq]
          by_cases hkey : (it.lv, it.n) = (lv, k)
          case neg =>
            rw [decide_eq_false hkey]
            refine iteF (iteF ?_)
            dsimp only [tNext]
            have en : lastM (is.take (i + 1)) lv k = lastM (is.take i) lv k := by
              rw [hnext]
              unfold stepM
              cases hdo : defOf it with
              | none => rfl
              | some q =>
                have : q.1 = it.lv ∧ q.2.1 = it.n := by
                  unfold defOf at hdo
                  split at hdo
                  · rw [if_pos hdef] at hdo
                    cases hdo
                    exact ⟨rfl, rfl⟩
                  · cases hdo
                obtain ⟨q1, q2, q3⟩ := q
                obtain ⟨rfl, rfl⟩ := this
                dsimp only
                rw [if_neg hkey]
            exact ⟨_, _, _, _, by rw [en]; rfl, s1113⟩
          rw [decide_eq_true hkey]
          obtain ⟨pu, ru, rfl, hpu⟩ := hd_of (hu.tk (same_tk sA))
          refine iteT ⟨_, rfl, tc (ixt hpu ci0 (tc ⟨rfl, _, rfl, ?_⟩))⟩
          rw [strE]
          by_cases hfn : kd it.t.lab = "fn"
          case neg =>
            rw [decide_eq_false hfn]
            refine iteF ?_
            dsimp only [tNext]
            have hdn : defOf it = none := by
              unfold defOf
              split
              · next ns h => exact absurd (kd_fn.mpr ⟨ns, h⟩) hfn
              · rfl
            have en : lastM (is.take (i + 1)) lv k = lastM (is.take i) lv k := by rw [hnext]; unfold stepM; rw [hdn]
            exact ⟨_, _, _, _, by rw [en]; rfl, s1113⟩
          rw [decide_eq_true hfn]
          obtain ⟨ns, hns⟩ := kd_fn.mp hfn
          have hdo : defOf it = some (it.lv, it.n, ns.length) := by
            unfold defOf
            rw [hns]
            exact if_pos hdef
          have oktt := oki2.ok
          have hu13 := hu.tk (same_tk sA)
          obtain ⟨kk, lvv, nn, tt⟩ := it
          obtain ⟨l, ks⟩ := tt
          simp only [Nd.lab] at hns
          subst hns
          simp only [okT] at oktt
          obtain ⟨t0, rfl⟩ : ∃ t0, ks = [t0] := by
            have h1 := oktt.1.1
            cases ks with
            | nil => exact absurd h1 (by decide)
            | cons a r =>
              cases r with
              | nil => exact ⟨a, rfl⟩
              | cons _ _ => exact absurd h1 (by simp)
          simp only [tmD, tmL] at hu13
          obtain ⟨pz', b3, uu, e, hpz', hb3, _⟩ := at_fn hu13
          cases e
          refine iteT ⟨_, rfl, tc (ixt hpz' (atI_nat (j := 1) rfl) ⟨b3, _, rfl, .inr (SqT.of hb3), ?_⟩)⟩
          rw [natV_len]
          have en : lastM (is.take (i + 1)) lv k = some ns.length := by rw [hnext]; unfold stepM; rw [hdo]; dsimp only; rw [if_pos hkey]
          exact ⟨_, _, _, _, by rw [en]; rfl, s1113⟩
        · rintro σ H11 ⟨y3, y4, y12, y13, rfl, s11⟩
          rw [hiw, List.take_length]
          have em : manyOf S is (.mk (.top "m" lv k sp2) hks) = lastM is lv k := by simp only [manyOf]; rw [if_pos ⟨True.intro, hin⟩]
          exact J _ _ ⟨y3, y4, y12, y13, by rw [em], same_trans s10 s11⟩
      | con _ | call _ | cond | seq | set | lrec _ =>
        obtain ⟨p, r, rfl, hp⟩ := hd_of dh0
        simp only [Nd.lab] at hp
        refine ⟨_, rfl, tc (ixt hp ci0 (tc ⟨rfl, _, rfl, ?_⟩))⟩
        rw [strE, decide_eq_false (fun z => by obtain ⟨_, e⟩ := kd_fn.mp z; cases e)]
        refine iteF ?_
        refine ⟨_, rfl, tc (ixt hp ci0 (tc ⟨rfl, _, rfl, ?_⟩))⟩
        rw [strE, decide_eq_false (fun z => by obtain ⟨_, e⟩ := kd_prim z; cases e)]
        refine iteF ?_
        refine ⟨_, rfl, tc (ixt hp ci0 (tc ⟨rfl, _, rfl, ?_⟩))⟩
        rw [strE, decide_eq_false (fun z => by obtain ⟨_, _, _, _, e⟩ := kd_top z; cases e)]
        refine iteF (iteF ?_)
        dsimp only [tNext]
        exact J _ _ ⟨_, _, _, _, rfl, fun _ _ e => e⟩
    rintro σ' H10 ⟨y3, y4, y12, y13, rfl, s10⟩
    have hbad : bads S is (((preI is).filter isC).take (i + 1)) = bads S is (((preI is).filter isC).take i) ++ bads S is [.mk (.call sp) (h :: as)] := by
      rw [List.take_add_one, ht]
      exact bads_app _ _ _ _
    have hfo10 := s10 _ _ hfo9
    have k10 := k9.trans (.same s10)
    have dfws10 := dfws.tk (same_tk s10)
    have stay : bad S is (.mk (.call sp) (h :: as)) = none → DtAll H10 fws ((bads S is (((preI is).filter isC).take (i + 1))).map spD) := fun hb => by
      have : bads S is [.mk (.call sp) (h :: as)] = [] := by unfold bads; rw [List.filterMap_cons_none hb]; rfl
      rw [hbad, this, List.append_nil]
      exact dfws10
    cases hmo : manyOf S is h with
    | none =>
      refine ⟨_, rfl, _, _, rfl, rfl, _, rfl, ?_⟩
      rw [decide_eq_false (by unfold mI; decide)]
      refine iteF (iteF ?_)
      dsimp only [tNext]
      exact ⟨_, _, _, _, _, _, _, _, fws, rfl, k10, hfo10, stay (by simp only [bad, hmo])⟩
    | some n =>
      refine ⟨_, rfl, _, _, rfl, rfl, _, rfl, ?_⟩
      rw [decide_eq_true (show (0 : Int) ≤ mI (some n) from Int.natCast_nonneg n)]
      refine iteT ⟨_, rfl, _, rfl, tc (ixt (s10 _ _ hpz) (atI_nat (j := 2) rfl) ⟨pa, wa, rfl, .inr (SqT.of (s10 _ _ hpa)), rfl, _, rfl, ?_⟩)⟩
      show (if (!decide (V.int ((n : Nat) : Int) = V.int (wa.length : Int))) = true then _ else _)
      rw [intE, hal]
      by_cases hne2 : n = as.length
      · rw [decide_eq_true (show ((n : Nat) : Int) = ((as.length : Nat) : Int) by rw [hne2])]
        refine iteF ?_
        dsimp only [tNext]
        exact ⟨_, _, _, _, _, _, _, _, fws, rfl, k10, hfo10, stay (by simp only [bad, hmo]; rw [if_neg (fun z => z hne2)])⟩
      · rw [decide_eq_false (show ¬ ((n : Nat) : Int) = ((as.length : Nat) : Int) by omega)]
        have hb : bads S is [.mk (.call sp) (h :: as)] = [sp] := by
          unfold bads
          rw [List.filterMap_cons_some (b := sp) (by simp only [bad, hmo]; rw [if_pos hne2])]
          rfl
        refine iteT ⟨_, rfl, .inl ⟨rfl, _, SqL.of hfo10⟩, _, rfl, tc (ixt (s10 _ _ hpz) (atI_nat (j := 3) rfl) ⟨fo, fws, _, rfl, rfl, hfo10, by show _ < 2 ^ 24; omega, ?_⟩)⟩
        have tk11 : Tk H10 (L2.upd H10 fo (.lst (fws ++ [.ref po]))) := Tk.upd fun ys z => by rw [hfo10] at z; cases z
        refine ⟨_, _, _, _, _, _, _, _, fws ++ [.ref po], rfl, fun b o e n => by rw [upd_ne n]; exact k10 b o e n, upd_same, ?_⟩
        rw [hbad, hb, List.map_append]
        exact (dfws10.tk tk11).app (.one (sp_dt (tk11 _ _ (s10 _ _ hpo))))
  rintro σ H9 ⟨y3, y4, y5, y8, y10, y11, y12, y13, fws, rfl, k9, hfo9, dfws⟩
  rw [hcl, List.take_length, bads_filter] at dfws
  have hia9 := k9 _ _ hia8 nia7
  have diws9 := diws8.tk (k9.tk hfo8)
  have hbl := bads_len S is (preI is)
  refine ⟨Nat.zero_le _, fun x1 nx1 => ⟨Nat.zero_le _, fun x2 nx2 => ⟨Nat.zero_le _, fun x3 nx3 => ?_⟩⟩⟩
  have s10 := same_upd (o := .tup []) nx1
  have s11 := same_upd (o := .tup []) nx2
  have s12 := same_upd (o := .tup []) nx3
  have hx1 := s12 _ _ (s11 _ _ (upd_same (H := H9) (a := x1) (o := .tup [])))
  have hx2 := s12 _ _ (upd_same (H := L2.upd H9 x1 (.tup [])) (a := x2) (o := .tup []))
  have hx3 := upd_same (H := L2.upd (L2.upd H9 x1 (.tup [])) x2 (.tup [])) (a := x3) (o := .tup [])
  have s1012 := same_trans s10 (same_trans s11 s12)
  generalize L2.upd (L2.upd (L2.upd H9 x1 (.tup [])) x2 (.tup [])) x3 (.tup []) = H12 at hx1 hx2 hx3 s1012 ⊢
  refine ⟨_, rfl, ia, _, rfl, .inl ⟨SqL.of (s1012 _ _ hia9), fun qa nqa => ⟨by show 6 ≤ sizeLine; decide, fun pa npa => ?_⟩⟩⟩
  have s13 := same_upd (o := .tup iws) nqa
  have s14 := same_upd (o := .tup [.str "module", .str "m", .ref x1, .ref x2, .ref x3, .ref qa]) npa
  have s914 := same_trans s1012 (same_trans s13 s14)
  have dart : Dt (L2.upd (L2.upd H12 qa (.tup iws)) pa (.tup [.str "module", .str "m", .ref x1, .ref x2, .ref x3, .ref qa])) (.ref pa) (artD is) :=
    .tup upd_same (.cons (.str _) (.cons (.str _) (.cons (.tup (s14 _ _ (s13 _ _ hx1)) .nil) (.cons (.tup (s14 _ _ (s13 _ _ hx2)) .nil) (.cons (.tup (s14 _ _ (s13 _ _ hx3)) .nil) (.cons (.tup (s14 _ _ upd_same) (diws9.tk (same_tk s914))) .nil))))))
  generalize L2.upd (L2.upd H12 qa (.tup iws)) pa (.tup [.str "module", .str "m", .ref x1, .ref x2, .ref x3, .ref qa]) = H14 at s914 dart ⊢
  refine ⟨.ref pa, is, rfl, dart, oki, by omega, L4.own.nd, fun r ws H15 s15 hr15 dws => ?_⟩
  rw [← hS] at dws
  have s915 := same_trans s914 s15
  refine ⟨_, rfl, fo, fws, _, rfl, SqL.of (s915 _ _ hfo9), (dfws.tk (same_tk s915)).dp, PySem.W.AllAlike.of alike_sp, PySem.W.Sortable.tuples fun b => ⟨_, _, rfl⟩, fun d hd => ?_, fun r2 nr2 => ?_⟩
  · obtain ⟨n, _, rfl⟩ := List.mem_map.mp hd
    simp [spD, PyData.depth, PyData.depthAll]
  have s16 := same_upd (o := .lst ((fws.zip ((bads S is (preI is)).map spD)).mergeSort (PySem.W.dataLe false Prod.snd) |>.map Prod.fst)) nr2
  have d2 := (sorted_enc (dfws.tk (same_tk s915))).tk (same_tk s16)
  have hr16 := s16 _ _ hr15
  have dws16 := dws.tk (same_tk s16)
  have hr2 := upd_same (H := H15) (a := r2) (o := .lst ((fws.zip ((bads S is (preI is)).map spD)).mergeSort (PySem.W.dataLe false Prod.snd) |>.map Prod.fst))
  have dep : ∀ l : List Nat, PyData.depthAll (l.map spD) ≤ 1 ∧ smAll (l.map spD) = true := by
    intro l
    induction l with
    | nil => exact ⟨by simp [PyData.depthAll], rfl⟩
    | cons x l ih =>
      refine ⟨?_, by simp [smAll, spD, smD, ih.2]⟩
      have := ih.1
      simp only [List.map_cons, PyData.depthAll, spD, PyData.depth]
      omega
  have hsl2 : (srt (bads S is (preI is))).length = (bads S is (preI is)).length := List.length_mergeSort _
  obtain ⟨dp1, dp2⟩ := dep (srt (bads S is (preI is)))
  refine ⟨.ref r, .ref r2, .list ((srt (bads S is (preI is))).map spD), rfl, .lst (SqL.of hr16) dws16.dp, .lst (SqL.of hr2) d2.dp, by simp only [PyData.depth]; omega, ?_, fun H' s' => q H'⟩
  simp only [smD, Bool.and_eq_true, decide_eq_true_eq]
  exact ⟨by rw [List.length_map]; omega, dp2⟩
end
end W7
set_option Elab.async false
set_option linter.all false
set_option maxRecDepth 100000
set_option maxHeartbeats 4000000
namespace W7
open PySem PySem.Spec PyProof.Rows L2 Com Kb
theorem sq_kt {K : PySem.W.Frag} {a : Addr} {d : Option Addr} {its : Array Value} {n : Nat} {sl : Array (Option Value)} {xs : List V} (h : K.lookup a = some ⟨.type "tuple", d, .seq its n, sl⟩) (hs : its.size ≤ sizeLine) (hv : Vals xs its.toList) : ∀ H, SqT K H a xs := fun H => .inr ⟨_, its, n, h, rfl, rfl, hs, hv⟩
theorem all_mk {l : PySem.W.OpenLaw} {w : World} {K : PySem.W.Frag} {h : Heap} {mg : Str → Option Value} {fa pS : Addr} {f1 f2 f3 f4 f5 f6 f7 f8 f9 f10 f11 f12 f13 f14 f15 f16 p1 p2 p3 p4 p5 p6 p7 p8 p9 q2 q3 q4 q5 q6 q7 q8 q9 : Addr}
    {od1 an1 od2 an2 od3 an3 od4 an4 od5 an5 od6 an6 od7 an7 od8 an8 od9 an9 od10 an10 od11 an11 od12 an12 od13 an13 od14 an14 od15 an15 od16 an16 pd1 pd2 qd2 pd3 qd3 pd4 qd4 pd5 qd5 pd6 qd6 pd7 qd7 pd8 qd8 pd9 qd9 : Option Addr} {sl1 sl2 sl3 sl4 sl5 sl6 sl7 sl8 sl9 sl10 sl11 sl12 sl13 sl14 sl15 sl16 ps1 ps2 qs2 ps3 qs3 ps4 qs4 ps5 qs5 ps6 qs6 ps7 qs7 ps8 qs8 ps9 qs9 : Array (Option Value)} {pn1 pn2 qn2 pn3 qn3 pn4 qn4 pn5 qn5 pn6 qn6 pn7 qn7 pn8 qn8 pn9 qn9 nd : Nat} {es : Array DictEntry} { ta2 tb2 ta3 ta4 ta5 tb5 ta6 tb6 ta7 ta8 ta9 tb9 : PySem.Tok}
    {cd1 oc1 kV1 dc1 pm1 ct1 cd2 oc2 kV2 dc2 pm2 ct2 cd3 oc3 kV3 dc3 pm3 ct3 cd4 oc4 kV4 dc4 pm4 ct4 cd5 oc5 kV5 dc5 pm5 ct5 cd6 oc6 kV6 dc6 pm6 ct6 cd7 oc7 kV7 dc7 pm7 ct7 cd8 oc8 kV8 dc8 pm8 ct8 cd9 oc9 kV9 dc9 pm9 ct9 cd10 oc10 kV10 dc10 pm10 ct10 cd11 oc11 kV11 dc11 pm11 ct11 cd12 oc12 kV12 dc12 pm12 ct12 cd13 oc13 kV13 dc13 pm13 ct13 cd14 oc14 kV14 dc14 pm14 ct14 cd15 oc15 kV15 dc15 pm15 ct15 cd16 oc16 kV16 dc16 pm16 ct16 fv1 fv2 fv3 fv4 fv5 fv6 fv7 fv8 fv9 : Value} (X : K.In h) (G : h.Ns mainGlobals mg) (hfa : mg "law" = some (.ref fa))
    (a1 : PySem.W.nsIn K mainGlobals "parts_of_term" = some (some (.ref f1))) (l1 : K.lookup f1 = some ⟨oc1, od1, .func (PySem.W.fnOf "parts_of_term" "parts_of_term" (defArgs st_parts_of_term) (defBody st_parts_of_term) (defScope st_parts_of_term) .none kV1 dc1 pm1 an1 cd1 ct1), sl1⟩) (c1 : PySem.W.codeIn K cd1 "parts_of_term" = true) (k1 : PySem.W.keepIn K (.ref f1) = true)
    (a2 : PySem.W.nsIn K mainGlobals "terms_in" = some (some (.ref f2))) (l2 : K.lookup f2 = some ⟨oc2, od2, .func (PySem.W.fnOf "terms_in" "terms_in" (defArgs st_terms_in) (defBody st_terms_in) (defScope st_terms_in) .none kV2 dc2 pm2 an2 cd2 ct2), sl2⟩) (c2 : PySem.W.codeIn K cd2 "terms_in" = true) (k2 : PySem.W.keepIn K (.ref f2) = true)
    (a3 : PySem.W.nsIn K mainGlobals "phase_of_item" = some (some (.ref f3))) (l3 : K.lookup f3 = some ⟨oc3, od3, .func (PySem.W.fnOf "phase_of_item" "phase_of_item" (defArgs st_phase_of_item) (defBody st_phase_of_item) (defScope st_phase_of_item) .none kV3 dc3 pm3 an3 cd3 ct3), sl3⟩) (c3 : PySem.W.codeIn K cd3 "phase_of_item" = true) (k3 : PySem.W.keepIn K (.ref f3) = true)
    (a4 : PySem.W.nsIn K mainGlobals "_variable_of" = some (some (.ref f4))) (l4 : K.lookup f4 = some ⟨oc4, od4, .func (PySem.W.fnOf "_variable_of" "_variable_of" (defArgs st__variable_of) (defBody st__variable_of) (defScope st__variable_of) .none kV4 dc4 pm4 an4 cd4 ct4), sl4⟩) (c4 : PySem.W.codeIn K cd4 "_variable_of" = true) (k4 : PySem.W.keepIn K (.ref f4) = true)
    (a5 : PySem.W.nsIn K mainGlobals "_taken_by_constants" = some (some (.ref f5))) (l5 : K.lookup f5 = some ⟨oc5, od5, .func (PySem.W.fnOf "_taken_by_constants" "_taken_by_constants" (defArgs st__taken_by_constants) (defBody st__taken_by_constants) (defScope st__taken_by_constants) .none kV5 dc5 pm5 an5 cd5 ct5), sl5⟩) (c5 : PySem.W.codeIn K cd5 "_taken_by_constants" = true) (k5 : PySem.W.keepIn K (.ref f5) = true)
    (a6 : PySem.W.nsIn K mainGlobals "_taken_by" = some (some (.ref f6))) (l6 : K.lookup f6 = some ⟨oc6, od6, .func (PySem.W.fnOf "_taken_by" "_taken_by" (defArgs st__taken_by) (defBody st__taken_by) (defScope st__taken_by) .none kV6 dc6 pm6 an6 cd6 ct6), sl6⟩) (c6 : PySem.W.codeIn K cd6 "_taken_by" = true) (k6 : PySem.W.keepIn K (.ref f6) = true)
    (a7 : PySem.W.nsIn K mainGlobals "miscounts" = some (some (.ref f7))) (l7 : K.lookup f7 = some ⟨oc7, od7, .func (PySem.W.fnOf "miscounts" "miscounts" (defArgs st_miscounts) (defBody st_miscounts) (defScope st_miscounts) .none kV7 dc7 pm7 an7 cd7 ct7), sl7⟩) (c7 : PySem.W.codeIn K cd7 "miscounts" = true) (k7 : PySem.W.keepIn K (.ref f7) = true)
    (a8 : PySem.W.nsIn K mainGlobals "_law_draws" = some (some (.ref f8))) (l8 : K.lookup f8 = some ⟨oc8, od8, .func (PySem.W.fnOf "_law_draws" "_law_draws" (defArgs st__law_draws) (defBody st__law_draws) (defScope st__law_draws) .none kV8 dc8 pm8 an8 cd8 ct8), sl8⟩) (c8 : PySem.W.codeIn K cd8 "_law_draws" = true) (k8 : PySem.W.keepIn K (.ref f8) = true)
    (a9 : PySem.W.nsIn K mainGlobals "_law_next" = some (some (.ref f9))) (l9 : K.lookup f9 = some ⟨oc9, od9, .func (PySem.W.fnOf "_law_next" "_law_next" (defArgs st__law_next) (defBody st__law_next) (defScope st__law_next) .none kV9 dc9 pm9 an9 cd9 ct9), sl9⟩) (c9 : PySem.W.codeIn K cd9 "_law_next" = true) (k9 : PySem.W.keepIn K (.ref f9) = true)
    (a10 : PySem.W.nsIn K mainGlobals "_law_same" = some (some (.ref f10))) (l10 : K.lookup f10 = some ⟨oc10, od10, .func (PySem.W.fnOf "_law_same" "_law_same" (defArgs st__law_same) (defBody st__law_same) (defScope st__law_same) .none kV10 dc10 pm10 an10 cd10 ct10), sl10⟩) (c10 : PySem.W.codeIn K cd10 "_law_same" = true) (k10 : PySem.W.keepIn K (.ref f10) = true)
    (a11 : PySem.W.nsIn K mainGlobals "_law_new" = some (some (.ref f11))) (l11 : K.lookup f11 = some ⟨oc11, od11, .func (PySem.W.fnOf "_law_new" "_law_new" (defArgs st__law_new) (defBody st__law_new) (defScope st__law_new) .none kV11 dc11 pm11 an11 cd11 ct11), sl11⟩) (c11 : PySem.W.codeIn K cd11 "_law_new" = true) (k11 : PySem.W.keepIn K (.ref f11) = true)
    (a12 : PySem.W.nsIn K mainGlobals "_law_head" = some (some (.ref f12))) (l12 : K.lookup f12 = some ⟨oc12, od12, .func (PySem.W.fnOf "_law_head" "_law_head" (defArgs st__law_head) (defBody st__law_head) (defScope st__law_head) .none kV12 dc12 pm12 an12 cd12 ct12), sl12⟩) (c12 : PySem.W.codeIn K cd12 "_law_head" = true) (k12 : PySem.W.keepIn K (.ref f12) = true)
    (a13 : PySem.W.nsIn K mainGlobals "_law_term" = some (some (.ref f13))) (l13 : K.lookup f13 = some ⟨oc13, od13, .func (PySem.W.fnOf "_law_term" "_law_term" (defArgs st__law_term) (defBody st__law_term) (defScope st__law_term) .none kV13 dc13 pm13 an13 cd13 ct13), sl13⟩) (c13 : PySem.W.codeIn K cd13 "_law_term" = true) (k13 : PySem.W.keepIn K (.ref f13) = true)
    (a14 : PySem.W.nsIn K mainGlobals "_law_walk" = some (some (.ref f14))) (l14 : K.lookup f14 = some ⟨oc14, od14, .func (PySem.W.fnOf "_law_walk" "_law_walk" (defArgs st__law_walk) (defBody st__law_walk) (defScope st__law_walk) .none kV14 dc14 pm14 an14 cd14 ct14), sl14⟩) (c14 : PySem.W.codeIn K cd14 "_law_walk" = true) (k14 : PySem.W.keepIn K (.ref f14) = true)
    (a15 : PySem.W.nsIn K mainGlobals "_law_many" = some (some (.ref f15))) (l15 : K.lookup f15 = some ⟨oc15, od15, .func (PySem.W.fnOf "_law_many" "_law_many" (defArgs st__law_many) (defBody st__law_many) (defScope st__law_many) .none kV15 dc15 pm15 an15 cd15 ct15), sl15⟩) (c15 : PySem.W.codeIn K cd15 "_law_many" = true) (k15 : PySem.W.keepIn K (.ref f15) = true)
    (a16 : PySem.W.nsIn K mainGlobals "law" = some (some (.ref f16))) (l16 : K.lookup f16 = some ⟨oc16, od16, .func (PySem.W.fnOf "law" "law" (defArgs st_law) (defBody st_law) (defScope st_law) .none kV16 dc16 pm16 an16 cd16 ct16), sl16⟩) (c16 : PySem.W.codeIn K cd16 "law" = true) (k16 : PySem.W.keepIn K (.ref f16) = true)
    (aS : PySem.W.nsIn K mainGlobals "PRIMITIVES" = some (some (.ref pS))) (lS : K.lookup pS = some ⟨.type "dict", none, .dict es nd, #[]⟩) (kl : PySem.W.KeysLit w.params es.toList)
    (v1 : PySem.W.nsIn K pS "list" = some (some (.ref p1))) (t1 : K.lookup p1 = some ⟨.type "tuple", pd1, .seq #[Value.none, fv1] pn1, ps1⟩)
    (v2 : PySem.W.nsIn K pS "+" = some (some (.ref p2))) (t2 : K.lookup p2 = some ⟨.type "tuple", pd2, .seq #[.ref q2, fv2] pn2, ps2⟩)
    (u2 : K.lookup q2 = some ⟨.type "tuple", qd2, .seq #[.str "number" ta2, .str "number" tb2] qn2, qs2⟩)
    (v3 : PySem.W.nsIn K pS "not" = some (some (.ref p3))) (t3 : K.lookup p3 = some ⟨.type "tuple", pd3, .seq #[.ref q3, fv3] pn3, ps3⟩)
    (u3 : K.lookup q3 = some ⟨.type "tuple", qd3, .seq #[.str "any" ta3] qn3, qs3⟩)
    (v4 : PySem.W.nsIn K pS "first" = some (some (.ref p4))) (t4 : K.lookup p4 = some ⟨.type "tuple", pd4, .seq #[.ref q4, fv4] pn4, ps4⟩)
    (u4 : K.lookup q4 = some ⟨.type "tuple", qd4, .seq #[.str "filled" ta4] qn4, qs4⟩)
    (v5 : PySem.W.nsIn K pS "cons" = some (some (.ref p5))) (t5 : K.lookup p5 = some ⟨.type "tuple", pd5, .seq #[.ref q5, fv5] pn5, ps5⟩)
    (u5 : K.lookup q5 = some ⟨.type "tuple", qd5, .seq #[.str "any" ta5, .str "list" tb5] qn5, qs5⟩)
    (v6 : PySem.W.nsIn K pS "same?" = some (some (.ref p6))) (t6 : K.lookup p6 = some ⟨.type "tuple", pd6, .seq #[.ref q6, fv6] pn6, ps6⟩)
    (u6 : K.lookup q6 = some ⟨.type "tuple", qd6, .seq #[.str "any" ta6, .str "any" tb6] qn6, qs6⟩)
    (v7 : PySem.W.nsIn K pS "parts" = some (some (.ref p7))) (t7 : K.lookup p7 = some ⟨.type "tuple", pd7, .seq #[.ref q7, fv7] pn7, ps7⟩)
    (u7 : K.lookup q7 = some ⟨.type "tuple", qd7, .seq #[.str "parted" ta7] qn7, qs7⟩)
    (v8 : PySem.W.nsIn K pS "fresh" = some (some (.ref p8))) (t8 : K.lookup p8 = some ⟨.type "tuple", pd8, .seq #[.ref q8, fv8] pn8, ps8⟩)
    (u8 : K.lookup q8 = some ⟨.type "tuple", qd8, .seq #[.str "identifier" ta8] qn8, qs8⟩)
    (v9 : PySem.W.nsIn K pS "wrap" = some (some (.ref p9))) (t9 : K.lookup p9 = some ⟨.type "tuple", pd9, .seq #[.ref q9, fv9] pn9, ps9⟩)
    (u9 : K.lookup q9 = some ⟨.type "tuple", qd9, .seq #[.str "plain" ta9, .str "syntax" tb9] qn9, qs9⟩)
    (r1 : ∃ y, RelV y fv1) (r2 : ∃ y, RelV y fv2) (r3 : ∃ y, RelV y fv3) (r4 : ∃ y, RelV y fv4) (r5 : ∃ y, RelV y fv5) (r6 : ∃ y, RelV y fv6) (r7 : ∃ y, RelV y fv7) (r8 : ∃ y, RelV y fv8) (r9 : ∃ y, RelV y fv9)
    (z1 : PySem.W.nsIn K mainGlobals "len" = some none) (z2 : PySem.W.nsIn K mainGlobals "int" = some none) (z3 : PySem.W.nsIn K mainGlobals "bool" = some none) (z4 : PySem.W.nsIn K mainGlobals "str" = some none) (z5 : PySem.W.nsIn K mainGlobals "tuple" = some none) (z6 : PySem.W.nsIn K mainGlobals "list" = some none) (z7 : PySem.W.nsIn K mainGlobals "range" = some none) (z8 : PySem.W.nsIn K mainGlobals "isinstance" = some none) (z9 : PySem.W.nsIn K mainGlobals "all" = some none) (z10 : PySem.W.nsIn K mainGlobals "sorted" = some none) : 
    ∃ fd : FuncData, (∀ (s : Shared) (u : Value), BindsTo s fd ⟨[u], []⟩ [("script", u)]) ∧ ∀ base : Heap, K.In base → base.Ns mainGlobals mg → FnOk l.prog w K mg base CX0 20 fa fd ["script"] (spLaw K) := by
  have e := hfa.symm.trans (PySem.W.mg_of X G a16)
  cases e
  have M : Mg mg := ⟨PySem.W.mg_none_of X G z1, PySem.W.mg_none_of X G z2, PySem.W.mg_none_of X G z3, PySem.W.mg_none_of X G z4, PySem.W.mg_none_of X G z5, PySem.W.mg_none_of X G z6, PySem.W.mg_none_of X G z7, PySem.W.mg_none_of X G z8, PySem.W.mg_none_of X G z9, PySem.W.mg_none_of X G z10⟩
  have E1 := fun_mk (st := st_parts_of_term) l1 c1 k1
  have b1 := E1.binds (ps := ["term"]) fun _ _ _ _ _ _ us hl => match us, hl with | [_], _ => rfl
  have F1 : Dfn K mg "parts_of_term" st_parts_of_term f1 _ ["term"] := ⟨E1, PySem.W.mg_of X G a1, b1⟩
  have E2 := fun_mk (st := st_terms_in) l2 c2 k2
  have b2 := E2.binds (ps := ["term"]) fun _ _ _ _ _ _ us hl => match us, hl with | [_], _ => rfl
  have F2 : Dfn K mg "terms_in" st_terms_in f2 _ ["term"] := ⟨E2, PySem.W.mg_of X G a2, b2⟩
  have E3 := fun_mk (st := st_phase_of_item) l3 c3 k3
  have b3 := E3.binds (ps := ["item", "shift"]) fun _ _ _ _ _ _ us hl => match us, hl with | [_, _], _ => rfl
  have F3 : Dfn K mg "phase_of_item" st_phase_of_item f3 _ ["item", "shift"] := ⟨E3, PySem.W.mg_of X G a3, b3⟩
  have E4 := fun_mk (st := st__variable_of) l4 c4 k4
  have b4 := E4.binds (ps := ["term"]) fun _ _ _ _ _ _ us hl => match us, hl with | [_], _ => rfl
  have F4 : Dfn K mg "_variable_of" st__variable_of f4 _ ["term"] := ⟨E4, PySem.W.mg_of X G a4, b4⟩
  have E5 := fun_mk (st := st__taken_by_constants) l5 c5 k5
  have b5 := E5.binds (ps := ["artifact"]) fun _ _ _ _ _ _ us hl => match us, hl with | [_], _ => rfl
  have F5 : Dfn K mg "_taken_by_constants" st__taken_by_constants f5 _ ["artifact"] := ⟨E5, PySem.W.mg_of X G a5, b5⟩
  have E6 := fun_mk (st := st__taken_by) l6 c6 k6
  have b6 := E6.binds (ps := ["term", "level", "constants"]) fun _ _ _ _ _ _ us hl => match us, hl with | [_, _, _], _ => rfl
  have F6 : Dfn K mg "_taken_by" st__taken_by f6 _ ["term", "level", "constants"] := ⟨E6, PySem.W.mg_of X G a6, b6⟩
  have E7 := fun_mk (st := st_miscounts) l7 c7 k7
  have b7 := E7.binds (ps := ["artifact"]) fun _ _ _ _ _ _ us hl => match us, hl with | [_], _ => rfl
  have F7 : Dfn K mg "miscounts" st_miscounts f7 _ ["artifact"] := ⟨E7, PySem.W.mg_of X G a7, b7⟩
  have E8 := fun_mk (st := st__law_draws) l8 c8 k8
  have b8 := E8.binds (ps := ["script", "count"]) fun _ _ _ _ _ _ us hl => match us, hl with | [_, _], _ => rfl
  have F8 : Dfn K mg "_law_draws" st__law_draws f8 _ ["script", "count"] := ⟨E8, PySem.W.mg_of X G a8, b8⟩
  have E9 := fun_mk (st := st__law_next) l9 c9 k9
  have b9 := E9.binds (ps := ["draws", "limit"]) fun _ _ _ _ _ _ us hl => match us, hl with | [_, _], _ => rfl
  have F9 : Dfn K mg "_law_next" st__law_next f9 _ ["draws", "limit"] := ⟨E9, PySem.W.mg_of X G a9, b9⟩
  have E10 := fun_mk (st := st__law_same) l10 c10 k10
  have b10 := E10.binds (ps := ["found", "due"]) fun _ _ _ _ _ _ us hl => match us, hl with | [_, _], _ => rfl
  have F10 : Dfn K mg "_law_same" st__law_same f10 _ ["found", "due"] := ⟨E10, PySem.W.mg_of X G a10, b10⟩
  have E11 := fun_mk (st := st__law_new) l11 c11 k11
  have b11 := E11.binds (ps := ["draws"]) fun _ _ _ _ _ _ us hl => match us, hl with | [_], _ => rfl
  have F11 : Dfn K mg "_law_new" st__law_new f11 _ ["draws"] := ⟨E11, PySem.W.mg_of X G a11, b11⟩
  have E12 := fun_mk (st := st__law_head) l12 c12 k12
  have b12 := E12.binds (ps := ["draws", "level", "depth"]) fun _ _ _ _ _ _ us hl => match us, hl with | [_, _, _], _ => rfl
  have F12 : Dfn K mg "_law_head" st__law_head f12 _ ["draws", "level", "depth"] := ⟨E12, PySem.W.mg_of X G a12, b12⟩
  have E13 := fun_mk (st := st__law_term) l13 c13 k13
  have b13 := E13.binds (ps := ["draws", "level", "depth"]) fun _ _ _ _ _ _ us hl => match us, hl with | [_, _, _], _ => rfl
  have F13 : Dfn K mg "_law_term" st__law_term f13 _ ["draws", "level", "depth"] := ⟨E13, PySem.W.mg_of X G a13, b13⟩
  have E14 := fun_mk (st := st__law_walk) l14 c14 k14
  have b14 := E14.binds (ps := ["term", "calls", "sets"]) fun _ _ _ _ _ _ us hl => match us, hl with | [_, _, _], _ => rfl
  have F14 : Dfn K mg "_law_walk" st__law_walk f14 _ ["term", "calls", "sets"] := ⟨E14, PySem.W.mg_of X G a14, b14⟩
  have E15 := fun_mk (st := st__law_many) l15 c15 k15
  have b15 := E15.binds (ps := ["name"]) fun _ _ _ _ _ _ us hl => match us, hl with | [_], _ => rfl
  have F15 : Dfn K mg "_law_many" st__law_many f15 _ ["name"] := ⟨E15, PySem.W.mg_of X G a15, b15⟩
  have E16 := fun_mk (st := st_law) l16 c16 k16
  have b16 := E16.binds (ps := ["script"]) fun _ _ _ _ _ _ us hl => match us, hl with | [_], _ => rfl
  have F16 : Dfn K mg "law" st_law fa _ ["script"] := ⟨E16, PySem.W.mg_of X G a16, b16⟩
  obtain ⟨y1, r1⟩ := r1
  obtain ⟨y2, r2⟩ := r2
  obtain ⟨y3, r3⟩ := r3
  obtain ⟨y4, r4⟩ := r4
  obtain ⟨y5, r5⟩ := r5
  obtain ⟨y6, r6⟩ := r6
  obtain ⟨y7, r7⟩ := r7
  obtain ⟨y8, r8⟩ := r8
  obtain ⟨y9, r9⟩ := r9
  have T : PrT w K mg pS := by
    refine ⟨PySem.W.mg_of X G aS, fun x hx => ?_⟩
    unfold primN at hx
    simp only [List.mem_cons, List.not_mem_nil, or_false] at hx
    rcases hx with rfl | rfl | rfl | rfl | rfl | rfl | rfl | rfl | rfl
    · exact ⟨p1, [.non, y1], ⟨es, nd, _, lS, kl, v1, rfl⟩, sq_kt t1 (by show 2 ≤ sizeLine; decide) (.cons rfl (.cons r1 .nil)), .inl ⟨by decide +kernel, rfl⟩⟩
    · exact ⟨p2, [.ref q2, y2], ⟨es, nd, _, lS, kl, v2, rfl⟩, sq_kt t2 (by show 2 ≤ sizeLine; decide) (.cons rfl (.cons r2 .nil)), .inr ⟨q2, [.str "number", .str "number"], rfl, sq_kt u2 (by show 2 ≤ sizeLine; decide) (.cons ⟨_, rfl⟩ (.cons ⟨_, rfl⟩ .nil)), by decide +kernel⟩⟩
    · exact ⟨p3, [.ref q3, y3], ⟨es, nd, _, lS, kl, v3, rfl⟩, sq_kt t3 (by show 2 ≤ sizeLine; decide) (.cons rfl (.cons r3 .nil)), .inr ⟨q3, [.str "any"], rfl, sq_kt u3 (by show 1 ≤ sizeLine; decide) (.cons ⟨_, rfl⟩ .nil), by decide +kernel⟩⟩
    · exact ⟨p4, [.ref q4, y4], ⟨es, nd, _, lS, kl, v4, rfl⟩, sq_kt t4 (by show 2 ≤ sizeLine; decide) (.cons rfl (.cons r4 .nil)), .inr ⟨q4, [.str "filled"], rfl, sq_kt u4 (by show 1 ≤ sizeLine; decide) (.cons ⟨_, rfl⟩ .nil), by decide +kernel⟩⟩
    · exact ⟨p5, [.ref q5, y5], ⟨es, nd, _, lS, kl, v5, rfl⟩, sq_kt t5 (by show 2 ≤ sizeLine; decide) (.cons rfl (.cons r5 .nil)), .inr ⟨q5, [.str "any", .str "list"], rfl, sq_kt u5 (by show 2 ≤ sizeLine; decide) (.cons ⟨_, rfl⟩ (.cons ⟨_, rfl⟩ .nil)), by decide +kernel⟩⟩
    · exact ⟨p6, [.ref q6, y6], ⟨es, nd, _, lS, kl, v6, rfl⟩, sq_kt t6 (by show 2 ≤ sizeLine; decide) (.cons rfl (.cons r6 .nil)), .inr ⟨q6, [.str "any", .str "any"], rfl, sq_kt u6 (by show 2 ≤ sizeLine; decide) (.cons ⟨_, rfl⟩ (.cons ⟨_, rfl⟩ .nil)), by decide +kernel⟩⟩
    · exact ⟨p7, [.ref q7, y7], ⟨es, nd, _, lS, kl, v7, rfl⟩, sq_kt t7 (by show 2 ≤ sizeLine; decide) (.cons rfl (.cons r7 .nil)), .inr ⟨q7, [.str "parted"], rfl, sq_kt u7 (by show 1 ≤ sizeLine; decide) (.cons ⟨_, rfl⟩ .nil), by decide +kernel⟩⟩
    · exact ⟨p8, [.ref q8, y8], ⟨es, nd, _, lS, kl, v8, rfl⟩, sq_kt t8 (by show 2 ≤ sizeLine; decide) (.cons rfl (.cons r8 .nil)), .inr ⟨q8, [.str "identifier"], rfl, sq_kt u8 (by show 1 ≤ sizeLine; decide) (.cons ⟨_, rfl⟩ .nil), by decide +kernel⟩⟩
    · exact ⟨p9, [.ref q9, y9], ⟨es, nd, _, lS, kl, v9, rfl⟩, sq_kt t9 (by show 2 ≤ sizeLine; decide) (.cons rfl (.cons r9 .nil)), .inr ⟨q9, [.str "plain", .str "syntax"], rfl, sq_kt u9 (by show 2 ≤ sizeLine; decide) (.cons ⟨_, rfl⟩ (.cons ⟨_, rfl⟩ .nil)), by decide +kernel⟩⟩
  refine ⟨PySem.W.fnOf "law" "law" (defArgs st_law) (defBody st_law) (defScope st_law) .none kV16 dc16 pm16 an16 cd16 ct16, fun s v => .of_eq rfl, fun base _ _ => ?_⟩
  have Cd : Cal l.prog w K mg base 1 "_law_draws" (spDraws K) := ok_law_draws F8 M
  have Cn : Cal l.prog w K mg base 1 "_law_next" spNext := ok_next F9 M
  have Cw : Cal l.prog w K mg base 1 "_law_new" spNew := ok_new F11 M
  have Ct := term_all F13 F12 M Cn Cw 5
  have Cpa : Cal l.prog w K mg base 1 "parts_of_term" spParts := ok_parts F1 M
  have Cti := ok_terms_in F2 M Cpa
  have Cph : Cal l.prog w K mg base 1 "phase_of_item" spPh := ok_phase F3 M
  have Cva : Cal l.prog w K mg base 1 "_variable_of" spVar := ok_var F4 M
  have Cco := ok_consts F5 M Cti Cva
  have Ctb := ok_taken_by F6 M T Cva
  have Cmi := ok_miscounts F7 M Cti Cph Cco Ctb
  exact ok_law F16 M Cd Cn Cw Ct (walk_all F14 M 13) (ok_many F15 M) Cmi (same_all F10 M 10)
end W7
open PySem PySem.W PyProof.Rows
set_option maxRecDepth 100000 in
set_option maxHeartbeats 0 in
theorem PySem.Challenge.cw_wherewritten_k71_miscounts_holds : PySem.Challenge.rw_wherewritten_k71_miscounts.Holds := by
  w_on; o_law; k_head; (case hw => w_witness2)
  k_fill
  refine L2.walk_of (l := PySem.Challenge.rw_wherewritten_k71_miscounts) (n := 63) (k := 20) (x := "script") (CX := fun _ => L2.CX0) (sp := fun w => W7.spLaw _) rfl (by decide) rfl ⟨rfl, by decide, by decide⟩ (fun w h Y => PySem.W.kIn_of Y) ?F (fun w H a ns hl hO hS => ⟨a, ns, rfl, hS, Nat.le_trans hl (by decide), fun _ => rfl⟩) (fun _ _ _ _ _ h => h)
  case F =>
    intro w mg fa h KX G hmg
    refine' W7.all_mk KX G hmg ?a1 ?l1 ?c1 ?k1 ?a2 ?l2 ?c2 ?k2 ?a3 ?l3 ?c3 ?k3 ?a4 ?l4 ?c4 ?k4 ?a5 ?l5 ?c5 ?k5 ?a6 ?l6 ?c6 ?k6 ?a7 ?l7 ?c7 ?k7 ?a8 ?l8 ?c8 ?k8 ?a9 ?l9 ?c9 ?k9 ?a10 ?l10 ?c10 ?k10 ?a11 ?l11 ?c11 ?k11 ?a12 ?l12 ?c12 ?k12 ?a13 ?l13 ?c13 ?k13 ?a14 ?l14 ?c14 ?k14 ?a15 ?l15 ?c15 ?k15 ?a16 ?l16 ?c16 ?k16 ?aS ?lS ?kl ?v1 ?t1 ?v2 ?t2 ?u2 ?v3 ?t3 ?u3 ?v4 ?t4 ?u4 ?v5 ?t5 ?u5 ?v6 ?t6 ?u6 ?v7 ?t7 ?u7 ?v8 ?t8 ?u8 ?v9 ?t9 ?u9 ?r1 ?r2 ?r3 ?r4 ?r5 ?r6 ?r7 ?r8 ?r9 ?z1 ?z2 ?z3 ?z4 ?z5 ?z6 ?z7 ?z8 ?z9 ?z10
    (case a1 => k_is)
    (case l1 => k_is)
    (case c1 => k_is)
    (case k1 => k_is)
    (case a2 => k_is)
    (case l2 => k_is)
    (case c2 => k_is)
    (case k2 => k_is)
    (case a3 => k_is)
    (case l3 => k_is)
    (case c3 => k_is)
    (case k3 => k_is)
    (case a4 => k_is)
    (case l4 => k_is)
    (case c4 => k_is)
    (case k4 => k_is)
    (case a5 => k_is)
    (case l5 => k_is)
    (case c5 => k_is)
    (case k5 => k_is)
    (case a6 => k_is)
    (case l6 => k_is)
    (case c6 => k_is)
    (case k6 => k_is)
    (case a7 => k_is)
    (case l7 => k_is)
    (case c7 => k_is)
    (case k7 => k_is)
    (case a8 => k_is)
    (case l8 => k_is)
    (case c8 => k_is)
    (case k8 => k_is)
    (case a9 => k_is)
    (case l9 => k_is)
    (case c9 => k_is)
    (case k9 => k_is)
    (case a10 => k_is)
    (case l10 => k_is)
    (case c10 => k_is)
    (case k10 => k_is)
    (case a11 => k_is)
    (case l11 => k_is)
    (case c11 => k_is)
    (case k11 => k_is)
    (case a12 => k_is)
    (case l12 => k_is)
    (case c12 => k_is)
    (case k12 => k_is)
    (case a13 => k_is)
    (case l13 => k_is)
    (case c13 => k_is)
    (case k13 => k_is)
    (case a14 => k_is)
    (case l14 => k_is)
    (case c14 => k_is)
    (case k14 => k_is)
    (case a15 => k_is)
    (case l15 => k_is)
    (case c15 => k_is)
    (case k15 => k_is)
    (case a16 => k_is)
    (case l16 => k_is)
    (case c16 => k_is)
    (case k16 => k_is)
    (case aS => k_is)
    (case lS => k_is)
    (case kl => exact ⟨⟨_, _, rfl, rfl⟩, ⟨_, _, rfl, rfl⟩, ⟨_, _, rfl, rfl⟩, ⟨_, _, rfl, rfl⟩, ⟨_, _, rfl, rfl⟩, ⟨_, _, rfl, rfl⟩, ⟨_, _, rfl, rfl⟩, ⟨_, _, rfl, rfl⟩, ⟨_, _, rfl, rfl⟩, ⟨_, _, rfl, rfl⟩, ⟨_, _, rfl, rfl⟩, ⟨_, _, rfl, rfl⟩, ⟨_, _, rfl, rfl⟩, ⟨_, _, rfl, rfl⟩, ⟨_, _, rfl, rfl⟩, ⟨_, _, rfl, rfl⟩, ⟨_, _, rfl, rfl⟩, ⟨_, _, rfl, rfl⟩, ⟨_, _, rfl, rfl⟩, ⟨_, _, rfl, rfl⟩, ⟨_, _, rfl, rfl⟩, ⟨_, _, rfl, rfl⟩, ⟨_, _, rfl, rfl⟩, ⟨_, _, rfl, rfl⟩, ⟨_, _, rfl, rfl⟩, ⟨_, _, rfl, rfl⟩, ⟨_, _, rfl, rfl⟩, ⟨_, _, rfl, rfl⟩, ⟨_, _, rfl, rfl⟩, True.intro⟩)
    (case v1 => k_is)
    (case t1 => k_is)
    (case v2 => k_is)
    (case t2 => k_is)
    (case u2 => k_is)
    (case v3 => k_is)
    (case t3 => k_is)
    (case u3 => k_is)
    (case v4 => k_is)
    (case t4 => k_is)
    (case u4 => k_is)
    (case v5 => k_is)
    (case t5 => k_is)
    (case u5 => k_is)
    (case v6 => k_is)
    (case t6 => k_is)
    (case u6 => k_is)
    (case v7 => k_is)
    (case t7 => k_is)
    (case u7 => k_is)
    (case v8 => k_is)
    (case t8 => k_is)
    (case u8 => k_is)
    (case v9 => k_is)
    (case t9 => k_is)
    (case u9 => k_is)
    (case r1 => exact ⟨.ref _, rfl⟩)
    (case r2 => exact ⟨.ref _, rfl⟩)
    (case r3 => exact ⟨.ref _, rfl⟩)
    (case r4 => exact ⟨.ref _, rfl⟩)
    (case r5 => exact ⟨.ref _, rfl⟩)
    (case r6 => exact ⟨.ref _, rfl⟩)
    (case r7 => exact ⟨.ref _, rfl⟩)
    (case r8 => exact ⟨.ref _, rfl⟩)
    (case r9 => exact ⟨.ref _, rfl⟩)
    (case z1 => k_is)
    (case z2 => k_is)
    (case z3 => k_is)
    (case z4 => k_is)
    (case z5 => k_is)
    (case z6 => k_is)
    (case z7 => k_is)
    (case z8 => k_is)
    (case z9 => k_is)
    (case z10 => k_is)
