import PyProof.Rows.All
import Wide.All
import OpenK.AllK
import Wide.FinOn
import HandS.Base
import HandS.Call
import HandS.List
import HandS.Words
import HandS.WordsList
import HandS.WordsDict
import HandS.Comp
import HandS.Dict
import HandS.Iter
import HandS.Ends
import HandS.IsInst
import HandS.Deep
import HandS.Style
import HandS.Flow
import HandS.TupAny
import HandS.SortInts
import HandS.EndTab
import KE.SortData
import HandS.AnyAll
import KE.GoesEnum
import PySem.Challenge.RW_wherewritten_k06_whole_resolution
import KE.KNest
set_option Elab.async false
set_option linter.all false
set_option maxRecDepth 100000
set_option maxHeartbeats 4000000
namespace Com
open PySem PySem.Spec PyProof.Rows L2
/-! data that are tuples all the way down -/
mutual
inductive Dt (H : Hp) : V → PyData → Prop
  | non : Dt H .non .none
  | bl (b : Bool) : Dt H (.bl b) (.bool b)
  | int (i : Int) : Dt H (.int i) (.int i)
  | str (x : Str) : Dt H (.str x) (.str x)
  | tup {a : Addr} {xs : List V} {ds : List PyData} : H a = some (.tup xs) → DtAll H xs ds → Dt H (.ref a) (.tuple ds)
inductive DtAll (H : Hp) : List V → List PyData → Prop
  | nil : DtAll H [] []
  | cons {v : V} {vs : List V} {d : PyData} {ds : List PyData} : Dt H v d → DtAll H vs ds → DtAll H (v :: vs) (d :: ds)
end
/-- the tuples stand -/
def Tk (H H' : Hp) : Prop := ∀ a xs, H a = some (.tup xs) → H' a = some (.tup xs)
theorem Tk.refl (H : Hp) : Tk H H := fun _ _ h => h
theorem Tk.trans {H1 H2 H3 : Hp} (a : Tk H1 H2) (b : Tk H2 H3) : Tk H1 H3 := fun c xs h => b c xs (a c xs h)
theorem Tk.upd {H : Hp} {a : Addr} {o : HO} (h : ∀ xs, H a ≠ some (.tup xs)) : Tk H (upd H a o) := fun b xs e => by
  have : b ≠ a := fun z => h xs (z ▸ e)
  rw [upd_ne this]
  exact e
theorem Tk.new {H : Hp} {a : Addr} {o : HO} (h : H a = none) : Tk H (L2.upd H a o) := Tk.upd fun xs e => by rw [h] at e; cases e
mutual
theorem Dt.mono {H H' : Hp} (k : Tk H H') : ∀ (d : PyData) (v : V), Dt H v d → Dt H' v d
  | .none, _, h => by cases h; exact .non
  | .bool _, _, h => by cases h; exact .bl _
  | .int _, _, h => by cases h; exact .int _
  | .str _, _, h => by cases h; exact .str _
  | .list _, _, h => by cases h
  | .tuple ds, _, h => by
    cases h with
    | tup e q => exact .tup (k _ _ e) (DtAll.mono k ds _ q)
  | .dict _, _, h => by cases h
theorem DtAll.mono {H H' : Hp} (k : Tk H H') : ∀ (ds : List PyData) (vs : List V), DtAll H vs ds → DtAll H' vs ds
  | [], _, h => by cases h; exact .nil
  | d :: ds, _, h => by
    cases h with
    | cons h1 h2 => exact .cons (Dt.mono k d _ h1) (DtAll.mono k ds _ h2)
end
theorem Dt.tk {H H' : Hp} {v : V} {d : PyData} (h : Dt H v d) (k : Tk H H') : Dt H' v d := Dt.mono k d v h
theorem DtAll.tk {H H' : Hp} {v : List V} {d : List PyData} (h : DtAll H v d) (k : Tk H H') : DtAll H' v d := DtAll.mono k d v h
mutual
theorem Dt.toDp {K : PySem.W.Frag} {H : Hp} : ∀ (d : PyData) (v : V), Dt H v d → Dp K H v d
  | .none, _, h => by cases h; exact .non
  | .bool _, _, h => by cases h; exact .bl _
  | .int _, _, h => by cases h; exact .int _
  | .str _, _, h => by cases h; exact .str _
  | .list _, _, h => by cases h
  | .tuple ds, _, h => by
    cases h with
    | tup e q => exact .tup (SqT.of e) (DtAll.toDp ds _ q)
  | .dict _, _, h => by cases h
theorem DtAll.toDp {K : PySem.W.Frag} {H : Hp} : ∀ (ds : List PyData) (vs : List V), DtAll H vs ds → DpAll K H vs ds
  | [], _, h => by cases h; exact .nil
  | d :: ds, _, h => by
    cases h with
    | cons h1 h2 => exact .cons (Dt.toDp d _ h1) (DtAll.toDp ds _ h2)
end
theorem Dt.dp {K : PySem.W.Frag} {H : Hp} {v : V} {d : PyData} (h : Dt H v d) : Dp K H v d := Dt.toDp d v h
theorem DtAll.dp {K : PySem.W.Frag} {H : Hp} {v : List V} {d : List PyData} (h : DtAll H v d) : DpAll K H v d := DtAll.toDp d v h
theorem DtAll.len {H : Hp} : ∀ {vs : List V} {ds : List PyData}, DtAll H vs ds → vs.length = ds.length
  | _, _, .nil => rfl
  | _, _, .cons _ h => congrArg (· + 1) h.len
theorem DtAll.get {H : Hp} : ∀ {vs : List V} {ds : List PyData} {i : Nat} {x : V}, DtAll H vs ds → vs[i]? = some x → ∃ d, ds[i]? = some d ∧ Dt H x d
  | _, _, _, _, .nil, e => by simp at e
  | _, _, 0, _, .cons h _, e => by
    simp at e
    subst e
    exact ⟨_, rfl, h⟩
  | _, _, i + 1, _, .cons _ t, e => by
    have e' := e
    simp only [List.getElem?_cons_succ] at e'
    obtain ⟨d, h1, h2⟩ := DtAll.get t e'
    exact ⟨d, by simpa using h1, h2⟩
theorem DtAll.at {H : Hp} {vs : List V} {ds : List PyData} {i : Nat} {d : PyData} (h : DtAll H vs ds) (e : ds[i]? = some d) : ∃ x, vs[i]? = some x ∧ Dt H x d := by
  have hi := (List.getElem?_eq_some_iff.mp e).1
  have hv : i < vs.length := by rw [h.len]; exact hi
  obtain ⟨d', e', q⟩ := h.get (List.getElem?_eq_getElem hv)
  rw [e] at e'
  cases e'
  exact ⟨_, List.getElem?_eq_getElem hv, q⟩
theorem DtAll.get_map {H : Hp} {α : Type} {f : α → PyData} {l : List α} {vs : List V} {i : Nat} {x : V} (h : DtAll H vs (l.map f)) (e : vs[i]? = some x) : ∃ a, l[i]? = some a ∧ Dt H x (f a) := by
  obtain ⟨d, h1, h2⟩ := h.get e
  rw [List.getElem?_map] at h1
  cases q : l[i]? with
  | none => rw [q] at h1; cases h1
  | some a =>
    rw [q] at h1
    cases h1
    exact ⟨a, rfl, h2⟩
theorem DtAll.app {H : Hp} : ∀ {vs ws : List V} {ds es : List PyData}, DtAll H vs ds → DtAll H ws es → DtAll H (vs ++ ws) (ds ++ es)
  | _, _, _, _, .nil, s => s
  | _, _, _, _, .cons r t, s => .cons r (t.app s)
theorem DtAll.one {H : Hp} {v : V} {d : PyData} (h : Dt H v d) : DtAll H [v] [d] := .cons h .nil
theorem Dt.intE {H : Hp} {v : V} {i : Int} (h : Dt H v (.int i)) : v = .int i := by cases h; rfl
theorem Dt.strE {H : Hp} {v : V} {x : Str} (h : Dt H v (.str x)) : v = .str x := by cases h; rfl
theorem Dt.nonE {H : Hp} {v : V} (h : Dt H v .none) : v = .non := by cases h; rfl
theorem Dt.blE {H : Hp} {v : V} {b : Bool} (h : Dt H v (.bool b)) : v = .bl b := by cases h; rfl
theorem Dt.tupE {H : Hp} {v : V} {ds : List PyData} (h : Dt H v (.tuple ds)) : ∃ a xs, v = .ref a ∧ H a = some (.tup xs) ∧ DtAll H xs ds := by
  cases h with
  | tup e q => exact ⟨_, _, rfl, e, q⟩
theorem DtAll.consE {H : Hp} {vs : List V} {d : PyData} {ds : List PyData} (h : DtAll H vs (d :: ds)) : ∃ x r, vs = x :: r ∧ Dt H x d ∧ DtAll H r ds := by
  cases h with
  | cons h1 h2 => exact ⟨_, _, rfl, h1, h2⟩
theorem DtAll.nilE {H : Hp} {vs : List V} (h : DtAll H vs []) : vs = [] := by cases h; rfl
/-! == of data without truth values is their being one -/
mutual
def pl : PyData → Bool
  | .none | .int _ | .str _ => true
  | .bool _ | .dict _ => false
  | .list xs | .tuple xs => plAll xs
def plAll : List PyData → Bool
  | [] => true
  | x :: xs => pl x && plAll xs
end
mutual
theorem eqv_pl : ∀ (d e : PyData), pl d = true → pl e = true → (PyData.eqv d e = true ↔ d = e)
  | .none, e, _, h => by cases e <;> simp [PyData.eqv, pl] at h ⊢
  | .int i, e, _, h => by cases e <;> simp [PyData.eqv, pl] at h ⊢
  | .str i, e, _, h => by cases e <;> simp [PyData.eqv, pl] at h ⊢
  | .bool b, _, h, _ => by simp [pl] at h
  | .dict b, _, h, _ => by simp [pl] at h
  | .list xs, e, h, h' => by
    cases e with
    | list ys =>
      have q := eqvAll_pl xs ys (by simpa [pl] using h) (by simpa [pl] using h')
      simp only [PyData.eqv, PyData.list.injEq]
      exact q
    | _ => simp [PyData.eqv]
  | .tuple xs, e, h, h' => by
    cases e with
    | tuple ys =>
      have q := eqvAll_pl xs ys (by simpa [pl] using h) (by simpa [pl] using h')
      simp only [PyData.eqv, PyData.tuple.injEq]
      exact q
    | _ => simp [PyData.eqv]
theorem eqvAll_pl : ∀ (d e : List PyData), plAll d = true → plAll e = true → (PyData.eqvAll d e = true ↔ d = e)
  | [], e, _, _ => by cases e <;> simp [PyData.eqvAll]
  | x :: xs, [], _, _ => by simp [PyData.eqvAll]
  | x :: xs, y :: ys, h, h' => by
    simp only [plAll, Bool.and_eq_true] at h h'
    simp only [PyData.eqvAll, Bool.and_eq_true, List.cons.injEq]
    rw [eqv_pl x y h.1 h'.1, eqvAll_pl xs ys h.2 h'.2]
end
theorem any_pl {ds : List PyData} {d : PyData} (h : plAll ds = true) (hd : pl d = true) : (ds.any fun z => PyData.eqv z d) = true ↔ d ∈ ds := by
  induction ds with
  | nil => simp
  | cons x xs ih =>
    simp only [plAll, Bool.and_eq_true] at h
    rw [List.any_cons, Bool.or_eq_true, ih h.2, eqv_pl x d h.1 hd, List.mem_cons]
    constructor
    · rintro (q | q)
      · exact .inl q.symm
      · exact .inr q
    · rintro (q | q)
      · exact .inl q.symm
      · exact .inr q
/-! in, not in, of a tuple of data -/
section
variable {X : Cx}
def rInT (K : PySem.W.Frag) : R2 := fun x y H Q => ∃ d ds, Dp K H x d ∧ Dp K H y (.tuple ds) ∧ SeqAt.shaped d = true ∧ SeqAt.shaped (.tuple ds) = true ∧ Q (.bl (ds.any fun z => PyData.eqv z d)) H
def rNotInT (K : PySem.W.Frag) : R2 := fun x y H Q => ∃ d ds, Dp K H x d ∧ Dp K H y (.tuple ds) ∧ SeqAt.shaped d = true ∧ SeqAt.shaped (.tuple ds) = true ∧ Q (.bl (!ds.any fun z => PyData.eqv z d)) H
theorem room_in {A : Around} {d : PyData} {ds : List PyData} (sd : SeqAt.shaped d = true) (hu : A.units + 65 < cLine) : A.units + 1 + min (PyData.depthAll ds) d.depth < cLine := by
  have h : d.depth ≤ 64 := by
    have q : (d.canLay0 && decide (d.depth ≤ 64)) = true := sd
    rw [Bool.and_eq_true] at q
    exact of_decide_eq_true q.2
  have := Nat.min_le_right (PyData.depthAll ds) d.depth
  omega
theorem op_inT (hu : X.A.units + 65 < cLine) : OpR X (compareOp .In) (rInT X.K) := by
  intro pins s σ H x y v u Q I rx ry h
  obtain ⟨d, ds, hd, he, sd, se, q⟩ := h
  obtain ⟨as, r1⟩ := Dp.reads I d x v hd rx
  obtain ⟨bs, r2⟩ := Dp.reads I (.tuple ds) y u he ry
  exact SeqAt.in_tuple_reads r2 r1 (SeqAt.canLay_of_shaped se) (SeqAt.canLay_of_shaped sd) (room_in sd hu) ⟨.bl _, H, I, rfl, q⟩
theorem op_notInT (hu : X.A.units + 65 < cLine) : OpR X (compareOp .NotIn) (rNotInT X.K) := by
  intro pins s σ H x y v u Q I rx ry h
  obtain ⟨d, ds, hd, he, sd, se, q⟩ := h
  obtain ⟨as, r1⟩ := Dp.reads I d x v hd rx
  obtain ⟨bs, r2⟩ := Dp.reads I (.tuple ds) y u he ry
  exact SeqAt.notIn_tuple_reads r2 r1 (SeqAt.canLay_of_shaped se) (SeqAt.canLay_of_shaped sd) (room_in sd hu) ⟨.bl _, H, I, rfl, q⟩
theorem units65 {k : Nat} {A : Around} (r : Room k A) : A.units + 65 < cLine := by have := r.un; omega
end
end Com
set_option Elab.async false
set_option linter.all false
set_option maxRecDepth 100000
set_option maxHeartbeats 4000000
namespace Com
open PySem PySem.Spec PyProof.Rows L2
theorem b_len : bootBuiltins "len" = some (.builtin "len") := by decide +kernel
theorem b_abs : bootBuiltins "abs" = some (.builtin "abs") := by decide +kernel
theorem b_int : bootBuiltins "int" = some (.type "int") := by decide +kernel
theorem b_bool : bootBuiltins "bool" = some (.type "bool") := by decide +kernel
theorem b_str : bootBuiltins "str" = some (.type "str") := by decide +kernel
theorem b_tuple : bootBuiltins "tuple" = some (.type "tuple") := by decide +kernel
theorem b_list : bootBuiltins "list" = some (.type "list") := by decide +kernel
theorem b_dict : bootBuiltins "dict" = some (.type "dict") := by decide +kernel
theorem b_range : bootBuiltins "range" = some (.type "range") := by decide +kernel
theorem b_enumerate : bootBuiltins "enumerate" = some (.type "enumerate") := by decide +kernel
theorem b_isinstance : bootBuiltins "isinstance" = some (.builtin "isinstance") := by decide +kernel
theorem b_sorted : bootBuiltins "sorted" = some (.builtin "sorted") := by decide +kernel
theorem b_any : bootBuiltins "any" = some (.builtin "any") := by decide +kernel
theorem b_all : bootBuiltins "all" = some (.builtin "all") := by decide +kernel
theorem b_max : bootBuiltins "max" = some (.builtin "max") := by decide +kernel
theorem b_min : bootBuiltins "min" = some (.builtin "min") := by decide +kernel
/-! defs by name -/
structure Dfn (K : PySem.W.Frag) (mg : Str → Option Value) (x : Str) (st : Stmt) (f : Addr) (fd : FuncData) (ps : List Str) : Prop where
  fn : Fun K x x st f fd
  mgf : mg x = some (.ref f)
  b : Binds K fd ps []
def Cal (P : Program) (w : World) (K : PySem.W.Frag) (mg : Str → Option Value) (base : Heap) (k : Nat) (x : Str) (sp : Sp) : Prop :=
  ∃ (f : Addr) (fd : FuncData) (ps : List Str), FnOk P w K mg base CX0 k f fd ps sp ∧ mg x = some (.ref f) ∧ PySem.W.keepIn K (.ref f) = true ∧ Binds K fd ps []
section
variable {P : Program} {w : World} {K : PySem.W.Frag} {mg : Str → Option Value} {base : Heap}
theorem Cal.mono {j k : Nat} {x : Str} {sp : Sp} (c : Cal P w K mg base j x sp) (h : j ≤ k) : Cal P w K mg base k x sp := by
  obtain ⟨f, fd, ps, F, r⟩ := c
  exact ⟨f, fd, ps, F.mono h, r⟩
theorem Cal.imp {k : Nat} {x : Str} {sp sp' : Sp} (c : Cal P w K mg base k x sp) (h : ∀ vs H Q E, sp' vs H Q E → sp vs H Q E) : Cal P w K mg base k x sp' := by
  obtain ⟨f, fd, ps, F, r⟩ := c
  exact ⟨f, fd, ps, F.imp h, r⟩
theorem cal_mk {x : Str} {st : Stmt} {f : Addr} {fd : FuncData} {N ps : List Str} {k : Nat} {sp : Sp} (F : Dfn K mg x st f fd ps) (S : FnScope N ps (defScope st)) (len : ∀ vs H Q E, sp vs H Q E → vs.length = ps.length)
    (hbody : ∀ (cdv : Value) (A : Around) (outer : List Env) (s : Shared) (H : Hp) (vs : List V) (Q : VK) (E : XK), Room k (A.deeper (envOfC x (defScope st) s.heap.objs.size f cdv)) → sp vs H Q E →
      ∃ t, PSs (cxOf CX0 P w K mg base N x (defScope st) f cdv A outer s H E).nox (defBody st) t ∧ t { nx := fun _ H' => Q .non H', rt := Q } (start N vs) H) : Cal P w K mg base (k + 1) x sp :=
  ⟨f, fd, ps, F.fn.ok S len hbody, F.mgf, F.fn.kp, F.b⟩
end
section
variable {X : Cx} {k j : Nat} {x : Str} {sp : Sp} {p pos : Pos} {e : Expr} {es : List Expr} {t : TA}
theorem pe_c (c : Cal X.prog X.w X.K X.mg X.base k x sp) (hr : Room j X.A) (hk : k ≤ j) (hg : Gl X x) (ha : PA X (e :: es) t)
    (hdb : (x == ("__debug__" : Str)) = false := by decide) (he : starEach (e :: es) X.env = (false, eval e X.env) :: starEach es X.env := by rfl) (hpl : (backTo pos (starEach es X.env)).any (·.1) = false := by rfl) :
    PE X (.Call (.Name x p) (e :: es) [] pos) (tCall sp [] E0 t) := by
  obtain ⟨f, fd, ps, F, hm, kp, b⟩ := c
  exact pe_call F (hr.mono hk) hg hm kp b .nil pass0 ha hdb he hpl
end
/-! sorted of a list of data -/
section
variable {X : Cx}
def rSortedD (K : PySem.W.Frag) : List V → Hp → VK → Prop := fun xs H Q => ∃ (a : Addr) (vs : List V) (ds : List PyData), xs = [.ref a] ∧ SqL K H a vs ∧ DpAll K H vs ds ∧ PySem.W.AllAlike ds ∧ PySem.W.Sortable ds ∧ (∀ d ∈ ds, d.depth ≤ 8) ∧
  ∀ p, H p = none → Q (.ref p) (upd H p (.lst (((vs.zip ds).mergeSort (PySem.W.dataLe false Prod.snd)).map Prod.fst)))
theorem each_zip {h : Heap} : ∀ {vs : List V} {us : List Value} {ds : List PyData}, Vals vs us → vs.length = ds.length → PySem.W.EachIs (fun (v : Value) (b : V × PyData) => RelV b.1 v) us (vs.zip ds)
  | _, _, [], .nil, _ => .nil
  | _, _, d :: ds, .cons r t, e => .cons r (each_zip (h := h) t (by simpa using e))
theorem each_zip_reads {h : Heap} : ∀ {vs : List V} {us : List Value} {ds : List PyData} {as : List Addr}, vs.length = ds.length → ReadsAll h us ds as → PySem.W.EachIs (fun (v : Value) (b : V × PyData) => ∃ as, Reads h v b.2 as) us (vs.zip ds)
  | [], _, [], _, _, r => by cases r; exact .nil
  | v :: vs, _, d :: ds, _, e, r => by
    cases r with
    | cons h1 h2 => exact .cons ⟨_, h1⟩ (each_zip_reads (by simpa using e) h2)
theorem vals_of_each : ∀ {out : List Value} {bs : List (V × PyData)}, PySem.W.EachIs (fun (v : Value) (b : V × PyData) => RelV b.1 v) out bs → Vals (bs.map Prod.fst) out
  | _, _, .nil => .nil
  | _, _, .cons h t => .cons h (vals_of_each t)
theorem zip_snd {vs : List V} {ds : List PyData} (e : vs.length = ds.length) : (vs.zip ds).map Prod.snd = ds := by
  rw [List.map_snd_zip]
  omega
theorem DpAll_len {K : PySem.W.Frag} {H : Hp} : ∀ {vs : List V} {ds : List PyData}, DpAll K H vs ds → vs.length = ds.length
  | _, _, .nil => rfl
  | _, _, .cons _ h => congrArg (· + 1) (DpAll_len h)
theorem call_sortedD (hu : X.A.units + 65 < cLine) : CallR X (.builtin "sorted") (rSortedD X.K) := by
  intro pins s σ H xs us Q I r h
  obtain ⟨a, vs, ds, rfl, hl, hd, hal, hk, hdp, q⟩ := h
  obtain ⟨u, rfl, ru⟩ := vals1 r
  cases (show u = Value.ref a from ru)
  obtain ⟨its, rv, pl, hlen⟩ := I.list hl
  obtain ⟨as, rd⟩ := Dp.readsAll I ds vs its hd rv
  have el := DpAll_len hd
  have es := zip_snd el
  refine PySem.W.sorted_data (R := fun (v : Value) (b : V × PyData) => RelV b.1 v) (enc := Prod.snd) (bs := vs.zip ds) (vs := its) pl.isList (each_zip (h := s.heap) rv el) (each_zip_reads el rd) (by rw [es]; exact hal) (by rw [es]; exact hk) (by rw [List.length_zip]; omega) (fun b hb => ?_) fun out ho eo => ?_
  · have hb2 : b.2 ∈ ds := by
      rw [← es]
      exact List.mem_map.mpr ⟨b, hb, rfl⟩
    have := hdp _ hb2
    omega
  · obtain ⟨ep, he'⟩ := PyProof.Rows.sortedAll_at s.heap its (List.toArray out)
    refine ⟨.ref _, upd H (s.heap.objs.size + 1) (.lst (((vs.zip ds).mergeSort (PySem.W.dataLe false Prod.snd)).map Prod.fst)), I.laid (t' := s.toks) (fun _ _ => PyProof.Rows.sortedAll_old) (Nat.le_succ _) ⟨?_, out, ep, vals_of_each eo, he'⟩, rfl, q _ (I.hok.fresh (Nat.le_succ _))⟩
    rw [List.length_map, List.length_mergeSort, List.length_zip]
    omega
end
/-! sorted lists told by what they are made of -/
theorem DtAll.of_pairs {H : Hp} {α : Type} {f : α → PyData} : ∀ {zs : List (V × α)}, (∀ z ∈ zs, Dt H z.1 (f z.2)) → DtAll H (zs.map Prod.fst) ((zs.map Prod.snd).map f)
  | [], _ => .nil
  | z :: zs, h => .cons (h z List.mem_cons_self) (DtAll.of_pairs fun y hy => h y (List.mem_cons_of_mem _ hy))
theorem DtAll.pairs {H : Hp} {α : Type} {f : α → PyData} : ∀ {vs : List V} {l : List α}, DtAll H vs (l.map f) → ∀ z ∈ vs.zip l, Dt H z.1 (f z.2)
  | [], _, _, z, hz => by simp at hz
  | v :: vs, [], h, z, hz => by simp at hz
  | v :: vs, a :: l, h, z, hz => by
    have h' : DtAll H (v :: vs) (f a :: l.map f) := h
    cases h' with
    | cons h1 h2 =>
      rw [List.zip_cons_cons] at hz
      rcases List.mem_cons.mp hz with e | hz
      · rw [e]; exact h1
      · exact DtAll.pairs h2 z hz
theorem zip_map_r {α β γ : Type} (f : β → γ) : ∀ (vs : List α) (l : List β), vs.zip (l.map f) = (vs.zip l).map fun p => (p.1, f p.2)
  | [], _ => by simp
  | _ :: _, [] => by simp
  | v :: vs, a :: l => by simp [zip_map_r f vs l]
/-- the list of an encoded list, sorted, stands for the sorted list -/
theorem sorted_enc {H : Hp} {α : Type} {f : α → PyData} {vs : List V} {l : List α} (h : DtAll H vs (l.map f)) :
    DtAll H (((vs.zip (l.map f)).mergeSort (PySem.W.dataLe false Prod.snd)).map Prod.fst) ((l.mergeSort (PySem.W.dataLe false f)).map f) := by
  have el : vs.length = l.length := by rw [h.len, List.length_map]
  rw [zip_map_r]
  rw [← PySem.W.sort_maps (r := PySem.W.dataLe false fun p : V × α => f p.2) (s := PySem.W.dataLe false Prod.snd) (fun p : V × α => (p.1, f p.2)) (fun _ _ _ _ => rfl), List.map_map]
  have e2 : (l.mergeSort (PySem.W.dataLe false f)) = ((vs.zip l).mergeSort (PySem.W.dataLe false fun p : V × α => f p.2)).map Prod.snd := by
    rw [PySem.W.sort_maps (r := PySem.W.dataLe false fun p : V × α => f p.2) (s := PySem.W.dataLe false f) Prod.snd (fun _ _ _ _ => rfl), List.map_snd_zip (by omega)]
  rw [e2]
  exact DtAll.of_pairs fun z hz => DtAll.pairs h z (by rw [List.mem_mergeSort] at hz; exact hz)
/-- lists of whole numbers -/
def natV (l : List Nat) : List V := l.map fun n => .int (n : Nat)
theorem nat_dt (H : Hp) : ∀ l : List Nat, DtAll H (natV l) (l.map fun n => .int (n : Nat))
  | [] => .nil
  | n :: l => .cons (.int _) (nat_dt H l)
theorem dt_nat {H : Hp} : ∀ {l : List Nat} {vs : List V}, DtAll H vs (l.map fun n => PyData.int (n : Nat)) → vs = natV l
  | [], _, h => by cases h; rfl
  | n :: l, _, h => by
    have h' : DtAll H _ (PyData.int (n : Nat) :: l.map fun n => PyData.int (n : Nat)) := h
    cases h' with
    | cons h1 h2 =>
      rw [h1.intE, dt_nat h2]
      rfl
theorem natV_get {l : List Nat} {i : Nat} {v : V} (h : (natV l)[i]? = some v) : ∃ n, l[i]? = some n ∧ v = .int (n : Nat) := by
  unfold natV at h
  rw [List.getElem?_map] at h
  cases e : l[i]? with
  | none => rw [e] at h; cases h
  | some n => rw [e] at h; exact ⟨n, rfl, (Option.some.inj h).symm⟩
theorem natV_at {l : List Nat} {i n : Nat} (h : l[i]? = some n) : (natV l)[i]? = some (.int (n : Nat)) := by
  unfold natV
  rw [List.getElem?_map, h]
  rfl
theorem natV_app (l m : List Nat) : natV (l ++ m) = natV l ++ natV m := List.map_append
theorem natV_len (l : List Nat) : (natV l).length = l.length := List.length_map _
/-! rules with the written part named: for comprehensions' blocks, too -/
section
variable {X : Cx} (K : PySem.W.Frag)
theorem ixT (h : X.K = K) : IxR X (rIxT K) := h ▸ ix_tup
theorem ixL (h : X.K = K) : IxR X (rIxL K) := h ▸ ix_list
theorem ixQ (h : X.K = K) : IxR X (rIx K) := h ▸ ix_seq
theorem opInT (h : X.K = K) (hu : X.A.units + 65 < cLine) : OpR X (compareOp .In) (rInT K) := h ▸ op_inT hu
theorem opNotInT (h : X.K = K) (hu : X.A.units + 65 < cLine) : OpR X (compareOp .NotIn) (rNotInT K) := h ▸ op_notInT hu
theorem opInD (h : X.K = K) (hu : X.A.units + 65 < cLine) : OpR X (compareOp .In) (rInD K) := h ▸ op_inD hu
theorem opNotInD (h : X.K = K) (hu : X.A.units + 65 < cLine) : OpR X (compareOp .NotIn) (rNotInD K) := h ▸ op_notInD hu
theorem opEqD (h : X.K = K) (hu : X.A.units + 64 < cLine) : OpR X (compareOp .Eq) (rEqD K) := h ▸ op_eqD hu
theorem opNeD (h : X.K = K) (hu : X.A.units + 64 < cLine) : OpR X (compareOp .NotEq) (rNeD K) := h ▸ op_neD hu
theorem opCatT (h : X.K = K) : OpR X (binaryOp .Add) (rCatT K) := h ▸ op_catT
def rLen (K : PySem.W.Frag) : List V → Hp → VK → Prop := fun xs H Q => ∃ p ys, xs = [.ref p] ∧ (SqL K H p ys ∨ SqT K H p ys) ∧ Q (.int ys.length) H
theorem cLen (h : X.K = K) : CallR X (.builtin "len") (rLen K) := h ▸ call_len_seq
def rListOf (K : PySem.W.Frag) : List V → Hp → VK → Prop := fun xs H Q => ∃ p ys, xs = [.ref p] ∧ (SqL K H p ys ∨ SqT K H p ys) ∧ ∀ l, H l = none → Q (.ref l) (upd H l (.lst ys))
theorem cList (h : X.K = K) : CallR X (.type "list") (rListOf K) := h ▸ call_list_of
def rTupOf (K : PySem.W.Frag) : List V → Hp → VK → Prop := fun xs H Q => ∃ p ys, xs = [.ref p] ∧ ((SqL K H p ys ∧ ∀ l, H l = none → Q (.ref l) (upd H l (.tup ys))) ∨ (SqT K H p ys ∧ Q (.ref p) H))
theorem cTup (h : X.K = K) : CallR X (.type "tuple") (rTupOf K) := h ▸ call_tuple_of
theorem cSort (h : X.K = K) (hu : X.A.units + 65 < cLine) : CallR X (.builtin "sorted") (rSortedD K) := h ▸ call_sortedD hu
theorem cIsi (h : X.K = K) : CallR X (.builtin "isinstance") (rIsi K) := h ▸ call_isi
theorem slT (h : X.K = K) : SlR X (rSlT K) := h ▸ sl_tup
theorem slA (h : X.K = K) : SlR X (rSlA K) := h ▸ sl_tupA
end
/-! small lemmas -/
def Sq (K : PySem.W.Frag) (H : Hp) (a : Addr) (xs : List V) : Prop := SqL K H a xs ∨ SqT K H a xs
theorem ixq {K : PySem.W.Frag} {H : Hp} {a : Addr} {xs : List V} {i : Int} {v : V} {Q : VK} (h : Sq K H a xs) (e : atI xs i = some v) (q : Q v H) : rIx K (.ref a) (.int i) H Q :=
  h.elim (fun h => .inl ⟨a, xs, i, v, rfl, rfl, h, e, q⟩) fun h => .inr (.inl ⟨a, xs, i, v, rfl, rfl, h, e, q⟩)
theorem atN {xs : List V} {i : Nat} {v : V} (h : xs[i]? = some v) : atI xs (i : Int) = some v := atI_nat h
theorem same_upd {H : Hp} {p : Addr} {o : HO} (h : H p = none) : Same H (upd H p o) := fun b x e => by rw [upd_ne (ne_of_none e h)]; exact e
theorem same_tk {H H' : Hp} (h : Same H H') : Tk H H' := fun a xs e => h a _ e
theorem same_sqT {K : PySem.W.Frag} {H H' : Hp} {a : Addr} {xs : List V} (e : Same H H') (h : SqT K H a xs) : SqT K H' a xs := by
  rcases h with h | h
  · rcases h with h | ⟨o, h⟩
    · exact .inl (.inl (e _ _ h))
    · exact .inl (.inr ⟨o, e _ _ h⟩)
  · exact .inr h
theorem same_sq {K : PySem.W.Frag} {H H' : Hp} {a : Addr} {xs : List V} (e : Same H H') (h : Sq K H a xs) : Sq K H' a xs := h.elim (fun h => .inl (e.seq h)) fun h => .inr (same_sqT e h)
end Com
set_option Elab.async false
set_option linter.all false
set_option maxRecDepth 100000
set_option maxHeartbeats 4000000
namespace GenT
open PySem PySem.Spec PyProof.Rows L2 GxR
/-- the element as a test of what the name x holds; the globals and the built-ins may be read -/
def EltB (X : Cx) (scope : Scope) (x : Str) (elt : Expr) (ok : Value → Prop) (pb : Value → Bool) : Prop :=
  ∀ (cenv : Env) (A' : Around) (E' : Value → Shared → Prop) (u : Value) (s₂ : Shared) (m₂ : Str → Option Value), cenv.scope = scope → cenv.globals = mainGlobals → cenv.builtins = builtinsNs → A'.handled = none → L2.Mod X.K X.mg X.base →
    (∀ b o, X.base.get? b = some o → s₂.heap.get? b = some o) → ok u → s₂.heap.Ns cenv.locals m₂ → m₂ x = some u →
    wpAny (model X.prog X.w) A' (eval elt cenv) (fun y s₃ => y = .bool (pb u) ∧ Keeps s₂ s₃) E' s₂
/-- the test at place j -/
def trV (pb : Value → Bool) (l : List Value) (j : Nat) : Bool := match l[j]? with
  | some b => pb b
  | none => false
theorem trV_some {pb : Value → Bool} {l : List Value} {j : Nat} {b : Value} (h : l[j]? = some b) : trV pb l j = pb b := by
  unfold trV
  rw [h]
theorem any_trV (l : List Value) (pb : Value → Bool) : (List.range l.length).any (trV pb l) = l.any pb := by
  rw [Bool.eq_iff_iff, List.any_eq_true, List.any_eq_true]
  constructor
  · intro ⟨j, hj, h⟩
    have hj' := List.mem_range.mp hj
    rw [trV_some (List.getElem?_eq_getElem hj')] at h
    exact ⟨l[j], List.getElem_mem hj', h⟩
  · intro ⟨b, hb, h⟩
    obtain ⟨j, hj, e⟩ := List.getElem_of_mem hb
    refine ⟨j, List.mem_range.mpr hj, ?_⟩
    rw [trV_some (List.getElem?_eq_getElem hj), e]
    exact h
theorem all_trV (l : List Value) (pb : Value → Bool) : (List.range l.length).all (trV pb l) = l.all pb := by
  rw [Bool.eq_iff_iff, List.all_eq_true, List.all_eq_true]
  constructor
  · intro h b hb
    obtain ⟨j, hj, e⟩ := List.getElem_of_mem hb
    have q := h j (List.mem_range.mpr hj)
    rw [trV_some (List.getElem?_eq_getElem hj), e] at q
    exact q
  · intro h j hj
    have hj' := List.mem_range.mp hj
    rw [trV_some (List.getElem?_eq_getElem hj')]
    exact h _ (List.getElem_mem hj')
/-- the generator g over the items, ready to be walked -/
def ReadyV (X : Cx) (pins : List (Addr × Obj)) (σ : L2.St) (H1 : Hp) (P : Addr) (l : List Value) (pb : Value → Bool) (g : Addr) (s5 : Shared) : Prop :=
  ∃ (fp wr : List Addr) (G : Array GenState → Array GenState → Prop) (F : Nat → Value → Prop) (St : Nat → Shared → Prop),
    WalksS X.prog X.w X.A.in1 g fp wr G l.length F St ∧ St 0 s5 ∧
    TruthOf X.prog X.w X.A.in1 F (trV pb l) ∧
    ∀ s', Moved wr G s5 s' → ∃ H2, Tabbed P H1 H2 ∧ Inv X pins σ H2 s'
/-- how a source is walked: the iterator is one new object -/
def Src (X : Cx) (H1 : Hp) (s1 : Shared) (u : Value) (l : List Value) : Prop :=
  ∀ (Q : Value → Shared → Prop), (∀ (o : Obj) (fp : List Addr) (St : Nat → Heap → Prop), (∀ b ∈ fp, b = s1.heap.objs.size ∨ ∃ ob, s1.heap.get? b = some ob ∧ ob.data ≠ .fields #[] ∧ H1 b ≠ some (.tbl #[]) ∧ ∀ ps, H1 b ≠ some (.tbl ps)) →
      (∀ A' : Around, A'.handled = none → Walks X.prog X.w A' s1.heap.objs.size fp [s1.heap.objs.size] l.length (fun i v => ∃ v', l[i]? = some v' ∧ v = v') St) → St 0 (s1.heap.push o) →
      Q (.ref s1.heap.objs.size) { s1 with heap := s1.heap.push o }) → ∀ E, wpAny (model X.prog X.w) X.A (pyIter u) Q E s1
section
variable {X : Cx} {pins : List (Addr × Obj)} {σ : L2.St} {H : Hp} {s : Shared}
theorem gen_src {c P : Addr} {elt iter : Expr} {x : Str} {px gpos : Pos} {scope : Scope} {pb : Value → Bool} {ok : Value → Prop} {te : TE} {k : Nat} {Q' : Value → Shared → Prop} {B : V → Hp → Prop} {R : V → List Value → Hp → Prop}
    (hB : ∀ (v : V) (H1 : Hp), B v H1 → TabG H1 P ∧ ∀ (u : Value) (s1 : Shared), RelV v u → Inv X pins σ H1 s1 → ∃ l : List Value, (∀ z ∈ l, ok z) ∧ Src X H1 s1 u l ∧ R v l H1)
    (hr : Room k X.A) (TB : TabB X.base X.mg c P) (hcode : X.env.code = .ref c) (S : GenS X.env scope x) (hi : PE X iter te) (hel : EltB X scope x elt ok pb)
    (hs : ∀ v, genFold iter X.env v = pure v) (I : Inv X pins σ H s)
    (h : te σ H B)
    (hQ : ∀ v l H1 g s5, R v l H1 → ReadyV X pins σ H1 P l pb g s5 → Q' (.ref g) s5) :
    wpAny (model X.prog X.w) X.A (eval (.GeneratorExp elt [⟨.Name x px, iter, [], 0⟩] scope gpos) X.env) Q' X.xe s := by
  refine wpAny_GeneratorExp_walksQ hr.hd S.co (closure_ok S.free) S.cell S.dot S.loc S.kind (by have := hr.dp; omega) ?_ hs
  refine thn (hi.run pins s σ H _ I h) fun xv s1 ⟨v, H1, I1, r1, q1⟩ => ?_
  obtain ⟨⟨ps, hP, ht⟩, q1⟩ := hB v H1 q1
  obtain ⟨l, hok, hsrc, q1⟩ := q1 xv s1 r1 I1
  refine hsrc _ (fun o fp0 St hfp W hst => ?_) _
  have hPs : s1.heap.get? P = some { cls := .none, data := .fields ps } := I1.hok P _ hP
  have hPlt : P < s1.heap.objs.size := Heap.lt_size hPs
  have hP2 : (s1.heap.push o).get? P = some { cls := .none, data := .fields ps } := Heap.get?_push_of_some _ hPs
  have cd : PySem.W.CodeHd (s1.heap.push o) c P := TB.code.keeps fun b u e => Heap.get?_push_of_some _ (I1.bk b u e)
  have lim2 : (s1.heap.push o).NoLimit := I1.nolimit.push o
  have cont : ∀ (code : Value) (h3 : Heap) (tk : Nat) (ps' : Array Value), Heap.ExtBut P (s1.heap.push o) h3 → (s1.heap.push o).objs.size ≤ h3.objs.size → h3.get? P = some { cls := .none, data := .fields ps' } → (∃ more, ps' = ps ++ more) → TriplesOk ps'.toList →
      wpAny (model X.prog X.w) X.A (builtinsFor X.env.globals X.env.builtins) (fun bi s₄ =>
        ∃ Ia fp wr n₀ Pf St₀ pz F, Value.ref s1.heap.objs.size = .ref Ia ∧ (∀ A' : Around, A'.handled = none → Walks X.prog X.w A' Ia fp wr n₀ Pf St₀) ∧ St₀ 0 s₄.heap ∧ (∀ b ∈ fp, b < s₄.heap.objs.size) ∧ s₄.heap.NoLimit ∧ cStatics ∉ wr ∧
          (∀ href : Heap, (∀ b o, s₄.heap.get? b = some o → href.get? b = some o) →
            QuietGen X.prog X.w (genEnv scope (cloFrom X.env.cells scope.names []) s₄.heap.objs.size code bi X.env) x [] elt (List.range s₄.heap.objs.size) wr Pf pz F href) ∧
          (∀ a h₅ tk gs, gs.bare = true → s₄.heap.objs.size < a → h₅.objs.size = a + 1 → (∀ b o, s₄.heap.get? b = some o → h₅.get? b = some o) →
            WalksS X.prog X.w X.A.in4 a (a :: s₄.heap.objs.size :: List.range s₄.heap.objs.size) (s₄.heap.objs.size :: wr) (GenOnlyQ s₄.gens.size) (passing pz n₀ 0).length
              (fun j y => ∃ i, (passing pz n₀ 0)[j]? = some i ∧ F i y) (GenAt X.prog X.w X.A.in4 a s₄.gens.size s₄.heap.objs.size (List.range s₄.heap.objs.size) wr pz n₀ F) →
            GenAt X.prog X.w X.A.in4 a s₄.gens.size s₄.heap.objs.size (List.range s₄.heap.objs.size) wr pz n₀ F 0 { s₄ with gens := s₄.gens.push gs, toks := tk, heap := h₅ } →
            Q' (.ref a) { s₄ with gens := s₄.gens.push gs, toks := tk, heap := h₅ })) X.xe { s1 with heap := h3, toks := tk } := by
    intro code h3 tk ps' hx hsz hP3 hmore ht3
    obtain ⟨bm, ob, e1, e2, e3, e4, e5, e6, e7, e8⟩ := TB.bm
    have hcP : cStatics ≠ P := fun e => by
      obtain ⟨_, hns, _⟩ := I1.nolimit
      obtain ⟨o', es, ep, ho, hd, _⟩ := hns
      rw [e, hPs] at ho
      cases ho
      cases hd
    have hcl : cStatics < s1.heap.objs.size := let ⟨_, hns, _⟩ := I1.nolimit; hns.lt
    have sz2 : (s1.heap.push o).objs.size = s1.heap.objs.size + 1 := Heap.size_push ..
    have keep3 : ∀ b u, b ≠ P → s1.heap.get? b = some u → h3.get? b = some u := fun b u hb e => hx b u hb (Heap.get?_push_of_some _ e)
    refine wpAny_builtinsFor (m := X.mg) (by rw [I1.ok.glob]; exact ((I1.mod.glob.keeps I1.bk).push o).extBut hx TB.gP) e1 e2 (keep3 _ _ e4 (I1.bk _ _ e5)) e6 e7 e8 ?_
    have hfpP : ∀ b ∈ fp0, b ≠ P := fun b hb z => by
      rcases hfp b hb with e | ⟨ob', q1', q2', _, q4'⟩
      · exact Nat.ne_of_lt hPlt (z.symm.trans e)
      · exact q4' ps (z ▸ hP)
    refine ⟨s1.heap.objs.size, fp0, [s1.heap.objs.size], l.length, (fun i v => ∃ v', l[i]? = some v' ∧ v = v'), St, (fun _ => true), (fun i y => ∃ cc, l[i]? = some cc ∧ y = .bool (pb cc)), rfl, W, ?_, ?_, lim2.extBut hx hcP, ?_, ?_, ?_⟩
    · refine (W X.A hr.hd).frame _ _ _ hst fun b hb u e => hx b u (hfpP b hb) e
    · intro b hb
      show b < h3.objs.size
      have hlt3 : s1.heap.objs.size < h3.objs.size := by omega
      rcases hfp b hb with z | ⟨ob', q1', _⟩
      · rw [z]
        exact hlt3
      · exact Nat.lt_trans (Heap.lt_size q1') hlt3
    · intro z
      rcases List.mem_cons.mp z with z | z
      · exact Nat.ne_of_lt hcl z
      · cases z
    · intro href hhref
      refine ⟨fun A' E' i v s₂ m₂ hA hPv hn hm hk => ?_, fun A' E' i v s₂ m₂ hA hPv hp hn hm hk => ?_⟩
      · simp only [List.forIn_nil]
        exact wpAny_pure ⟨rfl, keeps_refl _⟩
      · obtain ⟨cc, hcc, rfl⟩ := hPv
        have hb2 : ∀ b o', X.base.get? b = some o' → s₂.heap.get? b = some o' := fun b o' e => by
          have e1' := I1.bk b o' e
          have hlt := Heap.lt_size e1'
          have hbP : b ≠ P := fun z => by
            have z2 := (I1.bs b o' e).2
            rw [z, hP] at z2
            cases z2
          have e3' : h3.get? b = some o' := keep3 b o' hbP e1'
          have hl3 : b < h3.objs.size := Heap.lt_size e3'
          refine hk b (List.mem_range.mpr hl3) (fun z => ?_) o' (hhref b o' e3')
          rcases List.mem_cons.mp z with z | z
          · rw [z] at hlt
            exact Nat.lt_irrefl _ hlt
          · cases z
        exact wpAny_mono (hel _ A' E' v s₂ m₂ rfl I1.ok.glob rfl hA I1.mod hb2 (hok v (List.mem_of_getElem? hcc)) hn hm) (fun y s3 r => ⟨⟨v, hcc, r.1⟩, r.2⟩) fun _ _ e => e
    · intro g h5 tk5 gs hgb hag hsz5 hk5 W5 hat
      simp only [GxR.passing_true, List.length_range] at W5
      refine hQ v l H1 g _ q1 ⟨_, _, _, _, _, W5.in4_1, hat, ?_, fun s' hm => ?_⟩
      · intro j y sj Qj Ej hy hQj
        obtain ⟨i, hij, cc, hcc, rfl⟩ := hy
        obtain ⟨hj, ej⟩ := List.getElem?_eq_some_iff.mp hij
        rw [List.getElem_range] at ej
        subst ej
        have hQ2 : Qj (trV pb l j) sj := hQj
        rw [trV_some hcc] at hQ2
        exact wpAny_truthy_bool hQ2
      · obtain ⟨more, em⟩ := hmore
        have nwr : ∀ b u, s1.heap.get? b = some u → b ∉ h3.objs.size :: [s1.heap.objs.size] := fun b u e hb => by
          have hl := Heap.lt_size e
          rcases List.mem_cons.mp hb with z | z
          · rw [z] at hl
            have h9 : (h3.objs.size : Nat) < s1.heap.objs.size := hl
            omega
          · rcases List.mem_cons.mp z with z | z
            · rw [z] at hl
              exact Nat.lt_irrefl _ hl
            · cases z
        have J := inv_tab (more := more) (h' := s'.heap) (g' := s'.gens) (d' := s'.drawn) (t' := s'.toks) I1 hP (fun b u hb e => hm.heap b u (nwr b u e) (hk5 b u (keep3 b u hb e)))
          (by rw [← em]; exact hm.heap P _ (nwr P _ hPs) (hk5 P _ hP3)) (AllBare.movedS (I1.bare.push hgb) hm)
        rw [sh_eta s1 s' hm.os] at J
        refine ⟨upd H1 P (.tbl (ps ++ more)), ⟨⟨ps ++ more, upd_same, by rw [← em]; exact ht3⟩, fun b hb => upd_ne hb⟩, J⟩
  refine ⟨lim2, ?_⟩
  cases hf : codeAmong gpos ps.toList with
  | none =>
    refine wpAny_genexprCodeX hcode (cd.code hP2 ht) (cd.tab hP2) hf fun c' h' tk hx hge hlt hco' _ htab' _ => ?_
    obtain ⟨o1, vs, f1, tf, fl, tg, inF, tx, tt, op, _, _, _, _, _, _, _, _, _, htr, _⟩ := hco'
    exact cont _ h' tk _ hx (Nat.le_trans hge (Nat.le_of_lt hlt)) htab'.2 ⟨_, rfl⟩ htr
  | some cv =>
    refine wpAny_genexprCode_hit hcode (cd.code hP2 ht) hf ?_
    exact cont cv (s1.heap.push o) s1.toks ps (Heap.ExtBut.refl _ _) (Nat.le_refl _) hP2 ⟨#[], by simp⟩ ht
/-- a tracked tuple as a source -/
theorem src_tup {H1 : Hp} {s1 : Shared} {a : Addr} {xs : List V} (I1 : Inv X pins σ H1 s1) (h : H1 a = some (.tup xs)) : ∃ l : List Value, Vals xs l ∧ Src X H1 s1 (.ref a) l := by
  obtain ⟨_, its, rv, o, e1, e2, n, e3⟩ := (show ObjOk X.prog X.w H1 s1.heap a (.tup xs) from I1.hok a _ h)
  refine ⟨its, rv, fun Q hQ E => ?_⟩
  have hlt : a < s1.heap.objs.size := Heap.lt_size e1
  have hT : s1.heap.IsTuple a its.toArray := ⟨o, e1, e2, n, e3⟩
  refine wpAny_pyIter_tuple hT (hQ _ [s1.heap.objs.size, a] (fun i h => h.IsTupleIter s1.heap.objs.size a i ∧ h.IsTuple a its.toArray) ?_ ?_ ?_)
  · intro b hb
    rcases List.mem_cons.mp hb with z | z
    · exact .inl z
    · rcases List.mem_cons.mp z with z | z
      · subst z
        refine .inr ⟨o, e1, fun q => ?_, fun q => ?_, fun ps q => ?_⟩
        · rw [e3] at q
          cases q
        · rw [h] at q
          cases q
        · rw [h] at q
          cases q
      · cases z
  · intro A' hA
    have W := Walks.tuple (prog := X.prog) (w := X.w) hA s1.heap.objs.size a (Nat.ne_of_lt hlt) its.toArray
    have e5 : its.toArray.size = its.length := by simp
    have e6 : (fun (i : Nat) (v : Value) => its.toArray[i]? = some v) = (fun i v => ∃ v', its[i]? = some v' ∧ v = v') := by
      funext i v
      apply propext
      constructor
      · intro q
        exact ⟨v, by simpa using q, rfl⟩
      · rintro ⟨v', q, rfl⟩
        simpa using q
    rw [e5, e6] at W
    exact W
  · exact ⟨⟨_, Heap.get?_push_size _ rfl, rfl, rfl⟩, _, Heap.get?_push_of_some _ e1, e2, n, e3⟩
/-- any(test for x in e), e a tuple; behind it the def's table may have grown. pv: the test on values -/
def tAnyT (P : Addr) (okv : V → Prop) (pv : V → Bool) (te : TE) : TE := fun σ H Q => te σ H fun v H1 => TabG H1 P ∧ ∃ (a : Addr) (xs : List V), v = .ref a ∧ H1 a = some (.tup xs) ∧ (∀ x ∈ xs, okv x) ∧ ∀ H2, Tabbed P H1 H2 → Q (.bl (xs.any pv)) H2
theorem any_vals {pv : V → Bool} {pb : Value → Bool} {okv : V → Prop} (hp : ∀ x u, okv x → RelV x u → pb u = pv x) : ∀ {xs : List V} {us : List Value}, Vals xs us → (∀ x ∈ xs, okv x) → us.any pb = xs.any pv
  | _, _, .nil, _ => rfl
  | _, _, .cons r t, h => by
    rw [List.any_cons, List.any_cons, any_vals hp t (fun x hx => h x (List.mem_cons_of_mem _ hx)), hp _ _ (h _ List.mem_cons_self) r]
theorem ok_vals {okv : V → Prop} {ok : Value → Prop} (hp : ∀ x u, okv x → RelV x u → ok u) : ∀ {xs : List V} {us : List Value}, Vals xs us → (∀ x ∈ xs, okv x) → ∀ z ∈ us, ok z
  | _, _, .nil, _, z, hz => by cases hz
  | _, _, .cons r t, h, z, hz => by
    rcases List.mem_cons.mp hz with e | hz
    · rw [e]
      exact hp _ _ (h _ List.mem_cons_self) r
    · exact ok_vals hp t (fun x hx => h x (List.mem_cons_of_mem _ hx)) z hz
theorem pe_anyT {c P : Addr} {elt iter : Expr} {x : Str} {px p pos gpos : Pos} {scope : Scope} {pb : Value → Bool} {ok : Value → Prop} {okv : V → Prop} {pv : V → Bool} {te : TE} {k : Nat}
    (hr : Room k X.A) (hg : Gl X "any") (hm : X.mg "any" = none) (TB : TabB X.base X.mg c P) (hcode : X.env.code = .ref c) (S : GenS X.env scope x) (hi : PE X iter te) (hel : EltB X scope x elt ok pb)
    (hp : ∀ x u, okv x → RelV x u → pb u = pv x) (hp2 : ∀ x u, okv x → RelV x u → ok u)
    (hs : ∀ v, genFold iter X.env v = pure v)
    (he : starEach [.GeneratorExp elt [⟨.Name x px, iter, [], 0⟩] scope gpos] X.env = (false, eval (.GeneratorExp elt [⟨.Name x px, iter, [], 0⟩] scope gpos) X.env) :: starEach [] X.env := by rfl) :
    PE X (.Call (.Name "any" p) [.GeneratorExp elt [⟨.Name x px, iter, [], 0⟩] scope gpos] [] pos) (tAnyT P okv pv te) := by
  refine ⟨fun pins s σ H Q I h => ?_⟩
  refine wpAny_Call_Name_kw (ld_blt I hg hm boot_any ?_)
  refine PyProof.Rows.callWith_builtin1 ?_ he (by rfl)
  rw [he]
  show wpAny _ _ (spliced ((false, eval (.GeneratorExp elt [⟨.Name x px, iter, [], 0⟩] scope gpos) X.env) :: backTo pos (starEach [] X.env))) _ _ s
  refine Calls.spliced_cons (gen_src (te := te) (R := fun v l H1 => ∀ H2, Tabbed P H1 H2 → Q (.bl (l.any pb)) H2) (hB := ?_) hr TB hcode S hi hel hs I h fun v l H1 g s5 hR hG => ?_)
  · rintro v H1 ⟨hT, a, xs, rfl, ha, hok, hq⟩
    refine ⟨hT, fun u s1 ru I1 => ?_⟩
    cases (show u = Value.ref a from ru)
    obtain ⟨l, rv, hsrc⟩ := src_tup I1 ha
    refine ⟨l, ok_vals hp2 rv hok, hsrc, fun H2 hTb => ?_⟩
    rw [any_vals hp rv hok]
    exact hq H2 hTb
  obtain ⟨fp, wr, G, F, St, W, hst, htr, hI⟩ := hG
  refine Calls.spliced_nil ?_
  refine call_any_walkS (W.self 0 _ _ _ hst ⟨g, fp, wr, G, _, F, St, _, rfl, W, hst, htr, fun s' hmv => ?_⟩)
  obtain ⟨H2, hT, J⟩ := hI s' hmv
  refine ⟨.bl _, H2, J, rfl, ?_⟩
  rw [any_trV l pb]
  exact hR H2 hT
end
/-- isinstance(x, bool) of an int, a text, a truth value, None -/
def isB : Value → Bool
  | .bool _ => true
  | _ => false
def Flat (u : Value) : Prop := (∃ n t, u = .int n t) ∨ (∃ y t, u = .str y t) ∨ ∃ b, u = .bool b
theorem elt_isb {X : Cx} {scope : Scope} {x : Str} {p1 p2 p3 p4 : Pos} (hk : scope.kind = .function) (hl : scope.names.lookup x = some .local) (hi : scope.names.lookup ("isinstance" : Str) = some .globalImplicit) (hb : scope.names.lookup ("bool" : Str) = some .globalImplicit)
    (mi : X.mg "isinstance" = none) (mb : X.mg "bool" = none) (vi : bootBuiltins "isinstance" = some (.builtin "isinstance")) (vb : bootBuiltins "bool" = some (.type "bool")) (hd : (x == ("__debug__" : Str)) = false := by decide) :
    EltB X scope x (.Call (.Name "isinstance" p1) [.Name x p2, .Name "bool" p3] [] p4) Flat isB := by
  intro cenv A' E' u s₂ m₂ hs hg hbn hA M hkp hok hn hm
  obtain ⟨mbn, h1, h2⟩ := M.blt
  have kB : ∀ {s : Shared}, s.heap = s₂.heap → X.K.In s.heap := fun e => by rw [e]; exact M.kin.keeps hkp
  refine wpAny_Call_Name_kw (Calls.Name_function_global (by rw [hs]; exact hk) (show cenv.scope.names.lookup ("isinstance" : Str) = some .globalImplicit by rw [hs]; exact hi)
    (Calls.loadGlobal_builtin (by rw [hg]; exact M.glob.keeps hkp) mi (by rw [hbn]; exact h1.keeps hkp) ((h2 _ (by decide)).trans vi) ?_))
  refine PyProof.Rows.callWith_builtin1 ?_ (by rfl) (by rfl)
  refine Calls.spliced_cons (wpAny_Name (wpAny_loadName_local (by rw [hs]; exact hk) (show cenv.scope.names.lookup x = some .local by rw [hs]; exact hl) hn hm ?_) hd)
  refine Calls.spliced_cons (Calls.Name_function_global (by rw [hs]; exact hk) (show cenv.scope.names.lookup ("bool" : Str) = some .globalImplicit by rw [hs]; exact hb)
    (Calls.loadGlobal_builtin (by rw [hg]; exact M.glob.keeps hkp) mb (by rw [hbn]; exact h1.keeps hkp) ((h2 _ (by decide)).trans vb) ?_))
  refine Calls.spliced_nil ?_
  rcases hok with ⟨n, t, rfl⟩ | ⟨y, t, rfl⟩ | ⟨b, rfl⟩
  · exact PySem.W.kia_one PySem.W.kitx_int (M.kin.keeps hkp) trivial (kit_ty (a := "int") (b := "bool") (r := false) (by decide +kernel)) (fun z => nomatch z) fun tk => ⟨rfl, keeps_tok _ _⟩
  · exact PySem.W.kia_one PySem.W.kitx_str (M.kin.keeps hkp) trivial (kit_ty (a := "str") (b := "bool") (r := false) (by decide +kernel)) (fun z => nomatch z) fun tk => ⟨rfl, keeps_tok _ _⟩
  · exact PySem.W.kia_one PySem.W.kitx_bool (M.kin.keeps hkp) trivial (kit_ty (a := "bool") (b := "bool") (r := true) (by decide +kernel)) (fun z => nomatch z) fun tk => ⟨rfl, keeps_tok _ _⟩
end GenT
set_option Elab.async false
set_option linter.all false
set_option maxRecDepth 100000
set_option maxHeartbeats 4000000
namespace EnumT
open PySem PySem.Spec PyProof.Rows L2
theorem meets_enumerate_newB1 {v : Value} {o : Obj} {H : Heap → Prop} (B : Begins v o H) (nb : ∀ s : Shared, H s.heap → ∃ a, v = .ref a) :
    Meets (Builtin.«enumerate.__new__» ⟨[.type "enumerate", v], []⟩) (fun _ R s => H s.heap ∧
      R (.ok (.ret (.ref (s.heap.push o).objs.size))) { s with heap := (s.heap.push o).push { cls := .type "enumerate", data := .fields #[.none, .bool false, .ref s.heap.objs.size, rawInt 0, .none, .none] } }) :=
  .of_wp fun prog w A R s h => by
    obtain ⟨hp, g, d, tk, os⟩ := s; obtain ⟨h1, h⟩ := h
    have hsub := sub_enumerate
    have q1 : ∀ {A' : Around} {E : Value → Shared → Prop} {Q : Value → Shared → Prop}, Q (.ref hp.objs.size) ⟨hp.push o, g, d, tk, os⟩ → wpAny (model prog w) A' (pyIter v) Q E ⟨hp, g, d, tk, os⟩ :=
      fun q => B.iter prog w _ _ ⟨hp, g, d, tk, os⟩ _ h1 q
    wp_walk using q1
    refine wpAny_stack_any fun st => wpAny_pure ?_
    split
    · rename_i c _ _ _ _ _
      cases (c == Value.type "enumerate")
      · wp_walk using q1
        exact ⟨_, rfl, h⟩
      · wp_walk using q1
        exact ⟨_, rfl, h⟩
    · wp_walk using q1
      exact ⟨_, rfl, h⟩
theorem call_enumerate_tuple {prog : Program} {w : World} {A : Around} {E : Value → Shared → Prop} {s : Shared} {l : Addr} {items : Array Value} {Q : Value → Shared → Prop} (hL : s.heap.IsTuple l items)
    (h : ∀ h', IsEnum h' (s.heap.objs.size + 1) s.heap.objs.size 0 .none → h'.IsTupleIter s.heap.objs.size l 0 → h'.objs.size = s.heap.objs.size + 2 →
      (∀ b o, s.heap.get? b = some o → h'.get? b = some o) → Q (.ref (s.heap.objs.size + 1)) { s with heap := h' }) :
    wpAny (model prog w) A (call (.type "enumerate") [.ref l]) Q E s := by
  refine callType_new F.called_enumerate (by decide) (F.typeCall_enumerate_1 _) (F.newCall_enumerate_1 _) (fun obj => F.args_object_init_2 obj _) F.entry_enumerate_new
    (meets_enumerate_newB1 (begins_tuple l items) (fun _ _ => ⟨l, rfl⟩)) ⟨hL, ?_⟩
  have hz : (s.heap.push { cls := .type "tuple_iterator", data := .fields #[.ref l, .int 0 0] }).objs.size = s.heap.objs.size + 1 := Heap.size_push ..
  show _ ∧ _
  rw [hz]
  have he : IsEnum ((s.heap.push { cls := .type "tuple_iterator", data := .fields #[.ref l, .int 0 0] }).push
      { cls := .type "enumerate", data := .fields #[.none, .bool false, .ref s.heap.objs.size, rawInt 0, .none, .none] }) (s.heap.objs.size + 1) s.heap.objs.size 0 .none := by
    have := Heap.get?_push_size (s.heap.push { cls := .type "tuple_iterator", data := .fields #[.ref l, .int 0 0] })
      (o := { cls := .type "enumerate", data := .fields #[.none, .bool false, .ref s.heap.objs.size, rawInt 0, .none, .none] }) rfl
    rw [hz] at this; exact this
  refine ⟨⟨_, he, rfl⟩, h _ he ⟨_, Heap.get?_push_of_some _ (Heap.get?_push_size _ rfl), rfl, rfl⟩ (by rw [Heap.size_push, hz]) fun b o x => Heap.get?_push_of_some _ (Heap.get?_push_of_some _ x)⟩
/-- the tuple at a, each item in a new pair -/
def Itet (K : PySem.W.Frag) (a : Addr) : It :=
  ⟨fun i H => ∃ (xs : List V) (x : V), SqT K H a xs ∧ xs[i]? = some x, fun i H v H' => ∃ T x, v = .ref T ∧ H T = none ∧ H' = upd H T (.tup [.int (i : Nat), x]) ∧ ∀ xs, SqT K H a xs → xs[i]? = some x, fun i H => ∃ xs : List V, SqT K H a xs ∧ xs.length = i⟩
theorem turn_enumT {P : Program} {w : World} {K : PySem.W.Frag} {elts : List Expr} {kk : Nat} {tpos : Pos} (a e it : Addr) (hae : a ≠ e) (hai : a ≠ it) :
    Turn P w K (.Tuple elts kk tpos) (Itet K a) [e, it] e (fun i h => (∃ old, IsEnum h e it ((i : Nat) : Int) old) ∧ h.IsTupleIter it a i ∧ e ≠ it) where
  mem := by simp
  obj := fun i h st b hb => by
    obtain ⟨⟨old, he⟩, ⟨o, ho, hc, hd⟩, _⟩ := st
    have e' : b = e ∨ b = it := by simpa using hb
    rcases e' with z | z
    · rw [z]; exact ⟨_, he, fun v q => nomatch q⟩
    · rw [z]; exact ⟨o, ho, fun v q => by rw [hd] at q; cases q⟩
  keep := fun i h h' st k => let ⟨⟨old, he⟩, hi, hne⟩ := st; ⟨⟨old, k e (by simp) _ he⟩, hi.at fun o q => k it (by simp) o q, hne⟩
  item := by
    intro X hP hw hK hc i pins s σ H E I hf st hg
    subst hP hw hK
    obtain ⟨⟨old, he⟩, hit, hne⟩ := st
    obtain ⟨xs, x, hq, hx⟩ := hg
    obtain ⟨its, rv, ⟨oT, hoT, hcT, nT, hdT⟩, hz⟩ := I.tuple hq
    obtain ⟨u, hu, ru⟩ := rv.get hx
    have hIT : s.heap.IsTuple a its.toArray := ⟨oT, hoT, hcT, nT, hdT⟩
    have hel : e < s.heap.objs.size := Heap.lt_size he
    have hil : it < s.heap.objs.size := by obtain ⟨_, q, _⟩ := hit; exact Heap.lt_size q
    have hii : i < its.toArray.size := by
      have := (List.getElem?_eq_some_iff.mp hu).1
      simpa using this
    have hef : e ∉ [it, a] := fun z => by
      rcases List.mem_cons.mp z with z | z
      · exact hne z
      · rcases List.mem_cons.mp z with z | z
        · exact hae z.symm
        · cases z
    refine wpAny_pyNext_enum_itemC (Draws.tuple (A := X.A.in1) (I.ok.hd hc) it a hai its.toArray) he ⟨hit, hIT⟩ hii hne hef fun x' h' tk hx' ho st' hT hsz hk => ?_
    have ex' : x' = u := by
      have q : its.toArray[i]? = some x' := hx'
      have q2 : its.toArray[i]? = some u := by simpa using hu
      exact Option.some.inj (q.symm.trans q2)
    subst ex'
    refine ⟨_, rfl, wpAny_letOwnedTupleGo_enum (s := { s with heap := h', toks := tk + 1 }) ho fun h'' he' sb => ?_⟩
    have hT2 : h''.get? s.heap.objs.size = some { cls := .type "tuple", data := .seq #[.int i tk, x'] } := (sb.2 _ (Nat.ne_of_gt hel)).trans hT
    have new : ObjOk X.prog X.w (upd H s.heap.objs.size (.tup [.int (i : Nat), x])) h'' s.heap.objs.size (.tup [.int (i : Nat), x]) :=
      ⟨by show 2 ≤ sizeLine; decide, [.int i tk, x'], .cons ⟨_, rfl⟩ (.cons ru .nil), ⟨_, hT2, rfl, _, rfl⟩⟩
    have I1 : Inv X pins σ (upd H s.heap.objs.size (.tup [.int (i : Nat), x])) { s with heap := h'', toks := tk + 1 } :=
      I.turnedNew (ch := [e, it]) (fun b ob hb q => (sb.2 b (fun z => hb (by simp [z]))).trans (hk b ob (fun z => hb (by simp [z])) (fun z => hb (by simp [z])) q)) hf (Nat.le_refl _) new
    refine ⟨.ref s.heap.objs.size, _, I1, rfl, ⟨_, x, rfl, I.hok.fresh (Nat.le_refl _), rfl, fun ys hy => by rw [I.tuple_inj hy hq]; exact hx⟩, ⟨⟨x', ?_⟩, st'.1.at fun o q => (sb.2 it (Ne.symm hne)).trans q, hne⟩, fun b hb => ?_⟩
    · have e1 : ((i + 1 : Nat) : Int) = (i : Int) + 1 := by omega
      rw [e1]; exact he'
    · have hb' : b < s.heap.objs.size := by
        have e' : b = e ∨ b = it := by simpa using hb
        rcases e' with z | z
        · rw [z]; exact hel
        · rw [z]; exact hil
      rw [upd_ne (Nat.ne_of_lt hb')]
      exact (hf b hb).1
  done := by
    intro X hP hw hK hc i pins s σ H E I hf st hg
    subst hP hw hK
    obtain ⟨⟨old, he⟩, hit, hne⟩ := st
    obtain ⟨xs, hq, hx⟩ := hg
    obtain ⟨its, rv, ⟨oT, hoT, hcT, nT, hdT⟩, hz⟩ := I.tuple hq
    have hIT : s.heap.IsTuple a its.toArray := ⟨oT, hoT, hcT, nT, hdT⟩
    obtain ⟨f0, f1, f2, f3, f4, f5⟩ := hf it (by simp)
    have hl := rv.length
    have hsz : i = its.toArray.size := by
      rw [List.size_toArray]
      omega
    subst hsz
    exact wpAny_pyNext_enum_endD (Draws.tuple (A := X.A.in1) (I.ok.hd hc) it a hai its.toArray) he ⟨hit, hIT⟩ fun h' eb => ⟨rfl, I.turned (t' := s.toks) (fun b o hb q => eb b o hb q) f0 f1 f3 f4 f5⟩
  self := fun A i s Q E st hQ => by
    obtain ⟨⟨old, he⟩, _⟩ := st
    exact wpAny_pyIter_enum he hQ
/-- enumerate of a list or of a tuple -/
def iEnumQ (K : PySem.W.Frag) (ta : TA) : TI := fun σ H R => ta σ H fun vs H1 => ∃ a xs, vs = [.ref a] ∧ ((SqL K H1 a xs ∧ R (Ite K a) H1) ∨ (SqT K H1 a xs ∧ R (Itet K a) H1))
theorem pi_enumQ {X : Cx} {e : Expr} {ta : TA} {p pos tpos : Pos} {elts : List Expr} {kk : Nat} (hg : Gl X "enumerate") (hm : X.mg "enumerate" = none) (ha : PA X [e] ta) (hs : starEach [e] X.env = [(false, eval e X.env)] := by rfl) :
    PI X (.Tuple elts kk tpos) (.Call (.Name "enumerate" p) [e] [] pos) (iEnumQ X.K ta) := by
  refine ⟨fun pins s σ H R I h => ?_⟩
  refine Call_ (ld_blt I hg hm boot_enumerate (PyProof.Rows.callWith_type1 (thn (ha.run pos pins s σ H _ I h) fun us s1 ⟨vs, H1, I1, r1, q1⟩ => ?_) hs rfl))
  obtain ⟨a, xs, ex, hq⟩ := q1
  subst ex
  cases r1 with
  | cons r rr =>
    cases rr
    cases r
    have fin : ∀ b, b = s1.heap.objs.size + 1 ∨ b = s1.heap.objs.size → FpOk X pins H1 b := fun b e' => by
      have hle : s1.heap.objs.size ≤ b := by
        rcases e' with z | z
        · rw [z]; exact Nat.le_add_right _ _
        · rw [z]; exact Nat.le_refl _
      exact I1.fpOk hle (I1.hok.fresh hle)
    rcases hq with ⟨hq, q⟩ | ⟨hq, q⟩
    · obtain ⟨its, rv, p', hz⟩ := I1.list hq
      refine call_enumerate_list p'.isList fun h' he hit hsz hk => wpAny_pyIter_enum he ?_
      have I2 : Inv X pins σ H1 { s1 with heap := h' } := I1.kept (t' := s1.toks) hk
      refine ⟨s1.heap.objs.size + 1, [s1.heap.objs.size + 1, s1.heap.objs.size], _, _, H1, rfl, I2, turn_enum a (s1.heap.objs.size + 1) s1.heap.objs.size, ⟨⟨.none, he⟩, hit, Nat.succ_ne_self _⟩, fun b hb => fin b (by simpa using hb), q⟩
    · obtain ⟨its, rv, ⟨oT, hoT, hcT, nT, hdT⟩, hz⟩ := I1.tuple hq
      have hal : a < s1.heap.objs.size := Heap.lt_size hoT
      refine call_enumerate_tuple ⟨oT, hoT, hcT, nT, hdT⟩ fun h' he hit hsz hk => wpAny_pyIter_enum he ?_
      have I2 : Inv X pins σ H1 { s1 with heap := h' } := I1.kept (t' := s1.toks) hk
      refine ⟨s1.heap.objs.size + 1, [s1.heap.objs.size + 1, s1.heap.objs.size], _, _, H1, rfl, I2, turn_enumT a (s1.heap.objs.size + 1) s1.heap.objs.size (Nat.ne_of_lt (Nat.lt_succ_of_lt hal)) (Nat.ne_of_lt hal), ⟨⟨.none, he⟩, hit, Nat.succ_ne_self _⟩, fun b hb => fin b (by simpa using hb), q⟩
/-- a loop over it; the list or tuple stands while the loop runs -/
theorem for_enumQ {K : PySem.W.Frag} {a : Addr} {xs : List V} {g : TG} {tb : TS} {D : Ends} {σ : L2.St} {H : Hp} {H0 : Hp} (hS : SqL K H0 a xs ∨ SqT K H0 a xs) (s0 : ∀ b o, H0 b = some o → H b = some o) (Pv : Nat → L2.St → Hp → Prop) (h0 : Pv 0 σ H)
    (hl : ∀ i σ' H', Pv i σ' H' → ∀ b o, H0 b = some o → H' b = some o)
    (hs : ∀ i x σ' H' T, xs[i]? = some x → Pv i σ' H' → H' T = none → g (.ref T) σ' (upd H' T (.tup [.int (i : Nat), x])) fun σ2 H2 => tb { D with nx := Pv (i + 1), ct := Pv (i + 1), bk := D.nx } σ2 H2) (hd : ∀ σ' H', Pv xs.length σ' H' → D.nx σ' H') :
    (SqL K H a xs ∧ ∃ W : Nat → Nat → L2.St → Hp → Prop, (∃ m, W 0 m σ H) ∧ ∀ i m σ H, W i m σ H →
      ((Ite K a).stop i H ∧ D.nx σ H) ∨ ((Ite K a).go i H ∧ ∃ N : L2.St → Hp → Prop, (∀ σ' H', N σ' H' → ∃ m', m' < m ∧ W (i + 1) m' σ' H') ∧ ∀ x H', (Ite K a).yld i H x H' → g x σ H' fun σ2 H2 => tb { D with nx := N, ct := N, bk := D.nx } σ2 H2)) ∨
    (SqT K H a xs ∧ ∃ W : Nat → Nat → L2.St → Hp → Prop, (∃ m, W 0 m σ H) ∧ ∀ i m σ H, W i m σ H →
      ((Itet K a).stop i H ∧ D.nx σ H) ∨ ((Itet K a).go i H ∧ ∃ N : L2.St → Hp → Prop, (∀ σ' H', N σ' H' → ∃ m', m' < m ∧ W (i + 1) m' σ' H') ∧ ∀ x H', (Itet K a).yld i H x H' → g x σ H' fun σ2 H2 => tb { D with nx := N, ct := N, bk := D.nx } σ2 H2)) := by
  have cl : ∀ {H' : Hp}, (∀ b o, H0 b = some o → H' b = some o) → SqL K H0 a xs → SqL K H' a xs := fun k L => by
    rcases L with (L | ⟨o, L⟩) | L
    · exact .inl (.inl (k _ _ L))
    · exact .inl (.inr ⟨o, k _ _ L⟩)
    · exact .inr L
  have ct : ∀ {H' : Hp}, (∀ b o, H0 b = some o → H' b = some o) → SqT K H0 a xs → SqT K H' a xs := fun k L => by
    rcases L with (L | ⟨o, L⟩) | L
    · exact .inl (.inl (k _ _ L))
    · exact .inl (.inr ⟨o, k _ _ L⟩)
    · exact .inr L
  rcases hS with L | T
  · refine .inl ⟨cl s0 L, fun i m σ' H' => m = xs.length - i ∧ i ≤ xs.length ∧ Pv i σ' H', ⟨xs.length, by simp, Nat.zero_le _, h0⟩, ?_⟩
    rintro i m σ' H' ⟨rfl, hi, p⟩
    have q := cl (hl i σ' H' p) L
    by_cases hlt : i < xs.length
    · refine .inr ⟨⟨xs, xs[i], q, by simp [hlt]⟩, Pv (i + 1), fun σ2 H2 p' => ⟨xs.length - (i + 1), by omega, rfl, hlt, p'⟩, fun x H2 y => ?_⟩
      obtain ⟨T, x0, rfl, nT, rfl, y⟩ := y
      exact hs i x0 σ' H' T (y xs q) p nT
    · have e : i = xs.length := by omega
      subst e
      exact .inl ⟨⟨xs, q, Nat.le_refl _⟩, hd σ' H' p⟩
  · refine .inr ⟨ct s0 T, fun i m σ' H' => m = xs.length - i ∧ i ≤ xs.length ∧ Pv i σ' H', ⟨xs.length, by simp, Nat.zero_le _, h0⟩, ?_⟩
    rintro i m σ' H' ⟨rfl, hi, p⟩
    have q := ct (hl i σ' H' p) T
    by_cases hlt : i < xs.length
    · refine .inr ⟨⟨xs, xs[i], q, by simp [hlt]⟩, Pv (i + 1), fun σ2 H2 p' => ⟨xs.length - (i + 1), by omega, rfl, hlt, p'⟩, fun x H2 y => ?_⟩
      obtain ⟨T, x0, rfl, nT, rfl, y⟩ := y
      exact hs i x0 σ' H' T (y xs q) p nT
    · have e : i = xs.length := by omega
      subst e
      exact .inl ⟨⟨xs, q, rfl⟩, hd σ' H' p⟩
end EnumT
namespace W6
/-! sets of scopes, bindings, outcomes: plain Lean -/
theorem len_le_of_subset {α : Type} [DecidableEq α] : ∀ (s l : List α), s.Nodup → (∀ x ∈ s, x ∈ l) → s.length ≤ l.length
  | [], _, _, _ => Nat.zero_le _
  | a :: s, l, hn, h => by
    have ha : a ∈ l := h a List.mem_cons_self
    have hn' := List.nodup_cons.mp hn
    have ih := len_le_of_subset s (l.erase a) hn'.2 (fun x hx => by
      have hxa : x ≠ a := fun e => hn'.1 (e ▸ hx)
      exact (List.mem_erase_of_ne hxa).mpr (h x (List.mem_cons_of_mem _ hx)))
    rw [List.length_erase_of_mem ha] at ih
    have : 0 < l.length := List.length_pos_of_mem ha
    simp only [List.length_cons]
    omega
theorem subset_of_len {α : Type} [DecidableEq α] {s l : List α} (hn : s.Nodup) (h : ∀ x ∈ s, x ∈ l) (hl : l.length ≤ s.length) : ∀ x ∈ l, x ∈ s := by
  intro x hx
  by_cases hs : x ∈ s
  · exact hs
  · have q := len_le_of_subset s (l.erase x) hn (fun y hy => by
      have hyx : y ≠ x := fun e => hs (e ▸ hy)
      exact (List.mem_erase_of_ne hyx).mpr (h y hy))
    rw [List.length_erase_of_mem hx] at q
    have : 0 < l.length := List.length_pos_of_mem hx
    omega
/-- two lists in strict order with the same members are one -/
theorem ext_sorted {α : Type} (k : α → Int) : ∀ {s l : List α}, s.Pairwise (fun a b => k a < k b) → l.Pairwise (fun a b => k a < k b) → (∀ x, x ∈ s ↔ x ∈ l) → s = l
  | [], [], _, _, _ => rfl
  | [], b :: l, _, _, h => absurd ((h b).mpr List.mem_cons_self) (List.not_mem_nil)
  | a :: s, [], _, _, h => absurd ((h a).mp List.mem_cons_self) (List.not_mem_nil)
  | a :: s, b :: l, hs, hl, h => by
    have hs' := List.pairwise_cons.mp hs
    have hl' := List.pairwise_cons.mp hl
    have e : a = b := by
      rcases List.mem_cons.mp ((h a).mp List.mem_cons_self) with q | q
      · exact q
      · rcases List.mem_cons.mp ((h b).mpr List.mem_cons_self) with r | r
        · exact r.symm
        · have h1 := hl'.1 a q
          have h2 := hs'.1 b r
          omega
    subst e
    have : s = l := ext_sorted k hs'.2 hl'.2 (fun x => by
      constructor
      · intro hx
        rcases List.mem_cons.mp ((h x).mp (List.mem_cons_of_mem _ hx)) with q | q
        · have h1 := hs'.1 x hx
          rw [q] at h1
          omega
        · exact q
      · intro hx
        rcases List.mem_cons.mp ((h x).mpr (List.mem_cons_of_mem _ hx)) with q | q
        · have h1 := hl'.1 x hx
          rw [q] at h1
          omega
        · exact q)
    rw [this]

abbrev Sc := Int × Int
def incl (s l : List Sc) : Bool := s.all (fun x => decide (x ∈ l))
def Canon (s : List Sc) : Prop := s.Pairwise (fun a b => a.1 < b.1)
theorem incl_iff {s l : List Sc} : incl s l = true ↔ ∀ x ∈ s, x ∈ l := by
  unfold incl
  rw [List.all_eq_true]
  constructor
  · intro h x hx
    exact of_decide_eq_true (h x hx)
  · intro h x hx
    exact decide_eq_true (h x hx)
theorem incl_trans {a b c : List Sc} (h1 : incl a b = true) (h2 : incl b c = true) : incl a c = true :=
  incl_iff.mpr fun x hx => incl_iff.mp h2 x (incl_iff.mp h1 x hx)
theorem Canon.nodup {s : List Sc} (h : Canon s) : s.Nodup := List.Pairwise.imp (R := fun (a b : Sc) => a.1 < b.1) (fun {a b} q e => by rw [e] at q; omega) h
theorem incl_lt {s l : List Sc} (cs : Canon s) (cl : Canon l) (h : incl s l = true) (ne : s ≠ l) : s.length < l.length := by
  have h1 := incl_iff.mp h
  have h2 := len_le_of_subset s l cs.nodup h1
  by_cases e : s.length = l.length
  · have h3 := subset_of_len cs.nodup h1 (by omega)
    exact absurd (ext_sorted (fun x : Sc => x.1) cs cl (fun x => ⟨h1 x, h3 x⟩)) ne
  · omega

/-! the greedy choice -/
section
variable (S : Nat → List Sc)
def inOne (a : Nat) (fnd : List Nat) : Bool := fnd.any fun f => incl (S a) (S f)
def greedy : List Nat → List Nat → List Nat
  | fnd, [] => fnd
  | fnd, a :: r => greedy (if inOne S a fnd = true then fnd else fnd ++ [a]) r
def isMax (cs : List Nat) (k : Nat) : Bool := (cs.filter fun j => decide (j ≠ k) && incl (S k) (S j)).isEmpty
theorem isMax_iff {cs : List Nat} {k : Nat} : isMax S cs k = true ↔ ∀ j ∈ cs, j ≠ k → incl (S k) (S j) = false := by
  unfold isMax
  rw [List.isEmpty_iff, List.filter_eq_nil_iff]
  constructor
  · intro h j hj ne
    have q := h j hj
    rw [Bool.and_eq_true] at q
    cases e : incl (S k) (S j) with
    | false => rfl
    | true => exact absurd ⟨decide_eq_true ne, e⟩ q
  · intro h j hj q
    rw [Bool.and_eq_true] at q
    have ne := of_decide_eq_true q.1
    rw [h j hj ne] at q
    exact absurd q.2 (by decide)
structure GI (o p fnd : List Nat) : Prop where
  i1 : ∀ j ∈ p, ∃ f ∈ fnd, incl (S j) (S f) = true
  i2 : ∀ f ∈ fnd, f ∈ p
  i3 : ∀ f ∈ fnd, ∀ j ∈ o, j ≠ f → incl (S f) (S j) = false
  i4 : ∀ j ∈ p, (∀ i ∈ o, i ≠ j → incl (S j) (S i) = false) → j ∈ fnd
  i5 : fnd.Nodup
theorem incl_refl (s : List Sc) : incl s s = true := incl_iff.mpr fun _ h => h
theorem greedy_inv (o : List Nat) (hn : o.Nodup) (hc : ∀ a ∈ o, Canon (S a)) (hd : ∀ a ∈ o, ∀ b ∈ o, a ≠ b → S a ≠ S b) (hp : o.Pairwise fun a b => (S b).length ≤ (S a).length) :
    ∀ (r p fnd : List Nat), o = p ++ r → GI S o p fnd → GI S o o (greedy S fnd r)
  | [], p, fnd, e, g => by
    rw [List.append_nil] at e
    subst e
    exact g
  | a :: r, p, fnd, e, g => by
    have ao : a ∈ o := by rw [e]; simp
    have e' : o = (p ++ [a]) ++ r := by rw [e]; simp
    have anp : a ∉ p := fun h => by
      rw [e] at hn
      exact (List.nodup_append.mp hn).2.2 a h a List.mem_cons_self rfl
    refine greedy_inv o hn hc hd hp r (p ++ [a]) _ e' ?_
    by_cases q : inOne S a fnd = true
    · rw [if_pos q]
      obtain ⟨f, hf, hi⟩ := List.any_eq_true.mp q
      refine ⟨?_, ?_, g.i3, ?_, g.i5⟩
      · intro j hj
        rcases List.mem_append.mp hj with h | h
        · exact g.i1 j h
        · rw [List.mem_singleton.mp h]
          exact ⟨f, hf, hi⟩
      · intro x hx
        exact List.mem_append_left _ (g.i2 x hx)
      · intro j hj hm
        rcases List.mem_append.mp hj with h | h
        · exact g.i4 j h hm
        · rw [List.mem_singleton.mp h] at hm
          have fp := g.i2 f hf
          have fa : f ≠ a := fun z => anp (z ▸ fp)
          have z := hm f (by rw [e]; exact List.mem_append_left _ fp) fa
          rw [hi] at z
          cases z
    · rw [if_neg q]
      refine ⟨?_, ?_, ?_, ?_, ?_⟩
      · intro j hj
        rcases List.mem_append.mp hj with h | h
        · obtain ⟨f, hf, hi⟩ := g.i1 j h
          exact ⟨f, List.mem_append_left _ hf, hi⟩
        · rw [List.mem_singleton.mp h]
          exact ⟨a, List.mem_append_right _ List.mem_cons_self, incl_refl _⟩
      · intro x hx
        rcases List.mem_append.mp hx with h | h
        · exact List.mem_append_left _ (g.i2 x h)
        · exact List.mem_append_right _ h
      · intro f hf j hj ne
        rcases List.mem_append.mp hf with h | h
        · exact g.i3 f h j hj ne
        · have fa := List.mem_singleton.mp h
          subst fa
          cases z : incl (S f) (S j) with
          | false => rfl
          | true =>
            have lt := incl_lt (hc f ao) (hc j hj) z (hd f ao j hj ne.symm)
            have jp : j ∈ p := by
              rw [e] at hj
              rcases List.mem_append.mp hj with h | h
              · exact h
              · rcases List.mem_cons.mp h with h | h
                · exact absurd h ne
                · rw [e] at hp
                  have := (List.pairwise_cons.mp (List.pairwise_append.mp hp).2.1).1 j h
                  omega
            obtain ⟨x, hx, hi⟩ := g.i1 j jp
            exact absurd (List.any_eq_true.mpr ⟨x, hx, incl_trans z hi⟩) q
      · intro j hj hm
        rcases List.mem_append.mp hj with h | h
        · exact List.mem_append_left _ (g.i4 j h hm)
        · exact List.mem_append_right _ h
      · rw [List.nodup_append]
        refine ⟨g.i5, by simp, ?_⟩
        intro x hx y hy z
        rw [List.mem_singleton.mp hy] at z
        exact anp (z ▸ g.i2 x hx)
theorem greedy_all (o : List Nat) (hn : o.Nodup) (hc : ∀ a ∈ o, Canon (S a)) (hd : ∀ a ∈ o, ∀ b ∈ o, a ≠ b → S a ≠ S b) (hp : o.Pairwise fun a b => (S b).length ≤ (S a).length) : GI S o o (greedy S [] o) :=
  greedy_inv S o hn hc hd hp o [] [] rfl ⟨fun _ h => absurd h List.not_mem_nil, fun _ h => absurd h List.not_mem_nil, fun _ h => absurd h List.not_mem_nil, fun _ h => absurd h List.not_mem_nil, List.nodup_nil⟩
/-- what is found, sorted, is what is greatest, in order -/
theorem greatest_eq {cs o g : List Nat} (hcs : cs.Pairwise (fun (a b : Nat) => (a : Int) < (b : Int))) (ho : o.Perm cs) (hc : ∀ a ∈ cs, Canon (S a)) (hd : ∀ a ∈ cs, ∀ b ∈ cs, a ≠ b → S a ≠ S b) (hp : o.Pairwise fun a b => (S b).length ≤ (S a).length)
    (hg : g.Perm (greedy S [] o)) (hgs : g.Pairwise fun (a b : Nat) => (a : Int) ≤ (b : Int)) : g = cs.filter (isMax S cs) := by
  have cn : cs.Nodup := List.Pairwise.imp (R := fun (a b : Nat) => (a : Int) < (b : Int)) (fun {a b} q e => by rw [e] at q; omega) hcs
  have on : o.Nodup := ho.nodup_iff.mpr cn
  have I := greedy_all S o on (fun a h => hc a (ho.mem_iff.mp h)) (fun a h b h' => hd a (ho.mem_iff.mp h) b (ho.mem_iff.mp h')) hp
  have gn : g.Nodup := hg.nodup_iff.mpr I.i5
  have gs : g.Pairwise (fun (a b : Nat) => (a : Int) < (b : Int)) := by
    have := List.Pairwise.and hgs gn
    exact List.Pairwise.imp (fun {a b} ⟨q, n⟩ => by omega) this
  refine ext_sorted (fun n : Nat => (n : Int)) gs (List.Pairwise.filter _ hcs) (fun x => ?_)
  rw [hg.mem_iff, List.mem_filter]
  constructor
  · intro h
    exact ⟨ho.mem_iff.mp (I.i2 x h), (isMax_iff S).mpr fun j hj ne => I.i3 x h j (ho.mem_iff.mpr hj) ne⟩
  · intro h
    exact I.i4 x (ho.mem_iff.mpr h.1) fun i hi ne => (isMax_iff S).mp h.2 i (ho.mem_iff.mp hi) ne
theorem greedy_keeps : ∀ (r fnd : List Nat), fnd ≠ [] → greedy S fnd r ≠ []
  | [], _, h => h
  | a :: r, fnd, h => greedy_keeps r _ (by
    by_cases q : inOne S a fnd = true
    · rw [if_pos q]; exact h
    · rw [if_neg q]; simp)
theorem greedy_some {a : Nat} {r : List Nat} : greedy S [] (a :: r) ≠ [] := greedy_keeps S r _ (by
  have : inOne S a [] = false := rfl
  rw [this]
  simp)
end
end W6
set_option Elab.async false
set_option linter.all false
set_option maxRecDepth 100000
set_option maxHeartbeats 4000000
namespace W6
open PySem PySem.Spec PyProof.Rows L2 Com
def topS (i : Nat) : Stmt := PySem.Challenge.pw_wherewritten_k06_whole_resolution.main.body.getD i (.Pass ⟨0, 0, 0, 0⟩)
abbrev st__law_tape : Stmt := topS 9
theorem sc_law_tape : FnScope ["script", "cells", "seed", "cell"] ["script"] (defScope st__law_tape) := ⟨rfl, rfl, rfl, by decide +kernel, rfl, by decide +kernel, by decide +kernel⟩
abbrev st__law_take : Stmt := topS 10
theorem sc_law_take : FnScope ["tape", "many", "drawn", "mixed"] ["tape", "many"] (defScope st__law_take) := ⟨rfl, rfl, rfl, by decide +kernel, rfl, by decide +kernel, by decide +kernel⟩
abbrev st__is_included : Stmt := topS 1
theorem sc_is_included : FnScope ["small", "large", "scope"] ["small", "large"] (defScope st__is_included) := ⟨rfl, rfl, rfl, by decide +kernel, rfl, by decide +kernel, by decide +kernel⟩
abbrev st__is_in_one_of : Stmt := topS 2
theorem sc_is_in_one_of : FnScope ["table", "at", "others", "other"] ["table", "at", "others"] (defScope st__is_in_one_of) := ⟨rfl, rfl, rfl, by decide +kernel, rfl, by decide +kernel, by decide +kernel⟩
abbrev st__greatest : Stmt := topS 3
theorem sc_greatest : FnScope ["table", "candidates", "order", "found", "_", "at"] ["table", "candidates"] (defScope st__greatest) := ⟨rfl, rfl, rfl, by decide +kernel, rfl, by decide +kernel, by decide +kernel⟩
abbrev st_resolve : Stmt := topS 4
theorem scresolve : FnScope ["table", "phase", "identifier", "name", "scopes", "candidates", "is_elsewhere", "at", "binding", "greatest"] ["table", "phase", "identifier"] (defScope st_resolve) := ⟨rfl, rfl, rfl, by decide +kernel, rfl, by decide +kernel, by decide +kernel⟩
abbrev st_same_binder : Stmt := topS 5
theorem scsame_binder : FnScope ["first", "second"] ["first", "second"] (defScope st_same_binder) := ⟨rfl, rfl, rfl, by decide +kernel, rfl, by decide +kernel, by decide +kernel⟩
abbrev st_same_reference : Stmt := topS 6
theorem scsame_reference : FnScope ["table", "phase", "first", "second", "one", "other"] ["table", "phase", "first", "second"] (defScope st_same_reference) := ⟨rfl, rfl, rfl, by decide +kernel, rfl, by decide +kernel, by decide +kernel⟩
abbrev st_judge_outcome : Stmt := topS 7
theorem scjudge_outcome : FnScope ["table", "phase", "identifier", "told"] ["table", "phase", "identifier", "told"] (defScope st_judge_outcome) := ⟨rfl, rfl, rfl, by decide +kernel, rfl, by decide +kernel, by decide +kernel⟩
abbrev st__law_is_integer : Stmt := topS 11
theorem sc_law_is_integer : FnScope ["actual"] ["actual"] (defScope st__law_is_integer) := ⟨rfl, rfl, rfl, by decide +kernel, rfl, by decide +kernel, by decide +kernel⟩
abbrev st__law_same_items : Stmt := topS 12
theorem sc_law_same_items : FnScope ["actual", "expected", "k"] ["actual", "expected"] (defScope st__law_same_items) := ⟨rfl, rfl, rfl, by decide +kernel, rfl, by decide +kernel, by decide +kernel⟩
abbrev st__law_same : Stmt := topS 13
theorem sc_law_same : FnScope ["actual", "expected", "key"] ["actual", "expected"] (defScope st__law_same) := ⟨rfl, rfl, rfl, by decide +kernel, rfl, by decide +kernel, by decide +kernel⟩
abbrev st__law_set : Stmt := topS 14
theorem sc_law_set : FnScope ["tape", "much", "scopes", "k", "scope"] ["tape", "much"] (defScope st__law_set) := ⟨rfl, rfl, rfl, by decide +kernel, rfl, by decide +kernel, by decide +kernel⟩
abbrev st__law_table : Stmt := topS 15
theorem sc_law_table : FnScope ["tape", "table", "keys", "k", "key", "target"] ["tape"] (defScope st__law_table) := ⟨rfl, rfl, rfl, by decide +kernel, rfl, by decide +kernel, by decide +kernel⟩
abbrev st__law_includes : Stmt := topS 16
theorem sc_law_includes : FnScope ["outer", "inner", "scope"] ["outer", "inner"] (defScope st__law_includes) := ⟨rfl, rfl, rfl, by decide +kernel, rfl, by decide +kernel, by decide +kernel⟩
abbrev st__law_outcome : Stmt := topS 17
theorem sc_law_outcome : FnScope ["table", "phase", "identifier", "inside", "here", "greatest", "k", "above", "j"] ["table", "phase", "identifier"] (defScope st__law_outcome) := ⟨rfl, rfl, rfl, by decide +kernel, rfl, by decide +kernel, by decide +kernel⟩
abbrev st__law_same_reference : Stmt := topS 18
theorem sc_law_same_reference : FnScope ["table", "phase", "first", "second", "one", "other"] ["table", "phase", "first", "second"] (defScope st__law_same_reference) := ⟨rfl, rfl, rfl, by decide +kernel, rfl, by decide +kernel, by decide +kernel⟩
abbrev st__law_identifier : Stmt := topS 19
theorem sc_law_identifier : FnScope ["tape"] ["tape"] (defScope st__law_identifier) := ⟨rfl, rfl, rfl, by decide +kernel, rfl, by decide +kernel, by decide +kernel⟩
abbrev st_law : Stmt := topS 20
theorem sclaw : FnScope ["script", "tape", "table", "k", "phase", "first", "second", "due", "others", "other"] ["script"] (defScope st_law) := ⟨rfl, rfl, rfl, by decide +kernel, rfl, by decide +kernel, by decide +kernel⟩
end W6
set_option Elab.async false
set_option linter.all false
set_option maxRecDepth 100000
set_option maxHeartbeats 4000000
namespace W6
open PySem PySem.Spec PyProof.Rows L2 Com
/-! heaps: all but some addresses stands -/
def Keep (t : Addr) (H H' : Hp) : Prop := ∀ b o, H b = some o → b ≠ t → H' b = some o
theorem Keep.refl (t : Addr) (H : Hp) : Keep t H H := fun _ _ h _ => h
theorem Keep.trans {t : Addr} {H1 H2 H3 : Hp} (a : Keep t H1 H2) (b : Keep t H2 H3) : Keep t H1 H3 := fun c o h n => b c o (a c o h n) n
theorem Keep.at {t : Addr} {H : Hp} {o : HO} : Keep t H (upd H t o) := fun b u h n => by rw [upd_ne n]; exact h
theorem Keep.new {t p : Addr} {H : Hp} {o : HO} (h : H p = none) : Keep t H (upd H p o) := fun b u e _ => by rw [upd_ne (ne_of_none e h)]; exact e
theorem Keep.tk {t : Addr} {H H' : Hp} (k : Keep t H H') (h : ∀ xs, H t ≠ some (.tup xs)) : Tk H H' := fun b xs e => k b _ e (fun z => h xs (z ▸ e))
/-! the tape -/
abbrev kC : Key := Sum.inr "cells"
abbrev kA : Key := Sum.inr "at"
abbrev kL : Key := Sum.inr "left"
abbrev kS : Key := Sum.inr "seed"
abbrev kT : Key := Sum.inr "salt"
def tapeK (c : Addr) (a l s t : Int) : List (Key × V) := [(kC, .ref c), (kA, .int a), (kL, .int l), (kS, .int s), (kT, .int t)]
theorem sCA : ¬ (Str.ofString "cells" = Str.ofString "at") := by decide +kernel
theorem nCA : ¬ kC = kA := fun e => sCA (Sum.inr.inj e)
theorem sCL : ¬ (Str.ofString "cells" = Str.ofString "left") := by decide +kernel
theorem nCL : ¬ kC = kL := fun e => sCL (Sum.inr.inj e)
theorem sCS : ¬ (Str.ofString "cells" = Str.ofString "seed") := by decide +kernel
theorem nCS : ¬ kC = kS := fun e => sCS (Sum.inr.inj e)
theorem sCT : ¬ (Str.ofString "cells" = Str.ofString "salt") := by decide +kernel
theorem nCT : ¬ kC = kT := fun e => sCT (Sum.inr.inj e)
theorem sAL : ¬ (Str.ofString "at" = Str.ofString "left") := by decide +kernel
theorem nAL : ¬ kA = kL := fun e => sAL (Sum.inr.inj e)
theorem sAS : ¬ (Str.ofString "at" = Str.ofString "seed") := by decide +kernel
theorem nAS : ¬ kA = kS := fun e => sAS (Sum.inr.inj e)
theorem sAT : ¬ (Str.ofString "at" = Str.ofString "salt") := by decide +kernel
theorem nAT : ¬ kA = kT := fun e => sAT (Sum.inr.inj e)
theorem sLS : ¬ (Str.ofString "left" = Str.ofString "seed") := by decide +kernel
theorem nLS : ¬ kL = kS := fun e => sLS (Sum.inr.inj e)
theorem sLT : ¬ (Str.ofString "left" = Str.ofString "salt") := by decide +kernel
theorem nLT : ¬ kL = kT := fun e => sLT (Sum.inr.inj e)
theorem sST : ¬ (Str.ofString "seed" = Str.ofString "salt") := by decide +kernel
theorem nST : ¬ kS = kT := fun e => sST (Sum.inr.inj e)
section
variable {c : Addr} {a l s t x : Int}
theorem gC : valV (tapeK c a l s t) kC = some (.ref c) := valV_pos rfl
theorem gA : valV (tapeK c a l s t) kA = some (.int a) := (valV_neg nCA).trans (valV_pos rfl)
theorem gL : valV (tapeK c a l s t) kL = some (.int l) := (valV_neg nCL).trans ((valV_neg nAL).trans (valV_pos rfl))
theorem gS : valV (tapeK c a l s t) kS = some (.int s) := (valV_neg nCS).trans ((valV_neg nAS).trans ((valV_neg nLS).trans (valV_pos rfl)))
theorem gT : valV (tapeK c a l s t) kT = some (.int t) := (valV_neg nCT).trans ((valV_neg nAT).trans ((valV_neg nLT).trans ((valV_neg nST).trans (valV_pos rfl))))
theorem putA : putK (tapeK c a l s t) kA (.int x) = tapeK c x l s t := by
  simp [putK, tapeK, sCA, show ¬ (Str.ofString "left" = Str.ofString "at") from fun e => sAL (Eq.symm e), show ¬ (Str.ofString "seed" = Str.ofString "at") from fun e => sAS (Eq.symm e), show ¬ (Str.ofString "salt" = Str.ofString "at") from fun e => sAT (Eq.symm e)]
theorem putL : putK (tapeK c a l s t) kL (.int x) = tapeK c a x s t := by
  simp [putK, tapeK, sCL, sAL, show ¬ (Str.ofString "seed" = Str.ofString "left") from fun e => sLS (Eq.symm e), show ¬ (Str.ofString "salt" = Str.ofString "left") from fun e => sLT (Eq.symm e)]
theorem putT : putK (tapeK c a l s t) kT (.int x) = tapeK c a l s x := by
  simp [putK, tapeK, sCT, sAT, sLT, sST]
end
theorem mergeT {c : Addr} {a l s t : Int} : mergeK [] (tapeK c a l s t) = tapeK c a l s t := by
  simp [mergeK, putK, tapeK, sCA, sCL, sCS, sCT, sAL, sAS, sAT, sLS, sLT, sST]
theorem dg {H : Hp} {p : Addr} {kvs : List (Key × V)} {k : Key} {v : V} (e : H p = some (.dK kvs)) (g : valV kvs k = some v) : DGet H p (kV k) (some v) := g ▸ DGet.k e
theorem dp {H : Hp} {p : Addr} {kvs kvs' : List (Key × V)} {k : Key} {v : V} (e : H p = some (.dK kvs)) (g : putK kvs k v = kvs') (hl : kvs.length < sizeLine) : DPut H p (kV k) v (upd H p (.dK kvs')) := g ▸ DPut.k e hl
theorem five {c : Addr} {a l s t : Int} : (tapeK c a l s t).length < sizeLine := by show 5 < sizeLine; decide
theorem at_int {cells : List Int} {a : Int} (h0 : 0 ≤ a) (h1 : a < (cells.length : Int)) : atI (cells.map V.int) a = some (.int (cells[a.toNat]'(by omega))) := by
  have e : a = ((a.toNat : Nat) : Int) := by omega
  have q : atI (cells.map V.int) ((a.toNat : Nat) : Int) = some (.int (cells[a.toNat]'(by omega))) := atI_nat (by rw [List.getElem?_map, List.getElem?_eq_getElem (by omega : a.toNat < cells.length)] <;> rfl)
  rw [← e] at q
  exact q
theorem seq_split {t1 t2 : TS} {D : Ends} {σ : L2.St} {H : Hp} (J : L2.St → Hp → Prop) (hJ : ∀ σ' H', J σ' H' → t2 D σ' H') (h1 : (∀ σ' H', J σ' H' → t2 D σ' H') → tSeq t1 t2 D σ H) : tSeq t1 t2 D σ H := h1 hJ
def TapeAt (H : Hp) (p c : Addr) : Prop := ∃ (cells : List Int) (a l s t : Int), 0 ≤ a ∧ H p = some (.dK (tapeK c a l s t)) ∧ H c = some (.lst (cells.map V.int))
theorem TapeAt.notup {H : Hp} {p c : Addr} (h : TapeAt H p c) : ∀ xs, H p ≠ some (.tup xs) := fun xs e => by
  obtain ⟨cells, a, l, s, t, _, h1, _⟩ := h
  rw [h1] at e
  cases e
/-- the names that the module does not bind -/
structure Mg (mg : Str → Option Value) : Prop where
  len : mg "len" = none
  abs : mg "abs" = none
  int : mg "int" = none
  bool : mg "bool" = none
  str : mg "str" = none
  tuple : mg "tuple" = none
  list : mg "list" = none
  range : mg "range" = none
  enumerate : mg "enumerate" = none
  isinstance : mg "isinstance" = none
  sorted : mg "sorted" = none
  any : mg "any" = none
section
variable {P : Program} {w : World} {K : PySem.W.Frag} {mg : Str → Option Value} {base : Heap}
def spTape (K : PySem.W.Frag) : Sp := fun vs H Q _ => ∃ (a : Addr) (ns : List Int), vs = [.ref a] ∧ SqL K H a (ns.map V.int) ∧ ns.length ≤ 1000 ∧ ∀ p c H', (∀ b o, H b = some o → H' b = some o) → TapeAt H' p c → Q (.ref p) H'
theorem ok_law_tape {f : Addr} {fd : FuncData} (F : Dfn K mg "_law_tape" st__law_tape f fd ["script"]) (M : Mg mg) : Cal P w K mg base 1 "_law_tape" (spTape K) := by
  refine cal_mk F sc_law_tape (fun vs H Q E h => ?_) (fun cdv A outer s H vs Q E hr h => ?_)
  · obtain ⟨a, ns, rfl, _⟩ := h
    rfl
  obtain ⟨a, ns, rfl, hS, hlen, q⟩ := h
  refine ⟨_, (pss_cons (ps_setLc (i := 1) (own := [("cell", 3)]) (g := gName 3) (by rfl) sc_law_tape.nd rfl rfl (sw_true rfl rfl rfl (by decide +kernel)) (pi_list (pv 0)) (blkOk_by (own := [("cell", 3)]) (N := ["script", "cells", "seed", "cell"]) (sc := defScope st__law_tape) (by decide +kernel)) (fun _ _ _ _ _ => (pg_name (i := 3) sc_law_tape.nd rfl (.inl rfl))) (fun _ _ _ _ _ => pts_nil) (fun _ _ _ _ _ => (pe_callB call_abs (by rfl) M.abs b_abs (pa_cons (pe_callTy call_int1 (by rfl) M.int b_int (pa_cons (pv 3) pa_nil)) pa_nil))))
      (pss_cons (ps_set (i := 2) sc_law_tape.nd rfl (.inl rfl) pe_int)
      (pss_cons (ps_for PassesOwn.never rfl (pi_list (pv 1)) (pg_name (i := 3) sc_law_tape.nd rfl (.inl rfl))
      (pss_one (ps_set (i := 2) sc_law_tape.nd rfl (.inl rfl) (pe_op op_mod (pe_callTy call_int1 (by rfl) M.int b_int (pa_cons (pe_op op_add (pe_op op_mul (pv 2) pe_int) (pv 3)) pa_nil)) pe_int))))
      (pss_one (ps_ret (pe_disp (pps_cons pe_str (pv 1) (pps_cons pe_str pe_int (pps_cons pe_str pe_int (pps_cons pe_str (pv 2) (pps_cons pe_str pe_int pps_nil))))) (by rfl) (by rfl) (fun z => by cases z) (by decide))))))), ?_⟩
  -- cells = [abs(int(cell)) for cell in script]
  refine ⟨_, rfl, a, rfl, ⟨_, hS⟩, fun D nD => ?_⟩
  have sD : ∀ o, Same H (upd H D o) := fun o b u e => by rw [upd_ne (ne_of_none e nD)]; exact e
  refine lc_list (K := K) (a := a) (xs := ns.map V.int) (fun i H' => ∃ zs : List Int, zs.length = i ∧ H' = upd H D (.lst (zs.map V.int))) ⟨[], rfl, rfl⟩ (fun i H' _ ⟨zs, _, e⟩ => by rw [e]; exact (sD _).seq hS) ?_ ?_
  · rintro i x H' hi ⟨zs, hz, rfl⟩
    have hil := (List.getElem?_eq_some_iff.mp hi).1
    rw [List.length_map] at hil
    rw [List.getElem?_map, List.getElem?_eq_getElem hil] at hi
    have ex : x = .int ns[i] := (Option.some.inj hi).symm
    subst ex
    refine ⟨rfl, ?_⟩
    unfold tYes
    refine iteT ?_
    refine ⟨_, rfl, .inl ⟨_, rfl, _, rfl, _, upd_same, ?_, zs ++ [_], by rw [List.length_append, hz]; rfl, by rw [upd_upd, List.map_append]; rfl⟩⟩
    rw [List.length_map, hz]
    exact small1000 (by omega)
  · rintro H' ⟨zs, hz, rfl⟩
    -- seed = 7; for cell in cells
    refine ⟨_, rfl, D, rfl, ⟨_, .inl (.inl upd_same)⟩, for_list (K := K) (a := D) (xs := zs.map V.int) (fun i σ H2 => ∃ (y : Int) (v : Option V), σ = [some (.ref a), some (.ref D), some (.int y), v] ∧ H2 = upd H D (.lst (zs.map V.int)))
      ⟨7, none, rfl, rfl⟩ (fun i σ H2 _ ⟨y, v, _, e⟩ => by rw [e]; exact .inl (.inl upd_same)) ?_ ?_⟩
    · rintro i x σ H2 hi ⟨y, v, rfl, rfl⟩
      obtain ⟨z, rfl⟩ : ∃ z, x = V.int z := by
        rw [List.getElem?_map] at hi
        cases e : zs[i]? with
        | none => rw [e] at hi; cases hi
        | some z => rw [e] at hi; exact ⟨z, (Option.some.inj hi).symm⟩
      exact ⟨_, rfl, _, _, rfl, rfl, .inr (by constructor <;> decide), _, rfl, _, _, rfl, rfl, .inl ⟨_, rfl, _, _, rfl, rfl, (by show (0 : Int) < 2147483647; decide), _, _, rfl, rfl⟩⟩
    · rintro σ H2 ⟨y, v, rfl, rfl⟩
      intro p np
      refine ⟨_, rfl, _, rfl, upd_same, tapeK D 0 0 y 0, rfl, (by show 5 ≤ 15; decide), ?_⟩
      have npD : D ≠ p := ne_of_none upd_same np
      refine q p D _ (fun b o e => ?_) ⟨zs, 0, 0, y, 0, Int.le_refl 0, ?_, ?_⟩
      · have e1 := sD (.lst (zs.map V.int)) b o e
        rw [upd_ne (ne_of_none e1 np), upd_ne (ne_of_none e1 np)]
        exact e1
      · rw [upd_same, mergeT]
      · rw [upd_ne npD, upd_ne npD, upd_same]
/-- _law_take: any draw that may come -/
def spTake : Sp := fun vs H Q _ => ∃ (t c : Addr) (m : Int), vs = [.ref t, .int m] ∧ TapeAt H t c ∧ 0 < m ∧ m < 1000 ∧ ∀ (r : Int) (H' : Hp), 0 ≤ r → r < m → Keep t H H' → TapeAt H' t c → Q (.int r) H'
theorem ok_law_take {f : Addr} {fd : FuncData} (F : Dfn K mg "_law_take" st__law_take f fd ["tape", "many"]) (M : Mg mg) : Cal P w K mg base 1 "_law_take" spTake := by
  refine cal_mk F sc_law_take (fun vs H Q E h => ?_) (fun cdv A outer s H vs Q E hr h => ?_)
  · obtain ⟨t, c, m, rfl, _⟩ := h
    rfl
  obtain ⟨p, c, m, rfl, hT, hm0, hm1, q⟩ := h
  have hu := hu_of hr
  -- behind the first if the tape is a tape again
  refine ⟨_, (pss_cons (ps_if (PW.pt (pw_and (pt_cmpR op_eq (pe_dget hu (pv 0) pe_str (fun _ _ => rfl)) pe_int (nomark _)) (pw_and1 (pt_cmpR op_lt (pe_dget hu (pv 0) pe_str (fun _ _ => rfl)) (pe_callB (cLen K rfl) (by rfl) M.len b_len (pa_cons (pe_dget hu (pv 0) pe_str (fun _ _ => rfl)) pa_nil)) (nomark _))))) (pss_cons (ps_dput hu (pv 0) pe_str (pe_ix (ixL K rfl) (pe_dget hu (pv 0) pe_str (fun _ _ => rfl)) (pe_dget hu (pv 0) pe_str (fun _ _ => rfl)) (fun _ _ => rfl)) rfl)
      (pss_one (ps_dput hu (pv 0) pe_str (pe_op op_add (pe_dget hu (pv 0) pe_str (fun _ _ => rfl)) pe_int) rfl))) pss_nil)
      (pss_cons (ps_if (pt_cmpR op_gt (pe_dget hu (pv 0) pe_str (fun _ _ => rfl)) pe_int (nomark _)) (pss_cons (ps_set (i := 2) sc_law_take.nd rfl (.inl rfl) (pe_op op_mod (pe_callTy call_int1 (by rfl) M.int b_int (pa_cons (pe_dget hu (pv 0) pe_str (fun _ _ => rfl)) pa_nil)) (pv 1)))
      (pss_cons (ps_dput hu (pv 0) pe_str (pe_op op_fdiv (pe_dget hu (pv 0) pe_str (fun _ _ => rfl)) (pv 1)) rfl)
      (pss_one (ps_ret (pv 2))))) pss_nil)
      (pss_cons (ps_dput hu (pv 0) pe_str (pe_op op_add (pe_dget hu (pv 0) pe_str (fun _ _ => rfl)) pe_int) rfl)
      (pss_cons (ps_set (i := 3) sc_law_take.nd rfl (.inl rfl) (pe_op op_mod (pe_callTy call_int1 (by rfl) M.int b_int (pa_cons (pe_op op_add (pe_op op_mul (pe_dget hu (pv 0) pe_str (fun _ _ => rfl)) pe_int) (pe_op op_mul (pe_dget hu (pv 0) pe_str (fun _ _ => rfl)) pe_int)) pa_nil)) pe_int))
      (pss_cons (ps_set (i := 3) sc_law_take.nd rfl (.inl rfl) (pe_op op_mod (pe_callTy call_int1 (by rfl) M.int b_int (pa_cons (pe_op op_add (pe_op op_add (pe_op op_mul (pv 3) (pv 3)) (pe_op op_mul (pe_dget hu (pv 0) pe_str (fun _ _ => rfl)) pe_int)) pe_int) pa_nil)) pe_int))
      (pss_one (ps_ret (pe_op op_mod (pe_callTy call_int1 (by rfl) M.int b_int (pa_cons (pv 3) pa_nil)) (pv 1))))))))), ?_⟩
  refine seq_split (fun σ' H' => σ' = [some (.ref p), some (.int m), none, none] ∧ Keep p H H' ∧ TapeAt H' p c) ?_ (fun rest => ?_)
  · rintro σ' H1 ⟨rfl, k1, cells, a, l, sd, st, ha0, ht, hc⟩
    have npc : c ≠ p := ne_of hc ht (by intro z; cases z)
    -- if tape["left"] > 0
    refine ⟨_, rfl, p, .int l, rfl, dg (k := kL) ht gL, _, _, rfl, rfl, _, rfl, ite2 (fun c1 => ?_) (fun c1 => ?_)⟩
    · have c1' : 0 < l := of_decide_eq_true c1
      refine ⟨_, rfl, p, .int l, rfl, dg (k := kL) ht gL, .inl ⟨_, rfl, _, rfl, _, _, rfl, rfl, hm0, ?_⟩⟩
      refine ⟨_, rfl, p, .int l, rfl, dg (k := kL) ht gL, _, rfl, _, _, rfl, rfl, ⟨hm0, by omega⟩, _, rfl, p, _, rfl, dp (k := kL) ht putL five, _, rfl, ?_⟩
      exact q _ _ (Int.emod_nonneg _ (by omega)) (Int.emod_lt_of_pos _ hm0) (k1.trans Keep.at) ⟨cells, a, l / m, sd, st, ha0, upd_same, by rw [upd_ne npc]; exact hc⟩
    · have ht2 : upd H1 p (.dK (tapeK c a l sd (st + 1))) p = some (.dK (tapeK c a l sd (st + 1))) := upd_same
      refine ⟨_, rfl, p, .int st, rfl, dg (k := kT) ht gT, _, _, rfl, rfl, _, rfl, p, _, rfl, dp (k := kT) ht putT five, ?_⟩
      refine ⟨_, rfl, p, .int sd, rfl, dg (k := kS) ht2 gS, _, _, rfl, rfl, .inr (by constructor <;> decide), _, rfl, p, .int (st + 1), rfl, dg (k := kT) ht2 gT, _, _, rfl, rfl, .inr (by constructor <;> decide), _, _, rfl, rfl, .inl ⟨_, rfl, _, _, rfl, rfl, (by show (0 : Int) < 2147483647; decide), ?_⟩⟩
      have b0 : 0 ≤ (sd * 48271 + (st + 1) * 69621) % 2147483647 := Int.emod_nonneg _ (by decide)
      have b1 : (sd * 48271 + (st + 1) * 69621) % 2147483647 < 2147483647 := Int.emod_lt_of_pos _ (by decide)
      refine ⟨_, rfl, _, rfl, _, _, rfl, rfl, .inl ⟨by omega, by omega⟩, _, rfl, p, .int (st + 1), rfl, dg (k := kT) ht2 gT, _, _, rfl, rfl, .inr (by constructor <;> decide), _, _, rfl, rfl, _, _, rfl, rfl, .inl ⟨_, rfl, _, _, rfl, rfl, (by show (0 : Int) < 2147483399; decide), ?_⟩⟩
      refine ⟨_, rfl, .inl ⟨_, rfl, _, rfl, _, _, rfl, rfl, hm0, ?_⟩⟩
      exact q _ _ (Int.emod_nonneg _ (by omega)) (Int.emod_lt_of_pos _ hm0) (k1.trans Keep.at) ⟨cells, a, l, sd, st + 1, ha0, upd_same, by rw [upd_ne npc]; exact hc⟩
  · obtain ⟨cells, a, l, sd, st, ha0, ht, hc⟩ := id hT
    have npc : c ≠ p := ne_of hc ht (by intro z; cases z)
    refine ⟨_, rfl, p, .int l, rfl, dg (k := kL) ht gL, rfl, _, rfl, ite2 (fun c1 => ?_) (fun c1 => ?_)⟩
    · refine ⟨_, rfl, p, .int a, rfl, dg (k := kA) ht gA, _, rfl, p, .ref c, rfl, dg (k := kC) ht gC, c, _, rfl, .inl (SqL.of hc), _, _, rfl, rfl, _, rfl, ite2 (fun c2 => ?_) (fun c2 => ?_)⟩
      · have c2' : a < ((cells.map V.int).length : Int) := of_decide_eq_true c2
        rw [List.length_map] at c2'
        refine ⟨_, rfl, p, .ref c, rfl, dg (k := kC) ht gC, _, rfl, p, .int a, rfl, dg (k := kA) ht gA, c, _, _, _, rfl, rfl, SqL.of hc, at_int ha0 c2', _, rfl, p, _, rfl, dp (k := kL) ht putL five, ?_⟩
        have ht2 : ∀ z, upd H p (.dK (tapeK c a z sd st)) p = some (.dK (tapeK c a z sd st)) := fun z => upd_same
        refine ⟨_, rfl, p, .int a, rfl, dg (k := kA) (ht2 _) gA, _, _, rfl, rfl, _, rfl, p, _, rfl, dp (k := kA) (ht2 _) putA five, ?_⟩
        exact rest _ _ ⟨rfl, Keep.at.trans Keep.at, cells, a + 1, _, sd, st, by omega, upd_same, by rw [upd_ne npc, upd_ne npc]; exact hc⟩
      · exact rest _ _ ⟨rfl, Keep.refl _ _, hT⟩
    · exact iteF (rest _ _ ⟨rfl, Keep.refl _ _, hT⟩)
end
end W6
set_option Elab.async false
set_option linter.all false
set_option maxRecDepth 100000
set_option maxHeartbeats 4000000
namespace W6
open PySem PySem.Spec PyProof.Rows L2 Com
/-! scopes and sets as data -/
def scD (x : Sc) : PyData := .tuple [.str "m", .int x.1, .int x.2]
def setD (s : List Sc) : PyData := .tuple (s.map scD)
theorem scD_inj {x y : Sc} (h : scD x = scD y) : x = y := by
  obtain ⟨a, b⟩ := x
  obtain ⟨c, d⟩ := y
  simp only [scD, PyData.tuple.injEq, List.cons.injEq, PyData.int.injEq, and_true, true_and] at h
  rw [h.1, h.2]
theorem map_inj {α β : Type} {f : α → β} (hf : ∀ x y, f x = f y → x = y) : ∀ {l m : List α}, l.map f = m.map f → l = m
  | [], [], _ => rfl
  | [], _ :: _, h => by simp at h
  | _ :: _, [], h => by simp at h
  | a :: l, b :: m, h => by
    simp only [List.map_cons, List.cons.injEq] at h
    rw [hf _ _ h.1, map_inj hf h.2]
theorem setD_inj {x y : List Sc} (h : setD x = setD y) : x = y := map_inj (fun _ _ => scD_inj) (PyData.tuple.inj h)
theorem pl_sc (x : Sc) : pl (scD x) = true := by simp [scD, pl, plAll]
theorem plAll_map {α : Type} {f : α → PyData} (hf : ∀ x, pl (f x) = true) : ∀ l : List α, plAll (l.map f) = true
  | [] => rfl
  | a :: l => by simp [plAll, hf a, plAll_map hf l]
theorem pl_set (s : List Sc) : pl (setD s) = true := by
  simp only [setD, pl]
  exact plAll_map pl_sc s
theorem okM : PyData.strOk ("m" : Str) = true := by decide +kernel
theorem lay_sc (x : Sc) : (scD x).canLay0 = true := by simp [scD, PyData.canLay0, PyData.canLayAll0, okM]
theorem layAll_map {α : Type} {f : α → PyData} (hf : ∀ x, (f x).canLay0 = true) : ∀ l : List α, PyData.canLayAll0 (l.map f) = true
  | [] => rfl
  | a :: l => by simp [PyData.canLayAll0, hf a, layAll_map hf l]
theorem lay_set (s : List Sc) : (setD s).canLay0 = true := by
  simp only [setD, PyData.canLay0]
  exact layAll_map lay_sc s
theorem dep_sc (x : Sc) : (scD x).depth = 1 := by simp [scD, PyData.depth, PyData.depthAll]
theorem depAll_map {α : Type} {f : α → PyData} {n : Nat} (hf : ∀ x, (f x).depth ≤ n) : ∀ l : List α, PyData.depthAll (l.map f) ≤ n
  | [] => by simp [PyData.depthAll]
  | a :: l => by
    have h1 := hf a
    have h2 := depAll_map hf l
    simp only [List.map_cons, PyData.depthAll]
    omega
theorem dep_set (s : List Sc) : (setD s).depth ≤ 2 := by
  have := depAll_map (f := scD) (n := 1) (fun x => Nat.le_of_eq (dep_sc x)) s
  simp only [setD, PyData.depth]
  omega
theorem shp {d : PyData} (h1 : d.canLay0 = true) (h2 : d.depth ≤ 64) : SeqAt.shaped d = true := by
  show (d.canLay0 && decide (d.depth ≤ 64)) = true
  rw [Bool.and_eq_true]
  exact ⟨h1, decide_eq_true h2⟩
theorem sh_sc (x : Sc) : SeqAt.shaped (scD x) = true := shp (lay_sc x) (by rw [dep_sc]; decide)
theorem sh_set (s : List Sc) : SeqAt.shaped (setD s) = true := shp (lay_set s) (by have := dep_set s; omega)
theorem any_sc (s : List Sc) (x : Sc) : ((s.map scD).any fun z => PyData.eqv z (scD x)) = decide (x ∈ s) := by
  rw [Bool.eq_iff_iff, any_pl (plAll_map pl_sc s) (pl_sc x), decide_eq_true_iff, List.mem_map]
  constructor
  · rintro ⟨y, hy, e⟩
    rw [← scD_inj e]
    exact hy
  · intro h
    exact ⟨x, h, rfl⟩
section
variable {P : Program} {w : World} {K : PySem.W.Frag} {mg : Str → Option Value} {base : Heap}
def spIncl : Sp := fun vs H Q _ => ∃ (v u : V) (s l : List Sc), vs = [v, u] ∧ Dt H v (setD s) ∧ Dt H u (setD l) ∧ Q (.bl (incl s l)) H
theorem ok_is_included {f : Addr} {fd : FuncData} (F : Dfn K mg "_is_included" st__is_included f fd ["small", "large"]) (M : Mg mg) : Cal P w K mg base 1 "_is_included" spIncl := by
  refine cal_mk F sc_is_included (fun vs H Q E h => ?_) (fun cdv A outer s H vs Q E hr h => ?_)
  · obtain ⟨v, u, s, l, rfl, _⟩ := h
    rfl
  obtain ⟨v, u, sm, lg, rfl, hs, hl, q⟩ := h
  obtain ⟨a, xs, rfl, ha, hxs⟩ := Dt.tupE hs
  refine ⟨_, (pss_cons (ps_for PassesOwn.never rfl (pi_tup (pv 0)) (pg_name (i := 2) sc_is_included.nd rfl (.inl rfl))
      (pss_one (ps_if (pt_cmpR (opNotInT K rfl (units65 hr)) (pv 2) (pv 1) (by rfl)) (pss_one (ps_ret pe_bl)) pss_nil)))
      (pss_one (ps_ret pe_bl))), ?_⟩
  refine ⟨_, rfl, a, rfl, ⟨_, SqT.of ha⟩, for_tup (K := K) (a := a) (xs := xs) (fun i σ H2 => ∃ y, σ = [some (.ref a), some u, y] ∧ H2 = H ∧ ∀ j, j < i → ∀ x, sm[j]? = some x → x ∈ lg)
    ⟨none, rfl, rfl, fun j h => absurd h (Nat.not_lt_zero _)⟩ (fun i σ H2 _ ⟨y, _, e, _⟩ => by rw [e]; exact SqT.of ha) ?_ ?_⟩
  · rintro i x σ H2 hi ⟨y, rfl, rfl, hp⟩
    obtain ⟨z, hz, hd⟩ := hxs.get_map hi
    refine ⟨_, rfl, _, rfl, _, _, hd.dp, hl.dp, sh_sc z, sh_set lg, _, rfl, ?_⟩
    rw [any_sc]
    by_cases hm : z ∈ lg
    · rw [decide_eq_true hm]
      refine iteF ⟨_, rfl, rfl, fun j hj x hx => ?_⟩
      by_cases e : j = i
      · subst e
        rw [hz] at hx
        cases hx
        exact hm
      · exact hp j (by omega) x hx
    · rw [decide_eq_false hm]
      refine iteT ?_
      have e : incl sm lg = false := by
        cases e : incl sm lg with
        | false => rfl
        | true => exact absurd (incl_iff.mp e z (List.mem_of_getElem? hz)) hm
      rw [e] at q
      exact q
  · rintro σ H2 ⟨y, rfl, rfl, hp⟩
    have e : incl sm lg = true := incl_iff.mpr fun x hx => by
      obtain ⟨j, hj, ej⟩ := List.getElem_of_mem hx
      refine hp j ?_ x (by rw [List.getElem?_eq_getElem hj, ej])
      rw [hxs.len, List.length_map]
      exact hj
    rw [e] at q
    exact q
end
end W6
set_option Elab.async false
set_option linter.all false
set_option maxRecDepth 100000
set_option maxHeartbeats 4000000
namespace W6
open PySem PySem.Spec PyProof.Rows L2 Com
section
variable {P : Program} {w : World} {K : PySem.W.Frag} {mg : Str → Option Value} {base : Heap}
/-! _law_includes(outer, inner) -/
def spLIncl : Sp := fun vs H Q _ => ∃ (v u : V) (s l : List Sc), vs = [u, v] ∧ s.length ≤ 100 ∧ Dt H v (setD s) ∧ Dt H u (setD l) ∧ ∀ H', Same H H' → Q (.bl (incl s l)) H'
theorem ok_law_includes {f : Addr} {fd : FuncData} (F : Dfn K mg "_law_includes" st__law_includes f fd ["outer", "inner"]) (M : Mg mg) : Cal P w K mg base 1 "_law_includes" spLIncl := by
  refine cal_mk F sc_law_includes (fun vs H Q E h => ?_) (fun cdv A outer s H vs Q E hr h => ?_)
  · obtain ⟨v, u, s, l, rfl, _⟩ := h
    rfl
  obtain ⟨v, u, sm, lg, rfl, h100, hs, hl, q⟩ := h
  obtain ⟨a, xs, rfl, ha, hxs⟩ := Dt.tupE hs
  refine ⟨_, (pss_one (ps_ret (pe_cmpR (opEqD K rfl hr.units) (pe_lc (own := [("scope", 2)]) (g := gName 2) (by rfl) sc_law_includes.nd (pi_tup (pv 1)) (blkOk_by (own := [("scope", 2)]) (N := ["outer", "inner", "scope"]) (sc := defScope st__law_includes) (by decide +kernel)) (fun _ _ _ _ _ => (pg_name (i := 2) sc_law_includes.nd rfl (.inl rfl))) (fun _ _ _ _ _ => (pts_one (pt_cmpR (opNotInT K rfl (units65 hr)) (pv 2) (pv 0) (by rfl)))) (fun _ _ _ _ _ => (pv 2))) (pe_lst pa_nil) (nomark _)))), ?_⟩
  refine ⟨_, rfl, a, rfl, ⟨_, SqT.of ha⟩, fun D nD => ?_⟩
  have sD : ∀ o, Same H (upd H D o) := fun o => same_upd nD
  refine lc_tup (K := K) (a := a) (xs := xs) (fun i H' => ∃ (zs : List Sc) (ys : List V), H' = upd H D (.lst ys) ∧ DtAll H ys (zs.map scD) ∧ zs = (sm.take i).filter (fun x => !decide (x ∈ lg)) ∧ ys.length ≤ i) ⟨[], [], rfl, .nil, rfl, Nat.le_refl _⟩ (fun i H' _ ⟨zs, ys, e, _⟩ => by rw [e]; exact same_sqT (sD _) (SqT.of ha)) ?_ ?_
  · rintro i x H' hi ⟨zs, ys, rfl, hy, hz, hlen⟩
    obtain ⟨z, hzi, hd⟩ := hxs.get_map hi
    have k1 := same_tk (sD (.lst ys))
    have et : sm.take (i + 1) = sm.take i ++ [z] := by rw [List.take_add_one, hzi]; rfl
    refine ⟨rfl, _, rfl, _, rfl, _, _, (hd.tk k1).dp, (hl.tk k1).dp, sh_sc z, sh_set lg, _, rfl, ?_⟩
    rw [any_sc]
    by_cases hm : z ∈ lg
    · rw [decide_eq_true hm]
      refine iteF ⟨zs, ys, rfl, hy, ?_, Nat.le_succ_of_le hlen⟩
      rw [et, List.filter_append, hz]
      simp [hm]
    · rw [decide_eq_false hm]
      refine iteT ⟨_, rfl, _, upd_same, ?_, zs ++ [z], ys ++ [_], upd_upd, ?_, ?_, ?_⟩
      · have h2 := hxs.len
        rw [List.length_map] at h2
        have h3 := (List.getElem?_eq_some_iff.mp hzi).1
        exact small1000 (by omega)
      · rw [List.map_append]
        exact hy.app (.one hd)
      · rw [et, List.filter_append, hz]
        simp [hm]
      · rw [List.length_append]
        exact Nat.add_le_add_right hlen 1
  · rintro H' ⟨zs, ys, rfl, hy, hz, hlen⟩
    refine ⟨Nat.zero_le _, fun p np => ?_⟩
    have ep : Same (upd H D (.lst ys)) (upd (upd H D (.lst ys)) p (.lst [])) := same_upd np
    have hpD : D ≠ p := ne_of_none upd_same np
    refine ⟨.list (zs.map scD), .list [], .lst (SqL.of (by rw [upd_ne hpD]; exact upd_same)) (hy.tk (same_tk ((sD _).trans ep))).dp, .lst (SqL.of upd_same) .nil, shp (layAll_map lay_sc zs) ?_, by decide +kernel, ?_⟩
    · have := depAll_map (f := scD) (n := 1) (fun x => Nat.le_of_eq (dep_sc x)) zs
      simp only [PyData.depth]
      omega
    · have e : PyData.eqv (.list (zs.map scD)) (.list []) = incl sm lg := by
        rw [hxs.len, List.length_map, List.take_length] at hz
        rw [Bool.eq_iff_iff, eqv_pl _ _ (by simp only [pl]; exact plAll_map pl_sc zs) (by simp [pl, plAll]), incl_iff, hz]
        simp only [PyData.list.injEq, List.map_eq_nil_iff, List.filter_eq_nil_iff]
        simp
      rw [e]
      exact q _ ((sD _).trans ep)
/-! _law_same and its kin: the same data are the same -/
def spInt : Sp := fun vs H Q _ => ∃ i : Int, vs = [.int i] ∧ Q (.bl true) H
theorem kit_int : kitB "int" "int" = some true := by decide +kernel
theorem kit_intb : kitB "int" "bool" = some false := by decide +kernel
theorem ok_law_is_integer {f : Addr} {fd : FuncData} (F : Dfn K mg "_law_is_integer" st__law_is_integer f fd ["actual"]) (M : Mg mg) : Cal P w K mg base 1 "_law_is_integer" spInt := by
  refine cal_mk F sc_law_is_integer (fun vs H Q E h => ?_) (fun cdv A outer s H vs Q E hr h => ?_)
  · obtain ⟨v, rfl, _⟩ := h
    rfl
  obtain ⟨i, rfl, q⟩ := h
  refine ⟨_, (pss_one (ps_ret (pe_and (pe_callB (cIsi K rfl) (by rfl) M.isinstance b_isinstance (pa_cons (pv 0) (pa_cons (pe_bltn (v := .ty "int") (by rfl) M.int b_int rfl) pa_nil))) (pe_one (pe_not (pe_callB (cIsi K rfl) (by rfl) M.isinstance b_isinstance (pa_cons (pv 0) (pa_cons (pe_bltn (v := .ty "bool") (by rfl) M.bool b_bool rfl) pa_nil)))))))), ?_⟩
  refine ⟨_, rfl, _, _, _, _, true, rfl, .ty "int", .base (.int i), kit_ty kit_int, true, rfl, iteT ?_⟩
  exact ⟨_, rfl, _, _, _, _, false, rfl, .ty "bool", .base (.int i), kit_ty kit_intb, false, rfl, q⟩
mutual
/-- no list in it is huge -/
def smD : PyData → Bool
  | .list xs | .tuple xs => decide (xs.length ≤ 1000000) && smAll xs
  | .none | .bool _ | .int _ | .str _ | .dict _ => true
def smAll : List PyData → Bool
  | [] => true
  | x :: xs => smD x && smAll xs
end
theorem smAll_mem : ∀ {ds : List PyData} {d : PyData}, smAll ds = true → d ∈ ds → smD d = true
  | x :: xs, d, h, hm => by
    simp only [smAll, Bool.and_eq_true] at h
    rcases List.mem_cons.mp hm with e | hm
    · rw [e]; exact h.1
    · exact smAll_mem h.2 hm
theorem smAll_map {α : Type} {f : α → PyData} (hf : ∀ x, smD (f x) = true) : ∀ l : List α, smAll (l.map f) = true
  | [] => rfl
  | a :: l => by simp [smAll, hf a, smAll_map hf l]
/-- both stand for one datum of at most this depth -/
def spSame (K : PySem.W.Frag) (n : Nat) : Sp := fun vs H Q _ => ∃ (v u : V) (d : PyData), vs = [v, u] ∧ Dp K H v d ∧ Dp K H u d ∧ d.depth ≤ n ∧ smD d = true ∧ Q (.bl true) H
def spItems (K : PySem.W.Frag) (n : Nat) : Sp := fun vs H Q _ => ∃ (a b : Addr) (xs ys : List V) (ds : List PyData), vs = [.ref a, .ref b] ∧ Sq K H a xs ∧ Sq K H b ys ∧ DpAll K H xs ds ∧ DpAll K H ys ds ∧ PyData.depthAll ds < n ∧ ds.length ≤ 1000000 ∧ smAll ds = true ∧ Q (.bl true) H
theorem DpAll.get {H : Hp} : ∀ {vs : List V} {ds : List PyData} {i : Nat} {x : V}, DpAll K H vs ds → vs[i]? = some x → ∃ d, ds[i]? = some d ∧ Dp K H x d
  | _, _, _, _, .nil, e => by simp at e
  | _, _, 0, _, .cons h _, e => by
    simp at e
    subst e
    exact ⟨_, rfl, h⟩
  | _, _, i + 1, _, .cons _ t, e => by
    simp only [List.getElem?_cons_succ] at e
    obtain ⟨d, h1, h2⟩ := DpAll.get t e
    exact ⟨d, by simpa using h1, h2⟩
theorem depth_mem : ∀ {ds : List PyData} {d : PyData}, d ∈ ds → d.depth ≤ PyData.depthAll ds
  | x :: xs, d, h => by
    simp only [PyData.depthAll]
    rcases List.mem_cons.mp h with e | h
    · rw [e]; omega
    · have := depth_mem h
      omega
theorem ok_law_same_items {f : Addr} {fd : FuncData} {n : Nat} (F : Dfn K mg "_law_same_items" st__law_same_items f fd ["actual", "expected"]) (M : Mg mg) (G_law_same : Cal P w K mg base (2 * n + 2) "_law_same" (spSame K n)) : Cal P w K mg base (2 * n + 2 + 1) "_law_same_items" (spItems K (n + 1)) := by
  refine cal_mk F sc_law_same_items (fun vs H Q E h => ?_) (fun cdv A outer s H vs Q E hr h => ?_)
  · obtain ⟨a, b, xs, ys, ds, rfl, _⟩ := h
    rfl
  obtain ⟨a, b, xs, ys, ds, rfl, ha, hb, hx, hy, hdp, hmil, hsm, q⟩ := h
  have ex := DpAll_len hx
  have ey := DpAll_len hy
  refine ⟨_, (pss_cons (ps_if (pt_cmpR op_ne (pe_callB (cLen K rfl) (by rfl) M.len b_len (pa_cons (pv 0) pa_nil)) (pe_callB (cLen K rfl) (by rfl) M.len b_len (pa_cons (pv 1) pa_nil)) (nomark _)) (pss_one (ps_ret pe_bl)) pss_nil)
      (pss_cons (ps_for PassesOwn.never rfl (pi_range1 (by rfl) M.range (pa_cons (pe_callB (cLen K rfl) (by rfl) M.len b_len (pa_cons (pv 1) pa_nil)) pa_nil)) (pg_name (i := 2) sc_law_same_items.nd rfl (.inl rfl))
      (pss_one (ps_if (pt_not (pt_val (pe_c G_law_same hr (by omega) (by rfl) (pa_cons (pe_ix (ixQ K rfl) (pv 0) (pv 2) (fun _ _ => rfl)) (pa_cons (pe_ix (ixQ K rfl) (pv 1) (pv 2) (fun _ _ => rfl)) pa_nil))))) (pss_one (ps_ret pe_bl)) pss_nil)))
      (pss_one (ps_ret pe_bl)))), ?_⟩
  refine ⟨_, rfl, a, xs, rfl, ha, _, rfl, b, ys, rfl, hb, rfl, _, rfl, ?_⟩
  refine iteNS (by rw [ex, ey]) ?_
  refine ⟨_, rfl, b, ys, rfl, hb, ?_⟩
  refine ⟨_, rfl, by omega, by omega, for_range (lo := 0) (n := ys.length) (fun i σ H2 => ∃ y, σ = [some (.ref a), some (.ref b), y] ∧ H2 = H) ⟨none, rfl, rfl⟩ ?_ ?_⟩
  · rintro i σ H2 hi ⟨y, rfl, rfl⟩
    have hix : i < xs.length := by omega
    obtain ⟨d, hd, dx⟩ := DpAll.get hx (List.getElem?_eq_getElem hix)
    obtain ⟨d', hd', dy⟩ := DpAll.get hy (List.getElem?_eq_getElem hi)
    rw [hd] at hd'
    cases hd'
    have hdm := depth_mem (List.mem_of_getElem? hd)
    have e0 : (0 : Int) + (i : Int) = (i : Int) := Int.zero_add _
    refine ⟨_, rfl, _, rfl, ixq ha (by rw [e0]; exact atN (List.getElem?_eq_getElem hix)) ⟨_, rfl, _, rfl, ixq hb (by rw [e0]; exact atN (List.getElem?_eq_getElem hi)) ⟨_, _, d, rfl, dx, dy, by omega, smAll_mem hsm (List.mem_of_getElem? hd), true, rfl, ?_⟩⟩⟩
    exact iteF ⟨_, rfl, rfl⟩
  · rintro σ H2 ⟨y, rfl, rfl⟩
    exact q
theorem kit_of2 (a b : String) (r : Bool) (h : kitB a b = some r) : PySem.W.kitOne K (.type a) (.type b) = some r := kit_ty h
theorem k_bb : kitB "bool" "bool" = some true := by decide +kernel
theorem k_ib : kitB "int" "bool" = some false := by decide +kernel
theorem k_ii : kitB "int" "int" = some true := by decide +kernel
theorem k_sb : kitB "str" "bool" = some false := by decide +kernel
theorem k_si : kitB "str" "int" = some false := by decide +kernel
theorem k_ss : kitB "str" "str" = some true := by decide +kernel
theorem k_tb : kitB "tuple" "bool" = some false := by decide +kernel
theorem k_ti : kitB "tuple" "int" = some false := by decide +kernel
theorem k_ts : kitB "tuple" "str" = some false := by decide +kernel
theorem k_tt : kitB "tuple" "tuple" = some true := by decide +kernel
theorem k_lb : kitB "list" "bool" = some false := by decide +kernel
theorem k_li : kitB "list" "int" = some false := by decide +kernel
theorem k_ls : kitB "list" "str" = some false := by decide +kernel
theorem k_lt : kitB "list" "tuple" = some false := by decide +kernel
theorem k_ll : kitB "list" "list" = some true := by decide +kernel
theorem tyT {H : Hp} {a : Addr} {xs : List V} (h : SqT K H a xs) : TyX K H (.ref a) (.type "tuple") := by
  rcases h with (h | ⟨o, h⟩) | ⟨o, its, n, h, hc, _⟩
  · exact .base (.tup h)
  · exact .fTuple h
  · exact .kTuple h hc
theorem tyL {H : Hp} {a : Addr} {xs : List V} (h : SqL K H a xs) : TyX K H (.ref a) (.type "list") := by
  rcases h with (h | ⟨o, h⟩) | ⟨o, its, n, h, hc, _⟩
  · exact .base (.lst h)
  · exact .base (.frz h)
  · exact .kList h hc
theorem ok_law_same {f : Addr} {fd : FuncData} {n : Nat} (F : Dfn K mg "_law_same" st__law_same f fd ["actual", "expected"]) (M : Mg mg) (G_law_is_integer : Cal P w K mg base 1 "_law_is_integer" spInt) (G_law_same_items : Cal P w K mg base (2 * n + 1) "_law_same_items" (spItems K n)) : Cal P w K mg base (2 * n + 1 + 1) "_law_same" (spSame K n) := by
  refine cal_mk F sc_law_same (fun vs H Q E h => ?_) (fun cdv A outer s H vs Q E hr h => ?_)
  · obtain ⟨v, u, d, rfl, _⟩ := h
    rfl
  obtain ⟨v, u, d, rfl, hv, hu', hdp, hsm, q⟩ := h
  refine ⟨_, (pss_cons (ps_if (pt_cmpR op_isN (pv 1) pe_non (nomark _)) (pss_one (ps_ret (pe_cmpR op_isN (pv 0) pe_non (nomark _)))) pss_nil)
      (pss_cons (ps_if (pt_val (pe_callB (cIsi K rfl) (by rfl) M.isinstance b_isinstance (pa_cons (pv 1) (pa_cons (pe_bltn (v := .ty "bool") (by rfl) M.bool b_bool rfl) pa_nil)))) (pss_one (ps_ret (pe_and (pe_callB (cIsi K rfl) (by rfl) M.isinstance b_isinstance (pa_cons (pv 0) (pa_cons (pe_bltn (v := .ty "bool") (by rfl) M.bool b_bool rfl) pa_nil))) (pe_one (pe_cmpR op_eq (pv 0) (pv 1) (nomark _)))))) pss_nil)
      (pss_cons (ps_if (pt_val (pe_callB (cIsi K rfl) (by rfl) M.isinstance b_isinstance (pa_cons (pv 1) (pa_cons (pe_bltn (v := .ty "int") (by rfl) M.int b_int rfl) pa_nil)))) (pss_one (ps_ret (pe_and (pe_c G_law_is_integer hr (by omega) (by rfl) (pa_cons (pv 0) pa_nil)) (pe_one (pe_cmpR op_eq (pv 0) (pv 1) (nomark _)))))) pss_nil)
      (pss_cons (ps_if (pt_val (pe_callB (cIsi K rfl) (by rfl) M.isinstance b_isinstance (pa_cons (pv 1) (pa_cons (pe_bltn (v := .ty "str") (by rfl) M.str b_str rfl) pa_nil)))) (pss_one (ps_ret (pe_and (pe_callB (cIsi K rfl) (by rfl) M.isinstance b_isinstance (pa_cons (pv 0) (pa_cons (pe_bltn (v := .ty "str") (by rfl) M.str b_str rfl) pa_nil))) (pe_one (pe_cmpR op_eq (pv 0) (pv 1) (nomark _)))))) pss_nil)
      (pss_cons (ps_if (pt_val (pe_callB (cIsi K rfl) (by rfl) M.isinstance b_isinstance (pa_cons (pv 1) (pa_cons (pe_bltn (v := .ty "tuple") (by rfl) M.tuple b_tuple rfl) pa_nil)))) (pss_one (ps_ret (pe_and (pe_callB (cIsi K rfl) (by rfl) M.isinstance b_isinstance (pa_cons (pv 0) (pa_cons (pe_bltn (v := .ty "tuple") (by rfl) M.tuple b_tuple rfl) pa_nil))) (pe_one (pe_c G_law_same_items hr (by omega) (by rfl) (pa_cons (pv 0) (pa_cons (pv 1) pa_nil))))))) pss_nil)
      (pss_cons (ps_if (pt_val (pe_callB (cIsi K rfl) (by rfl) M.isinstance b_isinstance (pa_cons (pv 1) (pa_cons (pe_bltn (v := .ty "list") (by rfl) M.list b_list rfl) pa_nil)))) (pss_one (ps_ret (pe_and (pe_callB (cIsi K rfl) (by rfl) M.isinstance b_isinstance (pa_cons (pv 0) (pa_cons (pe_bltn (v := .ty "list") (by rfl) M.list b_list rfl) pa_nil))) (pe_one (pe_c G_law_same_items hr (by omega) (by rfl) (pa_cons (pv 0) (pa_cons (pv 1) pa_nil))))))) pss_nil)
      (pss_cons ps_never
      (pss_cons ps_never
      (pss_cons ps_never
      (pss_one ps_never)))))))))), ?_⟩
  cases hv with
  | non =>
    cases hu'
    exact ⟨_, rfl, rfl, _, rfl, iteT ⟨_, rfl, rfl, q⟩⟩
  | bl b =>
    cases hu'
    refine ⟨_, rfl, rfl, _, rfl, iteF ?_⟩
    refine ⟨_, rfl, _, _, _, _, true, rfl, .ty "bool", .base (.bl b), kit_ty k_bb, true, rfl, iteT ?_⟩
    exact ⟨_, rfl, _, _, _, _, true, rfl, .ty "bool", .base (.bl b), kit_ty k_bb, true, rfl, iteT ⟨_, rfl, _, rfl, rfl, by rw [decide_eq_true rfl]; exact q⟩⟩
  | int i =>
    cases hu'
    refine ⟨_, rfl, rfl, _, rfl, iteF ?_⟩
    refine ⟨_, rfl, _, _, _, _, false, rfl, .ty "bool", .base (.int i), kit_ty k_ib, false, rfl, iteF ?_⟩
    refine ⟨_, rfl, _, _, _, _, true, rfl, .ty "int", .base (.int i), kit_ty k_ii, true, rfl, iteT ?_⟩
    exact ⟨_, rfl, i, rfl, true, rfl, iteT ⟨_, rfl, _, rfl, rfl, by rw [decide_eq_true rfl]; exact q⟩⟩
  | str x =>
    cases hu'
    refine ⟨_, rfl, rfl, _, rfl, iteF ?_⟩
    refine ⟨_, rfl, _, _, _, _, false, rfl, .ty "bool", .base (.str x), kit_ty k_sb, false, rfl, iteF ?_⟩
    refine ⟨_, rfl, _, _, _, _, false, rfl, .ty "int", .base (.str x), kit_ty k_si, false, rfl, iteF ?_⟩
    refine ⟨_, rfl, _, _, _, _, true, rfl, .ty "str", .base (.str x), kit_ty k_ss, true, rfl, iteT ?_⟩
    exact ⟨_, rfl, _, _, _, _, true, rfl, .ty "str", .base (.str x), kit_ty k_ss, true, rfl, iteT ⟨_, rfl, _, rfl, rfl, by rw [decide_eq_true rfl]; exact q⟩⟩
  | @tup a xs ds ha hx =>
    cases hu' with
    | @tup b ys _ hb hy =>
    refine ⟨_, rfl, rfl, _, rfl, iteF ?_⟩
    refine ⟨_, rfl, _, _, _, _, false, rfl, .ty "bool", tyT hb, kit_ty k_tb, false, rfl, iteF ?_⟩
    refine ⟨_, rfl, _, _, _, _, false, rfl, .ty "int", tyT hb, kit_ty k_ti, false, rfl, iteF ?_⟩
    refine ⟨_, rfl, _, _, _, _, false, rfl, .ty "str", tyT hb, kit_ty k_ts, false, rfl, iteF ?_⟩
    refine ⟨_, rfl, _, _, _, _, true, rfl, .ty "tuple", tyT hb, kit_ty k_tt, true, rfl, iteT ?_⟩
    refine ⟨_, rfl, _, _, _, _, true, rfl, .ty "tuple", tyT ha, kit_ty k_tt, true, rfl, iteT ?_⟩
    simp only [PyData.depth] at hdp
    simp only [smD, Bool.and_eq_true, decide_eq_true_eq] at hsm
    exact ⟨_, rfl, _, rfl, a, b, xs, ys, ds, rfl, .inr ha, .inr hb, hx, hy, by omega, hsm.1, hsm.2, q⟩
  | @lst a xs ds ha hx =>
    cases hu' with
    | @lst b ys _ hb hy =>
    refine ⟨_, rfl, rfl, _, rfl, iteF ?_⟩
    refine ⟨_, rfl, _, _, _, _, false, rfl, .ty "bool", tyL hb, kit_ty k_lb, false, rfl, iteF ?_⟩
    refine ⟨_, rfl, _, _, _, _, false, rfl, .ty "int", tyL hb, kit_ty k_li, false, rfl, iteF ?_⟩
    refine ⟨_, rfl, _, _, _, _, false, rfl, .ty "str", tyL hb, kit_ty k_ls, false, rfl, iteF ?_⟩
    refine ⟨_, rfl, _, _, _, _, false, rfl, .ty "tuple", tyL hb, kit_ty k_lt, false, rfl, iteF ?_⟩
    refine ⟨_, rfl, _, _, _, _, true, rfl, .ty "list", tyL hb, kit_ty k_ll, true, rfl, iteT ?_⟩
    refine ⟨_, rfl, _, _, _, _, true, rfl, .ty "list", tyL ha, kit_ty k_ll, true, rfl, iteT ?_⟩
    simp only [PyData.depth] at hdp
    simp only [smD, Bool.and_eq_true, decide_eq_true_eq] at hsm
    exact ⟨_, rfl, _, rfl, a, b, xs, ys, ds, rfl, .inl ha, .inl hb, hx, hy, by omega, hsm.1, hsm.2, q⟩
theorem items0 {f : Addr} {fd : FuncData} (F : Dfn K mg "_law_same_items" st__law_same_items f fd ["actual", "expected"]) : Cal P w K mg base 1 "_law_same_items" (spItems K 0) := by
  have no : ∀ vs H Q E, ¬ spItems K 0 vs H Q E := fun vs H Q E h => by
    obtain ⟨a, b, xs, ys, ds, _, _, _, _, _, h1, _⟩ := h
    omega
  exact ⟨f, fd, _, ⟨fun vs H Q E h => absurd h (no vs H Q E), fun A outer s H args us vs Q E _ _ _ _ h => absurd h (no vs H Q E)⟩, F.mgf, F.fn.kp, F.b⟩
theorem same_all {f g i : Addr} {fd gd id : FuncData} (F : Dfn K mg "_law_same" st__law_same f fd ["actual", "expected"]) (G : Dfn K mg "_law_same_items" st__law_same_items g gd ["actual", "expected"]) (I : Dfn K mg "_law_is_integer" st__law_is_integer i id ["actual"]) (M : Mg mg) :
    ∀ n : Nat, Cal P w K mg base (2 * n + 1 + 1) "_law_same" (spSame K n) ∧ Cal P w K mg base (2 * n + 1) "_law_same_items" (spItems K n)
  | 0 => ⟨ok_law_same F M (ok_law_is_integer I M) (items0 G), items0 G⟩
  | n + 1 => by
    have h := ok_law_same_items G M (same_all F G I M n).1
    exact ⟨ok_law_same F M (ok_law_is_integer I M) h, h⟩
end
end W6
set_option Elab.async false
set_option linter.all false
set_option maxRecDepth 100000
set_option maxHeartbeats 4000000
namespace W6
open PySem PySem.Spec PyProof.Rows L2 Com
/-! bindings, identifiers, tables -/
inductive Tg where
  | loc (r : Int) | prim | top
  deriving DecidableEq
structure Bd where
  ph : Int
  nm : Str
  st : List Sc
  tg : Tg
def tgD : Tg → PyData
  | .loc r => .tuple [.str "local", .str "m", .int r]
  | .prim => .tuple [.str "prim", .str "list"]
  | .top => .tuple [.str "top", .str "m", .int 0, .int 1]
def bdD (b : Bd) : PyData := .tuple [.int b.ph, .str b.nm, setD b.st, tgD b.tg]
def idD (nm : Str) (pl : Int) (st : List Sc) : PyData := .tuple [.str "id", .str nm, .tuple [.str "m", .int pl], setD st]
def tab (bs : List Bd) (k : Nat) : List Sc := ((bs[k]?).map (·.st)).getD []
theorem tab_of {bs : List Bd} {k : Nat} {b : Bd} (h : bs[k]? = some b) : tab bs k = b.st := by
  unfold tab
  rw [h]
  rfl
def TblAt (K : PySem.W.Frag) (H : Hp) (v : V) (bs : List Bd) : Prop := ∃ a xs, v = .ref a ∧ Sq K H a xs ∧ DtAll H xs (bs.map bdD)
theorem TblAt.same {K : PySem.W.Frag} {H H' : Hp} {v : V} {bs : List Bd} (h : TblAt K H v bs) (s : Same H H') : TblAt K H' v bs := by
  obtain ⟨a, xs, e, h1, h2⟩ := h
  exact ⟨a, xs, e, same_sq s h1, h2.tk (same_tk s)⟩
theorem bdE {H : Hp} {v : V} {b : Bd} (h : Dt H v (bdD b)) : ∃ p x2 x3, v = .ref p ∧ H p = some (.tup [.int b.ph, .str b.nm, x2, x3]) ∧ Dt H x2 (setD b.st) ∧ Dt H x3 (tgD b.tg) := by
  obtain ⟨p, xs, rfl, hp, h1⟩ := Dt.tupE h
  obtain ⟨x0, r0, rfl, h0, h1⟩ := h1.consE
  obtain ⟨x1, r1, rfl, h2, h1⟩ := h1.consE
  obtain ⟨x2, r2, rfl, h3, h1⟩ := h1.consE
  obtain ⟨x3, r3, rfl, h4, h1⟩ := h1.consE
  have e := h1.nilE
  subst e
  rw [h0.intE, h2.strE] at hp
  exact ⟨p, x2, x3, rfl, hp, h3, h4⟩
theorem idE {H : Hp} {v : V} {nm : Str} {pl : Int} {st : List Sc} (h : Dt H v (idD nm pl st)) : ∃ p x2 x3, v = .ref p ∧ H p = some (.tup [.str "id", .str nm, x2, x3]) ∧ Dt H x2 (.tuple [.str "m", .int pl]) ∧ Dt H x3 (setD st) := by
  obtain ⟨p, xs, rfl, hp, h1⟩ := Dt.tupE h
  obtain ⟨x0, r0, rfl, h0, h1⟩ := h1.consE
  obtain ⟨x1, r1, rfl, h2, h1⟩ := h1.consE
  obtain ⟨x2, r2, rfl, h3, h1⟩ := h1.consE
  obtain ⟨x3, r3, rfl, h4, h1⟩ := h1.consE
  have e := h1.nilE
  subst e
  rw [h0.strE, h2.strE] at hp
  exact ⟨p, x2, x3, rfl, hp, h3, h4⟩
/-- the k-th row of a table -/
theorem TblAt.row {K : PySem.W.Frag} {H : Hp} {v : V} {bs : List Bd} {k : Nat} {b : Bd} (h : TblAt K H v bs) (e : bs[k]? = some b) : ∃ a xs p x2 x3, v = .ref a ∧ Sq K H a xs ∧ atI xs (k : Int) = some (.ref p) ∧ H p = some (.tup [.int b.ph, .str b.nm, x2, x3]) ∧ Dt H x2 (setD b.st) ∧ Dt H x3 (tgD b.tg) := by
  obtain ⟨a, xs, rfl, h1, h2⟩ := h
  obtain ⟨x, hx, hd⟩ := h2.at (i := k) (d := bdD b) (by rw [List.getElem?_map, e]; rfl)
  obtain ⟨p, x2, x3, rfl, hp, h3, h4⟩ := bdE hd
  exact ⟨a, xs, p, x2, x3, rfl, h1, atN hx, hp, h3, h4⟩
theorem tc {v : V} {σ : L2.St} {H : Hp} {Q : VK} (h : Q v H) : tC v σ H Q := h
theorem ixt {K : PySem.W.Frag} {H : Hp} {p : Addr} {xs : List V} {i : Int} {v : V} {Q : VK} (h : H p = some (.tup xs)) (e : atI xs i = some v) (q : Q v H) : rIxT K (.ref p) (.int i) H Q := ⟨p, xs, i, v, rfl, rfl, SqT.of h, e, q⟩
theorem ixl {K : PySem.W.Frag} {H : Hp} {p : Addr} {xs : List V} {i : Int} {v : V} {Q : VK} (h : H p = some (.lst xs)) (e : atI xs i = some v) (q : Q v H) : rIxL K (.ref p) (.int i) H Q := ⟨p, xs, i, v, rfl, rfl, SqL.of h, e, q⟩
section
variable {P : Program} {w : World} {K : PySem.W.Frag} {mg : Str → Option Value} {base : Heap}
def spInOne (K : PySem.W.Frag) : Sp := fun vs H Q _ => ∃ (v : V) (c : Addr) (i : Nat) (bs : List Bd) (os : List Nat), vs = [v, .int (i : Nat), .ref c] ∧ TblAt K H v bs ∧ H c = some (.lst (natV os)) ∧ i < bs.length ∧ (∀ o ∈ os, o < bs.length) ∧ Q (.bl (inOne (tab bs) i os)) H
theorem ok_is_in_one_of {f : Addr} {fd : FuncData} (F : Dfn K mg "_is_in_one_of" st__is_in_one_of f fd ["table", "at", "others"]) (M : Mg mg) (G_is_included : Cal P w K mg base 1 "_is_included" spIncl) : Cal P w K mg base 2 "_is_in_one_of" (spInOne K) := by
  refine cal_mk F sc_is_in_one_of (fun vs H Q E h => ?_) (fun cdv A outer s H vs Q E hr h => ?_)
  · obtain ⟨v, c, i, bs, os, rfl, _⟩ := h
    rfl
  obtain ⟨v, c, i, bs, os, rfl, hT, hc, hi, ho, q⟩ := h
  refine ⟨_, (pss_cons (ps_for PassesOwn.never rfl (pi_list (pv 2)) (pg_name (i := 3) sc_is_in_one_of.nd rfl (.inl rfl))
      (pss_one (ps_if (pt_val (pe_c G_is_included hr (by omega) (by rfl) (pa_cons (pe_ix (ixT K rfl) (pe_ix (ixQ K rfl) (pv 0) (pv 1) (fun _ _ => rfl)) pe_int (fun _ _ => rfl)) (pa_cons (pe_ix (ixT K rfl) (pe_ix (ixQ K rfl) (pv 0) (pv 3) (fun _ _ => rfl)) pe_int (fun _ _ => rfl)) pa_nil)))) (pss_one (ps_ret pe_bl)) pss_nil)))
      (pss_one (ps_ret pe_bl))), ?_⟩
  refine ⟨_, rfl, c, rfl, ⟨_, SqL.of hc⟩, for_list (K := K) (a := c) (xs := natV os) (fun j σ H2 => ∃ y, σ = [some v, some (.int (i : Nat)), some (.ref c), y] ∧ H2 = H ∧ inOne (tab bs) i (os.take j) = false)
    ⟨none, rfl, rfl, rfl⟩ (fun j σ H2 _ ⟨y, _, e, _⟩ => by rw [e]; exact SqL.of hc) ?_ ?_⟩
  · rintro j x σ H2 hj ⟨y, rfl, rfl, hp⟩
    obtain ⟨o, hoj, rfl⟩ := natV_get hj
    have hob := ho o (List.mem_of_getElem? hoj)
    have e1 := List.getElem?_eq_getElem hi
    have e2 := List.getElem?_eq_getElem hob
    obtain ⟨a, xs, p, x2, x3, rfl, hS, ha, hp1, hs1, _⟩ := hT.row e1
    obtain ⟨a', xs', p', y2, y3, ea, hS', ha', hp2, hs2, _⟩ := hT.row e2
    refine ⟨_, rfl, _, rfl, ixq hS ha (tc (ixt hp1 rfl ⟨_, rfl, _, rfl, ?_⟩))⟩
    cases ea
    refine ixq hS' ha' (tc (ixt hp2 rfl ⟨_, _, _, _, rfl, hs1, hs2, _, rfl, ?_⟩))
    have eI : inOne (tab bs) i (os.take (j + 1)) = (inOne (tab bs) i (os.take j) || incl bs[i].st bs[o].st) := by
      unfold inOne
      rw [List.take_add_one, hoj, List.any_append, tab_of e1]
      simp [tab_of e2]
    refine ite2 (fun c1 => ?_) (fun c1 => ?_)
    · have e : inOne (tab bs) i os = true := List.any_eq_true.mpr ⟨o, List.mem_of_getElem? hoj, by rw [tab_of e1, tab_of e2]; exact c1⟩
      rw [e] at q
      exact q
    · refine ⟨_, rfl, rfl, ?_⟩
      rw [eI, hp, Bool.false_or]
      exact Bool.eq_false_iff.mpr c1
  · rintro σ H2 ⟨y, rfl, rfl, hp⟩
    rw [natV_len, List.take_length] at hp
    rw [hp] at q
    exact q
/-! _greatest -/
theorem greedy_app (S : Nat → List Sc) : ∀ (l f : List Nat) (a : Nat), greedy S f (l ++ [a]) = if inOne S a (greedy S f l) = true then greedy S f l else greedy S f l ++ [a]
  | [], f, a => rfl
  | b :: l, f, a => greedy_app S l _ a
theorem greedy_mem (S : Nat → List Sc) : ∀ (l f : List Nat) (x : Nat), x ∈ greedy S f l → x ∈ f ∨ x ∈ l
  | [], f, x, h => .inl h
  | b :: l, f, x, h => by
    rcases greedy_mem S l _ x h with h | h
    · by_cases q : inOne S b f = true
      · rw [if_pos q] at h
        exact .inl h
      · rw [if_neg q] at h
        rcases List.mem_append.mp h with h | h
        · exact .inl h
        · exact .inr (by rw [List.mem_singleton.mp h]; exact List.mem_cons_self)
    · exact .inr (List.mem_cons_of_mem _ h)
theorem greedy_len (S : Nat → List Sc) : ∀ (l f : List Nat), (greedy S f l).length ≤ f.length + l.length
  | [], f => Nat.le_refl _
  | b :: l, f => by
    have h := greedy_len S l (if inOne S b f = true then f else f ++ [b])
    have h2 : (if inOne S b f = true then f else f ++ [b]).length ≤ f.length + 1 := by
      by_cases q : inOne S b f = true
      · rw [if_pos q]; omega
      · rw [if_neg q, List.length_append]; simp
    show (greedy S (if inOne S b f = true then f else f ++ [b]) l).length ≤ f.length + (l.length + 1)
    omega
def ordD (S : Nat → List Sc) (k : Nat) : PyData := .tuple [.int (-((S k).length : Int)), .int (k : Nat)]
def numD (k : Nat) : PyData := .int (k : Nat)
/-- what is asked of the candidates -/
structure Cand (bs : List Bd) (cs : List Nat) : Prop where
  asc : cs.Pairwise (fun (a b : Nat) => (a : Int) < (b : Int))
  lt : ∀ k ∈ cs, k < bs.length
  can : ∀ k ∈ cs, Canon (tab bs k)
  dif : ∀ a ∈ cs, ∀ b ∈ cs, a ≠ b → tab bs a ≠ tab bs b
  few : cs.length ≤ 100
def spGreatest (K : PySem.W.Frag) : Sp := fun vs H Q _ => ∃ (v : V) (c : Addr) (bs : List Bd) (cs : List Nat), vs = [v, .ref c] ∧ TblAt K H v bs ∧ H c = some (.lst (natV cs)) ∧ Cand bs cs ∧ ∀ l H', Same H H' → H' l = some (.lst (natV (cs.filter (isMax (tab bs) cs)))) → Q (.ref l) H'
theorem ok_greatest {f : Addr} {fd : FuncData} (F : Dfn K mg "_greatest" st__greatest f fd ["table", "candidates"]) (M : Mg mg) (G_is_in_one_of : Cal P w K mg base 2 "_is_in_one_of" (spInOne K)) : Cal P w K mg base 3 "_greatest" (spGreatest K) := by
  refine cal_mk F sc_greatest (fun vs H Q E h => ?_) (fun cdv A outer s H vs Q E hr h => ?_)
  · obtain ⟨v, c, bs, cs, rfl, _⟩ := h
    rfl
  obtain ⟨v, c, bs, cs, rfl, hT, hc, C, q⟩ := h
  refine ⟨_, (pss_cons (ps_set (i := 2) sc_greatest.nd rfl (.inl rfl) (pe_callB (cSort K rfl (units65 hr)) (by rfl) M.sorted b_sorted (pa_cons (pe_lc (own := [("at", 5)]) (g := gName 5) (by rfl) sc_greatest.nd (pi_list (pv 1)) (blkOk_by (own := [("at", 5)]) (N := ["table", "candidates", "order", "found", "_", "at"]) (sc := defScope st__greatest) (by decide +kernel)) (fun _ _ _ _ _ => (pg_name (i := 5) sc_greatest.nd rfl (.inl rfl))) (fun _ _ _ _ _ => pts_nil) (fun _ _ _ _ _ => (pe_tup (pa_cons (pe_un un_neg (pe_callB (cLen K rfl) (by rfl) M.len b_len (pa_cons (pe_ix (ixT K rfl) (pe_ix (ixQ K rfl) (pv 0) (pv 5) (fun _ _ => rfl)) pe_int (fun _ _ => rfl)) pa_nil))) (pa_cons (pv 5) pa_nil))))) pa_nil)))
      (pss_cons (ps_set (i := 3) sc_greatest.nd rfl (.inl rfl) (pe_lst pa_nil))
      (pss_cons (ps_for PassesOwn.never rfl (pi_list (pv 2)) (pg_tup rfl (pgs_cons (pg_name (i := 4) sc_greatest.nd rfl (.inl rfl)) (pgs_cons (pg_name (i := 5) sc_greatest.nd rfl (.inl rfl)) pgs_nil)))
      (pss_one (ps_if (pt_not (pt_val (pe_c G_is_in_one_of hr (by omega) (by rfl) (pa_cons (pv 0) (pa_cons (pv 5) (pa_cons (pv 3) pa_nil)))))) (pss_one (ps_expr (pe_bm PySem.F.plainAttrs_list PySem.F.slot_list_append PySem.F.type_list_append mt_append (pv 3) (pa_cons (pv 5) pa_nil)))) pss_nil)))
      (pss_one (ps_ret (pe_callB (cSort K rfl (units65 hr)) (by rfl) M.sorted b_sorted (pa_cons (pv 3) pa_nil))))))), ?_⟩
  -- the list of pairs
  refine ⟨_, rfl, c, rfl, ⟨_, SqL.of hc⟩, fun D nD => ?_⟩
  refine lc_list (K := K) (a := c) (xs := natV cs) (fun i H' => ∃ ys, H' D = some (.lst ys) ∧ Same H H' ∧ DtAll H' ys ((cs.take i).map (ordD (tab bs))) ∧ ys.length = i)
    ⟨[], upd_same, same_upd nD, .nil, rfl⟩ (fun i H' _ ⟨ys, _, e, _⟩ => e.seq (SqL.of hc)) ?_ ?_
  · rintro i x H' hi ⟨ys, hD, hs, hy, hl⟩
    obtain ⟨k, hk, rfl⟩ := natV_get hi
    have hkb := C.lt k (List.mem_of_getElem? hk)
    have e1 := List.getElem?_eq_getElem hkb
    obtain ⟨a, xs, p, x2, x3, rfl, hS, ha, hp1, hs1, _⟩ := (hT.same hs).row e1
    obtain ⟨p2, zs, rfl, hp2, hz⟩ := hs1.tupE
    refine ⟨rfl, ?_⟩
    unfold tYes
    refine iteT ⟨_, rfl, _, rfl, ixq hS ha (tc (ixt hp1 rfl ⟨p2, zs, rfl, .inr (SqT.of hp2), _, rfl, _, rfl, (by show 2 ≤ sizeLine; decide), fun t nt => ?_⟩))⟩
    have ntD : D ≠ t := ne_of_none hD nt
    have hcl := (List.getElem?_eq_some_iff.mp hk).1
    refine ⟨ys, by rw [upd_ne ntD]; exact hD, small1000 (by have := C.few; omega), ys ++ [.ref t], upd_same, fun b o e => ?_, ?_, by rw [List.length_append, hl]; rfl⟩
    · have e2 := hs b o e
      rw [upd_ne (ne_of_none e nD), upd_ne (ne_of_none e2 nt)]
      exact e2
    · have k1 : Tk H' (upd (upd H' t (.tup [.int (-(zs.length : Int)), .int (k : Nat)])) D (.lst (ys ++ [.ref t]))) := (Tk.new nt).trans (Tk.upd fun xs z => by rw [upd_ne ntD, hD] at z; cases z)
      rw [List.take_add_one, hk, List.map_append]
      have ezs : zs.length = (tab bs k).length := by
        rw [hz.len, List.length_map, tab_of e1]
      refine (hy.tk k1).app (.one (.tup (xs := [.int (-(zs.length : Int)), .int (k : Nat)]) (by rw [upd_ne ntD.symm, upd_same]) ?_))
      rw [ezs]
      exact .cons (.int _) (.cons (.int _) .nil)
  · rintro H1 ⟨ys, hD, hs, hy, hl⟩
    rw [natV_len, List.take_length] at hy
    have few := C.few
    refine ⟨D, ys, _, rfl, SqL.of hD, hy.dp, PySem.W.AllAlike.of fun a b => by simp [ordD, PySem.W.alike, PySem.W.alikeAll], PySem.W.Sortable.tuples fun b => ⟨_, _, rfl⟩, fun d hd => ?_, fun l nl => ?_⟩
    · obtain ⟨k, _, rfl⟩ := List.mem_map.mp hd
      simp [ordD, PyData.depth, PyData.depthAll]
    -- found = []
    refine ⟨Nat.zero_le _, fun fd nfd => ?_⟩
    have hso := sorted_enc (f := ordD (tab bs)) hy
    generalize hzs : ((ys.zip (cs.map (ordD (tab bs)))).mergeSort (PySem.W.dataLe false Prod.snd)).map Prod.fst = zs at hso nfd ⊢
    generalize ho : cs.mergeSort (PySem.W.dataLe false (ordD (tab bs))) = o at hso
    have hop : o.Perm cs := by rw [← ho]; exact List.mergeSort_perm _ _
    have nlD : D ≠ l := ne_of_none hD nl
    have nlf : l ≠ fd := ne_of_none upd_same nfd
    have s2 : Same H1 (upd H1 l (.lst zs)) := same_upd nl
    have s3 : ∀ u, Same (upd H1 l (.lst zs)) (upd (upd H1 l (.lst zs)) fd u) := fun u => same_upd nfd
    have hzl : zs.length = o.length := by
      have := hso.len
      rwa [List.length_map] at this
    have hol : o.length = cs.length := hop.length_eq
    -- for _, at in order
    refine ⟨_, rfl, l, rfl, ⟨_, SqL.of (s3 _ _ _ upd_same)⟩, for_list (K := K) (a := l) (xs := zs) (fun j σ H2 => ∃ y4 y5, σ = [some v, some (.ref c), some (.ref l), some (.ref fd), y4, y5] ∧ H2 = upd (upd H1 l (.lst zs)) fd (.lst (natV (greedy (tab bs) [] (o.take j)))))
      ⟨none, none, rfl, rfl⟩ (fun j σ H2 _ ⟨y4, y5, _, e⟩ => by rw [e]; exact SqL.of (s3 _ _ _ upd_same)) ?_ ?_⟩
    · rintro j x σ H2 hj ⟨y4, y5, rfl, rfl⟩
      obtain ⟨k, hk, hd⟩ := hso.get_map hj
      have kcs : k ∈ cs := hop.mem_iff.mp (List.mem_of_getElem? hk)
      have hd2 := (hd.tk (same_tk s2)).tk (same_tk (s3 (.lst (natV (greedy (tab bs) [] (o.take j))))))
      obtain ⟨p, xs, rfl, hp, h1⟩ := hd2.tupE
      obtain ⟨x0, r0, rfl, h0, h1⟩ := h1.consE
      obtain ⟨x1, r1, rfl, h2, h1⟩ := h1.consE
      have e := h1.nilE
      subst e
      have e2 := h2.intE
      subst e2
      have hT2 := (((hT.same hs).same s2).same (s3 (.lst (natV (greedy (tab bs) [] (o.take j))))))
      refine ⟨p, _, rfl, SqT.of hp, rfl, _, _, rfl, _, _, rfl, rfl, ?_⟩
      refine ⟨_, rfl, _, rfl, _, rfl, v, fd, k, bs, _, rfl, hT2, upd_same, C.lt k kcs, fun x hx => ?_, _, rfl, ?_⟩
      · rcases greedy_mem _ _ _ _ hx with h | h
        · cases h
        · exact C.lt x (hop.mem_iff.mp (List.mem_of_mem_take h))
      · have eg : greedy (tab bs) [] (o.take (j + 1)) = if inOne (tab bs) k (greedy (tab bs) [] (o.take j)) = true then greedy (tab bs) [] (o.take j) else greedy (tab bs) [] (o.take j) ++ [k] := by
          rw [List.take_add_one, hk]
          exact greedy_app _ _ _ _
        cases hin : inOne (tab bs) k (greedy (tab bs) [] (o.take j)) with
        | true =>
          refine iteF ⟨_, _, rfl, ?_⟩
          rw [eg, hin, if_pos rfl]
        | false =>
          refine iteT ⟨_, rfl, .inl ⟨rfl, _, SqL.of upd_same⟩, _, rfl, fd, _, _, rfl, rfl, upd_same, ?_, ?_⟩
          · rw [natV_len]
            have h3 := greedy_len (tab bs) (o.take j) []
            rw [List.length_take] at h3
            exact small1000 (by simp at h3; omega)
          · refine ⟨_, _, rfl, ?_⟩
            rw [upd_upd, eg, hin, if_neg Bool.false_ne_true, natV_app]
            rfl
    · rintro σ H2 ⟨y4, y5, rfl, rfl⟩
      rw [hzl, List.take_length]
      refine ⟨_, rfl, fd, _, (greedy (tab bs) [] o).map numD, rfl, SqL.of upd_same, (nat_dt _ _).dp, PySem.W.AllAlike.of fun a b => by simp [numD, PySem.W.alike], PySem.W.Sortable.others (enc := numD) fun b => ⟨fun z => by simp [numD] at z, fun xs z => by simp [numD] at z⟩, fun d hd => ?_, fun r nr => ?_⟩
      · obtain ⟨k, _, rfl⟩ := List.mem_map.mp hd
        simp [numD, PyData.depth]
      · have hs3 : DtAll (upd (upd H1 l (.lst zs)) fd (.lst (natV (greedy (tab bs) [] o)))) (natV (greedy (tab bs) [] o)) ((greedy (tab bs) [] o).map numD) := nat_dt _ _
        have e3 : (((natV (greedy (tab bs) [] o)).zip ((greedy (tab bs) [] o).map numD)).mergeSort (PySem.W.dataLe false Prod.snd)).map Prod.fst = natV ((greedy (tab bs) [] o).mergeSort (PySem.W.dataLe false numD)) := dt_nat (sorted_enc (f := numD) hs3)
        have e4 : (greedy (tab bs) [] o).mergeSort (PySem.W.dataLe false numD) = cs.filter (isMax (tab bs) cs) := by
          refine greatest_eq (tab bs) C.asc hop C.can C.dif ?_ (List.mergeSort_perm _ _) ?_
          · have h5 := PySem.W.sort_pairwise (le := PySem.W.dataLe false (ordD (tab bs))) (PySem.W.sortLe_total _ false _) cs
            rw [ho] at h5
            refine h5.imp fun {a b} h => ?_
            have e7 : PySem.W.dataLe false (ordD (tab bs)) = fun p q => decide (-((tab bs p).length : Int) < -((tab bs q).length : Int) ∨ (-((tab bs p).length : Int) = -((tab bs q).length : Int) ∧ (p : Int) ≤ (q : Int))) := PySem.W.dataLe_ii (fun k => -((tab bs k).length : Int)) (fun k : Nat => (k : Int))
            rw [e7] at h
            have h' := of_decide_eq_true h
            omega
          · have h5 := PySem.W.sort_pairwise (le := PySem.W.dataLe false numD) (PySem.W.sortLe_total _ false _) (greedy (tab bs) [] o)
            refine h5.imp fun {a b} h => ?_
            have e7 : PySem.W.dataLe false numD = fun p q : Nat => decide ((p : Int) ≤ (q : Int)) := PySem.W.dataLe_int (fun k : Nat => (k : Int))
            rw [e7] at h
            exact of_decide_eq_true h
        refine q r _ ?_ (by rw [upd_same, e3, e4])
        intro b u e
        have e5 := s3 (.lst (natV (greedy (tab bs) [] o))) b u (s2 b u (hs b u e))
        rw [upd_ne (ne_of_none e5 nr)]
        exact e5
end
end W6
set_option Elab.async false
set_option linter.all false
set_option maxRecDepth 100000
set_option maxHeartbeats 4000000
namespace W6
open PySem PySem.Spec PyProof.Rows L2 Com EnumT
/-! outcomes -/
def pIn (bs : List Bd) (nm : Str) (sc : List Sc) (k : Nat) : Bool := match bs[k]? with
  | some b => decide (b.nm = nm) && incl b.st sc
  | none => false
def pPh (bs : List Bd) (ph : Int) (k : Nat) : Bool := match bs[k]? with
  | some b => decide (b.ph = ph)
  | none => false
def insAt (bs : List Bd) (nm : Str) (sc : List Sc) (n : Nat) : List Nat := (List.range n).filter (pIn bs nm sc)
def hereAt (bs : List Bd) (ph : Int) (nm : Str) (sc : List Sc) (n : Nat) : List Nat := (insAt bs nm sc n).filter (pPh bs ph)
inductive Out where
  | bound (k : Nat) | amb (j k : Nat) | phase | unb
  deriving DecidableEq
def outD : Out → PyData
  | .bound k => .tuple [.str "bound", .int (k : Nat)]
  | .amb j k => .tuple [.str "ambiguous", .int (j : Nat), .int (k : Nat)]
  | .phase => .tuple [.str "phase"]
  | .unb => .tuple [.str "unbound"]
def outOf (e : Bool) : List Nat → Out
  | [] => if e = true then .phase else .unb
  | [a] => .bound a
  | a :: b :: _ => .amb a b
def outcome (bs : List Bd) (ph : Int) (nm : Str) (sc : List Sc) : Out :=
  outOf (!(insAt bs nm sc bs.length).isEmpty) ((hereAt bs ph nm sc bs.length).filter (isMax (tab bs) (hereAt bs ph nm sc bs.length)))
/-- what is asked of a table -/
structure Wf (bs : List Bd) : Prop where
  few : bs.length ≤ 14
  can : ∀ b ∈ bs, Canon b.st ∧ b.st.length ≤ 6
  dif : ∀ i j (hi : i < bs.length) (hj : j < bs.length), i ≠ j → ¬ (bs[i].ph = bs[j].ph ∧ bs[i].nm = bs[j].nm ∧ bs[i].st = bs[j].st)
theorem filter1 {α : Type} (p : α → Bool) (a : α) : [a].filter p = if p a = true then [a] else [] := by
  cases h : p a <;> simp [h]
theorem insAt_succ (bs : List Bd) (nm : Str) (sc : List Sc) (n : Nat) : insAt bs nm sc (n + 1) = insAt bs nm sc n ++ if pIn bs nm sc n = true then [n] else [] := by
  unfold insAt
  rw [List.range_succ, List.filter_append, filter1]
theorem hereAt_succ (bs : List Bd) (ph : Int) (nm : Str) (sc : List Sc) (n : Nat) : hereAt bs ph nm sc (n + 1) = hereAt bs ph nm sc n ++ if (pIn bs nm sc n && pPh bs ph n) = true then [n] else [] := by
  unfold hereAt
  rw [insAt_succ, List.filter_append]
  cases h : pIn bs nm sc n with
  | true => simp [h, filter1, List.filter]
  | false => simp [h]
theorem mem_here {bs : List Bd} {ph : Int} {nm : Str} {sc : List Sc} {n k : Nat} (h : k ∈ hereAt bs ph nm sc n) : k < n ∧ ∃ b, bs[k]? = some b ∧ b.nm = nm ∧ b.ph = ph ∧ incl b.st sc = true := by
  unfold hereAt insAt at h
  rw [List.mem_filter, List.mem_filter, List.mem_range] at h
  obtain ⟨⟨h1, h2⟩, h3⟩ := h
  unfold pIn at h2
  unfold pPh at h3
  cases e : bs[k]? with
  | none => rw [e] at h2; cases h2
  | some b =>
    rw [e] at h2 h3
    simp only [Bool.and_eq_true, decide_eq_true_eq] at h2 h3
    exact ⟨h1, b, rfl, h2.1, h3, h2.2⟩
theorem cand_here {bs : List Bd} (W : Wf bs) (ph : Int) (nm : Str) (sc : List Sc) : Cand bs (hereAt bs ph nm sc bs.length) where
  asc := by
    refine List.Pairwise.filter _ (List.Pairwise.filter _ ?_)
    exact List.Pairwise.imp (fun {a b} h => by omega) (List.pairwise_lt_range (n := bs.length))
  lt := fun k h => (mem_here h).1
  can := fun k h => by
    obtain ⟨_, b, e, _⟩ := mem_here h
    rw [tab_of e]
    exact (W.can b (List.mem_of_getElem? e)).1
  dif := fun a ha b hb ne e => by
    obtain ⟨la, ba, ea, h1, h2, _⟩ := mem_here ha
    obtain ⟨lb, bb, eb, h3, h4, _⟩ := mem_here hb
    rw [tab_of ea, tab_of eb] at e
    have ea' : bs[a] = ba := Option.some.inj ((List.getElem?_eq_getElem la).symm.trans ea)
    have eb' : bs[b] = bb := Option.some.inj ((List.getElem?_eq_getElem lb).symm.trans eb)
    exact W.dif a b la lb ne ⟨by rw [ea', eb', h2, h4], by rw [ea', eb', h1, h3], by rw [ea', eb', e]⟩
  few := by
    have h1 := List.length_filter_le (pPh bs ph) (insAt bs nm sc bs.length)
    have h2 := List.length_filter_le (pIn bs nm sc) (List.range bs.length)
    rw [List.length_range] at h2
    have := W.few
    unfold hereAt insAt at *
    omega
theorem great_some {bs : List Bd} {cs : List Nat} (C : Cand bs cs) (h : cs ≠ []) : cs.filter (isMax (tab bs) cs) ≠ [] := by
  have hop : (cs.mergeSort (PySem.W.dataLe false (ordD (tab bs)))).Perm cs := List.mergeSort_perm _ _
  have e4 : (greedy (tab bs) [] (cs.mergeSort (PySem.W.dataLe false (ordD (tab bs))))).mergeSort (PySem.W.dataLe false numD) = cs.filter (isMax (tab bs) cs) := by
    refine greatest_eq (tab bs) C.asc hop C.can C.dif ?_ (List.mergeSort_perm _ _) ?_
    · have h5 := PySem.W.sort_pairwise (le := PySem.W.dataLe false (ordD (tab bs))) (PySem.W.sortLe_total _ false _) cs
      refine h5.imp fun {a b} h => ?_
      have e7 : PySem.W.dataLe false (ordD (tab bs)) = fun p q => decide (-((tab bs p).length : Int) < -((tab bs q).length : Int) ∨ (-((tab bs p).length : Int) = -((tab bs q).length : Int) ∧ (p : Int) ≤ (q : Int))) := PySem.W.dataLe_ii (fun k => -((tab bs k).length : Int)) (fun k : Nat => (k : Int))
      rw [e7] at h
      have h' := of_decide_eq_true h
      omega
    · have h5 := PySem.W.sort_pairwise (le := PySem.W.dataLe false numD) (PySem.W.sortLe_total _ false _) (greedy (tab bs) [] (cs.mergeSort (PySem.W.dataLe false (ordD (tab bs)))))
      refine h5.imp fun {a b} h => ?_
      have e7 : PySem.W.dataLe false numD = fun p q : Nat => decide ((p : Int) ≤ (q : Int)) := PySem.W.dataLe_int (fun k : Nat => (k : Int))
      rw [e7] at h
      exact of_decide_eq_true h
  rw [← e4]
  intro z
  have h1 : (greedy (tab bs) [] (cs.mergeSort (PySem.W.dataLe false (ordD (tab bs))))).length = 0 := by
    rw [← List.length_mergeSort (le := PySem.W.dataLe false numD), z]
    rfl
  have h2 := List.eq_nil_of_length_eq_zero h1
  cases ho : cs.mergeSort (PySem.W.dataLe false (ordD (tab bs))) with
  | nil =>
    have h3 := hop.length_eq
    rw [ho] at h3
    exact h (List.eq_nil_of_length_eq_zero h3.symm)
  | cons a r =>
    rw [ho] at h2
    exact greedy_some _ h2
/-- where no greatest one stands, no candidate stands, and what is elsewhere is what is inside -/
theorem none_here {bs : List Bd} (W : Wf bs) {ph : Int} {nm : Str} {sc : List Sc} (h : (hereAt bs ph nm sc bs.length).filter (isMax (tab bs) (hereAt bs ph nm sc bs.length)) = []) :
    hereAt bs ph nm sc bs.length = [] ∧ (insAt bs nm sc bs.length).any (fun k => !pPh bs ph k) = !(insAt bs nm sc bs.length).isEmpty := by
  have h1 : hereAt bs ph nm sc bs.length = [] := Decidable.byContradiction fun z => great_some (cand_here W ph nm sc) z h
  refine ⟨h1, ?_⟩
  unfold hereAt at h1
  rw [List.filter_eq_nil_iff] at h1
  cases e : insAt bs nm sc bs.length with
  | nil => rfl
  | cons a r =>
    rw [e] at h1
    have := h1 a List.mem_cons_self
    simp [this]
section
variable {P : Program} {w : World} {K : PySem.W.Frag} {mg : Str → Option Value} {base : Heap}
def spResolve (K : PySem.W.Frag) : Sp := fun vs H Q _ => ∃ (v u : V) (bs : List Bd) (ph : Int) (nm : Str) (pl : Int) (sc : List Sc), vs = [v, .int ph, u] ∧ TblAt K H v bs ∧ Wf bs ∧ Dt H u (idD nm pl sc) ∧
  ∀ r H', Same H H' → Dt H' r (outD (outcome bs ph nm sc)) → Q r H'
theorem ok_resolve {f : Addr} {fd : FuncData} (F : Dfn K mg "resolve" st_resolve f fd ["table", "phase", "identifier"]) (M : Mg mg) (G_is_included : Cal P w K mg base 1 "_is_included" spIncl) (G_greatest : Cal P w K mg base 3 "_greatest" (spGreatest K)) : Cal P w K mg base 4 "resolve" (spResolve K) := by
  refine cal_mk F scresolve (fun vs H Q E h => ?_) (fun cdv A outer s H vs Q E hr h => ?_)
  · obtain ⟨v, u, bs, ph, nm, pl, sc, rfl, _⟩ := h
    rfl
  obtain ⟨v, u, bs, ph, nm, pl, sc, rfl, hT, W, hu', q⟩ := h
  obtain ⟨ip, y2, y3, rfl, hip, _, hsc⟩ := idE hu'
  refine ⟨_, (pss_cons (ps_par (i := 3) (j := 4) (by rfl) scresolve.nd rfl rfl (by decide) rfl rfl (pa_cons (pe_ix (ixT K rfl) (pv 2) pe_int (fun _ _ => rfl)) (pa_cons (pe_ix (ixT K rfl) (pv 2) pe_int (fun _ _ => rfl)) pa_nil)) (by rfl))
      (pss_cons (ps_set (i := 5) scresolve.nd rfl (.inl rfl) (pe_lst pa_nil))
      (pss_cons (ps_set (i := 6) scresolve.nd rfl (.inl rfl) pe_bl)
      (pss_cons (ps_for PassesOwn.never rfl (EnumT.pi_enumQ (by rfl) M.enumerate (pa_cons (pv 0) pa_nil)) (pg_tup rfl (pgs_cons (pg_name (i := 7) scresolve.nd rfl (.inl rfl)) (pgs_cons (pg_name (i := 8) scresolve.nd rfl (.inl rfl)) pgs_nil)))
      (pss_one (ps_if (PW.pt (pw_and (pt_cmpR op_eq (pe_ix (ixT K rfl) (pv 8) pe_int (fun _ _ => rfl)) (pv 3) (nomark _)) (pw_and1 (pt_val (pe_c G_is_included hr (by omega) (by rfl) (pa_cons (pe_ix (ixT K rfl) (pv 8) pe_int (fun _ _ => rfl)) (pa_cons (pv 4) pa_nil))))))) (pss_one (ps_if (pt_cmpR op_eq (pe_ix (ixT K rfl) (pv 8) pe_int (fun _ _ => rfl)) (pv 1) (nomark _)) (pss_one (ps_expr (pe_bm PySem.F.plainAttrs_list PySem.F.slot_list_append PySem.F.type_list_append mt_append (pv 5) (pa_cons (pv 7) pa_nil)))) (pss_one (ps_set (i := 6) scresolve.nd rfl (.inl rfl) pe_bl)))) pss_nil)))
      (pss_cons (ps_set (i := 9) scresolve.nd rfl (.inl rfl) (pe_c G_greatest hr (by omega) (by rfl) (pa_cons (pv 0) (pa_cons (pv 5) pa_nil))))
      (pss_cons (ps_if (pt_cmpR op_eq (pe_callB (cLen K rfl) (by rfl) M.len b_len (pa_cons (pv 9) pa_nil)) pe_int (nomark _)) (pss_one (ps_ret (pe_tup (pa_cons pe_str (pa_cons (pe_ix (ixL K rfl) (pv 9) pe_int (fun _ _ => rfl)) pa_nil))))) pss_nil)
      (pss_cons (ps_if (pt_truth (pv 9) (by intro _; rfl)) (pss_one (ps_ret (pe_tup (pa_cons pe_str (pa_cons (pe_ix (ixL K rfl) (pv 9) pe_int (fun _ _ => rfl)) (pa_cons (pe_ix (ixL K rfl) (pv 9) pe_int (fun _ _ => rfl)) pa_nil)))))) pss_nil)
      (pss_one (ps_ret (pe_ifExp (pt_val (pv 6)) (pe_tup (pa_cons pe_str pa_nil)) (pe_tup (pa_cons pe_str pa_nil)))))))))))), ?_⟩
  -- name, scopes = ..
  refine ⟨_, rfl, tc (ixt hip rfl ⟨_, rfl, tc (ixt hip rfl ⟨_, _, rfl, ?_⟩)⟩)⟩
  -- candidates = []; is_elsewhere = False
  refine ⟨Nat.zero_le _, fun c nc => ?_⟩
  have k0 : ∀ o, Same H (upd H c o) := fun o => same_upd nc
  obtain ⟨a, xs, rfl, hS, hx⟩ := id hT
  have few := W.few
  have hxl : xs.length = bs.length := by rw [hx.len, List.length_map]
  refine ⟨_, rfl, a, xs, rfl, for_enumQ hS (k0 _) (fun i σ H2 => ∃ y7 y8 e, σ = [some (.ref a), some (.int ph), some (.ref ip), some (.str nm), some y3, some (.ref c), some (.bl e), y7, y8, none] ∧ Same H H2 ∧ H2 c = some (.lst (natV (hereAt bs ph nm sc i))) ∧ e = (insAt bs nm sc i).any (fun k => !pPh bs ph k))
    ⟨none, none, false, rfl, k0 _, upd_same, rfl⟩ (fun i σ H2 ⟨_, _, _, _, h, _⟩ => h) ?_ ?_⟩
  · rintro i x σ H2 T hi ⟨y7, y8, e, rfl, hs, hc, he⟩ nT
    obtain ⟨b, hb, hd⟩ := hx.get_map hi
    have sT : Same H2 (upd H2 T (.tup [.int (i : Nat), x])) := same_upd nT
    have ncT : c ≠ T := ne_of_none hc nT
    have hs3 := Same.trans hs sT
    obtain ⟨p, x2, x3, rfl, hp, hbs, _⟩ := bdE (hd.tk (same_tk hs3))
    have epi : pIn bs nm sc i = (decide (b.nm = nm) && incl b.st sc) := by unfold pIn; rw [hb]
    have epp : pPh bs ph i = decide (b.ph = ph) := by unfold pPh; rw [hb]
    have keep : ∀ (ha : pIn bs nm sc i = false), (∃ y7 y8 e', [some (V.ref a), some (V.int ph), some (V.ref ip), some (V.str nm), some y3, some (V.ref c), some (V.bl e), some (V.int (i : Nat)), some (V.ref p), none] = [some (V.ref a), some (V.int ph), some (V.ref ip), some (V.str nm), some y3, some (V.ref c), some (V.bl e'), y7, y8, none] ∧ Same H (upd H2 T (.tup [.int (i : Nat), .ref p])) ∧ (upd H2 T (.tup [.int (i : Nat), .ref p])) c = some (.lst (natV (hereAt bs ph nm sc (i + 1)))) ∧ e' = (insAt bs nm sc (i + 1)).any (fun k => !pPh bs ph k)) := fun ha => by
      refine ⟨_, _, e, rfl, hs3, ?_, ?_⟩
      · rw [upd_ne ncT, hc, hereAt_succ, ha]
        simp
      · rw [insAt_succ, ha, he]
        simp
    refine ⟨T, _, rfl, SqT.of upd_same, rfl, _, _, rfl, _, _, rfl, rfl, ?_⟩
    refine ⟨_, rfl, tc (ixt hp rfl ⟨_, rfl, rfl, _, rfl, ite2 (fun c1 => ?_) (fun c1 => ?_)⟩)⟩
    · have en : b.nm = nm := V.str.inj (of_decide_eq_true c1)
      refine ⟨_, rfl, tc (ixt hp rfl ⟨_, rfl, _, _, _, _, rfl, hbs, hsc.tk (same_tk hs3), _, rfl, ite2 (fun c2 => ?_) (fun c2 => ?_)⟩)⟩
      · have ha : pIn bs nm sc i = true := by rw [epi, en, c2, decide_eq_true rfl]; rfl
        refine ⟨_, rfl, tc (ixt hp rfl ⟨_, rfl, rfl, _, rfl, ite2 (fun c3 => ?_) (fun c3 => ?_)⟩)⟩
        · have eph : b.ph = ph := V.int.inj (of_decide_eq_true c3)
          have hpp : pPh bs ph i = true := by rw [epp, eph, decide_eq_true rfl]
          have hc3 : (upd H2 T (.tup [.int (i : Nat), .ref p])) c = some (.lst (natV (hereAt bs ph nm sc i))) := by rw [upd_ne ncT]; exact hc
          have hlen : (natV (hereAt bs ph nm sc i)).length ≤ 14 := by
            rw [natV_len]
            have h1 := List.length_filter_le (pPh bs ph) (insAt bs nm sc i)
            have h2 := List.length_filter_le (pIn bs nm sc) (List.range i)
            rw [List.length_range] at h2
            have h3 := (List.getElem?_eq_some_iff.mp hb).1
            unfold hereAt insAt at *
            omega
          refine ⟨_, rfl, .inl ⟨rfl, _, SqL.of hc3⟩, _, rfl, c, _, _, rfl, rfl, hc3, small1000 (by omega), ?_⟩
          refine ⟨_, _, e, rfl, fun b' o e' => ?_, ?_, ?_⟩
          · rw [upd_ne (ne_of_none e' nc)]
            exact hs3 _ _ e'
          · rw [upd_same, hereAt_succ, ha, hpp, natV_app]
            rfl
          · rw [insAt_succ, ha, he, List.any_append]
            simp [hpp]
        · have hpp : pPh bs ph i = false := by
            rw [epp]
            exact decide_eq_false fun z => c3 (decide_eq_true (by rw [z]))
          refine ⟨_, _, true, rfl, hs3, ?_, ?_⟩
          · rw [upd_ne ncT, hc, hereAt_succ, ha, hpp]
            simp
          · rw [insAt_succ, ha, List.any_append]
            simp [hpp]
      · exact keep (by rw [epi, Bool.eq_false_iff.mpr c2, Bool.and_false])
    · have en : ¬ b.nm = nm := fun z => c1 (decide_eq_true (by rw [z]))
      exact iteF (keep (by rw [epi, decide_eq_false en, Bool.false_and]))
  · rintro σ H2 ⟨y7, y8, e, rfl, hs, hc, he⟩
    rw [hxl] at hc he
    refine ⟨_, rfl, _, rfl, _, c, bs, _, rfl, hT.same hs, hc, cand_here W ph nm sc, fun l H3 s3 hl => ?_⟩
    have eO : outcome bs ph nm sc = outOf (!(insAt bs nm sc bs.length).isEmpty) ((hereAt bs ph nm sc bs.length).filter (isMax (tab bs) (hereAt bs ph nm sc bs.length))) := rfl
    generalize hg : (hereAt bs ph nm sc bs.length).filter (isMax (tab bs) (hereAt bs ph nm sc bs.length)) = g at hl eO
    refine ⟨_, rfl, l, _, rfl, .inl (SqL.of hl), rfl, _, rfl, ite2 (fun c1 => ?_) (fun c1 => ?_)⟩
    · have h1 : ((natV g).length : Int) = 1 := V.int.inj (of_decide_eq_true c1)
      rw [natV_len] at h1
      obtain ⟨k, rfl⟩ : ∃ k, g = [k] := List.length_eq_one_iff.mp (by omega)
      refine ⟨_, rfl, tc (ixl hl rfl ⟨by show 2 ≤ sizeLine; decide, fun t nt => ?_⟩)⟩
      refine q _ _ (Same.trans hs (Same.trans s3 (same_upd nt))) ?_
      rw [eO]
      exact .tup upd_same (.cons (.str _) (.cons (.int _) .nil))
    · have h1 : g.length ≠ 1 := fun z => c1 (decide_eq_true (by rw [natV_len, z]; rfl))
      refine ⟨_, rfl, _, .inl ⟨_, SqL.of hl, rfl⟩, ?_⟩
      cases g with
      | nil =>
        obtain ⟨h2, h3⟩ := none_here W hg
        rw [h3] at he
        subst he
        refine iteF ⟨_, rfl, _, rfl, ?_⟩
        cases hb : (insAt bs nm sc bs.length).isEmpty with
        | true =>
          rw [hb] at eO
          refine iteF ⟨by show 1 ≤ sizeLine; decide, fun t nt => q _ _ (Same.trans hs (Same.trans s3 (same_upd nt))) ?_⟩
          rw [eO]
          exact .tup upd_same (.cons (.str _) .nil)
        | false =>
          rw [hb] at eO
          refine iteT ⟨by show 1 ≤ sizeLine; decide, fun t nt => q _ _ (Same.trans hs (Same.trans s3 (same_upd nt))) ?_⟩
          rw [eO]
          exact .tup upd_same (.cons (.str _) .nil)
      | cons a r =>
        cases r with
        | nil => exact absurd rfl h1
        | cons b r =>
          refine iteT ⟨_, rfl, tc (ixl hl (atI_nat (j := 0) rfl) ⟨_, rfl, tc (ixl hl (atI_nat (j := 1) rfl) ⟨by show 3 ≤ sizeLine; decide, fun t nt => ?_⟩)⟩)⟩
          refine q _ _ (Same.trans hs (Same.trans s3 (same_upd nt))) ?_
          rw [eO]
          exact .tup upd_same (.cons (.str _) (.cons (.int _) (.cons (.int _) .nil)))
end
end W6
set_option Elab.async false
set_option linter.all false
set_option maxRecDepth 100000
set_option maxHeartbeats 4000000
namespace W6
open PySem PySem.Spec PyProof.Rows L2 Com EnumT
theorem pl_num (k : Nat) : pl (numD k) = true := by simp [numD, pl]
theorem sh_nums (cs : List Nat) : SeqAt.shaped (.list (cs.map numD)) = true := by
  refine shp (by simp only [PyData.canLay0]; exact layAll_map (fun k => by simp [numD, PyData.canLay0]) cs) ?_
  have := depAll_map (f := numD) (n := 0) (fun k => by simp [numD, PyData.depth]) cs
  simp only [PyData.depth]
  omega
theorem nums_nil (cs : List Nat) : PyData.eqv (.list (cs.map numD)) (.list []) = cs.isEmpty := by
  rw [Bool.eq_iff_iff, eqv_pl _ _ (by simp only [pl]; exact plAll_map pl_num cs) (by simp [pl, plAll])]
  simp
theorem eq_nil {K : PySem.W.Frag} {H : Hp} {a b : Addr} {cs : List Nat} {Q : VK} (ha : H a = some (.lst (natV cs))) (hb : H b = some (.lst [])) (q : Q (.bl cs.isEmpty) H) : rEqD K (.ref a) (.ref b) H Q :=
  ⟨.list (cs.map numD), .list [], .lst (SqL.of ha) (nat_dt H cs).dp, .lst (SqL.of hb) .nil, sh_nums cs, by decide +kernel, by rw [nums_nil]; exact q⟩
theorem ne_nil {K : PySem.W.Frag} {H : Hp} {a b : Addr} {cs : List Nat} {Q : VK} (ha : H a = some (.lst (natV cs))) (hb : H b = some (.lst [])) (q : Q (.bl (!cs.isEmpty)) H) : rNeD K (.ref a) (.ref b) H Q :=
  ⟨.list (cs.map numD), .list [], .lst (SqL.of ha) (nat_dt H cs).dp, .lst (SqL.of hb) .nil, sh_nums cs, by decide +kernel, by rw [nums_nil]; exact q⟩
section
variable {P : Program} {w : World} {K : PySem.W.Frag} {mg : Str → Option Value} {base : Heap}
theorem ok_law_outcome {f : Addr} {fd : FuncData} (F : Dfn K mg "_law_outcome" st__law_outcome f fd ["table", "phase", "identifier"]) (M : Mg mg) (G_law_includes : Cal P w K mg base 1 "_law_includes" spLIncl) : Cal P w K mg base 2 "_law_outcome" (spResolve K) := by
  refine cal_mk F sc_law_outcome (fun vs H Q E h => ?_) (fun cdv A outer s H vs Q E hr h => ?_)
  · obtain ⟨v, u, bs, ph, nm, pl, sc, rfl, _⟩ := h
    rfl
  obtain ⟨v, u, bs, ph, nm, pl, sc, rfl, hT, W, hu', q⟩ := h
  obtain ⟨ip, y2, y3, rfl, hip, _, hsc⟩ := idE hu'
  obtain ⟨a, xs, rfl, hS, hx⟩ := id hT
  have few := W.few
  have hxl : xs.length = bs.length := by rw [hx.len, List.length_map]
  refine ⟨_, (pss_cons (ps_setLc (i := 3) (own := [("k", 6)]) (g := gName 6) (by rfl) sc_law_outcome.nd rfl rfl (sw_true rfl rfl rfl (by decide +kernel)) (pi_range1 (by rfl) M.range (pa_cons (pe_callB (cLen K rfl) (by rfl) M.len b_len (pa_cons (pv 0) pa_nil)) pa_nil)) (blkOk_by (own := [("k", 6)]) (N := ["table", "phase", "identifier", "inside", "here", "greatest", "k", "above", "j"]) (sc := defScope st__law_outcome) (by decide +kernel)) (fun _ _ _ _ _ => (pg_name (i := 6) sc_law_outcome.nd rfl (.inl rfl))) (fun _ _ _ _ _ => (pts_one (PW.pt (pw_and (pt_cmpR op_eq (pe_ix (ixT K rfl) (pe_ix (ixQ K rfl) (pv 0) (pv 6) (fun _ _ => rfl)) pe_int (fun _ _ => rfl)) (pe_ix (ixT K rfl) (pv 2) pe_int (fun _ _ => rfl)) (nomark _)) (pw_and1 (pt_val (pe_c G_law_includes hr (by omega) (by rfl) (pa_cons (pe_ix (ixT K rfl) (pv 2) pe_int (fun _ _ => rfl)) (pa_cons (pe_ix (ixT K rfl) (pe_ix (ixQ K rfl) (pv 0) (pv 6) (fun _ _ => rfl)) pe_int (fun _ _ => rfl)) pa_nil))))))))) (fun _ _ _ _ _ => (pv 6)))
      (pss_cons (ps_setLc (i := 4) (own := [("k", 6)]) (g := gName 6) (by rfl) sc_law_outcome.nd rfl rfl (sw_true rfl rfl rfl (by decide +kernel)) (pi_list (pv 3)) (blkOk_by (own := [("k", 6)]) (N := ["table", "phase", "identifier", "inside", "here", "greatest", "k", "above", "j"]) (sc := defScope st__law_outcome) (by decide +kernel)) (fun _ _ _ _ _ => (pg_name (i := 6) sc_law_outcome.nd rfl (.inl rfl))) (fun _ _ _ _ _ => (pts_one (pt_cmpR op_eq (pe_ix (ixT K rfl) (pe_ix (ixQ K rfl) (pv 0) (pv 6) (fun _ _ => rfl)) pe_int (fun _ _ => rfl)) (pv 1) (nomark _)))) (fun _ _ _ _ _ => (pv 6)))
      (pss_cons (ps_if (pt_cmpR (opEqD K rfl hr.units) (pv 4) (pe_lst pa_nil) (nomark _)) (pss_one (ps_ret (pe_ifExp (pt_cmpR (opNeD K rfl hr.units) (pv 3) (pe_lst pa_nil) (nomark _)) (pe_tup (pa_cons pe_str pa_nil)) (pe_tup (pa_cons pe_str pa_nil))))) pss_nil)
      (pss_cons (ps_set (i := 5) sc_law_outcome.nd rfl (.inl rfl) (pe_lst pa_nil))
      (pss_cons (ps_for PassesOwn.never rfl (pi_list (pv 4)) (pg_name (i := 6) sc_law_outcome.nd rfl (.inr rfl))
      (pss_cons (ps_setLc (i := 7) (own := [("j", 8)]) (g := gName 8) (by rfl) sc_law_outcome.nd rfl rfl (sw_true rfl rfl rfl (by decide +kernel)) (pi_list (pv 4)) (blkOk_by (own := [("j", 8)]) (N := ["table", "phase", "identifier", "inside", "here", "greatest", "k", "above", "j"]) (sc := defScope st__law_outcome) (by decide +kernel)) (fun _ _ _ _ _ => (pg_name (i := 8) sc_law_outcome.nd rfl (.inl rfl))) (fun _ _ _ _ _ => (pts_one (PW.pt (pw_and (pt_cmpR op_ne (pv 8) (pv 6) (nomark _)) (pw_and1 (pt_val (pe_c G_law_includes hr (by omega) (by rfl) (pa_cons (pe_ix (ixT K rfl) (pe_ix (ixQ K rfl) (pv 0) (pv 8) (fun _ _ => rfl)) pe_int (fun _ _ => rfl)) (pa_cons (pe_ix (ixT K rfl) (pe_ix (ixQ K rfl) (pv 0) (pv 6) (fun _ _ => rfl)) pe_int (fun _ _ => rfl)) pa_nil))))))))) (fun _ _ _ _ _ => (pv 8)))
      (pss_one (ps_if (pt_cmpR (opEqD K rfl hr.units) (pv 7) (pe_lst pa_nil) (nomark _)) (pss_one (ps_expr (pe_bm PySem.F.plainAttrs_list PySem.F.slot_list_append PySem.F.type_list_append mt_append (pv 5) (pa_cons (pv 6) pa_nil)))) pss_nil))))
      (pss_one (ps_ret (pe_ifExp (pt_cmpR op_eq (pe_callB (cLen K rfl) (by rfl) M.len b_len (pa_cons (pv 5) pa_nil)) pe_int (nomark _)) (pe_tup (pa_cons pe_str (pa_cons (pe_ix (ixL K rfl) (pv 5) pe_int (fun _ _ => rfl)) pa_nil))) (pe_tup (pa_cons pe_str (pa_cons (pe_ix (ixL K rfl) (pv 5) pe_int (fun _ _ => rfl)) (pa_cons (pe_ix (ixL K rfl) (pv 5) pe_int (fun _ _ => rfl)) pa_nil)))))))))))), ?_⟩
  -- inside
  refine ⟨_, rfl, a, xs, rfl, hS, ?_⟩
  refine ⟨_, rfl, by omega, by omega, fun D nD => ?_⟩
  refine lc_range (lo := 0) (n := xs.length) (fun i H' => Same H H' ∧ H' D = some (.lst (natV (insAt bs nm sc i)))) ⟨same_upd nD, upd_same⟩ ?_ ?_
  · rintro i H' hi ⟨hs, hD⟩
    have hib : i < bs.length := by omega
    have e0 : (0 : Int) + (i : Int) = (i : Int) := Int.zero_add _
    have eb := List.getElem?_eq_getElem hib
    obtain ⟨a', xs', p, x2, x3, ea, hS', ha', hp, hbs, _⟩ := (hT.same hs).row eb
    cases ea
    have hip' := hs _ _ hip
    have epi : pIn bs nm sc i = (decide (bs[i].nm = nm) && incl bs[i].st sc) := by unfold pIn; rw [eb]
    refine ⟨rfl, _, rfl, _, rfl, ixq hS' (by rw [e0]; exact ha') (tc (ixt hp rfl ⟨_, rfl, tc (ixt hip' rfl ⟨rfl, _, rfl, ?_⟩)⟩))⟩
    have hln : (natV (insAt bs nm sc i)).length ≤ 14 := by
      rw [natV_len]
      have h2 := List.length_filter_le (pIn bs nm sc) (List.range i)
      rw [List.length_range] at h2
      unfold insAt
      omega
    have no : ∀ H3, Same H' H3 → pIn bs nm sc i = false → H3 D = some (.lst (natV (insAt bs nm sc i))) → Same H H3 ∧ H3 D = some (.lst (natV (insAt bs nm sc (i + 1)))) := fun H3 s3 ha h3 => by
      refine ⟨Same.trans hs s3, ?_⟩
      rw [insAt_succ, ha, h3]
      simp
    refine ite2 (fun c1 => ?_) (fun c1 => ?_)
    · have en : bs[i].nm = nm := V.str.inj (of_decide_eq_true c1)
      have h6 := (W.can bs[i] (List.getElem_mem hib)).2
      refine ⟨_, rfl, tc (ixt hip' rfl ⟨_, rfl, _, rfl, ixq hS' (by rw [e0]; exact ha') (tc (ixt hp rfl ⟨_, _, bs[i].st, sc, rfl, by omega, hbs, hsc.tk (same_tk hs), fun H3 s3 => ⟨_, rfl, ite2 (fun c2 => ?_) (fun c2 => ?_)⟩⟩))⟩)⟩
      · have ha : pIn bs nm sc i = true := by rw [epi, en, c2, decide_eq_true rfl]; rfl
        refine ⟨_, rfl, _, s3 _ _ hD, small1000 (by omega), fun b o e => ?_, ?_⟩
        · rw [upd_ne (ne_of_none e nD)]
          exact s3 _ _ (hs _ _ e)
        · rw [upd_same, insAt_succ, ha, natV_app, e0]
          rfl
      · exact no H3 s3 (by rw [epi, Bool.eq_false_iff.mpr c2, Bool.and_false]) (s3 _ _ hD)
    · have en : ¬ bs[i].nm = nm := fun z => c1 (decide_eq_true (by rw [z]))
      exact iteF (no H' (Same.refl _) (by rw [epi, decide_eq_false en, Bool.false_and]) hD)
  · rintro H1 ⟨hs, hD⟩
    rw [hxl] at hD
    -- here
    refine ⟨_, rfl, D, rfl, ⟨_, SqL.of hD⟩, fun B nB => ?_⟩
    refine lc_list (K := K) (a := D) (xs := natV (insAt bs nm sc bs.length)) (fun i H' => Same H1 H' ∧ H' B = some (.lst (natV (((insAt bs nm sc bs.length).take i).filter (pPh bs ph))))) ⟨same_upd nB, upd_same⟩ (fun i H' _ h => h.1.seq (SqL.of hD)) ?_ ?_
    · rintro i x H' hi ⟨h1, hB⟩
      obtain ⟨k, hk, rfl⟩ := natV_get hi
      have hkb : k < bs.length := by
        have := List.mem_of_getElem? hk
        unfold insAt at this
        exact List.mem_range.mp (List.mem_filter.mp this).1
      have eb := List.getElem?_eq_getElem hkb
      obtain ⟨a', xs', p, x2, x3, ea, hS', ha', hp, hbs, _⟩ := ((hT.same hs).same h1).row eb
      cases ea
      have epp : pPh bs ph k = decide (bs[k].ph = ph) := by unfold pPh; rw [eb]
      have et : (insAt bs nm sc bs.length).take (i + 1) = (insAt bs nm sc bs.length).take i ++ [k] := by rw [List.take_add_one, hk]; rfl
      refine ⟨rfl, _, rfl, _, rfl, ixq hS' ha' (tc (ixt hp rfl ⟨_, rfl, rfl, _, rfl, ite2 (fun c1 => ?_) (fun c1 => ?_)⟩))⟩
      · have ha : pPh bs ph k = true := by rw [epp]; exact decide_eq_true (V.int.inj (of_decide_eq_true c1))
        refine ⟨_, rfl, _, hB, small1000 ?_, fun b o e => ?_, ?_⟩
        · rw [natV_len]
          have h2 := List.length_filter_le (pPh bs ph) ((insAt bs nm sc bs.length).take i)
          have h3 := List.length_filter_le (pIn bs nm sc) (List.range bs.length)
          rw [List.length_range] at h3
          rw [List.length_take] at h2
          unfold insAt at h2 ⊢
          omega
        · rw [upd_ne (ne_of_none e nB)]
          exact h1 _ _ e
        · rw [upd_same, et, List.filter_append, filter1, ha, natV_app]
          rfl
      · have ha : pPh bs ph k = false := by rw [epp]; exact decide_eq_false fun z => c1 (decide_eq_true (by rw [z]))
        refine ⟨h1, ?_⟩
        rw [et, List.filter_append, filter1, ha, hB]
        simp
    · rintro H2 ⟨h1, hB⟩
      rw [natV_len, List.take_length] at hB
      have hs2 := Same.trans hs h1
      have hD2 := h1 _ _ hD
      have eh : (insAt bs nm sc bs.length).filter (pPh bs ph) = hereAt bs ph nm sc bs.length := rfl
      rw [eh] at hB
      generalize hh : hereAt bs ph nm sc bs.length = hr' at hB
      have eO : outcome bs ph nm sc = outOf (!(insAt bs nm sc bs.length).isEmpty) ((hereAt bs ph nm sc bs.length).filter (isMax (tab bs) (hereAt bs ph nm sc bs.length))) := rfl
      rw [hh] at eO
      have C : Cand bs hr' := by rw [← hh]; exact cand_here W ph nm sc
      -- if here == []
      refine ⟨_, rfl, Nat.zero_le _, fun e1 ne1 => ?_⟩
      have sE : ∀ u, Same H2 (upd H2 e1 u) := fun u => same_upd ne1
      refine eq_nil (sE _ _ _ hB) upd_same ⟨_, rfl, ?_⟩
      cases hr' with
      | nil =>
        refine iteT ⟨_, rfl, Nat.zero_le _, fun e2 ne2 => ?_⟩
        refine ne_nil (same_upd ne2 _ _ (sE _ _ _ hD2)) upd_same ⟨_, rfl, ?_⟩
        cases hb : (insAt bs nm sc bs.length).isEmpty with
        | true =>
          rw [hb] at eO
          refine iteF ⟨by show 1 ≤ sizeLine; decide, fun t nt => q _ _ (Same.trans hs2 (Same.trans (sE _) (Same.trans (same_upd ne2) (same_upd nt)))) ?_⟩
          rw [eO]
          exact .tup upd_same (.cons (.str _) .nil)
        | false =>
          rw [hb] at eO
          refine iteT ⟨by show 1 ≤ sizeLine; decide, fun t nt => q _ _ (Same.trans hs2 (Same.trans (sE _) (Same.trans (same_upd ne2) (same_upd nt)))) ?_⟩
          rw [eO]
          exact .tup upd_same (.cons (.str _) .nil)
      | cons k0 kr =>
        refine iteF ?_
        have hC := C.few
        have nC := great_some C (by simp)
        generalize hcs : k0 :: kr = cs at hB eO C hC nC
        -- greatest = []
        refine ⟨Nat.zero_le _, fun g ng => ?_⟩
        have sG : ∀ u, Same (upd H2 e1 (.lst [])) (upd (upd H2 e1 (.lst [])) g u) := fun u => same_upd ng
        have ngH : H2 g = none := by
          have : g ≠ e1 := fun z => by rw [z, upd_same] at ng; cases ng
          rwa [upd_ne this] at ng
        have hB1 := sE (.lst []) _ _ hB
        refine ⟨_, rfl, B, rfl, ⟨_, SqL.of (sG _ _ _ hB1)⟩, for_list (K := K) (a := B) (xs := natV cs) (fun i σ H' => ∃ y6 y7, σ = [some (.ref a), some (.int ph), some (.ref ip), some (.ref D), some (.ref B), some (.ref g), y6, y7, none] ∧ Same H2 H' ∧ H' g = some (.lst (natV ((cs.take i).filter (isMax (tab bs) cs)))))
          ⟨none, none, rfl, Same.trans (sE _) (sG _), upd_same⟩ (fun i σ H' _ ⟨_, _, _, h, _⟩ => SqL.of (h _ _ hB)) ?_ ?_⟩
        · rintro i x σ H' hi ⟨y6, y7, rfl, hs', hg⟩
          obtain ⟨k, hk, rfl⟩ := natV_get hi
          have hkc := List.mem_of_getElem? hk
          have hkb := C.lt k hkc
          have ekb := List.getElem?_eq_getElem hkb
          refine ⟨_, rfl, B, rfl, ⟨_, SqL.of (hs' _ _ hB)⟩, fun L nL => ?_⟩
          refine lc_list (K := K) (a := B) (xs := natV cs) (fun j H'' => Same H' H'' ∧ H'' L = some (.lst (natV ((cs.take j).filter fun j => decide (j ≠ k) && incl (tab bs k) (tab bs j))))) ⟨same_upd nL, upd_same⟩ (fun j H'' _ h => h.1.seq (SqL.of (hs' _ _ hB))) ?_ ?_
          · rintro j x H'' hj ⟨h2, hL⟩
            obtain ⟨m, hm, rfl⟩ := natV_get hj
            have hmb := C.lt m (List.mem_of_getElem? hm)
            have emb := List.getElem?_eq_getElem hmb
            have hT3 := ((hT.same hs2).same hs').same h2
            have et : cs.take (j + 1) = cs.take j ++ [m] := by rw [List.take_add_one, hm]; rfl
            have no : ∀ H3, Same H'' H3 → (decide (m ≠ k) && incl (tab bs k) (tab bs m)) = false → Same H' H3 ∧ H3 L = some (.lst (natV ((cs.take (j + 1)).filter fun j => decide (j ≠ k) && incl (tab bs k) (tab bs j)))) := fun H3 s3 hf => by
              refine ⟨Same.trans h2 s3, ?_⟩
              rw [et, List.filter_append, filter1, hf, s3 _ _ hL]
              simp
            refine ⟨rfl, _, rfl, _, rfl, rfl, _, rfl, ?_⟩
            by_cases hmk : m = k
            · subst hmk
              rw [decide_eq_true rfl]
              exact iteF (no H'' (Same.refl _) (by simp))
            · have hd : decide (V.int (m : Int) = V.int (k : Int)) = false := decide_eq_false fun z => hmk (by have := V.int.inj z; omega)
              rw [hd]
              refine iteT ?_
              obtain ⟨a1, xs1, p1, u2, u3, ea1, hS1, ha1, hp1, hb1, _⟩ := hT3.row emb
              cases ea1
              obtain ⟨a2, xs2, p2, w2, w3, ea2, hS2, ha2, hp2, hb2, _⟩ := hT3.row ekb
              cases ea2
              have h6 := (W.can bs[k] (List.getElem_mem hkb)).2
              refine ⟨_, rfl, _, rfl, ixq hS1 ha1 (tc (ixt hp1 rfl ⟨_, rfl, _, rfl, ixq hS2 ha2 (tc (ixt hp2 rfl ⟨_, _, bs[k].st, bs[m].st, rfl, by omega, hb2, hb1, fun H3 s3 => ⟨_, rfl, ite2 (fun c2 => ?_) (fun c2 => ?_)⟩⟩))⟩))⟩
              · have hf : (decide (m ≠ k) && incl (tab bs k) (tab bs m)) = true := by rw [tab_of ekb, tab_of emb, c2]; simp [hmk]
                refine ⟨_, rfl, _, s3 _ _ hL, small1000 ?_, fun b o e => ?_, ?_⟩
                · rw [natV_len]
                  have h7 := List.length_filter_le (fun j => decide (j ≠ k) && incl (tab bs k) (tab bs j)) (cs.take j)
                  rw [List.length_take] at h7
                  omega
                · rw [upd_ne (ne_of_none e nL)]
                  exact s3 _ _ (h2 _ _ e)
                · rw [upd_same, et, List.filter_append, filter1, hf, natV_app]
                  rfl
              · exact no H3 s3 (by rw [tab_of ekb, tab_of emb, Bool.eq_false_iff.mpr c2, Bool.and_false])
          · rintro H3 ⟨h2, hL⟩
            rw [natV_len, List.take_length] at hL
            -- if above == []
            refine ⟨_, rfl, Nat.zero_le _, fun e2 ne2 => ?_⟩
            have sE2 : Same H3 (upd H3 e2 (.lst [])) := same_upd ne2
            have hg2 : upd H3 e2 (.lst []) g = some (.lst (natV ((cs.take i).filter (isMax (tab bs) cs)))) := sE2 _ _ (h2 _ _ hg)
            have et : cs.take (i + 1) = cs.take i ++ [k] := by rw [List.take_add_one, hk]; rfl
            refine eq_nil (sE2 _ _ hL) upd_same ⟨_, rfl, ite2 (fun c3 => ?_) (fun c3 => ?_)⟩
            · have hmx : isMax (tab bs) cs k = true := c3
              refine ⟨_, rfl, .inl ⟨rfl, _, SqL.of hg2⟩, _, rfl, g, _, _, rfl, rfl, hg2, small1000 ?_, ?_⟩
              · rw [natV_len]
                have h7 := List.length_filter_le (isMax (tab bs) cs) (cs.take i)
                rw [List.length_take] at h7
                omega
              · refine ⟨_, _, rfl, fun b o e => ?_, ?_⟩
                · rw [upd_ne (ne_of_none e ngH)]
                  exact sE2 _ _ (h2 _ _ (hs' _ _ e))
                · rw [upd_same, et, List.filter_append, filter1, hmx, natV_app]
                  rfl
            · have hmx : isMax (tab bs) cs k = false := Bool.eq_false_iff.mpr c3
              refine ⟨_, _, rfl, fun b o e => sE2 _ _ (h2 _ _ (hs' _ _ e)), ?_⟩
              rw [et, List.filter_append, filter1, hmx, hg2]
              simp
        · rintro σ H' ⟨y6, y7, rfl, hs', hg⟩
          rw [natV_len, List.take_length] at hg
          generalize hG : cs.filter (isMax (tab bs) cs) = G at hg eO nC
          refine ⟨_, rfl, g, _, rfl, .inl (SqL.of hg), rfl, _, rfl, ite2 (fun c1 => ?_) (fun c1 => ?_)⟩
          · have h1 : ((natV G).length : Int) = 1 := V.int.inj (of_decide_eq_true c1)
            rw [natV_len] at h1
            obtain ⟨k, rfl⟩ : ∃ k, G = [k] := List.length_eq_one_iff.mp (by omega)
            refine ⟨_, rfl, tc (ixl hg rfl ⟨by show 2 ≤ sizeLine; decide, fun t nt => ?_⟩)⟩
            refine q _ _ (Same.trans hs2 (Same.trans hs' (same_upd nt))) ?_
            rw [eO]
            exact .tup upd_same (.cons (.str _) (.cons (.int _) .nil))
          · have h1 : G.length ≠ 1 := fun z => c1 (decide_eq_true (by rw [natV_len, z]; rfl))
            match G, hg, eO, nC, h1 with
            | [], _, _, n, _ => exact absurd rfl n
            | [_], _, _, _, n => exact absurd rfl n
            | x1 :: x2 :: r, hg, eO, _, _ =>
              refine ⟨_, rfl, tc (ixl hg (atI_nat (j := 0) rfl) ⟨_, rfl, tc (ixl hg (atI_nat (j := 1) rfl) ⟨by show 3 ≤ sizeLine; decide, fun t nt => ?_⟩)⟩)⟩
              refine q _ _ (Same.trans hs2 (Same.trans hs' (same_upd nt))) ?_
              rw [eO]
              exact .tup upd_same (.cons (.str _) (.cons (.int _) (.cons (.int _) .nil)))
end
end W6
set_option Elab.async false
set_option linter.all false
set_option maxRecDepth 100000
set_option maxHeartbeats 4000000
namespace W6
open PySem PySem.Spec PyProof.Rows L2 Com EnumT
/-! outcomes as they are read -/
def tagS : Out → Str
  | .bound _ => "bound"
  | .amb _ _ => "ambiguous"
  | .phase => "phase"
  | .unb => "unbound"
def isAmb : Out → Bool
  | .amb _ _ => true
  | _ => false
def isBnd : Out → Bool
  | .bound _ => true
  | _ => false
theorem str_ne {a b : Str} (h : ¬ a = b) : decide (V.str a = V.str b) = false := decide_eq_false fun z => h (V.str.inj z)
theorem tg_amb (o : Out) : decide (V.str (tagS o) = V.str (Str.ofString "ambiguous")) = isAmb o := by
  cases o with
  | bound k => exact str_ne (a := "bound") (by decide +kernel)
  | amb j k => exact decide_eq_true rfl
  | phase => exact str_ne (by decide +kernel)
  | unb => exact str_ne (by decide +kernel)
theorem tg_bnd (o : Out) : decide (V.str (tagS o) = V.str (Str.ofString "bound")) = isBnd o := by
  cases o with
  | bound k => exact decide_eq_true rfl
  | amb j k => exact str_ne (a := "ambiguous") (by decide +kernel)
  | phase => exact str_ne (by decide +kernel)
  | unb => exact str_ne (by decide +kernel)
def kOf : Out → List V
  | .bound k => [.int (k : Nat)]
  | .amb j k => [.int (j : Nat), .int (k : Nat)]
  | _ => []
theorem outE {H : Hp} {v : V} {o : Out} (h : Dt H v (outD o)) : ∃ p, v = .ref p ∧ H p = some (.tup (.str (tagS o) :: kOf o)) := by
  cases o with
  | bound k =>
    obtain ⟨p, xs, rfl, hp, h1⟩ := Dt.tupE h
    obtain ⟨x0, r0, rfl, h0, h1⟩ := h1.consE
    obtain ⟨x1, r1, rfl, h2, h1⟩ := h1.consE
    have e := h1.nilE
    subst e
    rw [h0.strE, h2.intE] at hp
    exact ⟨p, rfl, hp⟩
  | amb j k =>
    obtain ⟨p, xs, rfl, hp, h1⟩ := Dt.tupE h
    obtain ⟨x0, r0, rfl, h0, h1⟩ := h1.consE
    obtain ⟨x1, r1, rfl, h2, h1⟩ := h1.consE
    obtain ⟨x2, r2, rfl, h3, h1⟩ := h1.consE
    have e := h1.nilE
    subst e
    rw [h0.strE, h2.intE, h3.intE] at hp
    exact ⟨p, rfl, hp⟩
  | phase =>
    obtain ⟨p, xs, rfl, hp, h1⟩ := Dt.tupE h
    obtain ⟨x0, r0, rfl, h0, h1⟩ := h1.consE
    have e := h1.nilE
    subst e
    rw [h0.strE] at hp
    exact ⟨p, rfl, hp⟩
  | unb =>
    obtain ⟨p, xs, rfl, hp, h1⟩ := Dt.tupE h
    obtain ⟨x0, r0, rfl, h0, h1⟩ := h1.consE
    have e := h1.nilE
    subst e
    rw [h0.strE] at hp
    exact ⟨p, rfl, hp⟩
theorem out_lt {bs : List Bd} {ph : Int} {nm : Str} {sc : List Sc} {k : Nat} (h : outcome bs ph nm sc = .bound k) : k < bs.length := by
  unfold outcome at h
  cases hg : (hereAt bs ph nm sc bs.length).filter (isMax (tab bs) (hereAt bs ph nm sc bs.length)) with
  | nil =>
    rw [hg] at h
    unfold outOf at h
    split at h
    · rename_i e
      split at h <;> cases h
    · rename_i e; cases e
    · rename_i e; cases e
  | cons a r =>
    rw [hg] at h
    cases r with
    | nil =>
      have e : a = k := Out.bound.inj h
      subst e
      have hm : a ∈ (hereAt bs ph nm sc bs.length).filter (isMax (tab bs) (hereAt bs ph nm sc bs.length)) := by rw [hg]; exact List.mem_cons_self
      exact (mem_here (List.mem_filter.mp hm).1).1
    | cons b r => cases h
def tgAt (bs : List Bd) (k : Nat) : Tg := ((bs[k]?).map (·.tg)).getD .prim
def kN : Out → Nat
  | .bound k => k
  | _ => 0
theorem bnd_of {o : Out} (h : isBnd o = true) : o = .bound (kN o) := by cases o <;> first | rfl | cases h
theorem kOf_bnd {o : Out} (h : isBnd o = true) : kOf o = [.int (kN o : Nat)] := by cases o <;> first | rfl | cases h
def refOf (bs : List Bd) (o1 o2 : Out) (n1 n2 : Str) : V :=
  if (isAmb o1 || isAmb o2) = true then .non else if (isBnd o1 && isBnd o2) = true then .bl (decide (tgAt bs (kN o1) = tgAt bs (kN o2))) else if (isBnd o1 || isBnd o2) = true then .bl false else .bl (decide (n1 = n2))
theorem pl_tg (t : Tg) : pl (tgD t) = true := by cases t <;> simp [tgD, pl, plAll]
theorem tg_inj {s t : Tg} (h : tgD s = tgD t) : s = t := by
  cases s <;> cases t <;> simp [tgD] at h ⊢ <;> exact h
theorem eqv_tg (s t : Tg) : PyData.eqv (tgD s) (tgD t) = decide (s = t) := by
  rw [Bool.eq_iff_iff, eqv_pl _ _ (pl_tg s) (pl_tg t), decide_eq_true_iff]
  exact ⟨tg_inj, fun h => by rw [h]⟩
theorem okW : PyData.strOk ("local" : Str) = true ∧ PyData.strOk ("prim" : Str) = true ∧ PyData.strOk ("list" : Str) = true ∧ PyData.strOk ("top" : Str) = true := ⟨by decide +kernel, by decide +kernel, by decide +kernel, by decide +kernel⟩
theorem sh_tg (t : Tg) : SeqAt.shaped (tgD t) = true := by
  refine shp ?_ ?_
  · cases t <;> simp [tgD, PyData.canLay0, PyData.canLayAll0, okM, okW.1, okW.2.1, okW.2.2.1, okW.2.2.2]
  · cases t <;> simp [tgD, PyData.depth, PyData.depthAll]
section
variable {P : Program} {w : World} {K : PySem.W.Frag} {mg : Str → Option Value} {base : Heap}
/-! same_binder -/
def spBinder : Sp := fun vs H Q _ => ∃ (v u : V) (n1 n2 : Str) (p1 p2 : Int) (s1 s2 : List Sc), vs = [v, u] ∧ Dt H v (idD n1 p1 s1) ∧ Dt H u (idD n2 p2 s2) ∧ Q (.bl (decide (n1 = n2) && decide (s1 = s2))) H
theorem eqv_set (s t : List Sc) : PyData.eqv (setD s) (setD t) = decide (s = t) := by
  rw [Bool.eq_iff_iff, eqv_pl _ _ (pl_set s) (pl_set t), decide_eq_true_iff]
  exact ⟨setD_inj, fun h => by rw [h]⟩
theorem dec_str (a b : Str) : decide (V.str a = V.str b) = decide (a = b) := by
  by_cases h : a = b
  · rw [h, decide_eq_true rfl, decide_eq_true rfl]
  · rw [str_ne h, decide_eq_false h]
theorem ok_same_binder {f : Addr} {fd : FuncData} (F : Dfn K mg "same_binder" st_same_binder f fd ["first", "second"]) (M : Mg mg) : Cal P w K mg base 1 "same_binder" spBinder := by
  refine cal_mk F scsame_binder (fun vs H Q E h => ?_) (fun cdv A outer s H vs Q E hr h => ?_)
  · obtain ⟨v, u, n1, n2, p1, p2, s1, s2, rfl, _⟩ := h
    rfl
  obtain ⟨v, u, n1, n2, p1, p2, s1, s2, rfl, h1, h2, q⟩ := h
  obtain ⟨i1, a2, a3, rfl, hi1, _, hs1⟩ := idE h1
  obtain ⟨i2, b2, b3, rfl, hi2, _, hs2⟩ := idE h2
  refine ⟨_, (pss_one (ps_ret (pe_and (pe_cmpR op_eq (pe_ix (ixT K rfl) (pv 0) pe_int (fun _ _ => rfl)) (pe_ix (ixT K rfl) (pv 1) pe_int (fun _ _ => rfl)) (nomark _)) (pe_one (pe_cmpR (opEqD K rfl hr.units) (pe_ix (ixT K rfl) (pv 0) pe_int (fun _ _ => rfl)) (pe_ix (ixT K rfl) (pv 1) pe_int (fun _ _ => rfl)) (nomark _)))))), ?_⟩
  refine ⟨_, rfl, tc (ixt hi1 rfl ⟨_, rfl, tc (ixt hi2 rfl ⟨rfl, _, rfl, ?_⟩)⟩)⟩
  rw [dec_str]
  by_cases hn : n1 = n2
  · rw [decide_eq_true hn] at q ⊢
    refine iteT ⟨_, rfl, tc (ixt hi1 rfl ⟨_, rfl, tc (ixt hi2 rfl ⟨_, _, hs1.dp, hs2.dp, sh_set _, sh_set _, ?_⟩)⟩)⟩
    rw [eqv_set]
    exact q
  · rw [decide_eq_false hn] at q ⊢
    exact iteF q
/-! same_reference and the law's own -/
def spRef (K : PySem.W.Frag) : Sp := fun vs H Q _ => ∃ (v u1 u2 : V) (bs : List Bd) (ph : Int) (n1 n2 : Str) (p1 p2 : Int) (s1 s2 : List Sc), vs = [v, .int ph, u1, u2] ∧ TblAt K H v bs ∧ Wf bs ∧ Dt H u1 (idD n1 p1 s1) ∧ Dt H u2 (idD n2 p2 s2) ∧
  ∀ H', Same H H' → Q (refOf bs (outcome bs ph n1 s1) (outcome bs ph n2 s2) n1 n2) H'
theorem ok_same_reference {f : Addr} {fd : FuncData} (F : Dfn K mg "same_reference" st_same_reference f fd ["table", "phase", "first", "second"]) (M : Mg mg) (Gresolve : Cal P w K mg base 4 "resolve" (spResolve K)) : Cal P w K mg base 5 "same_reference" (spRef K) := by
  refine cal_mk F scsame_reference (fun vs H Q E h => ?_) (fun cdv A outer s H vs Q E hr h => ?_)
  · obtain ⟨v, u1, u2, bs, ph, n1, n2, p1, p2, s1, s2, rfl, _⟩ := h
    rfl
  obtain ⟨v, u1, u2, bs, ph, n1, n2, p1, p2, s1, s2, rfl, hT, W, h1, h2, q⟩ := h
  refine ⟨_, (pss_cons (ps_set (i := 4) scsame_reference.nd rfl (.inl rfl) (pe_c Gresolve hr (by omega) (by rfl) (pa_cons (pv 0) (pa_cons (pv 1) (pa_cons (pv 2) pa_nil)))))
      (pss_cons (ps_set (i := 5) scsame_reference.nd rfl (.inl rfl) (pe_c Gresolve hr (by omega) (by rfl) (pa_cons (pv 0) (pa_cons (pv 1) (pa_cons (pv 3) pa_nil)))))
      (pss_cons (ps_if (PW.pt (pw_or (pt_cmpR op_eq (pe_ix (ixT K rfl) (pv 4) pe_int (fun _ _ => rfl)) pe_str (nomark _)) (pw_or1 (pt_cmpR op_eq (pe_ix (ixT K rfl) (pv 5) pe_int (fun _ _ => rfl)) pe_str (nomark _))))) (pss_one (ps_ret pe_non)) pss_nil)
      (pss_cons (ps_if (PW.pt (pw_and (pt_cmpR op_eq (pe_ix (ixT K rfl) (pv 4) pe_int (fun _ _ => rfl)) pe_str (nomark _)) (pw_and1 (pt_cmpR op_eq (pe_ix (ixT K rfl) (pv 5) pe_int (fun _ _ => rfl)) pe_str (nomark _))))) (pss_one (ps_ret (pe_cmpR (opEqD K rfl hr.units) (pe_ix (ixT K rfl) (pe_ix (ixQ K rfl) (pv 0) (pe_ix (ixT K rfl) (pv 4) pe_int (fun _ _ => rfl)) (fun _ _ => rfl)) pe_int (fun _ _ => rfl)) (pe_ix (ixT K rfl) (pe_ix (ixQ K rfl) (pv 0) (pe_ix (ixT K rfl) (pv 5) pe_int (fun _ _ => rfl)) (fun _ _ => rfl)) pe_int (fun _ _ => rfl)) (nomark _)))) pss_nil)
      (pss_cons (ps_if (PW.pt (pw_or (pt_cmpR op_eq (pe_ix (ixT K rfl) (pv 4) pe_int (fun _ _ => rfl)) pe_str (nomark _)) (pw_or1 (pt_cmpR op_eq (pe_ix (ixT K rfl) (pv 5) pe_int (fun _ _ => rfl)) pe_str (nomark _))))) (pss_one (ps_ret pe_bl)) pss_nil)
      (pss_one (ps_ret (pe_cmpR op_eq (pe_ix (ixT K rfl) (pv 2) pe_int (fun _ _ => rfl)) (pe_ix (ixT K rfl) (pv 3) pe_int (fun _ _ => rfl)) (nomark _))))))))), ?_⟩
  refine ⟨_, rfl, _, rfl, _, rfl, v, u1, bs, ph, n1, p1, s1, rfl, hT, W, h1, fun r1 H1 k1 d1 => ?_⟩
  refine ⟨_, rfl, _, rfl, _, rfl, v, u2, bs, ph, n2, p2, s2, rfl, hT.same k1, W, h2.tk (same_tk k1), fun r2 H2 k2 d2 => ?_⟩
  have q' := q H2 (Same.trans k1 k2)
  have hT2 := (hT.same k1).same k2
  have l1 : ∀ k, outcome bs ph n1 s1 = .bound k → k < bs.length := fun k => out_lt
  have l2 : ∀ k, outcome bs ph n2 s2 = .bound k → k < bs.length := fun k => out_lt
  generalize outcome bs ph n1 s1 = o1 at d1 q' l1
  generalize outcome bs ph n2 s2 = o2 at d2 q' l2
  obtain ⟨q1, rfl, hq1⟩ := outE (d1.tk (same_tk k2))
  obtain ⟨q2, rfl, hq2⟩ := outE d2
  obtain ⟨i1, a2, a3, rfl, hi1, _, _⟩ := idE ((h1.tk (same_tk k1)).tk (same_tk k2))
  obtain ⟨i2, b2, b3, rfl, hi2, _, _⟩ := idE ((h2.tk (same_tk k1)).tk (same_tk k2))
  -- ambiguous?
  refine ⟨_, rfl, tc (ixt hq1 (atI_nat (j := 0) rfl) ⟨rfl, _, rfl, ?_⟩)⟩
  rw [tg_amb]
  unfold refOf at q'
  cases e1 : isAmb o1 with
  | true =>
    rw [e1, Bool.true_or, if_pos rfl] at q'
    exact iteT (iteT q')
  | false =>
    refine iteF ⟨_, rfl, tc (ixt hq2 (atI_nat (j := 0) rfl) ⟨rfl, _, rfl, ?_⟩)⟩
    rw [tg_amb]
    cases e2 : isAmb o2 with
    | true =>
      rw [e1, e2, Bool.false_or, if_pos rfl] at q'
      exact iteT q'
    | false =>
      rw [e1, e2, Bool.false_or, if_neg Bool.false_ne_true] at q'
      refine iteF ⟨_, rfl, tc (ixt hq1 (atI_nat (j := 0) rfl) ⟨rfl, _, rfl, ?_⟩)⟩
      rw [tg_bnd]
      have no : (isBnd o1 && isBnd o2) = false → Q (.bl (decide (n1 = n2))) H2 ∨ (isBnd o1 || isBnd o2) = true := fun hb => by
        rw [hb, if_neg Bool.false_ne_true] at q'
        cases ho : (isBnd o1 || isBnd o2) with
        | true => exact .inr rfl
        | false =>
          rw [ho, if_neg Bool.false_ne_true] at q'
          exact .inl q'
      have nx : (isBnd o1 || isBnd o2) = true → (isBnd o1 && isBnd o2) = false → Q (.bl false) H2 := fun ho hb => by
        rw [hb, if_neg Bool.false_ne_true, ho, if_pos rfl] at q'
        exact q'
      cases e3 : isBnd o1 with
      | true =>
        refine iteT ⟨_, rfl, tc (ixt hq2 (atI_nat (j := 0) rfl) ⟨rfl, _, rfl, ?_⟩)⟩
        rw [tg_bnd]
        cases e4 : isBnd o2 with
        | true =>
          rw [e3, e4, Bool.and_self, if_pos rfl] at q'
          have lk1 := l1 _ (bnd_of e3)
          have lk2 := l2 _ (bnd_of e4)
          rw [kOf_bnd e3] at hq1
          rw [kOf_bnd e4] at hq2
          have eb1 := List.getElem?_eq_getElem lk1
          have eb2 := List.getElem?_eq_getElem lk2
          obtain ⟨a, xs, p, x2, x3, rfl, hS, ha, hp, _, hx3⟩ := hT2.row eb1
          obtain ⟨a', xs', p', y2, y3, ea, hS', ha', hp', _, hy3⟩ := hT2.row eb2
          cases ea
          refine iteT ⟨_, rfl, _, rfl, tc (ixt hq1 rfl (ixq hS ha (tc (ixt hp rfl ⟨_, rfl, _, rfl, tc (ixt hq2 rfl (ixq hS' ha' (tc (ixt hp' rfl ⟨_, _, hx3.dp, hy3.dp, sh_tg _, sh_tg _, ?_⟩))))⟩))))⟩
          rw [eqv_tg]
          unfold tgAt at q'
          rw [eb1, eb2] at q'
          exact q'
        | false =>
          refine iteF ⟨_, rfl, tc (ixt hq1 (atI_nat (j := 0) rfl) ⟨rfl, _, rfl, ?_⟩)⟩
          rw [tg_bnd, e3]
          exact iteT (iteT (nx (by rw [e3]; rfl) (by rw [e4, Bool.and_false])))
      | false =>
        refine iteF (iteF ⟨_, rfl, tc (ixt hq1 (atI_nat (j := 0) rfl) ⟨rfl, _, rfl, ?_⟩)⟩)
        rw [tg_bnd, e3]
        refine iteF ⟨_, rfl, tc (ixt hq2 (atI_nat (j := 0) rfl) ⟨rfl, _, rfl, ?_⟩)⟩
        rw [tg_bnd]
        cases e4 : isBnd o2 with
        | true => exact iteT (nx (by rw [e4, Bool.or_true]) (by rw [e3, Bool.false_and]))
        | false =>
          refine iteF ⟨_, rfl, tc (ixt hi1 rfl ⟨_, rfl, tc (ixt hi2 rfl ⟨rfl, ?_⟩)⟩)⟩
          rw [dec_str]
          rcases no (by rw [e3, Bool.false_and]) with h | h
          · exact h
          · rw [e3, e4] at h
            cases h
theorem ok_law_same_reference {f : Addr} {fd : FuncData} (F : Dfn K mg "_law_same_reference" st__law_same_reference f fd ["table", "phase", "first", "second"]) (M : Mg mg) (G_law_outcome : Cal P w K mg base 2 "_law_outcome" (spResolve K)) : Cal P w K mg base 3 "_law_same_reference" (spRef K) := by
  refine cal_mk F sc_law_same_reference (fun vs H Q E h => ?_) (fun cdv A outer s H vs Q E hr h => ?_)
  · obtain ⟨v, u1, u2, bs, ph, n1, n2, p1, p2, s1, s2, rfl, _⟩ := h
    rfl
  obtain ⟨v, u1, u2, bs, ph, n1, n2, p1, p2, s1, s2, rfl, hT, W, h1, h2, q⟩ := h
  refine ⟨_, (pss_cons (ps_set (i := 4) sc_law_same_reference.nd rfl (.inl rfl) (pe_c G_law_outcome hr (by omega) (by rfl) (pa_cons (pv 0) (pa_cons (pv 1) (pa_cons (pv 2) pa_nil)))))
      (pss_cons (ps_set (i := 5) sc_law_same_reference.nd rfl (.inl rfl) (pe_c G_law_outcome hr (by omega) (by rfl) (pa_cons (pv 0) (pa_cons (pv 1) (pa_cons (pv 3) pa_nil)))))
      (pss_cons (ps_if (PW.pt (pw_or (pt_cmpR op_eq (pe_ix (ixT K rfl) (pv 4) pe_int (fun _ _ => rfl)) pe_str (nomark _)) (pw_or1 (pt_cmpR op_eq (pe_ix (ixT K rfl) (pv 5) pe_int (fun _ _ => rfl)) pe_str (nomark _))))) (pss_one (ps_ret pe_non)) pss_nil)
      (pss_cons (ps_if (PW.pt (pw_or (pt_cmpR op_eq (pe_ix (ixT K rfl) (pv 4) pe_int (fun _ _ => rfl)) pe_str (nomark _)) (pw_or1 (pt_cmpR op_eq (pe_ix (ixT K rfl) (pv 5) pe_int (fun _ _ => rfl)) pe_str (nomark _))))) (pss_one (ps_ret (pe_and (pe_cmpR op_eq (pe_ix (ixT K rfl) (pv 4) pe_int (fun _ _ => rfl)) (pe_ix (ixT K rfl) (pv 5) pe_int (fun _ _ => rfl)) (nomark _)) (pe_one (pe_cmpR (opEqD K rfl hr.units) (pe_ix (ixT K rfl) (pe_ix (ixQ K rfl) (pv 0) (pe_ix (ixT K rfl) (pv 4) pe_int (fun _ _ => rfl)) (fun _ _ => rfl)) pe_int (fun _ _ => rfl)) (pe_ix (ixT K rfl) (pe_ix (ixQ K rfl) (pv 0) (pe_ix (ixT K rfl) (pv 5) pe_int (fun _ _ => rfl)) (fun _ _ => rfl)) pe_int (fun _ _ => rfl)) (nomark _)))))) pss_nil)
      (pss_one (ps_ret (pe_cmpR op_eq (pe_ix (ixT K rfl) (pv 2) pe_int (fun _ _ => rfl)) (pe_ix (ixT K rfl) (pv 3) pe_int (fun _ _ => rfl)) (nomark _)))))))), ?_⟩
  refine ⟨_, rfl, _, rfl, _, rfl, v, u1, bs, ph, n1, p1, s1, rfl, hT, W, h1, fun r1 H1 k1 d1 => ?_⟩
  refine ⟨_, rfl, _, rfl, _, rfl, v, u2, bs, ph, n2, p2, s2, rfl, hT.same k1, W, h2.tk (same_tk k1), fun r2 H2 k2 d2 => ?_⟩
  have q' := q H2 (Same.trans k1 k2)
  have hT2 := (hT.same k1).same k2
  have l1 : ∀ k, outcome bs ph n1 s1 = .bound k → k < bs.length := fun k => out_lt
  have l2 : ∀ k, outcome bs ph n2 s2 = .bound k → k < bs.length := fun k => out_lt
  generalize outcome bs ph n1 s1 = o1 at d1 q' l1
  generalize outcome bs ph n2 s2 = o2 at d2 q' l2
  obtain ⟨q1, rfl, hq1⟩ := outE (d1.tk (same_tk k2))
  obtain ⟨q2, rfl, hq2⟩ := outE d2
  obtain ⟨i1, a2, a3, rfl, hi1, _, _⟩ := idE ((h1.tk (same_tk k1)).tk (same_tk k2))
  obtain ⟨i2, b2, b3, rfl, hi2, _, _⟩ := idE ((h2.tk (same_tk k1)).tk (same_tk k2))
  refine ⟨_, rfl, tc (ixt hq1 (atI_nat (j := 0) rfl) ⟨rfl, _, rfl, ?_⟩)⟩
  rw [tg_amb]
  unfold refOf at q'
  cases e1 : isAmb o1 with
  | true =>
    rw [e1, Bool.true_or, if_pos rfl] at q'
    exact iteT (iteT q')
  | false =>
    refine iteF ⟨_, rfl, tc (ixt hq2 (atI_nat (j := 0) rfl) ⟨rfl, _, rfl, ?_⟩)⟩
    rw [tg_amb]
    cases e2 : isAmb o2 with
    | true =>
      rw [e1, e2, Bool.false_or, if_pos rfl] at q'
      exact iteT q'
    | false =>
      rw [e1, e2, Bool.false_or, if_neg Bool.false_ne_true] at q'
      refine iteF ⟨_, rfl, tc (ixt hq1 (atI_nat (j := 0) rfl) ⟨rfl, _, rfl, ?_⟩)⟩
      rw [tg_bnd]
      have body : (isBnd o1 || isBnd o2) = true → True := fun _ => trivial
      have tagEq : decide (V.str (tagS o1) = V.str (tagS o2)) = (isBnd o1 && isBnd o2) ∨ (isBnd o1 = false ∧ isBnd o2 = false) := by
        cases o1 with
        | amb j k => cases e1
        | bound k =>
          cases o2 with
          | amb j k => cases e2
          | bound k => exact .inl (decide_eq_true rfl)
          | phase => exact .inl (str_ne (a := "bound") (by decide +kernel))
          | unb => exact .inl (str_ne (a := "bound") (by decide +kernel))
        | phase =>
          cases o2 with
          | amb j k => cases e2
          | bound k => exact .inl (str_ne (b := "bound") (by decide +kernel))
          | phase => exact .inr ⟨rfl, rfl⟩
          | unb => exact .inr ⟨rfl, rfl⟩
        | unb =>
          cases o2 with
          | amb j k => cases e2
          | bound k => exact .inl (str_ne (b := "bound") (by decide +kernel))
          | phase => exact .inr ⟨rfl, rfl⟩
          | unb => exact .inr ⟨rfl, rfl⟩
      cases e3 : isBnd o1 with
      | true =>
        refine iteT (iteT ⟨_, rfl, tc (ixt hq1 (atI_nat (j := 0) rfl) ⟨_, rfl, tc (ixt hq2 (atI_nat (j := 0) rfl) ⟨rfl, _, rfl, ?_⟩)⟩)⟩)
        have te : decide (V.str (tagS o1) = V.str (tagS o2)) = (isBnd o1 && isBnd o2) := tagEq.resolve_right fun z => by rw [e3] at z; cases z.1
        rw [te]
        cases e4 : isBnd o2 with
        | true =>
          rw [e3, e4, Bool.and_self, if_pos rfl] at q'
          have lk1 := l1 _ (bnd_of e3)
          have lk2 := l2 _ (bnd_of e4)
          rw [kOf_bnd e3] at hq1
          rw [kOf_bnd e4] at hq2
          have eb1 := List.getElem?_eq_getElem lk1
          have eb2 := List.getElem?_eq_getElem lk2
          obtain ⟨a, xs, p, x2, x3, rfl, hS, ha, hp, _, hx3⟩ := hT2.row eb1
          obtain ⟨a', xs', p', y2, y3, ea, hS', ha', hp', _, hy3⟩ := hT2.row eb2
          cases ea
          rw [e3, Bool.and_self]
          refine iteT ⟨_, rfl, _, rfl, tc (ixt hq1 rfl (ixq hS ha (tc (ixt hp rfl ⟨_, rfl, _, rfl, tc (ixt hq2 rfl (ixq hS' ha' (tc (ixt hp' rfl ⟨_, _, hx3.dp, hy3.dp, sh_tg _, sh_tg _, ?_⟩))))⟩))))⟩
          rw [eqv_tg]
          unfold tgAt at q'
          rw [eb1, eb2] at q'
          exact q'
        | false =>
          rw [e3, e4, Bool.and_false, if_neg Bool.false_ne_true, Bool.or_false, if_pos rfl] at q'
          rw [Bool.and_false]
          exact iteF q'
      | false =>
        refine iteF ⟨_, rfl, tc (ixt hq2 (atI_nat (j := 0) rfl) ⟨rfl, _, rfl, ?_⟩)⟩
        rw [tg_bnd]
        cases e4 : isBnd o2 with
        | true =>
          rw [e3, e4, Bool.false_and, if_neg Bool.false_ne_true, Bool.false_or, if_pos rfl] at q'
          refine iteT ⟨_, rfl, tc (ixt hq1 (atI_nat (j := 0) rfl) ⟨_, rfl, tc (ixt hq2 (atI_nat (j := 0) rfl) ⟨rfl, _, rfl, ?_⟩)⟩)⟩
          have te : decide (V.str (tagS o1) = V.str (tagS o2)) = (isBnd o1 && isBnd o2) := tagEq.resolve_right fun z => by rw [e4] at z; cases z.2
          rw [te, e3, Bool.false_and]
          exact iteF q'
        | false =>
          rw [e3, e4, Bool.false_and, if_neg Bool.false_ne_true, Bool.or_self, if_neg Bool.false_ne_true] at q'
          refine iteF ⟨_, rfl, tc (ixt hi1 rfl ⟨_, rfl, tc (ixt hi2 rfl ⟨rfl, ?_⟩)⟩)⟩
          rw [dec_str]
          exact q'
end
end W6
set_option Elab.async false
set_option linter.all false
set_option maxRecDepth 100000
set_option maxHeartbeats 4000000
namespace W6
open PySem PySem.Spec PyProof.Rows L2 Com EnumT GxR
/-! a def whose code object is known: it holds a generator expression -/
structure FunC (K : PySem.W.Frag) (x qual : Str) (st : Stmt) (f : Addr) (fd : FuncData) (c : Addr) : Prop where
  ex : ∃ (oc : Value) (od : Option Addr) (kV doc pm : Value) (an : Option Addr) (ct : Value) (osl : Array (Option Value)),
    fd = PySem.W.fnOf x qual (defArgs st) (defBody st) (defScope st) .none kV doc pm an (.ref c) ct ∧ K.lookup f = some ⟨oc, od, .func fd, osl⟩ ∧ PySem.W.codeIn K (.ref c) qual = true
  kp : PySem.W.keepIn K (.ref f) = true
structure DfnC (K : PySem.W.Frag) (mg : Str → Option Value) (x : Str) (st : Stmt) (f : Addr) (fd : FuncData) (ps : List Str) (c : Addr) : Prop where
  fn : FunC K x x st f fd c
  mgf : mg x = some (.ref f)
  b : Binds K fd ps []
theorem funC_mk {K : PySem.W.Frag} {x qual : Str} {st : Stmt} {f c : Addr} {oc : Value} {od an : Option Addr} {osl : Array (Option Value)} {kV doc pm ct : Value} (l : K.lookup f = some ⟨oc, od, .func (PySem.W.fnOf x qual (defArgs st) (defBody st) (defScope st) .none kV doc pm an (.ref c) ct), osl⟩)
    (cc : PySem.W.codeIn K (.ref c) qual = true) (k : PySem.W.keepIn K (.ref f) = true) : FunC K x qual st f (PySem.W.fnOf x qual (defArgs st) (defBody st) (defScope st) .none kV doc pm an (.ref c) ct) c := ⟨⟨oc, od, kV, doc, pm, an, ct, osl, rfl, l, cc⟩, k⟩
theorem FunC.fun {K : PySem.W.Frag} {x qual : Str} {st : Stmt} {f c : Addr} {fd : FuncData} (F : FunC K x qual st f fd c) : Fun K x qual st f fd := by
  obtain ⟨oc, od, kV, doc, pm, an, ct, osl, e, l, cc⟩ := F.ex
  exact ⟨⟨oc, od, kV, doc, pm, an, .ref c, ct, osl, e, l, cc⟩, F.kp⟩
theorem cal_mkC {P : Program} {w : World} {K : PySem.W.Frag} {mg : Str → Option Value} {base : Heap} {x : Str} {st : Stmt} {f c : Addr} {fd : FuncData} {N ps : List Str} {k : Nat} {sp : Sp} (F : DfnC K mg x st f fd ps c) (S : FnScope N ps (defScope st)) (len : ∀ vs H Q E, sp vs H Q E → vs.length = ps.length)
    (hbody : ∀ (A : Around) (outer : List Env) (s : Shared) (H : Hp) (vs : List V) (Q : VK) (E : XK), Room k (A.deeper (envOfC x (defScope st) s.heap.objs.size f (.ref c))) → sp vs H Q E →
      ∃ t, PSs (cxOf CX0 P w K mg base N x (defScope st) f (.ref c) A outer s H E).nox (defBody st) t ∧ t { nx := fun _ H' => Q .non H', rt := Q } (start N vs) H) : Cal P w K mg base (k + 1) x sp := by
  obtain ⟨oc, od, kV, doc, pm, an, ct, osl, rfl, lk, hcd⟩ := F.fn.ex
  refine ⟨f, _, ps, fn_of lk hcd S len fun A outer s H vs Q E hr hsp => ?_, F.mgf, F.fn.kp, F.b⟩
  obtain ⟨t, h, q⟩ := hbody A outer s H vs Q E hr hsp
  exact ⟨t, h.nox, q⟩
def noCF (sc : Scope) : Bool := sc.names.all fun y => decide (y.2 ≠ .cell) && decide (y.2 ≠ .free)
theorem genS_mk {env : Env} {scope : Scope} {x : Str} (k : scope.kind = .function) (co : scope.isCoroutine = false) (h : noCF scope = true) (dot : scope.names.lookup (".0" : Str) = some NameKind.local) (loc : scope.names.lookup x = some .local) : GenS env scope x := by
  unfold noCF at h
  rw [List.all_eq_true] at h
  refine ⟨k, co, fun y hy => ?_, dot, loc, fun y hy e => ?_⟩
  · have := h y hy
    rw [Bool.and_eq_true] at this
    exact of_decide_eq_true this.1
  · have := h y hy
    rw [Bool.and_eq_true] at this
    exact absurd e (of_decide_eq_true this.2)
def isBl : V → Bool
  | .bl _ => true
  | _ => false
def okB : V → Prop
  | .int _ => True
  | .str _ => True
  | _ => False
theorem isBl_eq (x : V) (u : Value) (h : okB x) (r : RelV x u) : GenT.isB u = isBl x := by
  cases x with
  | int i => obtain ⟨t, rfl⟩ := r; rfl
  | str i => obtain ⟨t, rfl⟩ := r; rfl
  | _ => cases h
theorem okB_flat (x : V) (u : Value) (h : okB x) (r : RelV x u) : GenT.Flat u := by
  cases x with
  | int i => obtain ⟨t, rfl⟩ := r; exact .inl ⟨_, _, rfl⟩
  | str i => obtain ⟨t, rfl⟩ := r; exact .inr (.inl ⟨_, _, rfl⟩)
  | _ => cases h
theorem pl_out (o : Out) : pl (outD o) = true := by cases o <;> simp [outD, pl, plAll]
theorem sBA : ¬ Str.ofString "bound" = Str.ofString "ambiguous" := by decide +kernel
theorem sBP : ¬ Str.ofString "bound" = Str.ofString "phase" := by decide +kernel
theorem sBU : ¬ Str.ofString "bound" = Str.ofString "unbound" := by decide +kernel
theorem sPU : ¬ Str.ofString "phase" = Str.ofString "unbound" := by decide +kernel
theorem out_inj {a b : Out} (h : outD a = outD b) : a = b := by
  have nn : ∀ m n : Nat, (m : Int) = (n : Int) → m = n := fun m n h => by omega
  cases a <;> cases b <;> simp [outD, sPU, fun e => sPU (Eq.symm e)] at h ⊢ <;> first | (exact h) | (exact nn _ _ h) | (exact ⟨nn _ _ h.1, nn _ _ h.2⟩) | (exact sPU h) | (exact sPU h.symm)
theorem eqv_out (a b : Out) : PyData.eqv (outD a) (outD b) = decide (a = b) := by
  rw [Bool.eq_iff_iff, eqv_pl _ _ (pl_out a) (pl_out b), decide_eq_true_iff]
  exact ⟨out_inj, fun h => by rw [h]⟩
theorem okO : PyData.strOk ("bound" : Str) = true ∧ PyData.strOk ("ambiguous" : Str) = true ∧ PyData.strOk ("phase" : Str) = true ∧ PyData.strOk ("unbound" : Str) = true := ⟨by decide +kernel, by decide +kernel, by decide +kernel, by decide +kernel⟩
theorem sh_out (t : Out) : SeqAt.shaped (outD t) = true := by
  refine shp ?_ ?_
  · cases t <;> simp [outD, PyData.canLay0, PyData.canLayAll0, okO.1, okO.2.1, okO.2.2.1, okO.2.2.2]
  · cases t <;> simp [outD, PyData.depth, PyData.depthAll]
/-! all but a table of code objects stands -/
theorem sq_keep {K : PySem.W.Frag} {H H' : Hp} {p a : Addr} {xs : List V} (k : Keep p H H') (hp : ∃ o, H p = some o ∧ (∀ xs, o ≠ .lst xs) ∧ (∀ xs, o ≠ .tup xs) ∧ ∀ b u, o ≠ .frz b u) (h : Sq K H a xs) : Sq K H' a xs := by
  obtain ⟨o, hp, n1, n2, n3⟩ := hp
  have ne : ∀ {u}, H a = some u → o ≠ u → a ≠ p := fun e n z => by rw [z, hp] at e; exact n (Option.some.inj e)
  rcases h with ((h | ⟨u, h⟩) | h) | ((h | ⟨u, h⟩) | h)
  · exact .inl (.inl (.inl (k _ _ h (ne h (n1 _)))))
  · exact .inl (.inl (.inr ⟨u, k _ _ h (ne h (n3 _ _))⟩))
  · exact .inl (.inr h)
  · exact .inr (.inl (.inl (k _ _ h (ne h (n2 _)))))
  · exact .inr (.inl (.inr ⟨u, k _ _ h (ne h (n3 _ _))⟩))
  · exact .inr (.inr h)
theorem TblAt.keep {K : PySem.W.Frag} {H H' : Hp} {p : Addr} {v : V} {bs : List Bd} (h : TblAt K H v bs) (k : Keep p H H') (hp : ∃ o, H p = some o ∧ (∀ xs, o ≠ .lst xs) ∧ (∀ xs, o ≠ .tup xs) ∧ ∀ b u, o ≠ .frz b u) : TblAt K H' v bs := by
  obtain ⟨a, xs, rfl, h1, h2⟩ := h
  refine ⟨a, xs, rfl, sq_keep k hp h1, h2.tk (k.tk fun ys e => ?_)⟩
  obtain ⟨o, ho, _, n2, _⟩ := hp
  rw [ho] at e
  exact n2 ys (Option.some.inj e)
theorem tab_hp {H : Hp} {p : Addr} (h : TabG H p) : ∃ o, H p = some o ∧ (∀ xs, o ≠ .lst xs) ∧ (∀ xs, o ≠ .tup xs) ∧ ∀ b u, o ≠ .frz b u := by
  obtain ⟨ps, h, _⟩ := h
  exact ⟨_, h, fun _ z => (by cases z), fun _ z => (by cases z), fun _ _ z => (by cases z)⟩
section
variable {P : Program} {w : World} {K : PySem.W.Frag} {mg : Str → Option Value} {base : Heap}
def spJudge (K : PySem.W.Frag) (PJ : Addr) : Sp := fun vs H Q _ => ∃ (v u x : V) (bs : List Bd) (ph : Int) (nm : Str) (pl : Int) (sc : List Sc) (o : Out), vs = [v, .int ph, u, x] ∧ TblAt K H v bs ∧ Wf bs ∧ Dt H u (idD nm pl sc) ∧ Dt H x (outD o) ∧ TabG H PJ ∧
  ∀ H', Keep PJ H H' → TabG H' PJ → Q (.bl (decide (o = outcome bs ph nm sc))) H'
theorem ok_judge_outcome {f cJ PJ : Addr} {fd : FuncData} (F : DfnC K mg "judge_outcome" st_judge_outcome f fd ["table", "phase", "identifier", "told"] cJ) (M : Mg mg) (TB : TabB base mg cJ PJ) (Gresolve : Cal P w K mg base 4 "resolve" (spResolve K)) : Cal P w K mg base 5 "judge_outcome" (spJudge K PJ) := by
  refine cal_mkC F scjudge_outcome (fun vs H Q E h => ?_) (fun A outer s H vs Q E hr h => ?_)
  · obtain ⟨v, u, x, bs, ph, nm, pl, sc, o, rfl, _⟩ := h
    rfl
  obtain ⟨v, u, x, bs, ph, nm, pl, sc, o, rfl, hT, W, hid, ho, hG, q⟩ := h
  refine ⟨_, (pss_cons (ps_if (pt_val (GenT.pe_anyT (c := cJ) (P := PJ) (okv := okB) (pv := isBl) hr (by rfl) M.any TB rfl (genS_mk rfl rfl (by decide +kernel) rfl rfl) (pv 3) (GenT.elt_isb rfl rfl rfl rfl M.isinstance M.bool b_isinstance b_bool) isBl_eq okB_flat (fun _ => rfl))) (pss_one (ps_ret pe_bl)) pss_nil)
      (pss_one (ps_ret (pe_cmpR (opEqD K rfl hr.units) (pv 3) (pe_c Gresolve hr (by omega) (by rfl) (pa_cons (pv 0) (pa_cons (pv 1) (pa_cons (pv 2) pa_nil)))) (nomark _))))), ?_⟩
  obtain ⟨p, rfl, hp⟩ := outE ho
  have hk : ∀ x ∈ V.str (tagS o) :: kOf o, okB x := fun x hx => by
    rcases List.mem_cons.mp hx with e | hx
    · rw [e]; trivial
    · cases o with
      | bound k => rw [List.mem_singleton.mp hx]; trivial
      | amb j k =>
        rcases List.mem_cons.mp hx with e | hx
        · rw [e]; trivial
        · rw [List.mem_singleton.mp hx]; trivial
      | phase => cases hx
      | unb => cases hx
  have ha : (V.str (tagS o) :: kOf o).any isBl = false := by cases o <;> rfl
  refine ⟨_, rfl, hG, p, _, rfl, hp, hk, fun H2 hTb => ?_⟩
  rw [ha]
  have kp : Keep PJ H H2 := fun b u e n => by rw [hTb.2 b n]; exact e
  have tk : Tk H H2 := kp.tk fun xs e => by
    obtain ⟨_, h, n1, n2, _⟩ := tab_hp hG
    rw [h] at e
    exact n2 xs (Option.some.inj e)
  refine ⟨false, rfl, iteF ⟨_, rfl, _, rfl, _, rfl, _, rfl, v, u, bs, ph, nm, pl, sc, rfl, hT.keep kp (tab_hp hG), W, hid.tk tk, fun r H3 s3 d3 => ?_⟩⟩
  refine ⟨_, _, ((ho.tk tk).tk (same_tk s3)).dp, d3.dp, sh_out _, sh_out _, ?_⟩
  rw [eqv_out]
  obtain ⟨ps, hps, hok⟩ := hTb.1
  exact q H3 (fun b u e n => s3 _ _ (kp b u e n)) ⟨ps, s3 _ _ hps, hok⟩
end
end W6
set_option Elab.async false
set_option linter.all false
set_option maxRecDepth 100000
set_option maxHeartbeats 4000000
namespace W6
open PySem PySem.Spec PyProof.Rows L2 Com EnumT GxR
theorem scLe {a b : Sc} (h : a.1 < b.1) : PySem.W.dataLe false scD a b = true := by
  show (!PySem.W.dataLt (scD b) (scD a)) = true
  unfold scD
  rw [PySem.W.dataLt_tuple, PySem.W.dataLt_cons (by simp [PySem.W.alike]), PySem.W.dataLt_cons (by simp [PySem.W.alike])]
  have e1 : PyData.eqv (.str "m") (.str "m") = true := by simp [PyData.eqv]
  have e2 : PyData.eqv (.int b.1) (.int a.1) = false := by simp only [PyData.eqv]; exact beq_eq_false_iff_ne.mpr (by omega)
  rw [e1, if_pos rfl, e2, if_neg Bool.false_ne_true, PySem.W.dataLt_int]
  have : ¬ b.1 < a.1 := by omega
  simp [this]
theorem sort_canon {s : List Sc} (h : Canon s) : s.mergeSort (PySem.W.dataLe false scD) = s := List.mergeSort_of_pairwise (List.Pairwise.imp (R := fun (a b : Sc) => a.1 < b.1) (fun {a b} q => scLe q) h)
theorem TapeAt.dk {H : Hp} {t c a : Addr} {xs : List V} (h : TapeAt H t c) (e : H a = some (.lst xs)) : a ≠ t := fun z => by
  obtain ⟨cells, a', l, s, u, _, h1, _⟩ := h
  rw [z, h1] at e
  cases e
theorem TapeAt.new {H : Hp} {t c p : Addr} {o : HO} (h : TapeAt H t c) (n : H p = none) : TapeAt (upd H p o) t c := by
  obtain ⟨cells, a', l, s, u, h0, h1, h2⟩ := h
  exact ⟨cells, a', l, s, u, h0, by rw [upd_ne (ne_of_none h1 n)]; exact h1, by rw [upd_ne (ne_of_none h2 n)]; exact h2⟩
theorem TapeAt.other {H : Hp} {t c p : Addr} {o : HO} (h : TapeAt H t c) (n1 : p ≠ t) (n2 : p ≠ c) : TapeAt (upd H p o) t c := by
  obtain ⟨cells, a', l, s, u, h0, h1, h2⟩ := h
  exact ⟨cells, a', l, s, u, h0, by rw [upd_ne n1.symm]; exact h1, by rw [upd_ne n2.symm]; exact h2⟩
/-- an address that is new where a tape stands is none of the tape's -/
theorem TapeAt.nt {H : Hp} {t c p : Addr} (h : TapeAt H t c) (n : H p = none) : p ≠ t ∧ p ≠ c := by
  obtain ⟨cells, a', l, s, u, h0, h1, h2⟩ := h
  exact ⟨(ne_of_none h1 n).symm, (ne_of_none h2 n).symm⟩
theorem TapeAt.same {H H' : Hp} {t c : Addr} (h : TapeAt H t c) (k : Same H H') : TapeAt H' t c := by
  obtain ⟨cells, a', l, s, u, h0, h1, h2⟩ := h
  exact ⟨cells, a', l, s, u, h0, k _ _ h1, k _ _ h2⟩
theorem Keep.same {t : Addr} {H H' : Hp} (h : Same H H') : Keep t H H' := fun b o e _ => h b o e
theorem Keep.tk2 {t : Addr} {H H' : Hp} {c : Addr} (k : Keep t H H') (h : TapeAt H t c) : Tk H H' := k.tk h.notup
section
variable {P : Program} {w : World} {K : PySem.W.Frag} {mg : Str → Option Value} {base : Heap}
def spSet : Sp := fun vs H Q _ => ∃ (t c : Addr) (m : Int), vs = [.ref t, .int m] ∧ TapeAt H t c ∧ ∀ v H' s, Keep t H H' → TapeAt H' t c → Dt H' v (setD s) → Canon s → s.length ≤ 6 → Q v H'
theorem ok_law_set {f : Addr} {fd : FuncData} (F : Dfn K mg "_law_set" st__law_set f fd ["tape", "much"]) (M : Mg mg) (G_law_take : Cal P w K mg base 1 "_law_take" spTake) : Cal P w K mg base 2 "_law_set" spSet := by
  refine cal_mk F sc_law_set (fun vs H Q E h => ?_) (fun cdv A outer s H vs Q E hr h => ?_)
  · obtain ⟨t, ct, m, rfl, _⟩ := h
    rfl
  obtain ⟨t, ct, m, rfl, hT, q⟩ := h
  refine ⟨_, (pss_cons (ps_setLc (i := 2) (own := [("k", 3)]) (g := gName 3) (by rfl) sc_law_set.nd rfl rfl (sw_true rfl rfl rfl (by decide +kernel)) (pi_range1 (by rfl) M.range (pa_cons pe_int pa_nil)) (blkOk_by (own := [("k", 3)]) (N := ["tape", "much", "scopes", "k", "scope"]) (sc := defScope st__law_set) (by decide +kernel)) (fun _ _ _ _ _ => (pg_name (i := 3) sc_law_set.nd rfl (.inl rfl))) (fun _ _ _ _ _ => pts_nil) (fun _ _ _ _ _ => (pe_tup (pa_cons pe_str (pa_cons (pv 3) (pa_cons (pe_op op_fdiv (pe_c G_law_take hr (by omega) (by rfl) (pa_cons (pv 0) (pa_cons pe_int pa_nil))) pe_int) pa_nil))))))
      (pss_one (ps_ret (pe_callTy (cTup K rfl) (by rfl) M.tuple b_tuple (pa_cons (pe_callB (cSort K rfl (units65 hr)) (by rfl) M.sorted b_sorted (pa_cons (pe_lc (own := [("scope", 4)]) (g := gName 4) (by rfl) sc_law_set.nd (pi_list (pv 2)) (blkOk_by (own := [("scope", 4)]) (N := ["tape", "much", "scopes", "k", "scope"]) (sc := defScope st__law_set) (by decide +kernel)) (fun _ _ _ _ _ => (pg_name (i := 4) sc_law_set.nd rfl (.inl rfl))) (fun _ _ _ _ _ => (pts_one (pt_cmpR op_lt (pe_c G_law_take hr (by omega) (by rfl) (pa_cons (pv 0) (pa_cons pe_int pa_nil))) (pv 1) (nomark _)))) (fun _ _ _ _ _ => (pv 4))) pa_nil)) pa_nil))))), ?_⟩
  refine ⟨_, rfl, by decide, by decide, fun D nD => ?_⟩
  have nD2 := hT.nt nD
  refine lc_range (lo := 0) (n := 6) (fun i H' => ∃ (ys : List V) (zs : List Sc), H' D = some (.lst ys) ∧ Keep t H H' ∧ TapeAt H' t ct ∧ DtAll H' ys (zs.map scD) ∧ zs.length = i ∧ Canon zs ∧ ∀ z ∈ zs, z.1 < (i : Int))
    ⟨[], [], upd_same, Keep.same (same_upd nD), hT.new nD, .nil, rfl, List.Pairwise.nil, fun z h => by cases h⟩ ?_ ?_
  · rintro i H' hi ⟨ys, zs, hD, hk, ht, hy, hl, hc, hlt⟩
    refine ⟨rfl, ?_⟩
    unfold tYes
    refine iteT ⟨_, rfl, _, rfl, t, ct, 7, rfl, ht, by decide, by decide, fun r H2 hr0 hr1 k2 t2 => ?_⟩
    refine ⟨_, _, rfl, rfl, ⟨by decide, by decide⟩, by show 3 ≤ sizeLine; decide, fun p np => ?_⟩
    have hDt : D ≠ t := nD2.1
    have hD2 : H2 D = some (.lst ys) := k2 _ _ hD hDt
    have npD : D ≠ p := ne_of_none hD2 np
    have e0 : (0 : Int) + (i : Int) = (i : Int) := Int.zero_add _
    have hyl := hy.len
    rw [List.length_map] at hyl
    refine ⟨ys, by rw [upd_ne npD]; exact hD2, small1000 (by omega), ys ++ [.ref p], zs ++ [((0 : Int) + (i : Int), r / 6)], upd_same, ?_, ?_, ?_, ?_, ?_, ?_⟩
    · intro b o e n
      rw [upd_ne (ne_of_none e nD), upd_ne (ne_of_none (k2 _ _ (hk _ _ e n) n) np)]
      exact k2 _ _ (hk _ _ e n) n
    · exact (t2.new np).other nD2.1 nD2.2
    · have k1 : Tk H2 (upd (upd H2 p (.tup [.str "m", .int ((0 : Int) + (i : Int)), .int (r / 6)])) D (.lst (ys ++ [.ref p]))) := (Tk.new np).trans (Tk.upd fun xs z => by rw [upd_ne npD, hD2] at z; cases z)
      rw [List.map_append]
      refine ((hy.tk (k2.tk2 ht)).tk k1).app (.one (.tup (by rw [upd_ne npD.symm, upd_same]) (.cons (.str _) (.cons (.int _) (.cons (.int _) .nil)))))
    · rw [List.length_append, hl]; rfl
    · refine List.pairwise_append.mpr ⟨hc, List.pairwise_singleton _ _, fun z hz y hy => ?_⟩
      rw [List.mem_singleton.mp hy]
      have := hlt z hz
      show z.1 < (0 : Int) + (i : Int)
      omega
    · intro z hz
      rcases List.mem_append.mp hz with h | h
      · have := hlt z h
        omega
      · rw [List.mem_singleton.mp h]
        show (0 : Int) + (i : Int) < ((i + 1 : Nat) : Int)
        omega
  · rintro H1 ⟨ys, zs, hD, hk, ht, hy, hl, hc, hlt⟩
    have hy6 := hy.len
    rw [List.length_map] at hy6
    have hDt : D ≠ t := nD2.1
    refine ⟨_, rfl, D, rfl, ⟨_, SqL.of hD⟩, fun B nB => ?_⟩
    have nB2 := ht.nt nB
    have nBH : H B = none := by
      cases e : H B with
      | none => rfl
      | some o =>
        rw [hk _ _ e nB2.1] at nB
        cases nB
    refine lc_list (K := K) (a := D) (xs := ys) (fun i H' => ∃ (vs2 : List V) (z2 : List Sc), H' B = some (.lst vs2) ∧ Keep t H1 H' ∧ TapeAt H' t ct ∧ DtAll H' vs2 (z2.map scD) ∧ z2.Sublist (zs.take i))
      ⟨[], [], upd_same, Keep.same (same_upd nB), ht.new nB, .nil, List.nil_sublist _⟩ (fun i H' _ ⟨_, _, _, k, _⟩ => SqL.of (k _ _ hD hDt)) ?_ ?_
    · rintro i x H' hi ⟨vs2, z2, hB, k2, t2, h2, hsub⟩
      obtain ⟨z, hz, hd⟩ := hy.get_map hi
      have et : zs.take (i + 1) = zs.take i ++ [z] := by rw [List.take_add_one, hz]; rfl
      have hl2 := h2.len
      rw [List.length_map] at hl2
      have hls := hsub.length_le
      rw [List.length_take] at hls
      refine ⟨rfl, _, rfl, t, ct, 4, rfl, t2, by decide, by decide, fun r H2 hr0 hr1 k3 t3 => ?_⟩
      have hB2 : H2 B = some (.lst vs2) := k3 _ _ hB nB2.1
      refine ⟨_, rfl, _, _, rfl, rfl, _, rfl, ite2 (fun c1 => ?_) (fun c1 => ?_)⟩
      · refine ⟨_, rfl, _, hB2, small1000 (by omega), vs2 ++ [_], z2 ++ [z], upd_same, fun b o e n => ?_, t3.other nB2.1 nB2.2, ?_, ?_⟩
        · rw [upd_ne (ne_of_none e nB)]
          exact k3 _ _ (k2 _ _ e n) n
        · rw [List.map_append]
          have k4 : Tk H2 (upd H2 B (.lst (vs2 ++ [x]))) := Tk.upd fun xs z => by rw [hB2] at z; cases z
          exact ((h2.tk (k3.tk2 t2)).tk k4).app (.one (((hd.tk (k2.tk2 ht)).tk (k3.tk2 t2)).tk k4))
        · rw [et]
          exact List.Sublist.append hsub (List.Sublist.refl _)
      · refine ⟨vs2, z2, hB2, k2.trans k3, t3, h2.tk (k3.tk2 t2), ?_⟩
        rw [et]
        exact hsub.trans (List.sublist_append_left _ _)
    · rintro H2 ⟨vs2, z2, hB, k2, t2, h2, hsub⟩
      have hc2 : Canon z2 := List.Pairwise.sublist (hsub.trans (List.take_sublist _ _)) hc
      have hl6 : z2.length ≤ 6 := by
        have := (hsub.trans (List.take_sublist _ _)).length_le
        omega
      refine ⟨B, vs2, _, rfl, SqL.of hB, h2.dp, PySem.W.AllAlike.of fun a b => by simp [scD, PySem.W.alike, PySem.W.alikeAll], PySem.W.Sortable.tuples fun b => ⟨_, _, rfl⟩, fun d hd => ?_, fun l nl => ?_⟩
      · obtain ⟨z, _, rfl⟩ := List.mem_map.mp hd
        rw [dep_sc]
        decide
      · have hso := sorted_enc (f := scD) h2
        rw [sort_canon hc2] at hso
        generalize ((vs2.zip (z2.map scD)).mergeSort (PySem.W.dataLe false Prod.snd)).map Prod.fst = ws at hso nl ⊢
        refine ⟨l, ws, rfl, .inl ⟨SqL.of upd_same, fun p np => ?_⟩⟩
        refine q _ _ z2 (hk.trans (k2.trans ((Keep.new nl).trans (Keep.new np)))) ((t2.new nl).new np) ?_ hc2 hl6
        exact .tup upd_same ((hso.tk (Tk.new nl)).tk (Tk.new np))
end
end W6
set_option Elab.async false
set_option linter.all false
set_option maxRecDepth 100000
set_option maxHeartbeats 4000000
namespace W6
open PySem PySem.Spec PyProof.Rows L2 Com EnumT GxR
theorem four {r : Int} (h0 : 0 ≤ r) (h1 : r < 4) : ∃ nm : Str, atI [V.str "x", V.str "x", V.str "y", V.str "z"] r = some (.str nm) := by
  have h : r = 0 ∨ r = 1 ∨ r = 2 ∨ r = 3 := by omega
  rcases h with h | h | h | h <;> subst h
  · exact ⟨_, atI_nat (j := 0) rfl⟩
  · exact ⟨_, atI_nat (j := 1) rfl⟩
  · exact ⟨_, atI_nat (j := 2) rfl⟩
  · exact ⟨_, atI_nat (j := 3) rfl⟩
def NmOk (nm : Str) : Prop := nm = "x" ∨ nm = "y"
theorem NmOk.str {nm : Str} (h : NmOk nm) : PyData.strOk nm = true := by
  rcases h with h | h <;> subst h <;> decide +kernel
theorem two {r : Int} (h0 : 0 ≤ r) (h1 : r < 2) : ∃ nm : Str, NmOk nm ∧ atI [V.str "x", V.str "y"] r = some (.str nm) := by
  have h : r = 0 ∨ r = 1 := by omega
  rcases h with h | h <;> subst h
  · exact ⟨_, .inl rfl, atI_nat (j := 0) rfl⟩
  · exact ⟨_, .inr rfl, atI_nat (j := 1) rfl⟩
section
variable {P : Program} {w : World} {K : PySem.W.Frag} {mg : Str → Option Value} {base : Heap}
def spIdent : Sp := fun vs H Q _ => ∃ (t c : Addr), vs = [.ref t] ∧ TapeAt H t c ∧ ∀ v H' nm pl s, Keep t H H' → TapeAt H' t c → Dt H' v (idD nm pl s) → Canon s → s.length ≤ 6 → Q v H'
theorem ok_law_identifier {f : Addr} {fd : FuncData} (F : Dfn K mg "_law_identifier" st__law_identifier f fd ["tape"]) (M : Mg mg) (G_law_take : Cal P w K mg base 1 "_law_take" spTake) (G_law_set : Cal P w K mg base 2 "_law_set" spSet) : Cal P w K mg base 3 "_law_identifier" spIdent := by
  refine cal_mk F sc_law_identifier (fun vs H Q E h => ?_) (fun cdv A outer s H vs Q E hr h => ?_)
  · obtain ⟨t, c, rfl, _⟩ := h
    rfl
  obtain ⟨t, c, rfl, hT, q⟩ := h
  refine ⟨_, (pss_one (ps_ret (pe_tup (pa_cons pe_str (pa_cons (pe_ix (ixL K rfl) (pe_lst (pa_cons pe_str (pa_cons pe_str (pa_cons pe_str (pa_cons pe_str pa_nil))))) (pe_c G_law_take hr (by omega) (by rfl) (pa_cons (pv 0) (pa_cons pe_int pa_nil))) (fun _ _ => rfl)) (pa_cons (pe_tup (pa_cons pe_str (pa_cons (pe_c G_law_take hr (by omega) (by rfl) (pa_cons (pv 0) (pa_cons pe_int pa_nil))) pa_nil))) (pa_cons (pe_c G_law_set hr (by omega) (by rfl) (pa_cons (pv 0) (pa_cons (pe_op op_add pe_int (pe_c G_law_take hr (by omega) (by rfl) (pa_cons (pv 0) (pa_cons pe_int pa_nil)))) pa_nil))) pa_nil))))))), ?_⟩
  refine ⟨by show 4 ≤ sizeLine; decide, fun l nl => ?_⟩
  refine ⟨_, rfl, t, c, 4, rfl, hT.new nl, by decide, by decide, fun r H1 hr0 hr1 k1 t1 => ?_⟩
  obtain ⟨nm, hnm⟩ := four hr0 hr1
  have nlt := (hT.nt nl).1
  refine ixl (k1 _ _ upd_same nlt) hnm ?_
  refine ⟨_, rfl, t, c, 9, rfl, t1, by decide, by decide, fun pl H2 hp0 hp1 k2 t2 => ?_⟩
  refine ⟨by show 2 ≤ sizeLine; decide, fun p np => ?_⟩
  have t3 := t2.new (o := .tup [.str "m", .int pl]) np
  refine ⟨_, rfl, _, rfl, t, c, 3, rfl, t3, by decide, by decide, fun m H4 hm0 hm1 k4 t4 => ?_⟩
  refine ⟨_, _, rfl, rfl, t, c, _, rfl, t4, fun v H5 st k5 t5 dv hc h6 => ?_⟩
  refine ⟨by show 4 ≤ sizeLine; decide, fun u nu => ?_⟩
  have kp : Keep t H H5 := (Keep.new nl).trans (k1.trans (k2.trans ((Keep.new np).trans (k4.trans k5))))
  refine q _ _ nm pl st (kp.trans (Keep.new nu)) (t5.new nu) ?_ hc h6
  have npt := (t2.nt np).1
  have hp5 : H5 p = some (.tup [.str "m", .int pl]) := k5 _ _ (k4 _ _ upd_same npt) npt
  refine .tup upd_same (.cons (.str _) (.cons (.str _) (.cons (.tup (Tk.new nu _ _ hp5) (.cons (.str _) (.cons (.int _) .nil))) (.cons (dv.tk (Tk.new nu)) .nil))))
end
end W6
set_option Elab.async false
set_option linter.all false
set_option maxRecDepth 100000
set_option maxHeartbeats 4000000
namespace W6
open PySem PySem.Spec PyProof.Rows L2 Com EnumT GxR
def keyD (ph : Int) (nm : Str) (st : List Sc) : PyData := .tuple [.int ph, .str nm, setD st]
theorem pl_key (ph : Int) (nm : Str) (st : List Sc) : pl (keyD ph nm st) = true := by simp [keyD, pl, plAll]; exact pl_set st
theorem key_inj {a b : Int} {n m : Str} {s t : List Sc} (h : keyD a n s = keyD b m t) : a = b ∧ n = m ∧ s = t := by
  simp only [keyD, PyData.tuple.injEq, List.cons.injEq, PyData.int.injEq, PyData.str.injEq, and_true] at h
  exact ⟨h.1, h.2.1, setD_inj h.2.2⟩
def keyOf (b : Bd) : PyData := keyD b.ph b.nm b.st
theorem lay_key {ph : Int} {nm : Str} {st : List Sc} (h : NmOk nm) : (keyD ph nm st).canLay0 = true := by simp [keyD, PyData.canLay0, PyData.canLayAll0, h.str]; exact lay_set st
theorem dep_key (ph : Int) (nm : Str) (st : List Sc) : (keyD ph nm st).depth ≤ 3 := by
  have := dep_set st
  simp only [keyD, PyData.depth, PyData.depthAll]
  omega
theorem layAll_mem : ∀ {ds : List PyData}, (∀ d ∈ ds, d.canLay0 = true) → PyData.canLayAll0 ds = true
  | [], _ => rfl
  | d :: ds, h => by
    simp only [PyData.canLayAll0, Bool.and_eq_true]
    exact ⟨h d List.mem_cons_self, layAll_mem fun x hx => h x (List.mem_cons_of_mem _ hx)⟩
structure WfT (bs : List Bd) : Prop where
  can : ∀ b ∈ bs, Canon b.st ∧ b.st.length ≤ 6
  nm : ∀ b ∈ bs, NmOk b.nm
  dif : bs.Pairwise fun a b => ¬ (a.ph = b.ph ∧ a.nm = b.nm ∧ a.st = b.st)
theorem WfT.wf {bs : List Bd} (h : WfT bs) (few : bs.length ≤ 14) : Wf bs := by
  refine ⟨few, h.can, fun i j hi hj ne e => ?_⟩
  have p := List.pairwise_iff_getElem.mp h.dif
  rcases Nat.lt_or_gt_of_ne ne with l | l
  · exact p i j hi hj l e
  · exact p j i hj hi l ⟨e.1.symm, e.2.1.symm, e.2.2.symm⟩
theorem three {r : Int} (h0 : 0 ≤ r) (h1 : r < 3) (x y z : V) : ∃ i : Fin 3, atI [x, y, z] r = some ([x, y, z].get i) := by
  have h : r = 0 ∨ r = 1 ∨ r = 2 := by omega
  rcases h with h | h | h <;> subst h
  · exact ⟨0, atI_nat (j := 0) rfl⟩
  · exact ⟨1, atI_nat (j := 1) rfl⟩
  · exact ⟨2, atI_nat (j := 2) rfl⟩
section
variable {P : Program} {w : World} {K : PySem.W.Frag} {mg : Str → Option Value} {base : Heap}
def spTable (K : PySem.W.Frag) : Sp := fun vs H Q _ => ∃ (t c : Addr), vs = [.ref t] ∧ TapeAt H t c ∧ ∀ a H' bs xs, Keep t H H' → TapeAt H' t c → H' a = some (.lst xs) → DtAll H' xs (bs.map bdD) → Wf bs → Q (.ref a) H'
theorem ok_law_table {f : Addr} {fd : FuncData} (F : Dfn K mg "_law_table" st__law_table f fd ["tape"]) (M : Mg mg) (G_law_take : Cal P w K mg base 1 "_law_take" spTake) (G_law_set : Cal P w K mg base 2 "_law_set" spSet) : Cal P w K mg base 3 "_law_table" (spTable K) := by
  refine cal_mk F sc_law_table (fun vs H Q E h => ?_) (fun cdv A outer s H vs Q E hr h => ?_)
  · obtain ⟨t, c, rfl, _⟩ := h
    rfl
  obtain ⟨t, c, rfl, hT, q⟩ := h
  refine ⟨_, (pss_cons (ps_set (i := 1) sc_law_table.nd rfl (.inl rfl) (pe_lst pa_nil))
      (pss_cons (ps_set (i := 2) sc_law_table.nd rfl (.inl rfl) (pe_lst pa_nil))
      (pss_cons (ps_for PassesOwn.never rfl (pi_range1 (by rfl) M.range (pa_cons (pe_c G_law_take hr (by omega) (by rfl) (pa_cons (pv 0) (pa_cons pe_int pa_nil))) pa_nil)) (pg_name (i := 3) sc_law_table.nd rfl (.inl rfl))
      (pss_cons (ps_set (i := 4) sc_law_table.nd rfl (.inl rfl) (pe_tup (pa_cons (pe_op op_fdiv (pe_c G_law_take hr (by omega) (by rfl) (pa_cons (pv 0) (pa_cons pe_int pa_nil))) pe_int) (pa_cons (pe_ix (ixL K rfl) (pe_lst (pa_cons pe_str (pa_cons pe_str pa_nil))) (pe_op op_fdiv (pe_c G_law_take hr (by omega) (by rfl) (pa_cons (pv 0) (pa_cons pe_int pa_nil))) pe_int) (fun _ _ => rfl)) (pa_cons (pe_c G_law_set hr (by omega) (by rfl) (pa_cons (pv 0) (pa_cons (pe_op op_add pe_int (pe_c G_law_take hr (by omega) (by rfl) (pa_cons (pv 0) (pa_cons pe_int pa_nil)))) pa_nil))) pa_nil)))))
      (pss_one (ps_if (pt_cmpR (opNotInD K rfl (units65 hr)) (pv 4) (pv 2) (by rfl)) (pss_cons (ps_expr (pe_bm PySem.F.plainAttrs_list PySem.F.slot_list_append PySem.F.type_list_append mt_append (pv 2) (pa_cons (pv 4) pa_nil)))
      (pss_cons (ps_set (i := 5) sc_law_table.nd rfl (.inl rfl) (pe_ix (ixL K rfl) (pe_lst (pa_cons (pe_tup (pa_cons pe_str (pa_cons pe_str (pa_cons (pe_c G_law_take hr (by omega) (by rfl) (pa_cons (pv 0) (pa_cons pe_int pa_nil))) pa_nil)))) (pa_cons (pe_tup (pa_cons pe_str (pa_cons pe_str pa_nil))) (pa_cons (pe_tup (pa_cons pe_str (pa_cons pe_str (pa_cons pe_int (pa_cons pe_int pa_nil))))) pa_nil)))) (pe_c G_law_take hr (by omega) (by rfl) (pa_cons (pv 0) (pa_cons pe_int pa_nil))) (fun _ _ => rfl)))
      (pss_one (ps_expr (pe_bm PySem.F.plainAttrs_list PySem.F.slot_list_append PySem.F.type_list_append mt_append (pv 1) (pa_cons (pe_op (opCatT K rfl) (pv 4) (pe_tup (pa_cons (pv 5) pa_nil))) pa_nil)))))) pss_nil))))
      (pss_one (ps_ret (pv 1)))))), ?_⟩
  -- table = []; keys = []
  refine ⟨Nat.zero_le _, fun a na => ⟨Nat.zero_le _, fun k nk => ?_⟩⟩
  have ta := hT.new (o := .lst []) na
  have tk := ta.new (o := .lst []) nk
  have nat' := hT.nt na
  have nkt := ta.nt nk
  have nak : a ≠ k := ne_of_none upd_same nk
  have nkH : H k = none := by rw [upd_ne nak.symm] at nk; exact nk
  refine ⟨_, rfl, t, c, 15, rfl, tk, by decide, by decide, fun r H1 hr0 hr1 k1 t1 => ?_⟩
  refine ⟨_, rfl, by omega, by omega, for_range (lo := 0) (n := r.toNat) (fun i σ H' => ∃ (y3 y4 y5 : Option V) (bs : List Bd) (xs ks : List V), σ = [some (.ref t), some (.ref a), some (.ref k), y3, y4, y5] ∧ Keep t H H' ∧ TapeAt H' t c ∧ H' a = some (.lst xs) ∧ H' k = some (.lst ks) ∧ DtAll H' xs (bs.map bdD) ∧ DtAll H' ks (bs.map keyOf) ∧ WfT bs ∧ bs.length ≤ i)
    ⟨none, none, none, [], [], [], rfl, (Keep.new na).trans ((Keep.new nk).trans k1), t1, k1 _ _ (by rw [upd_ne nak]; exact upd_same) nat'.1, k1 _ _ upd_same nkt.1, .nil, .nil, ⟨fun _ h => (by cases h), fun _ h => (by cases h), List.Pairwise.nil⟩, Nat.le_refl _⟩ ?_ ?_⟩
  · rintro i σ H' hi ⟨y3, y4, y5, bs, xs, ks, rfl, kp, t', ha, hk, hx, hks, wf, hl⟩
    refine ⟨_, rfl, t, c, 5, rfl, t', by decide, by decide, fun r1 H2 h10 h11 k2 t2 => ?_⟩
    refine ⟨_, _, rfl, rfl, ⟨by decide, by decide⟩, ?_⟩
    refine ⟨by show 2 ≤ sizeLine; decide, fun l nl => ?_⟩
    have t3 := t2.new (o := .lst [.str "x", .str "y"]) nl
    refine ⟨_, rfl, t, c, 5, rfl, t3, by decide, by decide, fun r2 H4 h20 h21 k4 t4 => ?_⟩
    refine ⟨_, _, rfl, rfl, ⟨by decide, by decide⟩, ?_⟩
    have nlt := (t2.nt nl).1
    obtain ⟨nm, hnm, hat⟩ := two (r := r2 / 4) (by omega) (by omega)
    refine ixl (k4 _ _ upd_same nlt) hat ?_
    refine ⟨_, rfl, _, rfl, t, c, 2, rfl, t4, by decide, by decide, fun m H5 hm0 hm1 k5 t5 => ?_⟩
    refine ⟨_, _, rfl, rfl, t, c, _, rfl, t5, fun v H6 st k6 t6 dv hcn h6 => ?_⟩
    refine ⟨by show 3 ≤ sizeLine; decide, fun u nu => ?_⟩
    have t7 := t6.new (o := .tup [.int (r1 / 2), .str nm, v]) nu
    have K2 : Keep t H' H6 := k2.trans ((Keep.new nl).trans (k4.trans (k5.trans k6)))
    have K7 : Keep t H' (upd H6 u (.tup [.int (r1 / 2), .str nm, v])) := K2.trans (Keep.new nu)
    have ha7 := K7 _ _ ha nat'.1
    have hk7 := K7 _ _ hk nkt.1
    have tk7 := K7.tk2 t'
    have hx7 := hx.tk tk7
    have hks7 := hks.tk tk7
    have dkey : Dt (upd H6 u (.tup [.int (r1 / 2), .str nm, v])) (.ref u) (keyD (r1 / 2) nm st) := .tup upd_same (.cons (.int _) (.cons (.str _) (.cons (dv.tk (Tk.new nu)) .nil)))
    generalize upd H6 u (.tup [.int (r1 / 2), .str nm, v]) = G at *
    -- if key not in keys
    refine ⟨_, rfl, _, rfl, _, _, dkey.dp, .lst (SqL.of hk7) hks7.dp, shp (lay_key hnm) (by have := dep_key (r1 / 2) nm st; omega), shp ?_ ?_, _, rfl, ?_⟩
    · simp only [PyData.canLay0]
      refine layAll_mem fun d hd => ?_
      obtain ⟨b, hb, rfl⟩ := List.mem_map.mp hd
      exact lay_key (wf.nm b hb)
    · have := depAll_map (f := keyOf) (n := 3) (fun b => dep_key b.ph b.nm b.st) bs
      simp only [PyData.depth]
      omega
    · have epl := any_pl (plAll_map (f := keyOf) (fun b => pl_key b.ph b.nm b.st) bs) (pl_key (r1 / 2) nm st)
      cases hany : (bs.map keyOf).any fun z => PyData.eqv z (keyD (r1 / 2) nm st) with
      | true => exact iteF ⟨_, _, _, bs, xs, ks, rfl, kp.trans K7, t7, ha7, hk7, hx7, hks7, wf, Nat.le_succ_of_le hl⟩
      | false =>
        have hlk := hks7.len
        have hlx := hx7.len
        rw [List.length_map] at hlk hlx
        refine iteT ?_
        -- keys.append(key)
        refine ⟨_, rfl, .inl ⟨rfl, _, SqL.of hk7⟩, _, rfl, k, _, _, rfl, rfl, hk7, small1000 (by omega), ?_⟩
        have tk8 : Tk G (upd G k (.lst (ks ++ [.ref u]))) := Tk.upd fun xs z => by rw [hk7] at z; cases z
        have t8 := t7.other (o := .lst (ks ++ [.ref u])) nkt.1 nkt.2
        have ha8 : upd G k (.lst (ks ++ [.ref u])) a = some (.lst xs) := by rw [upd_ne nak]; exact ha7
        have hk8 : upd G k (.lst (ks ++ [.ref u])) k = some (.lst (ks ++ [.ref u])) := upd_same
        have kp8 : Keep t H (upd G k (.lst (ks ++ [.ref u]))) := fun b o e n => by
          rw [upd_ne (ne_of_none e nkH)]
          exact K7 _ _ (kp _ _ e n) n
        have hx8 := hx7.tk tk8
        have hks8 : DtAll (upd G k (.lst (ks ++ [.ref u]))) (ks ++ [.ref u]) (bs.map keyOf ++ [keyD (r1 / 2) nm st]) := (hks7.app (.one dkey)).tk tk8
        have dk8 := dkey.tk tk8
        generalize upd G k (.lst (ks ++ [.ref u])) = G8 at *
        -- target
        refine ⟨_, rfl, t, c, 3, rfl, t8, by decide, by decide, fun r3 H9 h30 h31 k9 t9 => ?_⟩
        refine ⟨by show 3 ≤ sizeLine; decide, fun p1 np1 => ⟨by show 2 ≤ sizeLine; decide, fun p2 np2 => ⟨by show 4 ≤ sizeLine; decide, fun p3 np3 => ⟨by show 3 ≤ sizeLine; decide, fun l2 nl2 => ?_⟩⟩⟩⟩
        have ta1 := t9.new (o := .tup [.str "local", .str "m", .int r3]) np1
        have ta2 := ta1.new (o := .tup [.str "prim", .str "list"]) np2
        have ta3 := ta2.new (o := .tup [.str "top", .str "m", .int 0, .int 1]) np3
        have ta4 := ta3.new (o := .lst [.ref p1, .ref p2, .ref p3]) nl2
        have nl2t := (ta3.nt nl2).1
        have D1 : Dt (upd (upd (upd (upd H9 p1 (.tup [.str "local", .str "m", .int r3])) p2 (.tup [.str "prim", .str "list"])) p3 (.tup [.str "top", .str "m", .int 0, .int 1])) l2 (.lst [.ref p1, .ref p2, .ref p3])) (.ref p1) (tgD (.loc r3)) :=
          (((Dt.tup (H := upd H9 p1 (.tup [.str "local", .str "m", .int r3])) upd_same (.cons (.str _) (.cons (.str _) (.cons (.int _) .nil)))).tk (Tk.new np2)).tk (Tk.new np3)).tk (Tk.new nl2)
        have D2 : Dt (upd (upd (upd (upd H9 p1 (.tup [.str "local", .str "m", .int r3])) p2 (.tup [.str "prim", .str "list"])) p3 (.tup [.str "top", .str "m", .int 0, .int 1])) l2 (.lst [.ref p1, .ref p2, .ref p3])) (.ref p2) (tgD .prim) :=
          ((Dt.tup (H := upd (upd H9 p1 (.tup [.str "local", .str "m", .int r3])) p2 (.tup [.str "prim", .str "list"])) upd_same (.cons (.str _) (.cons (.str _) .nil))).tk (Tk.new np3)).tk (Tk.new nl2)
        have D3 : Dt (upd (upd (upd (upd H9 p1 (.tup [.str "local", .str "m", .int r3])) p2 (.tup [.str "prim", .str "list"])) p3 (.tup [.str "top", .str "m", .int 0, .int 1])) l2 (.lst [.ref p1, .ref p2, .ref p3])) (.ref p3) (tgD .top) :=
          (Dt.tup (H := upd (upd (upd H9 p1 (.tup [.str "local", .str "m", .int r3])) p2 (.tup [.str "prim", .str "list"])) p3 (.tup [.str "top", .str "m", .int 0, .int 1])) upd_same (.cons (.str _) (.cons (.str _) (.cons (.int _) (.cons (.int _) .nil))))).tk (Tk.new nl2)
        have K10 : Keep t G8 (upd (upd (upd (upd H9 p1 (.tup [.str "local", .str "m", .int r3])) p2 (.tup [.str "prim", .str "list"])) p3 (.tup [.str "top", .str "m", .int 0, .int 1])) l2 (.lst [.ref p1, .ref p2, .ref p3])) := k9.trans ((Keep.new np1).trans ((Keep.new np2).trans ((Keep.new np3).trans (Keep.new nl2))))
        have hl2 : (upd (upd (upd (upd H9 p1 (.tup [.str "local", .str "m", .int r3])) p2 (.tup [.str "prim", .str "list"])) p3 (.tup [.str "top", .str "m", .int 0, .int 1])) l2 (.lst [.ref p1, .ref p2, .ref p3])) l2 = some (.lst [.ref p1, .ref p2, .ref p3]) := upd_same
        generalize upd (upd (upd (upd H9 p1 (.tup [.str "local", .str "m", .int r3])) p2 (.tup [.str "prim", .str "list"])) p3 (.tup [.str "top", .str "m", .int 0, .int 1])) l2 (.lst [.ref p1, .ref p2, .ref p3]) = G10 at *
        refine ⟨_, rfl, t, c, 3, rfl, ta4, by decide, by decide, fun r4 H11 h40 h41 k11 t11 => ?_⟩
        have pick : ∃ tv tg, atI [V.ref p1, V.ref p2, V.ref p3] r4 = some (.ref tv) ∧ Dt G10 (.ref tv) (tgD tg) := by
          have h : r4 = 0 ∨ r4 = 1 ∨ r4 = 2 := by omega
          rcases h with h | h | h <;> subst h
          · exact ⟨p1, _, atI_nat (j := 0) rfl, D1⟩
          · exact ⟨p2, _, atI_nat (j := 1) rfl, D2⟩
          · exact ⟨p3, _, atI_nat (j := 2) rfl, D3⟩
        obtain ⟨tv, tg, hpick, dtg⟩ := pick
        refine ixl (k11 _ _ hl2 nl2t) hpick ?_
        have K12 : Keep t G8 H11 := K10.trans k11
        have tk12 := K12.tk2 t8
        have ha12 := K12 _ _ ha8 nat'.1
        have hk12 := K12 _ _ hk8 nkt.1
        have hx12 := hx8.tk tk12
        have hks12 := hks8.tk tk12
        have dk12 := dk8.tk tk12
        have dtg12 := dtg.tk (k11.tk2 ta4)
        obtain ⟨u', fs, eu, hu, hfs⟩ := dk12.tupE
        cases eu
        have hfl := hfs.len
        have hfl3 : fs.length = 3 := hfl
        -- table.append(key + (target,))
        refine ⟨_, rfl, .inl ⟨rfl, _, SqL.of ha12⟩, _, rfl, _, rfl, by show 1 ≤ sizeLine; decide, fun p4 np4 => ?_⟩
        have hu4 : upd H11 p4 (.tup [.ref tv]) u = some (.tup fs) := by rw [upd_ne (ne_of_none hu np4)]; exact hu
        refine ⟨u, p4, fs, [.ref tv], rfl, rfl, SqT.of hu4, SqT.of upd_same, fun z => (by rw [z] at hfl3; cases hfl3), (by rw [hfl3]; show 4 ≤ sizeLine; decide), fun z => (by cases z), fun _ p5 np5 => ?_⟩
        have S4 : Same H11 (upd H11 p4 (.tup [.ref tv])) := same_upd np4
        have S5 : Same (upd H11 p4 (.tup [.ref tv])) (upd (upd H11 p4 (.tup [.ref tv])) p5 (.tup (fs ++ [.ref tv]))) := same_upd np5
        have S6 := Same.trans S4 S5
        have ha6 := S6 _ _ ha12
        have np5a : p5 ≠ a := (ne_of_none (S4 _ _ ha12) np5).symm
        refine ⟨a, _, _, rfl, rfl, ha6, small1000 (by omega), ?_⟩
        have tk13 : Tk (upd (upd H11 p4 (.tup [.ref tv])) p5 (.tup (fs ++ [.ref tv]))) (upd (upd (upd H11 p4 (.tup [.ref tv])) p5 (.tup (fs ++ [.ref tv]))) a (.lst (xs ++ [.ref p5]))) := Tk.upd fun ys z => by rw [ha6] at z; cases z
        have tk14 := (same_tk S6).trans tk13
        have naH : ∀ b o, H b = some o → b ≠ a := fun b o e => ne_of_none e na
        refine ⟨_, _, _, bs ++ [⟨r1 / 2, nm, st, tg⟩], xs ++ [.ref p5], ks ++ [.ref u], rfl, fun b o e n => ?_, (t11.same S6).other nat'.1 nat'.2, upd_same, ?_, ?_, ?_, ?_, ?_⟩
        · rw [upd_ne (naH b o e)]
          exact S6 _ _ (K12 _ _ (kp8 _ _ e n) n)
        · rw [upd_ne nak.symm]
          exact S6 _ _ hk12
        · rw [List.map_append]
          refine (hx12.tk tk14).app (.one (.tup (xs := fs ++ [.ref tv]) (by rw [upd_ne np5a]; exact upd_same) ?_))
          exact (hfs.tk tk14).app (.one (dtg12.tk tk14))
        · rw [List.map_append]
          exact hks12.tk tk14
        · have nin : keyD (r1 / 2) nm st ∉ bs.map keyOf := fun z => by rw [epl.mpr z] at hany; cases hany
          refine ⟨fun b hb => ?_, fun b hb => ?_, List.pairwise_append.mpr ⟨wf.dif, List.pairwise_singleton _ _, fun x hx y hy e => ?_⟩⟩
          · rcases List.mem_append.mp hb with h | h
            · exact wf.can b h
            · rw [List.mem_singleton.mp h]; exact ⟨hcn, h6⟩
          · rcases List.mem_append.mp hb with h | h
            · exact wf.nm b h
            · rw [List.mem_singleton.mp h]; exact hnm
          · rw [List.mem_singleton.mp hy] at e
            refine nin (List.mem_map.mpr ⟨x, hx, ?_⟩)
            unfold keyOf
            rw [e.1, e.2.1, e.2.2]
        · rw [List.length_append]
          exact Nat.add_le_add_right hl 1
  · rintro σ H' ⟨y3, y4, y5, bs, xs, ks, rfl, kp, t', ha, hk, hx, hks, wf, hl⟩
    exact ⟨_, rfl, q a H' bs xs kp t' ha hx (wf.wf (by omega))⟩
end
end W6
set_option Elab.async false
set_option linter.all false
set_option maxRecDepth 100000
set_option maxHeartbeats 8000000
namespace W6
open PySem PySem.Spec PyProof.Rows L2 Com EnumT GxR
theorem dep_out (o : Out) : (outD o).depth ≤ 1 := by cases o <;> simp [outD, PyData.depth, PyData.depthAll]
theorem sm_out (o : Out) : smD (outD o) = true := by cases o <;> simp [outD, smD, smAll]
theorem ref_dp {K : PySem.W.Frag} (H : Hp) (bs : List Bd) (o1 o2 : Out) (n1 n2 : Str) : ∃ d, Dp K H (refOf bs o1 o2 n1 n2) d ∧ d.depth ≤ 1 ∧ smD d = true := by
  unfold refOf
  have hb : ∀ b, ∃ d, Dp K H (.bl b) d ∧ d.depth ≤ 1 ∧ smD d = true := fun b => ⟨.bool b, .bl b, by simp [PyData.depth], rfl⟩
  split
  · exact ⟨.none, .non, by simp [PyData.depth], rfl⟩
  · split
    · exact hb _
    · split
      · exact hb _
      · exact hb _
theorem tabg_keep {H H' : Hp} {t P c : Addr} (h : TabG H P) (ht : TapeAt H t c) (k : Keep t H H') : TabG H' P := by
  obtain ⟨ps, h1, h2⟩ := h
  obtain ⟨cells, a', l, s, u, _, h3, _⟩ := ht
  exact ⟨ps, k _ _ h1 (ne_of h1 h3 (by intro z; cases z)), h2⟩
theorem tabg_same {H H' : Hp} {P : Addr} (h : TabG H P) (k : Same H H') : TabG H' P := by
  obtain ⟨ps, h1, h2⟩ := h
  exact ⟨ps, k _ _ h1, h2⟩
theorem TapeAt.tab {H H' : Hp} {t c P : Addr} (h : TapeAt H t c) (g : TabG H P) (k : Keep P H H') : TapeAt H' t c := by
  obtain ⟨ps, g, _⟩ := g
  obtain ⟨cells, a', l, s, u, h0, h1, h2⟩ := h
  exact ⟨cells, a', l, s, u, h0, k _ _ h1 (ne_of h1 g (by intro z; cases z)), k _ _ h2 (ne_of h2 g (by intro z; cases z))⟩
theorem keep_tab_tk {H H' : Hp} {P : Addr} (g : TabG H P) (k : Keep P H H') : Tk H H' := k.tk fun xs e => by
  obtain ⟨ps, g, _⟩ := g
  rw [g] at e
  cases e
/-- the law's state between two turns -/
structure Sta (K : PySem.W.Frag) (H : Hp) (p c PJ a : Addr) (bs : List Bd) : Prop where
  tape : TapeAt H p c
  lst : ∃ xs, H a = some (.lst xs) ∧ DtAll H xs (bs.map bdD)
  tab : TabG H PJ
theorem Sta.same {K : PySem.W.Frag} {H H' : Hp} {p c PJ a : Addr} {bs : List Bd} (h : Sta K H p c PJ a bs) (k : Same H H') : Sta K H' p c PJ a bs := by
  obtain ⟨xs, h1, h2⟩ := h.lst
  exact ⟨h.tape.same k, ⟨xs, k _ _ h1, h2.tk (same_tk k)⟩, tabg_same h.tab k⟩
theorem Sta.draw {K : PySem.W.Frag} {H H' : Hp} {p c PJ a : Addr} {bs : List Bd} (h : Sta K H p c PJ a bs) (k : Keep p H H') (t : TapeAt H' p c) : Sta K H' p c PJ a bs := by
  obtain ⟨xs, h1, h2⟩ := h.lst
  exact ⟨t, ⟨xs, k _ _ h1 (h.tape.dk h1), h2.tk (k.tk2 h.tape)⟩, tabg_keep h.tab h.tape k⟩
theorem Sta.judge {K : PySem.W.Frag} {H H' : Hp} {p c PJ a : Addr} {bs : List Bd} (h : Sta K H p c PJ a bs) (k : Keep PJ H H') (t : TabG H' PJ) : Sta K H' p c PJ a bs := by
  obtain ⟨xs, h1, h2⟩ := h.lst
  have g := h.tab
  obtain ⟨ps, g1, _⟩ := id g
  exact ⟨h.tape.tab g k, ⟨xs, k _ _ h1 (ne_of h1 g1 (by intro z; cases z)), h2.tk (keep_tab_tk g k)⟩, t⟩
theorem Sta.tbl {K : PySem.W.Frag} {H : Hp} {p c PJ a : Addr} {bs : List Bd} (h : Sta K H p c PJ a bs) : TblAt K H (.ref a) bs := by
  obtain ⟨xs, h1, h2⟩ := h.lst
  exact ⟨a, xs, rfl, .inl (SqL.of h1), h2⟩
theorem seven {r : Int} (h0 : 0 ≤ r) (h1 : r < 7) {H : Hp} {a b c d e f g : V} {oa ob oc od oe of og : Out} (ha : Dt H a (outD oa)) (hb : Dt H b (outD ob)) (hc : Dt H c (outD oc)) (hd : Dt H d (outD od)) (he : Dt H e (outD oe)) (hf : Dt H f (outD of)) (hg : Dt H g (outD og)) :
    ∃ v o, atI [a, b, c, d, e, f, g] r = some v ∧ Dt H v (outD o) := by
  have h : r = 0 ∨ r = 1 ∨ r = 2 ∨ r = 3 ∨ r = 4 ∨ r = 5 ∨ r = 6 := by omega
  rcases h with h | h | h | h | h | h | h <;> subst h
  · exact ⟨_, _, atI_nat (j := 0) rfl, ha⟩
  · exact ⟨_, _, atI_nat (j := 1) rfl, hb⟩
  · exact ⟨_, _, atI_nat (j := 2) rfl, hc⟩
  · exact ⟨_, _, atI_nat (j := 3) rfl, hd⟩
  · exact ⟨_, _, atI_nat (j := 4) rfl, he⟩
  · exact ⟨_, _, atI_nat (j := 5) rfl, hf⟩
  · exact ⟨_, _, atI_nat (j := 6) rfl, hg⟩
theorem tup_new {H : Hp} {p : Addr} {xs : List V} {ds : List PyData} (h : H p = none) (hx : DtAll H xs ds) : ∃ H', upd H p (.tup xs) = H' ∧ Same H H' ∧ Dt H' (.ref p) (.tuple ds) :=
  ⟨_, rfl, same_upd h, .tup upd_same (hx.tk (same_tk (same_upd h)))⟩
theorem sl4 {K : PySem.W.Frag} {H : Hp} {i : Addr} {a b c d : V} {lo hi : Option Int} {ys : List V} {Q : VK} (h : H i = some (.tup [a, b, c, d])) (hw : ¬ (HT.sIx 4 0 lo = 0 ∧ HT.sIx 4 4 hi = 4)) (hy : cutV [a, b, c, d] lo hi = ys) (q : ∀ p, H p = none → Q (.ref p) (upd H p (.tup ys))) : rSlA K (.ref i) lo hi H Q :=
  ⟨i, _, rfl, SqT.of h, fun w => absurd w hw, fun _ => by rw [hy]; exact q⟩
theorem catT {K : PySem.W.Frag} {H : Hp} {i j : Addr} {xs ys : List V} {Q : VK} (h1 : H i = some (.tup xs)) (h2 : H j = some (.tup ys)) (nx : xs ≠ []) (ny : ys ≠ []) (hl : xs.length + ys.length ≤ sizeLine) (q : ∀ p, H p = none → Q (.ref p) (upd H p (.tup (xs ++ ys)))) : rCatT K (.ref i) (.ref j) H Q :=
  ⟨i, j, xs, ys, rfl, rfl, SqT.of h1, SqT.of h2, nx, hl, fun e => absurd e ny, fun _ => q⟩
section
variable {P : Program} {w : World} {K : PySem.W.Frag} {mg : Str → Option Value} {base : Heap}
def spLaw (K : PySem.W.Frag) (PJ : Addr) : Sp := fun vs H Q _ => ∃ (a : Addr) (ns : List Int), vs = [.ref a] ∧ SqL K H a (ns.map V.int) ∧ ns.length ≤ 63 ∧ TabG H PJ ∧ ∀ H', Q (.bl true) H'
theorem ok_law {f PJ : Addr} {fd : FuncData} (F : Dfn K mg "law" st_law f fd ["script"]) (M : Mg mg) (G_law_tape : Cal P w K mg base 1 "_law_tape" (spTape K)) (G_law_take : Cal P w K mg base 1 "_law_take" spTake) (G_law_table : Cal P w K mg base 3 "_law_table" (spTable K)) (G_law_identifier : Cal P w K mg base 3 "_law_identifier" spIdent)
    (G_law_outcome : Cal P w K mg base 2 "_law_outcome" (spResolve K)) (G_law_same : Cal P w K mg base 4 "_law_same" (spSame K 1)) (Gresolve : Cal P w K mg base 4 "resolve" (spResolve K)) (Gjudge_outcome : Cal P w K mg base 5 "judge_outcome" (spJudge K PJ)) (Gsame_binder : Cal P w K mg base 1 "same_binder" spBinder)
    (Gsame_reference : Cal P w K mg base 5 "same_reference" (spRef K)) (G_law_same_reference : Cal P w K mg base 3 "_law_same_reference" (spRef K)) : FnOk P w K mg base CX0 6 f fd ["script"] (spLaw K PJ) := by
  refine F.fn.ok sclaw (fun vs H Q E h => ?_) (fun cdv A outer s H vs Q E hr h => ?_)
  · obtain ⟨a, ns, rfl, _⟩ := h
    rfl
  obtain ⟨sc, ns, rfl, hS, h63, hG, q⟩ := h
  refine ⟨_, (pss_cons (ps_set (i := 1) sclaw.nd rfl (.inl rfl) (pe_c G_law_tape hr (by omega) (by rfl) (pa_cons (pv 0) pa_nil)))
      (pss_cons (ps_set (i := 2) sclaw.nd rfl (.inl rfl) (pe_c G_law_table hr (by omega) (by rfl) (pa_cons (pv 1) pa_nil)))
      (pss_cons (ps_for PassesOwn.never rfl (pi_range1 (by rfl) M.range (pa_cons pe_int pa_nil)) (pg_name (i := 3) sclaw.nd rfl (.inl rfl))
      (pss_cons (ps_set (i := 4) sclaw.nd rfl (.inl rfl) (pe_c G_law_take hr (by omega) (by rfl) (pa_cons (pv 1) (pa_cons pe_int pa_nil))))
      (pss_cons (ps_set (i := 5) sclaw.nd rfl (.inl rfl) (pe_c G_law_identifier hr (by omega) (by rfl) (pa_cons (pv 1) pa_nil)))
      (pss_cons (ps_set (i := 6) sclaw.nd rfl (.inl rfl) (pe_c G_law_identifier hr (by omega) (by rfl) (pa_cons (pv 1) pa_nil)))
      (pss_cons (ps_if (pt_cmpR op_eq (pe_c G_law_take hr (by omega) (by rfl) (pa_cons (pv 1) (pa_cons pe_int pa_nil))) pe_int (nomark _)) (pss_one (ps_set (i := 6) sclaw.nd rfl (.inl rfl) (pe_op (opCatT K rfl) (pe_op (opCatT K rfl) (pe_slice (slA K rfl) (pv 5) po_none (po_some pe_int)) (pe_slice (slA K rfl) (pv 6) (po_some pe_int) (po_some pe_int))) (pe_slice (slA K rfl) (pv 5) (po_some pe_int) po_none)))) pss_nil)
      (pss_cons (ps_set (i := 7) sclaw.nd rfl (.inl rfl) (pe_c G_law_outcome hr (by omega) (by rfl) (pa_cons (pv 2) (pa_cons (pv 4) (pa_cons (pv 5) pa_nil)))))
      (pss_cons (ps_if (PW.pt (pw_or (pt_not (pt_val (pe_c G_law_same hr (by omega) (by rfl) (pa_cons (pe_c Gresolve hr (by omega) (by rfl) (pa_cons (pe_callTy (cList K rfl) (by rfl) M.list b_list (pa_cons (pv 2) pa_nil)) (pa_cons (pv 4) (pa_cons (pv 5) pa_nil)))) (pa_cons (pv 7) pa_nil))))) (pw_or1 (pt_cmpR op_notBl (pe_c Gjudge_outcome hr (by omega) (by rfl) (pa_cons (pv 2) (pa_cons (pv 4) (pa_cons (pv 5) (pa_cons (pv 7) pa_nil))))) pe_bl (nomark _))))) (pss_one (ps_ret pe_bl)) pss_nil)
      (pss_cons (ps_set (i := 8) sclaw.nd rfl (.inl rfl) (pe_lst (pa_cons (pe_tup (pa_cons pe_str pa_nil)) (pa_cons (pe_tup (pa_cons pe_str pa_nil)) (pa_cons (pe_tup (pa_cons pe_str (pa_cons pe_int pa_nil))) (pa_cons (pe_tup (pa_cons pe_str (pa_cons pe_int pa_nil))) (pa_cons (pe_tup (pa_cons pe_str (pa_cons pe_int (pa_cons pe_int pa_nil)))) (pa_cons (pe_tup (pa_cons pe_str (pa_cons pe_int (pa_cons pe_int pa_nil)))) (pa_cons (pe_tup (pa_cons pe_str (pa_cons pe_int pa_nil))) pa_nil)))))))))
      (pss_cons (ps_set (i := 9) sclaw.nd rfl (.inl rfl) (pe_ix (ixL K rfl) (pv 8) (pe_c G_law_take hr (by omega) (by rfl) (pa_cons (pv 1) (pa_cons pe_int pa_nil))) (fun _ _ => rfl)))
      (pss_cons (ps_if (pt_not (pt_val (pe_c G_law_same hr (by omega) (by rfl) (pa_cons (pe_c Gjudge_outcome hr (by omega) (by rfl) (pa_cons (pv 2) (pa_cons (pv 4) (pa_cons (pv 5) (pa_cons (pv 9) pa_nil))))) (pa_cons (pe_cmpR (opEqD K rfl hr.units) (pv 9) (pv 7) (nomark _)) pa_nil))))) (pss_one (ps_ret pe_bl)) pss_nil)
      (pss_cons (ps_if (pt_not (pt_val (pe_c G_law_same hr (by omega) (by rfl) (pa_cons (pe_c Gsame_binder hr (by omega) (by rfl) (pa_cons (pv 5) (pa_cons (pv 6) pa_nil))) (pa_cons (pe_and (pe_cmpR op_eq (pe_ix (ixT K rfl) (pv 5) pe_int (fun _ _ => rfl)) (pe_ix (ixT K rfl) (pv 6) pe_int (fun _ _ => rfl)) (nomark _)) (pe_one (pe_cmpR (opEqD K rfl hr.units) (pe_ix (ixT K rfl) (pv 5) pe_int (fun _ _ => rfl)) (pe_ix (ixT K rfl) (pv 6) pe_int (fun _ _ => rfl)) (nomark _)))) pa_nil))))) (pss_one (ps_ret pe_bl)) pss_nil)
      (pss_one (ps_if (pt_not (pt_val (pe_c G_law_same hr (by omega) (by rfl) (pa_cons (pe_c Gsame_reference hr (by omega) (by rfl) (pa_cons (pe_callTy (cTup K rfl) (by rfl) M.tuple b_tuple (pa_cons (pv 2) pa_nil)) (pa_cons (pv 4) (pa_cons (pv 5) (pa_cons (pv 6) pa_nil))))) (pa_cons (pe_c G_law_same_reference hr (by omega) (by rfl) (pa_cons (pv 2) (pa_cons (pv 4) (pa_cons (pv 5) (pa_cons (pv 6) pa_nil))))) pa_nil))))) (pss_one (ps_ret pe_bl)) pss_nil)))))))))))))
      (pss_one (ps_ret pe_bl))))), ?_⟩
  refine ⟨_, rfl, sc, ns, rfl, hS, by omega, fun p c H1 s1 t1 => ?_⟩
  have g1 : TabG H1 PJ := tabg_same hG s1
  refine ⟨_, rfl, p, c, rfl, t1, fun a H2 bs xs k2 t2 ha hx wf => ?_⟩
  refine ⟨_, rfl, by decide, by decide, for_range (lo := 0) (n := 3) (fun i σ H' => ∃ y3 y4 y5 y6 y7 y8 y9, σ = [some (.ref sc), some (.ref p), some (.ref a), y3, y4, y5, y6, y7, y8, y9] ∧ Sta K H' p c PJ a bs)
    ⟨none, none, none, none, none, none, none, rfl, t2, ⟨xs, ha, hx⟩, tabg_keep g1 t1 k2⟩ ?_ ?_⟩
  · rintro i σ H3 hi ⟨y3, y4, y5, y6, y7, y8, y9, rfl, S3⟩
    refine ⟨_, rfl, p, c, 4, rfl, S3.tape, by decide, by decide, fun ph H4 hp0 hp1 k4 t4 => ?_⟩
    have S4 := S3.draw k4 t4
    refine ⟨_, rfl, p, c, rfl, t4, fun v1 H5 n1 p1 u1 k5 t5 d1 c1 l1 => ?_⟩
    have S5 := S4.draw k5 t5
    refine ⟨_, rfl, p, c, rfl, t5, fun v2 H6 n2 p2 u2 k6 t6 d2 c2 l2 => ?_⟩
    have S6 := S5.draw k6 t6
    have d16 := d1.tk (k6.tk2 t5)
    -- if _law_take(tape, 3) == 0
    dsimp only [gName]
    refine seq_split (t1 := tIfS _ _ _) (fun σ' H' => ∃ v2' n2' p2' u2', σ' = [some (.ref sc), some (.ref p), some (.ref a), some (.int ((0 : Int) + (i : Int))), some (.int ph), some v1, some v2', y7, y8, y9] ∧ Sta K H' p c PJ a bs ∧ Dt H' v1 (idD n1 p1 u1) ∧ Dt H' v2' (idD n2' p2' u2')) ?_ (fun rest => ?_)
    · rintro σ' H7 ⟨v2', n2', p2', u2', rfl, S7, e1, e2⟩
      -- due
      refine ⟨_, rfl, _, rfl, _, rfl, _, v1, bs, ph, n1, p1, u1, rfl, S7.tbl, wf, e1, fun r8 H8 k8 d8 => ?_⟩
      have S8 := S7.same k8
      have f1 := e1.tk (same_tk k8)
      have f2 := e2.tk (same_tk k8)
      -- if not _law_same(resolve(list(table), phase, first), due) or judge_outcome(..) is not True
      obtain ⟨xs8, a8, x8⟩ := S8.lst
      obtain ⟨oc, hoc⟩ : ∃ oc, oc = outcome bs ph n1 u1 := ⟨_, rfl⟩
      dsimp only [gName]
      refine ⟨_, rfl, a, xs8, rfl, .inl (SqL.of a8), fun l nl => ?_⟩
      have kl : Same H8 (upd H8 l (.lst xs8)) := same_upd nl
      have Sl := S8.same kl
      have fl := f1.tk (same_tk kl)
      refine ⟨_, rfl, _, rfl, .ref l, v1, bs, ph, n1, _, _, rfl, ⟨l, xs8, rfl, .inl (SqL.of upd_same), x8.tk (same_tk kl)⟩, wf, fl, fun r9 H9 k9 d9 => ?_⟩
      have S9 := Sl.same k9
      have g8 := (d8.tk (same_tk kl)).tk (same_tk k9)
      rw [← hoc] at g8 d9
      refine ⟨_, rfl, _, _, outD oc, rfl, d9.dp, g8.dp, dep_out oc, sm_out oc, true, rfl, iteF ?_⟩
      have h1 := fl.tk (same_tk k9)
      have h2 := (f2.tk (same_tk kl)).tk (same_tk k9)
      refine ⟨_, rfl, _, rfl, _, rfl, _, rfl, _, v1, r8, bs, ph, n1, _, _, oc, rfl, S9.tbl, wf, h1, g8, S9.tab, fun H10 k10 t10 => ?_⟩
      rw [decide_eq_true hoc]
      refine ⟨_, _, rfl, rfl, _, rfl, iteF ?_⟩
      have S10 := S9.judge k10 t10
      have tk10 := keep_tab_tk S9.tab k10
      have g10 := g8.tk tk10
      have h10 := h1.tk tk10
      have i10 := h2.tk tk10
      clear g1 S3 S4 S5 S6 S7 S8 Sl S9 fl h1 h2 d8 f1 f2 e1 e2 d9 g8 kl k8 k9
      have xu : ∀ H : Hp, DtAll H [.str "unbound"] [.str "unbound"] := fun H => .cons (.str _) .nil
      have xp : ∀ H : Hp, DtAll H [.str "phase"] [.str "phase"] := fun H => .cons (.str _) .nil
      have xb : ∀ (H : Hp) (k : Int), DtAll H [.str "bound", .int k] [.str "bound", .int k] := fun H k => .cons (.str _) (.cons (.int _) .nil)
      have xa : ∀ (H : Hp) (j k : Int), DtAll H [.str "ambiguous", .int j, .int k] [.str "ambiguous", .int j, .int k] := fun H j k => .cons (.str _) (.cons (.int _) (.cons (.int _) .nil))
      refine ⟨by decide, fun q1 nq => ?_⟩
      obtain ⟨G1, e, m1, w1⟩ := tup_new nq (xu _)
      rw [e]
      clear e
      refine ⟨by decide, fun q2 nq => ?_⟩
      obtain ⟨G2, e, m2, w2⟩ := tup_new nq (xp _)
      rw [e]
      clear e
      refine ⟨by decide, fun q3 nq => ?_⟩
      obtain ⟨G3, e, m3, w3⟩ := tup_new nq (xb _ 0)
      rw [e]
      clear e
      refine ⟨by decide, fun q4 nq => ?_⟩
      obtain ⟨G4, e, m4, w4⟩ := tup_new nq (xb _ 1)
      rw [e]
      clear e
      refine ⟨by decide, fun q5 nq => ?_⟩
      obtain ⟨G5, e, m5, w5⟩ := tup_new nq (xa _ 0 1)
      rw [e]
      clear e
      refine ⟨by decide, fun q6 nq => ?_⟩
      obtain ⟨G6, e, m6, w6⟩ := tup_new nq (xa _ 1 2)
      rw [e]
      clear e
      refine ⟨by decide, fun q7 nq => ?_⟩
      obtain ⟨G7, e, m7, w7⟩ := tup_new nq (xb _ 2)
      rw [e]
      clear e
      refine ⟨by show 7 ≤ sizeLine; decide, fun q8 nq => ?_⟩
      have m8 : Same G7 (upd G7 q8 (.lst [.ref q1, .ref q2, .ref q3, .ref q4, .ref q5, .ref q6, .ref q7])) := same_upd nq
      have l8 : upd G7 q8 (.lst [.ref q1, .ref q2, .ref q3, .ref q4, .ref q5, .ref q6, .ref q7]) q8 = some (.lst [.ref q1, .ref q2, .ref q3, .ref q4, .ref q5, .ref q6, .ref q7]) := upd_same
      generalize upd G7 q8 (.lst [.ref q1, .ref q2, .ref q3, .ref q4, .ref q5, .ref q6, .ref q7]) = G8 at m8 l8 ⊢
      have mm : Same H10 G8 := ((((((m1.trans m2).trans m3).trans m4).trans m5).trans m6).trans m7).trans m8
      have S11 := S10.same mm
      have tk11 := same_tk mm
      have o1 := w1.tk (same_tk ((((((m2.trans m3).trans m4).trans m5).trans m6).trans m7).trans m8))
      have o2 := w2.tk (same_tk (((((m3.trans m4).trans m5).trans m6).trans m7).trans m8))
      have o3 := w3.tk (same_tk ((((m4.trans m5).trans m6).trans m7).trans m8))
      have o4 := w4.tk (same_tk (((m5.trans m6).trans m7).trans m8))
      have o5 := w5.tk (same_tk ((m6.trans m7).trans m8))
      have o6 := w6.tk (same_tk (m7.trans m8))
      have o7 := w7.tk (same_tk m8)
      have g11 := g10.tk tk11
      have h11 := h10.tk tk11
      have i11 := i10.tk tk11
      clear m1 m2 m3 m4 m5 m6 m7 m8 w1 w2 w3 w4 w5 w6 w7 S10 g10 h10 i10 tk10 tk11 mm xu xp xb xa
      -- other = others[_law_take(tape, 7)]
      refine ⟨_, rfl, _, rfl, p, c, 7, rfl, S11.tape, by decide, by decide, fun r G9 hr0 hr1 k9 t9 => ?_⟩
      have l9 := k9 _ _ l8 (S11.tape.dk l8)
      obtain ⟨ov, oo, oe, od⟩ := seven hr0 hr1 (oa := .unb) (ob := .phase) (oc := .bound 0) (od := .bound 1) (oe := .amb 0 1) (of := .amb 1 2) (og := .bound 2) o1 o2 o3 o4 o5 o6 o7
      have tk9 := k9.tk2 S11.tape
      have S12 := S11.draw k9 t9
      have od' := od.tk tk9
      have g12 := g11.tk tk9
      have h12 := h11.tk tk9
      have i12 := i11.tk tk9
      clear o1 o2 o3 o4 o5 o6 o7 S11 g11 h11 i11 l8 od
      refine ixl l9 oe ?_
      dsimp only [gName]
      -- if not _law_same(judge_outcome(table, phase, first, other), other == due)
      refine ⟨_, rfl, _, rfl, _, rfl, _, rfl, _, v1, ov, bs, ph, n1, _, _, oo, rfl, S12.tbl, wf, h12, od', S12.tab, fun G10 k10' t10' => ?_⟩
      have S13 := S12.judge k10' t10'
      have tk13 := keep_tab_tk S12.tab k10'
      have g13 := g12.tk tk13
      have h13 := h12.tk tk13
      have i13 := i12.tk tk13
      have o13 := od'.tk tk13
      rw [← hoc]
      refine ⟨_, rfl, _, rfl, _, _, o13.dp, g13.dp, sh_out _, sh_out _, ?_⟩
      rw [eqv_out]
      refine ⟨_, _, .bool (decide (oo = oc)), rfl, .bl _, .bl _, by simp [PyData.depth], rfl, true, rfl, iteF ?_⟩
      clear S12 g12 h12 i12 od' tk13 tk9 l9
      -- if not _law_same(same_binder(first, second), ..)
      dsimp only [tNext]
      refine seq_split (t1 := tIfS _ _ _) (fun σ' H' => σ' = [some (.ref sc), some (.ref p), some (.ref a), some (.int ((0 : Int) + (i : Int))), some (.int ph), some v1, some v2', some r8, some (.ref q8), some ov] ∧ H' = G10) ?_ (fun rest => ?_)
      · rintro σ' H' ⟨rfl, rfl⟩
        obtain ⟨xs', a', x'⟩ := S13.lst
        obtain ⟨d, hd, hdp, hsm⟩ := ref_dp (K := K) H' bs (outcome bs ph n1 u1) (outcome bs ph n2' u2') n1 n2'
        refine ⟨_, rfl, a, xs', rfl, .inl ⟨SqL.of a', fun l nl => ?_⟩⟩
        have kl : Same H' (upd H' l (.tup xs')) := same_upd nl
        refine ⟨_, rfl, _, rfl, _, rfl, .ref l, v1, v2', bs, ph, n1, n2', _, _, _, _, rfl, ⟨l, xs', rfl, .inr (SqT.of upd_same), x'.tk (same_tk kl)⟩, wf, h13.tk (same_tk kl), i13.tk (same_tk kl), fun H2 k2 => ?_⟩
        have S14 := (S13.same kl).same k2
        refine ⟨_, rfl, _, rfl, _, rfl, _, rfl, .ref a, v1, v2', bs, ph, n1, n2', _, _, _, _, rfl, S14.tbl, wf, (h13.tk (same_tk kl)).tk (same_tk k2), (i13.tk (same_tk kl)).tk (same_tk k2), fun H3 k3 => ?_⟩
        obtain ⟨d, hd, hdp, hsm⟩ := ref_dp (K := K) H3 bs (outcome bs ph n1 u1) (outcome bs ph n2' u2') n1 n2'
        refine ⟨_, _, d, rfl, hd, hd, hdp, hsm, true, rfl, iteF ?_⟩
        exact ⟨_, _, _, _, _, _, _, rfl, S14.same k3⟩
      · obtain ⟨i1, a2, a3, ei1, hi1, _, hs1⟩ := idE h13
        obtain ⟨i2, b2, b3, ei2, hi2, _, hs2⟩ := idE i13
        refine ⟨_, rfl, _, rfl, v1, v2', n1, n2', _, _, _, _, rfl, h13, i13, ?_⟩
        subst ei1 ei2
        refine ⟨_, rfl, tc (ixt hi1 (atI_nat (j := 1) rfl) ⟨_, rfl, tc (ixt hi2 (atI_nat (j := 1) rfl) ⟨rfl, _, rfl, ?_⟩)⟩)⟩
        rw [dec_str]
        by_cases hn : n1 = n2'
        · rw [decide_eq_true hn]
          refine iteT ⟨_, rfl, tc (ixt hi1 (atI_nat (j := 3) rfl) ⟨_, rfl, tc (ixt hi2 (atI_nat (j := 3) rfl) ⟨_, _, hs1.dp, hs2.dp, sh_set _, sh_set _, ?_⟩)⟩)⟩
          rw [eqv_set, Bool.true_and]
          exact ⟨_, _, .bool _, rfl, .bl _, .bl _, by simp [PyData.depth], rfl, true, rfl, iteF (rest _ _ ⟨rfl, rfl⟩)⟩
        · rw [decide_eq_false hn, Bool.false_and]
          refine iteF ?_
          exact ⟨_, _, .bool _, rfl, .bl _, .bl _, by simp [PyData.depth], rfl, true, rfl, iteF (rest _ _ ⟨rfl, rfl⟩)⟩
    · refine ⟨_, rfl, p, c, 3, rfl, t6, by decide, by decide, fun r H7 r0 r1 k7 t7 => ⟨rfl, _, rfl, ite2 (fun cz => ?_) (fun cz => ?_)⟩⟩
      · have S7 := S6.draw k7 t7
        have e1 := d16.tk (k7.tk2 t6)
        have e2 := d2.tk (k7.tk2 t6)
        obtain ⟨i1, a2, a3, ei1, hi1, ha2, ha3⟩ := idE e1
        obtain ⟨i2, b2, b3, ei2, hi2, hb2, hb3⟩ := idE e2
        subst ei1 ei2
        refine ⟨_, rfl, 2, rfl, sl4 hi1 (by decide) (ys := [.str "id", .str n1]) rfl fun p1_ np1 => ?_⟩
        have k1 := same_upd (o := .tup [.str "id", .str n1]) np1
        have c1 : upd H7 p1_ (.tup [.str "id", .str n1]) p1_ = some (.tup [.str "id", .str n1]) := upd_same
        generalize upd H7 p1_ (.tup [.str "id", .str n1]) = G1 at k1 c1 ⊢
        refine ⟨_, rfl, 2, rfl, 3, rfl, sl4 (k1 _ _ hi2) (by decide) (ys := [b2]) rfl fun p2_ np2 => ?_⟩
        have k2 := same_upd (o := .tup [b2]) np2
        have c2 : upd G1 p2_ (.tup [b2]) p2_ = some (.tup [b2]) := upd_same
        generalize upd G1 p2_ (.tup [b2]) = G2 at k2 c2 ⊢
        refine catT (k2 _ _ c1) c2 (by simp) (by simp) (by show 3 ≤ sizeLine; decide) fun p3_ np3 => ?_
        have k3 := same_upd (o := .tup ([.str "id", .str n1] ++ [b2])) np3
        have c3 : upd G2 p3_ (.tup ([.str "id", .str n1] ++ [b2])) p3_ = some (.tup ([.str "id", .str n1] ++ [b2])) := upd_same
        generalize upd G2 p3_ (.tup ([.str "id", .str n1] ++ [b2])) = G3 at k3 c3 ⊢
        refine ⟨_, rfl, 3, rfl, ?_⟩
        dsimp only [tNoPart]
        refine sl4 (k3 _ _ (k2 _ _ (k1 _ _ hi1))) (by decide) (ys := [a3]) rfl fun p4_ np4 => ?_
        have k4' := same_upd (o := .tup [a3]) np4
        have c4 : upd G3 p4_ (.tup [a3]) p4_ = some (.tup [a3]) := upd_same
        generalize upd G3 p4_ (.tup [a3]) = G4 at k4' c4 ⊢
        refine catT (k4' _ _ c3) c4 (by simp) (by simp) (by show 4 ≤ sizeLine; decide) fun p5_ np5 => ?_
        have k5' := same_upd (o := .tup ([.str "id", .str n1] ++ [b2] ++ [a3])) np5
        have c5 : upd G4 p5_ (.tup ([.str "id", .str n1] ++ [b2] ++ [a3])) p5_ = some (.tup [.str "id", .str n1, b2, a3]) := upd_same
        generalize upd G4 p5_ (.tup ([.str "id", .str n1] ++ [b2] ++ [a3])) = G5 at k5' c5 ⊢
        have kk : Same H7 G5 := (((k1.trans k2).trans k3).trans k4').trans k5'
        have tk := same_tk kk
        exact rest _ _ ⟨.ref p5_, n1, p2, u1, rfl, S7.same kk, e1.tk tk, .tup c5 (.cons (.str _) (.cons (.str _) (.cons (hb2.tk tk) (.cons (ha3.tk tk) .nil))))⟩
      · exact rest _ _ ⟨v2, n2, p2, u2, rfl, S6.draw k7 t7, d16.tk (k7.tk2 t6), d2.tk (k7.tk2 t6)⟩
  · rintro σ H3 ⟨y3, y4, y5, y6, y7, y8, y9, rfl, S3⟩
    exact q H3
end
end W6
set_option Elab.async false
set_option linter.all false
set_option maxRecDepth 100000
set_option maxHeartbeats 4000000
namespace W6
open PySem PySem.Spec PyProof.Rows L2 Com EnumT GxR
/-- the end for a law of which a def holds a generator expression: the def's table is told -/
theorem walk_ofTab {l : PySem.W.OpenLaw} {n k : Nat} {q : Program} {loose : List Str} {XP : (Str → Option Value) → Heap → Prop} {YP : World → Heap → Prop} {d dJ : DefRec} {K : Params → PySem.W.Frag} {CX : World → CXT} {x xJ : Str}
    (hn : l.most = some n) (hn2 : n ≤ sizeLine) (hdf : d.params.defaults = []) (hr : Room k callerA) (hrec : (recsOf q).find? (fun e => e.name == xJ) = some dJ) (hY : ∀ (w : World) (h : Heap), YP w h → (K w.params).In h)
    (F : ∀ (w : World) (mg : Str → Option Value) (fa : Addr) (h : Heap), YP w h → (K w.params).In h → h.Ns mainGlobals mg → mg d.name = some (.ref fa) →
      (∀ c P : Addr, PySem.W.tabIn (K w.params) xJ = some (c, P) → PySem.W.CodeHd h c P ∧ h.get? P = some (PySem.W.tabObj #[])) → LamX.LawAtS l w (K w.params) (CX w) k n x mg fa h)
    (hCX : ∀ (w : World) (H : Hp) (s : Shared) (e : Value) (s' : Shared), CX w [] H s (fun _ _ _ => False) e s' → False) :
    PySem.W.WalkO q loose XP YP l.row.toRowW d [] (fun f vs => PySem.call f vs) := by
  refine Att.attach_callB hn hdf fun w s₀ s₁ mg mb fa o pm cd doc a vs ns G Y ho hd hcd hmg hobj hints hlen hbits hg => ?_
  have KX := hY w _ Y
  obtain ⟨fd, cs, sp, hT, nT, C, hb, hsp, hF⟩ := F w mg fa _ Y KX G.T.g hmg (fun c P ht => PySem.W.tab_of G.T KX hrec ht)
  exact LamX.law_callTs KX G.T.g G.T.b G.T.builtins G.T.nolimit hg hT nT C G.T.bmain hobj hints (Nat.le_trans hlen hn2) hr hF hb (fun H hH hS => hsp H a ns hlen hbits hH hS) fun H e s' => hCX w H s₁ e s'
section
variable {P : Program} {w : World} {K : PySem.W.Frag} {mg : Str → Option Value} {base : Heap}
theorem no_items {f : Addr} {fd : FuncData} (F : Dfn K mg "_law_same_items" st__law_same_items f fd ["actual", "expected"]) : Cal P w K mg base 1 "_law_same_items" (spItems K 0) := by
  have no : ∀ vs H Q E, ¬ spItems K 0 vs H Q E := fun vs H Q E h => by
    obtain ⟨_, _, _, _, _, _, _, _, _, _, h, _⟩ := h
    omega
  exact ⟨f, fd, _, ⟨fun vs H Q E h => absurd h (no vs H Q E), fun A outer s H args us vs Q E _ _ _ _ h => absurd h (no vs H Q E)⟩, F.mgf, F.fn.kp, F.b⟩
end
theorem all_mk {l : PySem.W.OpenLaw} {w : World} {K : PySem.W.Frag} {h : Heap} {mg : Str → Option Value} {fa cJ PJ : Addr} {f1 f2 f3 f4 f5 f6 f7 f8 f9 f10 f11 f12 f13 f14 f15 f16 f17 f18 f19 : Addr}
    {od1 an1 od2 an2 od3 an3 od4 an4 od5 an5 od6 an6 od7 an7 od8 an8 od9 an9 od10 an10 od11 an11 od12 an12 od13 an13 od14 an14 od15 an15 od16 an16 od17 an17 od18 an18 od19 an19 : Option Addr} {sl1 sl2 sl3 sl4 sl5 sl6 sl7 sl8 sl9 sl10 sl11 sl12 sl13 sl14 sl15 sl16 sl17 sl18 sl19 : Array (Option Value)}
    {cd1 oc1 kV1 dc1 pm1 ct1 cd2 oc2 kV2 dc2 pm2 ct2 cd3 oc3 kV3 dc3 pm3 ct3 cd4 oc4 kV4 dc4 pm4 ct4 cd5 oc5 kV5 dc5 pm5 ct5 cd6 oc6 kV6 dc6 pm6 ct6 oc7 kV7 dc7 pm7 ct7 cd8 oc8 kV8 dc8 pm8 ct8 cd9 oc9 kV9 dc9 pm9 ct9 cd10 oc10 kV10 dc10 pm10 ct10 cd11 oc11 kV11 dc11 pm11 ct11 cd12 oc12 kV12 dc12 pm12 ct12 cd13 oc13 kV13 dc13 pm13 ct13 cd14 oc14 kV14 dc14 pm14 ct14 cd15 oc15 kV15 dc15 pm15 ct15 cd16 oc16 kV16 dc16 pm16 ct16 cd17 oc17 kV17 dc17 pm17 ct17 cd18 oc18 kV18 dc18 pm18 ct18 cd19 oc19 kV19 dc19 pm19 ct19 : Value} (X : K.In h) (G : h.Ns mainGlobals mg) (hfa : mg "law" = some (.ref fa)) (T : ∀ c P : Addr, PySem.W.tabIn K "judge_outcome" = some (c, P) → PySem.W.CodeHd h c P ∧ h.get? P = some (PySem.W.tabObj #[]))
    (a1 : PySem.W.nsIn K mainGlobals "_is_included" = some (some (.ref f1))) (l1 : K.lookup f1 = some ⟨oc1, od1, .func (PySem.W.fnOf "_is_included" "_is_included" (defArgs st__is_included) (defBody st__is_included) (defScope st__is_included) .none kV1 dc1 pm1 an1 cd1 ct1), sl1⟩) (c1 : PySem.W.codeIn K cd1 "_is_included" = true) (k1 : PySem.W.keepIn K (.ref f1) = true)
    (a2 : PySem.W.nsIn K mainGlobals "_is_in_one_of" = some (some (.ref f2))) (l2 : K.lookup f2 = some ⟨oc2, od2, .func (PySem.W.fnOf "_is_in_one_of" "_is_in_one_of" (defArgs st__is_in_one_of) (defBody st__is_in_one_of) (defScope st__is_in_one_of) .none kV2 dc2 pm2 an2 cd2 ct2), sl2⟩) (c2 : PySem.W.codeIn K cd2 "_is_in_one_of" = true) (k2 : PySem.W.keepIn K (.ref f2) = true)
    (a3 : PySem.W.nsIn K mainGlobals "_greatest" = some (some (.ref f3))) (l3 : K.lookup f3 = some ⟨oc3, od3, .func (PySem.W.fnOf "_greatest" "_greatest" (defArgs st__greatest) (defBody st__greatest) (defScope st__greatest) .none kV3 dc3 pm3 an3 cd3 ct3), sl3⟩) (c3 : PySem.W.codeIn K cd3 "_greatest" = true) (k3 : PySem.W.keepIn K (.ref f3) = true)
    (a4 : PySem.W.nsIn K mainGlobals "resolve" = some (some (.ref f4))) (l4 : K.lookup f4 = some ⟨oc4, od4, .func (PySem.W.fnOf "resolve" "resolve" (defArgs st_resolve) (defBody st_resolve) (defScope st_resolve) .none kV4 dc4 pm4 an4 cd4 ct4), sl4⟩) (c4 : PySem.W.codeIn K cd4 "resolve" = true) (k4 : PySem.W.keepIn K (.ref f4) = true)
    (a5 : PySem.W.nsIn K mainGlobals "same_binder" = some (some (.ref f5))) (l5 : K.lookup f5 = some ⟨oc5, od5, .func (PySem.W.fnOf "same_binder" "same_binder" (defArgs st_same_binder) (defBody st_same_binder) (defScope st_same_binder) .none kV5 dc5 pm5 an5 cd5 ct5), sl5⟩) (c5 : PySem.W.codeIn K cd5 "same_binder" = true) (k5 : PySem.W.keepIn K (.ref f5) = true)
    (a6 : PySem.W.nsIn K mainGlobals "same_reference" = some (some (.ref f6))) (l6 : K.lookup f6 = some ⟨oc6, od6, .func (PySem.W.fnOf "same_reference" "same_reference" (defArgs st_same_reference) (defBody st_same_reference) (defScope st_same_reference) .none kV6 dc6 pm6 an6 cd6 ct6), sl6⟩) (c6 : PySem.W.codeIn K cd6 "same_reference" = true) (k6 : PySem.W.keepIn K (.ref f6) = true)
    (a7 : PySem.W.nsIn K mainGlobals "judge_outcome" = some (some (.ref f7))) (l7 : K.lookup f7 = some ⟨oc7, od7, .func (PySem.W.fnOf "judge_outcome" "judge_outcome" (defArgs st_judge_outcome) (defBody st_judge_outcome) (defScope st_judge_outcome) .none kV7 dc7 pm7 an7 (.ref cJ) ct7), sl7⟩) (c7 : PySem.W.codeIn K (.ref cJ) "judge_outcome" = true) (k7 : PySem.W.keepIn K (.ref f7) = true)
    (a8 : PySem.W.nsIn K mainGlobals "_law_tape" = some (some (.ref f8))) (l8 : K.lookup f8 = some ⟨oc8, od8, .func (PySem.W.fnOf "_law_tape" "_law_tape" (defArgs st__law_tape) (defBody st__law_tape) (defScope st__law_tape) .none kV8 dc8 pm8 an8 cd8 ct8), sl8⟩) (c8 : PySem.W.codeIn K cd8 "_law_tape" = true) (k8 : PySem.W.keepIn K (.ref f8) = true)
    (a9 : PySem.W.nsIn K mainGlobals "_law_take" = some (some (.ref f9))) (l9 : K.lookup f9 = some ⟨oc9, od9, .func (PySem.W.fnOf "_law_take" "_law_take" (defArgs st__law_take) (defBody st__law_take) (defScope st__law_take) .none kV9 dc9 pm9 an9 cd9 ct9), sl9⟩) (c9 : PySem.W.codeIn K cd9 "_law_take" = true) (k9 : PySem.W.keepIn K (.ref f9) = true)
    (a10 : PySem.W.nsIn K mainGlobals "_law_is_integer" = some (some (.ref f10))) (l10 : K.lookup f10 = some ⟨oc10, od10, .func (PySem.W.fnOf "_law_is_integer" "_law_is_integer" (defArgs st__law_is_integer) (defBody st__law_is_integer) (defScope st__law_is_integer) .none kV10 dc10 pm10 an10 cd10 ct10), sl10⟩) (c10 : PySem.W.codeIn K cd10 "_law_is_integer" = true) (k10 : PySem.W.keepIn K (.ref f10) = true)
    (a11 : PySem.W.nsIn K mainGlobals "_law_same_items" = some (some (.ref f11))) (l11 : K.lookup f11 = some ⟨oc11, od11, .func (PySem.W.fnOf "_law_same_items" "_law_same_items" (defArgs st__law_same_items) (defBody st__law_same_items) (defScope st__law_same_items) .none kV11 dc11 pm11 an11 cd11 ct11), sl11⟩) (c11 : PySem.W.codeIn K cd11 "_law_same_items" = true) (k11 : PySem.W.keepIn K (.ref f11) = true)
    (a12 : PySem.W.nsIn K mainGlobals "_law_same" = some (some (.ref f12))) (l12 : K.lookup f12 = some ⟨oc12, od12, .func (PySem.W.fnOf "_law_same" "_law_same" (defArgs st__law_same) (defBody st__law_same) (defScope st__law_same) .none kV12 dc12 pm12 an12 cd12 ct12), sl12⟩) (c12 : PySem.W.codeIn K cd12 "_law_same" = true) (k12 : PySem.W.keepIn K (.ref f12) = true)
    (a13 : PySem.W.nsIn K mainGlobals "_law_set" = some (some (.ref f13))) (l13 : K.lookup f13 = some ⟨oc13, od13, .func (PySem.W.fnOf "_law_set" "_law_set" (defArgs st__law_set) (defBody st__law_set) (defScope st__law_set) .none kV13 dc13 pm13 an13 cd13 ct13), sl13⟩) (c13 : PySem.W.codeIn K cd13 "_law_set" = true) (k13 : PySem.W.keepIn K (.ref f13) = true)
    (a14 : PySem.W.nsIn K mainGlobals "_law_table" = some (some (.ref f14))) (l14 : K.lookup f14 = some ⟨oc14, od14, .func (PySem.W.fnOf "_law_table" "_law_table" (defArgs st__law_table) (defBody st__law_table) (defScope st__law_table) .none kV14 dc14 pm14 an14 cd14 ct14), sl14⟩) (c14 : PySem.W.codeIn K cd14 "_law_table" = true) (k14 : PySem.W.keepIn K (.ref f14) = true)
    (a15 : PySem.W.nsIn K mainGlobals "_law_includes" = some (some (.ref f15))) (l15 : K.lookup f15 = some ⟨oc15, od15, .func (PySem.W.fnOf "_law_includes" "_law_includes" (defArgs st__law_includes) (defBody st__law_includes) (defScope st__law_includes) .none kV15 dc15 pm15 an15 cd15 ct15), sl15⟩) (c15 : PySem.W.codeIn K cd15 "_law_includes" = true) (k15 : PySem.W.keepIn K (.ref f15) = true)
    (a16 : PySem.W.nsIn K mainGlobals "_law_outcome" = some (some (.ref f16))) (l16 : K.lookup f16 = some ⟨oc16, od16, .func (PySem.W.fnOf "_law_outcome" "_law_outcome" (defArgs st__law_outcome) (defBody st__law_outcome) (defScope st__law_outcome) .none kV16 dc16 pm16 an16 cd16 ct16), sl16⟩) (c16 : PySem.W.codeIn K cd16 "_law_outcome" = true) (k16 : PySem.W.keepIn K (.ref f16) = true)
    (a17 : PySem.W.nsIn K mainGlobals "_law_same_reference" = some (some (.ref f17))) (l17 : K.lookup f17 = some ⟨oc17, od17, .func (PySem.W.fnOf "_law_same_reference" "_law_same_reference" (defArgs st__law_same_reference) (defBody st__law_same_reference) (defScope st__law_same_reference) .none kV17 dc17 pm17 an17 cd17 ct17), sl17⟩) (c17 : PySem.W.codeIn K cd17 "_law_same_reference" = true) (k17 : PySem.W.keepIn K (.ref f17) = true)
    (a18 : PySem.W.nsIn K mainGlobals "_law_identifier" = some (some (.ref f18))) (l18 : K.lookup f18 = some ⟨oc18, od18, .func (PySem.W.fnOf "_law_identifier" "_law_identifier" (defArgs st__law_identifier) (defBody st__law_identifier) (defScope st__law_identifier) .none kV18 dc18 pm18 an18 cd18 ct18), sl18⟩) (c18 : PySem.W.codeIn K cd18 "_law_identifier" = true) (k18 : PySem.W.keepIn K (.ref f18) = true)
    (a19 : PySem.W.nsIn K mainGlobals "law" = some (some (.ref f19))) (l19 : K.lookup f19 = some ⟨oc19, od19, .func (PySem.W.fnOf "law" "law" (defArgs st_law) (defBody st_law) (defScope st_law) .none kV19 dc19 pm19 an19 cd19 ct19), sl19⟩) (c19 : PySem.W.codeIn K cd19 "law" = true) (k19 : PySem.W.keepIn K (.ref f19) = true)
    {oJ : Value} {dJ : Option Addr} {vJ : Array Value} {sJ : Array (Option Value)} (lJ : K.lookup cJ = some ⟨oJ, dJ, .fields vJ, sJ⟩) (eJ : (vJ[11]? : Option Value) = some (.ref PJ)) (nJ : K.lookup PJ = none)
    (z1 : PySem.W.nsIn K mainGlobals "len" = some none) (z2 : PySem.W.nsIn K mainGlobals "abs" = some none) (z3 : PySem.W.nsIn K mainGlobals "int" = some none) (z4 : PySem.W.nsIn K mainGlobals "bool" = some none) (z5 : PySem.W.nsIn K mainGlobals "str" = some none) (z6 : PySem.W.nsIn K mainGlobals "tuple" = some none) (z7 : PySem.W.nsIn K mainGlobals "list" = some none) (z8 : PySem.W.nsIn K mainGlobals "range" = some none) (z9 : PySem.W.nsIn K mainGlobals "enumerate" = some none) (z10 : PySem.W.nsIn K mainGlobals "isinstance" = some none) (z11 : PySem.W.nsIn K mainGlobals "sorted" = some none) (z12 : PySem.W.nsIn K mainGlobals "any" = some none) : LamX.LawAtS l w K CX0 6 63 "script" mg fa h := by
  have tJ : PySem.W.tabIn K "judge_outcome" = some (cJ, PJ) := by
    unfold PySem.W.tabIn
    simp only [a7, l7, lJ, eJ, PySem.W.fnOf]
  obtain ⟨TC, TP⟩ := T cJ PJ tJ
  have e := hfa.symm.trans (PySem.W.mg_of X G a19)
  cases e
  have M : Mg mg := ⟨PySem.W.mg_none_of X G z1, PySem.W.mg_none_of X G z2, PySem.W.mg_none_of X G z3, PySem.W.mg_none_of X G z4, PySem.W.mg_none_of X G z5, PySem.W.mg_none_of X G z6, PySem.W.mg_none_of X G z7, PySem.W.mg_none_of X G z8, PySem.W.mg_none_of X G z9, PySem.W.mg_none_of X G z10, PySem.W.mg_none_of X G z11, PySem.W.mg_none_of X G z12⟩
  have E1 := fun_mk (st := st__is_included) l1 c1 k1
  have b1 := E1.binds (ps := ["small", "large"]) fun _ _ _ _ _ _ us hl => match us, hl with | [_, _], _ => rfl
  have F1 : Dfn K mg "_is_included" st__is_included f1 _ ["small", "large"] := ⟨E1, PySem.W.mg_of X G a1, b1⟩
  have E2 := fun_mk (st := st__is_in_one_of) l2 c2 k2
  have b2 := E2.binds (ps := ["table", "at", "others"]) fun _ _ _ _ _ _ us hl => match us, hl with | [_, _, _], _ => rfl
  have F2 : Dfn K mg "_is_in_one_of" st__is_in_one_of f2 _ ["table", "at", "others"] := ⟨E2, PySem.W.mg_of X G a2, b2⟩
  have E3 := fun_mk (st := st__greatest) l3 c3 k3
  have b3 := E3.binds (ps := ["table", "candidates"]) fun _ _ _ _ _ _ us hl => match us, hl with | [_, _], _ => rfl
  have F3 : Dfn K mg "_greatest" st__greatest f3 _ ["table", "candidates"] := ⟨E3, PySem.W.mg_of X G a3, b3⟩
  have E4 := fun_mk (st := st_resolve) l4 c4 k4
  have b4 := E4.binds (ps := ["table", "phase", "identifier"]) fun _ _ _ _ _ _ us hl => match us, hl with | [_, _, _], _ => rfl
  have F4 : Dfn K mg "resolve" st_resolve f4 _ ["table", "phase", "identifier"] := ⟨E4, PySem.W.mg_of X G a4, b4⟩
  have E5 := fun_mk (st := st_same_binder) l5 c5 k5
  have b5 := E5.binds (ps := ["first", "second"]) fun _ _ _ _ _ _ us hl => match us, hl with | [_, _], _ => rfl
  have F5 : Dfn K mg "same_binder" st_same_binder f5 _ ["first", "second"] := ⟨E5, PySem.W.mg_of X G a5, b5⟩
  have E6 := fun_mk (st := st_same_reference) l6 c6 k6
  have b6 := E6.binds (ps := ["table", "phase", "first", "second"]) fun _ _ _ _ _ _ us hl => match us, hl with | [_, _, _, _], _ => rfl
  have F6 : Dfn K mg "same_reference" st_same_reference f6 _ ["table", "phase", "first", "second"] := ⟨E6, PySem.W.mg_of X G a6, b6⟩
  have E7 := funC_mk (st := st_judge_outcome) l7 c7 k7
  have b7 := E7.fun.binds (ps := ["table", "phase", "identifier", "told"]) fun _ _ _ _ _ _ us hl => match us, hl with | [_, _, _, _], _ => rfl
  have F7 : DfnC K mg "judge_outcome" st_judge_outcome f7 _ ["table", "phase", "identifier", "told"] cJ := ⟨E7, PySem.W.mg_of X G a7, b7⟩
  have E8 := fun_mk (st := st__law_tape) l8 c8 k8
  have b8 := E8.binds (ps := ["script"]) fun _ _ _ _ _ _ us hl => match us, hl with | [_], _ => rfl
  have F8 : Dfn K mg "_law_tape" st__law_tape f8 _ ["script"] := ⟨E8, PySem.W.mg_of X G a8, b8⟩
  have E9 := fun_mk (st := st__law_take) l9 c9 k9
  have b9 := E9.binds (ps := ["tape", "many"]) fun _ _ _ _ _ _ us hl => match us, hl with | [_, _], _ => rfl
  have F9 : Dfn K mg "_law_take" st__law_take f9 _ ["tape", "many"] := ⟨E9, PySem.W.mg_of X G a9, b9⟩
  have E10 := fun_mk (st := st__law_is_integer) l10 c10 k10
  have b10 := E10.binds (ps := ["actual"]) fun _ _ _ _ _ _ us hl => match us, hl with | [_], _ => rfl
  have F10 : Dfn K mg "_law_is_integer" st__law_is_integer f10 _ ["actual"] := ⟨E10, PySem.W.mg_of X G a10, b10⟩
  have E11 := fun_mk (st := st__law_same_items) l11 c11 k11
  have b11 := E11.binds (ps := ["actual", "expected"]) fun _ _ _ _ _ _ us hl => match us, hl with | [_, _], _ => rfl
  have F11 : Dfn K mg "_law_same_items" st__law_same_items f11 _ ["actual", "expected"] := ⟨E11, PySem.W.mg_of X G a11, b11⟩
  have E12 := fun_mk (st := st__law_same) l12 c12 k12
  have b12 := E12.binds (ps := ["actual", "expected"]) fun _ _ _ _ _ _ us hl => match us, hl with | [_, _], _ => rfl
  have F12 : Dfn K mg "_law_same" st__law_same f12 _ ["actual", "expected"] := ⟨E12, PySem.W.mg_of X G a12, b12⟩
  have E13 := fun_mk (st := st__law_set) l13 c13 k13
  have b13 := E13.binds (ps := ["tape", "much"]) fun _ _ _ _ _ _ us hl => match us, hl with | [_, _], _ => rfl
  have F13 : Dfn K mg "_law_set" st__law_set f13 _ ["tape", "much"] := ⟨E13, PySem.W.mg_of X G a13, b13⟩
  have E14 := fun_mk (st := st__law_table) l14 c14 k14
  have b14 := E14.binds (ps := ["tape"]) fun _ _ _ _ _ _ us hl => match us, hl with | [_], _ => rfl
  have F14 : Dfn K mg "_law_table" st__law_table f14 _ ["tape"] := ⟨E14, PySem.W.mg_of X G a14, b14⟩
  have E15 := fun_mk (st := st__law_includes) l15 c15 k15
  have b15 := E15.binds (ps := ["outer", "inner"]) fun _ _ _ _ _ _ us hl => match us, hl with | [_, _], _ => rfl
  have F15 : Dfn K mg "_law_includes" st__law_includes f15 _ ["outer", "inner"] := ⟨E15, PySem.W.mg_of X G a15, b15⟩
  have E16 := fun_mk (st := st__law_outcome) l16 c16 k16
  have b16 := E16.binds (ps := ["table", "phase", "identifier"]) fun _ _ _ _ _ _ us hl => match us, hl with | [_, _, _], _ => rfl
  have F16 : Dfn K mg "_law_outcome" st__law_outcome f16 _ ["table", "phase", "identifier"] := ⟨E16, PySem.W.mg_of X G a16, b16⟩
  have E17 := fun_mk (st := st__law_same_reference) l17 c17 k17
  have b17 := E17.binds (ps := ["table", "phase", "first", "second"]) fun _ _ _ _ _ _ us hl => match us, hl with | [_, _, _, _], _ => rfl
  have F17 : Dfn K mg "_law_same_reference" st__law_same_reference f17 _ ["table", "phase", "first", "second"] := ⟨E17, PySem.W.mg_of X G a17, b17⟩
  have E18 := fun_mk (st := st__law_identifier) l18 c18 k18
  have b18 := E18.binds (ps := ["tape"]) fun _ _ _ _ _ _ us hl => match us, hl with | [_], _ => rfl
  have F18 : Dfn K mg "_law_identifier" st__law_identifier f18 _ ["tape"] := ⟨E18, PySem.W.mg_of X G a18, b18⟩
  have E19 := fun_mk (st := st_law) l19 c19 k19
  have b19 := E19.binds (ps := ["script"]) fun _ _ _ _ _ _ us hl => match us, hl with | [_], _ => rfl
  have F19 : Dfn K mg "law" st_law fa _ ["script"] := ⟨E19, PySem.W.mg_of X G a19, b19⟩
  refine ⟨PySem.W.fnOf "law" "law" (defArgs st_law) (defBody st_law) (defScope st_law) .none kV19 dc19 pm19 an19 cd19 ct19, [(cJ, PJ)], spLaw K PJ, fun p hp => by rw [List.mem_singleton.mp hp]; exact TP, fun p hp => by rw [List.mem_singleton.mp hp]; exact nJ, fun p hp => by rw [List.mem_singleton.mp hp]; exact TC, fun s v => .of_eq rfl,
    fun H a ns hl _ hP hS => ⟨a, ns, rfl, hS, hl, ⟨#[], hP _ (List.mem_singleton.mpr rfl), trivial⟩, fun _ => rfl⟩, fun base _ _ hTb => ?_⟩
  have TB0 := hTb _ (List.mem_singleton.mpr rfl)
  have TB : GxR.TabB base mg cJ PJ := ⟨TB0.code, TB0.bm, TB0.gP⟩
  have C1 : Cal l.prog w K mg base 1 "_is_included" spIncl := ok_is_included F1 M
  have C2 := ok_is_in_one_of F2 M C1
  have C3 := ok_greatest F3 M C2
  have C4 := ok_resolve F4 M C1 C3
  have C5 := ok_judge_outcome F7 M TB C4
  have C6 : Cal l.prog w K mg base 1 "same_binder" spBinder := ok_same_binder F5 M
  have C7 := ok_same_reference F6 M C4
  have C8 : Cal l.prog w K mg base 1 "_law_tape" (spTape K) := ok_law_tape F8 M
  have C9 : Cal l.prog w K mg base 1 "_law_take" spTake := ok_law_take F9 M
  have C10 : Cal l.prog w K mg base 1 "_law_is_integer" spInt := ok_law_is_integer F10 M
  have C11 : Cal l.prog w K mg base 1 "_law_same_items" (spItems K 0) := no_items F11
  have C12 := ok_law_same (n := 0) F12 M C10 C11
  have C13 := ok_law_same_items (n := 0) F11 M C12
  have C14 := ok_law_same (n := 1) F12 M C10 C13
  have C15 := ok_law_set F13 M C9
  have C16 := ok_law_identifier F18 M C9 C15
  have C17 := ok_law_table F14 M C9 C15
  have C18 : Cal l.prog w K mg base 1 "_law_includes" spLIncl := ok_law_includes F15 M
  have C19 := ok_law_outcome F16 M C18
  have C20 := ok_law_same_reference F17 M C19
  exact ok_law F19 M C8 C9 C17 C16 C19 C14 C4 C5 C6 C7 C20
end W6
open PySem PySem.W PyProof.Rows
set_option maxRecDepth 100000 in
set_option maxHeartbeats 0 in
theorem PySem.Challenge.cw_wherewritten_k06_whole_resolution_holds : PySem.Challenge.rw_wherewritten_k06_whole_resolution.Holds := by
  w_on; o_law; k_head; (case hw => w_witness2)
  k_fill
  refine W6.walk_ofTab (l := PySem.Challenge.rw_wherewritten_k06_whole_resolution) (n := 63) (k := 6) (x := "script") (xJ := "judge_outcome") (CX := fun _ => L2.CX0) rfl (by decide) rfl ⟨rfl, by decide, by decide⟩ rfl (fun w h Y => PySem.W.kIn_of Y) ?F (fun _ _ _ _ _ h => h)
  case F =>
    intro w mg fa h _ KX G hmg T
    refine' W6.all_mk KX G hmg T ?a1 ?l1 ?c1 ?k1 ?a2 ?l2 ?c2 ?k2 ?a3 ?l3 ?c3 ?k3 ?a4 ?l4 ?c4 ?k4 ?a5 ?l5 ?c5 ?k5 ?a6 ?l6 ?c6 ?k6 ?a7 ?l7 ?c7 ?k7 ?a8 ?l8 ?c8 ?k8 ?a9 ?l9 ?c9 ?k9 ?a10 ?l10 ?c10 ?k10 ?a11 ?l11 ?c11 ?k11 ?a12 ?l12 ?c12 ?k12 ?a13 ?l13 ?c13 ?k13 ?a14 ?l14 ?c14 ?k14 ?a15 ?l15 ?c15 ?k15 ?a16 ?l16 ?c16 ?k16 ?a17 ?l17 ?c17 ?k17 ?a18 ?l18 ?c18 ?k18 ?a19 ?l19 ?c19 ?k19 ?lJ ?eJ ?nJ ?z1 ?z2 ?z3 ?z4 ?z5 ?z6 ?z7 ?z8 ?z9 ?z10 ?z11 ?z12
    (case a1 => k_is); (case l1 => k_is); (case c1 => k_is); (case k1 => k_is)
    (case a2 => k_is); (case l2 => k_is); (case c2 => k_is); (case k2 => k_is)
    (case a3 => k_is); (case l3 => k_is); (case c3 => k_is); (case k3 => k_is)
    (case a4 => k_is); (case l4 => k_is); (case c4 => k_is); (case k4 => k_is)
    (case a5 => k_is); (case l5 => k_is); (case c5 => k_is); (case k5 => k_is)
    (case a6 => k_is); (case l6 => k_is); (case c6 => k_is); (case k6 => k_is)
    (case a7 => k_is); (case l7 => k_is); (case c7 => k_is); (case k7 => k_is)
    (case a8 => k_is); (case l8 => k_is); (case c8 => k_is); (case k8 => k_is)
    (case a9 => k_is); (case l9 => k_is); (case c9 => k_is); (case k9 => k_is)
    (case a10 => k_is); (case l10 => k_is); (case c10 => k_is); (case k10 => k_is)
    (case a11 => k_is); (case l11 => k_is); (case c11 => k_is); (case k11 => k_is)
    (case a12 => k_is); (case l12 => k_is); (case c12 => k_is); (case k12 => k_is)
    (case a13 => k_is); (case l13 => k_is); (case c13 => k_is); (case k13 => k_is)
    (case a14 => k_is); (case l14 => k_is); (case c14 => k_is); (case k14 => k_is)
    (case a15 => k_is); (case l15 => k_is); (case c15 => k_is); (case k15 => k_is)
    (case a16 => k_is); (case l16 => k_is); (case c16 => k_is); (case k16 => k_is)
    (case a17 => k_is); (case l17 => k_is); (case c17 => k_is); (case k17 => k_is)
    (case a18 => k_is); (case l18 => k_is); (case c18 => k_is); (case k18 => k_is)
    (case a19 => k_is); (case l19 => k_is); (case c19 => k_is); (case k19 => k_is)
    (case lJ => k_is); (case eJ => rfl); (case nJ => kernel_rfl)
    (case z1 => k_is); (case z2 => k_is); (case z3 => k_is); (case z4 => k_is); (case z5 => k_is); (case z6 => k_is); (case z7 => k_is); (case z8 => k_is); (case z9 => k_is); (case z10 => k_is); (case z11 => k_is); (case z12 => k_is)
