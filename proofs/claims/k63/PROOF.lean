import PyProof.Rows.All
import Wide.All
import OpenK.AllK
import Wide.FinOn
import HandS.Base
import HandS.Call
import HandS.List
import HandS.Words
import HandS.WordsList
import HandS.WordsDict
import HandS.Comp
import HandS.Dict
import HandS.Iter
import HandS.Ends
import HandS.IsInst
import HandS.Deep
import HandS.Style
import HandS.Flow
import HandS.TupAny
import HandS.SortInts
import HandS.EndTab
import KE.SortData
import HandS.DictComp
import HandS.More
import HandS.Conv
import KE.KDictDisplayH
import PySem.Challenge.RW_wherewritten_k63_reach
set_option Elab.async false
set_option linter.all false
set_option maxRecDepth 100000
set_option maxHeartbeats 4000000
namespace Com
open PySem PySem.Spec PyProof.Rows L2
/-! data that are tuples all the way down -/
mutual
inductive Dt (H : Hp) : V → PyData → Prop
  | non : Dt H .non .none
  | bl (b : Bool) : Dt H (.bl b) (.bool b)
  | int (i : Int) : Dt H (.int i) (.int i)
  | str (x : Str) : Dt H (.str x) (.str x)
  | tup {a : Addr} {xs : List V} {ds : List PyData} : H a = some (.tup xs) → DtAll H xs ds → Dt H (.ref a) (.tuple ds)
inductive DtAll (H : Hp) : List V → List PyData → Prop
  | nil : DtAll H [] []
  | cons {v : V} {vs : List V} {d : PyData} {ds : List PyData} : Dt H v d → DtAll H vs ds → DtAll H (v :: vs) (d :: ds)
end
/-- the tuples stand -/
def Tk (H H' : Hp) : Prop := ∀ a xs, H a = some (.tup xs) → H' a = some (.tup xs)
theorem Tk.refl (H : Hp) : Tk H H := fun _ _ h => h
theorem Tk.trans {H1 H2 H3 : Hp} (a : Tk H1 H2) (b : Tk H2 H3) : Tk H1 H3 := fun c xs h => b c xs (a c xs h)
theorem Tk.upd {H : Hp} {a : Addr} {o : HO} (h : ∀ xs, H a ≠ some (.tup xs)) : Tk H (upd H a o) := fun b xs e => by
  have : b ≠ a := fun z => h xs (z ▸ e)
  rw [upd_ne this]
  exact e
theorem Tk.new {H : Hp} {a : Addr} {o : HO} (h : H a = none) : Tk H (L2.upd H a o) := Tk.upd fun xs e => by rw [h] at e; cases e
mutual
theorem Dt.mono {H H' : Hp} (k : Tk H H') : ∀ (d : PyData) (v : V), Dt H v d → Dt H' v d
  | .none, _, h => by cases h; exact .non
  | .bool _, _, h => by cases h; exact .bl _
  | .int _, _, h => by cases h; exact .int _
  | .str _, _, h => by cases h; exact .str _
  | .list _, _, h => by cases h
  | .tuple ds, _, h => by
    cases h with
    | tup e q => exact .tup (k _ _ e) (DtAll.mono k ds _ q)
  | .dict _, _, h => by cases h
theorem DtAll.mono {H H' : Hp} (k : Tk H H') : ∀ (ds : List PyData) (vs : List V), DtAll H vs ds → DtAll H' vs ds
  | [], _, h => by cases h; exact .nil
  | d :: ds, _, h => by
    cases h with
    | cons h1 h2 => exact .cons (Dt.mono k d _ h1) (DtAll.mono k ds _ h2)
end
theorem Dt.tk {H H' : Hp} {v : V} {d : PyData} (h : Dt H v d) (k : Tk H H') : Dt H' v d := Dt.mono k d v h
theorem DtAll.tk {H H' : Hp} {v : List V} {d : List PyData} (h : DtAll H v d) (k : Tk H H') : DtAll H' v d := DtAll.mono k d v h
mutual
theorem Dt.toDp {K : PySem.W.Frag} {H : Hp} : ∀ (d : PyData) (v : V), Dt H v d → Dp K H v d
  | .none, _, h => by cases h; exact .non
  | .bool _, _, h => by cases h; exact .bl _
  | .int _, _, h => by cases h; exact .int _
  | .str _, _, h => by cases h; exact .str _
  | .list _, _, h => by cases h
  | .tuple ds, _, h => by
    cases h with
    | tup e q => exact .tup (SqT.of e) (DtAll.toDp ds _ q)
  | .dict _, _, h => by cases h
theorem DtAll.toDp {K : PySem.W.Frag} {H : Hp} : ∀ (ds : List PyData) (vs : List V), DtAll H vs ds → DpAll K H vs ds
  | [], _, h => by cases h; exact .nil
  | d :: ds, _, h => by
    cases h with
    | cons h1 h2 => exact .cons (Dt.toDp d _ h1) (DtAll.toDp ds _ h2)
end
theorem Dt.dp {K : PySem.W.Frag} {H : Hp} {v : V} {d : PyData} (h : Dt H v d) : Dp K H v d := Dt.toDp d v h
theorem DtAll.dp {K : PySem.W.Frag} {H : Hp} {v : List V} {d : List PyData} (h : DtAll H v d) : DpAll K H v d := DtAll.toDp d v h
theorem DtAll.len {H : Hp} : ∀ {vs : List V} {ds : List PyData}, DtAll H vs ds → vs.length = ds.length
  | _, _, .nil => rfl
  | _, _, .cons _ h => congrArg (· + 1) h.len
theorem DtAll.get {H : Hp} : ∀ {vs : List V} {ds : List PyData} {i : Nat} {x : V}, DtAll H vs ds → vs[i]? = some x → ∃ d, ds[i]? = some d ∧ Dt H x d
  | _, _, _, _, .nil, e => by simp at e
  | _, _, 0, _, .cons h _, e => by
    simp at e
    subst e
    exact ⟨_, rfl, h⟩
  | _, _, i + 1, _, .cons _ t, e => by
    have e' := e
    simp only [List.getElem?_cons_succ] at e'
    obtain ⟨d, h1, h2⟩ := DtAll.get t e'
    exact ⟨d, by simpa using h1, h2⟩
theorem DtAll.at {H : Hp} {vs : List V} {ds : List PyData} {i : Nat} {d : PyData} (h : DtAll H vs ds) (e : ds[i]? = some d) : ∃ x, vs[i]? = some x ∧ Dt H x d := by
  have hi := (List.getElem?_eq_some_iff.mp e).1
  have hv : i < vs.length := by rw [h.len]; exact hi
  obtain ⟨d', e', q⟩ := h.get (List.getElem?_eq_getElem hv)
  rw [e] at e'
  cases e'
  exact ⟨_, List.getElem?_eq_getElem hv, q⟩
theorem DtAll.get_map {H : Hp} {α : Type} {f : α → PyData} {l : List α} {vs : List V} {i : Nat} {x : V} (h : DtAll H vs (l.map f)) (e : vs[i]? = some x) : ∃ a, l[i]? = some a ∧ Dt H x (f a) := by
  obtain ⟨d, h1, h2⟩ := h.get e
  rw [List.getElem?_map] at h1
  cases q : l[i]? with
  | none => rw [q] at h1; cases h1
  | some a =>
    rw [q] at h1
    cases h1
    exact ⟨a, rfl, h2⟩
theorem DtAll.app {H : Hp} : ∀ {vs ws : List V} {ds es : List PyData}, DtAll H vs ds → DtAll H ws es → DtAll H (vs ++ ws) (ds ++ es)
  | _, _, _, _, .nil, s => s
  | _, _, _, _, .cons r t, s => .cons r (t.app s)
theorem DtAll.one {H : Hp} {v : V} {d : PyData} (h : Dt H v d) : DtAll H [v] [d] := .cons h .nil
theorem Dt.intE {H : Hp} {v : V} {i : Int} (h : Dt H v (.int i)) : v = .int i := by cases h; rfl
theorem Dt.strE {H : Hp} {v : V} {x : Str} (h : Dt H v (.str x)) : v = .str x := by cases h; rfl
theorem Dt.nonE {H : Hp} {v : V} (h : Dt H v .none) : v = .non := by cases h; rfl
theorem Dt.blE {H : Hp} {v : V} {b : Bool} (h : Dt H v (.bool b)) : v = .bl b := by cases h; rfl
theorem Dt.tupE {H : Hp} {v : V} {ds : List PyData} (h : Dt H v (.tuple ds)) : ∃ a xs, v = .ref a ∧ H a = some (.tup xs) ∧ DtAll H xs ds := by
  cases h with
  | tup e q => exact ⟨_, _, rfl, e, q⟩
theorem DtAll.consE {H : Hp} {vs : List V} {d : PyData} {ds : List PyData} (h : DtAll H vs (d :: ds)) : ∃ x r, vs = x :: r ∧ Dt H x d ∧ DtAll H r ds := by
  cases h with
  | cons h1 h2 => exact ⟨_, _, rfl, h1, h2⟩
theorem DtAll.nilE {H : Hp} {vs : List V} (h : DtAll H vs []) : vs = [] := by cases h; rfl
/-! == of data without truth values is their being one -/
mutual
def pl : PyData → Bool
  | .none | .int _ | .str _ => true
  | .bool _ | .dict _ => false
  | .list xs | .tuple xs => plAll xs
def plAll : List PyData → Bool
  | [] => true
  | x :: xs => pl x && plAll xs
end
mutual
theorem eqv_pl : ∀ (d e : PyData), pl d = true → pl e = true → (PyData.eqv d e = true ↔ d = e)
  | .none, e, _, h => by cases e <;> simp [PyData.eqv, pl] at h ⊢
  | .int i, e, _, h => by cases e <;> simp [PyData.eqv, pl] at h ⊢
  | .str i, e, _, h => by cases e <;> simp [PyData.eqv, pl] at h ⊢
  | .bool b, _, h, _ => by simp [pl] at h
  | .dict b, _, h, _ => by simp [pl] at h
  | .list xs, e, h, h' => by
    cases e with
    | list ys =>
      have q := eqvAll_pl xs ys (by simpa [pl] using h) (by simpa [pl] using h')
      simp only [PyData.eqv, PyData.list.injEq]
      exact q
    | _ => simp [PyData.eqv]
  | .tuple xs, e, h, h' => by
    cases e with
    | tuple ys =>
      have q := eqvAll_pl xs ys (by simpa [pl] using h) (by simpa [pl] using h')
      simp only [PyData.eqv, PyData.tuple.injEq]
      exact q
    | _ => simp [PyData.eqv]
theorem eqvAll_pl : ∀ (d e : List PyData), plAll d = true → plAll e = true → (PyData.eqvAll d e = true ↔ d = e)
  | [], e, _, _ => by cases e <;> simp [PyData.eqvAll]
  | x :: xs, [], _, _ => by simp [PyData.eqvAll]
  | x :: xs, y :: ys, h, h' => by
    simp only [plAll, Bool.and_eq_true] at h h'
    simp only [PyData.eqvAll, Bool.and_eq_true, List.cons.injEq]
    rw [eqv_pl x y h.1 h'.1, eqvAll_pl xs ys h.2 h'.2]
end
theorem any_pl {ds : List PyData} {d : PyData} (h : plAll ds = true) (hd : pl d = true) : (ds.any fun z => PyData.eqv z d) = true ↔ d ∈ ds := by
  induction ds with
  | nil => simp
  | cons x xs ih =>
    simp only [plAll, Bool.and_eq_true] at h
    rw [List.any_cons, Bool.or_eq_true, ih h.2, eqv_pl x d h.1 hd, List.mem_cons]
    constructor
    · rintro (q | q)
      · exact .inl q.symm
      · exact .inr q
    · rintro (q | q)
      · exact .inl q.symm
      · exact .inr q
/-! in, not in, of a tuple of data -/
section
variable {X : Cx}
def rInT (K : PySem.W.Frag) : R2 := fun x y H Q => ∃ d ds, Dp K H x d ∧ Dp K H y (.tuple ds) ∧ SeqAt.shaped d = true ∧ SeqAt.shaped (.tuple ds) = true ∧ Q (.bl (ds.any fun z => PyData.eqv z d)) H
def rNotInT (K : PySem.W.Frag) : R2 := fun x y H Q => ∃ d ds, Dp K H x d ∧ Dp K H y (.tuple ds) ∧ SeqAt.shaped d = true ∧ SeqAt.shaped (.tuple ds) = true ∧ Q (.bl (!ds.any fun z => PyData.eqv z d)) H
theorem room_in {A : Around} {d : PyData} {ds : List PyData} (sd : SeqAt.shaped d = true) (hu : A.units + 65 < cLine) : A.units + 1 + min (PyData.depthAll ds) d.depth < cLine := by
  have h : d.depth ≤ 64 := by
    have q : (d.canLay0 && decide (d.depth ≤ 64)) = true := sd
    rw [Bool.and_eq_true] at q
    exact of_decide_eq_true q.2
  have := Nat.min_le_right (PyData.depthAll ds) d.depth
  omega
theorem op_inT (hu : X.A.units + 65 < cLine) : OpR X (compareOp .In) (rInT X.K) := by
  intro pins s σ H x y v u Q I rx ry h
  obtain ⟨d, ds, hd, he, sd, se, q⟩ := h
  obtain ⟨as, r1⟩ := Dp.reads I d x v hd rx
  obtain ⟨bs, r2⟩ := Dp.reads I (.tuple ds) y u he ry
  exact SeqAt.in_tuple_reads r2 r1 (SeqAt.canLay_of_shaped se) (SeqAt.canLay_of_shaped sd) (room_in sd hu) ⟨.bl _, H, I, rfl, q⟩
theorem op_notInT (hu : X.A.units + 65 < cLine) : OpR X (compareOp .NotIn) (rNotInT X.K) := by
  intro pins s σ H x y v u Q I rx ry h
  obtain ⟨d, ds, hd, he, sd, se, q⟩ := h
  obtain ⟨as, r1⟩ := Dp.reads I d x v hd rx
  obtain ⟨bs, r2⟩ := Dp.reads I (.tuple ds) y u he ry
  exact SeqAt.notIn_tuple_reads r2 r1 (SeqAt.canLay_of_shaped se) (SeqAt.canLay_of_shaped sd) (room_in sd hu) ⟨.bl _, H, I, rfl, q⟩
theorem units65 {k : Nat} {A : Around} (r : Room k A) : A.units + 65 < cLine := by have := r.un; omega
end
end Com
set_option Elab.async false
set_option linter.all false
set_option maxRecDepth 100000
set_option maxHeartbeats 4000000
namespace Com
open PySem PySem.Spec PyProof.Rows L2
theorem b_len : bootBuiltins "len" = some (.builtin "len") := by decide +kernel
theorem b_abs : bootBuiltins "abs" = some (.builtin "abs") := by decide +kernel
theorem b_int : bootBuiltins "int" = some (.type "int") := by decide +kernel
theorem b_bool : bootBuiltins "bool" = some (.type "bool") := by decide +kernel
theorem b_str : bootBuiltins "str" = some (.type "str") := by decide +kernel
theorem b_tuple : bootBuiltins "tuple" = some (.type "tuple") := by decide +kernel
theorem b_list : bootBuiltins "list" = some (.type "list") := by decide +kernel
theorem b_dict : bootBuiltins "dict" = some (.type "dict") := by decide +kernel
theorem b_range : bootBuiltins "range" = some (.type "range") := by decide +kernel
theorem b_enumerate : bootBuiltins "enumerate" = some (.type "enumerate") := by decide +kernel
theorem b_isinstance : bootBuiltins "isinstance" = some (.builtin "isinstance") := by decide +kernel
theorem b_sorted : bootBuiltins "sorted" = some (.builtin "sorted") := by decide +kernel
theorem b_any : bootBuiltins "any" = some (.builtin "any") := by decide +kernel
theorem b_all : bootBuiltins "all" = some (.builtin "all") := by decide +kernel
theorem b_max : bootBuiltins "max" = some (.builtin "max") := by decide +kernel
theorem b_min : bootBuiltins "min" = some (.builtin "min") := by decide +kernel
/-! defs by name -/
structure Dfn (K : PySem.W.Frag) (mg : Str → Option Value) (x : Str) (st : Stmt) (f : Addr) (fd : FuncData) (ps : List Str) : Prop where
  fn : Fun K x x st f fd
  mgf : mg x = some (.ref f)
  b : Binds K fd ps []
def Cal (P : Program) (w : World) (K : PySem.W.Frag) (mg : Str → Option Value) (base : Heap) (k : Nat) (x : Str) (sp : Sp) : Prop :=
  ∃ (f : Addr) (fd : FuncData) (ps : List Str), FnOk P w K mg base CX0 k f fd ps sp ∧ mg x = some (.ref f) ∧ PySem.W.keepIn K (.ref f) = true ∧ Binds K fd ps []
section
variable {P : Program} {w : World} {K : PySem.W.Frag} {mg : Str → Option Value} {base : Heap}
theorem Cal.mono {j k : Nat} {x : Str} {sp : Sp} (c : Cal P w K mg base j x sp) (h : j ≤ k) : Cal P w K mg base k x sp := by
  obtain ⟨f, fd, ps, F, r⟩ := c
  exact ⟨f, fd, ps, F.mono h, r⟩
theorem Cal.imp {k : Nat} {x : Str} {sp sp' : Sp} (c : Cal P w K mg base k x sp) (h : ∀ vs H Q E, sp' vs H Q E → sp vs H Q E) : Cal P w K mg base k x sp' := by
  obtain ⟨f, fd, ps, F, r⟩ := c
  exact ⟨f, fd, ps, F.imp h, r⟩
theorem cal_mk {x : Str} {st : Stmt} {f : Addr} {fd : FuncData} {N ps : List Str} {k : Nat} {sp : Sp} (F : Dfn K mg x st f fd ps) (S : FnScope N ps (defScope st)) (len : ∀ vs H Q E, sp vs H Q E → vs.length = ps.length)
    (hbody : ∀ (cdv : Value) (A : Around) (outer : List Env) (s : Shared) (H : Hp) (vs : List V) (Q : VK) (E : XK), Room k (A.deeper (envOfC x (defScope st) s.heap.objs.size f cdv)) → sp vs H Q E →
      ∃ t, PSs (cxOf CX0 P w K mg base N x (defScope st) f cdv A outer s H E).nox (defBody st) t ∧ t { nx := fun _ H' => Q .non H', rt := Q } (start N vs) H) : Cal P w K mg base (k + 1) x sp :=
  ⟨f, fd, ps, F.fn.ok S len hbody, F.mgf, F.fn.kp, F.b⟩
end
section
variable {X : Cx} {k j : Nat} {x : Str} {sp : Sp} {p pos : Pos} {e : Expr} {es : List Expr} {t : TA}
theorem pe_c (c : Cal X.prog X.w X.K X.mg X.base k x sp) (hr : Room j X.A) (hk : k ≤ j) (hg : Gl X x) (ha : PA X (e :: es) t)
    (hdb : (x == ("__debug__" : Str)) = false := by decide) (he : starEach (e :: es) X.env = (false, eval e X.env) :: starEach es X.env := by rfl) (hpl : (backTo pos (starEach es X.env)).any (·.1) = false := by rfl) :
    PE X (.Call (.Name x p) (e :: es) [] pos) (tCall sp [] E0 t) := by
  obtain ⟨f, fd, ps, F, hm, kp, b⟩ := c
  exact pe_call F (hr.mono hk) hg hm kp b .nil pass0 ha hdb he hpl
end
/-! sorted of a list of data -/
section
variable {X : Cx}
def rSortedD (K : PySem.W.Frag) : List V → Hp → VK → Prop := fun xs H Q => ∃ (a : Addr) (vs : List V) (ds : List PyData), xs = [.ref a] ∧ SqL K H a vs ∧ DpAll K H vs ds ∧ PySem.W.AllAlike ds ∧ PySem.W.Sortable ds ∧ (∀ d ∈ ds, d.depth ≤ 8) ∧
  ∀ p, H p = none → Q (.ref p) (upd H p (.lst (((vs.zip ds).mergeSort (PySem.W.dataLe false Prod.snd)).map Prod.fst)))
theorem each_zip {h : Heap} : ∀ {vs : List V} {us : List Value} {ds : List PyData}, Vals vs us → vs.length = ds.length → PySem.W.EachIs (fun (v : Value) (b : V × PyData) => RelV b.1 v) us (vs.zip ds)
  | _, _, [], .nil, _ => .nil
  | _, _, d :: ds, .cons r t, e => .cons r (each_zip (h := h) t (by simpa using e))
theorem each_zip_reads {h : Heap} : ∀ {vs : List V} {us : List Value} {ds : List PyData} {as : List Addr}, vs.length = ds.length → ReadsAll h us ds as → PySem.W.EachIs (fun (v : Value) (b : V × PyData) => ∃ as, Reads h v b.2 as) us (vs.zip ds)
  | [], _, [], _, _, r => by cases r; exact .nil
  | v :: vs, _, d :: ds, _, e, r => by
    cases r with
    | cons h1 h2 => exact .cons ⟨_, h1⟩ (each_zip_reads (by simpa using e) h2)
theorem vals_of_each : ∀ {out : List Value} {bs : List (V × PyData)}, PySem.W.EachIs (fun (v : Value) (b : V × PyData) => RelV b.1 v) out bs → Vals (bs.map Prod.fst) out
  | _, _, .nil => .nil
  | _, _, .cons h t => .cons h (vals_of_each t)
theorem zip_snd {vs : List V} {ds : List PyData} (e : vs.length = ds.length) : (vs.zip ds).map Prod.snd = ds := by
  rw [List.map_snd_zip]
  omega
theorem DpAll_len {K : PySem.W.Frag} {H : Hp} : ∀ {vs : List V} {ds : List PyData}, DpAll K H vs ds → vs.length = ds.length
  | _, _, .nil => rfl
  | _, _, .cons _ h => congrArg (· + 1) (DpAll_len h)
theorem call_sortedD (hu : X.A.units + 65 < cLine) : CallR X (.builtin "sorted") (rSortedD X.K) := by
  intro pins s σ H xs us Q I r h
  obtain ⟨a, vs, ds, rfl, hl, hd, hal, hk, hdp, q⟩ := h
  obtain ⟨u, rfl, ru⟩ := vals1 r
  cases (show u = Value.ref a from ru)
  obtain ⟨its, rv, pl, hlen⟩ := I.list hl
  obtain ⟨as, rd⟩ := Dp.readsAll I ds vs its hd rv
  have el := DpAll_len hd
  have es := zip_snd el
  refine PySem.W.sorted_data (R := fun (v : Value) (b : V × PyData) => RelV b.1 v) (enc := Prod.snd) (bs := vs.zip ds) (vs := its) pl.isList (each_zip (h := s.heap) rv el) (each_zip_reads el rd) (by rw [es]; exact hal) (by rw [es]; exact hk) (by rw [List.length_zip]; omega) (fun b hb => ?_) fun out ho eo => ?_
  · have hb2 : b.2 ∈ ds := by
      rw [← es]
      exact List.mem_map.mpr ⟨b, hb, rfl⟩
    have := hdp _ hb2
    omega
  · obtain ⟨ep, he'⟩ := PyProof.Rows.sortedAll_at s.heap its (List.toArray out)
    refine ⟨.ref _, upd H (s.heap.objs.size + 1) (.lst (((vs.zip ds).mergeSort (PySem.W.dataLe false Prod.snd)).map Prod.fst)), I.laid (t' := s.toks) (fun _ _ => PyProof.Rows.sortedAll_old) (Nat.le_succ _) ⟨?_, out, ep, vals_of_each eo, he'⟩, rfl, q _ (I.hok.fresh (Nat.le_succ _))⟩
    rw [List.length_map, List.length_mergeSort, List.length_zip]
    omega
end
/-! sorted lists told by what they are made of -/
theorem DtAll.of_pairs {H : Hp} {α : Type} {f : α → PyData} : ∀ {zs : List (V × α)}, (∀ z ∈ zs, Dt H z.1 (f z.2)) → DtAll H (zs.map Prod.fst) ((zs.map Prod.snd).map f)
  | [], _ => .nil
  | z :: zs, h => .cons (h z List.mem_cons_self) (DtAll.of_pairs fun y hy => h y (List.mem_cons_of_mem _ hy))
theorem DtAll.pairs {H : Hp} {α : Type} {f : α → PyData} : ∀ {vs : List V} {l : List α}, DtAll H vs (l.map f) → ∀ z ∈ vs.zip l, Dt H z.1 (f z.2)
  | [], _, _, z, hz => by simp at hz
  | v :: vs, [], h, z, hz => by simp at hz
  | v :: vs, a :: l, h, z, hz => by
    have h' : DtAll H (v :: vs) (f a :: l.map f) := h
    cases h' with
    | cons h1 h2 =>
      rw [List.zip_cons_cons] at hz
      rcases List.mem_cons.mp hz with e | hz
      · rw [e]; exact h1
      · exact DtAll.pairs h2 z hz
theorem zip_map_r {α β γ : Type} (f : β → γ) : ∀ (vs : List α) (l : List β), vs.zip (l.map f) = (vs.zip l).map fun p => (p.1, f p.2)
  | [], _ => by simp
  | _ :: _, [] => by simp
  | v :: vs, a :: l => by simp [zip_map_r f vs l]
/-- the list of an encoded list, sorted, stands for the sorted list -/
theorem sorted_enc {H : Hp} {α : Type} {f : α → PyData} {vs : List V} {l : List α} (h : DtAll H vs (l.map f)) :
    DtAll H (((vs.zip (l.map f)).mergeSort (PySem.W.dataLe false Prod.snd)).map Prod.fst) ((l.mergeSort (PySem.W.dataLe false f)).map f) := by
  have el : vs.length = l.length := by rw [h.len, List.length_map]
  rw [zip_map_r]
  rw [← PySem.W.sort_maps (r := PySem.W.dataLe false fun p : V × α => f p.2) (s := PySem.W.dataLe false Prod.snd) (fun p : V × α => (p.1, f p.2)) (fun _ _ _ _ => rfl), List.map_map]
  have e2 : (l.mergeSort (PySem.W.dataLe false f)) = ((vs.zip l).mergeSort (PySem.W.dataLe false fun p : V × α => f p.2)).map Prod.snd := by
    rw [PySem.W.sort_maps (r := PySem.W.dataLe false fun p : V × α => f p.2) (s := PySem.W.dataLe false f) Prod.snd (fun _ _ _ _ => rfl), List.map_snd_zip (by omega)]
  rw [e2]
  exact DtAll.of_pairs fun z hz => DtAll.pairs h z (by rw [List.mem_mergeSort] at hz; exact hz)
/-- lists of whole numbers -/
def natV (l : List Nat) : List V := l.map fun n => .int (n : Nat)
theorem nat_dt (H : Hp) : ∀ l : List Nat, DtAll H (natV l) (l.map fun n => .int (n : Nat))
  | [] => .nil
  | n :: l => .cons (.int _) (nat_dt H l)
theorem dt_nat {H : Hp} : ∀ {l : List Nat} {vs : List V}, DtAll H vs (l.map fun n => PyData.int (n : Nat)) → vs = natV l
  | [], _, h => by cases h; rfl
  | n :: l, _, h => by
    have h' : DtAll H _ (PyData.int (n : Nat) :: l.map fun n => PyData.int (n : Nat)) := h
    cases h' with
    | cons h1 h2 =>
      rw [h1.intE, dt_nat h2]
      rfl
theorem natV_get {l : List Nat} {i : Nat} {v : V} (h : (natV l)[i]? = some v) : ∃ n, l[i]? = some n ∧ v = .int (n : Nat) := by
  unfold natV at h
  rw [List.getElem?_map] at h
  cases e : l[i]? with
  | none => rw [e] at h; cases h
  | some n => rw [e] at h; exact ⟨n, rfl, (Option.some.inj h).symm⟩
theorem natV_at {l : List Nat} {i n : Nat} (h : l[i]? = some n) : (natV l)[i]? = some (.int (n : Nat)) := by
  unfold natV
  rw [List.getElem?_map, h]
  rfl
theorem natV_app (l m : List Nat) : natV (l ++ m) = natV l ++ natV m := List.map_append
theorem natV_len (l : List Nat) : (natV l).length = l.length := List.length_map _
/-! rules with the written part named: for comprehensions' blocks, too -/
section
variable {X : Cx} (K : PySem.W.Frag)
theorem ixT (h : X.K = K) : IxR X (rIxT K) := h ▸ ix_tup
theorem ixL (h : X.K = K) : IxR X (rIxL K) := h ▸ ix_list
theorem ixQ (h : X.K = K) : IxR X (rIx K) := h ▸ ix_seq
theorem opInT (h : X.K = K) (hu : X.A.units + 65 < cLine) : OpR X (compareOp .In) (rInT K) := h ▸ op_inT hu
theorem opNotInT (h : X.K = K) (hu : X.A.units + 65 < cLine) : OpR X (compareOp .NotIn) (rNotInT K) := h ▸ op_notInT hu
theorem opInD (h : X.K = K) (hu : X.A.units + 65 < cLine) : OpR X (compareOp .In) (rInD K) := h ▸ op_inD hu
theorem opNotInD (h : X.K = K) (hu : X.A.units + 65 < cLine) : OpR X (compareOp .NotIn) (rNotInD K) := h ▸ op_notInD hu
theorem opEqD (h : X.K = K) (hu : X.A.units + 64 < cLine) : OpR X (compareOp .Eq) (rEqD K) := h ▸ op_eqD hu
theorem opNeD (h : X.K = K) (hu : X.A.units + 64 < cLine) : OpR X (compareOp .NotEq) (rNeD K) := h ▸ op_neD hu
theorem opCatT (h : X.K = K) : OpR X (binaryOp .Add) (rCatT K) := h ▸ op_catT
def rLen (K : PySem.W.Frag) : List V → Hp → VK → Prop := fun xs H Q => ∃ p ys, xs = [.ref p] ∧ (SqL K H p ys ∨ SqT K H p ys) ∧ Q (.int ys.length) H
theorem cLen (h : X.K = K) : CallR X (.builtin "len") (rLen K) := h ▸ call_len_seq
def rListOf (K : PySem.W.Frag) : List V → Hp → VK → Prop := fun xs H Q => ∃ p ys, xs = [.ref p] ∧ (SqL K H p ys ∨ SqT K H p ys) ∧ ∀ l, H l = none → Q (.ref l) (upd H l (.lst ys))
theorem cList (h : X.K = K) : CallR X (.type "list") (rListOf K) := h ▸ call_list_of
def rTupOf (K : PySem.W.Frag) : List V → Hp → VK → Prop := fun xs H Q => ∃ p ys, xs = [.ref p] ∧ ((SqL K H p ys ∧ ∀ l, H l = none → Q (.ref l) (upd H l (.tup ys))) ∨ (SqT K H p ys ∧ Q (.ref p) H))
theorem cTup (h : X.K = K) : CallR X (.type "tuple") (rTupOf K) := h ▸ call_tuple_of
theorem cSort (h : X.K = K) (hu : X.A.units + 65 < cLine) : CallR X (.builtin "sorted") (rSortedD K) := h ▸ call_sortedD hu
theorem cIsi (h : X.K = K) : CallR X (.builtin "isinstance") (rIsi K) := h ▸ call_isi
theorem slT (h : X.K = K) : SlR X (rSlT K) := h ▸ sl_tup
theorem slA (h : X.K = K) : SlR X (rSlA K) := h ▸ sl_tupA
end
/-! small lemmas -/
def Sq (K : PySem.W.Frag) (H : Hp) (a : Addr) (xs : List V) : Prop := SqL K H a xs ∨ SqT K H a xs
theorem ixq {K : PySem.W.Frag} {H : Hp} {a : Addr} {xs : List V} {i : Int} {v : V} {Q : VK} (h : Sq K H a xs) (e : atI xs i = some v) (q : Q v H) : rIx K (.ref a) (.int i) H Q :=
  h.elim (fun h => .inl ⟨a, xs, i, v, rfl, rfl, h, e, q⟩) fun h => .inr (.inl ⟨a, xs, i, v, rfl, rfl, h, e, q⟩)
theorem atN {xs : List V} {i : Nat} {v : V} (h : xs[i]? = some v) : atI xs (i : Int) = some v := atI_nat h
theorem same_upd {H : Hp} {p : Addr} {o : HO} (h : H p = none) : Same H (upd H p o) := fun b x e => by rw [upd_ne (ne_of_none e h)]; exact e
theorem same_tk {H H' : Hp} (h : Same H H') : Tk H H' := fun a xs e => h a _ e
theorem same_sqT {K : PySem.W.Frag} {H H' : Hp} {a : Addr} {xs : List V} (e : Same H H') (h : SqT K H a xs) : SqT K H' a xs := by
  rcases h with h | h
  · rcases h with h | ⟨o, h⟩
    · exact .inl (.inl (e _ _ h))
    · exact .inl (.inr ⟨o, e _ _ h⟩)
  · exact .inr h
theorem same_sq {K : PySem.W.Frag} {H H' : Hp} {a : Addr} {xs : List V} (e : Same H H') (h : Sq K H a xs) : Sq K H' a xs := h.elim (fun h => .inl (e.seq h)) fun h => .inr (same_sqT e h)
end Com
set_option Elab.async false
set_option linter.all false
set_option maxRecDepth 100000
set_option maxHeartbeats 4000000
namespace Com
open PySem PySem.Spec PyProof.Rows L2
mutual
theorem Dp.same {K : PySem.W.Frag} {H H' : Hp} (k : Same H H') : ∀ (d : PyData) (v : V), Dp K H v d → Dp K H' v d
  | .none, _, h => by cases h; exact .non
  | .bool _, _, h => by cases h; exact .bl _
  | .int _, _, h => by cases h; exact .int _
  | .str _, _, h => by cases h; exact .str _
  | .list ds, _, h => by
    cases h with
    | lst e q => exact .lst (k.seq e) (DpAll.same k ds _ q)
  | .tuple ds, _, h => by
    cases h with
    | tup e q => exact .tup (same_sqT k e) (DpAll.same k ds _ q)
  | .dict _, _, h => by cases h
theorem DpAll.same {K : PySem.W.Frag} {H H' : Hp} (k : Same H H') : ∀ (ds : List PyData) (vs : List V), DpAll K H vs ds → DpAll K H' vs ds
  | [], _, h => by cases h; exact .nil
  | d :: ds, _, h => by
    cases h with
    | cons h1 h2 => exact .cons (Dp.same k d _ h1) (DpAll.same k ds _ h2)
end
mutual
/-- no list in it is huge -/
def smD : PyData → Bool
  | .list xs | .tuple xs => decide (xs.length ≤ 1000000) && smAll xs
  | .none | .bool _ | .int _ | .str _ | .dict _ => true
def smAll : List PyData → Bool
  | [] => true
  | x :: xs => smD x && smAll xs
end
theorem smAll_mem : ∀ {ds : List PyData} {d : PyData}, smAll ds = true → d ∈ ds → smD d = true
  | x :: xs, d, h, hm => by
    simp only [smAll, Bool.and_eq_true] at h
    rcases List.mem_cons.mp hm with e | hm
    · rw [e]; exact h.1
    · exact smAll_mem h.2 hm
theorem smAll_map {α : Type} {f : α → PyData} (hf : ∀ x, smD (f x) = true) : ∀ l : List α, smAll (l.map f) = true
  | [] => rfl
  | a :: l => by simp [smAll, hf a, smAll_map hf l]
theorem DpAll.getE {K : PySem.W.Frag} {H : Hp} : ∀ {vs : List V} {ds : List PyData} {i : Nat} {x : V}, DpAll K H vs ds → vs[i]? = some x → ∃ d, ds[i]? = some d ∧ Dp K H x d
  | _, _, _, _, .nil, e => by simp at e
  | _, _, 0, _, .cons h _, e => by
    simp at e
    subst e
    exact ⟨_, rfl, h⟩
  | _, _, i + 1, _, .cons _ t, e => by
    simp only [List.getElem?_cons_succ] at e
    obtain ⟨d, h1, h2⟩ := DpAll.getE t e
    exact ⟨d, by simpa using h1, h2⟩
theorem depth_mem : ∀ {ds : List PyData} {d : PyData}, d ∈ ds → d.depth ≤ PyData.depthAll ds
  | x :: xs, d, h => by
    simp only [PyData.depthAll]
    rcases List.mem_cons.mp h with e | h
    · rw [e]; omega
    · have := depth_mem h
      omega
theorem depAll_map {α : Type} {f : α → PyData} {n : Nat} (hf : ∀ x, (f x).depth ≤ n) : ∀ l : List α, PyData.depthAll (l.map f) ≤ n
  | [] => by simp [PyData.depthAll]
  | a :: l => by
    have h1 := hf a
    have h2 := depAll_map hf l
    simp only [List.map_cons, PyData.depthAll]
    omega
theorem k_bb : kitB "bool" "bool" = some true := by decide +kernel
theorem k_ib : kitB "int" "bool" = some false := by decide +kernel
theorem k_ii : kitB "int" "int" = some true := by decide +kernel
theorem k_sb : kitB "str" "bool" = some false := by decide +kernel
theorem k_si : kitB "str" "int" = some false := by decide +kernel
theorem k_ss : kitB "str" "str" = some true := by decide +kernel
theorem k_tb : kitB "tuple" "bool" = some false := by decide +kernel
theorem k_ti : kitB "tuple" "int" = some false := by decide +kernel
theorem k_ts : kitB "tuple" "str" = some false := by decide +kernel
theorem k_tt : kitB "tuple" "tuple" = some true := by decide +kernel
theorem k_tl : kitB "tuple" "list" = some false := by decide +kernel
theorem k_lb : kitB "list" "bool" = some false := by decide +kernel
theorem k_li : kitB "list" "int" = some false := by decide +kernel
theorem k_ls : kitB "list" "str" = some false := by decide +kernel
theorem k_lt : kitB "list" "tuple" = some false := by decide +kernel
theorem k_ll : kitB "list" "list" = some true := by decide +kernel
theorem tyT {K : PySem.W.Frag} {H : Hp} {a : Addr} {xs : List V} (h : SqT K H a xs) : TyX K H (.ref a) (.type "tuple") := by
  rcases h with (h | ⟨o, h⟩) | ⟨o, its, n, h, hc, _⟩
  · exact .base (.tup h)
  · exact .fTuple h
  · exact .kTuple h hc
theorem tyL {K : PySem.W.Frag} {H : Hp} {a : Addr} {xs : List V} (h : SqL K H a xs) : TyX K H (.ref a) (.type "list") := by
  rcases h with (h | ⟨o, h⟩) | ⟨o, its, n, h, hc, _⟩
  · exact .base (.lst h)
  · exact .base (.frz h)
  · exact .kList h hc
theorem cAll {X : Cx} (K : PySem.W.Frag) (h : X.K = K) (hc : X.calm = true := by rfl) : CallR X (.builtin "all") (rAll K) := h ▸ cr_all hc
end Com
set_option Elab.async false
set_option linter.all false
set_option maxRecDepth 100000
set_option maxHeartbeats 4000000
namespace RuleY
open PySem PySem.Spec PyProof.Rows L2 Com
/-! {(a, b): v}: a dict of one key, a tuple -/
def tDispT1 (tk tv : TE) : TE := fun σ H Q => ∀ p, H p = none → tk σ (upd H p (.dT [])) fun x H1 => tv σ H1 fun y H2 => H2 p = some (.dT []) ∧ ∃ b k, x = .ref b ∧ H2 b = some (.tup (k.map kV)) ∧ Q (.ref p) (upd H2 p (.dT [(k, y)]))
section
variable {X : Cx} {pos : Pos}
theorem pe_dispT1 {k v : Expr} {tk tv : TE} (hu : X.A.units + 1 < cLine) (hk : PE X k tk) (hv : PE X v tv) : PE X (.Dict [some k] [v] pos) (tDispT1 tk tv) := by
  refine ⟨fun pins s σ H Q I q => ?_⟩
  have hn := I.hok.fresh (Nat.le_refl s.heap.objs.size)
  have I1 := I.laid (a := s.heap.objs.size) (o := .dT []) (h' := s.heap.push { cls := .type "dict", data := .dict #[] }) (t' := s.toks) (fun _ _ q => Heap.get?_push_of_some _ q) (Nat.le_refl _) (dt_empty s.heap I.big)
  rw [arm_eval_Dict, zip_pairTrees [some k] [v] X.env pos rfl rfl, dictDisplay_pairs (pairTrees [some k] [v] X.env pos) (fun z => by have e := pairTrees_length [some k] [v] X.env pos rfl rfl; rw [z] at e; cases e) (by rw [pairTrees_length [some k] [v] X.env pos rfl rfl]; show 1 < 17; decide)]
  refine wpAny_bind (wpAny_standAt (wpAny_bind (wpAny_subDictH (knd := tupleKind (mixKind X.prog X.w)) (show X.A.units < cLine by omega) (by rw [pairTrees_length [some k] [v] X.env pos rfl rfl]; show 1 ≤ 15; decide) ?_)))
  refine pairTrees_cons_walk (thn (hk.run pins _ σ _ _ I1 (q _ hn)) fun u s1 ⟨x, H1, I1, rx, q1⟩ => thn (hv.run pins s1 σ H1 _ I1 q1) fun w2 s2 ⟨y, H2, I2, ry, q2⟩ => pairTrees_nil_walk ?_)
  obtain ⟨e, b, kk, rfl, eb, q2⟩ := q2
  obtain rfl : u = Value.ref b := rx
  obtain ⟨z, hd, xs, rel, dd⟩ := dt_of I2.hok e
  cases rel
  refine ⟨[(kk, b, w2)], ⟨rfl, rfl, key_of I2.hok eb, True.intro⟩, dd, fun h' tk' dd' hs => wpAny_pure ⟨.ref s.heap.objs.size, _, ?_, rfl, q2⟩⟩
  obtain ⟨qo, es, ep, hq, h2, h3, h4, _, h5⟩ := dd'
  refine d_write I2 (by rw [e]; exact True.intro) hs ⟨qo, hq⟩ ⟨(by show 1 ≤ sizeLine; decide), hd, [(kk, b, w2)], .cons ⟨rfl, ?_, ry⟩ .nil, qo, es, ep, hq, h2, h3, h4, h5⟩
  rw [upd_ne (ne_of eb e (fun z => nomatch z))]
  exact eb
end
/-! dicts that hold the same: their values flat, or one object -/
def flatR : V → Bool
  | .non => true | .bl _ => true | .int _ => true | .str _ => true | .byt _ => true | .ref _ => true
  | _ => false
theorem eqAt_sameR {A : Around} {s : Shared} {v : V} {u u' : Value} (r : RelV v u) (r' : RelV v u') (f : flatR v = true) : SeqAt.EqAt A s u u' true := by
  cases v with
  | ref a => cases (show u = Value.ref a from r); cases (show u' = Value.ref a from r'); exact SeqAt.EqAt.same _
  | non => exact eqAt_same r r' rfl
  | bl b => exact eqAt_same r r' rfl
  | int i => exact eqAt_same r r' rfl
  | str x => exact eqAt_same r r' rfl
  | byt b => exact eqAt_same r r' rfl
  | flt x => exact absurd (show false = true from f) Bool.false_ne_true
  | ty n => exact absurd (show false = true from f) Bool.false_ne_true
theorem hits_allR {A : Around} {s : Shared} {kvs : List (Key × V)} {vb : List (Key × Value)} (rb : KV kvs vb) {ks : List (Key × V)} {va : List (Key × Value)} (ra : KV ks va) :
    (∀ p ∈ ks, valV kvs p.1 = some p.2 ∧ flatR p.2 = true) → PySem.W.KeqHits A s vb va true := by
  unfold KV at ra
  induction ra with
  | nil => intro _; exact .nil
  | @cons p q ps qs h t ih =>
    intro hp
    obtain ⟨h1, h2⟩ := h
    obtain ⟨e, f⟩ := hp p List.mem_cons_self
    have rr : RelO (some p.2) (valueAt vb p.1) := by rw [← e]; exact rb.val p.1
    obtain ⟨y, hy, ry⟩ := rr.some_of
    obtain ⟨k, v⟩ := q
    have h1' : p.1 = k := h1
    rw [h1'] at hy
    show PySem.W.KeqHits A s vb ((k, v) :: qs) (true && true)
    exact .hit hy (eqAt_sameR h2 ry f) (ih fun p' hm => hp p' (List.mem_cons_of_mem _ hm))
def rEqDR : R2 := fun x y H Q => ∃ a b ks, x = .ref a ∧ y = .ref b ∧ H a = some (.dK ks) ∧ H b = some (.dK ks) ∧ (ks.map (·.1)).Nodup ∧ (∀ p ∈ ks, flatR p.2 = true) ∧ Q (.bl true) H
theorem op_eq_dictR {X : Cx} (hu : X.A.units < cLine) : OpR X (compareOp .Eq) rEqDR := by
  intro pins s σ H x y v u Q I rx ry h
  obtain ⟨a, b, ks, rfl, rfl, ea, eb, nd, hp, q⟩ := h
  obtain rfl : v = Value.ref a := rx
  obtain rfl : u = Value.ref b := ry
  obtain ⟨_, ya, va, ra, da⟩ := (show ObjOk X.prog X.w H s.heap a (.dK ks) from I.hok a _ ea)
  obtain ⟨_, yb, vb, rb, db⟩ := (show ObjOk X.prog X.w H s.heap b (.dK ks) from I.hok b _ eb)
  have hl : va.length = vb.length := by rw [← ra.length, ← rb.length]
  exact PySem.W.keq_eq (knd := mixKind X.prog X.w) (r := true) ya yb da db hu (fun _ => hits_allR rb ra fun p hm => ⟨val_nodup nd p hm, hp p hm⟩) (fin_bl I q (by simp [hl]))
/-! list(d), the dict's keys tuples -/
def rListT : List V → Hp → VK → Prop := fun xs H Q => ∃ d kvs, xs = [V.ref d] ∧ Rd H d (.dT kvs) ∧ ∀ p bs, H p = none → IsKeys H kvs bs → Q (.ref p) (upd H p (.lst (bs.map V.ref)))
theorem cListT {X : Cx} (hc : X.calm = true) : CallR X (.type "list") rListT := call_list_dT hc
def rDictD : List V → Hp → VK → Prop := fun xs H Q => ∃ (a : Addr) (kvs : List (Key × V)), xs = [.ref a] ∧ Rd H a (.dK kvs) ∧ ∀ p, H p = none → Q (.ref p) (upd H p (.dK kvs))
theorem cDictD {X : Cx} : CallR X (.type "dict") rDictD := call_dictD
end RuleY
set_option Elab.async false
set_option linter.all false
set_option maxRecDepth 100000
set_option maxHeartbeats 4000000
namespace W3
open PySem PySem.Spec PyProof.Rows L2 Com
/-! pairs of a name and a number, in order -/
abbrev Pr := Str × Int
def prD (x : Pr) : PyData := .tuple [.str x.1, .int x.2]
def ltN (x y : Str) : Prop := x.cps.toList < y.cps.toList
instance (x y : Str) : Decidable (ltN x y) := inferInstanceAs (Decidable (x.cps.toList < y.cps.toList))
def ltP (x y : Pr) : Prop := ltN x.1 y.1 ∨ (x.1 = y.1 ∧ x.2 < y.2)
instance (x y : Pr) : Decidable (ltP x y) := inferInstanceAs (Decidable (_ ∨ _))
theorem ltN_irrefl (x : Str) : ¬ ltN x x := fun h => List.lt_irrefl _ h
theorem ltN_trans {x y z : Str} (h : ltN x y) (g : ltN y z) : ltN x z := List.lt_trans h g
theorem str_cps {x y : Str} (h : x.cps.toList = y.cps.toList) : x = y := by
  cases x; cases y
  simp only [Str.mk.injEq]
  exact Array.toList_inj.mp h
theorem ltN_tri (x y : Str) : ltN x y ∨ x = y ∨ ltN y x := by
  by_cases h : ltN x y
  · exact .inl h
  · by_cases g : ltN y x
    · exact .inr (.inr g)
    · exact .inr (.inl (str_cps (List.le_antisymm (List.not_lt.mp g) (List.not_lt.mp h))))
theorem ltP_irrefl (x : Pr) : ¬ ltP x x := by
  rintro (h | ⟨_, h⟩)
  · exact ltN_irrefl _ h
  · omega
theorem ltP_trans {x y z : Pr} (h : ltP x y) (g : ltP y z) : ltP x z := by
  rcases h with h | ⟨e, h⟩ <;> rcases g with g | ⟨e', g⟩
  · exact .inl (ltN_trans h g)
  · exact .inl (e' ▸ h)
  · exact .inl (e.symm ▸ g)
  · exact .inr ⟨e.trans e', by omega⟩
theorem ltP_tri (x y : Pr) : ltP x y ∨ x = y ∨ ltP y x := by
  obtain ⟨a, b⟩ := x
  obtain ⟨a', b'⟩ := y
  rcases ltN_tri a a' with h | h | h
  · exact .inl (.inl h)
  · subst h
    by_cases h1 : b < b'
    · exact .inl (.inr ⟨rfl, h1⟩)
    · by_cases h2 : b' < b
      · exact .inr (.inr (.inr ⟨rfl, h2⟩))
      · have e1 : b = b' := by omega
        exact .inr (.inl (by rw [e1]))
  · exact .inr (.inr (.inl h))
theorem dataLt_pr (x y : Pr) : PySem.W.dataLt (prD x) (prD y) = decide (ltP x y) := by
  obtain ⟨a, b⟩ := x
  obtain ⟨a', b'⟩ := y
  unfold prD
  rw [PySem.W.dataLt_tuple, PySem.W.dataLt_cons (by simp [PySem.W.alike]), PySem.W.dataLt_cons (by simp [PySem.W.alike]), PySem.W.dataLt_int, PySem.W.dataLt_str]
  have e0 : PyProof.Rows.lexLt PyProof.Rows.itemOrd (PySem.W.keyToksAll []) (PySem.W.keyToksAll []) = false := PyProof.Rows.lex_irrefl _
  rw [e0]
  simp only [PyData.eqv]
  rw [Bool.eq_iff_iff, decide_eq_true_iff]
  by_cases h1 : a = a'
  · subst h1
    have hn := ltN_irrefl a
    by_cases h2 : b = b'
    · subst h2
      simp [ltP, hn]
    · have : (b == b') = false := beq_eq_false_iff_ne.mpr h2
      simp [ltP, hn, this]
  · have : (a == a') = false := beq_eq_false_iff_ne.mpr h1
    simp [ltP, this, h1, ltN]
abbrev leP : Pr → Pr → Bool := PySem.W.dataLe false prD
theorem leP_eq (a b : Pr) : leP a b = !decide (ltP b a) := by
  show (!PySem.W.dataLt (prD b) (prD a)) = _
  rw [dataLt_pr]
theorem leP_iff (a b : Pr) : leP a b = true ↔ ltP a b ∨ a = b := by
  rw [leP_eq]
  simp only [Bool.not_eq_true', decide_eq_false_iff_not]
  constructor
  · intro h
    rcases ltP_tri a b with g | g | g
    · exact .inl g
    · exact .inr g
    · exact absurd g h
  · rintro (h | h) g
    · exact ltP_irrefl _ (ltP_trans h g)
    · subst h
      exact ltP_irrefl _ g
theorem leP_total (a b : Pr) : (leP a b || leP b a) = true := by
  rw [Bool.or_eq_true, leP_iff, leP_iff]
  rcases ltP_tri a b with h | h | h
  · exact .inl (.inl h)
  · exact .inl (.inr h)
  · exact .inr (.inl h)
theorem leP_trans (a b c : Pr) (h : leP a b = true) (g : leP b c = true) : leP a c = true := by
  rw [leP_iff] at *
  rcases h with h | rfl
  · rcases g with g | rfl
    · exact .inl (ltP_trans h g)
    · exact .inl h
  · exact g
/-- the same members in any order, sorted, are one list -/
theorem sort_perm {l m : List Pr} (h : l.Perm m) : l.mergeSort leP = m.mergeSort leP := by
  refine List.Perm.eq_of_pairwise (le := fun a b => leP a b = true) (fun a b _ _ p q => ?_) (List.pairwise_mergeSort leP_trans leP_total l) (List.pairwise_mergeSort leP_trans leP_total m) (((List.mergeSort_perm l leP).trans h).trans (List.mergeSort_perm m leP).symm)
  rw [leP_iff] at p q
  rcases p with p | p
  · rcases q with q | q
    · exact absurd (ltP_trans p q) (ltP_irrefl _)
    · exact q.symm
  · exact p
/-! what is reached -/
inductive Rch (S : Pr → List Pr) (r : Pr) : Pr → Prop
  | root : Rch S r r
  | step {x y : Pr} : Rch S r x → y ∈ S x → Rch S r y
/-- a row that is what is reached -/
structure All (S : Pr → List Pr) (r : Pr) (l : List Pr) : Prop where
  nd : l.Nodup
  root : r ∈ l
  rch : ∀ x ∈ l, Rch S r x
  closed : ∀ x ∈ l, ∀ y ∈ S x, y ∈ l
theorem All.mem {S : Pr → List Pr} {r : Pr} {l : List Pr} (h : All S r l) {x : Pr} (q : Rch S r x) : x ∈ l := by
  induction q with
  | root => exact h.root
  | step _ m ih => exact h.closed _ ih _ m
theorem All.perm {S : Pr → List Pr} {r : Pr} {l m : List Pr} (h : All S r l) (g : All S r m) : l.Perm m :=
  (List.perm_ext_iff_of_nodup h.nd g.nd).mpr fun x => ⟨fun q => g.mem (h.rch x q), fun q => h.mem (g.rch x q)⟩
theorem nd_len {α : Type} [DecidableEq α] : ∀ {l u : List α}, l.Nodup → (∀ x ∈ l, x ∈ u) → l.length ≤ u.length
  | [], u, _, _ => Nat.zero_le _
  | a :: l, u, nd, h => by
    rw [List.nodup_cons] at nd
    have ha := h a List.mem_cons_self
    have h1 := nd_len (l := l) (u := u.erase a) nd.2 fun x hx => (List.mem_erase_of_ne (fun e : x = a => nd.1 (by rw [← e]; exact hx))).mpr (h x (List.mem_cons_of_mem _ hx))
    have h2 := List.length_erase_of_mem ha
    have h3 := List.length_pos_of_mem ha
    rw [List.length_cons]
    omega
/-- all pairs of these names with a shift from 0 to 3 -/
def uni (ns : List Str) : List Pr := (ns.map fun n => (n, (0 : Int))) ++ (ns.map fun n => (n, (1 : Int))) ++ (ns.map fun n => (n, (2 : Int))) ++ (ns.map fun n => (n, (3 : Int)))
theorem uni_len (ns : List Str) : (uni ns).length = 4 * ns.length := by
  simp only [uni, List.length_append, List.length_map]
  omega
theorem mem_uni {ns : List Str} {x : Pr} : x ∈ uni ns ↔ x.1 ∈ ns ∧ 0 ≤ x.2 ∧ x.2 < 4 := by
  obtain ⟨n, s⟩ := x
  simp only [uni, List.mem_append, List.mem_map, Prod.mk.injEq]
  constructor
  · rintro (((⟨m, h, rfl, rfl⟩ | ⟨m, h, rfl, rfl⟩) | ⟨m, h, rfl, rfl⟩) | ⟨m, h, rfl, rfl⟩)
    all_goals exact ⟨h, by decide, by decide⟩
  · rintro ⟨h, h0, h4⟩
    have : s = 0 ∨ s = 1 ∨ s = 2 ∨ s = 3 := by
      have h0' : 0 ≤ s := h0
      have h4' : s < 4 := h4
      omega
    rcases this with rfl | rfl | rfl | rfl
    · exact .inl (.inl (.inl ⟨n, h, rfl, rfl⟩))
    · exact .inl (.inl (.inr ⟨n, h, rfl, rfl⟩))
    · exact .inl (.inr ⟨n, h, rfl, rfl⟩)
    · exact .inr ⟨n, h, rfl, rfl⟩
/-- what a pair leads to: U the uses of a module -/
def suc (U : Str → List Pr) (x : Pr) : List Pr := ((U x.1).map fun u => (u.1, x.2 + u.2)).filter fun y => decide (y.2 < 4)
theorem mem_suc {U : Str → List Pr} {x y : Pr} : y ∈ suc U x ↔ ∃ u ∈ U x.1, y = (u.1, x.2 + u.2) ∧ x.2 + u.2 < 4 := by
  simp only [suc, List.mem_filter, List.mem_map, decide_eq_true_iff]
  constructor
  · rintro ⟨⟨u, hu, rfl⟩, h⟩
    exact ⟨u, hu, rfl, h⟩
  · rintro ⟨u, hu, rfl, h⟩
    exact ⟨⟨u, hu, rfl⟩, h⟩
end W3
set_option Elab.async false
set_option linter.all false
set_option maxRecDepth 100000
set_option maxHeartbeats 4000000
namespace W3
open PySem PySem.Spec PyProof.Rows L2 Com
def topS (i : Nat) : Stmt := PySem.Challenge.pw_wherewritten_k63_reach.main.body.getD i (.Pass ⟨0, 0, 0, 0⟩)
abbrev st_reach : Stmt := topS 2
theorem screach : FnScope ["artifacts", "main", "found", "left", "name", "shift", "module", "level", "pair"] ["artifacts", "main"] (defScope st_reach) := ⟨rfl, rfl, rfl, by decide +kernel, rfl, by decide +kernel, by decide +kernel⟩
abbrev st__law_draws : Stmt := topS 4
theorem sc_law_draws : FnScope ["script", "count", "cells", "found", "mixed", "k", "j", "cell", "again"] ["script", "count"] (defScope st__law_draws) := ⟨rfl, rfl, rfl, by decide +kernel, rfl, by decide +kernel, by decide +kernel⟩
abbrev st__law_take : Stmt := topS 5
theorem sc_law_take : FnScope ["draws", "limit"] ["draws", "limit"] (defScope st__law_take) := ⟨rfl, rfl, rfl, by decide +kernel, rfl, by decide +kernel, by decide +kernel⟩
abbrev st__law_same : Stmt := topS 6
theorem sc_law_same : FnScope ["found", "due", "k"] ["found", "due"] (defScope st__law_same) := ⟨rfl, rfl, rfl, by decide +kernel, rfl, by decide +kernel, by decide +kernel⟩
abbrev st_law : Stmt := topS 7
theorem sclaw : FnScope ["script", "draws", "names", "artifacts", "k", "uses", "j", "main", "due", "turn", "module", "shift", "other", "level", "copy"] ["script"] (defScope st_law) := ⟨rfl, rfl, rfl, by decide +kernel, rfl, by decide +kernel, by decide +kernel⟩
end W3
set_option Elab.async false
set_option linter.all false
set_option maxRecDepth 100000
set_option maxHeartbeats 4000000
namespace W3
open PySem PySem.Spec PyProof.Rows L2 Com
def Keep (t : Addr) (H H' : Hp) : Prop := ∀ b o, H b = some o → b ≠ t → H' b = some o
theorem Keep.refl (t : Addr) (H : Hp) : Keep t H H := fun _ _ h _ => h
theorem Keep.trans {t : Addr} {H1 H2 H3 : Hp} (a : Keep t H1 H2) (b : Keep t H2 H3) : Keep t H1 H3 := fun c o h n => b c o (a c o h n) n
theorem Keep.at {t : Addr} {H : Hp} {o : HO} : Keep t H (upd H t o) := fun b u h n => by rw [upd_ne n]; exact h
theorem Keep.same {t : Addr} {H H' : Hp} (h : Same H H') : Keep t H H' := fun b o e _ => h b o e
theorem Keep.tk {t : Addr} {H H' : Hp} {xs : List V} (k : Keep t H H') (h : H t = some (.lst xs)) : Tk H H' := fun b ys e => k b _ e (ne_of e h (by intro z; cases z))
theorem seq_split {t1 t2 : TS} {D : Ends} {σ : L2.St} {H : Hp} (J : L2.St → Hp → Prop) (hJ : ∀ σ' H', J σ' H' → t2 D σ' H') (h1 : (∀ σ' H', J σ' H' → t2 D σ' H') → tSeq t1 t2 D σ H) : tSeq t1 t2 D σ H := h1 hJ
theorem iV_get {l : List Int} {i : Nat} (h : i < l.length) : (l.map V.int)[i]? = some (.int (l[i])) := by rw [List.getElem?_map, List.getElem?_eq_getElem h]; rfl
/-- the names that the module does not bind -/
structure Mg (mg : Str → Option Value) : Prop where
  len : mg "len" = none
  int : mg "int" = none
  bool : mg "bool" = none
  str : mg "str" = none
  tuple : mg "tuple" = none
  list : mg "list" = none
  dict : mg "dict" = none
  range : mg "range" = none
  isinstance : mg "isinstance" = none
  sorted : mg "sorted" = none
  all : mg "all" = none
section
variable {P : Program} {w : World} {K : PySem.W.Frag} {mg : Str → Option Value} {base : Heap}
def spDraws (K : PySem.W.Frag) : Sp := fun vs H Q _ => ∃ (a : Addr) (ns : List Int) (N : Nat), vs = [.ref a, .int (N : Nat)] ∧ SqL K H a (ns.map V.int) ∧ ns.length ≤ 1000 ∧ N ≤ 1000 ∧ ∀ p H' (xs : List Int), Same H H' → H p = none → H' p = some (.lst (xs.map V.int)) → Q (.ref p) H'
theorem ok_law_draws {f : Addr} {fd : FuncData} (F : Dfn K mg "_law_draws" st__law_draws f fd ["script", "count"]) (M : Mg mg) : Cal P w K mg base 1 "_law_draws" (spDraws K) := by
  refine cal_mk F sc_law_draws (fun vs H Q E h => ?_) (fun cdv A outer s H vs Q E hr h => ?_)
  · obtain ⟨a, ns, N, rfl, _⟩ := h
    rfl
  obtain ⟨a, ns, N, rfl, hS, hlen, hN, q⟩ := h
  refine ⟨_, (pss_cons (ps_set (i := 2) sc_law_draws.nd rfl (.inl rfl) (pe_callTy (cList K rfl) (by rfl) M.list b_list (pa_cons (pv 0) pa_nil)))
      (pss_cons (ps_if (pt_cmpR op_eq (pe_callB (cLen K rfl) (by rfl) M.len b_len (pa_cons (pv 2) pa_nil)) pe_int (nomark _)) (pss_one (ps_set (i := 2) sc_law_draws.nd rfl (.inl rfl) (pe_lst (pa_cons pe_int pa_nil)))) pss_nil)
      (pss_cons (ps_set (i := 3) sc_law_draws.nd rfl (.inl rfl) (pe_lst pa_nil))
      (pss_cons (ps_set (i := 4) sc_law_draws.nd rfl (.inl rfl) pe_int)
      (pss_cons (ps_for PassesOwn.never rfl (pi_range1 (by rfl) M.range (pa_cons (pv 1) pa_nil)) (pg_name (i := 5) sc_law_draws.nd rfl (.inl rfl))
      (pss_cons (ps_set (i := 6) sc_law_draws.nd rfl (.inl rfl) (pe_op op_mod (pv 5) (pe_callB (cLen K rfl) (by rfl) M.len b_len (pa_cons (pv 2) pa_nil))))
      (pss_cons (ps_set (i := 7) sc_law_draws.nd rfl (.inl rfl) (pe_ix (ixL K rfl) (pv 2) (pv 6) (fun _ _ => rfl)))
      (pss_cons (ps_set (i := 4) sc_law_draws.nd rfl (.inl rfl) (pe_op op_mod (pe_callTy call_int1 (by rfl) M.int b_int (pa_cons (pe_op op_add (pe_op op_add (pe_op op_add (pe_op op_mul (pv 4) pe_int) (pe_op op_mul (pe_op op_mod (pe_callTy call_int1 (by rfl) M.int b_int (pa_cons (pv 7) pa_nil)) pe_int) pe_int)) (pe_op op_mul (pv 5) pe_int)) pe_int) pa_nil)) pe_int))
      (pss_cons (ps_set (i := 8) sc_law_draws.nd rfl (.inl rfl) (pe_op op_mod (pe_callTy call_int1 (by rfl) M.int b_int (pa_cons (pe_op op_add (pe_op op_add (pe_op op_mul (pv 4) (pv 4)) (pe_op op_mul pe_int (pv 4))) (pv 5)) pa_nil)) pe_int))
      (pss_one (ps_if (pt_cmpR op_ge (pv 7) (pe_op op_pow pe_int pe_int) (nomark _)) (pss_cons (ps_expr (pe_bm PySem.F.plainAttrs_list PySem.F.slot_list_append PySem.F.type_list_append mt_append (pv 3) (pa_cons (pe_op op_mod (pe_callTy call_int1 (by rfl) M.int b_int (pa_cons (pv 7) pa_nil)) pe_int) pa_nil)))
      (pss_one (ps_asg (pe_op op_fdiv (pv 7) pe_int) (pg_sub (pv 2) (pv 6) set_list)))) (pss_one (ps_expr (pe_bm PySem.F.plainAttrs_list PySem.F.slot_list_append PySem.F.type_list_append mt_append (pv 3) (pa_cons (pe_op op_mod (pe_callTy call_int1 (by rfl) M.int b_int (pa_cons (pv 8) pa_nil)) pe_int) pa_nil)))))))))))
      (pss_cons (ps_expr (pe_bm0 PySem.F.plainAttrs_list PySem.F.slot_list_reverse PySem.F.type_list_reverse mt_reverse (pv 3)))
      (pss_one (ps_ret (pv 3))))))))), ?_⟩
  -- cells = list(script)
  refine ⟨_, rfl, a, _, rfl, .inl hS, fun l nl => ?_⟩
  dsimp only [gName]
  refine seq_split (t1 := tIfS _ _ _) (fun σ' H' => ∃ (c : Addr) (cs : List Int), σ' = [some (.ref a), some (.int (N : Nat)), some (.ref c), none, none, none, none, none, none] ∧ Same H H' ∧ H c = none ∧ H' c = some (.lst (cs.map V.int)) ∧ 0 < cs.length ∧ cs.length ≤ 1000) ?_ (fun rest => ?_)
  · rintro σ' H1 ⟨c, cs, rfl, k1, nc, hc, hc0, hcl⟩
    -- found = []
    refine ⟨by decide, fun B nB => ?_⟩
    have hBn : H B = none := by
      cases e : H B with
      | none => rfl
      | some o => rw [k1 _ _ e] at nB; cases nB
    have hcB : c ≠ B := ne_of_none hc nB
    have k2 := k1.trans (same_upd (o := .lst []) nB)
    have hc2 : upd H1 B (.lst []) c = some (.lst (cs.map V.int)) := by rw [upd_ne hcB]; exact hc
    have hB2 : upd H1 B (.lst []) B = some (.lst (([] : List Int).map V.int)) := upd_same
    generalize upd H1 B (.lst []) = H2 at k2 hc2 hB2 ⊢
    -- for k in range(count)
    refine ⟨_, rfl, _, rfl, by omega, by omega, for_range (lo := 0) (n := N) (fun i σ H' => ∃ (mx : Int) (cs : List Int) (fs : List Int) (y5 y6 y7 y8 : Option V), σ = [some (.ref a), some (.int (N : Nat)), some (.ref c), some (.ref B), some (.int mx), y5, y6, y7, y8] ∧ 0 ≤ mx ∧ mx < 2147483647 ∧ Same H H' ∧ H' c = some (.lst (cs.map V.int)) ∧ 0 < cs.length ∧ cs.length ≤ 1000 ∧ H' B = some (.lst (fs.map V.int)) ∧ fs.length = i)
      ⟨12345, cs, [], none, none, none, none, rfl, by decide, by decide, k2, hc2, hc0, hcl, hB2, rfl⟩ ?_ ?_⟩
    · rintro i σ H3 hi ⟨mx, cs, fs, y5, y6, y7, y8, rfl, hm0, hm1, k3, hc3, hc0, hcl, hB3, hfl⟩
      -- j = k % len(cells)
      refine ⟨_, rfl, _, rfl, c, _, rfl, .inl (SqL.of hc3), _, _, rfl, rfl, by rw [List.length_map]; omega, ?_⟩
      rw [List.length_map]
      dsimp only [gName]
      have j0 : 0 ≤ ((0 : Int) + (i : Int)) % (cs.length : Int) := Int.emod_nonneg _ (by omega)
      have j1 : ((0 : Int) + (i : Int)) % (cs.length : Int) < (cs.length : Int) := Int.emod_lt_of_pos _ (by omega)
      generalize ((0 : Int) + (i : Int)) % (cs.length : Int) = j at j0 j1 ⊢
      obtain ⟨jn, rfl⟩ : ∃ jn : Nat, j = (jn : Int) := ⟨j.toNat, by omega⟩
      have jl : jn < cs.length := by omega
      -- cell = cells[j]
      refine ⟨_, rfl, _, rfl, c, _, _, _, rfl, rfl, SqL.of hc3, atN (iV_get jl), ?_⟩
      generalize cs[jn] = cl
      -- mixed = ..
      refine ⟨_, rfl, _, _, rfl, rfl, .inr (by constructor <;> decide), _, rfl, .inl ⟨_, rfl, _, _, rfl, rfl, (by show (0 : Int) < 1000003; decide), _, _, rfl, rfl, .inr (by constructor <;> decide), _, _, rfl, rfl, _, rfl, _, _, rfl, rfl, .inr (by constructor <;> decide), _, _, rfl, rfl, _, _, rfl, rfl, .inl ⟨_, rfl, _, _, rfl, rfl, (by show (0 : Int) < 2147483647; decide), ?_⟩⟩⟩
      dsimp only [gName]
      have m0 : ∀ z : Int, 0 ≤ z % 2147483647 := fun z => Int.emod_nonneg _ (by decide)
      have m1 : ∀ z : Int, z % 2147483647 < 2147483647 := fun z => Int.emod_lt_of_pos _ (by decide)
      generalize hz : (mx * 48271 + cl % 1000003 * 69621 + (0 + (i : Int)) * 7919 + 11) = z
      have hm0' := m0 z
      have hm1' := m1 z
      generalize z % 2147483647 = my at hm0' hm1' ⊢
      -- again = ..
      refine ⟨_, rfl, _, rfl, _, _, rfl, rfl, .inl ⟨by omega, by omega⟩, _, rfl, _, _, rfl, rfl, .inl (by constructor <;> decide), _, _, rfl, rfl, _, rfl, _, _, rfl, rfl, .inl ⟨_, rfl, _, _, rfl, rfl, (by show (0 : Int) < 1000003; decide), ?_⟩⟩
      dsimp only [gName]
      generalize (my * my + 31 * my + (0 + (i : Int))) % 1000003 = ag
      have hBH : H B = none := hBn
      have hf1 : fs.length + 1 ≤ 1000 := by omega
      have bd : ∀ z : Int, (fs ++ [z]).length = i + 1 := fun z => by rw [List.length_append, hfl]; rfl
      have nB3 : ∀ b o, H b = some o → b ≠ B := fun b o e => ne_of_none e hBn
      have nc3 : ∀ b o, H b = some o → b ≠ c := fun b o e => ne_of_none e nc
      -- if cell >= 10 ** 18
      refine ⟨_, rfl, _, _, rfl, rfl, ⟨by decide, by decide, by decide⟩, _, _, rfl, rfl, _, rfl, ite2 (fun c1 => ?_) (fun c1 => ?_)⟩
      · refine ⟨_, rfl, .inl ⟨rfl, _, SqL.of hB3⟩, _, rfl, .inl ⟨_, rfl, _, _, rfl, rfl, (by show (0 : Int) < 1000; decide), B, _, _, rfl, rfl, hB3, by rw [List.length_map]; exact small1000 (by omega), ?_⟩⟩
        refine ⟨_, rfl, _, _, rfl, rfl, by constructor <;> decide, _, rfl, _, rfl, c, cs.map V.int, jn, jn, rfl, rfl, by rw [upd_ne hcB]; exact hc3, ?_, ?_⟩
        · rw [List.length_map]
          unfold ixN
          rw [if_pos (by omega), if_pos (by omega)]
          simp
        · refine ⟨my, cs.set jn (cl / 1000), fs ++ [cl % 1000], _, _, _, _, rfl, hm0', hm1', fun b o e => ?_, ?_, ?_, ?_, ?_, bd _⟩
          · rw [upd_ne (nc3 b o e), upd_ne (nB3 b o e)]
            exact k3 _ _ e
          · rw [upd_same, List.map_set]
          · rw [List.length_set]; exact hc0
          · rw [List.length_set]; exact hcl
          · rw [upd_ne hcB.symm, upd_same, List.map_append]
            rfl
      · refine ⟨_, rfl, .inl ⟨rfl, _, SqL.of hB3⟩, _, rfl, .inl ⟨_, rfl, _, _, rfl, rfl, (by show (0 : Int) < 1000; decide), B, _, _, rfl, rfl, hB3, by rw [List.length_map]; exact small1000 (by omega), ?_⟩⟩
        refine ⟨my, cs, fs ++ [ag % 1000], _, _, _, _, rfl, hm0', hm1', fun b o e => ?_, ?_, hc0, hcl, ?_, bd _⟩
        · rw [upd_ne (nB3 b o e)]
          exact k3 _ _ e
        · rw [upd_ne hcB]; exact hc3
        · rw [upd_same, List.map_append]
          rfl
    · rintro σ H3 ⟨mx, cs, fs, y5, y6, y7, y8, rfl, hm0, hm1, k3, hc3, hc0, hcl, hB3, hfl⟩
      -- found.reverse()
      refine ⟨_, rfl, .inl ⟨rfl, _, SqL.of hB3⟩, B, _, rfl, rfl, hB3, ?_⟩
      refine ⟨_, rfl, q B _ fs.reverse (fun b o e => by rw [upd_ne (ne_of_none e hBn)]; exact k3 _ _ e) hBn ?_⟩
      rw [upd_same, List.map_reverse]
  · have k2 := same_upd (o := .lst (ns.map V.int)) nl
    have hl : upd H l (.lst (ns.map V.int)) l = some (.lst (ns.map V.int)) := upd_same
    generalize upd H l (.lst (ns.map V.int)) = H2 at k2 hl ⊢
    refine ⟨_, rfl, l, _, rfl, .inl (SqL.of hl), rfl, _, rfl, ite2 (fun c1 => ?_) (fun c1 => ?_)⟩
    · refine ⟨by show 1 ≤ sizeLine; decide, fun l2 nl2 => rest _ _ ⟨l2, [7], rfl, k2.trans (same_upd nl2), ?_, upd_same, by decide, by decide⟩⟩
      cases e : H l2 with
      | none => rfl
      | some o => rw [k2 _ _ e] at nl2; cases nl2
    · have c1' : ¬ ((ns.map V.int).length : Int) = 0 := fun z => by
        apply c1
        rw [show V.int ((ns.map V.int).length : Int) = V.int 0 from by rw [z]]
        simp
      rw [List.length_map] at c1'
      exact rest _ _ ⟨l, ns, rfl, k2, nl, hl, by omega, hlen⟩
/-- _law_take: any draw that may come -/
def spTake : Sp := fun vs H Q _ => ∃ (t : Addr) (m : Int) (xs : List Int), vs = [.ref t, .int m] ∧ H t = some (.lst (xs.map V.int)) ∧ 0 < m ∧ ∀ (r : Int) (H' : Hp) (ys : List Int), 0 ≤ r → r < m → Keep t H H' → H' t = some (.lst (ys.map V.int)) → Q (.int r) H'
theorem ok_law_take {f : Addr} {fd : FuncData} (F : Dfn K mg "_law_take" st__law_take f fd ["draws", "limit"]) (M : Mg mg) : Cal P w K mg base 1 "_law_take" spTake := by
  refine cal_mk F sc_law_take (fun vs H Q E h => ?_) (fun cdv A outer s H vs Q E hr h => ?_)
  · obtain ⟨t, m, xs, rfl, _⟩ := h
    rfl
  obtain ⟨p, m, xs, rfl, hT, hm0, q⟩ := h
  refine ⟨_, (pss_cons (ps_if (pt_cmpR op_eq (pe_callB (cLen K rfl) (by rfl) M.len b_len (pa_cons (pv 0) pa_nil)) pe_int (nomark _)) (pss_one (ps_ret pe_int)) pss_nil)
      (pss_one (ps_ret (pe_op op_mod (pe_callTy call_int1 (by rfl) M.int b_int (pa_cons (pe_bm0 PySem.F.plainAttrs_list PySem.F.slot_list_pop PySem.F.type_list_pop mt_pop (pv 0)) pa_nil)) (pv 1))))), ?_⟩
  refine ⟨_, rfl, p, _, rfl, .inl (SqL.of hT), rfl, _, rfl, ite2 (fun c1 => ?_) (fun c1 => ?_)⟩
  · exact q 0 H xs (Int.le_refl 0) hm0 (Keep.refl _ _) hT
  · have c1' : ¬ ((xs.map V.int).length : Int) = 0 := fun z => by
      apply c1
      rw [show V.int ((xs.map V.int).length : Int) = V.int 0 from by rw [z]]
      simp
    rw [List.length_map] at c1'
    have hl : (xs.map V.int).length - 1 < xs.length := by rw [List.length_map]; omega
    refine ⟨_, rfl, .inl ⟨rfl, _, SqL.of hT⟩, p, _, _, rfl, rfl, hT, iV_get hl, .inl ⟨_, rfl, _, rfl, _, _, rfl, rfl, hm0, ?_⟩⟩
    exact q _ _ xs.dropLast (Int.emod_nonneg _ (by omega)) (Int.emod_lt_of_pos _ hm0) Keep.at (by rw [upd_same, List.map_dropLast])
end
end W3
set_option Elab.async false
set_option linter.all false
set_option maxRecDepth 100000
set_option maxHeartbeats 4000000
namespace W3
open PySem PySem.Spec PyProof.Rows L2 Com
section
variable {P : Program} {w : World} {K : PySem.W.Frag} {mg : Str → Option Value} {base : Heap}
/-- both stand for one datum of at most this depth -/
def spSame (K : PySem.W.Frag) (n : Nat) : Sp := fun vs H Q _ => ∃ (v u : V) (d : PyData), vs = [v, u] ∧ Dp K H v d ∧ Dp K H u d ∧ d.depth < n ∧ smD d = true ∧ ∀ H', Same H H' → Q (.bl true) H'
theorem same0 {f : Addr} {fd : FuncData} (F : Dfn K mg "_law_same" st__law_same f fd ["found", "due"]) : Cal P w K mg base 1 "_law_same" (spSame K 0) := by
  have no : ∀ vs H Q E, ¬ spSame K 0 vs H Q E := fun vs H Q E h => by
    obtain ⟨_, _, _, _, _, _, h1, _⟩ := h
    omega
  exact ⟨f, fd, _, ⟨fun vs H Q E h => absurd h (no vs H Q E), fun A outer s H args us vs Q E _ _ _ _ h => absurd h (no vs H Q E)⟩, F.mgf, F.fn.kp, F.b⟩
theorem ok_law_same {f : Addr} {fd : FuncData} {n k : Nat} (F : Dfn K mg "_law_same" st__law_same f fd ["found", "due"]) (M : Mg mg) (G_law_same : Cal P w K mg base k "_law_same" (spSame K n)) : Cal P w K mg base (k + 1) "_law_same" (spSame K (n + 1)) := by
  refine cal_mk F sc_law_same (fun vs H Q E h => ?_) (fun cdv A outer s H vs Q E hr h => ?_)
  · obtain ⟨v, u, d, rfl, _⟩ := h
    rfl
  obtain ⟨v, u, d, rfl, hv, hu', hdp, hsm, q⟩ := h
  have same1 : ∀ b c : Addr, ∀ (b : Bool), True := fun _ _ _ => True.intro
  -- the end: lengths, and all
  have fin : ∀ (a b : Addr) (xs ys : List V) (ds : List PyData), Sq K H a xs → Sq K H b ys → DpAll K H xs ds → DpAll K H ys ds → PyData.depthAll ds < n → ds.length ≤ 1000000 → smAll ds = true → xs.length = ds.length ∧ ys.length = ds.length := fun a b xs ys ds _ _ h1 h2 _ _ _ => ⟨DpAll_len h1, DpAll_len h2⟩
  refine ⟨_, (pss_cons (ps_if (pt_cmpR op_isN (pv 1) pe_non (nomark _)) (pss_one (ps_ret (pe_cmpR op_isN (pv 0) pe_non (nomark _)))) pss_nil)
      (pss_cons (ps_if (pt_val (pe_callB (cIsi K rfl) (by rfl) M.isinstance b_isinstance (pa_cons (pv 1) (pa_cons (pe_bltn (v := .ty "bool") (by rfl) M.bool b_bool rfl) pa_nil)))) (pss_one (ps_ret (pe_and (pe_callB (cIsi K rfl) (by rfl) M.isinstance b_isinstance (pa_cons (pv 0) (pa_cons (pe_bltn (v := .ty "bool") (by rfl) M.bool b_bool rfl) pa_nil))) (pe_one (pe_cmpR op_eq (pv 0) (pv 1) (nomark _)))))) pss_nil)
      (pss_cons (ps_if (pt_val (pe_callB (cIsi K rfl) (by rfl) M.isinstance b_isinstance (pa_cons (pv 1) (pa_cons (pe_bltn (v := .ty "int") (by rfl) M.int b_int rfl) pa_nil)))) (pss_one (ps_ret (pe_and (pe_callB (cIsi K rfl) (by rfl) M.isinstance b_isinstance (pa_cons (pv 0) (pa_cons (pe_bltn (v := .ty "int") (by rfl) M.int b_int rfl) pa_nil))) (pe_and (pe_not (pe_callB (cIsi K rfl) (by rfl) M.isinstance b_isinstance (pa_cons (pv 0) (pa_cons (pe_bltn (v := .ty "bool") (by rfl) M.bool b_bool rfl) pa_nil)))) (pe_one (pe_cmpR op_eq (pv 0) (pv 1) (nomark _))))))) pss_nil)
      (pss_cons (ps_if (pt_val (pe_callB (cIsi K rfl) (by rfl) M.isinstance b_isinstance (pa_cons (pv 1) (pa_cons (pe_bltn (v := .ty "str") (by rfl) M.str b_str rfl) pa_nil)))) (pss_one (ps_ret (pe_and (pe_callB (cIsi K rfl) (by rfl) M.isinstance b_isinstance (pa_cons (pv 0) (pa_cons (pe_bltn (v := .ty "str") (by rfl) M.str b_str rfl) pa_nil))) (pe_one (pe_cmpR op_eq (pv 0) (pv 1) (nomark _)))))) pss_nil)
      (pss_cons (ps_if (PW.pt (pw_or (pt_cmpR op_ne (pe_callB (cIsi K rfl) (by rfl) M.isinstance b_isinstance (pa_cons (pv 1) (pa_cons (pe_bltn (v := .ty "tuple") (by rfl) M.tuple b_tuple rfl) pa_nil))) (pe_callB (cIsi K rfl) (by rfl) M.isinstance b_isinstance (pa_cons (pv 0) (pa_cons (pe_bltn (v := .ty "tuple") (by rfl) M.tuple b_tuple rfl) pa_nil))) (nomark _)) (pw_or1 (pt_cmpR op_ne (pe_callB (cIsi K rfl) (by rfl) M.isinstance b_isinstance (pa_cons (pv 1) (pa_cons (pe_bltn (v := .ty "list") (by rfl) M.list b_list rfl) pa_nil))) (pe_callB (cIsi K rfl) (by rfl) M.isinstance b_isinstance (pa_cons (pv 0) (pa_cons (pe_bltn (v := .ty "list") (by rfl) M.list b_list rfl) pa_nil))) (nomark _))))) (pss_one (ps_ret pe_bl)) pss_nil)
      (pss_one (ps_ret (pe_and (pe_cmpR op_eq (pe_callB (cLen K rfl) (by rfl) M.len b_len (pa_cons (pv 0) pa_nil)) (pe_callB (cLen K rfl) (by rfl) M.len b_len (pa_cons (pv 1) pa_nil)) (nomark _)) (pe_one (pe_callB (cAll K rfl) (by rfl) M.all b_all (pa_cons (pe_lc (own := [("k", 2)]) (g := gName 2) (by rfl) sc_law_same.nd (pi_range1 (by rfl) M.range (pa_cons (pe_callB (cLen K rfl) (by rfl) M.len b_len (pa_cons (pv 1) pa_nil)) pa_nil)) (blkOk_by (own := [("k", 2)]) (N := ["found", "due", "k"]) (sc := defScope st__law_same) (by decide +kernel)) (fun _ _ _ _ _ => (pg_name (i := 2) sc_law_same.nd rfl (.inl rfl))) (fun _ _ _ _ _ => pts_nil) (fun _ _ _ _ _ => (pe_c G_law_same hr (by omega) (by rfl) (pa_cons (pe_ix (ixQ K rfl) (pv 0) (pv 2) (fun _ _ => rfl)) (pa_cons (pe_ix (ixQ K rfl) (pv 1) (pv 2) (fun _ _ => rfl)) pa_nil))))) pa_nil))))))))))), ?_⟩
  have tail : ∀ (a b : Addr) (xs ys : List V) (ds : List PyData), Sq K H a xs → Sq K H b ys → DpAll K H xs ds → DpAll K H ys ds → PyData.depthAll ds < n → ds.length ≤ 1000000 → smAll ds = true → ∀ D : Addr, H D = none →
      ∃ W : Nat → Nat → Hp → Prop, (∃ m, W 0 m (upd H D (.lst []))) ∧ ∀ i m H1, W i m H1 →
      ((Itr 0 ys.length).stop i H1 ∧ rAll K [.ref D] H1 Q) ∨ ((Itr 0 ys.length).go i H1 ∧ ∃ Nx : Hp → Prop, (∀ H', Nx H' → ∃ m', m' < m ∧ W (i + 1) m' H') ∧ ∀ x H', (Itr 0 ys.length).yld i H1 x H' → gName 2 x (wipe [some (.ref a), some (.ref b), none] [2]) H' fun σ2 H2 => wipe σ2 [2] = wipe [some (.ref a), some (.ref b), none] [2] ∧ tYes σ2 H2 fun c H3 =>
        if c = true then tCall (spSame K n) [] E0 (tCons (tOp (rIx K) (tVar 0) (tVar 2)) (tCons (tOp (rIx K) (tVar 1) (tVar 2)) tNil)) σ2 H3 fun y H4 => ∃ acc, H4 D = some (.lst acc) ∧ acc.length < sizeLine ∧ Nx (upd H4 D (.lst (acc ++ [y]))) else Nx H3) := by
    intro a b xs ys ds ha hb hx hy hdp hmil hsm D nD
    have ex := DpAll_len hx
    have ey := DpAll_len hy
    refine lc_range (lo := 0) (n := ys.length) (fun i H' => Same H H' ∧ H' D = some (.lst ((List.replicate i true).map V.bl))) ⟨same_upd nD, upd_same⟩ ?_ ?_
    · rintro i H' hi ⟨ss, hD⟩
      have hix : i < xs.length := by omega
      obtain ⟨d, hd, dx⟩ := DpAll.getE hx (List.getElem?_eq_getElem hix)
      obtain ⟨d', hd', dy⟩ := DpAll.getE hy (List.getElem?_eq_getElem hi)
      rw [hd] at hd'
      cases hd'
      have hdm := depth_mem (List.mem_of_getElem? hd)
      have e0 : (0 : Int) + (i : Int) = (i : Int) := Int.zero_add _
      refine ⟨rfl, ?_⟩
      unfold tYes
      refine iteT ⟨_, rfl, _, rfl, ixq (same_sq ss ha) (by rw [e0]; exact atN (List.getElem?_eq_getElem hix)) ⟨_, rfl, _, rfl, ixq (same_sq ss hb) (by rw [e0]; exact atN (List.getElem?_eq_getElem hi)) ⟨_, _, d, rfl, Dp.same ss d _ dx, Dp.same ss d _ dy, by omega, smAll_mem hsm (List.mem_of_getElem? hd), fun H4 s4 => ?_⟩⟩⟩
      refine ⟨_, s4 _ _ hD, ?_, fun c o e => ?_, ?_⟩
      · rw [List.length_map, List.length_replicate]
        show _ < 2 ^ 24
        omega
      · rw [upd_ne (ne_of_none e nD)]
        exact s4 _ _ (ss _ _ e)
      · rw [upd_same, List.replicate_succ', List.map_append]
        rfl
    · rintro H' ⟨ss, hD⟩
      refine ⟨D, List.replicate ys.length true, rfl, SqL.of hD, ?_⟩
      have e : (List.replicate ys.length true).all id = true := by
        rw [List.all_eq_true]
        intro x hx
        rw [List.eq_of_mem_replicate hx]
        rfl
      rw [e]
      exact q H' ss
  cases hv with
  | non =>
    cases hu'
    exact ⟨_, rfl, rfl, _, rfl, iteT ⟨_, rfl, rfl, q H fun _ _ e => e⟩⟩
  | bl b =>
    cases hu'
    refine ⟨_, rfl, rfl, _, rfl, iteF ?_⟩
    refine ⟨_, rfl, _, _, _, _, true, rfl, .ty "bool", .base (.bl b), kit_ty k_bb, true, rfl, iteT ?_⟩
    exact ⟨_, rfl, _, _, _, _, true, rfl, .ty "bool", .base (.bl b), kit_ty k_bb, true, rfl, iteT ⟨_, rfl, _, rfl, rfl, by rw [decide_eq_true rfl]; exact q H fun _ _ e => e⟩⟩
  | int i =>
    cases hu'
    refine ⟨_, rfl, rfl, _, rfl, iteF ?_⟩
    refine ⟨_, rfl, _, _, _, _, false, rfl, .ty "bool", .base (.int i), kit_ty k_ib, false, rfl, iteF ?_⟩
    refine ⟨_, rfl, _, _, _, _, true, rfl, .ty "int", .base (.int i), kit_ty k_ii, true, rfl, iteT ?_⟩
    refine ⟨_, rfl, _, _, _, _, true, rfl, .ty "int", .base (.int i), kit_ty k_ii, true, rfl, iteT ?_⟩
    refine ⟨_, rfl, _, _, _, _, false, rfl, .ty "bool", .base (.int i), kit_ty k_ib, false, rfl, true, rfl, iteT ?_⟩
    exact ⟨_, rfl, _, rfl, rfl, by rw [decide_eq_true rfl]; exact q H fun _ _ e => e⟩
  | str x =>
    cases hu'
    refine ⟨_, rfl, rfl, _, rfl, iteF ?_⟩
    refine ⟨_, rfl, _, _, _, _, false, rfl, .ty "bool", .base (.str x), kit_ty k_sb, false, rfl, iteF ?_⟩
    refine ⟨_, rfl, _, _, _, _, false, rfl, .ty "int", .base (.str x), kit_ty k_si, false, rfl, iteF ?_⟩
    refine ⟨_, rfl, _, _, _, _, true, rfl, .ty "str", .base (.str x), kit_ty k_ss, true, rfl, iteT ?_⟩
    exact ⟨_, rfl, _, _, _, _, true, rfl, .ty "str", .base (.str x), kit_ty k_ss, true, rfl, iteT ⟨_, rfl, _, rfl, rfl, by rw [decide_eq_true rfl]; exact q H fun _ _ e => e⟩⟩
  | @tup a xs ds ha hx =>
    cases hu' with
    | @tup b ys _ hb hy =>
    refine ⟨_, rfl, rfl, _, rfl, iteF ?_⟩
    refine ⟨_, rfl, _, _, _, _, false, rfl, .ty "bool", tyT hb, kit_ty k_tb, false, rfl, iteF ?_⟩
    refine ⟨_, rfl, _, _, _, _, false, rfl, .ty "int", tyT hb, kit_ty k_ti, false, rfl, iteF ?_⟩
    refine ⟨_, rfl, _, _, _, _, false, rfl, .ty "str", tyT hb, kit_ty k_ts, false, rfl, iteF ?_⟩
    refine ⟨_, rfl, _, _, _, _, true, rfl, .ty "tuple", tyT hb, kit_ty k_tt, _, rfl, _, _, _, _, true, rfl, .ty "tuple", tyT ha, kit_ty k_tt, rfl, _, rfl, iteNS rfl ?_⟩
    refine ⟨_, rfl, _, _, _, _, false, rfl, .ty "list", tyT hb, kit_ty k_tl, _, rfl, _, _, _, _, false, rfl, .ty "list", tyT ha, kit_ty k_tl, rfl, _, rfl, iteNS rfl ?_⟩
    simp only [PyData.depth] at hdp
    simp only [smD, Bool.and_eq_true, decide_eq_true_eq] at hsm
    obtain ⟨l1, l2⟩ := fin a b xs ys ds (.inr ha) (.inr hb) hx hy (by omega) hsm.1 hsm.2
    refine ⟨_, rfl, a, xs, rfl, .inr ha, _, rfl, b, ys, rfl, .inr hb, rfl, _, rfl, ?_⟩
    rw [decide_eq_true (show V.int (xs.length : Int) = V.int (ys.length : Int) by rw [l1, l2])]
    refine iteT ⟨_, rfl, b, ys, rfl, .inr hb, _, rfl, by omega, by omega, fun D nD => ?_⟩
    exact tail a b xs ys ds (.inr ha) (.inr hb) hx hy (by omega) hsm.1 hsm.2 D nD
  | @lst a xs ds ha hx =>
    cases hu' with
    | @lst b ys _ hb hy =>
    refine ⟨_, rfl, rfl, _, rfl, iteF ?_⟩
    refine ⟨_, rfl, _, _, _, _, false, rfl, .ty "bool", tyL hb, kit_ty k_lb, false, rfl, iteF ?_⟩
    refine ⟨_, rfl, _, _, _, _, false, rfl, .ty "int", tyL hb, kit_ty k_li, false, rfl, iteF ?_⟩
    refine ⟨_, rfl, _, _, _, _, false, rfl, .ty "str", tyL hb, kit_ty k_ls, false, rfl, iteF ?_⟩
    refine ⟨_, rfl, _, _, _, _, false, rfl, .ty "tuple", tyL hb, kit_ty k_lt, _, rfl, _, _, _, _, false, rfl, .ty "tuple", tyL ha, kit_ty k_lt, rfl, _, rfl, iteNS rfl ?_⟩
    refine ⟨_, rfl, _, _, _, _, true, rfl, .ty "list", tyL hb, kit_ty k_ll, _, rfl, _, _, _, _, true, rfl, .ty "list", tyL ha, kit_ty k_ll, rfl, _, rfl, iteNS rfl ?_⟩
    simp only [PyData.depth] at hdp
    simp only [smD, Bool.and_eq_true, decide_eq_true_eq] at hsm
    obtain ⟨l1, l2⟩ := fin a b xs ys ds (.inl ha) (.inl hb) hx hy (by omega) hsm.1 hsm.2
    refine ⟨_, rfl, a, xs, rfl, .inl ha, _, rfl, b, ys, rfl, .inl hb, rfl, _, rfl, ?_⟩
    rw [decide_eq_true (show V.int (xs.length : Int) = V.int (ys.length : Int) by rw [l1, l2])]
    refine iteT ⟨_, rfl, b, ys, rfl, .inl hb, _, rfl, by omega, by omega, fun D nD => ?_⟩
    exact tail a b xs ys ds (.inl ha) (.inl hb) hx hy (by omega) hsm.1 hsm.2 D nD
theorem same_all {f : Addr} {fd : FuncData} (F : Dfn K mg "_law_same" st__law_same f fd ["found", "due"]) (M : Mg mg) : ∀ n : Nat, Cal P w K mg base (n + 1) "_law_same" (spSame K n)
  | 0 => same0 F
  | n + 1 => ok_law_same F M (same_all F M n)
end
end W3
set_option Elab.async false
set_option linter.all false
set_option maxRecDepth 100000
set_option maxHeartbeats 4000000
namespace W3
open PySem PySem.Spec PyProof.Rows L2 Com
theorem tc {v : V} {σ : L2.St} {H : Hp} {Q : VK} (h : Q v H) : tC v σ H Q := h
theorem ixt {K : PySem.W.Frag} {H : Hp} {p : Addr} {xs : List V} {i : Int} {v : V} {Q : VK} (h : H p = some (.tup xs)) (e : atI xs i = some v) (q : Q v H) : rIxT K (.ref p) (.int i) H Q := ⟨p, xs, i, v, rfl, rfl, SqT.of h, e, q⟩
theorem ixl {K : PySem.W.Frag} {H : Hp} {p : Addr} {xs : List V} {i : Int} {v : V} {Q : VK} (h : H p = some (.lst xs)) (e : atI xs i = some v) (q : Q v H) : rIxL K (.ref p) (.int i) H Q := ⟨p, xs, i, v, rfl, rfl, SqL.of h, e, q⟩
theorem prE {H : Hp} {v : V} {p : Pr} (h : Dt H v (prD p)) : ∃ a, v = .ref a ∧ H a = some (.tup [.str p.1, .int p.2]) := by
  obtain ⟨a, xs, rfl, ha, h1⟩ := Dt.tupE h
  obtain ⟨x0, r0, rfl, h0, h1⟩ := h1.consE
  obtain ⟨x1, r1, rfl, h2, h1⟩ := h1.consE
  have e := h1.nilE
  subst e
  rw [h0.strE, h2.intE] at ha
  exact ⟨a, rfl, ha⟩
theorem prM {H : Hp} {a : Addr} {p : Pr} (h : H a = some (.tup [.str p.1, .int p.2])) : Dt H (.ref a) (prD p) := .tup h (.cons (.str _) (.cons (.int _) .nil))
/-! artifacts -/
def artD (n : Str) (us : List Pr) : PyData := .tuple [.str "module", .str n, .tuple (us.map prD), .tuple [], .tuple [], .tuple []]
def ArtOk (H : Hp) : List (Key × V) → List (Str × List Pr) → Prop
  | [], [] => True
  | (k, v) :: kvs, (n, us) :: as => k = .inr n ∧ Dt H v (artD n us) ∧ ArtOk H kvs as
  | _, _ => False
def U : List (Str × List Pr) → Str → List Pr
  | [], _ => []
  | p :: r, n => if p.1 = n then p.2 else U r n
theorem ArtOk.tk {H H' : Hp} (k : Tk H H') : ∀ {kvs : List (Key × V)} {as : List (Str × List Pr)}, ArtOk H kvs as → ArtOk H' kvs as
  | [], [], _ => True.intro
  | (_, _) :: kvs, (_, _) :: as, h => ⟨h.1, h.2.1.tk k, ArtOk.tk k h.2.2⟩
  | [], _ :: _, h => h.elim
  | _ :: _, [], h => h.elim
theorem ArtOk.get {H : Hp} {n : Str} : ∀ {kvs : List (Key × V)} {as : List (Str × List Pr)}, ArtOk H kvs as → (∃ v us, valV kvs (.inr n) = some v ∧ Dt H v (artD n us) ∧ U as n = us) ∨ (valV kvs (.inr n) = none ∧ U as n = [])
  | [], [], _ => .inr ⟨rfl, rfl⟩
  | (k, v) :: kvs, (m, us) :: as, h => by
    obtain ⟨rfl, h1, h2⟩ := h
    by_cases e : m = n
    · subst e
      refine .inl ⟨v, us, valV_pos rfl, h1, ?_⟩
      simp [U]
    · have e1 : valV ((.inr m, v) :: kvs) (.inr n : Key) = valV kvs (.inr n) := valV_neg fun z => e (Sum.inr.inj z)
      have e2 : U ((m, us) :: as) n = U as n := by simp [U, e]
      rw [e1, e2]
      exact ArtOk.get h2
  | [], _ :: _, h => h.elim
  | _ :: _, [], h => h.elim
theorem artE {H : Hp} {v : V} {n : Str} {us : List Pr} (h : Dt H v (artD n us)) : ∃ a b c xs, v = .ref a ∧ H a = some (.tup (.str "module" :: c :: .ref b :: xs)) ∧ ∃ ys, H b = some (.tup ys) ∧ DtAll H ys (us.map prD) := by
  obtain ⟨a, xs, rfl, ha, h1⟩ := Dt.tupE h
  obtain ⟨x0, r0, rfl, h0, h1⟩ := h1.consE
  obtain ⟨x1, r1, rfl, h2, h1⟩ := h1.consE
  obtain ⟨x2, r2, rfl, h3, h1⟩ := h1.consE
  obtain ⟨b, ys, rfl, hb, h4⟩ := Dt.tupE h3
  rw [h0.strE] at ha
  exact ⟨a, b, x1, r2, rfl, ha, ys, hb, h4⟩
/-! found -/
def kT (p : Pr) : List Key := [.inr p.1, .inl p.2]
theorem kT_map (p : Pr) : (kT p).map kV = [.str p.1, .int p.2] := rfl
theorem kT_inj {p q : Pr} (h : kT p = kT q) : p = q := by
  obtain ⟨a, b⟩ := p
  obtain ⟨c, d⟩ := q
  simp only [kT, List.cons.injEq, Sum.inr.injEq, Sum.inl.injEq, and_true] at h
  rw [h.1, h.2]
def fK (fs : List Pr) : List (List Key × V) := fs.map fun p => (kT p, .bl true)
theorem val_fK (p : Pr) : ∀ fs : List Pr, (valV (fK fs) (kT p)).isSome = decide (p ∈ fs)
  | [] => by simp [fK, valV]
  | x :: fs => by
    by_cases e : x = p
    · subst e
      rw [show fK (x :: fs) = (kT x, V.bl true) :: fK fs from rfl, valV_pos rfl]
      simp
    · rw [show fK (x :: fs) = (kT x, V.bl true) :: fK fs from rfl, valV_neg (fun z => e (kT_inj z)), val_fK p fs]
      have : ¬ p = x := fun z => e z.symm
      simp [this]
theorem put_fK {p : Pr} {fs : List Pr} (h : p ∉ fs) : putK (fK fs) (kT p) (.bl true) = fK (fs ++ [p]) := by
  have e : ((fK fs).any fun kv => decide (kv.1 = kT p)) = false := by
    rw [valV_any, val_fK, decide_eq_false h]
  unfold putK
  rw [e, if_neg Bool.false_ne_true]
  simp [fK]
theorem isKeys_dt {H : Hp} : ∀ {fs : List Pr} {bs : List Addr}, IsKeys H (fK fs) bs → DtAll H (bs.map V.ref) (fs.map prD)
  | [], _, h => by cases h; exact .nil
  | p :: fs, _, h => by
    unfold IsKeys at h
    rw [show fK (p :: fs) = (kT p, V.bl true) :: fK fs from rfl] at h
    cases h with
    | cons h1 h2 => exact .cons (prM h1) (isKeys_dt h2)
theorem DtAll.appE {H : Hp} : ∀ {vs : List V} {ds es : List PyData}, DtAll H vs (ds ++ es) → ∃ xs ys, vs = xs ++ ys ∧ DtAll H xs ds ∧ DtAll H ys es
  | vs, [], es, h => ⟨[], vs, rfl, .nil, h⟩
  | _, d :: ds, es, h => by
    cases h with
    | cons h1 h2 =>
      obtain ⟨xs, ys, rfl, a, b⟩ := DtAll.appE h2
      exact ⟨_ :: xs, ys, rfl, .cons h1 a, b⟩
theorem dep_pr (p : Pr) : (prD p).depth ≤ 1 := by simp [prD, PyData.depth, PyData.depthAll]
theorem alike_pr (b b' : Pr) : PySem.W.alike (prD b) (prD b') = true := by simp [prD, PySem.W.alike, PySem.W.alikeAll]
theorem sortable_pr (l : List Pr) : PySem.W.Sortable (l.map prD) := PySem.W.Sortable.tuples fun p => ⟨_, _, rfl⟩
/-- what the uses are: names of modules that may be, levels -/
def UOk (ns : List Str) (as : List (Str × List Pr)) : Prop := ∀ n u, u ∈ U as n → u.1 ∈ ns ∧ 0 ≤ u.2 ∧ u.2 < 4
/-- the state of a search: what was found, what is left -/
structure Srch (S : Pr → List Pr) (r : Pr) (ns : List Str) (fs ls : List Pr) : Prop where
  nd : fs.Nodup
  root : r ∈ fs
  rch : ∀ x ∈ fs, Rch S r x
  uni : ∀ x ∈ fs, x ∈ uni ns
  left : ∀ x ∈ ls, x ∈ fs
  done : ∀ x ∈ fs, x ∈ ls ∨ ∀ y ∈ S x, y ∈ fs
section
variable {P : Program} {w : World} {K : PySem.W.Frag} {mg : Str → Option Value} {base : Heap}
def spReach : Sp := fun vs H Q _ => ∃ (a : Addr) (kvs : List (Key × V)) (as : List (Str × List Pr)) (mn : Str) (ns : List Str), vs = [.ref a, .str mn] ∧ H a = some (.dK kvs) ∧ ArtOk H kvs as ∧ UOk ns as ∧ mn ∈ ns ∧ ns.length ≤ 1000 ∧
  ∀ r H' ys l, Same H H' → H r = none → H' r = some (.lst ys) → DtAll H' ys ((l.mergeSort leP).map prD) → All (suc (U as)) (mn, 0) l → l.length ≤ 4000 → Q (.ref r) H'
theorem ok_reach {f : Addr} {fd : FuncData} {tk : Tok} (F : Dfn K mg "reach" st_reach f fd ["artifacts", "main"]) (M : Mg mg) (gLP : mg "LAST_PHASE" = some (.int 3 tk)) : Cal P w K mg base 1 "reach" spReach := by
  refine cal_mk F screach (fun vs H Q E h => ?_) (fun cdv A outer s H vs Q E hr h => ?_)
  · obtain ⟨a, kvs, as, mn, ns, rfl, _⟩ := h
    rfl
  obtain ⟨a, kvs, as, mn, ns, rfl, hA, hO, hU, hmn, hns, q⟩ := h
  have hu := hu_of hr
  refine ⟨_, (pss_cons (ps_set (i := 2) screach.nd rfl (.inl rfl) (RuleY.pe_dispT1 hu (pe_tup (pa_cons (pv 1) (pa_cons pe_int pa_nil))) pe_bl))
      (pss_cons (ps_set (i := 3) screach.nd rfl (.inl rfl) (pe_lst (pa_cons (pe_tup (pa_cons (pv 1) (pa_cons pe_int pa_nil))) pa_nil)))
      (pss_cons (ps_while PassesOwn.never (pt_truth (pv 3) (by intro _; rfl))
      (pss_cons (ps_asg (pe_bm0 PySem.F.plainAttrs_list PySem.F.slot_list_pop PySem.F.type_list_pop mt_pop (pv 3)) (pg_tup rfl (pgs_cons (pg_name (i := 4) screach.nd rfl (.inl rfl)) (pgs_cons (pg_name (i := 5) screach.nd rfl (.inl rfl)) pgs_nil))))
      (pss_cons (ps_if (pt_cmp (pc_dnotin hu (pv 4) (pv 0))) (pss_one ps_continue) pss_nil)
      (pss_one (ps_for PassesOwn.never rfl (pi_tup (pe_ix (ixT K rfl) (pe_dget hu (pv 0) (pv 4) (fun _ _ => rfl)) pe_int (fun _ _ => rfl))) (pg_tup rfl (pgs_cons (pg_name (i := 6) screach.nd rfl (.inl rfl)) (pgs_cons (pg_name (i := 7) screach.nd rfl (.inl rfl)) pgs_nil)))
      (pss_cons (ps_set (i := 8) screach.nd rfl (.inl rfl) (pe_tup (pa_cons (pv 6) (pa_cons (pe_op op_add (pv 5) (pv 7)) pa_nil))))
      (pss_one (ps_if (PW.pt (pw_and (pt_cmpR op_le (pe_op op_add (pv 5) (pv 7)) (pe_glob (v := .int 3) (by rfl) gLP ⟨_, rfl⟩) (nomark _)) (pw_and1 (pt_cmp (pc_dnotin hu (pv 8) (pv 2)))))) (pss_cons (ps_dput hu (pv 2) (pv 8) pe_bl rfl)
      (pss_one (ps_expr (pe_bm PySem.F.plainAttrs_list PySem.F.slot_list_append PySem.F.type_list_append mt_append (pv 3) (pa_cons (pv 8) pa_nil))))) pss_nil))))))))
      (pss_one (ps_ret (pe_callB (cSort K rfl (units65 hr)) (by rfl) M.sorted b_sorted (pa_cons (pe_callTy (RuleY.cListT rfl) (by rfl) M.list b_list (pa_cons (pv 2) pa_nil)) pa_nil))))))), ?_⟩
  -- found = {(main, 0): True}
  refine fun B nB => ⟨_, rfl, by show 2 ≤ sizeLine; decide, fun t0 nt0 => ?_⟩
  have hB1 : upd H B (.dT []) B = some (.dT []) := upd_same
  have k1 := same_upd (o := .dT []) nB
  generalize upd H B (.dT []) = H1 at hB1 k1 nt0 ⊢
  have k2 := same_upd (o := .tup [.str mn, .int 0]) nt0
  have ht0 : upd H1 t0 (.tup [.str mn, .int 0]) t0 = some (.tup [.str mn, .int 0]) := upd_same
  have hB2 := k2 _ _ hB1
  have kk2 := k1.trans k2
  generalize upd H1 t0 (.tup [.str mn, .int 0]) = H2 at ht0 hB2 kk2 ⊢
  refine ⟨hB2, t0, kT (mn, 0), rfl, ht0, ?_⟩
  have nB2 : ∀ b o, H b = some o → b ≠ B := fun b o e => ne_of_none e nB
  have kk3 : Same H (upd H2 B (.dT (fK [(mn, 0)]))) := fun b o e => by rw [upd_ne (nB2 b o e)]; exact kk2 _ _ e
  have hB3 : upd H2 B (.dT (fK [(mn, 0)])) B = some (.dT (fK [(mn, 0)])) := upd_same
  show tSeq _ _ _ _ (upd H2 B (.dT (fK [(mn, 0)])))
  generalize upd H2 B (.dT (fK [(mn, 0)])) = H3 at kk3 hB3 ⊢
  -- left = [(main, 0)]
  refine ⟨_, rfl, by show 2 ≤ sizeLine; decide, fun t1 nt1 => ?_⟩
  have k4 := same_upd (o := .tup [.str mn, .int 0]) nt1
  have ht1 : upd H3 t1 (.tup [.str mn, .int 0]) t1 = some (.tup [.str mn, .int 0]) := upd_same
  have hB4 := k4 _ _ hB3
  have kk4 := kk3.trans k4
  generalize upd H3 t1 (.tup [.str mn, .int 0]) = H4 at ht1 hB4 kk4 ⊢
  refine ⟨by show 1 ≤ sizeLine; decide, fun L nL => ?_⟩
  have k5 := same_upd (o := .lst [.ref t1]) nL
  have hL5 : upd H4 L (.lst [.ref t1]) L = some (.lst [.ref t1]) := upd_same
  have dL5 : DtAll (upd H4 L (.lst [.ref t1])) [.ref t1] ([((mn, 0) : Pr)].map prD) := .one (prM (p := (mn, 0)) (k5 _ _ ht1))
  have hB5 := k5 _ _ hB4
  have kk5 := kk4.trans k5
  have nLH : H L = none := by
    cases e : H L with
    | none => rfl
    | some o => rw [kk4 _ _ e] at nL; cases nL
  have nLB : L ≠ B := fun e => by rw [e, hB4] at nL; cases nL
  generalize upd H4 L (.lst [.ref t1]) = H5 at hL5 dL5 hB5 kk5 ⊢
  have nL2 : ∀ b o, H b = some o → b ≠ L := fun b o e => ne_of_none e nLH
  let S := suc (U as)
  have hUn : ∀ x ∈ uni ns, ∀ y ∈ S x, y ∈ uni ns := fun x hx y hy => by
    obtain ⟨u, hu, rfl, h4⟩ := mem_suc.mp hy
    obtain ⟨u1, u2, u3⟩ := hU _ _ hu
    obtain ⟨x1, x2, x3⟩ := mem_uni.mp hx
    exact mem_uni.mpr ⟨u1, by show 0 ≤ x.2 + u.2; omega, h4⟩
  have hlen : ∀ fs : List Pr, fs.Nodup → (∀ x ∈ fs, x ∈ uni ns) → fs.length ≤ 4 * ns.length := fun fs h1 h2 => by
    have := nd_len h1 h2
    rw [uni_len] at this
    exact this
  -- while left
  refine ⟨fun m σ H' => ∃ (y4 y5 y6 y7 y8 : Option V) (vs : List V) (fs ls : List Pr), σ = [some (.ref a), some (.str mn), some (.ref B), some (.ref L), y4, y5, y6, y7, y8] ∧ Same H H' ∧ H' B = some (.dT (fK fs)) ∧ H' L = some (.lst vs) ∧ DtAll H' vs (ls.map prD) ∧ Srch S (mn, 0) ns fs ls ∧ m ≤ 8 * ns.length ∧ m + 2 * fs.length = 8 * ns.length + ls.length,
    ⟨8 * ns.length + 1 - 2, none, none, none, none, none, _, [(mn, 0)], [(mn, 0)], rfl, kk5, hB5, hL5, dL5, ⟨by simp, by simp, fun x hx => by rw [List.mem_singleton.mp hx]; exact .root, fun x hx => by rw [List.mem_singleton.mp hx]; exact mem_uni.mpr ⟨hmn, Int.le_refl 0, (by show (0 : Int) < 4; decide)⟩, fun x hx => hx, fun x hx => .inl hx⟩, by omega, ?_⟩, ?_⟩
  · have := List.length_pos_of_mem hmn
    show 8 * ns.length + 1 - 2 + 2 * 1 = 8 * ns.length + 1
    omega
  rintro m σ H6 ⟨y4, y5, y6, y7, y8, vs, fs, ls, rfl, kk, hB, hL, hy, hS, hm8, hm⟩
  have hyl := hy.len
  rw [List.length_map] at hyl
  have hfl := hlen fs hS.nd hS.uni
  refine ⟨_, rfl, _, .inl ⟨vs, SqL.of hL, rfl⟩, ?_⟩
  rcases List.eq_nil_or_concat ls with e | ⟨init, z, e⟩
  · subst e
    have ev : vs = [] := List.length_eq_zero_iff.mp hyl
    subst ev
    -- return sorted(list(found))
    refine iteF ⟨_, rfl, B, _, rfl, .inl hB, fun p bs np hk => ?_⟩
    have k7 := same_upd (o := .lst (bs.map V.ref)) np
    have hp7 : upd H6 p (.lst (bs.map V.ref)) p = some (.lst (bs.map V.ref)) := upd_same
    have d7 := (isKeys_dt hk).tk (same_tk k7)
    have kk7 := kk.trans k7
    generalize upd H6 p (.lst (bs.map V.ref)) = H7 at hp7 d7 kk7 ⊢
    refine ⟨p, bs.map V.ref, fs.map prD, rfl, SqL.of hp7, d7.dp, PySem.W.AllAlike.of alike_pr, sortable_pr fs, fun d hd => ?_, fun r nr => ?_⟩
    · obtain ⟨x, _, rfl⟩ := List.mem_map.mp hd
      have := dep_pr x
      omega
    · have k8 := same_upd (o := .lst (((bs.map V.ref).zip (fs.map prD)).mergeSort (PySem.W.dataLe false Prod.snd) |>.map Prod.fst)) nr
      refine q r _ _ fs (kk7.trans k8) ?_ upd_same ((sorted_enc d7).tk (same_tk k8)) ⟨hS.nd, hS.root, hS.rch, fun x hx => ?_⟩ (by omega)
      · cases e : H r with
        | none => rfl
        | some o => rw [kk7 _ _ e] at nr; cases nr
      · rcases hS.done x hx with h | h
        · cases h
        · exact h
  · rw [List.concat_eq_append] at e
    subst e
    rw [List.map_append] at hy
    obtain ⟨us, ws, rfl, h1, h2⟩ := W3.DtAll.appE hy
    obtain ⟨xv, r0, rfl, hxv, h3⟩ := DtAll.consE h2
    have e0 := h3.nilE
    subst e0
    have ne : (us ++ [xv]).isEmpty = false := by simp
    have hul := h1.len
    rw [List.length_map] at hul
    have hz : z ∈ fs := hS.left z (by simp)
    rw [ne]
    rw [List.length_append, List.length_singleton] at hm
    let J : L2.St → Hp → Prop := fun σ' H' => ∃ m', m' < m ∧ ∃ (y4 y5 y6 y7 y8 : Option V) (vs : List V) (fs ls : List Pr), σ' = [some (.ref a), some (.str mn), some (.ref B), some (.ref L), y4, y5, y6, y7, y8] ∧ Same H H' ∧ H' B = some (.dT (fK fs)) ∧ H' L = some (.lst vs) ∧ DtAll H' vs (ls.map prD) ∧ Srch S (mn, 0) ns fs ls ∧ m' ≤ 8 * ns.length ∧ m' + 2 * fs.length = 8 * ns.length + ls.length
    refine iteT ⟨J, fun σ' H' h => h, ?_⟩
    -- name, shift = left.pop()
    refine ⟨_, rfl, .inl ⟨rfl, _, SqL.of hL⟩, L, _, xv, rfl, rfl, hL, by simp, ?_⟩
    rw [List.dropLast_concat]
    have tk8 : Tk H6 (upd H6 L (.lst us)) := Tk.upd fun xs z => by rw [hL] at z; cases z
    have kk8 : Same H (upd H6 L (.lst us)) := fun b o e => by rw [upd_ne (nL2 b o e)]; exact kk _ _ e
    have hL8 : upd H6 L (.lst us) L = some (.lst us) := upd_same
    have hB8 : upd H6 L (.lst us) B = some (.dT (fK fs)) := by rw [upd_ne nLB.symm]; exact hB
    have x8 := hxv.tk tk8
    have h8 := h1.tk tk8
    generalize upd H6 L (.lst us) = H8 at kk8 hL8 hB8 x8 h8 ⊢
    obtain ⟨zn, zs⟩ := z
    obtain ⟨b, rfl, hb⟩ := prE x8
    refine ⟨b, _, rfl, SqT.of hb, rfl, _, _, rfl, _, _, rfl, rfl, ?_⟩
    -- if name not in artifacts
    have hO8 := hO.tk (same_tk kk8)
    have hA8 := kk8 _ _ hA
    have stay : ∀ x ∈ fs, x ∈ init ∨ x = (zn, zs) ∨ ∀ y ∈ S x, y ∈ fs := fun x hx => by
      rcases hS.done x hx with h | h
      · rcases List.mem_append.mp h with h | h
        · exact .inl h
        · exact .inr (.inl (List.mem_singleton.mp h))
      · exact .inr (.inr h)
    rcases hO8.get (n := zn) with ⟨v, ul, gv, hd, eU⟩ | ⟨gv, eU⟩
    case inr =>
      refine ⟨_, rfl, _, rfl, a, _, rfl, DGet.k (k := .inr zn) hA8, ?_⟩
      rw [gv]
      refine ⟨true, rfl, iteT ⟨m - 1, by omega, _, _, _, _, _, us, fs, init, rfl, kk8, hB8, hL8, h8, ⟨hS.nd, hS.root, hS.rch, hS.uni, fun x hx => hS.left x (by simp [hx]), fun x hx => ?_⟩, by omega, by omega⟩⟩
      rcases stay x hx with h | h | h
      · exact .inl h
      · refine .inr fun y hy => ?_
        rw [h] at hy
        obtain ⟨u, hu, _⟩ := mem_suc.mp hy
        rw [show U as (zn, zs).1 = [] from eU] at hu
        cases hu
      · exact .inr h
    case inl =>
      refine ⟨_, rfl, _, rfl, a, _, rfl, DGet.k (k := .inr zn) hA8, ?_⟩
      rw [gv]
      refine ⟨false, rfl, iteF ?_⟩
      obtain ⟨va, vb, vc, vxs, rfl, hva, uys, huv, hud⟩ := artE hd
      refine ⟨_, rfl, _, rfl, a, _, rfl, DGet.k (k := .inr zn) hA8 |> fun z => gv ▸ z, tc (ixt hva (atI_nat (j := 2) rfl) ⟨vb, rfl, ⟨_, SqT.of huv⟩, ?_⟩)⟩
      have hul2 := hud.len
      rw [List.length_map] at hul2
      refine for_tup (K := K) (a := vb) (xs := uys) (fun i σ' H' => ∃ (y6 y7 y8 : Option V) (vs : List V) (fs ls : List Pr) (m2 : Nat), σ' = [some (.ref a), some (.str mn), some (.ref B), some (.ref L), some (.str zn), some (.int zs), y6, y7, y8] ∧ Same H H' ∧ (∀ c o, H8 c = some o → c ≠ B → c ≠ L → H' c = some o) ∧ H' B = some (.dT (fK fs)) ∧ H' L = some (.lst vs) ∧ DtAll H' vs (ls.map prD) ∧
          Srch S (mn, 0) ns fs ((zn, zs) :: ls) ∧ m2 + 1 ≤ m ∧ m2 + 2 * fs.length = 8 * ns.length + ls.length ∧ ∀ j u, j < i → ul[j]? = some u → zs + u.2 < 4 → (u.1, zs + u.2) ∈ fs) ?_ ?_ ?_ ?_
      · refine ⟨y6, y7, y8, us, fs, init, m - 1, rfl, kk8, fun c o e _ _ => e, hB8, hL8, h8, ⟨hS.nd, hS.root, hS.rch, hS.uni, fun x hx => ?_, fun x hx => ?_⟩, by omega, by omega, fun j u hj => absurd hj (Nat.not_lt_zero _)⟩
        · rcases List.mem_cons.mp hx with h | h
          · rw [h]; exact hz
          · exact hS.left x (by simp [h])
        · rcases stay x hx with h | h | h
          · exact .inl (by simp [h])
          · exact .inl (by simp [h])
          · exact .inr h
      · rintro i σ' H' _ ⟨y6, y7, y8, vs, fs, ls, m2, _, _, st, hB', hL', _⟩
        exact SqT.of (st _ _ huv (ne_of huv hB8 (by intro z; cases z)) (ne_of huv hL8 (by intro z; cases z)))
      · rintro i x σ' H' hi ⟨y6, y7, y8, vs, fs, ls, m2, rfl, kk', st, hB', hL', hy', hS', hm2, hm3, hp⟩
        have hyl' := hy'.len
        rw [List.length_map] at hyl'
        have hfl' := hlen fs hS'.nd hS'.uni
        obtain ⟨u, hui, hdu⟩ := hud.get_map hi
        obtain ⟨c, rfl, hc⟩ := prE hdu
        have hc' := st _ _ hc (ne_of hc hB8 (by intro z; cases z)) (ne_of hc hL8 (by intro z; cases z))
        have hum : u ∈ U as zn := by rw [eU]; exact List.mem_of_getElem? hui
        refine ⟨c, _, rfl, SqT.of hc', rfl, _, _, rfl, _, _, rfl, rfl, ?_⟩
        -- pair = (module, shift + level)
        refine ⟨_, rfl, _, rfl, _, rfl, _, _, rfl, rfl, by show 2 ≤ sizeLine; decide, fun p np => ?_⟩
        have kp := same_upd (o := .tup [.str u.1, .int (zs + u.2)]) np
        have hp9 : upd H' p (.tup [.str u.1, .int (zs + u.2)]) p = some (.tup [.str u.1, .int (zs + u.2)]) := upd_same
        have kk9 := kk'.trans kp
        have st9 : ∀ c o, H8 c = some o → c ≠ B → c ≠ L → upd H' p (.tup [.str u.1, .int (zs + u.2)]) c = some o := fun c o e n1 n2 => kp _ _ (st c o e n1 n2)
        have hB9 := kp _ _ hB'
        have hL9 := kp _ _ hL'
        have hy9 := hy'.tk (same_tk kp)
        dsimp only [gName]
        generalize upd H' p (.tup [.str u.1, .int (zs + u.2)]) = H9 at hp9 kk9 st9 hB9 hL9 hy9 ⊢
        have same : (∀ q, q ∈ fs → q = (u.1, zs + u.2) → True) := fun _ _ _ => True.intro
        -- what is known behind a turn that finds nothing new
        have keep : (zs + u.2 < 4 → (u.1, zs + u.2) ∈ fs) → ∀ j u', j < i + 1 → ul[j]? = some u' → zs + u'.2 < 4 → (u'.1, zs + u'.2) ∈ fs := fun h j u' hj e h4 => by
          by_cases ej : j = i
          · subst ej
            rw [hui] at e
            cases e
            exact h h4
          · exact hp j u' (by omega) e h4
        refine ⟨_, rfl, _, rfl, _, _, rfl, rfl, _, _, rfl, rfl, _, rfl, ite2 (fun c1 => ?_) (fun c1 => ?_)⟩
        · have c1' : zs + u.2 ≤ 3 := of_decide_eq_true c1
          refine ⟨_, rfl, _, rfl, B, _, rfl, DGet.t (k := kT (u.1, zs + u.2)) hB9 hp9, _, rfl, ?_⟩
          rw [val_fK]
          by_cases hin : (u.1, zs + u.2) ∈ fs
          · rw [decide_eq_true hin]
            exact iteF ⟨_, _, _, vs, fs, ls, m2, rfl, kk9, st9, hB9, hL9, hy9, hS', hm2, hm3, keep fun _ => hin⟩
          · rw [decide_eq_false hin]
            have hru : Rch S (mn, 0) (u.1, zs + u.2) := .step (hS'.rch _ (hS'.left _ List.mem_cons_self)) (mem_suc.mpr ⟨u, hum, rfl, by show zs + u.2 < 4; omega⟩)
            have huu : (u.1, zs + u.2) ∈ uni ns := hUn _ (hS'.uni _ (hS'.left _ List.mem_cons_self)) _ (mem_suc.mpr ⟨u, hum, rfl, by show zs + u.2 < 4; omega⟩)
            have hnd : (fs ++ [(u.1, zs + u.2)]).Nodup := by
              rw [List.nodup_append]
              exact ⟨hS'.nd, by simp, fun x hx y hy e => hin (by rw [List.mem_singleton.mp hy] at e; rw [← e]; exact hx)⟩
            have hfl2 := hlen (fs ++ [(u.1, zs + u.2)]) hnd (fun x hx => by
              rcases List.mem_append.mp hx with h | h
              · exact hS'.uni _ h
              · rw [List.mem_singleton.mp h]; exact huu)
            rw [List.length_append, List.length_singleton] at hfl2
            refine iteT ⟨_, rfl, _, rfl, B, _, rfl, DPut.t (k := kT (u.1, zs + u.2)) hB9 hp9 (by rw [fK, List.length_map]; show _ < 2 ^ 24; omega), ?_⟩
            rw [put_fK hin]
            have hpB : p ≠ B := ne_of hp9 hB9 (by intro z; cases z)
            have hLB : L ≠ B := nLB
            refine ⟨_, rfl, .inl ⟨rfl, _, SqL.of (show upd H9 B _ L = some (.lst vs) by rw [upd_ne hLB]; exact hL9)⟩, _, rfl, L, vs, _, rfl, rfl, by rw [upd_ne hLB]; exact hL9, by show _ < 2 ^ 24; omega, ?_⟩
            have tkB : Tk H9 (upd H9 B (.dT (fK (fs ++ [(u.1, zs + u.2)])))) := Tk.upd fun xs z => by rw [hB9] at z; cases z
            have tkL : Tk (upd H9 B (.dT (fK (fs ++ [(u.1, zs + u.2)])))) (upd (upd H9 B (.dT (fK (fs ++ [(u.1, zs + u.2)])))) L (.lst (vs ++ [.ref p]))) := Tk.upd fun xs z => by rw [upd_ne hLB, hL9] at z; cases z
            refine ⟨_, _, _, vs ++ [.ref p], fs ++ [(u.1, zs + u.2)], ls ++ [(u.1, zs + u.2)], m2 - 1, rfl, fun b o e => ?_, fun c o e n1 n2 => ?_, ?_, upd_same, ?_, ⟨hnd, by simp [hS'.root], fun x hx => ?_, fun x hx => ?_, fun x hx => ?_, fun x hx => ?_⟩, by omega, ?_, fun j u' hj e h4 => ?_⟩
            · rw [upd_ne (nL2 b o e), upd_ne (nB2 b o e)]
              exact kk9 _ _ e
            · rw [upd_ne n2, upd_ne n1]
              exact st9 _ _ e n1 n2
            · rw [upd_ne hLB.symm, upd_same]
            · rw [List.map_append]
              exact ((hy9.tk tkB).tk tkL).app (.one (prM (p := (u.1, zs + u.2)) (tkL _ _ (tkB _ _ hp9))))
            · rcases List.mem_append.mp hx with h | h
              · exact hS'.rch _ h
              · rw [List.mem_singleton.mp h]; exact hru
            · rcases List.mem_append.mp hx with h | h
              · exact hS'.uni _ h
              · rw [List.mem_singleton.mp h]; exact huu
            · rcases List.mem_cons.mp hx with h | h
              · rw [h]; exact List.mem_append_left _ (hS'.left _ List.mem_cons_self)
              · rcases List.mem_append.mp h with h | h
                · exact List.mem_append_left _ (hS'.left _ (List.mem_cons_of_mem _ h))
                · exact List.mem_append_right _ h
            · rcases List.mem_append.mp hx with h | h
              · rcases hS'.done _ h with h | h
                · refine .inl ?_
                  rcases List.mem_cons.mp h with h | h
                  · rw [h]; exact List.mem_cons_self
                  · exact List.mem_cons_of_mem _ (List.mem_append_left _ h)
                · exact .inr fun y hy => List.mem_append_left _ (h y hy)
              · exact .inl (List.mem_cons_of_mem _ (List.mem_append_right _ h))
            · rw [List.length_append, List.length_append]
              simp only [List.length_singleton]
              omega
            · by_cases ej : j = i
              · subst ej
                rw [hui] at e
                cases e
                exact List.mem_append_right _ (List.mem_singleton.mpr rfl)
              · exact List.mem_append_left _ (hp j u' (by omega) e h4)
        · have c1' : ¬ zs + u.2 ≤ 3 := fun z => c1 (decide_eq_true z)
          exact iteF ⟨_, _, _, vs, fs, ls, m2, rfl, kk9, st9, hB9, hL9, hy9, hS', hm2, hm3, keep fun h => by omega⟩
      · rintro σ' H' ⟨y6, y7, y8, vs, fs, ls, m2, rfl, kk', st, hB', hL', hy', hS', hm2, hm3, hp⟩
        refine ⟨m2, by omega, _, _, _, _, _, vs, fs, ls, rfl, kk', hB', hL', hy', ⟨hS'.nd, hS'.root, hS'.rch, hS'.uni, fun x hx => hS'.left x (List.mem_cons_of_mem _ hx), fun x hx => ?_⟩, by omega, hm3⟩
        rcases hS'.done x hx with h | h
        · rcases List.mem_cons.mp h with h | h
          · refine .inr fun y hy => ?_
            rw [h] at hy
            obtain ⟨u, hu, rfl, h4⟩ := mem_suc.mp hy
            rw [show U as (zn, zs).1 = ul from eU] at hu
            obtain ⟨j, hj, ej⟩ := List.getElem_of_mem hu
            exact hp j u (by omega) (by rw [List.getElem?_eq_getElem hj, ej]) h4
          · exact .inl h
        · exact .inr h
end
end W3
set_option Elab.async false
set_option linter.all false
set_option maxRecDepth 100000
set_option maxHeartbeats 8000000
namespace W3
open PySem PySem.Spec PyProof.Rows L2 Com
def nm12 : List Str := ["ma", "mb", "mc", "md", "me", "mf", "mg", "mh", "mi", "mj", "mk", "ml"]
def nm2 : List Str := ["mx", "my"]
theorem nm14_nd : (nm12 ++ nm2).Nodup := by decide +kernel
theorem nm14_ok : ∀ n ∈ nm12 ++ nm2, PyData.strOk n = true := by decide +kernel
theorem cut_names {l : List Str} {k : Nat} (hk : k ≤ l.length) : cutV (l.map V.str) none (some (k : Int)) = (l.take k).map V.str := by
  unfold cutV
  rw [HT.sIx_none, HT.sIx_nat, List.length_map, Nat.min_eq_left hk, List.drop_zero, Nat.sub_zero, List.map_take]
/-- what stands while the artifacts are drawn -/
structure LS (H : Hp) (d n A : Addr) (nms : List Str) (kvs : List (Key × V)) (as : List (Str × List Pr)) : Prop where
  dr : ∃ xs : List Int, H d = some (.lst (xs.map V.int))
  nm : H n = some (.lst (nms.map V.str))
  nd : n ≠ d
  art : H A = some (.dK kvs)
  ok : ArtOk H kvs as
theorem LS.same {H H' : Hp} {d n A : Addr} {nms : List Str} {kvs : List (Key × V)} {as : List (Str × List Pr)} (h : LS H d n A nms kvs as) (k : Same H H') : LS H' d n A nms kvs as := by
  obtain ⟨xs, h1⟩ := h.dr
  exact ⟨⟨xs, k _ _ h1⟩, k _ _ h.nm, h.nd, k _ _ h.art, h.ok.tk (same_tk k)⟩
theorem LS.draw {H H' : Hp} {d n A : Addr} {nms : List Str} {kvs : List (Key × V)} {as : List (Str × List Pr)} {ys : List Int} (h : LS H d n A nms kvs as) (k : Keep d H H') (hd : H' d = some (.lst (ys.map V.int))) : LS H' d n A nms kvs as := by
  obtain ⟨xs, h1⟩ := h.dr
  exact ⟨⟨ys, hd⟩, k _ _ h.nm h.nd, h.nd, k _ _ h.art (ne_of h.art h1 (by intro z; cases z)), h.ok.tk (k.tk h1)⟩
theorem LS.keep {H H' : Hp} {d n A u : Addr} {nms : List Str} {kvs : List (Key × V)} {as : List (Str × List Pr)} {xs : List V} (h : LS H d n A nms kvs as) (k : Keep u H H') (hu : H u = some (.lst xs)) (n1 : u ≠ d) (n2 : u ≠ n) : LS H' d n A nms kvs as := by
  obtain ⟨ys, h1⟩ := h.dr
  exact ⟨⟨ys, k _ _ h1 n1.symm⟩, k _ _ h.nm n2.symm, h.nd, k _ _ h.art (ne_of h.art hu (by intro z; cases z)), h.ok.tk (k.tk hu)⟩
theorem LS.tk {H H' : Hp} {d n A : Addr} {nms : List Str} {kvs : List (Key × V)} {as : List (Str × List Pr)} (h : LS H d n A nms kvs as) (k : Keep d H H') : Tk H H' := by
  obtain ⟨xs, h1⟩ := h.dr
  exact k.tk h1
theorem ArtOk.app {H : Hp} {v : V} {n : Str} {us : List Pr} (h1 : Dt H v (artD n us)) : ∀ {kvs : List (Key × V)} {as : List (Str × List Pr)}, ArtOk H kvs as → ArtOk H (kvs ++ [(.inr n, v)]) (as ++ [(n, us)])
  | [], [], _ => ⟨rfl, h1, True.intro⟩
  | (_, _) :: kvs, (_, _) :: as, h => ⟨h.1, h.2.1, ArtOk.app h1 h.2.2⟩
  | [], _ :: _, h => h.elim
  | _ :: _, [], h => h.elim
theorem ArtOk.keys {H : Hp} : ∀ {kvs : List (Key × V)} {as : List (Str × List Pr)}, ArtOk H kvs as → kvs.map (·.1) = as.map fun p => (Sum.inr p.1 : Key)
  | [], [], _ => rfl
  | (_, _) :: kvs, (_, _) :: as, h => by
    have ih := ArtOk.keys h.2.2
    simp only [List.map_cons, ih, h.1]
  | [], _ :: _, h => h.elim
  | _ :: _, [], h => h.elim
theorem ArtOk.refs {H : Hp} : ∀ {kvs : List (Key × V)} {as : List (Str × List Pr)}, ArtOk H kvs as → ∀ p ∈ kvs, RuleY.flatR p.2 = true
  | [], [], _, p, hp => by cases hp
  | (_, _) :: kvs, (_, _) :: as, h, p, hp => by
    rcases List.mem_cons.mp hp with e | hp
    · subst e
      obtain ⟨a, xs, e, _⟩ := Dt.tupE h.2.1
      have e' : _ = V.ref a := e
      rw [e']
      rfl
    · exact ArtOk.refs h.2.2 p hp
  | [], _ :: _, h, _, _ => h.elim
  | _ :: _, [], h, _, _ => h.elim
theorem U_app {m : Str} {us : List Pr} {n : Str} : ∀ as : List (Str × List Pr), U (as ++ [(m, us)]) n = U as n ∨ U (as ++ [(m, us)]) n = us
  | [] => by
    show U [(m, us)] n = [] ∨ _
    by_cases e : m = n
    · exact .inr (by simp [U, e])
    · exact .inl (by simp [U, e])
  | p :: as => by
    show (if p.1 = n then p.2 else U (as ++ [(m, us)]) n) = (if p.1 = n then p.2 else U as n) ∨ _
    by_cases e : p.1 = n
    · rw [if_pos e, if_pos e]; exact .inl rfl
    · rw [if_neg e, if_neg e]
      rcases U_app as with h | h
      · exact .inl h
      · exact .inr (by show (if p.1 = n then p.2 else _) = us; rw [if_neg e]; exact h)
/-- the state of the law's search -/
structure Due (S : Pr → List Pr) (r : Pr) (ns : List Str) (ds : List Pr) : Prop where
  nd : ds.Nodup
  root : r ∈ ds
  rch : ∀ x ∈ ds, Rch S r x
  uni : ∀ x ∈ ds, x ∈ uni ns
theorem prD_inj {x y : Pr} (h : prD x = prD y) : x = y := by
  obtain ⟨a, b⟩ := x
  obtain ⟨c, d⟩ := y
  simp only [prD, PyData.tuple.injEq, List.cons.injEq, PyData.str.injEq, PyData.int.injEq, and_true] at h
  rw [h.1, h.2]
theorem pl_pr (x : Pr) : pl (prD x) = true := by simp [prD, pl, plAll]
theorem plAll_pr : ∀ l : List Pr, plAll (l.map prD) = true
  | [] => rfl
  | a :: l => by simp [plAll, pl_pr a, plAll_pr l]
theorem any_pr (l : List Pr) (x : Pr) : ((l.map prD).any fun z => PyData.eqv z (prD x)) = decide (x ∈ l) := by
  rw [Bool.eq_iff_iff, any_pl (plAll_pr l) (pl_pr x), decide_eq_true_iff, List.mem_map]
  constructor
  · rintro ⟨y, hy, e⟩
    rw [← prD_inj e]
    exact hy
  · intro h
    exact ⟨x, h, rfl⟩
theorem lay_pr {x : Pr} (h : PyData.strOk x.1 = true) : (prD x).canLay0 = true := by simp [prD, PyData.canLay0, PyData.canLayAll0, h]
theorem layAll_pr : ∀ {l : List Pr}, (∀ x ∈ l, PyData.strOk x.1 = true) → PyData.canLayAll0 (l.map prD) = true
  | [], _ => rfl
  | a :: l, h => by simp [PyData.canLayAll0, lay_pr (h a List.mem_cons_self), layAll_pr fun x hx => h x (List.mem_cons_of_mem _ hx)]
theorem shp {d : PyData} (h1 : d.canLay0 = true) (h2 : d.depth ≤ 64) : SeqAt.shaped d = true := by
  show (d.canLay0 && decide (d.depth ≤ 64)) = true
  rw [Bool.and_eq_true]
  exact ⟨h1, decide_eq_true h2⟩
theorem sm_prs (l : List Pr) (h : l.length ≤ 1000000) : smD (.list (l.map prD)) = true := by
  simp only [smD, Bool.and_eq_true, decide_eq_true_eq, List.length_map]
  exact ⟨h, smAll_map (fun x => by simp [prD, smD, smAll]) l⟩
theorem dep_prs (l : List Pr) : (PyData.list (l.map prD)).depth ≤ 2 := by
  have := depAll_map (f := prD) (n := 1) (fun x => dep_pr x) l
  simp only [PyData.depth]
  omega
theorem five {r : Int} (h0 : 0 ≤ r) (h1 : r < 5) : ∃ l : Int, atI [V.int 0, .int 0, .int 1, .int 2, .int 3] r = some (.int l) ∧ 0 ≤ l ∧ l < 4 := by
  have h : r = 0 ∨ r = 1 ∨ r = 2 ∨ r = 3 ∨ r = 4 := by omega
  rcases h with h | h | h | h | h <;> subst h
  · exact ⟨0, rfl, by decide, by decide⟩
  · exact ⟨0, rfl, by decide, by decide⟩
  · exact ⟨1, rfl, by decide, by decide⟩
  · exact ⟨2, rfl, by decide, by decide⟩
  · exact ⟨3, rfl, by decide, by decide⟩
theorem sV_get {l : List Str} {i : Nat} (h : i < l.length) : (l.map V.str)[i]? = some (.str (l[i])) := by rw [List.getElem?_map, List.getElem?_eq_getElem h]; rfl
/-- the uses that are being made -/
structure US (H : Hp) (u : Addr) (vs : List V) (us : List Pr) : Prop where
  hu : H u = some (.lst vs)
  dv : DtAll H vs (us.map prD)
theorem US.same {H H' : Hp} {u : Addr} {vs : List V} {us : List Pr} (h : US H u vs us) (k : Same H H') : US H' u vs us := ⟨k _ _ h.hu, h.dv.tk (same_tk k)⟩
theorem US.draw {H H' : Hp} {u d : Addr} {vs : List V} {us : List Pr} {xs : List V} (h : US H u vs us) (k : Keep d H H') (hd : H d = some (.lst xs)) (n : u ≠ d) : US H' u vs us := ⟨k _ _ h.hu n, h.dv.tk (k.tk hd)⟩
section
variable {P : Program} {w : World} {K : PySem.W.Frag} {mg : Str → Option Value} {base : Heap}
def spLaw (K : PySem.W.Frag) : Sp := fun vs H Q _ => ∃ (a : Addr) (ns : List Int), vs = [.ref a] ∧ SqL K H a (ns.map V.int) ∧ ns.length ≤ 63 ∧ ∀ H', Q (.bl true) H'
theorem ok_law {f : Addr} {fd : FuncData} (F : Dfn K mg "law" st_law f fd ["script"]) (M : Mg mg) (G_law_draws : Cal P w K mg base 1 "_law_draws" (spDraws K)) (G_law_take : Cal P w K mg base 1 "_law_take" spTake) (Greach : Cal P w K mg base 1 "reach" spReach) (G_law_same : Cal P w K mg base 5 "_law_same" (spSame K 4)) : FnOk P w K mg base CX0 6 f fd ["script"] (spLaw K) := by
  refine F.fn.ok sclaw (fun vs H Q E h => ?_) (fun cdv A outer s H vs Q E hr h => ?_)
  · obtain ⟨a, ns, rfl, _⟩ := h
    rfl
  obtain ⟨sc, ns, rfl, hS, h63, q⟩ := h
  have hu := hu_of hr
  refine ⟨_, (pss_cons (ps_set (i := 1) sclaw.nd rfl (.inl rfl) (pe_c G_law_draws hr (by omega) (by rfl) (pa_cons (pv 0) (pa_cons pe_int pa_nil))))
      (pss_cons (ps_set (i := 2) sclaw.nd rfl (.inl rfl) (pe_slice sl_list (pe_lst (pa_cons pe_str (pa_cons pe_str (pa_cons pe_str (pa_cons pe_str (pa_cons pe_str (pa_cons pe_str (pa_cons pe_str (pa_cons pe_str (pa_cons pe_str (pa_cons pe_str (pa_cons pe_str (pa_cons pe_str pa_nil))))))))))))) po_none (po_some (pe_op op_add pe_int (pe_c G_law_take hr (by omega) (by rfl) (pa_cons (pv 1) (pa_cons pe_int pa_nil)))))))
      (pss_cons (ps_set (i := 3) sclaw.nd rfl (.inl rfl) pe_dnewK)
      (pss_cons (ps_for PassesOwn.never rfl (pi_range1 (by rfl) M.range (pa_cons (pe_callB (cLen K rfl) (by rfl) M.len b_len (pa_cons (pv 2) pa_nil)) pa_nil)) (pg_name (i := 4) sclaw.nd rfl (.inl rfl))
      (pss_cons (ps_set (i := 5) sclaw.nd rfl (.inl rfl) (pe_lst pa_nil))
      (pss_cons (ps_for PassesOwn.never rfl (pi_range1 (by rfl) M.range (pa_cons (pe_c G_law_take hr (by omega) (by rfl) (pa_cons (pv 1) (pa_cons pe_int pa_nil))) pa_nil)) (pg_name (i := 6) sclaw.nd rfl (.inl rfl))
      (pss_one (ps_expr (pe_bm PySem.F.plainAttrs_list PySem.F.slot_list_append PySem.F.type_list_append mt_append (pv 5) (pa_cons (pe_tup (pa_cons (pe_ix (ixL K rfl) (pe_op op_cat (pe_slice sl_list (pv 2) po_none (po_some (pv 4))) (pe_lst (pa_cons pe_str (pa_cons pe_str pa_nil)))) (pe_c G_law_take hr (by omega) (by rfl) (pa_cons (pv 1) (pa_cons (pe_op op_add (pv 4) pe_int) pa_nil))) (fun _ _ => rfl)) (pa_cons (pe_ix (ixT K rfl) (pe_tup (pa_cons pe_int (pa_cons pe_int (pa_cons pe_int (pa_cons pe_int (pa_cons pe_int pa_nil)))))) (pe_c G_law_take hr (by omega) (by rfl) (pa_cons (pv 1) (pa_cons pe_int pa_nil))) (fun _ _ => rfl)) pa_nil))) pa_nil)))))
      (pss_one (ps_if (pt_cmpR op_gt (pe_c G_law_take hr (by omega) (by rfl) (pa_cons (pv 1) (pa_cons pe_int pa_nil))) pe_int (nomark _)) (pss_one (ps_dput hu (pv 3) (pe_ix (ixL K rfl) (pv 2) (pv 4) (fun _ _ => rfl)) (pe_tup (pa_cons pe_str (pa_cons (pe_ix (ixL K rfl) (pv 2) (pv 4) (fun _ _ => rfl)) (pa_cons (pe_callTy (cTup K rfl) (by rfl) M.tuple b_tuple (pa_cons (pv 5) pa_nil)) (pa_cons (pe_tup pa_nil) (pa_cons (pe_tup pa_nil) (pa_cons (pe_tup pa_nil) pa_nil))))))) rfl)) pss_nil)))))
      (pss_cons (ps_set (i := 7) sclaw.nd rfl (.inl rfl) (pe_ix (ixL K rfl) (pe_op op_cat (pv 2) (pe_lst (pa_cons pe_str pa_nil))) (pe_c G_law_take hr (by omega) (by rfl) (pa_cons (pv 1) (pa_cons (pe_op op_add (pe_callB (cLen K rfl) (by rfl) M.len b_len (pa_cons (pv 2) pa_nil)) pe_int) pa_nil))) (fun _ _ => rfl)))
      (pss_cons (ps_set (i := 8) sclaw.nd rfl (.inl rfl) (pe_lst (pa_cons (pe_tup (pa_cons (pv 7) (pa_cons pe_int pa_nil))) pa_nil)))
      (pss_cons (ps_for PassesOwn.never rfl (pi_range1 (by rfl) M.range (pa_cons (pe_op op_add (pe_op op_mul pe_int (pe_callB (cLen K rfl) (by rfl) M.len b_len (pa_cons (pv 2) pa_nil))) pe_int) pa_nil)) (pg_name (i := 9) sclaw.nd rfl (.inl rfl))
      (pss_one (ps_for PassesOwn.never rfl (pi_list (pe_callTy (cList K rfl) (by rfl) M.list b_list (pa_cons (pv 8) pa_nil))) (pg_tup rfl (pgs_cons (pg_name (i := 10) sclaw.nd rfl (.inl rfl)) (pgs_cons (pg_name (i := 11) sclaw.nd rfl (.inl rfl)) pgs_nil)))
      (pss_one (ps_for PassesOwn.never rfl (pi_tup (pe_ifExp (pt_cmp (pc_din hu (pv 10) (pv 3))) (pe_ix (ixT K rfl) (pe_dget hu (pv 3) (pv 10) (fun _ _ => rfl)) pe_int (fun _ _ => rfl)) (pe_tup pa_nil))) (pg_tup rfl (pgs_cons (pg_name (i := 12) sclaw.nd rfl (.inl rfl)) (pgs_cons (pg_name (i := 13) sclaw.nd rfl (.inl rfl)) pgs_nil)))
      (pss_one (ps_if (PW.pt (pw_and (pt_cmpR op_lt (pe_op op_add (pv 11) (pv 13)) pe_int (nomark _)) (pw_and1 (pt_cmpR (opNotInD K rfl (units65 hr)) (pe_tup (pa_cons (pv 12) (pa_cons (pe_op op_add (pv 11) (pv 13)) pa_nil))) (pv 8) (by rfl))))) (pss_one (ps_expr (pe_bm PySem.F.plainAttrs_list PySem.F.slot_list_append PySem.F.type_list_append mt_append (pv 8) (pa_cons (pe_tup (pa_cons (pv 12) (pa_cons (pe_op op_add (pv 11) (pv 13)) pa_nil))) pa_nil)))) pss_nil)))))))
      (pss_cons (ps_set (i := 14) sclaw.nd rfl (.inl rfl) (pe_callTy RuleY.cDictD (by rfl) M.dict b_dict (pa_cons (pv 3) pa_nil)))
      (pss_one (ps_ret (pe_and (pe_c G_law_same hr (by omega) (by rfl) (pa_cons (pe_c Greach hr (by omega) (by rfl) (pa_cons (pv 14) (pa_cons (pv 7) pa_nil))) (pa_cons (pe_callB (cSort K rfl (units65 hr)) (by rfl) M.sorted b_sorted (pa_cons (pv 8) pa_nil)) pa_nil))) (pe_one (pe_cmpR (RuleY.op_eq_dictR (Nat.lt_of_le_of_lt (Nat.le_add_right _ 65) (units65 hr))) (pv 14) (pv 3) (nomark _)))))))))))))), ?_⟩
  refine ⟨_, rfl, sc, ns, 300, rfl, hS, by omega, by omega, fun d H1 xs1 s1 nd0 hd1 => ?_⟩
  -- names
  dsimp only [gName]
  refine ⟨by show 12 ≤ sizeLine; decide, fun l nl => ?_⟩
  have k2 := same_upd (o := .lst (nm12.map V.str)) nl
  have hl2 : upd H1 l (.lst (nm12.map V.str)) l = some (.lst (nm12.map V.str)) := upd_same
  have hd2 := k2 _ _ hd1
  have nld : l ≠ d := fun e => by rw [e, hd1] at nl; cases nl
  show tNoPart _ (upd H1 l (.lst (nm12.map V.str))) _
  generalize upd H1 l (.lst (nm12.map V.str)) = H2 at k2 hl2 hd2 ⊢
  refine ⟨_, rfl, d, 12, xs1, rfl, hd2, by decide, fun r H3 ys r0 r1 k3 hd3 => ?_⟩
  obtain ⟨rn, rfl⟩ : ∃ rn : Nat, r = (rn : Int) := ⟨r.toNat, by omega⟩
  refine ⟨_, _, rfl, rfl, _, rfl, l, _, rfl, SqL.of (k3 _ _ hl2 nld), fun n nn => ?_⟩
  have e12 : cutV (nm12.map V.str) none (some (1 + (rn : Int))) = (nm12.take (1 + rn)).map V.str := by
    rw [show (1 + (rn : Int)) = ((1 + rn : Nat) : Int) by omega]
    exact cut_names (by show 1 + rn ≤ 12; omega)
  obtain ⟨nms, hnms⟩ : ∃ nms, nms = nm12.take (1 + rn) := ⟨_, rfl⟩
  have hnl : nms.length = 1 + rn := by rw [hnms, List.length_take]; show min (1 + rn) 12 = _; omega
  have hsub : ∀ x ∈ nms, x ∈ nm12 := fun x hx => List.mem_of_mem_take (by rw [hnms] at hx; exact hx)
  have hnnd : nms.Nodup := by
    rw [hnms]
    exact List.Nodup.sublist (List.take_sublist _ _) (by decide +kernel)
  have hok : ∀ x ∈ nms ++ nm2, PyData.strOk x = true := fun x hx => nm14_ok x (by
    rcases List.mem_append.mp hx with h | h
    · exact List.mem_append_left _ (hsub _ h)
    · exact List.mem_append_right _ h)
  have hnd3 : n ≠ d := fun e => by rw [e, hd3] at nn; cases nn
  dsimp only [gName]
  generalize hX : upd H3 n (.lst (cutV _ none (some (1 + (rn : Int))))) = H4
  have s4 : Same H3 H4 := by rw [← hX]; exact same_upd nn
  have hn4 : H4 n = some (.lst (nms.map V.str)) := by
    rw [← hX, upd_same, hnms]
    exact congrArg (fun z => some (HO.lst z)) e12
  have hd4 := s4 _ _ hd3
  clear hX
  -- artifacts = {}
  refine fun A nA => ?_
  have s5 := same_upd (o := .dK []) nA
  have L5 : LS (upd H4 A (.dK [])) d n A nms [] [] := ⟨⟨ys, s5 _ _ hd4⟩, s5 _ _ hn4, hnd3, upd_same, True.intro⟩
  generalize upd H4 A (.dK []) = H5 at L5 ⊢
  clear s5 nA hn4 hd4 s4 hd3 k3 nn nl k2 hl2 hd2 nld e12
  have hU0 : UOk (nms ++ nm2) [] := fun n u h => by cases h
  have hN0 : (([] : List (Str × List Pr)).map (·.1)).Nodup := List.nodup_nil
  have hI0 : ∀ x ∈ ([] : List (Str × List Pr)).map (·.1), x ∈ nms.take 0 := fun x hx => by cases hx
  -- for k in range(len(names))
  refine ⟨_, rfl, n, _, rfl, .inl (SqL.of L5.nm), _, rfl, by rw [List.length_map]; omega, by rw [List.length_map]; omega, for_range (lo := 0) (n := (nms.map V.str).length) (fun i σ H' => ∃ (y4 y5 y6 : Option V) (kvs : List (Key × V)) (as : List (Str × List Pr)), σ = [some (.ref sc), some (.ref d), some (.ref n), some (.ref A), y4, y5, y6, none, none, none, none, none, none, none, none] ∧
    LS H' d n A nms kvs as ∧ UOk (nms ++ nm2) as ∧ (as.map (·.1)).Nodup ∧ (∀ x ∈ as.map (·.1), x ∈ nms.take i) ∧ as.length ≤ i) ⟨none, none, none, [], [], rfl, L5, hU0, hN0, hI0, Nat.le_refl _⟩ ?_ ?_⟩
  · rintro i σ H6 hi ⟨y4, y5, y6, kvs, as, rfl, L6, hU, hand, hin, hal⟩
    rw [List.length_map] at hi
    -- uses = []
    refine ⟨by decide, fun u nu => ?_⟩
    have k7 := same_upd (o := .lst []) nu
    have hud : u ≠ d := fun e => by obtain ⟨xs, h⟩ := L6.dr; rw [e, h] at nu; cases nu
    have hun : u ≠ n := fun e => by rw [e, L6.nm] at nu; cases nu
    have U7 : US (upd H6 u (.lst [])) u [] [] := ⟨upd_same, .nil⟩
    have L7 := L6.same k7
    generalize upd H6 u (.lst []) = H7 at U7 L7 ⊢
    obtain ⟨xs7, hx7⟩ := L7.dr
    refine ⟨_, rfl, d, 5, xs7, rfl, hx7, by decide, fun r H8 ys r0 r1 k8 hd8 => ?_⟩
    obtain ⟨rm, rfl⟩ : ∃ rm : Nat, r = (rm : Int) := ⟨r.toNat, by omega⟩
    have L8 := L7.draw k8 hd8
    have U8 := U7.draw k8 hx7 hud
    have hV0 : ∀ p ∈ ([] : List Pr), p.1 ∈ nms ++ nm2 ∧ 0 ≤ p.2 ∧ p.2 < 4 := fun p hp => by cases hp
    refine ⟨_, rfl, by omega, by omega, for_range (lo := 0) (n := rm) (fun j σ H' => ∃ (y6 : Option V) (vs : List V) (us : List Pr), σ = [some (.ref sc), some (.ref d), some (.ref n), some (.ref A), some (.int ((0 : Int) + (i : Int))), some (.ref u), y6, none, none, none, none, none, none, none, none] ∧
      LS H' d n A nms kvs as ∧ US H' u vs us ∧ (∀ p ∈ us, p.1 ∈ nms ++ nm2 ∧ 0 ≤ p.2 ∧ p.2 < 4) ∧ us.length ≤ j) ⟨y6, [], [], rfl, L8, U8, hV0, Nat.le_refl _⟩ ?_ ?_⟩
    · rintro j σ H9 hj ⟨y6, vs, us, rfl, L9, U9, hus, hul⟩
      refine ⟨_, rfl, .inl ⟨rfl, _, SqL.of U9.hu⟩, ?_⟩
      -- names[:k] + ["mx", "my"]
      refine ⟨_, rfl, _, rfl, _, rfl, n, _, rfl, SqL.of L9.nm, fun p1 np1 => ?_⟩
      rw [show ((0 : Int) + (i : Int)) = ((i : Nat) : Int) from Int.zero_add _, cut_names (by omega)]
      have s10 := same_upd (o := .lst ((nms.take i).map V.str)) np1
      have h10 : upd H9 p1 (.lst ((nms.take i).map V.str)) p1 = some (.lst ((nms.take i).map V.str)) := upd_same
      have L10 := L9.same s10
      have U10 := U9.same s10
      generalize upd H9 p1 (.lst ((nms.take i).map V.str)) = H10 at h10 L10 U10 ⊢
      refine ⟨by show 2 ≤ sizeLine; decide, fun p2 np2 => ?_⟩
      have s11 := same_upd (o := .lst [V.str "mx", V.str "my"]) np2
      have h11 : upd H10 p2 (.lst [V.str "mx", V.str "my"]) p2 = some (.lst (nm2.map V.str)) := upd_same
      have g11 := s11 _ _ h10
      have L11 := L10.same s11
      have U11 := U10.same s11
      refine ⟨p1, p2, _, _, rfl, rfl, g11, h11, ?_, fun p3 np3 => ?_⟩
      · rw [List.length_map, List.length_map, List.length_take]
        show _ + 2 ≤ 2 ^ 24
        omega
      generalize upd H10 p2 (.lst [V.str "mx", V.str "my"]) = H11 at g11 h11 L11 U11 np3 ⊢
      rw [← List.map_append]
      have s12 := same_upd (o := .lst ((nms.take i ++ nm2).map V.str)) np3
      have h12 : upd H11 p3 (.lst ((nms.take i ++ nm2).map V.str)) p3 = some (.lst ((nms.take i ++ nm2).map V.str)) := upd_same
      have L12 := L11.same s12
      have U12 := U11.same s12
      have n3 : p3 ≠ d := fun e => by obtain ⟨xs, h⟩ := L11.dr; rw [e, h] at np3; cases np3
      generalize upd H11 p3 (.lst ((nms.take i ++ nm2).map V.str)) = H12 at h12 L12 U12 ⊢
      obtain ⟨xs12, hx12⟩ := L12.dr
      refine ⟨_, rfl, _, rfl, _, _, rfl, rfl, d, _, xs12, rfl, hx12, by omega, fun r H13 ys r0 r1 k13 hd13 => ?_⟩
      obtain ⟨rq, rfl⟩ : ∃ rq : Nat, r = (rq : Int) := ⟨r.toNat, by omega⟩
      have L13 := L12.draw k13 hd13
      have U13 := U12.draw k13 hx12 hud
      have h13 := k13 _ _ h12 n3
      have hql : rq < (nms.take i ++ nm2).length := by
        rw [List.length_append, List.length_take]
        show rq < _ + 2
        omega
      refine ixl h13 (atN (sV_get hql)) ?_
      have hmm : (nms.take i ++ nm2)[rq] ∈ nms ++ nm2 := by
        rcases List.mem_append.mp (List.getElem_mem hql) with h | h
        · exact List.mem_append_left _ (List.mem_of_mem_take h)
        · exact List.mem_append_right _ h
      generalize (nms.take i ++ nm2)[rq] = mo at hmm ⊢
      -- (0, 0, 1, 2, 3)[..]
      refine ⟨by show 5 ≤ sizeLine; decide, fun p4 np4 => ?_⟩
      have s14 := same_upd (o := .tup [V.int 0, .int 0, .int 1, .int 2, .int 3]) np4
      have h14 : upd H13 p4 (.tup [V.int 0, .int 0, .int 1, .int 2, .int 3]) p4 = some (.tup [V.int 0, .int 0, .int 1, .int 2, .int 3]) := upd_same
      have L14 := L13.same s14
      have U14 := U13.same s14
      generalize upd H13 p4 (.tup [V.int 0, .int 0, .int 1, .int 2, .int 3]) = H14 at h14 L14 U14 ⊢
      obtain ⟨xs14, hx14⟩ := L14.dr
      refine ⟨_, rfl, d, 5, xs14, rfl, hx14, by decide, fun r H15 ys r0 r1 k15 hd15 => ?_⟩
      have L15 := L14.draw k15 hd15
      have U15 := U14.draw k15 hx14 hud
      have h15 := L14.tk k15 _ _ h14
      obtain ⟨lv, elv, l0, l4⟩ := five r0 r1
      refine ixt h15 elv ?_
      refine ⟨by show 2 ≤ sizeLine; decide, fun p5 np5 => ?_⟩
      have s16 := same_upd (o := .tup [V.str mo, .int lv]) np5
      have h16 : upd H15 p5 (.tup [V.str mo, .int lv]) p5 = some (.tup [V.str mo, .int lv]) := upd_same
      have L16 := L15.same s16
      have U16 := U15.same s16
      generalize upd H15 p5 (.tup [V.str mo, .int lv]) = H16 at h16 L16 U16 ⊢
      have hvl := U16.dv.len
      rw [List.length_map] at hvl
      refine ⟨u, vs, _, rfl, rfl, U16.hu, by show _ < 2 ^ 24; omega, ?_⟩
      have tku : Tk H16 (upd H16 u (.lst (vs ++ [.ref p5]))) := Tk.upd fun xs z => by rw [U16.hu] at z; cases z
      refine ⟨_, vs ++ [.ref p5], us ++ [(mo, lv)], rfl, L16.keep Keep.at U16.hu hud hun, ⟨upd_same, ?_⟩, fun p hp => ?_, by rw [List.length_append, List.length_singleton]; omega⟩
      · rw [List.map_append]
        exact (U16.dv.app (.one (prM (p := (mo, lv)) h16))).tk tku
      · rcases List.mem_append.mp hp with h | h
        · exact hus p h
        · rw [List.mem_singleton.mp h]
          exact ⟨hmm, l0, l4⟩
    · rintro σ H9 ⟨y6, vs, us, rfl, L9, U9, hus, hul⟩
      -- if _law_take(draws, 9) > 0
      obtain ⟨xs9, hx9⟩ := L9.dr
      refine ⟨_, rfl, d, 9, xs9, rfl, hx9, by decide, fun r HA ys r0 r1 kA hdA => ⟨_, _, rfl, rfl, _, rfl, ite2 (fun c => ?_) (fun c => ?_)⟩⟩
      · have LA := L9.draw kA hdA
        have UA := U9.draw kA hx9 hud
        have eni : ((0 : Int) + (i : Int)) = ((i : Nat) : Int) := Int.zero_add _
        refine ⟨_, rfl, _, rfl, ixl LA.nm (by rw [eni]; exact atN (sV_get hi)) ⟨_, rfl, u, vs, rfl, .inl ⟨SqL.of UA.hu, fun t1 nt1 => ?_⟩⟩⟩
        have sB := same_upd (o := .tup vs) nt1
        have hB : Dt (upd HA t1 (.tup vs)) (.ref t1) (.tuple (us.map prD)) := .tup upd_same (UA.dv.tk (same_tk sB))
        have LB := LA.same sB
        generalize upd HA t1 (.tup vs) = HB at hB LB ⊢
        refine ⟨by decide, fun e1 ne1 => ?_⟩
        have s1 := same_upd (o := .tup []) ne1
        have d1 : Dt (upd HB e1 (.tup [])) (.ref e1) (.tuple []) := .tup upd_same .nil
        have hB1 := hB.tk (same_tk s1)
        have LB1 := LB.same s1
        generalize upd HB e1 (.tup []) = HB1 at d1 hB1 LB1 ⊢
        refine ⟨by decide, fun e2 ne2 => ?_⟩
        have s2 := same_upd (o := .tup []) ne2
        have d2 : Dt (upd HB1 e2 (.tup [])) (.ref e2) (.tuple []) := .tup upd_same .nil
        have hB2 := hB1.tk (same_tk s2)
        have d12 := d1.tk (same_tk s2)
        have LB2 := LB1.same s2
        generalize upd HB1 e2 (.tup []) = HB2 at d2 d12 hB2 LB2 ⊢
        refine ⟨by decide, fun e3 ne3 => ?_⟩
        have s3 := same_upd (o := .tup []) ne3
        have d3 : Dt (upd HB2 e3 (.tup [])) (.ref e3) (.tuple []) := .tup upd_same .nil
        have hB3 := hB2.tk (same_tk s3)
        have d13 := d12.tk (same_tk s3)
        have d23 := d2.tk (same_tk s3)
        have LB3 := LB2.same s3
        generalize upd HB2 e3 (.tup []) = HB3 at d3 d13 d23 hB3 LB3 ⊢
        refine ⟨by show 6 ≤ sizeLine; decide, fun p np => ?_⟩
        have s4 := same_upd (o := .tup [.str "module", .str nms[i], .ref t1, .ref e1, .ref e2, .ref e3]) np
        have dA : Dt (upd HB3 p (.tup [.str "module", .str nms[i], .ref t1, .ref e1, .ref e2, .ref e3])) (.ref p) (artD nms[i] us) := .tup upd_same (.cons (.str _) (.cons (.str _) (.cons (hB3.tk (same_tk s4)) (.cons (d13.tk (same_tk s4)) (.cons (d23.tk (same_tk s4)) (.cons (d3.tk (same_tk s4)) .nil))))))
        have LC := LB3.same s4
        generalize upd HB3 p (.tup [.str "module", .str nms[i], .ref t1, .ref e1, .ref e2, .ref e3]) = HC at dA LC ⊢
        have hk := LC.ok.keys
        have hni : nms[i] ∉ as.map (·.1) := fun h => by
          have h2 := hin _ h
          have e := List.take_append_drop i nms
          have hdr : nms[i] ∈ nms.drop i := by
            rw [List.drop_eq_getElem_cons hi]
            exact List.mem_cons_self
          have nn := hnnd
          rw [← e, List.nodup_append] at nn
          exact nn.2.2 _ h2 _ hdr rfl
        have hkv : kvs.length = as.length := by
          have := congrArg List.length hk
          rw [List.length_map, List.length_map] at this
          exact this
        have hil : i < nms.length := hi
        have h12 : nms.length ≤ 12 := by omega
        refine ⟨_, rfl, _, rfl, _, rfl, ixl LC.nm (by rw [eni]; exact atN (sV_get hi)) ⟨A, _, rfl, DPut.k (k := .inr nms[i]) LC.art (by show _ < 2 ^ 24; omega), ?_⟩⟩
        have ep : putK kvs (.inr nms[i] : Key) (.ref p) = kvs ++ [(.inr nms[i], .ref p)] := by
          unfold putK
          rw [if_neg ?_]
          intro h
          obtain ⟨x, hx, ex⟩ := List.any_eq_true.mp h
          have hx1 : x.1 ∈ kvs.map (·.1) := List.mem_map.mpr ⟨x, hx, rfl⟩
          rw [hk, of_decide_eq_true ex] at hx1
          obtain ⟨y, hy, ey⟩ := List.mem_map.mp hx1
          exact hni (List.mem_map.mpr ⟨y, hy, Sum.inr.inj ey⟩)
        rw [ep]
        obtain ⟨xsC, hxC⟩ := LC.dr
        have tkA : Tk HC (upd HC A (.dK (kvs ++ [(.inr nms[i], .ref p)]))) := Tk.upd fun xs z => by rw [LC.art] at z; cases z
        have nAd : d ≠ A := ne_of hxC LC.art (by intro z; cases z)
        have nAn : n ≠ A := ne_of LC.nm LC.art (by intro z; cases z)
        refine ⟨_, _, _, kvs ++ [(.inr nms[i], .ref p)], as ++ [(nms[i], us)], rfl, ⟨⟨xsC, by rw [upd_ne nAd]; exact hxC⟩, by rw [upd_ne nAn]; exact LC.nm, LC.nd, upd_same, (LC.ok.app dA).tk tkA⟩, fun m u' hm => ?_, ?_, fun x hx => ?_, ?_⟩
        · rcases U_app (m := nms[i]) (us := us) (n := m) as with e | e
          · rw [e] at hm; exact hU m u' hm
          · rw [e] at hm; exact hus u' hm
        · rw [List.map_append, List.nodup_append]
          exact ⟨hand, by simp, fun x hx y hy e => hni (by have e2 : y = nms[i] := List.mem_singleton.mp hy; rw [← (show x = nms[i] from e.trans e2)]; exact hx)⟩
        · rw [List.map_append] at hx
          rw [List.take_add_one, List.getElem?_eq_getElem hi]
          rcases List.mem_append.mp hx with h | h
          · exact List.mem_append_left _ (hin x h)
          · exact List.mem_append_right _ (by simpa using h)
        · rw [List.length_append, List.length_singleton]
          omega
      · refine ⟨_, _, _, kvs, as, rfl, L9.draw kA hdA, hU, hand, fun x hx => ?_, by omega⟩
        rw [List.take_add_one]
        exact List.mem_append_left _ (hin x hx)
  · rintro σ H6 ⟨y4, y5, y6, kvs, as, rfl, L6, hU, hand, hin, hal⟩
    clear hU0 hN0 hI0 L5
    obtain ⟨xs6, hx6⟩ := L6.dr
    have hn6 := L6.nm
    -- main
    refine ⟨_, rfl, by show 1 ≤ sizeLine; decide, fun p1 np1 => ?_⟩
    have s7 := same_upd (o := .lst [V.str "mx"]) np1
    have h7 : upd H6 p1 (.lst [V.str "mx"]) p1 = some (.lst ((["mx"] : List Str).map V.str)) := upd_same
    have L7 := L6.same s7
    refine ⟨n, p1, _, _, rfl, rfl, L7.nm, h7, ?_, fun p2 np2 => ?_⟩
    · rw [List.length_map, List.length_map]
      show _ + 1 ≤ 2 ^ 24
      omega
    generalize upd H6 p1 (.lst [V.str "mx"]) = H7 at h7 L7 np2 ⊢
    rw [← List.map_append]
    have s8 := same_upd (o := .lst ((nms ++ (["mx"] : List Str)).map V.str)) np2
    have h8 : upd H7 p2 (.lst ((nms ++ (["mx"] : List Str)).map V.str)) p2 = some (.lst ((nms ++ (["mx"] : List Str)).map V.str)) := upd_same
    have L8 := L7.same s8
    have n8 : p2 ≠ d := fun e => by obtain ⟨xs, h⟩ := L7.dr; rw [e, h] at np2; cases np2
    generalize upd H7 p2 (.lst ((nms ++ (["mx"] : List Str)).map V.str)) = H8 at h8 L8 ⊢
    obtain ⟨xs8, hx8⟩ := L8.dr
    refine ⟨_, rfl, _, rfl, n, _, rfl, .inl (SqL.of L8.nm), _, _, rfl, rfl, d, _, xs8, rfl, hx8, by omega, fun r H9 ys r0 r1 k9 hd9 => ?_⟩
    rw [List.length_map] at r1
    obtain ⟨rq, rfl⟩ : ∃ rq : Nat, r = (rq : Int) := ⟨r.toNat, by omega⟩
    have L9 := L8.draw k9 hd9
    have hql : rq < (nms ++ (["mx"] : List Str)).length := by
      rw [List.length_append]
      show rq < _ + 1
      omega
    refine ixl (k9 _ _ h8 n8) (atN (sV_get hql)) ?_
    have hmn : (nms ++ (["mx"] : List Str))[rq] ∈ nms ++ nm2 := by
      rcases List.mem_append.mp (List.getElem_mem hql) with h | h
      · exact List.mem_append_left _ h
      · rw [List.mem_singleton.mp h]
        exact List.mem_append_right _ List.mem_cons_self
    generalize (nms ++ (["mx"] : List Str))[rq] = mn at hmn ⊢
    -- due = [(main, 0)]
    refine ⟨_, rfl, by show 2 ≤ sizeLine; decide, fun t0 nt0 => ?_⟩
    have s10 := same_upd (o := .tup [V.str mn, .int 0]) nt0
    have h10 : upd H9 t0 (.tup [V.str mn, .int 0]) t0 = some (.tup [V.str mn, .int 0]) := upd_same
    have L10 := L9.same s10
    generalize upd H9 t0 (.tup [V.str mn, .int 0]) = H10 at h10 L10 ⊢
    refine ⟨by show 1 ≤ sizeLine; decide, fun D nD => ?_⟩
    have s11 := same_upd (o := .lst [.ref t0]) nD
    have h11 : upd H10 D (.lst [.ref t0]) D = some (.lst [.ref t0]) := upd_same
    have d11 : DtAll (upd H10 D (.lst [.ref t0])) [.ref t0] ([((mn, 0) : Pr)].map prD) := .one (prM (p := (mn, 0)) (s11 _ _ h10))
    have L11 := L10.same s11
    generalize upd H10 D (.lst [.ref t0]) = H11 at h11 d11 L11 ⊢
    clear L10 L9 L8 L7 L6 s11 s10 s8 s7 k9 h10 h8 h7 hx8 hx6 hn6 nD nt0 np2 np1 hd9
    let S := suc (U as)
    have hS : S = suc (U as) := rfl
    have hlen : ∀ fs : List Pr, fs.Nodup → (∀ x ∈ fs, x ∈ uni (nms ++ nm2)) → fs.length ≤ 4 * nms.length + 8 := fun fs h1 h2 => by
      have := nd_len h1 h2
      rw [uni_len, List.length_append] at this
      have e2 : nm2.length = 2 := rfl
      omega
    have hUn : ∀ x ∈ uni (nms ++ nm2), ∀ y ∈ S x, y ∈ uni (nms ++ nm2) := fun x hx y hy => by
      obtain ⟨u, hu, rfl, h4⟩ := mem_suc.mp hy
      obtain ⟨u1, u2, u3⟩ := hU _ _ hu
      obtain ⟨x1, x2, x3⟩ := mem_uni.mp hx
      exact mem_uni.mpr ⟨u1, by show 0 ≤ x.2 + u.2; omega, h4⟩
    have hD0 : Due S (mn, 0) (nms ++ nm2) [(mn, 0)] := ⟨by simp, by simp, fun x hx => by rw [List.mem_singleton.mp hx]; exact .root, fun x hx => by rw [List.mem_singleton.mp hx]; exact mem_uni.mpr ⟨hmn, Int.le_refl 0, (by show (0 : Int) < 4; decide)⟩⟩
    -- for turn in range(4 * len(names) + 12)
    refine ⟨_, rfl, n, _, rfl, .inl (SqL.of L11.nm), _, _, rfl, rfl, .inl (by constructor <;> decide), _, _, rfl, rfl, _, rfl, ?_, ?_, ?_⟩
    · rw [List.length_map]; omega
    · rw [List.length_map]; omega
    rw [show (4 * ((nms.map V.str).length : Int) + 12) = ((4 * nms.length + 12 : Nat) : Int) by rw [List.length_map]; omega]
    refine for_range (lo := 0) (n := 4 * nms.length + 12) (fun i σ H' => ∃ (y4 y5 y6 y9 y10 y11 y12 y13 : Option V) (vs : List V) (ds : List Pr), σ = [some (.ref sc), some (.ref d), some (.ref n), some (.ref A), y4, y5, y6, some (.str mn), some (.ref D), y9, y10, y11, y12, y13, none] ∧ Keep D H11 H' ∧ H' D = some (.lst vs) ∧ DtAll H' vs (ds.map prD) ∧
      Due S (mn, 0) (nms ++ nm2) ds ∧ ((∀ x ∈ ds, ∀ y ∈ S x, y ∈ ds) ∨ i + 1 ≤ ds.length)) ⟨_, _, _, none, none, none, none, none, _, [(mn, 0)], rfl, Keep.refl _ _, h11, d11, hD0, .inr (Nat.le_refl _)⟩ ?_ ?_
    · rintro i σ H12 hi ⟨y4, y5, y6, y9, y10, y11, y12, y13, vs, ds, rfl, k12, h12, dv12, hDu, hcl⟩
      refine ⟨_, rfl, D, _, rfl, .inl (SqL.of h12), fun l nl => ?_⟩
      have sl := same_upd (o := .lst vs) nl
      have hl : upd H12 l (.lst vs) l = some (.lst vs) := upd_same
      have nlD : l ≠ D := fun e => by rw [e, h12] at nl; cases nl
      have dvl := dv12.tk (same_tk sl)
      have hDl := sl _ _ h12
      have kl := k12.trans (Keep.same sl)
      generalize upd H12 l (.lst vs) = Hl at hl dvl hDl kl ⊢
      have hvl := dvl.len
      rw [List.length_map] at hvl
      have e0 : ds ++ ([] : List Pr) = ds := List.append_nil ds
      have hx0 : ∀ e ∈ ([] : List Pr), ∃ x ∈ ds, e ∈ S x := fun e he => by cases he
      have hj0 : ∀ j x, j < 0 → ds[j]? = some x → ∀ y ∈ S x, y ∈ ds ++ ([] : List Pr) := fun j x hj => absurd hj (Nat.not_lt_zero _)
      have dvl0 : DtAll Hl vs ((ds ++ ([] : List Pr)).map prD) := by rw [e0]; exact dvl
      have hDu0 : Due S (mn, 0) (nms ++ nm2) (ds ++ ([] : List Pr)) := by rw [e0]; exact hDu
      refine ⟨l, rfl, ⟨_, SqL.of hl⟩, for_list (K := K) (a := l) (xs := vs) (fun q σ H' => ∃ (y10 y11 y12 y13 : Option V) (vs' : List V) (ex : List Pr), σ = [some (.ref sc), some (.ref d), some (.ref n), some (.ref A), y4, y5, y6, some (.str mn), some (.ref D), some (.int ((0 : Int) + (i : Int))), y10, y11, y12, y13, none] ∧ Keep D Hl H' ∧ H' D = some (.lst vs') ∧ DtAll H' vs' ((ds ++ ex).map prD) ∧
        Due S (mn, 0) (nms ++ nm2) (ds ++ ex) ∧ (∀ e ∈ ex, ∃ x ∈ ds, e ∈ S x) ∧ ∀ j x, j < q → ds[j]? = some x → ∀ y ∈ S x, y ∈ ds ++ ex)
        ⟨y10, y11, y12, y13, vs, [], rfl, Keep.refl _ _, hDl, dvl0, hDu0, hx0, hj0⟩ (fun q σ H' _ ⟨_, _, _, _, _, _, _, k, _⟩ => SqL.of (k _ _ hl nlD)) ?_ ?_⟩
      · rintro q x σ H13 hq ⟨y10, y11, y12, y13, vs', ex, rfl, k13, hD13, dv13, hDu13, hex, hdn⟩
        obtain ⟨z, hz, hdz⟩ := dvl.get_map hq
        obtain ⟨c, rfl, hc⟩ := prE hdz
        obtain ⟨zn, zs⟩ := z
        have ncD : c ≠ D := ne_of hc hDl (by intro z; cases z)
        have hc13 := k13 _ _ hc ncD
        have hzds : (zn, zs) ∈ ds := List.mem_of_getElem? hz
        refine ⟨c, _, rfl, SqT.of hc13, rfl, _, _, rfl, _, _, rfl, rfl, ?_⟩
        have kk13 := kl.trans k13
        have nAD : A ≠ D := ne_of L11.art h11 (by intro z; cases z)
        have hA13 := kk13 _ _ L11.art nAD
        have hq1 : ∀ ex' : List Pr, (∀ j x, j < q → ds[j]? = some x → ∀ y ∈ S x, y ∈ ds ++ ex') → (∀ y ∈ S (zn, zs), y ∈ ds ++ ex') → ∀ j x, j < q + 1 → ds[j]? = some x → ∀ y ∈ S x, y ∈ ds ++ ex' := fun ex' h1 h2 j x hj e y hy => by
          by_cases ej : j = q
          · subst ej
            rw [hz] at e
            cases e
            exact h2 y hy
          · exact h1 j x (by omega) e y hy
        rcases L11.ok.get (n := zn) with ⟨v, ul, gv, hd, eU⟩ | ⟨gv, eU⟩
        case inr =>
          refine ⟨_, rfl, _, rfl, A, _, rfl, DGet.k (k := .inr zn) hA13, ?_⟩
          rw [gv]
          refine ⟨false, rfl, iteF ⟨by decide, fun e ne => ?_⟩⟩
          have se := same_upd (o := .tup []) ne
          refine ⟨e, rfl, ⟨_, SqT.of upd_same⟩, for_tup (K := K) (a := e) (xs := []) (fun j σ' H' => σ' = [some (.ref sc), some (.ref d), some (.ref n), some (.ref A), y4, y5, y6, some (.str mn), some (.ref D), some (.int ((0 : Int) + (i : Int))), some (.str zn), some (.int zs), y12, y13, none] ∧ H' = upd H13 e (.tup [])) ⟨rfl, rfl⟩ (fun j σ' H' _ h => by rw [h.2]; exact SqT.of upd_same) (fun j x σ' H' hj => by cases hj) ?_⟩
          rintro σ' H' ⟨rfl, rfl⟩
          refine ⟨_, _, _, _, vs', ex, rfl, k13.trans (Keep.same se), se _ _ hD13, dv13.tk (same_tk se), hDu13, hex, hq1 ex hdn fun y hy => ?_⟩
          obtain ⟨u, hu, _⟩ := mem_suc.mp hy
          rw [show U as (zn, zs).1 = [] from eU] at hu
          cases hu
        case inl =>
          refine ⟨_, rfl, _, rfl, A, _, rfl, DGet.k (k := .inr zn) hA13, ?_⟩
          rw [gv]
          refine ⟨true, rfl, iteT ?_⟩
          obtain ⟨va, vb, vc, vxs, rfl, hva, uys, huv, hud⟩ := artE hd
          have nva : va ≠ D := ne_of hva h11 (by intro z; cases z)
          have nvb : vb ≠ D := ne_of huv h11 (by intro z; cases z)
          refine ⟨_, rfl, _, rfl, A, _, rfl, (DGet.k (k := .inr zn) hA13 |> fun z => gv ▸ z), tc (ixt (kk13 _ _ hva nva) (atI_nat (j := 2) rfl) ⟨vb, rfl, ⟨_, SqT.of (kk13 _ _ huv nvb)⟩, ?_⟩)⟩
          have hul2 := hud.len
          rw [List.length_map] at hul2
          have hp0 : ∀ j u, j < 0 → ul[j]? = some u → zs + u.2 < 4 → (u.1, zs + u.2) ∈ ds ++ ex := fun j u hj => absurd hj (Nat.not_lt_zero _)
          refine for_tup (K := K) (a := vb) (xs := uys) (fun j σ' H' => ∃ (y12 y13 : Option V) (vs' : List V) (ex : List Pr), σ' = [some (.ref sc), some (.ref d), some (.ref n), some (.ref A), y4, y5, y6, some (.str mn), some (.ref D), some (.int ((0 : Int) + (i : Int))), some (.str zn), some (.int zs), y12, y13, none] ∧ Keep D Hl H' ∧ H' D = some (.lst vs') ∧ DtAll H' vs' ((ds ++ ex).map prD) ∧
            Due S (mn, 0) (nms ++ nm2) (ds ++ ex) ∧ (∀ e ∈ ex, ∃ x ∈ ds, e ∈ S x) ∧ (∀ j x, j < q → ds[j]? = some x → ∀ y ∈ S x, y ∈ ds ++ ex) ∧ ∀ j' u, j' < j → ul[j']? = some u → zs + u.2 < 4 → (u.1, zs + u.2) ∈ ds ++ ex) ⟨y12, y13, vs', ex, rfl, k13, hD13, dv13, hDu13, hex, hdn, hp0⟩ ?_ ?_ ?_
          · rintro j σ' H' _ ⟨_, _, _, _, _, k', _⟩
            exact SqT.of ((kl.trans k') _ _ huv nvb)
          · rintro j x σ' H' hj ⟨y12, y13, vs', ex, rfl, k', hD', dv', hDu', hex, hdn, hp⟩
            obtain ⟨u, huj, hdu⟩ := hud.get_map hj
            obtain ⟨b, rfl, hb⟩ := prE hdu
            have nbD : b ≠ D := ne_of hb h11 (by intro z; cases z)
            have hum : u ∈ U as zn := by rw [eU]; exact List.mem_of_getElem? huj
            refine ⟨b, _, rfl, SqT.of ((kl.trans k') _ _ hb nbD), rfl, _, _, rfl, _, _, rfl, rfl, ?_⟩
            have hfl := hlen _ hDu'.nd hDu'.uni
            have hvl' := dv'.len
            rw [List.length_map] at hvl'
            have hp1 : ∀ ex' : List Pr, (∀ x ∈ ds ++ ex, x ∈ ds ++ ex') → (zs + u.2 < 4 → (u.1, zs + u.2) ∈ ds ++ ex') → ∀ j' u', j' < j + 1 → ul[j']? = some u' → zs + u'.2 < 4 → (u'.1, zs + u'.2) ∈ ds ++ ex' := fun ex' h0 h1 j' u' hj' e h4 => by
              by_cases ej : j' = j
              · subst ej
                rw [huj] at e
                cases e
                exact h1 h4
              · exact h0 _ (hp j' u' (by omega) e h4)
            refine ⟨_, rfl, _, rfl, _, _, rfl, rfl, _, _, rfl, rfl, _, rfl, ite2 (fun c1 => ?_) (fun c1 => ?_)⟩
            · have c1' : zs + u.2 < 4 := of_decide_eq_true c1
              refine ⟨_, rfl, _, rfl, _, rfl, _, _, rfl, rfl, by show 2 ≤ sizeLine; decide, fun p np => ?_⟩
              have sp := same_upd (o := .tup [V.str u.1, .int (zs + u.2)]) np
              have hpp : upd H' p (.tup [V.str u.1, .int (zs + u.2)]) p = some (.tup [V.str u.1, .int (zs + u.2)]) := upd_same
              have hDp := sp _ _ hD'
              have dvp := dv'.tk (same_tk sp)
              have kp := k'.trans (Keep.same sp)
              dsimp only
              generalize upd H' p (.tup [V.str u.1, .int (zs + u.2)]) = Hp' at hpp hDp dvp kp ⊢
              have hruS : (u.1, zs + u.2) ∈ S (zn, zs) := mem_suc.mpr ⟨u, hum, rfl, c1'⟩
              have hru : Rch S (mn, 0) (u.1, zs + u.2) := .step (hDu.rch _ hzds) hruS
              have huu : (u.1, zs + u.2) ∈ uni (nms ++ nm2) := hUn _ (hDu.uni _ hzds) _ hruS
              have hstr : ∀ x ∈ ds ++ ex, PyData.strOk x.1 = true := fun x hx => hok _ (mem_uni.mp (hDu'.uni _ hx)).1
              refine ⟨_, rfl, prD (u.1, zs + u.2), (ds ++ ex).map prD, (prM (p := (u.1, zs + u.2)) hpp).dp, .lst (SqL.of hDp) dvp.dp, shp (lay_pr (hok _ (mem_uni.mp huu).1)) (by have := dep_pr (u.1, zs + u.2); omega), shp (layAll_pr hstr) (by have := dep_prs (ds ++ ex); omega), _, rfl, ?_⟩
              rw [any_pr]
              by_cases hin : (u.1, zs + u.2) ∈ ds ++ ex
              · rw [decide_eq_true hin]
                exact iteF ⟨_, _, vs', ex, rfl, kp, hDp, dvp, hDu', hex, hdn, hp1 ex (fun x hx => hx) fun _ => hin⟩
              · rw [decide_eq_false hin]
                have e1 : ds ++ (ex ++ [(u.1, zs + u.2)]) = (ds ++ ex) ++ [(u.1, zs + u.2)] := (List.append_assoc _ _ _).symm
                have hnd : (ds ++ (ex ++ [(u.1, zs + u.2)])).Nodup := by
                  rw [e1, List.nodup_append]
                  exact ⟨hDu'.nd, by simp, fun x hx y hy e => hin (by have e2 : y = (u.1, zs + u.2) := List.mem_singleton.mp hy; rw [← (show x = (u.1, zs + u.2) from e.trans e2)]; exact hx)⟩
                have hsubx : ∀ x ∈ ds ++ ex, x ∈ ds ++ (ex ++ [(u.1, zs + u.2)]) := fun x hx => by rw [e1]; exact List.mem_append_left _ hx
                have hcs : ∀ x ∈ ds ++ (ex ++ [(u.1, zs + u.2)]), x ∈ ds ++ ex ∨ x = (u.1, zs + u.2) := fun x hx => by
                  rw [e1] at hx
                  rcases List.mem_append.mp hx with h | h
                  · exact .inl h
                  · exact .inr (List.mem_singleton.mp h)
                refine iteT ⟨_, rfl, .inl ⟨rfl, _, SqL.of hDp⟩, _, rfl, _, rfl, _, rfl, _, _, rfl, rfl, by show 2 ≤ sizeLine; decide, fun p2 np2 => ?_⟩
                have sp2 := same_upd (o := .tup [V.str u.1, .int (zs + u.2)]) np2
                have hp2 : upd Hp' p2 (.tup [V.str u.1, .int (zs + u.2)]) p2 = some (.tup [V.str u.1, .int (zs + u.2)]) := upd_same
                have hD2 := sp2 _ _ hDp
                have dv2 := dvp.tk (same_tk sp2)
                have kp2 := kp.trans (Keep.same sp2)
                dsimp only
                generalize upd Hp' p2 (.tup [V.str u.1, .int (zs + u.2)]) = Hq at hp2 hD2 dv2 kp2 ⊢
                refine ⟨D, vs', _, rfl, rfl, hD2, by show _ < 2 ^ 24; omega, ?_⟩
                have tkD : Tk Hq (upd Hq D (.lst (vs' ++ [.ref p2]))) := Tk.upd fun xs z => by rw [hD2] at z; cases z
                refine ⟨_, _, vs' ++ [.ref p2], ex ++ [(u.1, zs + u.2)], rfl, kp2.trans Keep.at, upd_same, ?_, ⟨hnd, hsubx _ hDu'.root, fun x hx => ?_, fun x hx => ?_⟩, fun e he => ?_, fun j x hj e y hy => hsubx _ (hdn j x hj e y hy), hp1 _ hsubx fun _ => by rw [e1]; exact List.mem_append_right _ (List.mem_singleton.mpr rfl)⟩
                · rw [e1, List.map_append]
                  exact (dv2.app (.one (prM (p := (u.1, zs + u.2)) hp2))).tk tkD
                · rcases hcs x hx with h | h
                  · exact hDu'.rch _ h
                  · rw [h]; exact hru
                · rcases hcs x hx with h | h
                  · exact hDu'.uni _ h
                  · rw [h]; exact huu
                · rcases List.mem_append.mp he with h | h
                  · exact hex _ h
                  · rw [List.mem_singleton.mp h]
                    exact ⟨_, hzds, hruS⟩
            · have c1' : ¬ zs + u.2 < 4 := fun z => c1 (decide_eq_true z)
              exact iteF ⟨_, _, vs', ex, rfl, k', hD', dv', hDu', hex, hdn, hp1 ex (fun x hx => hx) fun h => absurd h c1'⟩
          · rintro σ' H' ⟨y12, y13, vs', ex, rfl, k', hD', dv', hDu', hex, hdn, hp⟩
            refine ⟨_, _, _, _, vs', ex, rfl, k', hD', dv', hDu', hex, hq1 ex hdn fun y hy => ?_⟩
            obtain ⟨u, hu, rfl, h4⟩ := mem_suc.mp hy
            rw [show U as (zn, zs).1 = ul from eU] at hu
            obtain ⟨j, hj, ej⟩ := List.getElem_of_mem hu
            exact hp j u (by omega) (by rw [List.getElem?_eq_getElem hj, ej]) h4
      · rintro σ H13 ⟨y10, y11, y12, y13, vs', ex, rfl, k13, hD13, dv13, hDu13, hex, hdn⟩
        refine ⟨_, _, _, _, _, _, _, _, vs', ds ++ ex, rfl, kl.trans k13, hD13, dv13, hDu13, ?_⟩
        have hall : ∀ x ∈ ds, ∀ y ∈ S x, y ∈ ds ++ ex := fun x hx y hy => by
          obtain ⟨j, hj, ej⟩ := List.getElem_of_mem hx
          exact hdn j x (by omega) (by rw [List.getElem?_eq_getElem hj, ej]) y hy
        cases ex with
        | nil => exact .inl (by rw [List.append_nil] at hall ⊢; exact hall)
        | cons e ex =>
          rcases hcl with h | h
          · exfalso
            obtain ⟨x, hx, hy⟩ := hex e List.mem_cons_self
            have h2 := h x hx e hy
            have h3 := hDu13.nd
            rw [List.nodup_append] at h3
            exact h3.2.2 e h2 e List.mem_cons_self rfl
          · refine .inr ?_
            rw [List.length_append, List.length_cons]
            omega
    · rintro σ H12 ⟨y4, y5, y6, y9, y10, y11, y12, y13, vs, ds, rfl, k12, h12, dv12, hDu, hcl⟩
      have hds := hlen _ hDu.nd hDu.uni
      have hcl2 : ∀ x ∈ ds, ∀ y ∈ S x, y ∈ ds := by
        rcases hcl with h | h
        · exact h
        · exfalso; omega
      have hAll : All S (mn, 0) ds := ⟨hDu.nd, hDu.root, hDu.rch, hcl2⟩
      have nAD : A ≠ D := ne_of L11.art h11 (by intro z; cases z)
      have hA12 := k12 _ _ L11.art nAD
      have hO12 := L11.ok.tk (k12.tk h11)
      refine ⟨_, rfl, A, kvs, rfl, .inl hA12, fun c nc => ?_⟩
      have s13 := same_upd (o := .dK kvs) nc
      have h13 : upd H12 c (.dK kvs) c = some (.dK kvs) := upd_same
      have hA13 := s13 _ _ hA12
      have hO13 := hO12.tk (same_tk s13)
      have hD13 := s13 _ _ h12
      have dv13 := dv12.tk (same_tk s13)
      dsimp only [gName]
      generalize upd H12 c (.dK kvs) = H13 at h13 hA13 hO13 hD13 dv13 ⊢
      have hnn : (nms ++ nm2).length ≤ 1000 := by
        rw [List.length_append]
        show _ + 2 ≤ 1000
        omega
      refine ⟨_, rfl, _, rfl, c, kvs, as, mn, nms ++ nm2, rfl, h13, hO13, hU, hmn, hnn, fun r H14 ys l s14 nr hr14 dr14 hl hll => ?_⟩
      have hc14 := s14 _ _ h13
      have hA14 := s14 _ _ hA13
      have hO14 := hO13.tk (same_tk s14)
      have hD14 := s14 _ _ hD13
      have dv14 := dv13.tk (same_tk s14)
      refine ⟨_, rfl, D, vs, ds.map prD, rfl, SqL.of hD14, dv14.dp, PySem.W.AllAlike.of alike_pr, sortable_pr ds, fun d hd => ?_, fun p np => ?_⟩
      · obtain ⟨x, _, rfl⟩ := List.mem_map.mp hd
        have := dep_pr x
        omega
      have s15 := same_upd (o := .lst (((vs.zip (ds.map prD)).mergeSort (PySem.W.dataLe false Prod.snd)).map Prod.fst)) np
      have h15 : upd H14 p (.lst (((vs.zip (ds.map prD)).mergeSort (PySem.W.dataLe false Prod.snd)).map Prod.fst)) p = some (.lst (((vs.zip (ds.map prD)).mergeSort (PySem.W.dataLe false Prod.snd)).map Prod.fst)) := upd_same
      have d15 := (sorted_enc dv14).tk (same_tk s15)
      have hr15 := s15 _ _ hr14
      have dr15 := dr14.tk (same_tk s15)
      have hc15 := s15 _ _ hc14
      have hA15 := s15 _ _ hA14
      have hO15 := hO14.tk (same_tk s15)
      generalize upd H14 p (.lst (((vs.zip (ds.map prD)).mergeSort (PySem.W.dataLe false Prod.snd)).map Prod.fst)) = H15 at h15 d15 hr15 dr15 hc15 hA15 hO15 ⊢
      have ePerm : l.mergeSort leP = ds.mergeSort leP := sort_perm (hl.perm hAll)
      rw [ePerm] at dr15
      refine ⟨_, _, .list ((ds.mergeSort leP).map prD), rfl, .lst (SqL.of hr15) dr15.dp, .lst (SqL.of h15) d15.dp, by have := dep_prs (ds.mergeSort leP); omega, sm_prs _ (by rw [List.length_mergeSort]; omega), fun H16 s16 => ?_⟩
      refine ⟨true, rfl, iteT ⟨_, rfl, _, rfl, c, A, kvs, rfl, rfl, s16 _ _ hc15, s16 _ _ hA15, ?_, hO15.refs, q H16⟩⟩
      rw [hO15.keys]
      have e : (as.map fun p => (Sum.inr p.1 : Key)) = (as.map (·.1)).map (Sum.inr : Str → Key) := by rw [List.map_map]; rfl
      rw [e]
      exact List.Pairwise.map (R := fun a b => a ≠ b) (S := fun a b => a ≠ b) _ (fun a b h z => h (Sum.inr.inj z)) hand
end
end W3
set_option Elab.async false
set_option linter.all false
set_option maxRecDepth 100000
set_option maxHeartbeats 4000000
namespace W3
open PySem PySem.Spec PyProof.Rows L2 Com
theorem all_mk {l : PySem.W.OpenLaw} {w : World} {K : PySem.W.Frag} {h : Heap} {mg : Str → Option Value} {fa : Addr} {tk : Tok} {f1 f2 f3 f4 f5 : Addr}
    {od1 an1 od2 an2 od3 an3 od4 an4 od5 an5 : Option Addr} {sl1 sl2 sl3 sl4 sl5 : Array (Option Value)}
    {cd1 oc1 kV1 dc1 pm1 ct1 cd2 oc2 kV2 dc2 pm2 ct2 cd3 oc3 kV3 dc3 pm3 ct3 cd4 oc4 kV4 dc4 pm4 ct4 cd5 oc5 kV5 dc5 pm5 ct5 : Value} (X : K.In h) (G : h.Ns mainGlobals mg) (hfa : mg "law" = some (.ref fa))
    (a1 : PySem.W.nsIn K mainGlobals "reach" = some (some (.ref f1))) (l1 : K.lookup f1 = some ⟨oc1, od1, .func (PySem.W.fnOf "reach" "reach" (defArgs st_reach) (defBody st_reach) (defScope st_reach) .none kV1 dc1 pm1 an1 cd1 ct1), sl1⟩) (c1 : PySem.W.codeIn K cd1 "reach" = true) (k1 : PySem.W.keepIn K (.ref f1) = true)
    (a2 : PySem.W.nsIn K mainGlobals "_law_draws" = some (some (.ref f2))) (l2 : K.lookup f2 = some ⟨oc2, od2, .func (PySem.W.fnOf "_law_draws" "_law_draws" (defArgs st__law_draws) (defBody st__law_draws) (defScope st__law_draws) .none kV2 dc2 pm2 an2 cd2 ct2), sl2⟩) (c2 : PySem.W.codeIn K cd2 "_law_draws" = true) (k2 : PySem.W.keepIn K (.ref f2) = true)
    (a3 : PySem.W.nsIn K mainGlobals "_law_take" = some (some (.ref f3))) (l3 : K.lookup f3 = some ⟨oc3, od3, .func (PySem.W.fnOf "_law_take" "_law_take" (defArgs st__law_take) (defBody st__law_take) (defScope st__law_take) .none kV3 dc3 pm3 an3 cd3 ct3), sl3⟩) (c3 : PySem.W.codeIn K cd3 "_law_take" = true) (k3 : PySem.W.keepIn K (.ref f3) = true)
    (a4 : PySem.W.nsIn K mainGlobals "_law_same" = some (some (.ref f4))) (l4 : K.lookup f4 = some ⟨oc4, od4, .func (PySem.W.fnOf "_law_same" "_law_same" (defArgs st__law_same) (defBody st__law_same) (defScope st__law_same) .none kV4 dc4 pm4 an4 cd4 ct4), sl4⟩) (c4 : PySem.W.codeIn K cd4 "_law_same" = true) (k4 : PySem.W.keepIn K (.ref f4) = true)
    (a5 : PySem.W.nsIn K mainGlobals "law" = some (some (.ref f5))) (l5 : K.lookup f5 = some ⟨oc5, od5, .func (PySem.W.fnOf "law" "law" (defArgs st_law) (defBody st_law) (defScope st_law) .none kV5 dc5 pm5 an5 cd5 ct5), sl5⟩) (c5 : PySem.W.codeIn K cd5 "law" = true) (k5 : PySem.W.keepIn K (.ref f5) = true)
    (gl : PySem.W.nsIn K mainGlobals "LAST_PHASE" = some (some (.int 3 tk)))
    (z1 : PySem.W.nsIn K mainGlobals "len" = some none) (z2 : PySem.W.nsIn K mainGlobals "int" = some none) (z3 : PySem.W.nsIn K mainGlobals "bool" = some none) (z4 : PySem.W.nsIn K mainGlobals "str" = some none) (z5 : PySem.W.nsIn K mainGlobals "tuple" = some none) (z6 : PySem.W.nsIn K mainGlobals "list" = some none) (z7 : PySem.W.nsIn K mainGlobals "dict" = some none) (z8 : PySem.W.nsIn K mainGlobals "range" = some none) (z9 : PySem.W.nsIn K mainGlobals "isinstance" = some none) (z10 : PySem.W.nsIn K mainGlobals "sorted" = some none) (z11 : PySem.W.nsIn K mainGlobals "all" = some none) : 
    ∃ fd : FuncData, (∀ (s : Shared) (u : Value), BindsTo s fd ⟨[u], []⟩ [("script", u)]) ∧ ∀ base : Heap, K.In base → base.Ns mainGlobals mg → FnOk l.prog w K mg base CX0 6 fa fd ["script"] (spLaw K) := by
  have e := hfa.symm.trans (PySem.W.mg_of X G a5)
  cases e
  have M : Mg mg := ⟨PySem.W.mg_none_of X G z1, PySem.W.mg_none_of X G z2, PySem.W.mg_none_of X G z3, PySem.W.mg_none_of X G z4, PySem.W.mg_none_of X G z5, PySem.W.mg_none_of X G z6, PySem.W.mg_none_of X G z7, PySem.W.mg_none_of X G z8, PySem.W.mg_none_of X G z9, PySem.W.mg_none_of X G z10, PySem.W.mg_none_of X G z11⟩
  have E1 := fun_mk (st := st_reach) l1 c1 k1
  have b1 := E1.binds (ps := ["artifacts", "main"]) fun _ _ _ _ _ _ us hl => match us, hl with | [_, _], _ => rfl
  have F1 : Dfn K mg "reach" st_reach f1 _ ["artifacts", "main"] := ⟨E1, PySem.W.mg_of X G a1, b1⟩
  have E2 := fun_mk (st := st__law_draws) l2 c2 k2
  have b2 := E2.binds (ps := ["script", "count"]) fun _ _ _ _ _ _ us hl => match us, hl with | [_, _], _ => rfl
  have F2 : Dfn K mg "_law_draws" st__law_draws f2 _ ["script", "count"] := ⟨E2, PySem.W.mg_of X G a2, b2⟩
  have E3 := fun_mk (st := st__law_take) l3 c3 k3
  have b3 := E3.binds (ps := ["draws", "limit"]) fun _ _ _ _ _ _ us hl => match us, hl with | [_, _], _ => rfl
  have F3 : Dfn K mg "_law_take" st__law_take f3 _ ["draws", "limit"] := ⟨E3, PySem.W.mg_of X G a3, b3⟩
  have E4 := fun_mk (st := st__law_same) l4 c4 k4
  have b4 := E4.binds (ps := ["found", "due"]) fun _ _ _ _ _ _ us hl => match us, hl with | [_, _], _ => rfl
  have F4 : Dfn K mg "_law_same" st__law_same f4 _ ["found", "due"] := ⟨E4, PySem.W.mg_of X G a4, b4⟩
  have E5 := fun_mk (st := st_law) l5 c5 k5
  have b5 := E5.binds (ps := ["script"]) fun _ _ _ _ _ _ us hl => match us, hl with | [_], _ => rfl
  have F5 : Dfn K mg "law" st_law fa _ ["script"] := ⟨E5, PySem.W.mg_of X G a5, b5⟩
  refine ⟨PySem.W.fnOf "law" "law" (defArgs st_law) (defBody st_law) (defScope st_law) .none kV5 dc5 pm5 an5 cd5 ct5, fun s v => .of_eq rfl, fun base _ _ => ?_⟩
  have C1 : Cal l.prog w K mg base 1 "_law_draws" (spDraws K) := ok_law_draws F2 M
  have C2 : Cal l.prog w K mg base 1 "_law_take" spTake := ok_law_take F3 M
  have C3 : Cal l.prog w K mg base 1 "reach" spReach := ok_reach F1 M (PySem.W.mg_of X G gl)
  exact ok_law F5 M C1 C2 C3 (same_all F4 M 4)
end W3
open PySem PySem.W PyProof.Rows
set_option maxRecDepth 100000 in
set_option maxHeartbeats 0 in
theorem PySem.Challenge.cw_wherewritten_k63_reach_holds : PySem.Challenge.rw_wherewritten_k63_reach.Holds := by
  w_on; o_law; k_head; (case hw => w_witness2)
  k_fill
  refine L2.walk_of (l := PySem.Challenge.rw_wherewritten_k63_reach) (n := 63) (k := 6) (x := "script") (CX := fun _ => L2.CX0) (sp := fun w => W3.spLaw _) rfl (by decide) rfl ⟨rfl, by decide, by decide⟩ (fun w h Y => PySem.W.kIn_of Y) ?F (fun w H a ns hl hO hS => ⟨a, ns, rfl, hS, hl, fun _ => rfl⟩) (fun _ _ _ _ _ h => h)
  case F =>
    intro w mg fa h KX G hmg
    refine' W3.all_mk KX G hmg ?a1 ?l1 ?c1 ?k1 ?a2 ?l2 ?c2 ?k2 ?a3 ?l3 ?c3 ?k3 ?a4 ?l4 ?c4 ?k4 ?a5 ?l5 ?c5 ?k5 ?gl ?z1 ?z2 ?z3 ?z4 ?z5 ?z6 ?z7 ?z8 ?z9 ?z10 ?z11
    (case a1 => k_is); (case l1 => k_is); (case c1 => k_is); (case k1 => k_is)
    (case a2 => k_is); (case l2 => k_is); (case c2 => k_is); (case k2 => k_is)
    (case a3 => k_is); (case l3 => k_is); (case c3 => k_is); (case k3 => k_is)
    (case a4 => k_is); (case l4 => k_is); (case c4 => k_is); (case k4 => k_is)
    (case a5 => k_is); (case l5 => k_is); (case c5 => k_is); (case k5 => k_is)
    (case gl => k_is)
    (case z1 => k_is); (case z2 => k_is); (case z3 => k_is); (case z4 => k_is); (case z5 => k_is); (case z6 => k_is); (case z7 => k_is); (case z8 => k_is); (case z9 => k_is); (case z10 => k_is); (case z11 => k_is)
