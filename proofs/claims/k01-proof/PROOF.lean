import PyProof.Rows.All
import Wide.All
import OpenK.AllK
import Wide.FinOn
import HandS.ForExc
import HandS.ExcIs
import HandS.ExcCtx
import HandS.ExcInit
import HandS.ExcField
import HandS.ForMost
import HandS.IsInst
import HandS.Wide
import HandS.Lambda
import HandS.EndTab
import HandS.EndOwn
import HandS.RaiseMore
import HandS.Style
import HandS.Gcd
import PySem.Challenge.RW_mixlabels_k01_fractions_in_lowest_terms
set_option Elab.async false
set_option linter.all false
set_option maxRecDepth 100000
set_option maxHeartbeats 4000000
namespace GX
open PySem PySem.W PySem.Spec PySem.Calls PyProof.Rows
section
variable {pg : Program} {wd : World} {ar : Around} {er : Value → Shared → Prop} {st : Shared} {Kf : Frag} {x D : Addr} {ox : Obj}
/-- `__class__` is found as the data descriptor, whatever the object's own dict holds -/
theorem found_class {od : Option Obj} {at' g : Value} (hc : (clsIn Kf D).isSome = true) (ha : findIn Kf (.ref D) "__class__" = some (some at'))
    (hg : specialIn Kf at' "__get__" = some (some g)) (ht : takesIn Kf at' = some true) : findObj Kf D od "__class__" = some (.bind g at') := by
  obtain ⟨cd, hcd⟩ := Option.isSome_iff_exists.mp hc
  unfold findObj
  rw [hcd]
  simp [ha, hg, ht]
/-- the class of an own error, whether or not it has a dict of its own -/
theorem err_class {od : Option Obj} {Q : Option Value → Shared → Prop} (C : L2.ExcC Kf D) (X : Kf.In st.heap) (I : InstAt st.heap x ox D od)
    (h : Q (some (.ref D)) { st with toks := st.toks + 1 }) : wpAny (model pg wd) ar (getAttr? (.ref x) "__class__") Q er st := by
  have hf : findObj Kf D od "__class__" = some (.bind (.builtin "getset_descriptor.__get__") (.builtin "object.__class__")) :=
    found_class (by obtain ⟨cd, hc, _⟩ := any_some C.hd; rw [hc]; rfl) C.ha C.hn C.ht
  obtain ⟨hp, gs, dr, tk, os⟩ := st
  have l0 := I.type (M := model pg wd)
  have l1 := looks_findIn (M := model pg wd) X C.hg
  have l2 := looks_findIn (M := model pg wd) X C.hk
  have l3 := looks_find (M := model pg wd) X I hf
  have lsub : Looks (model pg wd) hp (isInstance (.ref x) (.type "BaseException")) true := l0.andThen (looks_subIn X C.hs)
  have n0 : (false && onTheHeap (Value.builtin "BaseException.__getattribute__")) = false := rfl
  have n2 : (Value.builtin "BaseException.__getattribute__" == Value.builtin "object.__getattribute__") = false := by decide +kernel
  have n1 : (onTheHeap (Value.ref D) && Value.builtin "BaseException.__getattribute__" == Value.builtin "object.__getattribute__") = false := by rw [n2]; rfl
  unfold getAttr? getAttrBy? getAttrBy
  refine wpAny_bind (wpAny_mkText (wpAny_bind (wpAny_attempt (wpAny_holding (wpAny_bind (l0.at (wpAny_bind (l1.at ?_))))))))
  show wpAny _ _ (if (onTheHeap (Value.ref D) && Value.builtin "BaseException.__getattribute__" == Value.builtin "object.__getattribute__") = true then _ else _) _ _ _
  rw [n1, if_neg Bool.false_ne_true]
  unfold getAttrByItsOwn hookBefore
  refine wpAny_bind ?_
  rw [if_pos (show onTheHeap (Value.ref D) = true from rfl)]
  refine l2.at ?_
  refine wpAny_bind (wpAny_attempt (wpAny_holding ?_))
  unfold callGetattribute
  rw [n0, if_neg Bool.false_ne_true]
  unfold boundAndCalled
  rw [PySem.F.excAttr_ValueError.ga.bind (.ref x)]
  refine wpAny_bind (wpAny_pure ?_)
  show wpAny _ _ (call (.builtin "BaseException.__getattribute__") [.ref x, .str "__class__" tk]) _ _ _
  refine wpAny_call (codeAny_call_builtin PySem.F.excAttr_ValueError.ga.plain PySem.F.entry_bexc_ga ?_)
  refine @check_slot (model pg wd) _ _ ⟨hp, gs, dr, tk + 1, os⟩ "BaseException.__getattribute__" "BaseException" "__getattribute__" (.ref x)
    [.str "__class__" tk] [] _ (by decide +kernel) (by decide +kernel) lsub (PySem.F.args_bexc_ga (.ref x) (.str "__class__" tk)) ?_
  unfold Builtin.«object.__getattribute__»
  refine wpAny_bind (wpAny_of_eq (a := ((Value.ref x : Value), [Value.str "__class__" tk])) (by first | rfl | (simp only [slotArgs]; rfl)) ?_)
  refine wpAny_bind (wpAny_pure (wpAny_bind (l0.at (wpAny_bind (l3.at ?_)))))
  show wpAny _ _ (holding [Value.builtin "object.__class__"] (call (.builtin "getset_descriptor.__get__") [.builtin "object.__class__", .ref x, .ref D]) >>= ret) _ _ _
  refine wpAny_bind (wpAny_holding (wpAny_call (class_get (s := ⟨hp, gs, dr, tk + 1, os⟩) (ox := ox) (od := od) X I C.hm ?_)))
  refine wpAny_pure ?_
  show wpAny _ _ (handedOut (.ref D)) _ _ _
  rw [handedOut_of (v := .ref D) rfl]
  first
    | exact wpAny_pure (wpAny_pure h)
    | exact wpAny_pure h
    | exact wpAny_pure (wpAny_bind (wpAny_pure (wpAny_pure h)))
theorem err_kit {od : Option Obj} (C : L2.ExcC Kf D) : KitX Kf (.ref x) (.ref D) (fun h => InstAt h x ox D od) where
  ty := fun _ _ _ I => I.type
  it := fun _ _ X _ => by
    obtain ⟨cdD, hcD, _⟩ := any_some C.hd
    unfold clsIn at hcD
    split at hcD
    · rename_i c' d' cd' sl' ho
      intro A' Q' E' s' k q
      unfold isType loadHead
      exact wpAny_bind (wpAny_loadPart (k _ _ (X _ _ ho)) (wpAny_pure q))
    · cases hcD
  ne := fun h tp dd its n sl X htp => by
    obtain ⟨cdD, hcD, _⟩ := any_some C.hd
    refine Bool.eq_false_iff.mpr fun q => ?_
    have e : D = tp := Value.ref.inj (beq_iff_eq.mp q)
    subst e
    unfold clsIn at hcD
    split at hcD
    · rename_i c' d' cd' sl' ho
      have z := (X _ _ ho).symm.trans htp
      cases z
    · cases hcD
  ca := fun X I k => err_class C X I k
end
end GX
namespace L2
open PySem PySem.Spec PyProof.Rows
/-- the dict that an error may have is tracked -/
def ErrD (H : Hp) : Option Addr → Prop
  | none => True
  | some d => ∃ fs, H d = some (.xd fs)
/-- isinstance(e, c), e a pinned error with the class at D -/
def rIsP (K : PySem.W.Frag) (a : Addr) (cls : Value) (d : Option Addr) : List V → Hp → VK → Prop := fun xs H Q =>
  ∃ (D : Addr) (c : V) (cv : Value) (b : Bool), cls = .ref D ∧ ExcC K D ∧ ErrD H d ∧ xs = [.ref a, c] ∧ (∀ u, RelV c u → u = cv) ∧ PySem.W.kitOne K (.ref D) cv = some b ∧ Q (.bl b) H
theorem call_isP {X : Cx} {a : Addr} {oe : Obj} {cls : Value} {d : Option Addr} (hz : Zc cls d oe) (hf : ∃ vs, oe.data = .fields vs) (hm : (a, oe) ∈ X.pn) : CallR X (.builtin "isinstance") (rIsP X.K a cls d) := by
  intro pins s σ H xs us Q I r h
  obtain ⟨D, c, cv, b, rfl, C, hd, rfl, hcv, e, q⟩ := h
  cases r with
  | cons rx rr =>
    cases rr with
    | cons rt rr =>
      cases rr
      cases rx
      have ec := hcv _ rt
      subst ec
      obtain ⟨hget, _⟩ := I.pin (a, oe) (List.mem_append.mpr (.inl hm))
      obtain ⟨vs, hv⟩ := hf
      have J : ∃ od, PySem.W.InstAt s.heap a oe D od := by
        cases d with
        | none => exact ⟨none, hget, hz.1, by unfold PySem.W.notCls; rw [hv] <;> rfl, by rw [hz.2]; trivial⟩
        | some dd =>
          obtain ⟨fs, ef⟩ := hd
          obtain ⟨mA, hns, _⟩ : ObjOk X.prog X.w H s.heap dd (.xd fs) := I.hok dd _ ef
          obtain ⟨od, ho, _⟩ := lookIn_ns hns
          exact ⟨some od, hget, hz.1, by unfold PySem.W.notCls; rw [hv] <;> rfl, by rw [hz.2]; exact ho⟩
      obtain ⟨od, J⟩ := J
      exact PySem.W.kia_one (GX.err_kit C) I.kIn J e (fun z => nomatch z) fun tk => ⟨.bl b, H, I.kept (t' := tk) fun _ _ z => z, rfl, q⟩
end L2
namespace L2
open PySem PySem.Spec PyProof.Rows
/-- repr(v): v is data of the kind d, small enough to be shown -/
structure ShowOk (d : PyData) : Prop where
  sh : d.showable = true
  nd : d.hasDict = false
  dp : d.depth ≤ 40
  sz : d.shown.length ≤ sizeLine
def rShow (K : PySem.W.Frag) : List V → Hp → VK → Prop := fun xs H Q => ∃ (v : V) (d : PyData), xs = [v] ∧ Dp K H v d ∧ ShowOk d ∧ Q (.str d.shown) H
theorem call_show {X : Cx} (hg : X.A.guards = some []) (hu : X.A.units + 64 < cLine) : CallR X (.builtin "repr") (rShow X.K) := by
  intro pins s σ H xs us Q I r h
  obtain ⟨v, d, rfl, hd, ok, q⟩ := h
  cases r with
  | cons rv rr =>
    cases rr
    rename_i u
    have fin : ∀ (h' : Heap) (tk : Tok) (t' : Nat), (∀ b o, s.heap.get? b = some o → h'.get? b = some o) → EP X pins σ Q (.str d.shown tk) { s with heap := h', toks := t' } :=
      fun h' tk t' k => ⟨.str d.shown, H, I.kept (t' := t') k, ⟨_, rfl⟩, q⟩
    cases hd with
    | non =>
      cases rv
      exact PySem.P.repr_of_none (fin s.heap _ _ fun _ _ e => e)
    | bl b =>
      cases rv
      have e : (PyData.bool b).shown = (if b = true then Str.ofString "True" else Str.ofString "False") := by cases b <;> simp [PyData.shown]
      rw [e] at fin
      exact PySem.P.repr_of_bool (fin s.heap _ _ fun _ _ e => e)
    | int i =>
      obtain ⟨t, rfl⟩ := rv
      have e : (PyData.int i).shown = Str.ofString (toString i) := by simp [PyData.shown]
      have hl : i.natAbs.log2 < 1920 := by simpa [PyData.showable] using ok.sh
      rw [e] at fin
      exact PySem.P.repr_of_int hl (fin s.heap _ _ fun _ _ e => e)
    | str x =>
      obtain ⟨t, rfl⟩ := rv
      exact PySem.P.repr_of_str (fin s.heap _ _ fun _ _ e => e) ok.sz
    | lst hs ha =>
      obtain ⟨as, hr⟩ := Dp.reads I _ _ _ (.lst hs ha) rv
      cases rv
      exact repr_of_reads' hr ok.sh (fun z => by rw [ok.nd] at z; cases z) hg (by have := ok.dp; omega) (fun _ _ e => e) (fun h' u tk k => fin h' u tk k) ok.sz
    | tup hs ha =>
      obtain ⟨as, hr⟩ := Dp.reads I _ _ _ (.tup hs ha) rv
      cases rv
      exact repr_of_reads' hr ok.sh (fun z => by rw [ok.nd] at z; cases z) hg (by have := ok.dp; omega) (fun _ _ e => e) (fun h' u tk k => fin h' u tk k) ok.sz
end L2
/-! Data as values: kinds, what stays, division by any divisor. -/
namespace L2
open PySem PySem.Spec PyProof.Rows
theorem sqT_same {K : PySem.W.Frag} {H H' : Hp} {a : Addr} {xs : List V} (s : Same H H') (h : SqT K H a xs) : SqT K H' a xs := by
  rcases h with (h | ⟨o, h⟩) | h
  · exact .inl (.inl (s _ _ h))
  · exact .inl (.inr ⟨o, s _ _ h⟩)
  · exact .inr h
mutual
theorem dp_same {K : PySem.W.Frag} {H H' : Hp} (s : Same H H') : ∀ (d : PyData) (v : V), Dp K H v d → Dp K H' v d
  | .none, _, h => by cases h; exact .non
  | .bool b, _, h => by cases h; exact .bl b
  | .int i, _, h => by cases h; exact .int i
  | .str x, _, h => by cases h; exact .str x
  | .list ds, _, h => by
    cases h with
    | lst hs ha => exact .lst (s.seq hs) (dpAll_same s ds _ ha)
  | .tuple ds, _, h => by
    cases h with
    | tup hs ha => exact .tup (sqT_same s hs) (dpAll_same s ds _ ha)
  | .dict kvs, _, h => by cases h
theorem dpAll_same {K : PySem.W.Frag} {H H' : Hp} (s : Same H H') : ∀ (ds : List PyData) (vs : List V), DpAll K H vs ds → DpAll K H' vs ds
  | [], _, h => by cases h; exact .nil
  | d :: ds, _, h => by
    cases h with
    | cons h1 h2 => exact .cons (dp_same s d _ h1) (dpAll_same s ds _ h2)
end
/-- the built-in class of a datum -/
def kindOf : PyData → String
  | .none => "NoneType"
  | .bool _ => "bool"
  | .int _ => "int"
  | .str _ => "str"
  | .list _ => "list"
  | .tuple _ => "tuple"
  | .dict _ => "dict"
theorem dp_kind {K : PySem.W.Frag} {H : Hp} {v : V} {d : PyData} (h : Dp K H v d) : TyX K H v (.type (kindOf d)) := by
  cases h with
  | non => exact .base .non
  | bl b => exact .base (.bl b)
  | int i => exact .base (.int i)
  | str x => exact .base (.str x)
  | lst hs _ =>
    rcases hs with (hs | ⟨o, hs⟩) | ⟨o, _, _, e, c, _⟩
    · exact .base (.lst hs)
    · exact .base (.frz hs)
    · exact .kList e c
  | tup hs _ =>
    rcases hs with (hs | ⟨o, hs⟩) | ⟨o, _, _, e, c, _⟩
    · exact .base (.tup hs)
    · exact .fTuple hs
    · exact .kTuple e c
/-- isinstance(x, T) of a datum -/
def rIsD (K : PySem.W.Frag) (T : String) : List V → Hp → VK → Prop := fun xs H Q => ∃ (v : V) (d : PyData), xs = [v, .ty T] ∧ Dp K H v d ∧ Q (.bl (kindOf d == T || (T == "int" && kindOf d == "bool"))) H
theorem call_isD {X : Cx} {T : String} (hT : T = "int" ∨ T = "bool" ∨ T = "tuple" ∨ T = "str" ∨ T = "list") : CallR X (.builtin "isinstance") (rIsD X.K T) := by
  intro pins s σ H xs us Q I r h
  obtain ⟨v, d, rfl, hd, q⟩ := h
  refine call_isi pins s σ H _ us Q I r ⟨v, .ty T, _, _, _, rfl, .ty T, dp_kind hd, kit_ty ?_, q⟩
  rcases hT with rfl | rfl | rfl | rfl | rfl <;> cases d <;> simp only [kindOf] <;> decide +kernel
/-- // by any divisor but nought, of any moderate size -/
def CDivA (_ j : Int) : Prop := j ≠ 0 ∧ j.natAbs.log2 < 9000
theorem op_fdivA {X : Cx} : OpR X (binaryOp .FloorDiv) (rI CDivA fun i j => .int (i.fdiv j)) := opI fun _ _ _ _ _ _ _ hc q => floordiv_int hc.1 q (.inl (PyProof.noPylong_of_log2 hc.2))
theorem log_lt {n : Nat} {b : Nat} (h : n < 2 ^ b) (hb : 0 < b) : n.log2 < b := by
  by_cases z : n = 0
  · rw [z]; simpa using hb
  · exact (Nat.log2_lt z).mpr h
end L2
/-! Promises of defs that may lean on: nothing is being shown around them (no list or tuple's repr is under way). -/
namespace L2
open PySem PySem.Spec PyProof.Rows
/-- as FnOk, told only of surroundings in which nothing is being shown -/
structure FnG (Pg : Program) (wd : World) (Kf : PySem.W.Frag) (gl : Str → Option Value) (ground : Heap) (XX : CXT) (lev : Nat) (at' : Addr) (fdat : FuncData) (params : List Str) (prom : Sp) : Prop where
  len : ∀ vs H Q E, prom vs H Q E → vs.length = params.length
  run : ∀ (ar : Around) (fr : List Env) (st : Shared) (H : Hp) (given : Args) (us : List Value) (vs : List V) (Q : VK) (E : XK), ar.guards = some [] → Room lev ar → Env0 Pg wd Kf gl ground ar fr st H →
    BindsTo st fdat given (params.zip us) → Vals vs us → prom vs H Q E → codeAny (model Pg wd) ar (.call (.ref at') given) (CR XX fr Pg wd H st Q E) st
theorem FnOk.g {Pg : Program} {wd : World} {Kf : PySem.W.Frag} {gl : Str → Option Value} {ground : Heap} {XX : CXT} {lev : Nat} {at' : Addr} {fdat : FuncData} {params : List Str} {prom : Sp}
    (F : FnOk Pg wd Kf gl ground XX lev at' fdat params prom) : FnG Pg wd Kf gl ground XX lev at' fdat params prom :=
  ⟨F.len, fun ar fr st H given us vs Q E _ => F.run ar fr st H given us vs Q E⟩
theorem FnG.mono {Pg : Program} {wd : World} {Kf : PySem.W.Frag} {gl : Str → Option Value} {ground : Heap} {XX : CXT} {j lev : Nat} {at' : Addr} {fdat : FuncData} {params : List Str} {prom : Sp}
    (F : FnG Pg wd Kf gl ground XX j at' fdat params prom) (h : j ≤ lev) : FnG Pg wd Kf gl ground XX lev at' fdat params prom :=
  ⟨F.len, fun ar fr st H given us vs Q E hg hr => F.run ar fr st H given us vs Q E hg (hr.mono h)⟩
theorem guards_deeper {ar : Around} {env : Env} (h : ar.guards = some []) : (ar.deeper env).guards = some [] := h
/-- a def's promise by its body -/
theorem fnG_of {XX : CXT} {Pg : Program} {wd : World} {Kf : PySem.W.Frag} {gl : Str → Option Value} {ground : Heap} {lev : Nat} {at' : Addr} {nm qn : Str} {pars : Arguments} {bd : List Stmt} {sco : Scope} {v1 v2 v3 v4 cv v5 v6 : Value} {o1 o2 : Option Addr}
    {sl : Array (Option Value)} {N params : List Str} {prom : Sp} (look : Kf.lookup at' = some ⟨v6, o2, .func (PySem.W.fnOf nm qn pars bd sco v1 v2 v3 v4 o1 cv v5), sl⟩) (hcd : PySem.W.codeIn Kf cv qn = true) (S : FnScope N params sco)
    (len : ∀ vs H Q E, prom vs H Q E → vs.length = params.length)
    (body : ∀ (ar : Around) (fr : List Env) (st : Shared) (H : Hp) (vs : List V) (Q : VK) (E : XK), ar.guards = some [] → Room lev (ar.deeper (envOfC qn sco st.heap.objs.size at' cv)) → prom vs H Q E →
      ∃ t, PSs (cxOf XX Pg wd Kf gl ground N qn sco at' cv ar fr st H E) bd t ∧ t { nx := fun _ H' => Q .non H', rt := Q } (start N vs) H) :
    FnG Pg wd Kf gl ground XX (lev + 1) at' (PySem.W.fnOf nm qn pars bd sco v1 v2 v3 v4 o1 cv v5) params prom := by
  exact ⟨len, fun ar fr st H given us vs Q E hg hr e0 hb r hsp => LamX.run_ofS look hcd S hr e0 hb r (len _ _ _ _ hsp) fun hr' => body ar fr st H vs Q E hg hr' hsp⟩
theorem Fun.okG {nm qn : Str} {sm : Stmt} {at' : Addr} {fdat : FuncData} {N params : List Str} {lev : Nat} {prom : Sp} {Pg : Program} {wd : World} {Kf : PySem.W.Frag} {gl : Str → Option Value} {ground : Heap}
    (F : Fun Kf nm qn sm at' fdat) (S : FnScope N params (defScope sm)) (len : ∀ vs H Q E, prom vs H Q E → vs.length = params.length)
    (body : ∀ (cv : Value) (ar : Around) (fr : List Env) (st : Shared) (H : Hp) (vs : List V) (Q : VK) (E : XK), ar.guards = some [] → Room lev (ar.deeper (envOfC qn (defScope sm) st.heap.objs.size at' cv)) → prom vs H Q E →
      ∃ t, PSs (cxOf CX0 Pg wd Kf gl ground N qn (defScope sm) at' cv ar fr st H E).nox (defBody sm) t ∧ t { nx := fun _ H' => Q .non H', rt := Q } (start N vs) H) :
    FnG Pg wd Kf gl ground CX0 (lev + 1) at' fdat params prom := by
  obtain ⟨_, _, _, _, _, _, cv, _, _, rfl, look, hcd⟩ := F.ex
  refine fnG_of look hcd S len fun ar fr st H vs Q E hg hr hsp => ?_
  obtain ⟨t, h, q⟩ := body cv ar fr st H vs Q E hg hr hsp
  exact ⟨t, h.nox, q⟩
section
variable {X : Cx} {XX : CXT} {lev : Nat} {at' : Addr} {fdat : FuncData} {params : List Str} {prom : Sp} {dvs : List V} {ds : List Value} {E : XK} {nm : Str} {p pos : Pos} {e : Expr} {es : List Expr} {t : TA}
theorem run_fnG {pins : List (Addr × Obj)} {σ : St} {H : Hp} {s : Shared} {Q : VK} {us : List Value} {vs : List V} (F : FnG X.prog X.w X.K X.mg X.base XX lev at' fdat params prom) (hg : X.A.guards = some []) (hr : Room lev X.A) (hb : Binds X.K fdat params ds)
    (hd : Vals dvs ds) (hx : Passes XX X E) (I : Inv X pins σ H s) (r : Vals vs us) (h : prom (vs ++ dvs) H Q E) : wpAny (model X.prog X.w) X.A (call (.ref at') us) (EP X pins σ Q) X.xe s := by
  have both : Vals (vs ++ dvs) (us ++ ds) := r.append hd
  have many : (us ++ ds).length = params.length := both.length.symm.trans (F.len _ _ _ _ h)
  refine wpAny_call (codeAny_mono (F.run X.A X.stack s H ⟨us, []⟩ _ _ Q E hg hr I.env0 (hb s us I.kIn many) both h) fun res s' out => ?_)
  match res, out with
  | .error err, out => exact hx pins σ H s err s' I out
  | .ok (.ret _), out => exact I.after out
  | .ok .next, out => exact out.elim
  | .ok .brk, out => exact out.elim
  | .ok .cont, out => exact out.elim
theorem pe_callG (F : FnG X.prog X.w X.K X.mg X.base XX lev at' fdat params prom) (hg : X.A.guards = some []) (hr : Room lev X.A) (hgl : Gl X nm) (hm : X.mg nm = some (.ref at')) (hk : PySem.W.keepIn X.K (.ref at') = true) (hb : Binds X.K fdat params ds) (hd : Vals dvs ds)
    (hx : Passes XX X E) (ha : PA X (e :: es) t) (hdb : (nm == ("__debug__" : Str)) = false := by decide) (he : starEach (e :: es) X.env = (false, eval e X.env) :: starEach es X.env := by rfl)
    (hpl : (backTo pos (starEach es X.env)).any (·.1) = false := by rfl) : PE X (.Call (.Name nm p) (e :: es) [] pos) (tCall prom dvs E t) :=
  ⟨fun pins s σ H Q I h => wpAny_Call_Name_kw (ld_glob I hgl hm (PySem.W.callWith_K (h₀ := X.base) I.ok.mod.kin hk
    (thn (ha.run pos pins s σ H _ I h) fun us s1 ⟨vs, H1, I1, r, q⟩ => ⟨I1.kIn, run_fnG F hg hr hb hd hx I1 r q⟩) he hpl) hdb)⟩
end
end L2
/-! The end of a law's row: the law's promise FnG, met by the caller in whose surroundings nothing is being shown. -/
namespace L2
open PySem PySem.Spec PyProof.Rows LamX
/-- what the caller tracks ahead of the law: the tables of code objects, and perhaps the script, locked -/
structure Ahead (tabs : List (Addr × Addr)) (Kf : PySem.W.Frag) (scr : Addr) (ns : List Int) (H : Hp) (h : Heap) : Prop where
  tab : ∀ p ∈ tabs, H p.2 = some (.tbl #[])
  only : ∀ b, H b = none ∨ b ∈ tabs.map (·.2) ∨ ∃ o xs, H b = some (.frz o (.lst xs))
  seq : SqL Kf H scr (ns.map V.int)
  dom : ∀ b, H b ≠ none → b = scr ∨ b ∈ tabs.map (·.2)
  loose : H scr ≠ none → Kf.lookup scr = none
section
variable {Pg : Program} {wd : World} {Kf : PySem.W.Frag} {gl bl : Str → Option Value} {lev : Nat} {at' scr : Addr} {tabs : List (Addr × Addr)} {fdat : FuncData} {nm : Str} {prom : Sp} {st : Shared} {vs : List Value} {ns : List Int} {XX : CXT}
theorem ahead_go {H : Hp} (KX : Kf.In st.heap) (gns : st.heap.Ns mainGlobals gl) (bns : st.heap.Ns builtinsNs bl) (bbo : ∀ x : Str, x ≠ "__name__" → bl x = bootBuiltins x) (nol : st.heap.NoLimit) (gens : st.gens = #[])
    (tT : ∀ p ∈ tabs, st.heap.get? p.2 = some { cls := .none, data := .fields #[] }) (nT : ∀ p ∈ tabs, Kf.lookup p.2 = none) (cT : ∀ p ∈ tabs, PySem.W.CodeHd st.heap p.1 p.2)
    (bmain : ∃ (bm : Addr) (ob : Obj), gl "__builtins__" = some (.ref bm) ∧ bm ≠ builtinsNs ∧ st.heap.get? bm = some ob ∧ ob.cls = .type "module" ∧ ob.dict = some builtinsNs ∧ ob.data = .plain)
    (scrO : st.heap.get? scr = some { cls := .type "list", data := .seq vs.toArray }) (rm : Room lev callerA) (W : Ahead tabs Kf scr ns H st.heap) (hok : HOk Pg wd H st.heap)
    (F : ∀ ground : Heap, Kf.In ground → ground.Ns mainGlobals gl → (∀ p ∈ tabs, TabB ground gl p.1 p.2) → FnG Pg wd Kf gl ground XX lev at' fdat [nm] prom) (bnd : ∀ (s : Shared) (u : Value), BindsTo s fdat ⟨[u], []⟩ [(nm, u)])
    (said : prom [.ref scr] H (fun v _ => v = .bl true) fun _ _ _ => False) (noX : ∀ e s', XX [] H st (fun _ _ _ => False) e s' → False) :
    codeAny (model Pg wd) callerA (.call (.ref at') ⟨[.ref scr], []⟩) (fun r s' => r = .ok (.ret (.bool true)) ∧ OldK st.heap s'.heap ∧ s'.os = st.os ∧ AllBare s'.gens) st := by
  have tabAt : ∀ b, b ∈ tabs.map (·.2) → st.heap.get? b = some { cls := .none, data := .fields #[] } := fun b hb => by
    obtain ⟨p, hp, rfl⟩ := List.mem_map.mp hb
    exact tT p hp
  -- what is neither a list nor an empty table is not tracked
  have plain : ∀ {b : Addr} {o : Obj}, st.heap.get? b = some o → (∀ ys n, o.data ≠ .seq ys n) → o.data ≠ .fields #[] → H b = none := fun {b o} e h1 h2 => by
    apply Classical.byContradiction
    intro hb
    rcases W.dom b hb with z | z
    · subst z
      rw [scrO] at e
      obtain rfl := Option.some.inj e
      exact h1 _ _ rfl
    · rw [tabAt b z] at e
      obtain rfl := Option.some.inj e
      exact h2 rfl
  have dicts : ∀ {b : Addr} {o : Obj} {es : Array DictEntry} {n : Nat}, st.heap.get? b = some o → o.data = .dict es n → H b = none := fun {b o es n} e d =>
    plain e (fun ys m z => by rw [d] at z; cases z) fun z => by rw [d] at z; cases z
  have keepNs : ∀ {b : Addr} {m : Str → Option Value}, st.heap.Ns b m → (hidT st.heap H).Ns b m := fun {b m} ⟨o, es, n, e, d, r⟩ => ⟨o, es, n, hidT_get e (dicts e d), d, r⟩
  have KG : Kf.In (hidT st.heap H) := fun b o e => hidT_get (KX b o e) (by
    apply Classical.byContradiction
    intro hb
    rcases W.dom b hb with z | z
    · subst z
      rw [W.loose hb] at e
      cases e
    · obtain ⟨p, hp, rfl⟩ := List.mem_map.mp z
      rw [nT p hp] at e
      cases e)
  have MG : L2.Mod Kf gl (hidT st.heap H) := by
    obtain ⟨mc, n1, n2⟩ := nol
    exact ⟨KG, keepNs gns, ⟨bl, keepNs bns, bbo⟩, ⟨mc, keepNs n1, n2⟩⟩
  have TB : ∀ p ∈ tabs, TabB (hidT st.heap H) gl p.1 p.2 := fun p hp => by
    have notG : mainGlobals ≠ p.2 := fun z => by
      obtain ⟨o, es, n, e, d, _⟩ := gns
      rw [z, tT p hp] at e
      obtain rfl := Option.some.inj e
      cases d
    refine ⟨?_, ?_, notG⟩
    · obtain ⟨o, us, f1, f2, f3, f4, f5, f6, f7, e1, r1, r2, r3, r4, r5, r6, r7, r8, r9⟩ := cT p hp
      refine ⟨o, us, f1, f2, f3, f4, f5, f6, f7, hidT_get e1 (plain e1 (fun ys n z => ?_) fun z => ?_), r1, r2, r3, r4, r5, r6, r7, r8, r9⟩
      · rw [r2] at z; cases z
      · rw [r2] at z
        cases z
        simp at r3
    · obtain ⟨bm, ob, b1, b2, b3, b4, b5, b6⟩ := bmain
      refine ⟨bm, ob, b1, b2, fun q => ?_, fun q => ?_, hidT_get b3 (plain b3 (fun ys n z => ?_) fun z => ?_), b4, b5, b6⟩
      · obtain ⟨o, es, n, e, d, _⟩ := gns
        rw [q, e] at b3
        obtain rfl := Option.some.inj b3
        rw [d] at b6; cases b6
      · rw [q, tT p hp] at b3
        obtain rfl := Option.some.inj b3
        cases b6
      · rw [b6] at z; cases z
      · rw [b6] at z; cases z
  have e0 : Env0 Pg wd Kf gl (hidT st.heap H) callerA [] st H :=
    ⟨rfl, MG, fun b o e => of_hidT e, Nat.le_of_eq (hidT_size _ _), trivial, fun b hb => absurd (show b ∈ ([] : List Addr) from hb) (by simp), hok, .of_eq gens⟩
  refine codeAny_mono ((F _ KG (keepNs gns) TB).run callerA [] st H ⟨[.ref scr], []⟩ [.ref scr] [.ref scr] _ _ rfl rm e0 (bnd st (.ref scr)) (.cons rfl .nil) said) fun res s' out => ?_
  match res, out with
  | .error err, out => exact (noX err s' out).elim
  | .ok .next, out => exact out.elim
  | .ok .brk, out => exact out.elim
  | .ok .cont, out => exact out.elim
  | .ok (.ret u), out =>
    obtain ⟨v, H', os, bare, un, hok', rv, q⟩ := out
    obtain rfl : v = .bl true := q
    obtain rfl : u = Value.bool true := rv
    have old : ∀ b o, b ∉ tabs.map (·.2) → st.heap.get? b = some o → s'.heap.get? b = some o := fun b o nb e => by
      rcases W.only b with z | z | ⟨ob, xs, z⟩
      · exact un.keep b o e z (fun y => absurd (show b ∈ ([] : List Addr) from y) (by simp)) (by simp)
      · exact absurd z nb
      · obtain ⟨e1, _⟩ := hok b _ z
        obtain ⟨e2, _⟩ := hok' b _ (un.frzs b ob _ z)
        rw [e] at e1
        rw [Option.some.inj e1]
        exact e2
    have grown : ∀ p ∈ tabs, ∃ more : Array Value, s'.heap.get? p.2 = some { cls := .none, data := .fields more } := fun p hp => by
      obtain ⟨more, z⟩ := un.tbls p.2 #[] (W.tab p hp)
      exact ⟨_, hok' p.2 _ z⟩
    refine ⟨rfl, ⟨fun b o e => ?_, fun b o e => ?_⟩, os, bare⟩
    · by_cases hb : b ∈ tabs.map (·.2)
      · obtain ⟨p, hp, rfl⟩ := List.mem_map.mp hb
        obtain ⟨more, hm⟩ := grown p hp
        rw [tT p hp] at e
        obtain rfl := Option.some.inj e
        exact .inr (.inl ⟨((cT p hp).tab (tT p hp)).isCodeTable, rfl, #[], more, rfl, by rw [Array.empty_append]; exact hm⟩)
      · exact .inl (old b o hb e)
    · by_cases hb : b ∈ tabs.map (·.2)
      · obtain ⟨p, hp, rfl⟩ := List.mem_map.mp hb
        obtain ⟨more, hm⟩ := grown p hp
        exact ⟨_, hm⟩
      · exact ⟨o, old b o hb e⟩
/-- what the caller tracks: there is such an abstract heap -/
theorem ahead_any {Pg : Program} {wd : World} (KX : Kf.In st.heap) (tT : ∀ p ∈ tabs, st.heap.get? p.2 = some { cls := .none, data := .fields #[] })
    (scrO : st.heap.get? scr = some { cls := .type "list", data := .seq vs.toArray }) (hi : IntsAre vs ns) (hl : ns.length ≤ sizeLine) : ∃ H : Hp, Ahead tabs Kf scr ns H st.heap ∧ HOk Pg wd H st.heap := by
  have tabAt : ∀ b, b ∈ tabs.map (·.2) → st.heap.get? b = some { cls := .none, data := .fields #[] } := fun b hb => by
    obtain ⟨p, hp, rfl⟩ := List.mem_map.mp hb
    exact tT p hp
  have notT : scr ∉ tabs.map (·.2) := fun z => by
    have e := tabAt scr z
    rw [scrO] at e
    cases congrArg Obj.data (Option.some.inj e)
  have mem : ∀ p ∈ tabs, p.2 ∈ tabs.map (·.2) := fun p hp => List.mem_map.mpr ⟨p, hp, rfl⟩
  have rv := vals_ints hi
  cases hk : Kf.lookup scr with
  | some o =>
    have e := KX scr o hk
    rw [scrO] at e
    obtain rfl := Option.some.inj e
    refine ⟨fun b => if b ∈ tabs.map (·.2) then some (.tbl #[]) else none, ⟨fun p hp => if_pos (mem p hp), fun b => ?_, .inr ⟨_, vs.toArray, _, hk, rfl, rfl, rfl, by rw [List.size_toArray, hi.length]; exact hl, by simpa using rv⟩, fun b z => ?_, fun z => absurd (if_neg notT) z⟩, fun b u z => ?_⟩
    · by_cases hb : b ∈ tabs.map (·.2)
      · exact .inr (.inl hb)
      · exact .inl (if_neg hb)
    · by_cases hb : b ∈ tabs.map (·.2)
      · exact .inr hb
      · exact absurd (if_neg hb) z
    · by_cases hb : b ∈ tabs.map (·.2)
      · obtain rfl := Option.some.inj ((if_pos hb).symm.trans z)
        exact tabAt b hb
      · cases (if_neg hb).symm.trans z
  | none =>
    refine ⟨fun b => if b = scr then some (.frz { cls := .type "list", data := .seq vs.toArray } (.lst (ns.map V.int))) else if b ∈ tabs.map (·.2) then some (.tbl #[]) else none,
      ⟨fun p hp => (if_neg (show ¬ p.2 = scr from fun z => notT (z ▸ mem p hp))).trans (if_pos (mem p hp)), fun b => ?_, .inl (.inr ⟨{ cls := .type "list", data := .seq vs.toArray }, if_pos rfl⟩), fun b z => ?_, fun _ => hk⟩, fun b u z => ?_⟩
    · by_cases h1 : b = scr
      · exact .inr (.inr ⟨_, _, if_pos h1⟩)
      · by_cases h2 : b ∈ tabs.map (·.2)
        · exact .inr (.inl h2)
        · exact .inl ((if_neg h1).trans (if_neg h2))
    · by_cases h1 : b = scr
      · exact .inl h1
      · by_cases h2 : b ∈ tabs.map (·.2)
        · exact .inr h2
        · exact absurd ((if_neg h1).trans (if_neg h2)) z
    · by_cases h1 : b = scr
      · obtain rfl := Option.some.inj ((if_pos h1).symm.trans z)
        subst h1
        exact ⟨scrO, by rw [List.length_map]; exact hl, vs, _, rv, scrO⟩
      · have z2 := (if_neg h1).symm.trans z
        by_cases h2 : b ∈ tabs.map (·.2)
        · obtain rfl := Option.some.inj ((if_pos h2).symm.trans z2)
          exact tabAt b h2
        · cases (if_neg h2).symm.trans z2
end
/-- what must be known of the law's promise at the head's heap h -/
def LawAtG (l : PySem.W.OpenLaw) (wd : World) (Kf : PySem.W.Frag) (XX : CXT) (lev n : Nat) (nm : Str) (gl : Str → Option Value) (at' : Addr) (h : Heap) : Prop :=
  ∃ (fdat : FuncData) (tabs : List (Addr × Addr)) (prom : Sp), (∀ p ∈ tabs, h.get? p.2 = some { cls := .none, data := .fields #[] }) ∧ (∀ p ∈ tabs, Kf.lookup p.2 = none) ∧ (∀ p ∈ tabs, PySem.W.CodeHd h p.1 p.2) ∧
    (∀ (s : Shared) (u : Value), BindsTo s fdat ⟨[u], []⟩ [(nm, u)]) ∧
    (∀ (H : Hp) (scr : Addr) (ns : List Int), ns.length ≤ n → (∀ z ∈ ns, Builtin.Int.intBits z ≤ 1048576) → (∀ p ∈ tabs, H p.2 = some (.tbl #[])) → SqL Kf H scr (ns.map V.int) → prom [.ref scr] H (fun v _ => v = .bl true) fun _ _ _ => False) ∧
    ∀ ground : Heap, Kf.In ground → ground.Ns mainGlobals gl → (∀ p ∈ tabs, TabB ground gl p.1 p.2) → FnG l.prog wd Kf gl ground XX lev at' fdat [nm] prom
theorem walk_ofG {l : PySem.W.OpenLaw} {n lev : Nat} {q : Program} {loose : List Str} {XP : (Str → Option Value) → Heap → Prop} {YP : World → Heap → Prop} {d : DefRec} {Kf : Params → PySem.W.Frag} {XX : World → CXT} {nm : Str}
    (hn : l.most = some n) (hn2 : n ≤ sizeLine) (hdf : d.params.defaults = []) (rm : Room lev callerA) (hY : ∀ (w : World) (h : Heap), YP w h → (Kf w.params).In h)
    (F : ∀ (w : World) (gl : Str → Option Value) (at' : Addr) (h : Heap), YP w h → (Kf w.params).In h → h.Ns mainGlobals gl → gl d.name = some (.ref at') → LawAtG l w (Kf w.params) (XX w) lev n nm gl at' h)
    (noX : ∀ (w : World) (H : Hp) (s : Shared) (e : Value) (s' : Shared), XX w [] H s (fun _ _ _ => False) e s' → False) :
    PySem.W.WalkO q loose XP YP l.row.toRowW d [] (fun f vs => PySem.call f vs) := by
  refine Att.attach_callB hn hdf fun w s₀ s₁ mg mb fa o pm cd doc a vs ns G Y ho hd hcd hmg hobj hints hlen hbits hg => ?_
  have KX := hY w _ Y
  obtain ⟨fdat, tabs, prom, tT, nT, cT, bnd, said, F1⟩ := F w mg fa _ Y KX G.T.g hmg
  obtain ⟨H, W, hok⟩ := ahead_any (Pg := l.prog) (wd := w) (ns := ns) KX tT hobj hints (Nat.le_trans hlen hn2)
  exact ahead_go KX G.T.g G.T.b G.T.builtins G.T.nolimit hg tT nT cT G.T.bmain hobj rm W hok F1 bnd (said H a ns hlen hbits W.tab W.seq) fun e s' => noX w H s₁ e s'
end L2
/-! The end of a law that makes lambdas: its own table of code objects is known. And what the top has written of an own error class. -/
namespace L2
open PySem PySem.Spec PyProof.Rows LamX
/-- the def at fa has the code object c with the table P, which is empty -/
def OwnTab2 (K : PySem.W.Frag) (fa : Addr) (h : Heap) : Prop := ∀ (c P : Addr) (o : Obj) (fd : FuncData) (e : Value) (dd : Option Addr) (vs : Array Value) (sl : Array (Option Value)), K.lookup fa = some o → o.data = .func fd → fd.code = .ref c → K.lookup c = some ⟨e, dd, .fields vs, sl⟩ → vs[11]? = some (.ref P) →
  PySem.W.CodeHd h c P ∧ h.get? P = some { cls := .none, data := .fields #[] }
theorem walk_ofGT {l : PySem.W.OpenLaw} {n lev : Nat} {q : Program} {loose : List Str} {XP : (Str → Option Value) → Heap → Prop} {YP : World → Heap → Prop} {d : DefRec} {Kf : Params → PySem.W.Frag} {XX : World → CXT} {nm : Str}
    (hn : l.most = some n) (hn2 : n ≤ sizeLine) (hdf : d.params.defaults = []) (rm : Room lev callerA) (hrec : ((recsOf q).any fun e => e.name == d.name) = true) (hY : ∀ (w : World) (h : Heap), YP w h → (Kf w.params).In h)
    (F : ∀ (w : World) (gl : Str → Option Value) (at' : Addr) (h : Heap), YP w h → (Kf w.params).In h → h.Ns mainGlobals gl → gl d.name = some (.ref at') → OwnTab2 (Kf w.params) at' h → LawAtG l w (Kf w.params) (XX w) lev n nm gl at' h)
    (noX : ∀ (w : World) (H : Hp) (s : Shared) (e : Value) (s' : Shared), XX w [] H s (fun _ _ _ => False) e s' → False) :
    PySem.W.WalkO q loose XP YP l.row.toRowW d [] (fun f vs => PySem.call f vs) := by
  refine Att.attach_callB hn hdf fun w s₀ s₁ mg mb fa o pm cd doc a vs ns G Y ho hd hcd hmg hobj hints hlen hbits hg => ?_
  have KX := hY w _ Y
  have own : OwnTab2 (Kf w.params) fa s₁.heap := fun c P o1 fd1 e dd vs1 sl k1 k2 k3 k4 k5 => by
    obtain ⟨dL, inR, same⟩ := List.any_eq_true.mp hrec
    obtain ⟨a', o', fd', c', P', h1, h2, h3, h4, h5, h6⟩ := G.T.tab dL inR
    rw [beq_iff_eq.mp same, hmg] at h1
    obtain rfl := Value.ref.inj (Option.some.inj h1)
    obtain rfl := Option.some.inj ((KX _ _ k1).symm.trans h2)
    obtain rfl := Data.func.inj (k2.symm.trans h3)
    obtain rfl := Value.ref.inj (k3.symm.trans h4)
    have h6' := h6
    obtain ⟨⟨oc, vc, e1, _, e3, e4⟩, hP⟩ := h6'
    obtain rfl := Option.some.inj ((KX _ _ k4).symm.trans e1)
    obtain rfl := Data.fields.inj e3
    obtain rfl := Value.ref.inj (Option.some.inj (k5.symm.trans e4))
    exact ⟨PySem.W.CodeHd.of h5 h6, hP⟩
  obtain ⟨fdat, tabs, prom, tT, nT, cT, bnd, said, F1⟩ := F w mg fa _ Y KX G.T.g hmg own
  obtain ⟨H, W, hok⟩ := ahead_any (Pg := l.prog) (wd := w) (ns := ns) KX tT hobj hints (Nat.le_trans hlen hn2)
  exact ahead_go KX G.T.g G.T.b G.T.builtins G.T.nolimit hg tT nT cT G.T.bmain hobj rm W hok F1 bnd (said H a ns hlen hbits W.tab W.seq) fun e s' => noX w H s₁ e s'
/-- an own error class nm with an __init__ (the statement st), its base M: what the top has written of it -/
structure EFactsG (K : PySem.W.Frag) (st : Stmt) (nm q : Str) (M C f1 : Addr) : Prop where
  aC : PySem.W.nsIn K mainGlobals nm = some (some (.ref C))
  xL : ∃ nm q N bs sn sub ab col dd k0 k1 k2 k3 k5, K.lookup C = some (excClassObj nm q C N bs [.ref M, .type "ValueError", .type "Exception", .type "BaseException", .type "object"] true sn sub ab col dd k0 k1 k2 k3 k5 "ValueError.__new__")
  sa : PySem.W.findIn K (.ref C) "__setattr__" = some (some (.builtin "object.__setattr__"))
  ga : PySem.W.findIn K (.ref C) "__getattribute__" = some (some (.builtin "BaseException.__getattribute__"))
  gg : PySem.W.findIn K (.ref C) "__getattr__" = some none
  na : PySem.W.findIn K (.ref C) "at" = some none
  a1 : PySem.W.findIn K (.ref C) "__init__" = some (some (.ref f1))
  t1 : PySem.W.typeIn K (.ref f1) = some (.type "function")
  l1 : ∃ oc od kV dc pm an cd ct sl, K.lookup f1 = some ⟨oc, od, .func (PySem.W.fnOf "__init__" q (defArgs st) (defBody st) (defScope st) .none kV dc pm an cd ct), sl⟩ ∧ PySem.W.codeIn K cd q = true
  k1 : PySem.W.keepIn K (.ref f1) = true
  kC : PySem.W.keepIn K (.ref C) = true
  eC : PySem.W.subIn K (.ref C) (.type "BaseException") = some true
  tC : PySem.W.typeIn K (.ref C) = some (.type "type")
  hC : PySem.W.hasDictIn K C = true
  cC : PySem.W.findIn K (.ref C) "__class__" = some (some (.builtin "object.__class__"))
  mC : PySem.W.mroIn K C (.type "object") = some true
  cn : PySem.W.specialIn K (.builtin "object.__class__") "__get__" = some (some (.builtin "getset_descriptor.__get__"))
  ct : PySem.W.takesIn K (.builtin "object.__class__") = some true
theorem mkEG {K : PySem.W.Frag} {st : Stmt} {nm q : Str} {M C f1 : Addr} {m1 m2 : Str} {N : Addr} {bs : List Value} {sn : List Str} {sub : List Value} {ab : Bool} {col : Option Bool} {dd : Option Addr} {k0 k1 k2 k3 k5 : Option Value}
    {oc kV dc pm cd ct : Value} {od an : Option Addr} {sl : Array (Option Value)} (aC : PySem.W.nsIn K mainGlobals nm = some (some (.ref C)))
    (xL : K.lookup C = some (excClassObj m1 m2 C N bs [.ref M, .type "ValueError", .type "Exception", .type "BaseException", .type "object"] true sn sub ab col dd k0 k1 k2 k3 k5 "ValueError.__new__"))
    (sa : PySem.W.findIn K (.ref C) "__setattr__" = some (some (.builtin "object.__setattr__"))) (ga : PySem.W.findIn K (.ref C) "__getattribute__" = some (some (.builtin "BaseException.__getattribute__")))
    (gg : PySem.W.findIn K (.ref C) "__getattr__" = some none) (na : PySem.W.findIn K (.ref C) "at" = some none) (a1 : PySem.W.findIn K (.ref C) "__init__" = some (some (.ref f1))) (t1 : PySem.W.typeIn K (.ref f1) = some (.type "function"))
    (l1 : K.lookup f1 = some ⟨oc, od, .func (PySem.W.fnOf "__init__" q (defArgs st) (defBody st) (defScope st) .none kV dc pm an cd ct), sl⟩) (c1 : PySem.W.codeIn K cd q = true)
    (kf : PySem.W.keepIn K (.ref f1) = true) (kC : PySem.W.keepIn K (.ref C) = true) (eC : PySem.W.subIn K (.ref C) (.type "BaseException") = some true) (tC : PySem.W.typeIn K (.ref C) = some (.type "type")) (hC : PySem.W.hasDictIn K C = true)
    (cC : PySem.W.findIn K (.ref C) "__class__" = some (some (.builtin "object.__class__"))) (mC : PySem.W.mroIn K C (.type "object") = some true)
    (hn : PySem.W.specialIn K (.builtin "object.__class__") "__get__" = some (some (.builtin "getset_descriptor.__get__"))) (ht : PySem.W.takesIn K (.builtin "object.__class__") = some true) : EFactsG K st nm q M C f1 :=
  ⟨aC, ⟨_, _, _, _, _, _, _, _, _, _, _, _, _, _, xL⟩, sa, ga, gg, na, a1, t1, ⟨_, _, _, _, _, _, _, _, _, l1, c1⟩, kf, kC, eC, tC, hC, cC, mC, hn, ht⟩
section
variable {K : PySem.W.Frag} {st : Stmt} {nm q : Str} {M C f1 : Addr}
theorem EFactsG.ox (F : EFactsG K st nm q M C f1) : OexC K C := by
  obtain ⟨m1, m2, N, bs, sn, sub, ab, col, dd, k0, k1, k2, k3, k5, e⟩ := F.xL
  exact ⟨⟨m1, m2, N, bs, _, sn, sub, ab, col, dd, k0, k1, k2, k3, k5, e, by rfl⟩, F.sa, F.eC, F.tC, F.kC⟩
theorem EFactsG.xc (F : EFactsG K st nm q M C f1) : ExcC K C := ⟨F.ga, F.gg, F.eC, F.hC, F.cC, F.cn, F.ct, F.mC⟩
theorem EFactsG.xf (F : EFactsG K st nm q M C f1) : XfC K C := ⟨F.ga, F.gg, F.eC, F.hC⟩
theorem EFactsG.fn (F : EFactsG K st nm q M C f1) : ∃ fd, Fun K "__init__" q st f1 fd := by
  obtain ⟨oc, od, kV, dc, pm, an, cd, ct, sl, l, c⟩ := F.l1
  exact ⟨_, fun_mk l c F.k1⟩
end
end L2
/-! The laws' draws: a list of a list of great numbers and a number, from which small numbers are taken. -/
namespace L2
open PySem PySem.Spec PyProof.Rows
/-- the draws' object at p, its list of great numbers at q -/
structure Deal (H : Hp) (p q : Addr) (cs : List Int) (bl : Int) : Prop where
  hp : H p = some (.lst [.ref q, .int bl])
  hq : H q = some (.lst (cs.map V.int))
  nn : ∀ c ∈ cs, 0 ≤ c
  b0 : 0 ≤ bl
  b1 : bl < 2147483647
  ln : cs.length ≤ 100
/-- all but the draws' two objects stays -/
def Keep (p q : Addr) (H H' : Hp) : Prop := ∀ b o, b ≠ p → b ≠ q → H b = some o → H' b = some o
theorem Keep.refl {p q : Addr} (H : Hp) : Keep p q H H := fun _ _ _ _ h => h
theorem Keep.trans {p q : Addr} {H H1 H2 : Hp} (a : Keep p q H H1) (b : Keep p q H1 H2) : Keep p q H H2 := fun c o h1 h2 h => b c o h1 h2 (a c o h1 h2 h)
theorem Keep.of {p q : Addr} {H H' : Hp} (s : Same H H') : Keep p q H H' := fun b o _ _ h => s b o h
theorem Deal.same {H H' : Hp} {p q : Addr} {cs : List Int} {bl : Int} (D : Deal H p q cs bl) (s : Same H H') : Deal H' p q cs bl := ⟨s _ _ D.hp, s _ _ D.hq, D.nn, D.b0, D.b1, D.ln⟩
theorem Deal.ne {H : Hp} {p q : Addr} {cs : List Int} {bl : Int} (D : Deal H p q cs bl) : p ≠ q := fun e => by
  have h := D.hp
  rw [e, D.hq] at h
  match cs, D, h with
  | [], _, h => cases h
  | _ :: _, _, h =>
    have h2 := HO.lst.inj (Option.some.inj h)
    simp at h2
theorem same_new {H : Hp} {a : Addr} {o : HO} (h : H a = none) : Same H (upd H a o) := fun b u e => by rw [upd_ne (ne_of_none e h)]; exact e
/-- the great numbers changed -/
theorem Deal.setq {H : Hp} {p q : Addr} {cs cs' : List Int} {bl : Int} (D : Deal H p q cs bl) (nn : ∀ c ∈ cs', 0 ≤ c) (ln : cs'.length ≤ 100) : Deal (upd H q (.lst (cs'.map V.int))) p q cs' bl :=
  ⟨by rw [upd_ne D.ne]; exact D.hp, upd_same, nn, D.b0, D.b1, ln⟩
theorem keep_q {p q : Addr} {H : Hp} {o : HO} : Keep p q H (upd H q o) := fun b u _ h2 h => by rw [upd_ne h2]; exact h
theorem keep_p {p q : Addr} {H : Hp} {o : HO} : Keep p q H (upd H p o) := fun b u h1 _ h => by rw [upd_ne h1]; exact h
def spAny : Sp := fun vs H Q _ => ∃ (p q : Addr) (cs : List Int) (bl bound : Int), vs = [.ref p, .int bound] ∧ Deal H p q cs bl ∧ 1 ≤ bound ∧ bound < 1073741824 ∧
  ∀ (v : Int) (H' : Hp) (cs' : List Int) (bl' : Int), 0 ≤ v → v < bound → Deal H' p q cs' bl' → Keep p q H H' → Q (.int v) H'
theorem dpAll_ints {K : PySem.W.Frag} {H : Hp} : ∀ l : List Int, DpAll K H (l.map V.int) (l.map PyData.int)
  | [] => .nil
  | b :: l => .cons (.int b) (dpAll_ints l)
theorem ints_shaped (l : List Int) : SeqAt.shaped (.list (l.map PyData.int)) = true := by
  have h1 : ∀ l : List Int, PyData.canLayAll0 (l.map PyData.int) = true := fun l => by
    induction l with
    | nil => simp [PyData.canLayAll0]
    | cons b l ih => simp [PyData.canLayAll0, PyData.canLay0, ih]
  have h2 : ∀ l : List Int, PyData.depthAll (l.map PyData.int) ≤ 0 := fun l => by
    induction l with
    | nil => simp [PyData.depthAll]
    | cons b l ih => simp [PyData.depthAll, PyData.depth] at *; exact ih
  have h3 := h2 l
  simp only [SeqAt.shaped, PyData.canLay0, PyData.depth, h1, Bool.true_and, decide_eq_true_eq]
  exact decide_eq_true (by omega)
theorem ints_eqv (l : List Int) : (!(PyData.list (l.map PyData.int)).eqv (.list [])) = !l.isEmpty := by
  cases l with
  | nil => rfl
  | cons a l => simp [PyData.eqv, PyData.eqvAll]
/-- deal[0] != [] -/
theorem ne_nil_reads {K : PySem.W.Frag} {H : Hp} {a l : Addr} {cs : List Int} {Q : VK} (ha : H a = some (.lst (cs.map V.int))) (hl : H l = some (.lst [])) (k : Q (.bl (!cs.isEmpty)) H) : rNeD K (.ref a) (.ref l) H Q :=
  ⟨.list (cs.map PyData.int), .list ([].map PyData.int), .lst (SqL.of ha) (dpAll_ints cs), .lst (SqL.of hl) .nil, ints_shaped cs, ints_shaped [], by rw [show ([].map PyData.int) = [] from rfl, ints_eqv]; exact k⟩
end L2
/-! Calls of defs of two parameters by keywords. -/
namespace L2
open PySem PySem.Spec PyProof.Rows
def gRev {α : Type} : List α → List α → List α
  | [], [a, b] => [b, a]
  | _, _ => []
def gSame {α : Type} : List α → List α → List α
  | [], [a, b] => [a, b]
  | _, _ => []
def gOne {α : Type} : List α → List α → List α
  | [a], [b] => [a, b]
  | _, _ => []
theorem gRev_rel {vs : List V} {us : List Value} {zs : List V} {ws : List Value} (r : Vals vs us) (rz : Vals zs ws) : Vals (gRev vs zs) (gRev us ws) := by
  cases r with
  | cons p r => exact .nil
  | nil =>
    cases rz with
    | nil => exact .nil
    | cons p rz =>
      cases rz with
      | nil => exact .nil
      | cons q rz =>
        cases rz with
        | nil => exact .cons q (.cons p .nil)
        | cons _ _ => exact .nil
theorem gSame_rel {vs : List V} {us : List Value} {zs : List V} {ws : List Value} (r : Vals vs us) (rz : Vals zs ws) : Vals (gSame vs zs) (gSame us ws) := by
  cases r with
  | cons p r => exact .nil
  | nil =>
    cases rz with
    | nil => exact .nil
    | cons p rz =>
      cases rz with
      | nil => exact .nil
      | cons q rz =>
        cases rz with
        | nil => exact .cons p (.cons q .nil)
        | cons _ _ => exact .nil
theorem gOne_rel {vs : List V} {us : List Value} {zs : List V} {ws : List Value} (r : Vals vs us) (rz : Vals zs ws) : Vals (gOne vs zs) (gOne us ws) := by
  cases r with
  | nil => exact .nil
  | cons p r =>
    cases r with
    | cons _ _ => exact .nil
    | nil =>
      cases rz with
      | nil => exact .nil
      | cons q rz =>
        cases rz with
        | nil => exact .cons p (.cons q .nil)
        | cons _ _ => exact .nil
theorem kb_rev {K : PySem.W.Frag} {fd : FuncData} {p1 p2 : Str} (h : ∀ a b : Value, bindArgs fd ⟨[], [(p2, a), (p1, b)]⟩ = pure [(p1, b), (p2, a)]) : KBinds K fd [p1, p2] [p2, p1] gRev gRev := by
  refine ⟨fun s us ws _ hl => ?_, gRev_rel⟩
  match us, ws, hl with
  | [], [a, b], _ => exact .of_eq (h a b)
theorem kb_same {K : PySem.W.Frag} {fd : FuncData} {p1 p2 : Str} (h : ∀ a b : Value, bindArgs fd ⟨[], [(p1, a), (p2, b)]⟩ = pure [(p1, a), (p2, b)]) : KBinds K fd [p1, p2] [p1, p2] gSame gSame := by
  refine ⟨fun s us ws _ hl => ?_, gSame_rel⟩
  match us, ws, hl with
  | [], [a, b], _ => exact .of_eq (h a b)
theorem kb_one {K : PySem.W.Frag} {fd : FuncData} {p1 p2 : Str} (h : ∀ a b : Value, bindArgs fd ⟨[a], [(p2, b)]⟩ = pure [(p1, a), (p2, b)]) : KBinds K fd [p1, p2] [p2] gOne gOne := by
  refine ⟨fun s us ws _ hl => ?_, gOne_rel⟩
  match us, ws, hl with
  | [a], [b], _ => exact .of_eq (h a b)
theorem Fun.fd_is {K : PySem.W.Frag} {x qual : Str} {st : Stmt} {f : Addr} {fd : FuncData} (F : Fun K x qual st f fd) : ∃ kV doc pm an cdv ct, fd = PySem.W.fnOf x qual (defArgs st) (defBody st) (defScope st) .none kV doc pm an cdv ct := by
  obtain ⟨oc, od, kV, doc, pm, an, cdv, ct, osl, e, lk, hcd⟩ := F.ex
  exact ⟨_, _, _, _, _, _, e⟩
section
variable {X : Cx} {CX : CXT} {k : Nat} {f : Addr} {fd : FuncData} {ps ks : List Str} {sp : Sp} {E : XK} {x : Str} {p pos : Pos} {kws : List Keyword} {tk : TA} {g : List Value → List Value → List Value} {gV : List V → List V → List V}
def tCallK0 (sp : Sp) (gV : List V → List V → List V) (E : XK) (tk : TA) : TE := fun σ H Q => tk σ H fun zs H2 => sp (gV [] zs) H2 Q E
/-- f(k = v, ..), nothing by position -/
theorem pe_callK0 (F : FnOk X.prog X.w X.K X.mg X.base CX k f fd ps sp) (hr : Room k X.A) (hg : Gl X x) (hm : X.mg x = some (.ref f)) (hk : PySem.W.keepIn X.K (.ref f) = true) (hb : KBinds X.K fd ps ks g gV) (hx : Passes CX X E)
    (hkw : PK X kws tk) (hall : (backToKw pos (keywordEach kws X.env)).all (·.1.isSome) = true := by rfl) (hks : (backToKw pos (keywordEach kws X.env)).filterMap (·.1) = ks := by rfl)
    (hdb : (x == ("__debug__" : Str)) = false := by decide) (hpl : ((backTo pos (starEach [] X.env)).any (·.1) || (backToKw pos (keywordEach kws X.env)).any (·.1.isNone)) = false := by rfl) :
    PE X (.Call (.Name x p) [] kws pos) (tCallK0 sp gV E tk) := by
  refine ⟨fun pins s σ H Q I h => ?_⟩
  refine wpAny_Call_Name_kw (ld_glob I hg hm ?_ hdb)
  refine PySem.W.callWith_KW0 (h₀ := X.base) I.ok.mod.kin hk hall (thn (hkw.run pos pins s σ H _ I h) fun ws s2 ⟨zs, H2, I2, rz, q2⟩ => ⟨I2.kIn, ?_⟩) hpl
  rw [hks]
  exact run_fnk (us := []) (vs := []) F hr hb hx I2 .nil rz q2
end
end L2
namespace K01
open PySem PySem.Spec PyProof.Rows L2
def top (i : Nat) : Stmt := PySem.Challenge.pw_mixlabels_k01_fractions_in_lowest_terms.main.body.getD i (.Pass ⟨0, 0, 0, 0⟩)
/-! ### the mathematics -/
def sgcd (t b : Int) : Int := if b < 0 then -((Nat.gcd t.natAbs b.natAbs : Nat) : Int) else ((Nat.gcd t.natAbs b.natAbs : Nat) : Int)
/-- t / b in lowest terms -/
def low (t b : Int) : Int × Int := (t.fdiv (sgcd t b), b.fdiv (sgcd t b))
def isInt : PyData → Bool
  | .int _ => true
  | _ => false
/-- whether a datum is a fraction -/
def isFr : PyData → Bool
  | .tuple [.int a, .int b] => decide (1 ≤ b) && decide (Nat.gcd a.natAbs b.natAbs = 1)
  | _ => false
def isTup (d : PyData) (n : Int) : Bool := match d with
  | .tuple ds => decide ((ds.length : Int) = n)
  | _ => false
theorem sgcd_ne {t b : Int} (hb : b ≠ 0) : sgcd t b ≠ 0 := by
  have h : Nat.gcd t.natAbs b.natAbs ≠ 0 := fun z => hb (by have := (Nat.gcd_eq_zero_iff.mp z).2; omega)
  unfold sgcd
  split <;> omega
theorem sgcd_le {t b : Int} (hb : b ≠ 0) : (sgcd t b).natAbs ≤ b.natAbs := by
  have h : Nat.gcd t.natAbs b.natAbs ≤ b.natAbs := Nat.gcd_le_right _ (by omega)
  unfold sgcd
  split <;> omega
/-! ### promises -/
abbrev sInit : Stmt := inClass (top 3) 0
abbrev sIsI : Stmt := top 5
abbrev sIsT : Stmt := top 6
abbrev sIsF : Stmt := top 8
abbrev sMade : Stmt := top 9
abbrev sAdd : Stmt := top 10
abbrev sLess : Stmt := top 11
abbrev sTimes : Stmt := top 12
abbrev sCmp : Stmt := top 13
def spInit (C : Addr) : Sp := fun vs H Q _ => ∃ (a : Addr) (v : V), vs = [.ref a, v] ∧ H a = some (exo a C none) ∧ ∀ dx, H dx = none → dx ≠ a → Q .non (upd (upd H dx (exd dx [("at", v)])) a (exo a C (some dx)))
def spIsI (K : PySem.W.Frag) : Sp := fun vs H Q _ => ∃ (v : V) (d : PyData), vs = [v] ∧ Dp K H v d ∧ Q (.bl (isInt d)) H
def spIsT (K : PySem.W.Frag) : Sp := fun vs H Q _ => ∃ (v : V) (d : PyData) (n : Int), vs = [v, .int n] ∧ Dp K H v d ∧ Q (.bl (isTup d n)) H
def spIsF (K : PySem.W.Frag) : Sp := fun vs H Q _ => ∃ (v : V) (d : PyData), vs = [v] ∧ Dp K H v d ∧ Q (.bl (isFr d)) H
def frac (x : Int × Int) : List V := [.int x.1, .int x.2]
def spMade (C : Addr) : Sp := fun vs H Q E => ∃ t b : Int, vs = [.int t, .int b] ∧ b.natAbs < 2 ^ 1000 ∧ (b = 0 → ∀ d, H d = none → E (.ref C) (some d) (upd H d (.xd [("at", .int 1)]))) ∧
  (b ≠ 0 → ∀ p, H p = none → Q (.ref p) (upd H p (.tup (frac (low t b)))))
/-- of two fractions -/
def spBin (K : PySem.W.Frag) (f : Int × Int → Int × Int → Int × Int) : Sp := fun vs H Q _ => ∃ (p q : Addr) (x y : Int × Int), vs = [.ref p, .ref q] ∧ SqT K H p (frac x) ∧ SqT K H q (frac y) ∧
  x.1.natAbs < 2 ^ 100 ∧ x.2.natAbs < 2 ^ 100 ∧ y.1.natAbs < 2 ^ 100 ∧ y.2.natAbs < 2 ^ 100 ∧ x.2 ≠ 0 ∧ y.2 ≠ 0 ∧ ∀ r, H r = none → Q (.ref r) (upd H r (.tup (frac (f x y))))
def addF (x y : Int × Int) : Int × Int := low (x.1 * y.2 + y.1 * x.2) (x.2 * y.2)
def lessF (x y : Int × Int) : Int × Int := low (x.1 * y.2 - y.1 * x.2) (x.2 * y.2)
def timesF (x y : Int × Int) : Int × Int := low (x.1 * y.1) (x.2 * y.2)
def cmpF (x y : Int × Int) : Int := if x.1 * y.2 < y.1 * x.2 then -1 else if x.1 * y.2 > y.1 * x.2 then 1 else 0
def spCmp (K : PySem.W.Frag) : Sp := fun vs H Q _ => ∃ (p q : Addr) (x y : Int × Int), vs = [.ref p, .ref q] ∧ SqT K H p (frac x) ∧ SqT K H q (frac y) ∧
  x.1.natAbs < 2 ^ 100 ∧ x.2.natAbs < 2 ^ 100 ∧ y.1.natAbs < 2 ^ 100 ∧ y.2.natAbs < 2 ^ 100 ∧ Q (.int (cmpF x y)) H
/-- the error class -/
structure Err (K : PySem.W.Frag) (mg : Str → Option Value) (nm : Str) (C fI : Addr) : Prop where
  gC : mg nm = some (.ref C)
  ox : OexC K C
  iC : PySem.W.findIn K (.ref C) "__init__" = some (some (.ref fI))
  tI : PySem.W.typeIn K (.ref fI) = some (.type "function")
  noA : PySem.W.findIn K (.ref C) "at" = some none
section
variable {P : Program} {w : World} {K : PySem.W.Frag} {mg : Str → Option Value} {base : Heap}
theorem ok_init {q : Str} {f C : Addr} {fd : FuncData} (F : Fun K "__init__" q sInit f fd) (ox : OexC K C) (noA : PySem.W.findIn K (.ref C) "at" = some none) : FnOk P w K mg base CX0 1 f fd ["self", "at"] (spInit C) := by
  have sc : FnScope ["self", "at"] ["self", "at"] (defScope sInit) := ⟨rfl, rfl, rfl, by decide +kernel, rfl, by decide +kernel, by decide +kernel⟩
  refine F.ok sc (fun vs H Q E ⟨a, v, e, _⟩ => by rw [e]; rfl) (fun cdv A outer s H vs Q E hr ⟨a, v, e, ha, k⟩ => ?_)
  subst e
  exact ⟨_, pss_one (ps_ost (pv 0) (pv 1)), _, rfl, _, rfl, a, C, rfl, ox, noA, .inl ⟨ha, fun dx n ne => k dx n ne⟩⟩
theorem ok_isI {f : Addr} {fd : FuncData} (F : Fun K "is_integer" "is_integer" sIsI f fd) (zI : mg "isinstance" = none) (zn : mg "int" = none) (zb : mg "bool" = none) : FnOk P w K mg base CX0 1 f fd ["value"] (spIsI K) := by
  have sc : FnScope ["value"] ["value"] (defScope sIsI) := ⟨rfl, rfl, rfl, by decide +kernel, rfl, by decide +kernel, by decide +kernel⟩
  refine F.ok sc (fun vs H Q E ⟨v, d, e, _⟩ => by rw [e]; rfl) (fun cdv A outer s H vs Q E hr ⟨v, d, e, hd, k⟩ => ?_)
  subst e
  refine ⟨_, pss_one (ps_ret (pe_and (pe_callB (call_isD (.inl rfl)) rfl zI boot_isinstance (pa_cons (pv 0) (pa_cons (pe_bltn (v := .ty "int") rfl zn (by decide +kernel) rfl) pa_nil)))
    (pe_one (pe_not (pe_callB (call_isD (.inr (.inl rfl))) rfl zI boot_isinstance (pa_cons (pv 0) (pa_cons (pe_bltn (v := .ty "bool") rfl zb (by decide +kernel) rfl) pa_nil))))))), ?_⟩
  refine ⟨_, rfl, v, d, rfl, hd, _, rfl, ?_⟩
  cases d <;> first
    | exact k
    | exact ⟨_, rfl, v, _, rfl, hd, _, rfl, k⟩
theorem ok_isT {f : Addr} {fd : FuncData} (F : Fun K "is_tuple" "is_tuple" sIsT f fd) (zI : mg "isinstance" = none) (zt : mg "tuple" = none) (zl : mg "len" = none) : FnOk P w K mg base CX0 1 f fd ["value", "length"] (spIsT K) := by
  have sc : FnScope ["value", "length"] ["value", "length"] (defScope sIsT) := ⟨rfl, rfl, rfl, by decide +kernel, rfl, by decide +kernel, by decide +kernel⟩
  refine F.ok sc (fun vs H Q E ⟨v, d, n, e, _⟩ => by rw [e]; rfl) (fun cdv A outer s H vs Q E hr ⟨v, d, n, e, hd, k⟩ => ?_)
  subst e
  refine ⟨_, pss_one (ps_ret (pe_and (pe_callB (call_isD (.inr (.inr (.inl rfl)))) rfl zI boot_isinstance (pa_cons (pv 0) (pa_cons (pe_bltn (v := .ty "tuple") rfl zt (by decide +kernel) rfl) pa_nil)))
    (pe_one (pe_cmpR op_eq (pe_callB call_len_seq rfl zl PySem.boot_len (pa_cons (pv 0) pa_nil)) (pv 1) (nomark _))))), ?_⟩
  refine ⟨_, rfl, v, d, rfl, hd, _, rfl, ?_⟩
  cases d <;> first
    | exact k
    | skip
  rename_i ds
  cases hd with
  | tup hs ha =>
    have len : ∀ {vs : List V} {ds : List PyData}, DpAll K H vs ds → vs.length = ds.length := fun {vs ds} h => by
      induction ds generalizing vs with
      | nil => cases h; rfl
      | cons d ds ih => cases h with | cons h1 h2 => simp [ih h2]
    refine ⟨_, rfl, _, _, rfl, .inr hs, _, rfl, rfl, ?_⟩
    rw [len ha]
    have e : decide (V.int (ds.length : Int) = V.int n) = decide ((ds.length : Int) = n) := by
      rw [Bool.eq_iff_iff]
      simp
    rw [e]
    exact k
end
end K01
namespace K01
open PySem PySem.Spec PyProof.Rows L2
theorem isFr_one (d : PyData) : isFr (.tuple [d]) = false := by cases d <;> rfl
theorem isFr_many (a b c : PyData) (r : List PyData) : isFr (.tuple (a :: b :: c :: r)) = false := by cases a <;> first | rfl | (cases b <;> rfl)
theorem isFr_l {a b : PyData} (h : isInt a = false) : isFr (.tuple [a, b]) = false := by cases a <;> first | rfl | simp [isInt] at h
theorem isFr_r {a b : PyData} (h : isInt b = false) : isFr (.tuple [a, b]) = false := by cases a <;> first | rfl | (cases b <;> first | rfl | simp [isInt] at h)
theorem made_heap {H : Hp} {a dx C : Addr} {v : V} (ha : H a = none) (hd : upd H a (exo a C none) dx = none) (ne : dx ≠ a) :
    upd (del (upd (upd (upd H a (exo a C none)) dx (exd dx [("at", v)])) a (exo a C (some dx))) a) dx (.xd [("at", v)]) = upd H dx (.xd [("at", v)]) := by
  funext b
  by_cases hb : b = dx
  · rw [hb, upd_same, upd_same]
  · rw [upd_ne hb, upd_ne hb]
    by_cases hc : b = a
    · rw [hc, del_same, ha]
    · rw [del_ne hc, upd_ne hc, upd_ne hb, upd_ne hc]
theorem isTup_two {d : PyData} (h : isTup d 2 = true) : ∃ d1 d2, d = .tuple [d1, d2] := by
  cases d with
  | tuple ds =>
    match ds, h with
    | [], h => simp [isTup] at h
    | [_], h => simp [isTup] at h
    | [a, b], _ => exact ⟨a, b, rfl⟩
    | _ :: _ :: _ :: r, h => simp [isTup] at h; omega
  | _ => simp [isTup] at h
theorem dp_two {K : PySem.W.Frag} {H : Hp} {v : V} {d1 d2 : PyData} (h : Dp K H v (.tuple [d1, d2])) : ∃ (a : Addr) (v1 v2 : V), v = .ref a ∧ SqT K H a [v1, v2] ∧ Dp K H v1 d1 ∧ Dp K H v2 d2 := by
  cases h with
  | tup hs ha =>
    cases ha with
    | cons h1 hr =>
      cases hr with
      | cons h2 hn =>
        cases hn
        exact ⟨_, _, _, rfl, hs, h1, h2⟩
section
variable {P : Program} {w : World} {K : PySem.W.Frag} {mg : Str → Option Value} {base : Heap} {C fI fIsI fIsT fM : Addr} {fdI fdIsI fdIsT fdM : FuncData}
theorem ok_isF {f : Addr} {fd : FuncData} (F : Fun K "is_fraction" "is_fraction" sIsF f fd) (GT : FnOk P w K mg base CX0 1 fIsT fdIsT ["value", "length"] (spIsT K)) (bT : Binds K fdIsT ["value", "length"] []) (kT : PySem.W.keepIn K (.ref fIsT) = true) (gT : mg "is_tuple" = some (.ref fIsT))
    (GI : FnOk P w K mg base CX0 1 fIsI fdIsI ["value"] (spIsI K)) (bI : Binds K fdIsI ["value"] []) (kI : PySem.W.keepIn K (.ref fIsI) = true) (gI : mg "is_integer" = some (.ref fIsI)) (gG : mg "gcd" = some (.builtin "math.gcd")) :
    FnOk P w K mg base CX0 2 f fd ["value"] (spIsF K) := by
  have sc : FnScope ["value", "top", "bottom"] ["value"] (defScope sIsF) := ⟨rfl, rfl, rfl, by decide +kernel, rfl, by decide +kernel, by decide +kernel⟩
  refine F.ok sc (fun vs H Q E ⟨v, d, e, _⟩ => by rw [e]; rfl) (fun cdv A outer s H vs Q E hr ⟨v, d, e, hd, k⟩ => ?_)
  subst e
  refine ⟨_, pss_cons (ps_if (pt_not (pt_val (pe_call GT hr rfl gT kT bT .nil pass0 (pa_cons (pv 0) (pa_cons pe_int pa_nil))))) (pss_one (ps_ret pe_bl)) pss_nil)
    (pss_cons (ps_asg (pv 0) (pg_tup rfl (pgs_cons (pg_name (i := 1) sc.nd rfl (Or.inl rfl)) (pgs_cons (pg_name (i := 2) sc.nd rfl (Or.inl rfl)) pgs_nil))))
    (pss_cons (ps_if (PW.pt (pw_or (pt_not (pt_val (pe_call GI hr rfl gI kI bI .nil pass0 (pa_cons (pv 1) pa_nil)))) (pw_or1 (pt_not (pt_val (pe_call GI hr rfl gI kI bI .nil pass0 (pa_cons (pv 2) pa_nil))))))) (pss_one (ps_ret pe_bl)) pss_nil)
    (pss_one (ps_ret (pe_and (pe_cmp (pc_ge (pv 2) pe_int) rfl) (pe_one (pe_cmpR op_eq (pe_callBfun cr_gcd rfl gG (pa_cons (pv 1) (pa_cons (pv 2) pa_nil))) pe_int (nomark _)))))))), ?_⟩
  refine ⟨_, rfl, v, d, 2, rfl, hd, _, rfl, ?_⟩
  cases hb : isTup d 2 with
  | false =>
    refine iteT ?_
    have e : isFr d = false := by
      cases d with
      | tuple ds =>
        match ds, hb with
        | [], _ => exact rfl
        | [d], _ => exact isFr_one d
        | [_, _], hb => simp [isTup] at hb
        | a :: b :: c :: r, _ => exact isFr_many a b c r
      | _ => rfl
    rw [e] at k
    exact k
  | true =>
    refine iteF ?_
    obtain ⟨d1, d2, rfl⟩ := isTup_two hb
    obtain ⟨a, v1, v2, rfl, hs, h1, h2⟩ := dp_two hd
    refine ⟨_, rfl, a, _, rfl, hs, rfl, ?_⟩
    refine ⟨_, _, rfl, _, _, rfl, rfl, ?_⟩
    refine ⟨_, rfl, v1, d1, rfl, h1, _, rfl, ?_⟩
    cases e1 : isInt d1 with
    | false =>
      refine iteT ?_
      refine iteT ?_
      rw [isFr_l e1] at k
      exact k
    | true =>
      refine iteF ?_
      refine ⟨_, rfl, v2, d2, rfl, h2, _, rfl, ?_⟩
      cases e2 : isInt d2 with
      | false =>
        refine iteT ?_
        rw [isFr_r e2] at k
        exact k
      | true =>
        refine iteF ?_
        cases d1 <;> simp [isInt] at e1
        cases d2 <;> simp [isInt] at e2
        rename_i x y
        cases h1
        cases h2
        refine ⟨_, rfl, _, _, rfl, rfl, _, rfl, ?_⟩
        have k' : Q (.bl (decide (1 ≤ y) && decide (Nat.gcd x.natAbs y.natAbs = 1))) H := k
        refine ite2 (fun c => ?_) (fun c => ?_)
        · refine ⟨_, rfl, _, rfl, x, y, rfl, rfl, ?_⟩
          have c' : decide (1 ≤ y) = true := c
          rw [c', Bool.true_and] at k'
          have e : decide (V.int ((Nat.gcd x.natAbs y.natAbs : Nat) : Int) = V.int 1) = decide (Nat.gcd x.natAbs y.natAbs = 1) := by
            rw [Bool.eq_iff_iff]
            simp only [decide_eq_true_eq, V.int.injEq]
            omega
          rw [e]
          exact k'
        · have c' : decide (1 ≤ y) = false := by simpa using c
          rw [c', Bool.false_and] at k'
          exact k'
theorem ok_made {f : Addr} {fd : FuncData} (F : Fun K "made" "made" sMade f fd) (T : Err K mg "InvalidQuestion" C fI) (FI : FnOk P w K mg base CX0 1 fI fdI ["self", "at"] (spInit C)) (bI : Binds K fdI ["self", "at"] []) (gG : mg "gcd" = some (.builtin "math.gcd")) :
    FnOk P w K mg base (L2.CX P w) 4 f fd ["top", "bottom"] (spMade C) := by
  have sc : FnScope ["top", "bottom", "both"] ["top", "bottom"] (defScope sMade) := ⟨rfl, rfl, rfl, by decide +kernel, rfl, by decide +kernel, by decide +kernel⟩
  refine F.okX sc (fun vs H Q E ⟨_, _, e, _⟩ => by rw [e]; rfl) (fun cv A outer s H vs Q E hr ⟨t, b, e, hb, kE, kQ⟩ => ?_)
  subst e
  have tk : Takes (cxOf (L2.CX P w) P w K mg base ["top", "bottom", "both"] "made" (defScope sMade) f cv A outer s H E) (fun cls d _ H => E cls d H) := takes_of rfl rfl rfl rfl
  refine ⟨_, pss_cons (ps_if (pt_cmpR op_eq (pv 1) pe_int (nomark _)) (pss_one (ps_raise rfl tk (pmk_oex T.ox T.iC T.tI FI (hr.mono (by decide)) bI .nil pass0 rfl T.gC (pa_cons pe_int pa_nil)))) pss_nil)
    (pss_cons (ps_set (i := 2) sc.nd rfl (Or.inl rfl) (pe_callBfun cr_gcd rfl gG (pa_cons (pv 0) (pa_cons (pv 1) pa_nil))))
    (pss_cons (ps_if (pt_cmpR op_lt (pv 1) pe_int (nomark _)) (pss_one (ps_set (i := 2) sc.nd rfl (Or.inl rfl) (pe_un un_neg (pv 2)))) pss_nil)
    (pss_one (ps_ret (pe_tup (pa_cons (pe_op op_fdivA (pv 0) (pv 2)) (pa_cons (pe_op op_fdivA (pv 1) (pv 2)) pa_nil))))))), ?_⟩
  refine ⟨_, rfl, rfl, _, rfl, ?_⟩
  refine ite2 (fun c => ?_) (fun c => ?_)
  · have hb0 : b = 0 := V.int.inj (of_decide_eq_true c)
    refine ⟨by show 1 ≤ 1000; decide, fun a ha => ⟨a, .int 1, rfl, upd_same, fun dx n ne => ⟨rfl, dx, [("at", .int 1)], upd_same, ?_, ?_, ?_⟩⟩⟩
    · rw [upd_ne ne, upd_same]
    · rw [upd_ne ne] at n
      exact n
    · rw [made_heap ha n ne]
      rw [upd_ne ne] at n
      exact kE hb0 dx n
  · have hb0 : b ≠ 0 := fun z => c (by rw [z]; exact decide_eq_true rfl)
    refine ⟨_, rfl, _, rfl, t, b, rfl, ?_⟩
    refine ⟨_, rfl, _, _, rfl, rfl, _, rfl, ?_⟩
    have lg : (sgcd t b).natAbs.log2 < 9000 := Nat.lt_trans (log_lt (Nat.lt_of_le_of_lt (sgcd_le hb0) hb) (by decide)) (by decide)
    refine ite2 (fun c2 => ?_) (fun c2 => ?_)
    · have hn : b < 0 := of_decide_eq_true c2
      have e : sgcd t b = -((Nat.gcd t.natAbs b.natAbs : Nat) : Int) := if_pos hn
      refine ⟨_, rfl, _, rfl, ?_⟩
      dsimp only
      rw [← e]
      refine ⟨_, rfl, _, rfl, _, _, rfl, rfl, ⟨sgcd_ne hb0, lg⟩, _, rfl, _, rfl, _, _, rfl, rfl, ⟨sgcd_ne hb0, lg⟩, (by show 2 ≤ sizeLine; decide), fun p np => ?_⟩
      exact kQ hb0 p np
    · have hn : ¬ b < 0 := fun z => c2 (decide_eq_true z)
      have e : sgcd t b = ((Nat.gcd t.natAbs b.natAbs : Nat) : Int) := if_neg hn
      rw [← e]
      refine ⟨_, rfl, _, rfl, _, _, rfl, rfl, ⟨sgcd_ne hb0, lg⟩, _, rfl, _, rfl, _, _, rfl, rfl, ⟨sgcd_ne hb0, lg⟩, (by show 2 ≤ sizeLine; decide), fun p np => ?_⟩
      exact kQ hb0 p np
end
end K01
namespace K01
open PySem PySem.Spec PyProof.Rows L2
theorem mul_lt {a b : Int} {m n : Nat} (ha : a.natAbs < 2 ^ m) (hb : b.natAbs < 2 ^ n) : (a * b).natAbs < 2 ^ (m + n) := wide_lt ha hb
theorem mul_ne {a b : Int} (ha : a ≠ 0) (hb : b ≠ 0) : a * b ≠ 0 := Int.mul_ne_zero ha hb
theorem mulW {a b : Int} (ha : a.natAbs < 2 ^ 100) (hb : b.natAbs < 2 ^ 100) : CMulW a b := wide_mul ha hb (by decide) (by decide) (by decide)
section
variable {P : Program} {w : World} {K : PySem.W.Frag} {mg : Str → Option Value} {base : Heap} {C fM : Addr} {fdM : FuncData}
theorem ok_added {f : Addr} {fd : FuncData} (F : Fun K "added" "added" sAdd f fd) (GM : FnOk P w K mg base (L2.CX P w) 4 fM fdM ["top", "bottom"] (spMade C)) (bM : Binds K fdM ["top", "bottom"] []) (kM : PySem.W.keepIn K (.ref fM) = true) (gM : mg "made" = some (.ref fM)) :
    FnOk P w K mg base CX0 5 f fd ["one", "other"] (spBin K addF) := by
  have sc : FnScope ["one", "other"] ["one", "other"] (defScope sAdd) := ⟨rfl, rfl, rfl, by decide +kernel, rfl, by decide +kernel, by decide +kernel⟩
  refine F.ok sc (fun vs H Q E ⟨_, _, _, _, e, _⟩ => by rw [e]; rfl) (fun cdv A outer s H vs Q E hr ⟨p, q, x, y, e, hp, hq, x1, x2, y1, y2, nx, ny, k⟩ => ?_)
  subst e
  refine ⟨_, pss_one (ps_ret (pe_call GM hr rfl gM kM bM .nil (passes_call LamX.takes0 fun _ _ _ _ z => z) (pa_cons (pe_op op_add (pe_op op_mulW (pe_ix ix_tup (pv 0) pe_int (fun _ _ => rfl)) (pe_ix ix_tup (pv 1) pe_int (fun _ _ => rfl))) (pe_op op_mulW (pe_ix ix_tup (pv 1) pe_int (fun _ _ => rfl)) (pe_ix ix_tup (pv 0) pe_int (fun _ _ => rfl)))) (pa_cons (pe_op op_mulW (pe_ix ix_tup (pv 0) pe_int (fun _ _ => rfl)) (pe_ix ix_tup (pv 1) pe_int (fun _ _ => rfl))) pa_nil)))), ?_⟩
  refine ⟨_, rfl, p, _, 0, _, rfl, rfl, hp, rfl, _, rfl, q, _, 1, _, rfl, rfl, hq, rfl, _, _, rfl, rfl, mulW x1 y2, _, rfl, q, _, 0, _, rfl, rfl, hq, rfl, _, rfl, p, _, 1, _, rfl, rfl, hp, rfl, _, _, rfl, rfl, mulW y1 x2, _, _, rfl, rfl, _, rfl, p, _, 1, _, rfl, rfl, hp, rfl, _, rfl, q, _, 1, _, rfl, rfl, hq, rfl, _, _, rfl, rfl, mulW x2 y2, ?_⟩
  exact ⟨_, _, rfl, Nat.lt_trans (mul_lt x2 y2) (by decide), fun z => absurd z (mul_ne nx ny), fun _ r nr => k r nr⟩
theorem ok_less {f : Addr} {fd : FuncData} (F : Fun K "less" "less" sLess f fd) (GM : FnOk P w K mg base (L2.CX P w) 4 fM fdM ["top", "bottom"] (spMade C)) (bM : Binds K fdM ["top", "bottom"] []) (kM : PySem.W.keepIn K (.ref fM) = true) (gM : mg "made" = some (.ref fM)) :
    FnOk P w K mg base CX0 5 f fd ["one", "other"] (spBin K lessF) := by
  have sc : FnScope ["one", "other"] ["one", "other"] (defScope sLess) := ⟨rfl, rfl, rfl, by decide +kernel, rfl, by decide +kernel, by decide +kernel⟩
  refine F.ok sc (fun vs H Q E ⟨_, _, _, _, e, _⟩ => by rw [e]; rfl) (fun cdv A outer s H vs Q E hr ⟨p, q, x, y, e, hp, hq, x1, x2, y1, y2, nx, ny, k⟩ => ?_)
  subst e
  refine ⟨_, pss_one (ps_ret (pe_call GM hr rfl gM kM bM .nil (passes_call LamX.takes0 fun _ _ _ _ z => z) (pa_cons (pe_op op_sub (pe_op op_mulW (pe_ix ix_tup (pv 0) pe_int (fun _ _ => rfl)) (pe_ix ix_tup (pv 1) pe_int (fun _ _ => rfl))) (pe_op op_mulW (pe_ix ix_tup (pv 1) pe_int (fun _ _ => rfl)) (pe_ix ix_tup (pv 0) pe_int (fun _ _ => rfl)))) (pa_cons (pe_op op_mulW (pe_ix ix_tup (pv 0) pe_int (fun _ _ => rfl)) (pe_ix ix_tup (pv 1) pe_int (fun _ _ => rfl))) pa_nil)))), ?_⟩
  refine ⟨_, rfl, p, _, 0, _, rfl, rfl, hp, rfl, _, rfl, q, _, 1, _, rfl, rfl, hq, rfl, _, _, rfl, rfl, mulW x1 y2, _, rfl, q, _, 0, _, rfl, rfl, hq, rfl, _, rfl, p, _, 1, _, rfl, rfl, hp, rfl, _, _, rfl, rfl, mulW y1 x2, _, _, rfl, rfl, _, rfl, p, _, 1, _, rfl, rfl, hp, rfl, _, rfl, q, _, 1, _, rfl, rfl, hq, rfl, _, _, rfl, rfl, mulW x2 y2, ?_⟩
  exact ⟨_, _, rfl, Nat.lt_trans (mul_lt x2 y2) (by decide), fun z => absurd z (mul_ne nx ny), fun _ r nr => k r nr⟩
theorem ok_times {f : Addr} {fd : FuncData} (F : Fun K "times" "times" sTimes f fd) (GM : FnOk P w K mg base (L2.CX P w) 4 fM fdM ["top", "bottom"] (spMade C)) (bM : Binds K fdM ["top", "bottom"] []) (kM : PySem.W.keepIn K (.ref fM) = true) (gM : mg "made" = some (.ref fM)) :
    FnOk P w K mg base CX0 5 f fd ["one", "other"] (spBin K timesF) := by
  have sc : FnScope ["one", "other"] ["one", "other"] (defScope sTimes) := ⟨rfl, rfl, rfl, by decide +kernel, rfl, by decide +kernel, by decide +kernel⟩
  refine F.ok sc (fun vs H Q E ⟨_, _, _, _, e, _⟩ => by rw [e]; rfl) (fun cdv A outer s H vs Q E hr ⟨p, q, x, y, e, hp, hq, x1, x2, y1, y2, nx, ny, k⟩ => ?_)
  subst e
  refine ⟨_, pss_one (ps_ret (pe_call GM hr rfl gM kM bM .nil (passes_call LamX.takes0 fun _ _ _ _ z => z) (pa_cons (pe_op op_mulW (pe_ix ix_tup (pv 0) pe_int (fun _ _ => rfl)) (pe_ix ix_tup (pv 1) pe_int (fun _ _ => rfl))) (pa_cons (pe_op op_mulW (pe_ix ix_tup (pv 0) pe_int (fun _ _ => rfl)) (pe_ix ix_tup (pv 1) pe_int (fun _ _ => rfl))) pa_nil)))), ?_⟩
  refine ⟨_, rfl, p, _, 0, _, rfl, rfl, hp, rfl, _, rfl, q, _, 0, _, rfl, rfl, hq, rfl, _, _, rfl, rfl, mulW x1 y1, _, rfl, p, _, 1, _, rfl, rfl, hp, rfl, _, rfl, q, _, 1, _, rfl, rfl, hq, rfl, _, _, rfl, rfl, mulW x2 y2, ?_⟩
  exact ⟨_, _, rfl, Nat.lt_trans (mul_lt x2 y2) (by decide), fun z => absurd z (mul_ne nx ny), fun _ r nr => k r nr⟩
theorem ok_cmp {f : Addr} {fd : FuncData} (F : Fun K "compared" "compared" sCmp f fd) : FnOk P w K mg base CX0 1 f fd ["one", "other"] (spCmp K) := by
  have sc : FnScope ["one", "other", "left", "right"] ["one", "other"] (defScope sCmp) := ⟨rfl, rfl, rfl, by decide +kernel, rfl, by decide +kernel, by decide +kernel⟩
  refine F.ok sc (fun vs H Q E ⟨_, _, _, _, e, _⟩ => by rw [e]; rfl) (fun cdv A outer s H vs Q E hr ⟨p, q, x, y, e, hp, hq, x1, x2, y1, y2, k⟩ => ?_)
  subst e
  refine ⟨_, pss_cons (ps_set (i := 2) sc.nd rfl (Or.inl rfl) (pe_op op_mulW (pe_ix ix_tup (pv 0) pe_int (fun _ _ => rfl)) (pe_ix ix_tup (pv 1) pe_int (fun _ _ => rfl)))) (pss_cons (ps_set (i := 3) sc.nd rfl (Or.inl rfl) (pe_op op_mulW (pe_ix ix_tup (pv 1) pe_int (fun _ _ => rfl)) (pe_ix ix_tup (pv 0) pe_int (fun _ _ => rfl))))
    (pss_cons (ps_if (pt_cmpR op_lt (pv 2) (pv 3) (nomark _)) (pss_one (ps_ret (pe_un un_neg pe_int))) pss_nil) (pss_cons (ps_if (pt_cmpR op_gt (pv 2) (pv 3) (nomark _)) (pss_one (ps_ret pe_int)) pss_nil) (pss_one (ps_ret pe_int))))), ?_⟩
  refine ⟨_, rfl, p, _, 0, _, rfl, rfl, hp, rfl, _, rfl, q, _, 1, _, rfl, rfl, hq, rfl, _, _, rfl, rfl, mulW x1 y2, _, rfl, q, _, 0, _, rfl, rfl, hq, rfl, _, rfl, p, _, 1, _, rfl, rfl, hp, rfl, _, _, rfl, rfl, mulW y1 x2, _, rfl, _, rfl, _, _, rfl, rfl, _, rfl, ?_⟩
  refine ite2 (fun c => ?_) (fun c => ?_)
  · have c' : x.1 * y.2 < y.1 * x.2 := of_decide_eq_true c
    have e : cmpF x y = -1 := if_pos c'
    rw [e] at k
    exact ⟨_, rfl, k⟩
  · have c' : ¬ x.1 * y.2 < y.1 * x.2 := fun z => c (decide_eq_true z)
    refine ⟨_, rfl, _, rfl, _, _, rfl, rfl, _, rfl, ?_⟩
    refine ite2 (fun c2 => ?_) (fun c2 => ?_)
    · have c2' : x.1 * y.2 > y.1 * x.2 := of_decide_eq_true c2
      have e : cmpF x y = 1 := by unfold cmpF; rw [if_neg c', if_pos c2']
      rw [e] at k
      exact k
    · have c2' : ¬ x.1 * y.2 > y.1 * x.2 := fun z => c2 (decide_eq_true z)
      have e : cmpF x y = 0 := by unfold cmpF; rw [if_neg c', if_neg c2']
      rw [e] at k
      exact k
end
end K01
namespace K01
open PySem PySem.Spec PyProof.Rows L2
abbrev sAny : Stmt := top 16
abbrev sOf : Stmt := top 17
theorem snoc_cases (l : List Int) : l = [] ∨ ∃ ini z, l = ini ++ [z] := by
  rcases List.eq_nil_or_concat l with h | ⟨a, b, h⟩
  · exact .inl h
  · exact .inr ⟨a, b, by simpa using h⟩
theorem atI_snoc {ini : List Int} {z : Int} : atI ((ini ++ [z]).map V.int) (-1) = some (.int z) := by
  have h : ((ini ++ [z]).map V.int) = ini.map V.int ++ [V.int z] := by simp
  rw [h]
  exact atI_last _ _
theorem last_snoc {ini : List Int} {z : Int} : ((ini ++ [z]).map V.int)[((ini ++ [z]).map V.int).length - 1]? = some (.int z) := by simp
theorem drop_snoc {ini : List Int} {z : Int} : ((ini ++ [z]).map V.int).dropLast = ini.map V.int := by simp
section
variable {P : Program} {w : World} {K : PySem.W.Frag} {mg : Str → Option Value} {base : Heap} {fA : Addr} {fdA : FuncData}
theorem ok_any {f : Addr} {fd : FuncData} (F : Fun K "_law_any" "_law_any" sAny f fd) (zi : mg "int" = none) : FnOk P w K mg base CX0 1 f fd ["deal", "bound"] spAny := by
  have sc : FnScope ["deal", "bound", "rest"] ["deal", "bound"] (defScope sAny) := ⟨rfl, rfl, rfl, by decide +kernel, rfl, by decide +kernel, by decide +kernel⟩
  refine F.ok sc (fun vs H Q E ⟨_, _, _, _, _, e, _⟩ => by rw [e]; rfl) (fun cv A outer s H vs Q E hr ⟨p, q, cs, bl, bound, e, D, b1, b2, k⟩ => ?_)
  subst e
  have hu := hr.units
  refine ⟨_, pss_cons (ps_while PassesOwn.never (PW.pt (pw_and (pt_cmpR (op_neD hu) (pe_ix ix_list (pv 0) pe_int (fun _ _ => rfl)) (pe_lst pa_nil) (nomark _))
        (pw_and1 (pt_cmpR op_eq (pe_ix ix_list (pe_ix ix_list (pv 0) pe_int (fun _ _ => rfl)) (pe_un un_neg pe_int) (fun _ _ => rfl)) pe_int (nomark _)))))
      (pss_one (ps_expr (pe_bm0 PySem.F.plainAttrs_list PySem.F.slot_list_pop PySem.F.type_list_pop mt_pop (pe_ix ix_list (pv 0) pe_int (fun _ _ => rfl))))))
    (pss_cons (ps_if (pt_cmpR (op_neD hu) (pe_ix ix_list (pv 0) pe_int (fun _ _ => rfl)) (pe_lst pa_nil) (nomark _))
      (pss_cons (ps_set (i := 2) sc.nd rfl (Or.inl rfl) (pe_callTy call_int1 rfl zi (by decide +kernel) (pa_cons (pe_bm0 PySem.F.plainAttrs_list PySem.F.slot_list_pop PySem.F.type_list_pop mt_pop (pe_ix ix_list (pv 0) pe_int (fun _ _ => rfl))) pa_nil)))
      (pss_cons (ps_expr (pe_bm PySem.F.plainAttrs_list PySem.F.slot_list_append PySem.F.type_list_append mt_append (pe_ix ix_list (pv 0) pe_int (fun _ _ => rfl)) (pa_cons (pe_op op_fdiv (pv 2) (pv 1)) pa_nil)))
      (pss_one (ps_ret (pe_op op_mod (pv 2) (pv 1)))))) pss_nil)
    (pss_cons (ps_asg (pe_op op_mod (pe_callTy call_int1 rfl zi (by decide +kernel) (pa_cons (pe_op op_add (pe_op op_mul (pe_ix ix_list (pv 0) pe_int (fun _ _ => rfl)) pe_int) pe_int) pa_nil)) pe_int) (pg_sub (pv 0) pe_int set_list))
    (pss_one (ps_ret (pe_op op_mod (pe_callTy call_int1 rfl zi (by decide +kernel) (pa_cons (pe_op op_fdiv (pe_ix ix_list (pv 0) pe_int (fun _ _ => rfl)) pe_int) pa_nil)) (pv 1)))))), ?_⟩
  -- the zeros ahead are thrown away
  refine ⟨fun m σ H' => ∃ (cs' : List Int) (v : Option V), m = cs'.length ∧ σ = [some (.ref p), some (.int bound), v] ∧ Deal H' p q cs' bl ∧ Keep p q H H', ⟨_, cs, none, rfl, rfl, D, Keep.refl H⟩, ?_⟩
  rintro m σ H1 ⟨cs1, v, rfl, rfl, D1, k1⟩
  refine ⟨_, rfl, p, _, 0, _, rfl, rfl, SqL.of D1.hp, rfl, ?_⟩
  refine ⟨by show 0 ≤ sizeLine; exact Nat.zero_le _, fun l nl => ?_⟩
  have sl := same_new (o := .lst []) nl
  refine ne_nil_reads (sl _ _ D1.hq) upd_same ⟨_, rfl, ?_⟩
  have D2 := D1.same sl
  have k2 : Keep p q H (upd H1 l (.lst [])) := k1.trans (Keep.of sl)
  generalize upd H1 l (.lst []) = H2 at D2 k2 ⊢
  -- behind the loop
  rcases snoc_cases cs1 with rfl | ⟨ini, z, rfl⟩
  · refine iteF ?_
    refine iteF ?_
    refine ⟨_, rfl, p, _, 0, _, rfl, rfl, SqL.of D2.hp, rfl, ?_⟩
    refine ⟨by show 0 ≤ sizeLine; exact Nat.zero_le _, fun l2 nl2 => ?_⟩
    have sl2 := same_new (o := .lst []) nl2
    refine ne_nil_reads (sl2 _ _ D2.hq) upd_same ⟨_, rfl, ?_⟩
    have D3 := D2.same sl2
    have k3 : Keep p q H (upd H2 l2 (.lst [])) := k2.trans (Keep.of sl2)
    generalize upd H2 l2 (.lst []) = H3 at D3 k3 ⊢
    refine iteF ?_
    have b0 := D3.b0
    have b3 := D3.b1
    refine ⟨_, rfl, p, _, 1, _, rfl, rfl, SqL.of D3.hp, rfl, _, _, rfl, rfl, .inl ⟨by omega, by omega⟩, _, _, rfl, rfl, .inl ⟨_, rfl, _, _, rfl, rfl, (by show (0 : Int) < 2147483647; decide), _, rfl, p, _, 1, 1, rfl, rfl, D3.hp, rfl, ?_⟩⟩
    have m1 := Int.emod_nonneg (bl * 40693 + 71) (show (2147483647 : Int) ≠ 0 by decide)
    have m2 := Int.emod_lt_of_pos (bl * 40693 + 71) (show (0 : Int) < 2147483647 by decide)
    refine ⟨_, rfl, p, [.ref q, .int ((bl * 40693 + 71) % 2147483647)], 1, _, rfl, rfl, SqL.of upd_same, rfl, _, _, rfl, rfl, ⟨by decide, by decide⟩, .inl ⟨_, rfl, _, rfl, _, _, rfl, rfl, (by show (0 : Int) < bound; omega), ?_⟩⟩
    exact k _ _ [] ((bl * 40693 + 71) % 2147483647) (Int.emod_nonneg _ (by omega)) (Int.emod_lt_of_pos _ (by omega)) ⟨upd_same, by rw [upd_ne D3.ne.symm]; exact D3.hq, fun c hc => by simp at hc, m1, m2, by simp⟩ (k3.trans keep_p)
  · have ne : (!(ini ++ [z]).isEmpty) = true := by cases ini <;> rfl
    rw [ne]
    refine iteT ?_
    refine ⟨_, rfl, p, _, 0, _, rfl, rfl, SqL.of D2.hp, rfl, _, rfl, q, _, -1, .int z, rfl, rfl, SqL.of D2.hq, atI_snoc, rfl, _, rfl, ?_⟩
    refine ite2 (fun c => ?_) (fun c => ?_)
    · refine ⟨fun σ' H' => ∃ (cs' : List Int) (v : Option V), cs'.length < (ini ++ [z]).length ∧ σ' = [some (.ref p), some (.int bound), v] ∧ Deal H' p q cs' bl ∧ Keep p q H H', fun σ' H' ⟨cs', v, hl, e, d, kk⟩ => ⟨_, hl, cs', v, rfl, e, d, kk⟩, ?_⟩
      refine ⟨_, rfl, p, _, 0, _, rfl, rfl, SqL.of D2.hp, rfl, .inl ⟨rfl, _, SqL.of D2.hq⟩, q, _, .int z, rfl, rfl, D2.hq, last_snoc, ?_⟩
      rw [drop_snoc]
      exact ⟨ini, v, by simp, rfl, D2.setq (fun c hc => D2.nn c (List.mem_append_left _ hc)) (by have := D2.ln; simp at this; omega), k2.trans keep_q⟩
    · skip
      refine ⟨_, rfl, p, _, 0, _, rfl, rfl, SqL.of D2.hp, rfl, ?_⟩
      refine ⟨by show 0 ≤ sizeLine; exact Nat.zero_le _, fun l2 nl2 => ?_⟩
      have sl2 := same_new (o := .lst []) nl2
      refine ne_nil_reads (sl2 _ _ D2.hq) upd_same ⟨_, rfl, ?_⟩
      have D3 := D2.same sl2
      have k3 : Keep p q H (upd H2 l2 (.lst [])) := k2.trans (Keep.of sl2)
      generalize upd H2 l2 (.lst []) = H3 at D3 k3 ⊢
      rw [ne]
      refine iteT ?_
      refine ⟨_, rfl, p, _, 0, _, rfl, rfl, SqL.of D3.hp, rfl, .inl ⟨rfl, _, SqL.of D3.hq⟩, q, _, .int z, rfl, rfl, D3.hq, last_snoc, .inl ⟨_, rfl, ?_⟩⟩
      rw [drop_snoc]
      have D4 : Deal (upd H3 q (.lst (ini.map V.int))) p q ini bl := D3.setq (fun c hc => D3.nn c (List.mem_append_left _ hc)) (by have := D3.ln; simp at this; omega)
      have k4 : Keep p q H (upd H3 q (.lst (ini.map V.int))) := k3.trans keep_q
      have hl := D3.ln
      have hz := D3.nn z (by simp)
      generalize upd H3 q (.lst (ini.map V.int)) = H4 at D4 k4 ⊢
      refine ⟨_, rfl, p, _, 0, _, rfl, rfl, SqL.of D4.hp, rfl, .inl ⟨rfl, _, SqL.of D4.hq⟩, _, rfl, _, rfl, _, _, rfl, rfl, ⟨by show (0 : Int) < bound; omega, b2⟩, q, _, _, rfl, rfl, D4.hq, small1000 (by rw [List.length_map]; simp at hl; omega), ?_⟩
      have e5 : ini.map V.int ++ [V.int (z / bound)] = (ini ++ [z / bound]).map V.int := by simp
      refine ⟨_, rfl, _, rfl, _, _, rfl, rfl, (by show (0 : Int) < bound; omega), ?_⟩
      refine k _ _ (ini ++ [z / bound]) bl (Int.emod_nonneg _ (by omega)) (Int.emod_lt_of_pos _ (by omega)) ?_ (k4.trans keep_q)
      dsimp only
      rw [e5]
      refine D4.setq (fun c hc => ?_) (by simp at hl ⊢; omega)
      rcases List.mem_append.mp hc with h | h
      · exact D4.nn c h
      · obtain rfl : c = z / bound := by simpa using h
        exact Int.ediv_nonneg hz (by omega)
end
end K01
namespace K01
open PySem PySem.Spec PyProof.Rows L2
abbrev sDraw : Stmt := top 15
abbrev sLow : Stmt := top 18
abbrev sInt : Stmt := top 19
abbrev sBot : Stmt := top 20
def spOf : Sp := fun vs H Q _ => ∃ (p q s : Addr) (cs : List Int) (bl : Int) (xs : List V), vs = [.ref p, .ref s] ∧ Deal H p q cs bl ∧ H s = some (.lst xs) ∧ s ≠ p ∧ s ≠ q ∧ xs ≠ [] ∧ xs.length ≤ 1000 ∧
  ∀ (x : V) (H' : Hp) (cs' : List Int) (bl' : Int), x ∈ xs → Deal H' p q cs' bl' → Keep p q H H' → Q x H'
def spInt : Sp := fun vs H Q _ => ∃ (p q : Addr) (cs : List Int) (bl : Int), vs = [.ref p] ∧ Deal H p q cs bl ∧ ∀ (v : Int) (H' : Hp) (cs' : List Int) (bl' : Int), v.natAbs < 2 ^ 60 → Deal H' p q cs' bl' → Keep p q H H' → Q (.int v) H'
def spBot : Sp := fun vs H Q _ => ∃ (p q : Addr) (cs : List Int) (bl : Int), vs = [.ref p] ∧ Deal H p q cs bl ∧ ∀ (v : Int) (H' : Hp) (cs' : List Int) (bl' : Int), v ≠ 0 → v.natAbs < 2 ^ 60 → Deal H' p q cs' bl' → Keep p q H H' → Q (.int v) H'
def spLow : Sp := fun vs H Q _ => ∃ t b : Int, vs = [.int t, .int b] ∧ b ≠ 0 ∧ b.natAbs < 2 ^ 1000 ∧ ∀ p, H p = none → Q (.ref p) (upd H p (.tup (frac (low t b))))
def spDraw (K : PySem.W.Frag) : Sp := fun vs H Q _ => ∃ (a : Addr) (salt : Int) (ns : List Int), vs = [.ref a, .int salt] ∧ SqL K H a (ns.map V.int) ∧ ns.length ≤ 63 ∧ 0 ≤ salt ∧ salt ≤ 1000 ∧
  ∀ (p q : Addr) (cs : List Int) (bl : Int) (H' : Hp), Same H H' → H p = none → H q = none → Deal H' p q cs bl → Q (.ref p) H'
section
variable {P : Program} {w : World} {K : PySem.W.Frag} {mg : Str → Option Value} {base : Heap} {fA fO fI : Addr} {fdA fdO fdI : FuncData}
theorem ok_of {f : Addr} {fd : FuncData} (F : Fun K "_law_of" "_law_of" sOf f fd) (GA : FnOk P w K mg base CX0 1 fA fdA ["deal", "bound"] spAny) (bA : Binds K fdA ["deal", "bound"] []) (kA : PySem.W.keepIn K (.ref fA) = true) (gA : mg "_law_any" = some (.ref fA)) (zl : mg "len" = none) :
    FnOk P w K mg base CX0 2 f fd ["deal", "some"] spOf := by
  have sc : FnScope ["deal", "some"] ["deal", "some"] (defScope sOf) := ⟨rfl, rfl, rfl, by decide +kernel, rfl, by decide +kernel, by decide +kernel⟩
  refine F.ok sc (fun vs H Q E ⟨_, _, _, _, _, _, e, _⟩ => by rw [e]; rfl) (fun cv A outer st H vs Q E hr ⟨p, q, s, cs, bl, xs, e, D, hs, n1, n2, ne, hl, k⟩ => ?_)
  subst e
  refine ⟨_, pss_one (ps_ret (pe_ix ix_list (pv 1) (pe_call GA hr rfl gA kA bA .nil pass0 (pa_cons (pv 0) (pa_cons (pe_callB call_len_seq rfl zl PySem.boot_len (pa_cons (pv 1) pa_nil)) pa_nil))) (fun _ _ => rfl))), ?_⟩
  have pos : 0 < xs.length := List.length_pos_iff.mpr ne
  refine ⟨_, rfl, _, rfl, _, rfl, s, xs, rfl, .inl (SqL.of hs), p, q, cs, bl, (xs.length : Int), rfl, D, by omega, by omega, fun v H' cs' bl' v0 v1 D' k' => ?_⟩
  have hs' := k' s _ n1 n2 hs
  obtain ⟨x, hx⟩ : ∃ x, xs[v.toNat]? = some x := ⟨_, List.getElem?_eq_getElem (by omega)⟩
  refine ⟨s, xs, v, x, rfl, rfl, SqL.of hs', ?_, k x H' cs' bl' (List.mem_of_getElem? hx) D' k'⟩
  have e : v = ((v.toNat : Nat) : Int) := by omega
  rw [e]
  exact atI_nat (by simpa using hx)
theorem ok_int {f : Addr} {fd : FuncData} (F : Fun K "_law_integer" "_law_integer" sInt f fd) (GA : FnOk P w K mg base CX0 1 fA fdA ["deal", "bound"] spAny) (bA : Binds K fdA ["deal", "bound"] []) (kA : PySem.W.keepIn K (.ref fA) = true) (gA : mg "_law_any" = some (.ref fA))
    (GO : FnOk P w K mg base CX0 2 fO fdO ["deal", "some"] spOf) (bO : Binds K fdO ["deal", "some"] []) (kO : PySem.W.keepIn K (.ref fO) = true) (gO : mg "_law_of" = some (.ref fO)) : FnOk P w K mg base CX0 3 f fd ["deal"] spInt := by
  have sc : FnScope ["deal", "form"] ["deal"] (defScope sInt) := ⟨rfl, rfl, rfl, by decide +kernel, rfl, by decide +kernel, by decide +kernel⟩
  refine F.ok sc (fun vs H Q E ⟨_, _, _, _, e, _⟩ => by rw [e]; rfl) (fun cv A outer st H vs Q E hr ⟨p, q, cs, bl, e, D, k⟩ => ?_)
  subst e
  have hr1 := hr.mono (show 1 ≤ 2 by decide)
  refine ⟨_, pss_cons (ps_set (i := 1) sc.nd rfl (Or.inl rfl) (pe_call GA hr1 rfl gA kA bA .nil pass0 (pa_cons (pv 0) (pa_cons pe_int pa_nil))))
    (pss_cons (ps_if (pt_cmpR op_eq (pv 1) pe_int (nomark _)) (pss_one (ps_ret (pe_op op_sub (pe_call GA hr1 rfl gA kA bA .nil pass0 (pa_cons (pv 0) (pa_cons pe_int pa_nil))) pe_int))) pss_nil)
    (pss_cons (ps_if (pt_cmpR op_eq (pv 1) pe_int (nomark _)) (pss_one (ps_ret (pe_op op_mul (pe_op op_sub (pe_call GA hr1 rfl gA kA bA .nil pass0 (pa_cons (pv 0) (pa_cons pe_int pa_nil))) pe_int)
      (pe_call GO hr rfl gO kO bO .nil pass0 (pa_cons (pv 0) (pa_cons (pe_lst (pa_cons pe_int (pa_cons pe_int (pa_cons (pe_op op_pow pe_int pe_int) (pa_cons (pe_op op_pow pe_int pe_int) (pa_cons (pe_op op_pow pe_int pe_int) pa_nil)))))) pa_nil)))))) pss_nil)
    (pss_one (ps_ret (pe_op op_sub (pe_call GA hr1 rfl gA kA bA .nil pass0 (pa_cons (pv 0) (pa_cons pe_int pa_nil))) pe_int))))), ?_⟩
  refine ⟨_, rfl, p, q, cs, bl, 4, rfl, D, by decide, by decide, fun v H1 cs1 bl1 v0 v1 D1 k1 => ?_⟩
  refine ⟨_, rfl, rfl, _, rfl, ?_⟩
  refine ite2 (fun c => ?_) (fun c => ?_)
  · refine ⟨_, rfl, p, q, cs1, bl1, 2000003, rfl, D1, by decide, by decide, fun v2 H2 cs2 bl2 v20 v21 D2 k2 => ?_⟩
    exact ⟨_, _, rfl, rfl, k _ H2 cs2 bl2 (by omega) D2 (k1.trans k2)⟩
  · refine ⟨_, rfl, rfl, _, rfl, ?_⟩
    refine ite2 (fun c => ?_) (fun c => ?_)
    · refine ⟨_, rfl, p, q, cs1, bl1, 13, rfl, D1, by decide, by decide, fun v2 H2 cs2 bl2 v20 v21 D2 k2 => ?_⟩
      refine ⟨_, _, rfl, rfl, _, rfl, _, _, rfl, rfl, ⟨by decide, by decide, by decide⟩, _, _, rfl, rfl, ⟨by decide, by decide, by decide⟩, _, _, rfl, rfl, ⟨by decide, by decide, by decide⟩, (by show 5 ≤ sizeLine; decide), fun l nl => ?_⟩
      have sl := same_new (o := .lst [.int 10, .int 210, .int (3 ^ (9 : Int).toNat), .int (10 ^ (12 : Int).toNat), .int (6 ^ (20 : Int).toNat)]) nl
      refine ⟨p, q, l, cs2, bl2, _, rfl, D2.same sl, upd_same, (ne_of_none D2.hp nl).symm, (ne_of_none D2.hq nl).symm, by simp, by show 5 ≤ 1000; decide, fun x H3 cs3 bl3 hx D3 k3 => ?_⟩
      have hx' : ∃ z : Int, x = .int z ∧ 0 ≤ z ∧ z < 2 ^ 52 := by
        simp only [List.mem_cons, List.not_mem_nil, or_false] at hx
        rcases hx with rfl | rfl | rfl | rfl | rfl <;> exact ⟨_, rfl, by decide, by decide⟩
      obtain ⟨z, rfl, z0, z1⟩ := hx'
      refine ⟨_, _, rfl, rfl, .inl ⟨by omega, by omega⟩, ?_⟩
      refine k _ H3 cs3 bl3 ?_ D3 (k1.trans (k2.trans ((Keep.of sl).trans k3)))
      have h1 : (v2 - 6).natAbs < 2 ^ 4 := by omega
      have h2 : z.natAbs < 2 ^ 52 := by omega
      exact Nat.lt_trans (mul_lt h1 h2) (by decide)
    · refine ⟨_, rfl, p, q, cs1, bl1, 41, rfl, D1, by decide, by decide, fun v2 H2 cs2 bl2 v20 v21 D2 k2 => ?_⟩
      exact ⟨_, _, rfl, rfl, k _ H2 cs2 bl2 (by omega) D2 (k1.trans k2)⟩
theorem ok_bot {f : Addr} {fd : FuncData} (F : Fun K "_law_bottom" "_law_bottom" sBot f fd) (GI : FnOk P w K mg base CX0 3 fI fdI ["deal"] spInt) (bI : Binds K fdI ["deal"] []) (kI : PySem.W.keepIn K (.ref fI) = true) (gI : mg "_law_integer" = some (.ref fI)) : FnOk P w K mg base CX0 4 f fd ["deal"] spBot := by
  have sc : FnScope ["deal", "found"] ["deal"] (defScope sBot) := ⟨rfl, rfl, rfl, by decide +kernel, rfl, by decide +kernel, by decide +kernel⟩
  refine F.ok sc (fun vs H Q E ⟨_, _, _, _, e, _⟩ => by rw [e]; rfl) (fun cv A outer st H vs Q E hr ⟨p, q, cs, bl, e, D, k⟩ => ?_)
  subst e
  refine ⟨_, pss_cons (ps_set (i := 1) sc.nd rfl (Or.inl rfl) (pe_call GI hr rfl gI kI bI .nil pass0 (pa_cons (pv 0) pa_nil))) (pss_one (ps_ret (pe_ifExp (pt_cmpR op_ne (pv 1) pe_int (nomark _)) (pv 1) pe_int))), ?_⟩
  refine ⟨_, rfl, p, q, cs, bl, rfl, D, fun v H1 cs1 bl1 hv D1 k1 => ?_⟩
  refine ⟨_, rfl, rfl, _, rfl, ?_⟩
  by_cases hz : v = 0
  · subst hz
    refine iteF ?_
    exact k 7 H1 cs1 bl1 (by decide) (by decide) D1 k1
  · have e : (!decide (V.int v = V.int 0)) = true := by simp [hz]
    rw [e]
    refine iteT ?_
    exact ⟨_, rfl, k v H1 cs1 bl1 hz hv D1 k1⟩
end
end K01
namespace K01
open PySem PySem.Spec PyProof.Rows L2
section
variable {P : Program} {w : World} {K : PySem.W.Frag} {mg : Str → Option Value} {base : Heap}
theorem abs_nat (t : Int) : (if t < 0 then -t else t) = ((t.natAbs : Nat) : Int) := by split <;> omega
theorem iteT' {b : Bool} {p q : Prop} (e : b = true) (h : p) : if b = true then p else q := by rw [if_pos e]; exact h
theorem iteF' {b : Bool} {p q : Prop} (e : b = false) (h : q) : if b = true then p else q := by rw [if_neg (by rw [e]; decide)]; exact h
theorem ok_low {f : Addr} {fd : FuncData} (F : Fun K "_law_low" "_law_low" sLow f fd) (za : mg "abs" = none) (zi : mg "int" = none) : FnOk P w K mg base CX0 1 f fd ["top", "bottom"] spLow := by
  have sc : FnScope ["top", "bottom", "one", "other"] ["top", "bottom"] (defScope sLow) := ⟨rfl, rfl, rfl, by decide +kernel, rfl, by decide +kernel, by decide +kernel⟩
  refine F.ok sc (fun vs H Q E ⟨_, _, e, _⟩ => by rw [e]; rfl) (fun cv A outer s H vs Q E hr ⟨t, b, e, hb, hl, k⟩ => ?_)
  subst e
  refine ⟨_, pss_cons (ps_par (i := 2) (j := 3) rfl sc.nd rfl rfl (by decide) rfl rfl (pa_cons (pe_callB call_abs rfl za (by decide +kernel) (pa_cons (pv 0) pa_nil)) (pa_cons (pe_callB call_abs rfl za (by decide +kernel) (pa_cons (pv 1) pa_nil)) pa_nil)) rfl)
    (pss_cons (ps_while PassesOwn.never (pt_cmpR op_gt (pv 3) pe_int (nomark _))
      (pss_one (ps_par (i := 2) (j := 3) rfl sc.nd rfl rfl (by decide) rfl rfl (pa_cons (pv 3) (pa_cons (pe_op op_mod (pe_callTy call_int1 rfl zi (by decide +kernel) (pa_cons (pv 2) pa_nil)) (pv 3)) pa_nil)) rfl)))
    (pss_cons (ps_set (i := 2) sc.nd rfl (Or.inl rfl) (pe_ifExp (pt_cmpR op_gt (pv 1) pe_int (nomark _)) (pv 2) (pe_op op_sub pe_int (pv 2))))
    (pss_one (ps_ret (pe_tup (pa_cons (pe_op op_fdivA (pv 0) (pv 2)) (pa_cons (pe_op op_fdivA (pv 1) (pv 2)) pa_nil))))))), ?_⟩
  refine ⟨_, rfl, t, rfl, _, rfl, b, rfl, _, _, rfl, ?_⟩
  rw [abs_nat, abs_nat]
  refine ⟨fun m σ H' => ∃ x y : Nat, m = y ∧ σ = [some (.int t), some (.int b), some (.int (x : Int)), some (.int (y : Int))] ∧ H' = H ∧ Nat.gcd x y = Nat.gcd t.natAbs b.natAbs, ⟨_, _, _, rfl, rfl, rfl, rfl⟩, ?_⟩
  rintro y σ H1 ⟨x, _, rfl, rfl, rfl, hg⟩
  refine ⟨_, rfl, _, _, rfl, rfl, ?_⟩
  refine ⟨_, rfl, ?_⟩
  refine ite2 (fun c => ?_) (fun c => ?_)
  · have c' : 0 < y := by have := of_decide_eq_true c; omega
    refine ⟨fun σ' H' => ∃ x' y' : Nat, y' < y ∧ σ' = [some (.int t), some (.int b), some (.int (x' : Int)), some (.int (y' : Int))] ∧ H' = H1 ∧ Nat.gcd x' y' = Nat.gcd t.natAbs b.natAbs, fun σ' H' ⟨x', y', hlt, e, e2, e3⟩ => ⟨_, hlt, x', y', rfl, e, e2, e3⟩, ?_⟩
    refine ⟨_, rfl, _, rfl, .inl ⟨_, rfl, _, rfl, _, _, rfl, rfl, (by show (0 : Int) < y; omega), _, _, rfl, ?_⟩⟩
    refine ⟨y, x % y, Nat.mod_lt _ c', ?_, rfl, ?_⟩
    · rfl
    · rw [← hg, Nat.gcd_comm x y, Nat.gcd_rec y x, Nat.gcd_comm]
  · have c' : y = 0 := by
      rcases Nat.eq_zero_or_pos y with h | h
      · exact h
      · exact absurd (decide_eq_true (by omega : (y : Int) > 0)) c
    subst c'
    have hx : x = Nat.gcd t.natAbs b.natAbs := by rw [← hg, Nat.gcd_zero_right]
    have hne := sgcd_ne (t := t) hb
    have hlo : (sgcd t b).natAbs.log2 < 9000 := Nat.lt_trans (log_lt (b := 1000) (Nat.lt_of_le_of_lt (sgcd_le (t := t) hb) hl) (by decide)) (by decide)
    subst hx
    refine ⟨_, rfl, _, _, rfl, rfl, _, rfl, ?_⟩
    by_cases hb0 : 0 < b
    · refine iteT' (decide_eq_true hb0) ?_
      have eg : sgcd t b = ((Nat.gcd t.natAbs b.natAbs : Nat) : Int) := by unfold sgcd; rw [if_neg (by omega)]
      rw [eg] at hne hlo
      refine ⟨_, rfl, _, rfl, _, rfl, _, _, rfl, rfl, ⟨hne, hlo⟩, _, rfl, _, rfl, _, _, rfl, rfl, ⟨hne, hlo⟩, ?_⟩
      have k' := k
      unfold low at k'
      rw [eg] at k'
      exact ⟨(by show 2 ≤ sizeLine; decide), k'⟩
    · refine iteF' (decide_eq_false hb0) ?_
      have eg : sgcd t b = 0 - ((Nat.gcd t.natAbs b.natAbs : Nat) : Int) := by unfold sgcd; rw [if_pos (by omega)]; omega
      rw [eg] at hne hlo
      refine ⟨_, rfl, _, _, rfl, rfl, _, rfl, _, rfl, _, _, rfl, rfl, ⟨hne, hlo⟩, _, rfl, _, rfl, _, _, rfl, rfl, ⟨hne, hlo⟩, ?_⟩
      have k' := k
      unfold low at k'
      rw [eg] at k'
      exact ⟨(by show 2 ≤ sizeLine; decide), k'⟩

theorem cut_ints (ns : List Int) (lo hi : Option Int) : ∃ ms : List Int, cutV (ns.map V.int) lo hi = ms.map V.int ∧ ms.length ≤ ns.length := by
  refine ⟨(ns.drop (HT.sIx (ns.map V.int).length 0 lo)).take (HT.sIx (ns.map V.int).length (ns.map V.int).length hi - HT.sIx (ns.map V.int).length 0 lo), ?_, ?_⟩
  · unfold cutV
    rw [List.map_take, List.map_drop]
  · rw [List.length_take, List.length_drop]
    omega
def absI (x : Int) : Int := ((x.natAbs : Nat) : Int)
theorem take_snoc {α : Type} {l : List α} {i : Nat} {x : α} (h : l[i]? = some x) : l.take (i + 1) = l.take i ++ [x] := by
  rw [List.take_add_one, h]
  rfl
theorem ok_draw {f : Addr} {fd : FuncData} (F : Fun K "_law_draw" "_law_draw" sDraw f fd) (za : mg "abs" = none) (zi : mg "int" = none) : FnOk P w K mg base CX0 1 f fd ["script", "salt"] (spDraw K) := by
  have sc : FnScope ["script", "salt", "cells", "blend", "cell"] ["script", "salt"] (defScope sDraw) := ⟨rfl, rfl, rfl, by decide +kernel, rfl, by decide +kernel, by decide +kernel⟩
  refine F.ok sc (fun vs H Q E ⟨_, _, _, e, _⟩ => by rw [e]; rfl) (fun cv A outer s H vs Q E hr ⟨a, salt, ns, e, hs, hn, s0, s1, k⟩ => ?_)
  subst e
  refine ⟨_, pss_cons (ps_setLc (i := 2) (own := [("cell", 4)]) rfl sc.nd rfl rfl rfl (pi_list (pe_slice sl_list (pv 0) po_none (po_some pe_int)))
      (blkOk_by (N := ["script", "salt", "cells", "blend", "cell"]) (sc := defScope sDraw) (by decide +kernel)) (fun _ _ _ _ _ => pg_name (i := 4) sc.nd rfl (Or.inl rfl)) (fun _ _ _ _ _ => pts_nil)
      (fun _ _ _ _ _ => pe_callB call_abs rfl za (by decide +kernel) (pa_cons (pe_callTy call_int1 rfl zi (by decide +kernel) (pa_cons (pv 4) pa_nil)) pa_nil)))
    (pss_cons (ps_set (i := 3) sc.nd rfl (Or.inl rfl) (pe_op op_add pe_int (pe_op op_mul pe_int (pv 1))))
    (pss_cons (ps_for PassesOwn.never rfl (pi_list (pv 2)) (pg_name (i := 4) sc.nd rfl (Or.inl rfl))
      (pss_one (ps_set (i := 3) sc.nd rfl (Or.inl rfl) (pe_op op_mod (pe_callTy call_int1 rfl zi (by decide +kernel) (pa_cons (pe_op op_add (pe_op op_add (pe_op op_mul (pv 3) pe_int) (pe_op op_mod (pv 4) pe_int)) pe_int) pa_nil)) pe_int))))
    (pss_one (ps_ret (pe_lst (pa_cons (pe_revL (pe_lc (own := [("cell", 4)]) rfl sc.nd (pi_list (pv 2)) (blkOk_by (N := ["script", "salt", "cells", "blend", "cell"]) (sc := defScope sDraw) (by decide +kernel))
      (fun _ _ _ _ _ => pg_name (i := 4) sc.nd rfl (Or.inl rfl)) (fun _ _ _ _ _ => pts_one (pt_cmpR op_ge (pv 4) (pe_op op_pow pe_int pe_int) (nomark _))) (fun _ _ _ _ _ => pv 4))) (pa_cons (pv 3) pa_nil))))))), ?_⟩
  obtain ⟨ms, em, hm⟩ := cut_ints ns none (some 48)
  have hms : ms.length ≤ 63 := by omega
  refine ⟨_, rfl, 48, rfl, a, _, rfl, hs, fun p np => ?_⟩
  rw [em]
  have S1 := same_new (o := .lst (ms.map V.int)) np
  have hp : upd H p (.lst (ms.map V.int)) p = some (.lst (ms.map V.int)) := upd_same
  generalize upd H p (.lst (ms.map V.int)) = H1 at S1 hp
  refine ⟨p, rfl, ⟨_, SqL.of hp⟩, fun D nD => ?_⟩
  refine lc_list (xs := ms.map V.int) (fun i H' => Same H1 H' ∧ H' D = some (.lst (((ms.take i).map absI).map V.int))) ⟨same_new nD, upd_same⟩ (fun i H' _ ⟨s2, _⟩ => SqL.of (s2 _ _ hp)) ?_ ?_
  · rintro i x H2 hx ⟨s2, hD⟩
    obtain ⟨n, en, rfl⟩ : ∃ n, ms[i]? = some n ∧ V.int n = x := by simpa using hx
    refine ⟨rfl, ?_⟩
    unfold tYes
    dsimp only
    refine iteT ?_
    refine ⟨_, rfl, .inl ⟨_, rfl, n, rfl, ?_⟩⟩
    rw [abs_nat]
    refine ⟨_, hD, small1000 (by simp; omega), ?_, ?_⟩
    · intro b o e
      rw [upd_ne (show b ≠ D from ne_of_none e nD)]
      exact s2 b o e
    · rw [upd_same, take_snoc en]
      simp [absI]
  · rintro H2 ⟨s2, hD⟩
    have hl : (ms.map V.int).length = ms.length := by simp
    rw [hl, List.take_length] at hD
    have as0 : ∀ x ∈ ms.map absI, (0 : Int) ≤ x := by
      intro x hx
      obtain ⟨y, _, rfl⟩ := List.mem_map.mp hx
      unfold absI
      omega
    have asl : (ms.map absI).length ≤ 63 := by simpa using hms
    have S2 := Same.trans S1 s2
    clear hs hp s2 hl hm em
    have nD : H D = none := by
      cases h : H D with
      | none => rfl
      | some o => exact absurd (S1 _ _ h) (by rw [nD]; simp)
    generalize ms.map absI = as at hD as0 asl
    refine ⟨_, rfl, _, _, rfl, rfl, .inr ⟨by omega, by omega⟩, _, _, rfl, rfl, ?_⟩
    refine ⟨_, rfl, D, rfl, ⟨_, SqL.of hD⟩, ?_⟩
    refine for_list (fun i σ H' => ∃ (bl : Int) (v : Option V), σ = [some (.ref a), some (.int salt), some (.ref D), some (.int bl), v] ∧ 0 ≤ bl ∧ bl < 2147483647 ∧ H' = H2) ⟨7919 + 104729 * salt, none, rfl, by omega, by omega, rfl⟩ (fun i σ H' _ ⟨_, _, _, _, _, e⟩ => by rw [e]; exact SqL.of hD) ?_ ?_
    · rintro i x σ H' hx ⟨bl, v, rfl, b0, b1, rfl⟩
      obtain ⟨n, en, rfl⟩ : ∃ n, as[i]? = some n ∧ V.int n = x := by simpa using hx
      refine ⟨_, rfl, _, _, rfl, rfl, .inl ⟨by omega, by omega⟩, _, rfl, _, _, rfl, rfl, (by show (0 : Int) < 2147483549; decide), _, _, rfl, rfl, _, _, rfl, rfl, .inl ⟨_, rfl, _, _, rfl, rfl, (by show (0 : Int) < 2147483647; decide), ?_⟩⟩
      exact ⟨_, _, rfl, Int.emod_nonneg _ (by decide), Int.emod_lt_of_pos _ (by decide), rfl⟩
    · rintro σ H' ⟨bl, v, rfl, b0, b1, rfl⟩
      refine ⟨_, rfl, D, rfl, ⟨_, SqL.of hD⟩, fun L nL => ?_⟩
      refine lc_list (xs := as.map V.int) (fun i H3 => Same H' H3 ∧ ∃ cs : List Int, H3 L = some (.lst (cs.map V.int)) ∧ cs.length ≤ i ∧ ∀ c ∈ cs, 0 ≤ c) ⟨same_new nL, [], upd_same, by simp, by simp⟩ (fun i H3 _ ⟨s2, _⟩ => SqL.of (s2 _ _ hD)) ?_ ?_
      · rintro i x H3 hx ⟨s2, cs, hL, hc, c0⟩
        have hx' := hx
        obtain ⟨n, en, rfl⟩ : ∃ n, as[i]? = some n ∧ V.int n = x := by simpa using hx'
        have n0 : 0 ≤ n := as0 n (List.mem_of_getElem? en)
        have hi : i < as.length := (List.getElem?_eq_some_iff.mp en).1
        refine ⟨rfl, _, rfl, _, _, rfl, rfl, ⟨by decide, by decide, by decide⟩, _, _, rfl, rfl, _, rfl, ?_⟩
        refine ite2 (fun c => ?_) (fun c => ?_)
        · refine ⟨_, rfl, _, hL, small1000 (by simp; omega), ?_, cs ++ [n], ?_, by simp; omega, fun c hc => ?_⟩
          · intro b o e
            rw [upd_ne (show b ≠ L from ne_of_none e nL)]
            exact s2 b o e
          · rw [upd_same]
            simp
          · rcases List.mem_append.mp hc with h | h
            · exact c0 c h
            · obtain rfl : c = n := by simpa using h
              exact n0
        · exact ⟨s2, cs, hL, by omega, c0⟩
      · rintro H3 ⟨s2, cs, hL, hc, c0⟩
        refine ⟨L, _, rfl, SqL.of hL, fun q nq => ?_⟩
        refine ⟨_, rfl, by show 2 ≤ sizeLine; decide, fun pp npp => ?_⟩
        have S3 := Same.trans S2 s2
        have S4 := Same.trans S3 (same_new (o := .lst (cs.map V.int).reverse) nq)
        have S5 := Same.trans S4 (same_new (o := .lst [.ref q, .int bl]) npp)
        have none_of : ∀ {A B : Hp} {b : Addr}, Same A B → B b = none → A b = none := fun {A B b} s h => by
          cases e : A b with
          | none => rfl
          | some o => rw [s _ _ e] at h; cases h
        have hne : q ≠ pp := fun e => by rw [← e, upd_same] at npp; cases npp
        refine k pp q cs.reverse bl _ S5 (none_of S4 npp) (none_of S3 nq) ⟨upd_same, ?_, fun c hc => c0 c (by simpa using hc), b0, b1, ?_⟩
        · rw [upd_ne hne, upd_same, List.map_reverse]
        · simp at hc ⊢
          omega
end
end K01
namespace L2
open PySem PySem.Spec PyProof.Rows
/-- the store's length is known wherever an exception is met -/
theorem Takes.len {X : Cx} {W : WX} (t : Takes X W) : Takes X (fun c d σ H => σ.length = X.N.length → W c d σ H) := fun u s' ⟨a, B, sI, pins, σ, H, cls, d, e, I, nb, up, sky, na, os, ag, wk⟩ =>
  t u s' ⟨a, B, sI, pins, σ, H, cls, d, e, I, nb, up, sky, na, os, ag, wk I.len⟩
/-- isinstance(e, X), e the caught error of the class C, in the slot n; b the answer -/
def tIsO (C a : Addr) (cls : Value) (d : Option Addr) (b : Bool) (n : Nat) : TE := fun σ H Q => cls = .ref C ∧ σ[n]? = some (some (.ref a)) ∧ ErrD H d ∧ Q (.bl b) H
theorem pe_isO {X : Cx} {C M a : Addr} {oe : Obj} {cls : Value} {d : Option Addr} {b : Bool} {n : Nat} {x y : Str} {p1 p2 p3 pos : Pos} (xc : ExcC X.K C) (kit : PySem.W.kitOne X.K (.ref C) (.ref M) = some b) (zI : X.mg "isinstance" = none) (hz : Zc cls d oe) (hf : ∃ vs, oe.data = .fields vs) (hm : (a, oe) ∈ X.pn)
    (hgi : Gl X "isinstance") (hgx : Gl X x) (gx : X.mg x = some (.ref M)) (he : PE X (.Name y p2) (tVar n)) (hdb : (x == ("__debug__" : Str)) = false := by decide)
    (h1 : starEach [.Name y p2, .Name x p3] X.env = (false, eval (.Name y p2) X.env) :: starEach [.Name x p3] X.env := by rfl) (h2 : starEach [.Name x p3] X.env = (false, eval (.Name x p3) X.env) :: starEach [] X.env := by rfl) (h3 : (backTo pos (starEach [.Name x p3] X.env)).any (·.1) = false := by rfl) :
    PE X (.Call (.Name "isinstance" p1) [.Name y p2, .Name x p3] [] pos) (tIsO C a cls d b n) := by
  have q := pe_callB (p := p1) (pos := pos) (call_isP hz hf hm) hgi zI boot_isinstance (pa_cons he (pa_cons (pe_glob (v := .ref M) hgx gx rfl hdb) pa_nil h2) h1) (by decide) (by decide) h1 h3
  exact ⟨fun pins s σ H Q I ⟨ec, hs, hd, k⟩ => q.run pins s σ H Q I ⟨.ref a, hs, C, .ref M, .ref M, _, ec, xc, hd, rfl, fun u z => z, kit, k⟩⟩
end L2
namespace K01
open PySem PySem.Spec PyProof.Rows L2 LamX
abbrev sRef : Stmt := top 21
/-- what the def that calls what it got makes of the lambda's reading -/
def TTRef (C : Addr) : (XK → Hp → VK → Prop) → Hp → VK → Prop := fun tl H Q => tl (fun cls d H' => cls = .ref C ∧ ∃ dd v, d = some dd ∧ H' dd = some (.xd [("at", v)]) ∧ Q v H') H (fun _ H' => Q .non H')
/-- the error class and its base, caught -/
structure Cau (K : PySem.W.Frag) (mg : Str → Option Value) (nm nm2 : Str) (C M : Addr) : Prop where
  gC : mg nm = some (.ref C)
  gM : mg nm2 = some (.ref M)
  exm : PySem.W.exmOne K (.ref C) (.ref C) = some true
  kit : PySem.W.kitOne K (.ref C) (.ref M) = some true
  xc : ExcC K C
  xf : XfC K C
  noA : PySem.W.findIn K (.ref C) "at" = some none
  zI : mg "isinstance" = none
theorem ref_gives {X : Cx} {g C M : Addr} {cdg : Value} {q : Str} (T : Cau X.K X.mg "InvalidQuestion" "MixError" C M) : GivesTo X ["work", "e"] "_law_refused" (defScope sRef) g cdg (defBody sRef) "work" q (TTRef C) := by
  intro f c' s H Q tl act hc h
  have isC : ∀ (a : Addr) (oe : Obj) (cls : Value) (d : Option Addr) (pn : List (Addr × Obj)) (p1 p2 p3 pos : Pos), Zc cls d oe → (∃ vs, oe.data = .fields vs) →
      PE ((cxOf C8.CX0 X.prog X.w X.K X.mg X.base ["work", "e"] "_law_refused" (defScope sRef) g cdg X.A X.stack s H C8.E0).nox.suite a ((a, oe) :: pn)) (.Call (.Name "isinstance" p1) [.Name "e" p2, .Name "MixError" p3] [] pos) (tIsO C a cls d true 1) :=
    fun a oe cls d pn p1 p2 p3 pos hz hd => pe_isO T.xc T.kit T.zI hz hd List.mem_cons_self rfl rfl T.gM (pv 1)
  have bd : ∀ (W : WX) (pn : List (Addr × Obj)) (xe : Value → Shared → Prop) (p1 p2 p3 : Pos), Takes ((cxOf C8.CX0 X.prog X.w X.K X.mg X.base ["work", "e"] "_law_refused" (defScope sRef) g cdg X.A X.stack s H C8.E0).nox.tr pn xe) W →
      PSs ((cxOf C8.CX0 X.prog X.w X.K X.mg X.base ["work", "e"] "_law_refused" (defScope sRef) g cdg X.A X.stack s H C8.E0).nox.tr pn xe) [.Expr (.Call (.Name "work" p1) [] [] p2) p3]
        (fun D σ H => ∃ Ech : XK, (∀ cls d σ' H', Ech cls d H' → σ'.length = 2 → W cls d σ' H') ∧ σ[0]? = some (some (.ref f)) ∧ H c' = some (CodeO c' q) ∧ tl Ech H (fun _ H' => D.nx σ H')) := by
    intro W pn xe p1 p2 p3 tk
    refine ⟨fun pins s' σ H' D I h' => ?_⟩
    obtain ⟨Ech, hW, h1, h2, h3⟩ := h'
    exact (pss_one (ps_expr (act _ pn xe Ech p1 p2 tk.len (fun cls d σ' H' e l => hW cls d σ' H' e l)))).run pins s' σ H' D I ⟨h1, h2, h3⟩
  refine ⟨_, pss_cons (ps_try_as (i := 1) (c := .ref C)
      (tb := fun W D σ H => ∃ Ech : XK, (∀ cls d σ' H', Ech cls d H' → σ'.length = 2 → W cls d σ' H') ∧ σ[0]? = some (some (.ref f)) ∧ H c' = some (CodeO c' q) ∧ tl Ech H (fun _ H' => D.nx σ H'))
      rfl rfl (show (["work", "e"] : List Str).Nodup by decide +kernel) rfl rfl ⟨rfl, by decide, .inl T.gC⟩ LamX.takes0 (fun W pn xe tk _ => bd W pn xe _ _ _ tk)
      (fun a oe cls d pn hz hd => pss_one (ps_ret (pe_ifExp (pt_val (isC a oe cls d pn _ _ _ _ hz hd)) (pe_xf T.xf T.noA hz hd (pv 1)) pe_non)))) (pss_one (ps_ret pe_non)), ?_⟩
  refine ⟨fun cls d H' => cls = .ref C ∧ ∃ dd v, d = some dd ∧ H' dd = some (.xd [("at", v)]) ∧ Q v H', fun cls d σ' H' ⟨e1, dd, v, e2, e3, e4⟩ hl => ?_, rfl, hc, h⟩
  · refine ⟨true, by rw [e1]; exact T.exm, fun _ a na => ?_, fun z => nomatch z⟩
    have h2 : (σ'.set 1 (some (V.ref a)))[1]? = some (some (V.ref a)) := by rw [List.getElem?_set_self (by omega)]
    refine ⟨e1, h2, by rw [e2]; exact ⟨_, e3⟩, _, rfl, ?_⟩
    refine iteT ?_
    exact ⟨_, h2, rfl, e1, dd, _, v, e2, e3, by simp [List.lookup], e4⟩
end K01
namespace K01
open PySem PySem.Spec PyProof.Rows L2
/-! ### fractions in lowest terms -/
theorem sgcd_abs (t b : Int) : (sgcd t b).natAbs = Nat.gcd t.natAbs b.natAbs := by
  unfold sgcd
  split <;> omega
theorem sgcd_l (t b : Int) : sgcd t b ∣ t := by
  rw [← Int.natAbs_dvd_natAbs, sgcd_abs]
  exact Nat.gcd_dvd_left _ _
theorem sgcd_r (t b : Int) : sgcd t b ∣ b := by
  rw [← Int.natAbs_dvd_natAbs, sgcd_abs]
  exact Nat.gcd_dvd_right _ _
structure LowOk (t b : Int) (x : Int × Int) : Prop where
  pos : 0 < x.2
  co : Nat.gcd x.1.natAbs x.2.natAbs = 1
  cross : t * x.2 = b * x.1
  le1 : x.1.natAbs ≤ t.natAbs
  le2 : x.2.natAbs ≤ b.natAbs
theorem low_ok {t b : Int} (hb : b ≠ 0) : LowOk t b (low t b) := by
  have hg := sgcd_ne (t := t) hb
  obtain ⟨t', ht⟩ := sgcd_l t b
  obtain ⟨b', hb'⟩ := sgcd_r t b
  have ha := sgcd_abs t b
  have hs : (b < 0 → sgcd t b < 0) ∧ (0 < b → 0 < sgcd t b) := by
    have h0 : Nat.gcd t.natAbs b.natAbs ≠ 0 := fun z => hb (by have := (Nat.gcd_eq_zero_iff.mp z).2; omega)
    unfold sgcd
    constructor
    · intro h
      rw [if_pos h]
      omega
    · intro h
      rw [if_neg (by omega)]
      omega
  unfold low
  generalize sgcd t b = g at hg ht hb' ha hs ⊢
  have e1 : t.fdiv g = t' := by rw [ht]; exact Int.mul_fdiv_cancel_left _ hg
  have e2 : b.fdiv g = b' := by rw [hb']; exact Int.mul_fdiv_cancel_left _ hg
  rw [e1, e2]
  have n1 : t.natAbs = g.natAbs * t'.natAbs := by rw [ht, Int.natAbs_mul]
  have n2 : b.natAbs = g.natAbs * b'.natAbs := by rw [hb', Int.natAbs_mul]
  have gp : 0 < g.natAbs := by omega
  refine ⟨?_, ?_, ?_, ?_, ?_⟩
  · show 0 < b'
    rcases Int.lt_trichotomy b' 0 with h | h | h
    · exfalso
      rcases Int.lt_trichotomy b 0 with k | k | k
      · have := Int.mul_pos_of_neg_of_neg (hs.1 k) h
        omega
      · exact hb k
      · have := Int.mul_neg_of_pos_of_neg (hs.2 k) h
        omega
    · rw [h, Int.mul_zero] at hb'
      exact absurd hb' hb
    · exact h
  · show Nat.gcd t'.natAbs b'.natAbs = 1
    rw [n1, n2, Nat.gcd_mul_left] at ha
    have : g.natAbs * 1 = g.natAbs * Nat.gcd t'.natAbs b'.natAbs := by omega
    exact (Nat.eq_of_mul_eq_mul_left gp this).symm
  · show t * b' = b * t'
    rw [ht, hb', Int.mul_assoc, Int.mul_assoc, Int.mul_comm t' b']
  · show t'.natAbs ≤ t.natAbs
    rw [n1]
    exact Nat.le_mul_of_pos_left _ gp
  · show b'.natAbs ≤ b.natAbs
    rw [n2]
    exact Nat.le_mul_of_pos_left _ gp
theorem low_unique {t1 b1 t2 b2 : Int} (p1 : 0 < b1) (p2 : 0 < b2) (g1 : Nat.gcd t1.natAbs b1.natAbs = 1) (g2 : Nat.gcd t2.natAbs b2.natAbs = 1) (e : t1 * b2 = b1 * t2) : t1 = t2 ∧ b1 = b2 := by
  have en : t1.natAbs * b2.natAbs = b1.natAbs * t2.natAbs := by rw [← Int.natAbs_mul, ← Int.natAbs_mul, e]
  have d1 : b1.natAbs ∣ b2.natAbs := (show Nat.Coprime b1.natAbs t1.natAbs by rw [Nat.Coprime, Nat.gcd_comm]; exact g1).dvd_of_dvd_mul_left (by rw [en]; exact Nat.dvd_mul_right _ _)
  have d2 : b2.natAbs ∣ b1.natAbs := (show Nat.Coprime b2.natAbs t2.natAbs by rw [Nat.Coprime, Nat.gcd_comm]; exact g2).dvd_of_dvd_mul_right (by rw [← en]; exact Nat.dvd_mul_left _ _)
  have eb : b1 = b2 := by
    have := Nat.dvd_antisymm d1 d2
    omega
  subst eb
  rw [Int.mul_comm] at e
  exact ⟨Int.eq_of_mul_eq_mul_left (by omega) e, rfl⟩
theorem low_scale {t b k : Int} (hb : b ≠ 0) (hk : k ≠ 0) : low (t * k) (b * k) = low t b := by
  have A := low_ok (t := t * k) (b := b * k) (Int.mul_ne_zero hb hk)
  have B := low_ok (t := t) (b := b) hb
  have e1 : t * (low (t * k) (b * k)).2 = b * (low (t * k) (b * k)).1 := by
    have h := A.cross
    refine Int.eq_of_mul_eq_mul_left hk ?_
    rw [← Int.mul_assoc, ← Int.mul_assoc, Int.mul_comm k t, Int.mul_comm k b]
    exact h
  have h := low_unique A.pos B.pos A.co B.co (by
    refine Int.eq_of_mul_eq_mul_left hb ?_
    rw [← Int.mul_assoc, ← e1, Int.mul_assoc, Int.mul_comm _ (low t b).2, ← Int.mul_assoc, B.cross, Int.mul_assoc, Int.mul_comm (low t b).1])
  exact Prod.ext h.1 h.2
theorem low_self {t b : Int} (hb : 1 ≤ b) (hg : Nat.gcd t.natAbs b.natAbs = 1) : low t b = (t, b) := by
  have A := low_ok (t := t) (b := b) (by omega)
  have h := low_unique A.pos (show 0 < b by omega) A.co hg (by rw [Int.mul_comm, ← A.cross, Int.mul_comm])
  exact Prod.ext h.1 h.2
def frD (x : Int × Int) : PyData := .tuple [.int x.1, .int x.2]
/-- a pair of integers is a fraction just when it is its own lowest terms -/
theorem isFr_low {t b : Int} (hb : b ≠ 0) : isFr (frD (t, b)) = decide ((t, b) = low t b) := by
  show (decide (1 ≤ b) && decide (Nat.gcd t.natAbs b.natAbs = 1)) = _
  rw [Bool.eq_iff_iff]
  simp only [Bool.and_eq_true, decide_eq_true_eq]
  constructor
  · rintro ⟨h1, h2⟩
    rw [low_self h1 h2]
  · intro h
    have A := low_ok (t := t) hb
    rw [← h] at A
    exact ⟨A.pos, A.co⟩
theorem isFr_ok {t b : Int} (hb : b ≠ 0) : isFr (frD (low t b)) = true := by
  have A := low_ok (t := t) hb
  show (decide (1 ≤ (low t b).2) && decide (Nat.gcd (low t b).1.natAbs (low t b).2.natAbs = 1)) = true
  rw [decide_eq_true A.co, decide_eq_true (show 1 ≤ (low t b).2 from A.pos)]
  rfl
theorem isFr_many' {a b m : Int} (hm : 2 ≤ m) : isFr (frD (a * m, b * m)) = false := by
  show (decide (1 ≤ b * m) && decide (Nat.gcd (a * m).natAbs (b * m).natAbs = 1)) = false
  have h : Nat.gcd (a * m).natAbs (b * m).natAbs ≠ 1 := by
    rw [Int.natAbs_mul, Int.natAbs_mul, Nat.gcd_mul_right]
    intro h
    have := Nat.eq_one_of_mul_eq_one_left h
    omega
  rw [decide_eq_false h, Bool.and_false]
theorem isFr_neg {a b : Int} (hb : b ≤ 0) : isFr (frD (a, b)) = false := by
  show (decide (1 ≤ b) && decide (Nat.gcd a.natAbs b.natAbs = 1)) = false
  rw [decide_eq_false (by omega), Bool.false_and]
theorem isFr_zero {m : Int} (hm : 2 ≤ m) : isFr (frD (0, m)) = false := by
  have := isFr_many' (a := 0) (b := 1) hm
  rwa [Int.zero_mul, Int.one_mul] at this
theorem show_frac {x : Int × Int} (h1 : x.1.natAbs < 10 ^ 150) (h2 : x.2.natAbs < 10 ^ 150) : ShowOk (frD x) := by
  have hw : ∀ {i : Int}, i.natAbs < 10 ^ 150 → i.natAbs.log2 < 500 := fun {i} h => log_lt (b := 500) (Nat.lt_trans h (by decide +kernel)) (by decide)
  have hl : ∀ {i : Int}, i.natAbs < 10 ^ 150 → i.natAbs.log2 < 1920 := fun {i} h => Nat.lt_trans (hw h) (by decide)
  have hs : ∀ {i : Int}, i.natAbs < 10 ^ 150 → (PyData.shown (.int i)).length ≤ 200 := fun {i} h => by
    have e := int_text_length_le10 (k := 150) (by decide) h
    show (Str.ofString (toString i)).length ≤ 200
    rw [PySem.ofString_length]
    omega
  refine ⟨by simp [frD, PyData.showable, PyData.showableAll, hl h1, hl h2], by simp [frD, PyData.hasDict, PyData.hasDictAll], by simp [frD, PyData.depth, PyData.depthAll], ?_⟩
  refine Nat.le_trans (PyData.shown_le 200 (by decide) (frD x) (by simp [frD, PyData.leavesShort, PyData.leavesShortAll, hs h1, hs h2])) ?_
  have w1 := hw h1
  have w2 := hw h2
  have : (frD x).weight ≤ 1100 := by
    simp only [frD, PyData.weight, PyData.weightAll]
    split <;> split <;> omega
  rw [sizeLine_eq]
  omega
end K01
namespace K01
open PySem PySem.Spec PyProof.Rows L2
abbrev sSums : Stmt := top 22
/-- two fractions, their bottoms not nought -/
def spSums (K : PySem.W.Frag) : Sp := fun vs H Q _ => ∃ (p q : Addr) (x y : Int × Int), vs = [.ref p, .ref q] ∧ SqT K H p (frac x) ∧ SqT K H q (frac y) ∧
  x.1.natAbs < 2 ^ 100 ∧ x.2.natAbs < 2 ^ 100 ∧ y.1.natAbs < 2 ^ 100 ∧ y.2.natAbs < 2 ^ 100 ∧ x.2 ≠ 0 ∧ y.2 ≠ 0 ∧ ∀ H', Same H H' → Q (.bl true) H'
theorem low_small {t b : Int} (hb : b ≠ 0) (ht : t.natAbs < 2 ^ 400) (hb2 : b.natAbs < 2 ^ 400) : ShowOk (frD (low t b)) := by
  have A := low_ok (t := t) hb
  have h : (2 : Nat) ^ 400 < 10 ^ 150 := by decide +kernel
  exact show_frac (Nat.lt_of_le_of_lt A.le1 (Nat.lt_trans ht h)) (Nat.lt_of_le_of_lt A.le2 (Nat.lt_trans hb2 h))
theorem dp_frac {K : PySem.W.Frag} {H : Hp} {a : Addr} {x : Int × Int} (h : H a = some (.tup (frac x))) : Dp K H (.ref a) (frD x) := .tup (SqT.of h) (.cons (.int _) (.cons (.int _) .nil))
theorem show_small {i : Int} (h : i.natAbs < 10 ^ 12) : ShowOk (.int i) :=
  ⟨by simp only [PyData.showable, decide_eq_true_eq]; exact Nat.lt_trans (log_lt (b := 40) (Nat.lt_trans h (by decide)) (by decide)) (by decide), rfl, by simp [PyData.depth], Nat.le_trans (PyData.shown_int_le h) (by rw [sizeLine_eq]; decide)⟩
theorem not_dec {u v : V} (e : u = v) : (!decide (u = v)) = false := by rw [decide_eq_true e]; rfl
def sgn (g : Int) : Int := if g < 0 then -1 else if g > 0 then 1 else 0
theorem cmp_sgn (x y : Int × Int) : cmpF x y = sgn (x.1 * y.2 - y.1 * x.2) := by
  unfold cmpF sgn
  split <;> split <;> (try split) <;> first | rfl | omega
theorem due_reads {a b : Option V} {g : Int} {D : Ends} {H : Hp} (h : D.nx [a, b, some (.int g), some (.int (sgn g))] H) :
    tIfS (tTest (tOp rNe (tVar 2) (tC (.int 0)))) (tAsg (tIf (tTest (tOp (rI0 fun i j => .bl (decide (j < i))) (tVar 2) (tC (.int 0)))) (tC (.int 1)) (tOp (rI0 fun i j => .int (i - j)) (tC (.int 0)) (tC (.int 1)))) (gName 3)) tNext D [a, b, some (.int g), some (.int 0)] H := by
  refine ⟨_, rfl, rfl, _, rfl, ?_⟩
  by_cases z : g = 0
  · subst z
    exact iteF h
  · refine iteT' (by simp [z]) ?_
    refine ⟨_, rfl, _, _, rfl, rfl, _, rfl, ?_⟩
    by_cases zp : g > 0
    · refine iteT' (decide_eq_true zp) ?_
      have e : sgn g = 1 := by unfold sgn; rw [if_neg (by omega), if_pos zp]
      rw [e] at h
      exact h
    · refine iteF' (decide_eq_false zp) ?_
      have e : sgn g = -1 := by unfold sgn; rw [if_pos (by omega)]
      rw [e] at h
      exact ⟨_, _, rfl, rfl, h⟩
structure Uses (P : Program) (w : World) (K : PySem.W.Frag) (mg : Str → Option Value) (base : Heap) (CXg : CXT) (lev : Nat) (nm : Str) (ps : List Str) (f : Addr) (fd : FuncData) (sp : Sp) : Prop where
  ok : FnOk P w K mg base CXg lev f fd ps sp
  b : Binds K fd ps []
  k : PySem.W.keepIn K (.ref f) = true
  g : mg nm = some (.ref f)
section
variable {P : Program} {w : World} {K : PySem.W.Frag} {mg : Str → Option Value} {base : Heap} {fA fL fT fC fW : Addr} {fdA fdL fdT fdC fdW : FuncData}
theorem ok_sums {f : Addr} {fd : FuncData} (F : Fun K "_law_sums_right" "_law_sums_right" sSums f fd)
    (UA : Uses P w K mg base CX0 5 "added" ["one", "other"] fA fdA (spBin K addF)) (UL : Uses P w K mg base CX0 5 "less" ["one", "other"] fL fdL (spBin K lessF)) (UT : Uses P w K mg base CX0 5 "times" ["one", "other"] fT fdT (spBin K timesF))
    (UC : Uses P w K mg base CX0 1 "compared" ["one", "other"] fC fdC (spCmp K)) (UW : Uses P w K mg base CX0 1 "_law_low" ["top", "bottom"] fW fdW spLow)
    (kA : KBinds K fdA ["one", "other"] ["other", "one"] gRev gRev) (kL : KBinds K fdL ["one", "other"] ["other"] gOne gOne) (kC : KBinds K fdC ["one", "other"] ["one", "other"] gSame gSame) (zP : mg "repr" = none) :
    FnG P w K mg base CX0 6 f fd ["one", "other"] (spSums K) := by
  have sc : FnScope ["one", "other", "gap", "due"] ["one", "other"] (defScope sSums) := ⟨rfl, rfl, rfl, by decide +kernel, rfl, by decide +kernel, by decide +kernel⟩
  refine F.okG sc (fun vs H Q E ⟨_, _, _, _, e, _⟩ => by rw [e]; rfl) fun cv A outer s H vs Q E hg hr ⟨p, q, x, y, e, hp, hq, x1, x2, y1, y2, nx, ny, k⟩ => ?_
  subst e
  have hu : ((A.deeper (envOfC "_law_sums_right" (defScope sSums) s.heap.objs.size f cv))).units + 64 < cLine := hr.units
  have hr1 := hr.mono (show 1 ≤ 5 by decide)
  have showC : CallR (cxOf CX0 P w K mg base ["one", "other", "gap", "due"] "_law_sums_right" (defScope sSums) f cv A outer s H E).nox (.builtin "repr") (rShow K) := call_show hg hu
  refine ⟨_, pss_cons (ps_par (i := 2) (j := 3) rfl sc.nd rfl rfl (by decide) rfl rfl (pa_cons (pe_op op_sub (pe_op op_mulW (pe_ix ix_tup (pv 0) pe_int (fun _ _ => rfl)) (pe_ix ix_tup (pv 1) pe_int (fun _ _ => rfl))) (pe_op op_mulW (pe_ix ix_tup (pv 1) pe_int (fun _ _ => rfl)) (pe_ix ix_tup (pv 0) pe_int (fun _ _ => rfl)))) (pa_cons pe_int pa_nil)) rfl)
    (pss_cons (ps_if (pt_cmpR op_ne (pv 2) pe_int (nomark _)) (pss_one (ps_set (i := 3) sc.nd rfl (Or.inl rfl) (pe_ifExp (pt_cmpR op_gt (pv 2) pe_int (nomark _)) pe_int (pe_op op_sub pe_int pe_int)))) pss_nil)
    (pss_cons (ps_if (pt_cmpR op_ne
        (pe_callB (id := "repr") showC rfl zP (by decide +kernel) (pa_cons (pe_callK0 UA.ok hr rfl UA.g UA.k kA pass0 (pk_cons (pv 1) (pk_cons (pv 0) pk_nil))) pa_nil))
        (pe_callB (id := "repr") showC rfl zP (by decide +kernel) (pa_cons (pe_call UW.ok hr1 rfl UW.g UW.k UW.b .nil pass0
          (pa_cons (pe_op op_add (pe_op op_mulW (pe_ix ix_tup (pv 0) pe_int (fun _ _ => rfl)) (pe_ix ix_tup (pv 1) pe_int (fun _ _ => rfl))) (pe_op op_mulW (pe_ix ix_tup (pv 1) pe_int (fun _ _ => rfl)) (pe_ix ix_tup (pv 0) pe_int (fun _ _ => rfl))))
          (pa_cons (pe_op op_mulW (pe_ix ix_tup (pv 0) pe_int (fun _ _ => rfl)) (pe_ix ix_tup (pv 1) pe_int (fun _ _ => rfl))) pa_nil))) pa_nil)) (nomark _)) (pss_one (ps_ret pe_bl)) pss_nil)
    (pss_cons (ps_if (pt_cmpR op_ne
        (pe_callB (id := "repr") showC rfl zP (by decide +kernel) (pa_cons (pe_callK UL.ok hr rfl UL.g UL.k kL pass0 (pa_cons (pv 0) pa_nil) (pk_cons (pv 1) pk_nil)) pa_nil))
        (pe_callB (id := "repr") showC rfl zP (by decide +kernel) (pa_cons (pe_call UW.ok hr1 rfl UW.g UW.k UW.b .nil pass0
          (pa_cons (pv 2) (pa_cons (pe_op op_mulW (pe_ix ix_tup (pv 0) pe_int (fun _ _ => rfl)) (pe_ix ix_tup (pv 1) pe_int (fun _ _ => rfl))) pa_nil))) pa_nil)) (nomark _)) (pss_one (ps_ret pe_bl)) pss_nil)
    (pss_cons (ps_if (pt_cmpR op_ne
        (pe_callB (id := "repr") showC rfl zP (by decide +kernel) (pa_cons (pe_call UT.ok hr rfl UT.g UT.k UT.b .nil pass0 (pa_cons (pv 0) (pa_cons (pv 1) pa_nil))) pa_nil))
        (pe_callB (id := "repr") showC rfl zP (by decide +kernel) (pa_cons (pe_call UW.ok hr1 rfl UW.g UW.k UW.b .nil pass0
          (pa_cons (pe_op op_mulW (pe_ix ix_tup (pv 0) pe_int (fun _ _ => rfl)) (pe_ix ix_tup (pv 1) pe_int (fun _ _ => rfl)))
          (pa_cons (pe_op op_mulW (pe_ix ix_tup (pv 0) pe_int (fun _ _ => rfl)) (pe_ix ix_tup (pv 1) pe_int (fun _ _ => rfl))) pa_nil))) pa_nil)) (nomark _)) (pss_one (ps_ret pe_bl)) pss_nil)
    (pss_one (ps_ret (pe_and
        (pe_cmpR op_eq (pe_callB (id := "repr") showC rfl zP (by decide +kernel) (pa_cons (pe_call UC.ok hr1 rfl UC.g UC.k UC.b .nil pass0 (pa_cons (pv 0) (pa_cons (pv 1) pa_nil))) pa_nil)) (pe_callB (id := "repr") showC rfl zP (by decide +kernel) (pa_cons (pv 3) pa_nil)) (nomark _))
        (pe_one (pe_cmpR op_eq (pe_callB (id := "repr") showC rfl zP (by decide +kernel) (pa_cons (pe_callK0 UC.ok hr1 rfl UC.g UC.k kC pass0 (pk_cons (pv 0) (pk_cons (pv 0) pk_nil))) pa_nil)) pe_str (nomark _)))))))))), ?_⟩
  refine ⟨_, rfl, p, _, 0, _, rfl, rfl, hp, rfl, _, rfl, q, _, 1, _, rfl, rfl, hq, rfl, _, _, rfl, rfl, mulW x1 y2, _, rfl, q, _, 0, _, rfl, rfl, hq, rfl, _, rfl, p, _, 1, _, rfl, rfl, hp, rfl, _, _, rfl, rfl, mulW y1 x2, _, _, rfl, rfl, _, _, rfl, ?_⟩
  refine due_reads ?_
  rw [← cmp_sgn]
  -- the sum
  have bnd : ∀ {a b : Int}, a.natAbs < 2 ^ 100 → b.natAbs < 2 ^ 100 → (a * b).natAbs < 2 ^ 200 := fun h1 h2 => mul_lt h1 h2
  have bb := bnd x2 y2
  have nb := mul_ne nx ny
  have b1 := bnd x1 y2
  have b2 := bnd y1 x2
  have b3 := bnd x1 y1
  have up : ∀ {i : Int}, i.natAbs < 2 ^ 201 → i.natAbs < 2 ^ 400 := fun h => Nat.lt_trans h (by decide +kernel)
  have w2 : (2 : Nat) ^ 201 = 2 ^ 200 + 2 ^ 200 := by decide +kernel
  have okS : ∀ {t : Int}, t.natAbs < 2 ^ 201 → ShowOk (frD (low t (x.2 * y.2))) := fun {t} h => low_small nb (up h) (up (Nat.lt_trans bb (by decide +kernel)))
  have bbk : (x.2 * y.2).natAbs < 2 ^ 1000 := Nat.lt_trans bb (by decide +kernel)
  refine ⟨_, rfl, _, rfl, p, q, x, y, rfl, hp, hq, x1, x2, y1, y2, nx, ny, fun r nr => ?_⟩
  have S1 := same_new (o := .tup (frac (addF x y))) nr
  have hr' : upd H r (.tup (frac (addF x y))) r = _ := upd_same
  generalize upd H r (.tup (frac (addF x y))) = H1 at S1 hr'
  have hp1 := sqT_same S1 hp
  have hq1 := sqT_same S1 hq
  refine ⟨.ref r, frD (addF x y), rfl, dp_frac hr', okS (by omega), ?_⟩
  refine ⟨_, rfl, p, _, 0, _, rfl, rfl, hp1, rfl, _, rfl, q, _, 1, _, rfl, rfl, hq1, rfl, _, _, rfl, rfl, mulW x1 y2, _, rfl, q, _, 0, _, rfl, rfl, hq1, rfl, _, rfl, p, _, 1, _, rfl, rfl, hp1, rfl, _, _, rfl, rfl, mulW y1 x2, _, _, rfl, rfl, _, rfl, p, _, 1, _, rfl, rfl, hp1, rfl, _, rfl, q, _, 1, _, rfl, rfl, hq1, rfl, _, _, rfl, rfl, mulW x2 y2, ?_⟩
  refine ⟨_, _, rfl, nb, bbk, fun r2 nr2 => ?_⟩
  have S2 := same_new (o := .tup (frac (low (x.1 * y.2 + y.1 * x.2) (x.2 * y.2)))) nr2
  have hr2 : upd H1 r2 (.tup (frac (low (x.1 * y.2 + y.1 * x.2) (x.2 * y.2)))) r2 = _ := upd_same
  generalize upd H1 r2 (.tup (frac (low (x.1 * y.2 + y.1 * x.2) (x.2 * y.2)))) = H2 at S2 hr2
  refine ⟨.ref r2, frD (low (x.1 * y.2 + y.1 * x.2) (x.2 * y.2)), rfl, dp_frac hr2, okS (by omega), ?_⟩
  refine ⟨rfl, _, rfl, ?_⟩
  refine iteF' (not_dec rfl) ?_
  have S02 := Same.trans S1 S2
  have hp2 := sqT_same S02 hp
  have hq2 := sqT_same S02 hq
  -- the difference
  refine ⟨_, rfl, _, rfl, p, q, x, y, rfl, hp2, hq2, x1, x2, y1, y2, nx, ny, fun r3 nr3 => ?_⟩
  have S3 := same_new (o := .tup (frac (lessF x y))) nr3
  have hr3 : upd H2 r3 (.tup (frac (lessF x y))) r3 = _ := upd_same
  generalize upd H2 r3 (.tup (frac (lessF x y))) = H3 at S3 hr3
  have S03 := Same.trans S02 S3
  have hp3 := sqT_same S03 hp
  have hq3 := sqT_same S03 hq
  refine ⟨.ref r3, frD (lessF x y), rfl, dp_frac hr3, okS (by omega), ?_⟩
  refine ⟨_, rfl, _, rfl, p, _, 1, _, rfl, rfl, hp3, rfl, _, rfl, q, _, 1, _, rfl, rfl, hq3, rfl, _, _, rfl, rfl, mulW x2 y2, ?_⟩
  refine ⟨_, _, rfl, nb, bbk, fun r4 nr4 => ?_⟩
  have S4 := same_new (o := .tup (frac (low (x.1 * y.2 - y.1 * x.2) (x.2 * y.2)))) nr4
  have hr4 : upd H3 r4 (.tup (frac (low (x.1 * y.2 - y.1 * x.2) (x.2 * y.2)))) r4 = _ := upd_same
  generalize upd H3 r4 (.tup (frac (low (x.1 * y.2 - y.1 * x.2) (x.2 * y.2)))) = H4 at S4 hr4
  refine ⟨.ref r4, frD (low (x.1 * y.2 - y.1 * x.2) (x.2 * y.2)), rfl, dp_frac hr4, okS (by omega), ?_⟩
  refine ⟨rfl, _, rfl, ?_⟩
  refine iteF' (not_dec rfl) ?_
  have S04 := Same.trans S03 S4
  have hp4 := sqT_same S04 hp
  have hq4 := sqT_same S04 hq
  -- the product
  refine ⟨_, rfl, _, rfl, p, q, x, y, rfl, hp4, hq4, x1, x2, y1, y2, nx, ny, fun r5 nr5 => ?_⟩
  have S5 := same_new (o := .tup (frac (timesF x y))) nr5
  have hr5 : upd H4 r5 (.tup (frac (timesF x y))) r5 = _ := upd_same
  generalize upd H4 r5 (.tup (frac (timesF x y))) = H5 at S5 hr5
  have S05 := Same.trans S04 S5
  have hp5 := sqT_same S05 hp
  have hq5 := sqT_same S05 hq
  refine ⟨.ref r5, frD (timesF x y), rfl, dp_frac hr5, okS (by omega), ?_⟩
  refine ⟨_, rfl, p, _, 0, _, rfl, rfl, hp5, rfl, _, rfl, q, _, 0, _, rfl, rfl, hq5, rfl, _, _, rfl, rfl, mulW x1 y1, _, rfl, p, _, 1, _, rfl, rfl, hp5, rfl, _, rfl, q, _, 1, _, rfl, rfl, hq5, rfl, _, _, rfl, rfl, mulW x2 y2, ?_⟩
  refine ⟨_, _, rfl, nb, bbk, fun r6 nr6 => ?_⟩
  have S6 := same_new (o := .tup (frac (low (x.1 * y.1) (x.2 * y.2)))) nr6
  have hr6 : upd H5 r6 (.tup (frac (low (x.1 * y.1) (x.2 * y.2)))) r6 = _ := upd_same
  generalize upd H5 r6 (.tup (frac (low (x.1 * y.1) (x.2 * y.2)))) = H6 at S6 hr6
  refine ⟨.ref r6, frD (low (x.1 * y.1) (x.2 * y.2)), rfl, dp_frac hr6, okS (by omega), ?_⟩
  refine ⟨rfl, _, rfl, ?_⟩
  refine iteF' (not_dec rfl) ?_
  have S06 := Same.trans S05 S6
  have hp6 := sqT_same S06 hp
  have hq6 := sqT_same S06 hq
  -- the comparison
  have okC : ∀ u v : Int × Int, ShowOk (.int (cmpF u v)) := fun u v => by
    refine show_small ?_
    unfold cmpF
    split
    · decide
    · split <;> decide
  refine ⟨_, rfl, _, rfl, p, q, x, y, rfl, hp6, hq6, x1, x2, y1, y2, ?_⟩
  refine ⟨_, _, rfl, .int _, okC x y, ?_⟩
  refine ⟨_, rfl, _, _, rfl, .int _, okC x y, ?_⟩
  refine ⟨rfl, _, rfl, ?_⟩
  refine iteT' (decide_eq_true rfl) ?_
  refine ⟨_, rfl, _, rfl, p, p, x, x, rfl, hp6, hp6, x1, x2, x1, x2, ?_⟩
  refine ⟨_, _, rfl, .int _, okC x x, ?_⟩
  refine ⟨rfl, ?_⟩
  have e0 : cmpF x x = 0 := by unfold cmpF; rw [if_neg (by omega), if_neg (by omega)]
  rw [e0]
  have e1 : decide (V.str (PyData.int 0).shown = V.str (Str.ofString "0")) = true := by decide +kernel
  rw [e1]
  exact k _ S06
end
end K01
set_option maxHeartbeats 8000000
namespace K01
open PySem PySem.Spec PyProof.Rows L2 LamX
abbrev sLaw : Stmt := top 23
/-- a def whose code object is known -/
structure FunC (K : PySem.W.Frag) (x qual : Str) (st : Stmt) (f : Addr) (fd : FuncData) (c : Addr) : Prop where
  ex : ∃ (oc : Value) (od : Option Addr) (kV doc pm : Value) (an : Option Addr) (ct : Value) (osl : Array (Option Value)),
    fd = PySem.W.fnOf x qual (defArgs st) (defBody st) (defScope st) .none kV doc pm an (.ref c) ct ∧ K.lookup f = some ⟨oc, od, .func fd, osl⟩ ∧ PySem.W.codeIn K (.ref c) qual = true
def lamQ : Str := "law.<locals>." ++ "<lambda>"
def spLaw (K : PySem.W.Frag) (T : List (Addr × Str)) : Sp := fun vs H Q _ => ∃ (a : Addr) (ns : List Int), vs = [.ref a] ∧ SqL K H a (ns.map V.int) ∧ ns.length ≤ 63 ∧ Tabs T H ∧ ∀ H', Q (.bl true) H'
/-! ### what lasts -/
theorem Keep.tup {p q r : Addr} {H H' : Hp} {cs : List Int} {bl : Int} {xs : List V} (D : Deal H p q cs bl) (k : Keep p q H H') (h : H r = some (.tup xs)) : H' r = some (.tup xs) :=
  k r _ (fun e => by rw [e, D.hp] at h; cases h) (fun e => by rw [e, D.hq] at h; cases h) h
theorem Keep.tabs {p q : Addr} {H H' : Hp} {cs : List Int} {bl : Int} {T : List (Addr × Str)} (D : Deal H p q cs bl) (k : Keep p q H H') (t : Tabs T H) : Tabs T H' := by
  have go : ∀ b o, H b = some o → (∀ xs, o ≠ .lst xs) → H' b = some o := fun b o e n => k b o (fun z => by rw [z, D.hp] at e; exact n _ (Option.some.inj e).symm) (fun z => by rw [z, D.hq] at e; exact n _ (Option.some.inj e).symm) e
  intro x hx
  obtain ⟨ps, h1, h2, h3⟩ := t x hx
  refine ⟨ps, go _ _ h1 (fun _ z => by cases z), h2, fun pos cv hc => ?_⟩
  obtain ⟨c, e1, e2⟩ := h3 pos cv hc
  exact ⟨c, e1, go _ _ e2 (fun _ z => by unfold CodeO at z; cases z)⟩
theorem Deal.extN {p q : Addr} {H H' : Hp} {cs : List Int} {bl : Int} (D : Deal H p q cs bl) (e : ExtN H H') : Deal H' p q cs bl :=
  ⟨e _ _ D.hp (fun _ z => by cases z), e _ _ D.hq (fun _ z => by cases z), D.nn, D.b0, D.b1, D.ln⟩
theorem Tabs.same {T : List (Addr × Str)} {H H' : Hp} (t : Tabs T H) (s : Same H H') : Tabs T H' := t.ext s
theorem shaped_fr (x : Int × Int) : SeqAt.shaped (frD x) = true := by
  simp [frD, SeqAt.shaped, PyData.canLay0, PyData.canLayAll0, PyData.depth, PyData.depthAll]
theorem eqv_fr (x y : Int × Int) : (frD x).eqv (frD y) = decide (x = y) := by
  obtain ⟨a, b⟩ := x
  obtain ⟨c, d⟩ := y
  rw [Bool.eq_iff_iff]
  simp [frD, PyData.eqv, PyData.eqvAll]
theorem show_bool (b : Bool) : ShowOk (.bool b) := ⟨rfl, rfl, by simp [PyData.depth], by rw [PyData.shown_bool, sizeLine_eq]; cases b <;> decide⟩
theorem dpAll_at {K : PySem.W.Frag} {H : Hp} : ∀ {vs : List V} {ds : List PyData} {j : Nat} {v : V}, DpAll K H vs ds → vs[j]? = some v → ∃ d ∈ ds, Dp K H v d := by
  intro vs ds j v h hj
  induction ds generalizing vs j with
  | nil => cases h; simp at hj
  | cons d ds ih =>
    cases h with
    | cons h1 h2 =>
      cases j with
      | zero =>
        obtain rfl : _ = v := by simpa using hj
        exact ⟨d, List.mem_cons_self, h1⟩
      | succ j =>
        obtain ⟨e, he, hd⟩ := ih h2 (by simpa using hj)
        exact ⟨e, List.mem_cons_of_mem _ he, hd⟩
theorem wrong_all {x : Int × Int} {m : Int} (hx : 0 < x.2) (hm : 2 ≤ m) : ∀ d ∈ ([.list [.int x.1, .int x.2], frD (x.1 * m, x.2 * m), frD (x.1, 0 - x.2), frD (x.1, 0), .tuple [.int x.1, .int x.2, .int 1], .tuple [.int x.1], .none, .tuple [.bool true, .int x.2], .tuple [.int x.1, .bool true], .tuple [.str (Str.ofString (toString x.1)), .int x.2], .int 3, .str (Str.ofString "1/2"), frD (0, m), .tuple [frD (1, 2), .int 3], .tuple [], frD (0, 0)] : List PyData), isFr d = false := by
  intro d hd
  simp only [List.mem_cons, List.not_mem_nil, or_false] at hd
  rcases hd with rfl | rfl | rfl | rfl | rfl | rfl | rfl | rfl | rfl | rfl | rfl | rfl | rfl | rfl | rfl | rfl
  · rfl
  · exact isFr_many' hm
  · exact isFr_neg (by omega)
  · exact isFr_neg (by omega)
  all_goals first | rfl | exact isFr_zero hm | exact isFr_neg (by omega)
abbrev lX (P : Program) (w : World) (K : PySem.W.Frag) (mg : Str → Option Value) (base : Heap) (f cL : Addr) (A : Around) (outer : List Env) (s : Shared) (H : Hp) (E : XK) : Cx :=
  (cxOf CX0 P w K mg base ["script", "deal", "turn", "top", "bottom", "share", "one", "other", "many", "wrong", "value"] "law" (defScope sLaw) f (.ref cL) A outer s H E).nox
section
variable {P : Program} {w : World} {K : PySem.W.Frag} {mg : Str → Option Value} {base : Heap} {C Mx cL PL fD fI fB fW fM fS fF fY fR : Addr} {fdD fdI fdB fdW fdM fdS fdF fdY fdR : FuncData}
theorem ok_law {f : Addr} {fd : FuncData} (F : FunC K "law" "law" sLaw f fd cL) (TB : TabB base mg cL PL)
    (UD : Uses P w K mg base CX0 1 "_law_draw" ["script", "salt"] fD fdD (spDraw K)) (UI : Uses P w K mg base CX0 3 "_law_integer" ["deal"] fI fdI spInt) (UB : Uses P w K mg base CX0 4 "_law_bottom" ["deal"] fB fdB spBot)
    (UW : Uses P w K mg base CX0 1 "_law_low" ["top", "bottom"] fW fdW spLow) (UM : Uses P w K mg base (L2.CX P w) 4 "made" ["top", "bottom"] fM fdM (spMade C)) (kM : KBinds K fdM ["top", "bottom"] ["bottom", "top"] gRev gRev)
    (UF : Uses P w K mg base CX0 2 "is_fraction" ["value"] fF fdF (spIsF K)) (UY : Uses P w K mg base CX0 1 "_law_any" ["deal", "bound"] fY fdY spAny)
    (US : FnG P w K mg base CX0 6 fS fdS ["one", "other"] (spSums K)) (bS : Binds K fdS ["one", "other"] []) (kS : PySem.W.keepIn K (.ref fS) = true) (gS : mg "_law_sums_right" = some (.ref fS))
    (FR : Fun K "_law_refused" "_law_refused" sRef fR fdR) (bR : Binds K fdR ["work"] []) (gR : mg "_law_refused" = some (.ref fR)) (T : Cau K mg "InvalidQuestion" "MixError" C Mx)
    (zP : mg "repr" = none) (zS : mg "str" = none) (zR : mg "range" = none) : FnG P w K mg base CX0 7 f fd ["script"] (spLaw K [(PL, lamQ)]) := by
  have sc : FnScope ["script", "deal", "turn", "top", "bottom", "share", "one", "other", "many", "wrong", "value"] ["script"] (defScope sLaw) := ⟨rfl, rfl, rfl, by decide +kernel, rfl, by decide +kernel, by decide +kernel⟩
  obtain ⟨_, _, _, _, _, _, _, _, rfl, lk, hcd⟩ := F.ex
  refine fnG_of lk hcd sc (fun vs H Q E ⟨_, _, e, _⟩ => by rw [e]; rfl) fun A outer s H vs Q E hg hr ⟨a, ns, e, hS, hlen, hT, k⟩ => ?_
  subst e
  suffices h : ∃ t, PSs (lX P w K mg base f cL A outer s H E) (defBody sLaw) t ∧ t { nx := fun _ H' => Q .non H', rt := Q } (L2.start ["script", "deal", "turn", "top", "bottom", "share", "one", "other", "many", "wrong", "value"] [.ref a]) H by
    obtain ⟨t, h, q⟩ := h
    exact ⟨t, h.nox, q⟩
  have hu : ((A.deeper (envOfC "law" (defScope sLaw) s.heap.objs.size f (.ref cL)))).units + 64 < cLine := hr.units
  have hr1 := hr.mono (show 1 ≤ 6 by decide)
  have hr2 := hr.mono (show 2 ≤ 6 by decide)
  have hr3 := hr.mono (show 3 ≤ 6 by decide)
  have hr4 := hr.mono (show 4 ≤ 6 by decide)
  have showC : CallR (lX P w K mg base f cL A outer s H E) (.builtin "repr") (rShow K) := call_show hg hu
  have eqC : OpR (lX P w K mg base f cL A outer s H E) (compareOp .Eq) (rEqD K) := op_eqD hu
  obtain ⟨oc', od', kV', doc', pm', an', cdv', ct', osl', efR, lkR, hcR⟩ := FR.ex
  subst efR
  have lam1 : ∀ (p1 p2 p3 p4 p5 p6 p7 : Pos), PE (lX P w K mg base f cL A outer s H E) (.Call (.Name "_law_refused" p1) [.Lambda { posonlyargs := [], args := [], vararg := none, kwonlyargs := [], kw_defaults := [], kwarg := none, defaults := [] } (.Call (.Name "made" p2) [.Name "top" p3, .Constant (.int 0) 0 p4] [] p5) { kind := .function, names := [("top", .free), ("made", .globalImplicit)], isGenerator := false, isCoroutine := false, more := [] } p6] [] p7)
      (tLam [(PL, lamQ)] (TTRef C) (fun E' => tCall (spMade C) [] E' (tCons (tVar 3) (tCons (tC (.int 0)) tNil)))) := by
    intro p1 p2 p3 p4 p5 p6 p7
    exact pe_lamcall (k := 4) (a := "work") (Ng := ["work", "e"]) rfl gR FR.kp lkR hcR bR ⟨rfl, rfl, rfl, by decide +kernel, rfl, by decide +kernel, by decide +kernel⟩ rfl (.inl rfl) (ref_gives T) TB rfl (by exact List.mem_cons_self) (fun p hp _ => by rw [List.mem_singleton.mp hp]; rfl) hr
      (lamS_by (show lamSB (defScope sLaw) { kind := .function, names := [("top", .free), ("made", .globalImplicit)], isGenerator := false, isCoroutine := false, more := [] } = true by decide +kernel)) rfl (fun _ _ _ _ _ => rfl)
      (fun A' o' s' H' E' f' c' hr' => pe_call UM.ok hr' rfl UM.g UM.k UM.b .nil (passes_call (takes_of (E := E') rfl rfl rfl rfl) fun _ _ _ _ z => z) (pa_cons (pv 3) (pa_cons pe_int pa_nil)))
  have lam2 : ∀ (p1 p2 p3 p4 p5 p6 p7 p8 p9 : Pos), PE (lX P w K mg base f cL A outer s H E) (.Call (.Name "_law_refused" p1) [.Lambda { posonlyargs := [], args := [], vararg := none, kwonlyargs := [], kw_defaults := [], kwarg := none, defaults := [] } (.Call (.Name "made" p2) [] [⟨some "bottom", .Constant (.int 0) 0 p3, p4⟩, ⟨some "top", .Constant (.int 0) 0 p5, p6⟩] p7) { kind := .function, names := [("made", .globalImplicit)], isGenerator := false, isCoroutine := false, more := [] } p8] [] p9)
      (tLam [(PL, lamQ)] (TTRef C) (fun E' => tCallK0 (spMade C) gRev E' (tCons (tC (.int 0)) (tCons (tC (.int 0)) tNil)))) := by
    intro p1 p2 p3 p4 p5 p6 p7 p8 p9
    exact pe_lamcall (k := 4) (a := "work") (Ng := ["work", "e"]) rfl gR FR.kp lkR hcR bR ⟨rfl, rfl, rfl, by decide +kernel, rfl, by decide +kernel, by decide +kernel⟩ rfl (.inl rfl) (ref_gives T) TB rfl (by exact List.mem_cons_self) (fun p hp _ => by rw [List.mem_singleton.mp hp]; rfl) hr
      (lamS_by (show lamSB (defScope sLaw) { kind := .function, names := [("made", .globalImplicit)], isGenerator := false, isCoroutine := false, more := [] } = true by decide +kernel)) rfl (fun _ _ _ _ _ => rfl)
      (fun A' o' s' H' E' f' c' hr' => pe_callK0 UM.ok hr' rfl UM.g UM.k kM (passes_call (takes_of (E := E') rfl rfl rfl rfl) fun _ _ _ _ z => z) (pk_cons pe_int (pk_cons pe_int pk_nil)))
  refine ⟨_, pss_cons (ps_set (i := 1) sc.nd rfl (Or.inl rfl) (pe_call UD.ok hr1 rfl UD.g UD.k UD.b .nil pass0 (pa_cons (pv 0) (pa_cons pe_int pa_nil))))
    (pss_cons (ps_for PassesOwn.never rfl (pi_range1 rfl zR (pa_cons pe_int pa_nil)) (pg_name (i := 2) sc.nd rfl (Or.inl rfl))
      (pss_cons (ps_asg (pe_tup (pa_cons (pe_call UI.ok hr3 rfl UI.g UI.k UI.b .nil pass0 (pa_cons (pv 1) pa_nil)) (pa_cons (pe_call UB.ok hr4 rfl UB.g UB.k UB.b .nil pass0 (pa_cons (pv 1) pa_nil)) (pa_cons (pe_call UB.ok hr4 rfl UB.g UB.k UB.b .nil pass0 (pa_cons (pv 1) pa_nil)) pa_nil)))) (pg_tup rfl (pgs_cons (pg_name (i := 3) sc.nd rfl (Or.inr rfl)) (pgs_cons (pg_name (i := 4) sc.nd rfl (Or.inl rfl)) (pgs_cons (pg_name (i := 5) sc.nd rfl (Or.inl rfl)) pgs_nil)))))
      (pss_cons (ps_par (i := 6) (j := 7) rfl sc.nd rfl rfl (by decide) rfl rfl (pa_cons (pe_call UW.ok hr1 rfl UW.g UW.k UW.b .nil pass0 (pa_cons (pv 3) (pa_cons (pv 4) pa_nil))) (pa_cons (pe_call UW.ok hr1 rfl UW.g UW.k UW.b .nil pass0 (pa_cons (pe_call UI.ok hr3 rfl UI.g UI.k UI.b .nil pass0 (pa_cons (pv 1) pa_nil)) (pa_cons (pe_call UB.ok hr4 rfl UB.g UB.k UB.b .nil pass0 (pa_cons (pv 1) pa_nil)) pa_nil))) pa_nil)) rfl)
      (pss_cons (ps_if (PW.pt (pw_or (pt_cmpR op_ne (pe_callB (id := "repr") showC rfl zP (by decide +kernel) (pa_cons (pe_call UM.ok hr4 rfl UM.g UM.k UM.b .nil (passes_call LamX.takes0 fun _ _ _ _ z => z) (pa_cons (pv 3) (pa_cons (pv 4) pa_nil))) pa_nil)) (pe_callB (id := "repr") showC rfl zP (by decide +kernel) (pa_cons (pv 6) pa_nil)) (nomark _)) (pw_or1 (pt_cmpR op_ne (pe_callB (id := "repr") showC rfl zP (by decide +kernel) (pa_cons (pe_callK0 UM.ok hr4 rfl UM.g UM.k kM (passes_call LamX.takes0 fun _ _ _ _ z => z) (pk_cons (pe_op op_mulW (pv 4) (pv 5)) (pk_cons (pe_op op_mulW (pv 3) (pv 5)) pk_nil))) pa_nil)) (pe_callB (id := "repr") showC rfl zP (by decide +kernel) (pa_cons (pv 6) pa_nil)) (nomark _))))) (pss_one (ps_ret pe_bl)) pss_nil)
      (pss_cons (ps_if (PW.pt (pw_or (pt_not (pt_val (pe_callG US hg hr rfl gS kS bS .nil pass0 (pa_cons (pv 6) (pa_cons (pv 7) pa_nil))))) (pw_or1 (pt_not (pt_val (pe_callG US hg hr rfl gS kS bS .nil pass0 (pa_cons (pv 7) (pa_cons (pe_call UW.ok hr1 rfl UW.g UW.k UW.b .nil pass0 (pa_cons (pe_op op_add (pe_ix ix_tup (pv 7) pe_int (fun _ _ => rfl)) pe_int) (pa_cons (pe_ix ix_tup (pv 7) pe_int (fun _ _ => rfl)) pa_nil))) pa_nil)))))))) (pss_one (ps_ret pe_bl)) pss_nil)
      (pss_cons (ps_if (PW.pt (pw_or (pt_cmpR op_notBl (pe_call UF.ok hr2 rfl UF.g UF.k UF.b .nil pass0 (pa_cons (pv 6) pa_nil)) pe_bl (nomark _)) (pw_or1 (pt_cmpR op_ne (pe_callB (id := "repr") showC rfl zP (by decide +kernel) (pa_cons (pe_call UF.ok hr2 rfl UF.g UF.k UF.b .nil pass0 (pa_cons (pe_tup (pa_cons (pv 3) (pa_cons (pv 4) pa_nil))) pa_nil)) pa_nil)) (pe_callB (id := "repr") showC rfl zP (by decide +kernel) (pa_cons (pe_cmpR eqC (pe_tup (pa_cons (pv 3) (pa_cons (pv 4) pa_nil))) (pv 6) (nomark _)) pa_nil)) (nomark _))))) (pss_one (ps_ret pe_bl)) pss_nil)
      (pss_cons (ps_set (i := 8) sc.nd rfl (Or.inl rfl) (pe_op op_add pe_int (pe_call UY.ok hr1 rfl UY.g UY.k UY.b .nil pass0 (pa_cons (pv 1) (pa_cons pe_int pa_nil)))))
      (pss_cons (ps_set (i := 9) sc.nd rfl (Or.inl rfl) (pe_lst (pa_cons (pe_lst (pa_cons (pe_ix ix_tup (pv 6) pe_int (fun _ _ => rfl)) (pa_cons (pe_ix ix_tup (pv 6) pe_int (fun _ _ => rfl)) pa_nil))) (pa_cons (pe_tup (pa_cons (pe_op op_mul (pe_ix ix_tup (pv 6) pe_int (fun _ _ => rfl)) (pv 8)) (pa_cons (pe_op op_mul (pe_ix ix_tup (pv 6) pe_int (fun _ _ => rfl)) (pv 8)) pa_nil))) (pa_cons (pe_tup (pa_cons (pe_ix ix_tup (pv 6) pe_int (fun _ _ => rfl)) (pa_cons (pe_op op_sub pe_int (pe_ix ix_tup (pv 6) pe_int (fun _ _ => rfl))) pa_nil))) (pa_cons (pe_tup (pa_cons (pe_ix ix_tup (pv 6) pe_int (fun _ _ => rfl)) (pa_cons pe_int pa_nil))) (pa_cons (pe_op op_catT (pv 6) (pe_tup (pa_cons pe_int pa_nil))) (pa_cons (pe_tup (pa_cons (pe_ix ix_tup (pv 6) pe_int (fun _ _ => rfl)) pa_nil)) (pa_cons pe_non pa_nil)))))))))
      (pss_cons (ps_set (i := 9) sc.nd rfl (Or.inl rfl) (pe_op op_cat (pv 9) (pe_lst (pa_cons (pe_tup (pa_cons pe_bl (pa_cons (pe_ix ix_tup (pv 6) pe_int (fun _ _ => rfl)) pa_nil))) (pa_cons (pe_tup (pa_cons (pe_ix ix_tup (pv 6) pe_int (fun _ _ => rfl)) (pa_cons pe_bl pa_nil))) (pa_cons (pe_tup (pa_cons (pe_callTy call_str_int rfl zS (by decide +kernel) (pa_cons (pe_ix ix_tup (pv 6) pe_int (fun _ _ => rfl)) pa_nil)) (pa_cons (pe_ix ix_tup (pv 6) pe_int (fun _ _ => rfl)) pa_nil))) (pa_cons pe_int (pa_cons pe_str (pa_cons (pe_tup (pa_cons pe_int (pa_cons (pv 8) pa_nil))) (pa_cons (pe_tup (pa_cons (pe_tup (pa_cons pe_int (pa_cons pe_int pa_nil))) (pa_cons pe_int pa_nil))) (pa_cons (pe_tup pa_nil) (pa_cons (pe_tup (pa_cons pe_int (pa_cons pe_int pa_nil))) pa_nil))))))))))))
      (pss_cons (ps_for PassesOwn.never rfl (pi_list (pv 9)) (pg_name (i := 10) sc.nd rfl (Or.inl rfl)) (pss_one (ps_if (pt_cmpR op_notBl (pe_call UF.ok hr2 rfl UF.g UF.k UF.b .nil pass0 (pa_cons (pv 10) pa_nil)) pe_bl (nomark _)) (pss_one (ps_ret pe_bl)) pss_nil)))
      (pss_cons (ps_if (pt_cmpR op_ne (lam1 _ _ _ _ _ _ _) pe_int (nomark _)) (pss_one (ps_ret pe_bl)) pss_nil)
      (pss_one (ps_if (pt_cmpR op_ne (lam2 _ _ _ _ _ _ _ _ _) pe_int (nomark _)) (pss_one (ps_ret pe_bl)) pss_nil)))))))))))))
    (pss_one (ps_ret pe_bl))), ?_⟩
  refine ⟨_, rfl, a, 1, ns, rfl, hS, hlen, by decide, by decide, fun p q cs0 bl0 H0 S0 np nq D0 => ?_⟩
  refine ⟨4, rfl, by decide, by decide, for_range (lo := 0) (n := 4) (fun i σ H' => ∃ (cs : List Int) (bl : Int) (v2 v3 v4 v5 v6 v7 v8 v9 v10 : Option V), σ = [some (.ref a), some (.ref p), v2, v3, v4, v5, v6, v7, v8, v9, v10] ∧ Deal H' p q cs bl ∧ Tabs [(PL, lamQ)] H') ⟨cs0, bl0, _, _, _, _, _, _, _, _, _, rfl, D0, Tabs.same hT S0⟩ ?_ ?_⟩
  · rintro i σ H1 hi ⟨cs1, bl1, v2, v3, v4, v5, v6, v7, v8, v9, v10, rfl, D1, T1⟩
    refine ⟨_, rfl, p, q, cs1, bl1, rfl, D1, fun t G1 csG1 blG1 ht DG1 kG1 => ?_⟩
    have TG1 := Keep.tabs D1 kG1 T1
    refine ⟨_, rfl, p, q, csG1, blG1, rfl, DG1, fun b G2 csG2 blG2 zb hb DG2 kG2 => ?_⟩
    have TG2 := Keep.tabs DG1 kG2 TG1
    refine ⟨_, rfl, p, q, csG2, blG2, rfl, DG2, fun sh G3 csG3 blG3 zsh hsh DG3 kG3 => ?_⟩
    have TG3 := Keep.tabs DG2 kG3 TG2
    refine ⟨(by show 3 ≤ sizeLine; decide), fun r0 nr0 => ?_⟩
    refine ⟨r0, _, rfl, SqT.of upd_same, rfl, ?_⟩
    refine ⟨_, _, rfl, _, _, rfl, _, _, rfl, rfl, ?_⟩
    have S_r0 := same_new (o := .tup [.int t, .int b, .int sh]) nr0
    have hr0 : upd G3 r0 (.tup [.int t, .int b, .int sh]) r0 = some (.tup [.int t, .int b, .int sh]) := upd_same
    generalize upd G3 r0 (.tup [.int t, .int b, .int sh]) = G4 at S_r0 hr0 ⊢
    have DG4 := DG3.same S_r0
    have TG4 := Tabs.same TG3 S_r0
    refine ⟨_, rfl, _, rfl, t, b, rfl, zb, (Nat.lt_trans hb (by decide +kernel)), fun r1 nr1 => ?_⟩
    have A1 := low_ok (t := t) zb
    have f1 := isFr_ok (t := t) zb
    have e1 := isFr_low (t := t) zb
    generalize hx : low t b = x at A1 f1 e1 ⊢
    try dsimp only at nr1 ⊢
    have S_r1 := same_new (o := .tup (frac x)) nr1
    have hr1 : upd G4 r1 (.tup (frac x)) r1 = some (.tup (frac x)) := upd_same
    generalize upd G4 r1 (.tup (frac x)) = G5 at S_r1 hr1 ⊢
    have DG5 := DG4.same S_r1
    have TG5 := Tabs.same TG4 S_r1
    refine ⟨_, rfl, p, q, csG3, blG3, rfl, DG5, fun t2 G6 csG6 blG6 ht2 DG6 kG6 => ?_⟩
    have TG6 := Keep.tabs DG5 kG6 TG5
    have r1_G6 := Keep.tup DG5 kG6 hr1
    refine ⟨_, rfl, p, q, csG6, blG6, rfl, DG6, fun b2 G7 csG7 blG7 zb2 hb2 DG7 kG7 => ?_⟩
    have TG7 := Keep.tabs DG6 kG7 TG6
    have r1_G7 := Keep.tup DG6 kG7 r1_G6
    refine ⟨t2, b2, rfl, zb2, (Nat.lt_trans hb2 (by decide +kernel)), fun r2 nr2 => ?_⟩
    have A2 := low_ok (t := t2) zb2
    generalize low t2 b2 = y at A2 ⊢
    try dsimp only at nr2 ⊢
    have S_r2 := same_new (o := .tup (frac y)) nr2
    have hr2 : upd G7 r2 (.tup (frac y)) r2 = some (.tup (frac y)) := upd_same
    generalize upd G7 r2 (.tup (frac y)) = G8 at S_r2 hr2 ⊢
    have DG8 := DG7.same S_r2
    have TG8 := Tabs.same TG7 S_r2
    have r1_G8 := S_r2 _ _ r1_G7
    refine ⟨_, _, rfl, ?_⟩
    have bx1 : x.1.natAbs < 2 ^ 60 := Nat.lt_of_le_of_lt A1.le1 ht
    have bx2 : x.2.natAbs < 2 ^ 60 := Nat.lt_of_le_of_lt A1.le2 hb
    have by1 : y.1.natAbs < 2 ^ 60 := Nat.lt_of_le_of_lt A2.le1 ht2
    have by2 : y.2.natAbs < 2 ^ 60 := Nat.lt_of_le_of_lt A2.le2 hb2
    have nx : x.2 ≠ 0 := Int.ne_of_gt A1.pos
    have ny : y.2 ≠ 0 := Int.ne_of_gt A2.pos
    have up : ∀ {i : Int}, i.natAbs < 2 ^ 60 → i.natAbs < 2 ^ 100 := fun h => Nat.lt_trans h (by decide +kernel)
    have ud : ∀ {i : Int}, i.natAbs < 2 ^ 60 → i.natAbs < 10 ^ 150 := fun h => Nat.lt_trans h (by decide +kernel)
    have okx : ShowOk (frD x) := show_frac (ud bx1) (ud bx2)
    refine ⟨_, rfl, _, rfl, t, b, rfl, (Nat.lt_trans hb (by decide +kernel)), fun z => absurd z zb, fun _ r3 nr3 => ?_⟩
    rw [hx]
    try dsimp only at nr3 ⊢
    have S_r3 := same_new (o := .tup (frac x)) nr3
    have hr3 : upd G8 r3 (.tup (frac x)) r3 = some (.tup (frac x)) := upd_same
    generalize upd G8 r3 (.tup (frac x)) = G9 at S_r3 hr3 ⊢
    have DG9 := DG8.same S_r3
    have TG9 := Tabs.same TG8 S_r3
    have r1_G9 := S_r3 _ _ r1_G8
    have r2_G9 := S_r3 _ _ hr2
    refine ⟨.ref r3, frD x, rfl, dp_frac hr3, okx, ?_⟩
    refine ⟨_, rfl, .ref r1, frD x, rfl, dp_frac r1_G9, okx, ?_⟩
    refine ⟨rfl, _, rfl, ?_⟩
    refine iteF' (not_dec rfl) ?_
    refine ⟨_, rfl, _, rfl, _, _, rfl, rfl, mulW (up hb) (up hsh), _, rfl, _, rfl, _, _, rfl, rfl, mulW (up ht) (up hsh), ?_⟩
    refine ⟨t * sh, b * sh, rfl, (Nat.lt_trans (mul_lt hb hsh) (by decide +kernel)), fun z => absurd z (mul_ne zb zsh), fun _ r4 nr4 => ?_⟩
    rw [low_scale zb zsh, hx]
    try dsimp only at nr4 ⊢
    have S_r4 := same_new (o := .tup (frac x)) nr4
    have hr4 : upd G9 r4 (.tup (frac x)) r4 = some (.tup (frac x)) := upd_same
    generalize upd G9 r4 (.tup (frac x)) = G10 at S_r4 hr4 ⊢
    have DG10 := DG9.same S_r4
    have TG10 := Tabs.same TG9 S_r4
    have r1_G10 := S_r4 _ _ r1_G9
    have r2_G10 := S_r4 _ _ r2_G9
    refine ⟨.ref r4, frD x, rfl, dp_frac hr4, okx, ?_⟩
    refine ⟨_, rfl, .ref r1, frD x, rfl, dp_frac r1_G10, okx, ?_⟩
    refine ⟨rfl, _, rfl, ?_⟩
    refine iteF' (not_dec rfl) ?_
    refine ⟨_, rfl, _, rfl, r1, r2, x, y, rfl, SqT.of r1_G10, SqT.of r2_G10, up bx1, up bx2, up by1, up by2, nx, ny, fun G11 SG11 => ?_⟩
    have DG11 := DG10.same SG11
    have TG11 := Tabs.same TG10 SG11
    have r1_G11 := SG11 _ _ r1_G10
    have r2_G11 := SG11 _ _ r2_G10
    refine ⟨_, rfl, ?_⟩
    refine iteF ?_
    refine ⟨_, rfl, _, rfl, r2, _, 0, _, rfl, rfl, SqT.of r2_G11, rfl, _, _, rfl, rfl, _, rfl, r2, _, 1, _, rfl, rfl, SqT.of r2_G11, rfl, ?_⟩
    have by3 : (y.1 + 1).natAbs < 2 ^ 61 := by omega
    refine ⟨y.1 + 1, y.2, rfl, ny, (Nat.lt_trans by2 (by decide +kernel)), fun r5 nr5 => ?_⟩
    have A3 := low_ok (t := y.1 + 1) ny
    generalize low (y.1 + 1) y.2 = z at A3 ⊢
    try dsimp only at nr5 ⊢
    have S_r5 := same_new (o := .tup (frac z)) nr5
    have hr5 : upd G11 r5 (.tup (frac z)) r5 = some (.tup (frac z)) := upd_same
    generalize upd G11 r5 (.tup (frac z)) = G12 at S_r5 hr5 ⊢
    have DG12 := DG11.same S_r5
    have TG12 := Tabs.same TG11 S_r5
    have r1_G12 := S_r5 _ _ r1_G11
    have r2_G12 := S_r5 _ _ r2_G11
    refine ⟨r2, r5, y, z, rfl, SqT.of r2_G12, SqT.of hr5, up by1, up by2, Nat.lt_of_le_of_lt A3.le1 (Nat.lt_trans by3 (by decide +kernel)), Nat.lt_of_le_of_lt A3.le2 (up by2), ny, Int.ne_of_gt A3.pos, fun G13 SG13 => ?_⟩
    have DG13 := DG12.same SG13
    have TG13 := Tabs.same TG12 SG13
    have r1_G13 := SG13 _ _ r1_G12
    have r2_G13 := SG13 _ _ r2_G12
    refine ⟨_, rfl, ?_⟩
    refine iteF ?_
    refine ⟨_, rfl, .ref r1, frD x, rfl, dp_frac r1_G13, ?_⟩
    refine ⟨_, _, rfl, rfl, _, rfl, ?_⟩
    refine iteF' (by rw [f1]; rfl) ?_
    refine ⟨_, rfl, _, rfl, (by show 2 ≤ sizeLine; decide), fun r6 nr6 => ?_⟩
    try dsimp only at nr6 ⊢
    have S_r6 := same_new (o := .tup [.int t, .int b]) nr6
    have hr6 : upd G13 r6 (.tup [.int t, .int b]) r6 = some (.tup [.int t, .int b]) := upd_same
    generalize upd G13 r6 (.tup [.int t, .int b]) = G14 at S_r6 hr6 ⊢
    have DG14 := DG13.same S_r6
    have TG14 := Tabs.same TG13 S_r6
    have r1_G14 := S_r6 _ _ r1_G13
    refine ⟨.ref r6, frD (t, b), rfl, dp_frac (x := (t, b)) hr6, ?_⟩
    refine ⟨.bl _, .bool _, rfl, .bl _, show_bool _, ?_⟩
    refine ⟨_, rfl, _, rfl, (by show 2 ≤ sizeLine; decide), fun r7 nr7 => ?_⟩
    try dsimp only at nr7 ⊢
    have S_r7 := same_new (o := .tup [.int t, .int b]) nr7
    have hr7 : upd G14 r7 (.tup [.int t, .int b]) r7 = some (.tup [.int t, .int b]) := upd_same
    generalize upd G14 r7 (.tup [.int t, .int b]) = G15 at S_r7 hr7 ⊢
    have DG15 := DG14.same S_r7
    have TG15 := Tabs.same TG14 S_r7
    have r1_G15 := S_r7 _ _ r1_G14
    refine ⟨_, rfl, frD (t, b), frD x, dp_frac (x := (t, b)) hr7, dp_frac r1_G15, shaped_fr _, shaped_fr _, ?_⟩
    refine ⟨.bl _, .bool _, rfl, .bl _, show_bool _, ?_⟩
    refine ⟨rfl, _, rfl, ?_⟩
    refine iteF' (not_dec (by rw [eqv_fr, e1])) ?_
    refine ⟨_, rfl, p, q, csG7, blG7, 5, rfl, DG15, by decide, by decide, fun m0 G16 csG16 blG16 m00 m01 DG16 kG16 => ?_⟩
    have TG16 := Keep.tabs DG15 kG16 TG15
    have r1_G16 := Keep.tup DG15 kG16 r1_G15
    refine ⟨_, _, rfl, rfl, ?_⟩
    dsimp only
    have hm : 2 ≤ 2 + m0 := by omega
    have hm2 : 2 + m0 < 100 := by omega
    generalize 2 + m0 = m at hm hm2 ⊢
    refine ⟨_, rfl, r1, _, 0, _, rfl, rfl, SqT.of r1_G16, rfl, _, rfl, r1, _, 1, _, rfl, rfl, SqT.of r1_G16, rfl, (by show 2 ≤ sizeLine; decide), fun l0 nl0 => ?_⟩
    try dsimp only at nl0 ⊢
    have S_l0 := same_new (o := .lst [.int x.1, .int x.2]) nl0
    have hl0 : upd G16 l0 (.lst [.int x.1, .int x.2]) l0 = some (.lst [.int x.1, .int x.2]) := upd_same
    generalize upd G16 l0 (.lst [.int x.1, .int x.2]) = G17 at S_l0 hl0 ⊢
    have DG17 := DG16.same S_l0
    have TG17 := Tabs.same TG16 S_l0
    have r1_G17 := S_l0 _ _ r1_G16
    refine ⟨_, rfl, r1, _, 0, _, rfl, rfl, SqT.of r1_G17, rfl, _, rfl, _, _, rfl, rfl, .inr ⟨by omega, by omega⟩, _, rfl, r1, _, 1, _, rfl, rfl, SqT.of r1_G17, rfl, _, rfl, _, _, rfl, rfl, .inr ⟨by omega, by omega⟩, (by show 2 ≤ sizeLine; decide), fun l1 nl1 => ?_⟩
    try dsimp only at nl1 ⊢
    have S_l1 := same_new (o := .tup [.int (x.1 * m), .int (x.2 * m)]) nl1
    have hl1 : upd G17 l1 (.tup [.int (x.1 * m), .int (x.2 * m)]) l1 = some (.tup [.int (x.1 * m), .int (x.2 * m)]) := upd_same
    generalize upd G17 l1 (.tup [.int (x.1 * m), .int (x.2 * m)]) = G18 at S_l1 hl1 ⊢
    have DG18 := DG17.same S_l1
    have TG18 := Tabs.same TG17 S_l1
    have r1_G18 := S_l1 _ _ r1_G17
    have l0_G18 := S_l1 _ _ hl0
    refine ⟨_, rfl, r1, _, 0, _, rfl, rfl, SqT.of r1_G18, rfl, _, rfl, r1, _, 1, _, rfl, rfl, SqT.of r1_G18, rfl, _, _, rfl, rfl, (by show 2 ≤ sizeLine; decide), fun l2 nl2 => ?_⟩
    try dsimp only at nl2 ⊢
    have S_l2 := same_new (o := .tup [.int x.1, .int (0 - x.2)]) nl2
    have hl2 : upd G18 l2 (.tup [.int x.1, .int (0 - x.2)]) l2 = some (.tup [.int x.1, .int (0 - x.2)]) := upd_same
    generalize upd G18 l2 (.tup [.int x.1, .int (0 - x.2)]) = G19 at S_l2 hl2 ⊢
    have DG19 := DG18.same S_l2
    have TG19 := Tabs.same TG18 S_l2
    have r1_G19 := S_l2 _ _ r1_G18
    have l0_G19 := S_l2 _ _ l0_G18
    have l1_G19 := S_l2 _ _ hl1
    refine ⟨_, rfl, r1, _, 0, _, rfl, rfl, SqT.of r1_G19, rfl, (by show 2 ≤ sizeLine; decide), fun l3 nl3 => ?_⟩
    try dsimp only at nl3 ⊢
    have S_l3 := same_new (o := .tup [.int x.1, .int 0]) nl3
    have hl3 : upd G19 l3 (.tup [.int x.1, .int 0]) l3 = some (.tup [.int x.1, .int 0]) := upd_same
    generalize upd G19 l3 (.tup [.int x.1, .int 0]) = G20 at S_l3 hl3 ⊢
    have DG20 := DG19.same S_l3
    have TG20 := Tabs.same TG19 S_l3
    have r1_G20 := S_l3 _ _ r1_G19
    have l0_G20 := S_l3 _ _ l0_G19
    have l1_G20 := S_l3 _ _ l1_G19
    have l2_G20 := S_l3 _ _ hl2
    refine ⟨_, rfl, (by show 1 ≤ sizeLine; decide), fun c4 nc4 => ?_⟩
    try dsimp only at nc4 ⊢
    have S_c4 := same_new (o := .tup [.int 1]) nc4
    have hc4 : upd G20 c4 (.tup [.int 1]) c4 = some (.tup [.int 1]) := upd_same
    generalize upd G20 c4 (.tup [.int 1]) = G21 at S_c4 hc4 ⊢
    have DG21 := DG20.same S_c4
    have TG21 := Tabs.same TG20 S_c4
    have r1_G21 := S_c4 _ _ r1_G20
    have l0_G21 := S_c4 _ _ l0_G20
    have l1_G21 := S_c4 _ _ l1_G20
    have l2_G21 := S_c4 _ _ l2_G20
    have l3_G21 := S_c4 _ _ hl3
    refine ⟨r1, c4, frac x, [.int 1], rfl, rfl, SqT.of r1_G21, SqT.of hc4, List.cons_ne_nil _ _, (by show 3 ≤ sizeLine; decide), fun z => absurd z (List.cons_ne_nil _ _), fun _ l4 nl4 => ?_⟩
    try dsimp only at nl4 ⊢
    have S_l4 := same_new (o := .tup (frac x ++ [.int 1])) nl4
    have hl4 : upd G21 l4 (.tup (frac x ++ [.int 1])) l4 = some (.tup (frac x ++ [.int 1])) := upd_same
    generalize upd G21 l4 (.tup (frac x ++ [.int 1])) = G22 at S_l4 hl4 ⊢
    have DG22 := DG21.same S_l4
    have TG22 := Tabs.same TG21 S_l4
    have r1_G22 := S_l4 _ _ r1_G21
    have l0_G22 := S_l4 _ _ l0_G21
    have l1_G22 := S_l4 _ _ l1_G21
    have l2_G22 := S_l4 _ _ l2_G21
    have l3_G22 := S_l4 _ _ l3_G21
    have c4_G22 := S_l4 _ _ hc4
    refine ⟨_, rfl, r1, _, 0, _, rfl, rfl, SqT.of r1_G22, rfl, (by show 1 ≤ sizeLine; decide), fun l5 nl5 => ?_⟩
    try dsimp only at nl5 ⊢
    have S_l5 := same_new (o := .tup [.int x.1]) nl5
    have hl5 : upd G22 l5 (.tup [.int x.1]) l5 = some (.tup [.int x.1]) := upd_same
    generalize upd G22 l5 (.tup [.int x.1]) = G23 at S_l5 hl5 ⊢
    have DG23 := DG22.same S_l5
    have TG23 := Tabs.same TG22 S_l5
    have r1_G23 := S_l5 _ _ r1_G22
    have l0_G23 := S_l5 _ _ l0_G22
    have l1_G23 := S_l5 _ _ l1_G22
    have l2_G23 := S_l5 _ _ l2_G22
    have l3_G23 := S_l5 _ _ l3_G22
    have c4_G23 := S_l5 _ _ c4_G22
    have l4_G23 := S_l5 _ _ hl4
    refine ⟨(by show 7 ≤ sizeLine; decide), fun w1 nw1 => ?_⟩
    try dsimp only at nw1 ⊢
    have S_w1 := same_new (o := .lst [.ref l0, .ref l1, .ref l2, .ref l3, .ref l4, .ref l5, .non]) nw1
    have hw1 : upd G23 w1 (.lst [.ref l0, .ref l1, .ref l2, .ref l3, .ref l4, .ref l5, .non]) w1 = some (.lst [.ref l0, .ref l1, .ref l2, .ref l3, .ref l4, .ref l5, .non]) := upd_same
    generalize upd G23 w1 (.lst [.ref l0, .ref l1, .ref l2, .ref l3, .ref l4, .ref l5, .non]) = G24 at S_w1 hw1 ⊢
    have DG24 := DG23.same S_w1
    have TG24 := Tabs.same TG23 S_w1
    have r1_G24 := S_w1 _ _ r1_G23
    have l0_G24 := S_w1 _ _ l0_G23
    have l1_G24 := S_w1 _ _ l1_G23
    have l2_G24 := S_w1 _ _ l2_G23
    have l3_G24 := S_w1 _ _ l3_G23
    have c4_G24 := S_w1 _ _ c4_G23
    have l4_G24 := S_w1 _ _ l4_G23
    have l5_G24 := S_w1 _ _ hl5
    refine ⟨_, rfl, _, rfl, r1, _, 1, _, rfl, rfl, SqT.of r1_G24, rfl, (by show 2 ≤ sizeLine; decide), fun l6 nl6 => ?_⟩
    try dsimp only at nl6 ⊢
    have S_l6 := same_new (o := .tup [.bl true, .int x.2]) nl6
    have hl6 : upd G24 l6 (.tup [.bl true, .int x.2]) l6 = some (.tup [.bl true, .int x.2]) := upd_same
    generalize upd G24 l6 (.tup [.bl true, .int x.2]) = G25 at S_l6 hl6 ⊢
    have DG25 := DG24.same S_l6
    have TG25 := Tabs.same TG24 S_l6
    have r1_G25 := S_l6 _ _ r1_G24
    have l0_G25 := S_l6 _ _ l0_G24
    have l1_G25 := S_l6 _ _ l1_G24
    have l2_G25 := S_l6 _ _ l2_G24
    have l3_G25 := S_l6 _ _ l3_G24
    have c4_G25 := S_l6 _ _ c4_G24
    have l4_G25 := S_l6 _ _ l4_G24
    have l5_G25 := S_l6 _ _ l5_G24
    have w1_G25 := S_l6 _ _ hw1
    refine ⟨_, rfl, r1, _, 0, _, rfl, rfl, SqT.of r1_G25, rfl, (by show 2 ≤ sizeLine; decide), fun l7 nl7 => ?_⟩
    try dsimp only at nl7 ⊢
    have S_l7 := same_new (o := .tup [.int x.1, .bl true]) nl7
    have hl7 : upd G25 l7 (.tup [.int x.1, .bl true]) l7 = some (.tup [.int x.1, .bl true]) := upd_same
    generalize upd G25 l7 (.tup [.int x.1, .bl true]) = G26 at S_l7 hl7 ⊢
    have DG26 := DG25.same S_l7
    have TG26 := Tabs.same TG25 S_l7
    have r1_G26 := S_l7 _ _ r1_G25
    have l0_G26 := S_l7 _ _ l0_G25
    have l1_G26 := S_l7 _ _ l1_G25
    have l2_G26 := S_l7 _ _ l2_G25
    have l3_G26 := S_l7 _ _ l3_G25
    have c4_G26 := S_l7 _ _ c4_G25
    have l4_G26 := S_l7 _ _ l4_G25
    have l5_G26 := S_l7 _ _ l5_G25
    have w1_G26 := S_l7 _ _ w1_G25
    have l6_G26 := S_l7 _ _ hl6
    refine ⟨_, rfl, r1, _, 0, _, rfl, rfl, SqT.of r1_G26, rfl, _, rfl, (Nat.lt_trans (log_lt (b := 60) bx1 (by decide)) (by decide)), _, rfl, r1, _, 1, _, rfl, rfl, SqT.of r1_G26, rfl, (by show 2 ≤ sizeLine; decide), fun l8 nl8 => ?_⟩
    try dsimp only at nl8 ⊢
    have S_l8 := same_new (o := .tup [.str (Str.ofString (toString x.1)), .int x.2]) nl8
    have hl8 : upd G26 l8 (.tup [.str (Str.ofString (toString x.1)), .int x.2]) l8 = some (.tup [.str (Str.ofString (toString x.1)), .int x.2]) := upd_same
    generalize upd G26 l8 (.tup [.str (Str.ofString (toString x.1)), .int x.2]) = G27 at S_l8 hl8 ⊢
    have DG27 := DG26.same S_l8
    have TG27 := Tabs.same TG26 S_l8
    have r1_G27 := S_l8 _ _ r1_G26
    have l0_G27 := S_l8 _ _ l0_G26
    have l1_G27 := S_l8 _ _ l1_G26
    have l2_G27 := S_l8 _ _ l2_G26
    have l3_G27 := S_l8 _ _ l3_G26
    have c4_G27 := S_l8 _ _ c4_G26
    have l4_G27 := S_l8 _ _ l4_G26
    have l5_G27 := S_l8 _ _ l5_G26
    have w1_G27 := S_l8 _ _ w1_G26
    have l6_G27 := S_l8 _ _ l6_G26
    have l7_G27 := S_l8 _ _ hl7
    refine ⟨_, rfl, (by show 2 ≤ sizeLine; decide), fun l9 nl9 => ?_⟩
    try dsimp only at nl9 ⊢
    have S_l9 := same_new (o := .tup [.int 0, .int m]) nl9
    have hl9 : upd G27 l9 (.tup [.int 0, .int m]) l9 = some (.tup [.int 0, .int m]) := upd_same
    generalize upd G27 l9 (.tup [.int 0, .int m]) = G28 at S_l9 hl9 ⊢
    have DG28 := DG27.same S_l9
    have TG28 := Tabs.same TG27 S_l9
    have r1_G28 := S_l9 _ _ r1_G27
    have l0_G28 := S_l9 _ _ l0_G27
    have l1_G28 := S_l9 _ _ l1_G27
    have l2_G28 := S_l9 _ _ l2_G27
    have l3_G28 := S_l9 _ _ l3_G27
    have c4_G28 := S_l9 _ _ c4_G27
    have l4_G28 := S_l9 _ _ l4_G27
    have l5_G28 := S_l9 _ _ l5_G27
    have w1_G28 := S_l9 _ _ w1_G27
    have l6_G28 := S_l9 _ _ l6_G27
    have l7_G28 := S_l9 _ _ l7_G27
    have l8_G28 := S_l9 _ _ hl8
    refine ⟨(by show 2 ≤ sizeLine; decide), fun c10 nc10 => ?_⟩
    try dsimp only at nc10 ⊢
    have S_c10 := same_new (o := .tup [.int 1, .int 2]) nc10
    have hc10 : upd G28 c10 (.tup [.int 1, .int 2]) c10 = some (.tup [.int 1, .int 2]) := upd_same
    generalize upd G28 c10 (.tup [.int 1, .int 2]) = G29 at S_c10 hc10 ⊢
    have DG29 := DG28.same S_c10
    have TG29 := Tabs.same TG28 S_c10
    have r1_G29 := S_c10 _ _ r1_G28
    have l0_G29 := S_c10 _ _ l0_G28
    have l1_G29 := S_c10 _ _ l1_G28
    have l2_G29 := S_c10 _ _ l2_G28
    have l3_G29 := S_c10 _ _ l3_G28
    have c4_G29 := S_c10 _ _ c4_G28
    have l4_G29 := S_c10 _ _ l4_G28
    have l5_G29 := S_c10 _ _ l5_G28
    have w1_G29 := S_c10 _ _ w1_G28
    have l6_G29 := S_c10 _ _ l6_G28
    have l7_G29 := S_c10 _ _ l7_G28
    have l8_G29 := S_c10 _ _ l8_G28
    have l9_G29 := S_c10 _ _ hl9
    refine ⟨(by show 2 ≤ sizeLine; decide), fun l10 nl10 => ?_⟩
    try dsimp only at nl10 ⊢
    have S_l10 := same_new (o := .tup [.ref c10, .int 3]) nl10
    have hl10 : upd G29 l10 (.tup [.ref c10, .int 3]) l10 = some (.tup [.ref c10, .int 3]) := upd_same
    generalize upd G29 l10 (.tup [.ref c10, .int 3]) = G30 at S_l10 hl10 ⊢
    have DG30 := DG29.same S_l10
    have TG30 := Tabs.same TG29 S_l10
    have r1_G30 := S_l10 _ _ r1_G29
    have l0_G30 := S_l10 _ _ l0_G29
    have l1_G30 := S_l10 _ _ l1_G29
    have l2_G30 := S_l10 _ _ l2_G29
    have l3_G30 := S_l10 _ _ l3_G29
    have c4_G30 := S_l10 _ _ c4_G29
    have l4_G30 := S_l10 _ _ l4_G29
    have l5_G30 := S_l10 _ _ l5_G29
    have w1_G30 := S_l10 _ _ w1_G29
    have l6_G30 := S_l10 _ _ l6_G29
    have l7_G30 := S_l10 _ _ l7_G29
    have l8_G30 := S_l10 _ _ l8_G29
    have l9_G30 := S_l10 _ _ l9_G29
    have c10_G30 := S_l10 _ _ hc10
    refine ⟨(by show 0 ≤ sizeLine; decide), fun l11 nl11 => ?_⟩
    try dsimp only at nl11 ⊢
    have S_l11 := same_new (o := .tup []) nl11
    have hl11 : upd G30 l11 (.tup []) l11 = some (.tup []) := upd_same
    generalize upd G30 l11 (.tup []) = G31 at S_l11 hl11 ⊢
    have DG31 := DG30.same S_l11
    have TG31 := Tabs.same TG30 S_l11
    have r1_G31 := S_l11 _ _ r1_G30
    have l0_G31 := S_l11 _ _ l0_G30
    have l1_G31 := S_l11 _ _ l1_G30
    have l2_G31 := S_l11 _ _ l2_G30
    have l3_G31 := S_l11 _ _ l3_G30
    have c4_G31 := S_l11 _ _ c4_G30
    have l4_G31 := S_l11 _ _ l4_G30
    have l5_G31 := S_l11 _ _ l5_G30
    have w1_G31 := S_l11 _ _ w1_G30
    have l6_G31 := S_l11 _ _ l6_G30
    have l7_G31 := S_l11 _ _ l7_G30
    have l8_G31 := S_l11 _ _ l8_G30
    have l9_G31 := S_l11 _ _ l9_G30
    have c10_G31 := S_l11 _ _ c10_G30
    have l10_G31 := S_l11 _ _ hl10
    refine ⟨(by show 2 ≤ sizeLine; decide), fun l12 nl12 => ?_⟩
    try dsimp only at nl12 ⊢
    have S_l12 := same_new (o := .tup [.int 0, .int 0]) nl12
    have hl12 : upd G31 l12 (.tup [.int 0, .int 0]) l12 = some (.tup [.int 0, .int 0]) := upd_same
    generalize upd G31 l12 (.tup [.int 0, .int 0]) = G32 at S_l12 hl12 ⊢
    have DG32 := DG31.same S_l12
    have TG32 := Tabs.same TG31 S_l12
    have r1_G32 := S_l12 _ _ r1_G31
    have l0_G32 := S_l12 _ _ l0_G31
    have l1_G32 := S_l12 _ _ l1_G31
    have l2_G32 := S_l12 _ _ l2_G31
    have l3_G32 := S_l12 _ _ l3_G31
    have c4_G32 := S_l12 _ _ c4_G31
    have l4_G32 := S_l12 _ _ l4_G31
    have l5_G32 := S_l12 _ _ l5_G31
    have w1_G32 := S_l12 _ _ w1_G31
    have l6_G32 := S_l12 _ _ l6_G31
    have l7_G32 := S_l12 _ _ l7_G31
    have l8_G32 := S_l12 _ _ l8_G31
    have l9_G32 := S_l12 _ _ l9_G31
    have c10_G32 := S_l12 _ _ c10_G31
    have l10_G32 := S_l12 _ _ l10_G31
    have l11_G32 := S_l12 _ _ hl11
    refine ⟨(by show 9 ≤ sizeLine; decide), fun w2 nw2 => ?_⟩
    try dsimp only at nw2 ⊢
    have S_w2 := same_new (o := .lst [.ref l6, .ref l7, .ref l8, .int 3, .str (Str.ofString "1/2"), .ref l9, .ref l10, .ref l11, .ref l12]) nw2
    have hw2 : upd G32 w2 (.lst [.ref l6, .ref l7, .ref l8, .int 3, .str (Str.ofString "1/2"), .ref l9, .ref l10, .ref l11, .ref l12]) w2 = some (.lst [.ref l6, .ref l7, .ref l8, .int 3, .str (Str.ofString "1/2"), .ref l9, .ref l10, .ref l11, .ref l12]) := upd_same
    generalize upd G32 w2 (.lst [.ref l6, .ref l7, .ref l8, .int 3, .str (Str.ofString "1/2"), .ref l9, .ref l10, .ref l11, .ref l12]) = G33 at S_w2 hw2 ⊢
    have DG33 := DG32.same S_w2
    have TG33 := Tabs.same TG32 S_w2
    have r1_G33 := S_w2 _ _ r1_G32
    have l0_G33 := S_w2 _ _ l0_G32
    have l1_G33 := S_w2 _ _ l1_G32
    have l2_G33 := S_w2 _ _ l2_G32
    have l3_G33 := S_w2 _ _ l3_G32
    have c4_G33 := S_w2 _ _ c4_G32
    have l4_G33 := S_w2 _ _ l4_G32
    have l5_G33 := S_w2 _ _ l5_G32
    have w1_G33 := S_w2 _ _ w1_G32
    have l6_G33 := S_w2 _ _ l6_G32
    have l7_G33 := S_w2 _ _ l7_G32
    have l8_G33 := S_w2 _ _ l8_G32
    have l9_G33 := S_w2 _ _ l9_G32
    have c10_G33 := S_w2 _ _ c10_G32
    have l10_G33 := S_w2 _ _ l10_G32
    have l11_G33 := S_w2 _ _ l11_G32
    have l12_G33 := S_w2 _ _ hl12
    refine ⟨w1, w2, [.ref l0, .ref l1, .ref l2, .ref l3, .ref l4, .ref l5, .non], [.ref l6, .ref l7, .ref l8, .int 3, .str (Str.ofString "1/2"), .ref l9, .ref l10, .ref l11, .ref l12], rfl, rfl, w1_G33, hw2, (by show 16 ≤ sizeLine; decide), fun w3 nw3 => ?_⟩
    try dsimp only at nw3 ⊢
    have S_w3 := same_new (o := .lst ([.ref l0, .ref l1, .ref l2, .ref l3, .ref l4, .ref l5, .non] ++ [.ref l6, .ref l7, .ref l8, .int 3, .str (Str.ofString "1/2"), .ref l9, .ref l10, .ref l11, .ref l12])) nw3
    have hw3 : upd G33 w3 (.lst ([.ref l0, .ref l1, .ref l2, .ref l3, .ref l4, .ref l5, .non] ++ [.ref l6, .ref l7, .ref l8, .int 3, .str (Str.ofString "1/2"), .ref l9, .ref l10, .ref l11, .ref l12])) w3 = some (.lst ([.ref l0, .ref l1, .ref l2, .ref l3, .ref l4, .ref l5, .non] ++ [.ref l6, .ref l7, .ref l8, .int 3, .str (Str.ofString "1/2"), .ref l9, .ref l10, .ref l11, .ref l12])) := upd_same
    generalize upd G33 w3 (.lst ([.ref l0, .ref l1, .ref l2, .ref l3, .ref l4, .ref l5, .non] ++ [.ref l6, .ref l7, .ref l8, .int 3, .str (Str.ofString "1/2"), .ref l9, .ref l10, .ref l11, .ref l12])) = G34 at S_w3 hw3 ⊢
    have DG34 := DG33.same S_w3
    have TG34 := Tabs.same TG33 S_w3
    have r1_G34 := S_w3 _ _ r1_G33
    have l0_G34 := S_w3 _ _ l0_G33
    have l1_G34 := S_w3 _ _ l1_G33
    have l2_G34 := S_w3 _ _ l2_G33
    have l3_G34 := S_w3 _ _ l3_G33
    have c4_G34 := S_w3 _ _ c4_G33
    have l4_G34 := S_w3 _ _ l4_G33
    have l5_G34 := S_w3 _ _ l5_G33
    have w1_G34 := S_w3 _ _ w1_G33
    have l6_G34 := S_w3 _ _ l6_G33
    have l7_G34 := S_w3 _ _ l7_G33
    have l8_G34 := S_w3 _ _ l8_G33
    have l9_G34 := S_w3 _ _ l9_G33
    have c10_G34 := S_w3 _ _ c10_G33
    have l10_G34 := S_w3 _ _ l10_G33
    have l11_G34 := S_w3 _ _ l11_G33
    have l12_G34 := S_w3 _ _ l12_G33
    have w2_G34 := S_w3 _ _ hw2
    have dw : DpAll K G34 ([.ref l0, .ref l1, .ref l2, .ref l3, .ref l4, .ref l5, .non] ++ [.ref l6, .ref l7, .ref l8, .int 3, .str (Str.ofString "1/2"), .ref l9, .ref l10, .ref l11, .ref l12]) [.list [.int x.1, .int x.2], frD (x.1 * m, x.2 * m), frD (x.1, 0 - x.2), frD (x.1, 0), .tuple [.int x.1, .int x.2, .int 1], .tuple [.int x.1], .none, .tuple [.bool true, .int x.2], .tuple [.int x.1, .bool true], .tuple [.str (Str.ofString (toString x.1)), .int x.2], .int 3, .str (Str.ofString "1/2"), frD (0, m), .tuple [frD (1, 2), .int 3], .tuple [], frD (0, 0)] := (.cons (.lst (SqL.of l0_G34) (.cons (.int _) (.cons (.int _) .nil))) (.cons (.tup (SqT.of l1_G34) (.cons (.int _) (.cons (.int _) .nil))) (.cons (.tup (SqT.of l2_G34) (.cons (.int _) (.cons (.int _) .nil))) (.cons (.tup (SqT.of l3_G34) (.cons (.int _) (.cons (.int _) .nil))) (.cons (.tup (SqT.of l4_G34) (.cons (.int _) (.cons (.int _) (.cons (.int _) .nil)))) (.cons (.tup (SqT.of l5_G34) (.cons (.int _) .nil)) (.cons .non (.cons (.tup (SqT.of l6_G34) (.cons (.bl _) (.cons (.int _) .nil))) (.cons (.tup (SqT.of l7_G34) (.cons (.int _) (.cons (.bl _) .nil))) (.cons (.tup (SqT.of l8_G34) (.cons (.str _) (.cons (.int _) .nil))) (.cons (.int _) (.cons (.str _) (.cons (.tup (SqT.of l9_G34) (.cons (.int _) (.cons (.int _) .nil))) (.cons (.tup (SqT.of l10_G34) (.cons (.tup (SqT.of c10_G34) (.cons (.int _) (.cons (.int _) .nil))) (.cons (.int _) .nil))) (.cons (.tup (SqT.of l11_G34) .nil) (.cons (.tup (SqT.of l12_G34) (.cons (.int _) (.cons (.int _) .nil))) .nil))))))))))))))))
    have nw : ∀ d ∈ ([.list [.int x.1, .int x.2], frD (x.1 * m, x.2 * m), frD (x.1, 0 - x.2), frD (x.1, 0), .tuple [.int x.1, .int x.2, .int 1], .tuple [.int x.1], .none, .tuple [.bool true, .int x.2], .tuple [.int x.1, .bool true], .tuple [.str (Str.ofString (toString x.1)), .int x.2], .int 3, .str (Str.ofString "1/2"), frD (0, m), .tuple [frD (1, 2), .int 3], .tuple [], frD (0, 0)] : List PyData), isFr d = false := wrong_all A1.pos hm
    generalize ([.list [.int x.1, .int x.2], frD (x.1 * m, x.2 * m), frD (x.1, 0 - x.2), frD (x.1, 0), .tuple [.int x.1, .int x.2, .int 1], .tuple [.int x.1], .none, .tuple [.bool true, .int x.2], .tuple [.int x.1, .bool true], .tuple [.str (Str.ofString (toString x.1)), .int x.2], .int 3, .str (Str.ofString "1/2"), frD (0, m), .tuple [frD (1, 2), .int 3], .tuple [], frD (0, 0)] : List PyData) = ds at dw nw
    generalize ([.ref l0, .ref l1, .ref l2, .ref l3, .ref l4, .ref l5, .non] ++ [.ref l6, .ref l7, .ref l8, .int 3, .str (Str.ofString "1/2"), .ref l9, .ref l10, .ref l11, .ref l12] : List V) = ws at dw hw3
    refine ⟨_, rfl, w3, rfl, ⟨_, SqL.of hw3⟩, for_list (xs := ws) (fun j σ H' => H' = G34 ∧ ∃ v : Option V, σ = [some (.ref a), some (.ref p), some (.int (0 + (i : Int))), some (.int t), some (.int b), some (.int sh), some (.ref r1), some (.ref r2), some (.int m), some (.ref w3), v]) ⟨rfl, _, rfl⟩ (fun j σ H' _ ⟨e, _⟩ => by rw [e]; exact SqL.of hw3) ?_ ?_⟩
    · rintro j v σ H' hj ⟨rfl, u, rfl⟩
      obtain ⟨d, hd, dv⟩ := dpAll_at dw hj
      refine ⟨_, rfl, v, d, rfl, dv, ?_⟩
      refine ⟨_, _, rfl, rfl, _, rfl, ?_⟩
      refine iteF' (by rw [nw d hd]; rfl) ?_
      exact ⟨rfl, _, rfl⟩
    rintro σ H' ⟨rfl, v, rfl⟩
    refine ⟨TG34, fun G35 EG35 TG35 => ?_⟩
    have DG35 := Deal.extN DG34 EG35
    refine ⟨_, rfl, t, 0, rfl, by decide, fun _ dd0 nd0 => ⟨rfl, dd0, .int 1, rfl, upd_same, ?_⟩, fun z => absurd rfl z⟩
    have SG35 := same_new (o := .xd [("at", .int 1)]) nd0
    have DG36 := DG35.same SG35
    have TG36 := Tabs.same TG35 SG35
    generalize upd G35 dd0 (.xd [("at", .int 1)]) = G36 at DG36 TG36 ⊢
    refine ⟨rfl, _, rfl, ?_⟩
    refine iteF ?_
    refine ⟨TG36, fun G37 EG37 TG37 => ?_⟩
    have DG37 := Deal.extN DG36 EG37
    refine ⟨0, 0, rfl, by decide, fun _ dd1 nd1 => ⟨rfl, dd1, .int 1, rfl, upd_same, ?_⟩, fun z => absurd rfl z⟩
    have SG37 := same_new (o := .xd [("at", .int 1)]) nd1
    have DG38 := DG37.same SG37
    have TG38 := Tabs.same TG37 SG37
    generalize upd G37 dd1 (.xd [("at", .int 1)]) = G38 at DG38 TG38 ⊢
    refine ⟨rfl, _, rfl, ?_⟩
    refine iteF ?_
    exact ⟨csG16, blG16, _, _, _, _, _, _, _, _, _, rfl, DG38, TG38⟩
  · rintro σ H' ⟨_, _, _, _, _, _, _, _, _, _, _, rfl, _, _⟩
    exact k _
end
end K01
namespace K01
open PySem PySem.Spec PyProof.Rows L2 LamX
theorem all_mk {l : PySem.W.OpenLaw} {w : World} {K : PySem.W.Frag} {h : Heap} {mg : Str → Option Value} {fa Me Ce f1 cL PL fI fT fF fM fA fS fX fC fD fY fO fW fG fB fR fU fL : Addr} (KX : K.In h) (GN : h.Ns mainGlobals mg) (hfa : mg "law" = some (.ref fa)) (own : OwnTab2 K fa h)
    {eCo : Value} {ddCo : Option Addr} {vsCo : Array Value} {slCo : Array (Option Value)}
    {odI anI : Option Addr} {slI : Array (Option Value)} {ocI kVI dcI pmI cdI ctI : Value}
    {odT anT : Option Addr} {slT : Array (Option Value)} {ocT kVT dcT pmT cdT ctT : Value}
    {odF anF : Option Addr} {slF : Array (Option Value)} {ocF kVF dcF pmF cdF ctF : Value}
    {odM anM : Option Addr} {slM : Array (Option Value)} {ocM kVM dcM pmM cdM ctM : Value}
    {odA anA : Option Addr} {slA : Array (Option Value)} {ocA kVA dcA pmA cdA ctA : Value}
    {odS anS : Option Addr} {slS : Array (Option Value)} {ocS kVS dcS pmS cdS ctS : Value}
    {odX anX : Option Addr} {slX : Array (Option Value)} {ocX kVX dcX pmX cdX ctX : Value}
    {odC anC : Option Addr} {slC : Array (Option Value)} {ocC kVC dcC pmC cdC ctC : Value}
    {odD anD : Option Addr} {slD : Array (Option Value)} {ocD kVD dcD pmD cdD ctD : Value}
    {odY anY : Option Addr} {slY : Array (Option Value)} {ocY kVY dcY pmY cdY ctY : Value}
    {odO anO : Option Addr} {slO : Array (Option Value)} {ocO kVO dcO pmO cdO ctO : Value}
    {odW anW : Option Addr} {slW : Array (Option Value)} {ocW kVW dcW pmW cdW ctW : Value}
    {odG anG : Option Addr} {slG : Array (Option Value)} {ocG kVG dcG pmG cdG ctG : Value}
    {odB anB : Option Addr} {slB : Array (Option Value)} {ocB kVB dcB pmB cdB ctB : Value}
    {odR anR : Option Addr} {slR : Array (Option Value)} {ocR kVR dcR pmR cdR ctR : Value}
    {odU anU : Option Addr} {slU : Array (Option Value)} {ocU kVU dcU pmU cdU ctU : Value}
    {odL anL : Option Addr} {slL : Array (Option Value)} {ocL kVL dcL pmL ctL : Value}
    (eQ : EFactsG K sInit "InvalidQuestion" "InvalidQuestion.__init__" Me Ce f1) (gMe : PySem.W.nsIn K mainGlobals "MixError" = some (some (.ref Me))) (exm : PySem.W.exmOne K (.ref Ce) (.ref Ce) = some true) (kit : PySem.W.kitOne K (.ref Ce) (.ref Me) = some true)
    (gcd : PySem.W.nsIn K mainGlobals "gcd" = some (some (.builtin "math.gcd")))
    (aI : PySem.W.nsIn K mainGlobals "is_integer" = some (some (.ref fI))) (lI : K.lookup fI = some ⟨ocI, odI, .func (PySem.W.fnOf "is_integer" "is_integer" (defArgs sIsI) (defBody sIsI) (defScope sIsI) .none kVI dcI pmI anI cdI ctI), slI⟩) (dI : PySem.W.codeIn K cdI "is_integer" = true) (kI : PySem.W.keepIn K (.ref fI) = true)
    (aT : PySem.W.nsIn K mainGlobals "is_tuple" = some (some (.ref fT))) (lT : K.lookup fT = some ⟨ocT, odT, .func (PySem.W.fnOf "is_tuple" "is_tuple" (defArgs sIsT) (defBody sIsT) (defScope sIsT) .none kVT dcT pmT anT cdT ctT), slT⟩) (dT : PySem.W.codeIn K cdT "is_tuple" = true) (kT : PySem.W.keepIn K (.ref fT) = true)
    (aF : PySem.W.nsIn K mainGlobals "is_fraction" = some (some (.ref fF))) (lF : K.lookup fF = some ⟨ocF, odF, .func (PySem.W.fnOf "is_fraction" "is_fraction" (defArgs sIsF) (defBody sIsF) (defScope sIsF) .none kVF dcF pmF anF cdF ctF), slF⟩) (dF : PySem.W.codeIn K cdF "is_fraction" = true) (kF : PySem.W.keepIn K (.ref fF) = true)
    (aM : PySem.W.nsIn K mainGlobals "made" = some (some (.ref fM))) (lM : K.lookup fM = some ⟨ocM, odM, .func (PySem.W.fnOf "made" "made" (defArgs sMade) (defBody sMade) (defScope sMade) .none kVM dcM pmM anM cdM ctM), slM⟩) (dM : PySem.W.codeIn K cdM "made" = true) (kM : PySem.W.keepIn K (.ref fM) = true)
    (aA : PySem.W.nsIn K mainGlobals "added" = some (some (.ref fA))) (lA : K.lookup fA = some ⟨ocA, odA, .func (PySem.W.fnOf "added" "added" (defArgs sAdd) (defBody sAdd) (defScope sAdd) .none kVA dcA pmA anA cdA ctA), slA⟩) (dA : PySem.W.codeIn K cdA "added" = true) (kA : PySem.W.keepIn K (.ref fA) = true)
    (aS : PySem.W.nsIn K mainGlobals "less" = some (some (.ref fS))) (lS : K.lookup fS = some ⟨ocS, odS, .func (PySem.W.fnOf "less" "less" (defArgs sLess) (defBody sLess) (defScope sLess) .none kVS dcS pmS anS cdS ctS), slS⟩) (dS : PySem.W.codeIn K cdS "less" = true) (kS : PySem.W.keepIn K (.ref fS) = true)
    (aX : PySem.W.nsIn K mainGlobals "times" = some (some (.ref fX))) (lX : K.lookup fX = some ⟨ocX, odX, .func (PySem.W.fnOf "times" "times" (defArgs sTimes) (defBody sTimes) (defScope sTimes) .none kVX dcX pmX anX cdX ctX), slX⟩) (dX : PySem.W.codeIn K cdX "times" = true) (kX : PySem.W.keepIn K (.ref fX) = true)
    (aC : PySem.W.nsIn K mainGlobals "compared" = some (some (.ref fC))) (lC : K.lookup fC = some ⟨ocC, odC, .func (PySem.W.fnOf "compared" "compared" (defArgs sCmp) (defBody sCmp) (defScope sCmp) .none kVC dcC pmC anC cdC ctC), slC⟩) (dC : PySem.W.codeIn K cdC "compared" = true) (kC : PySem.W.keepIn K (.ref fC) = true)
    (aD : PySem.W.nsIn K mainGlobals "_law_draw" = some (some (.ref fD))) (lD : K.lookup fD = some ⟨ocD, odD, .func (PySem.W.fnOf "_law_draw" "_law_draw" (defArgs sDraw) (defBody sDraw) (defScope sDraw) .none kVD dcD pmD anD cdD ctD), slD⟩) (dD : PySem.W.codeIn K cdD "_law_draw" = true) (kD : PySem.W.keepIn K (.ref fD) = true)
    (aY : PySem.W.nsIn K mainGlobals "_law_any" = some (some (.ref fY))) (lY : K.lookup fY = some ⟨ocY, odY, .func (PySem.W.fnOf "_law_any" "_law_any" (defArgs sAny) (defBody sAny) (defScope sAny) .none kVY dcY pmY anY cdY ctY), slY⟩) (dY : PySem.W.codeIn K cdY "_law_any" = true) (kY : PySem.W.keepIn K (.ref fY) = true)
    (aO : PySem.W.nsIn K mainGlobals "_law_of" = some (some (.ref fO))) (lO : K.lookup fO = some ⟨ocO, odO, .func (PySem.W.fnOf "_law_of" "_law_of" (defArgs sOf) (defBody sOf) (defScope sOf) .none kVO dcO pmO anO cdO ctO), slO⟩) (dO : PySem.W.codeIn K cdO "_law_of" = true) (kO : PySem.W.keepIn K (.ref fO) = true)
    (aW : PySem.W.nsIn K mainGlobals "_law_low" = some (some (.ref fW))) (lW : K.lookup fW = some ⟨ocW, odW, .func (PySem.W.fnOf "_law_low" "_law_low" (defArgs sLow) (defBody sLow) (defScope sLow) .none kVW dcW pmW anW cdW ctW), slW⟩) (dW : PySem.W.codeIn K cdW "_law_low" = true) (kW : PySem.W.keepIn K (.ref fW) = true)
    (aG : PySem.W.nsIn K mainGlobals "_law_integer" = some (some (.ref fG))) (lG : K.lookup fG = some ⟨ocG, odG, .func (PySem.W.fnOf "_law_integer" "_law_integer" (defArgs sInt) (defBody sInt) (defScope sInt) .none kVG dcG pmG anG cdG ctG), slG⟩) (dG : PySem.W.codeIn K cdG "_law_integer" = true) (kG : PySem.W.keepIn K (.ref fG) = true)
    (aB : PySem.W.nsIn K mainGlobals "_law_bottom" = some (some (.ref fB))) (lB : K.lookup fB = some ⟨ocB, odB, .func (PySem.W.fnOf "_law_bottom" "_law_bottom" (defArgs sBot) (defBody sBot) (defScope sBot) .none kVB dcB pmB anB cdB ctB), slB⟩) (dB : PySem.W.codeIn K cdB "_law_bottom" = true) (kB : PySem.W.keepIn K (.ref fB) = true)
    (aR : PySem.W.nsIn K mainGlobals "_law_refused" = some (some (.ref fR))) (lR : K.lookup fR = some ⟨ocR, odR, .func (PySem.W.fnOf "_law_refused" "_law_refused" (defArgs sRef) (defBody sRef) (defScope sRef) .none kVR dcR pmR anR cdR ctR), slR⟩) (dR : PySem.W.codeIn K cdR "_law_refused" = true) (kR : PySem.W.keepIn K (.ref fR) = true)
    (aU : PySem.W.nsIn K mainGlobals "_law_sums_right" = some (some (.ref fU))) (lU : K.lookup fU = some ⟨ocU, odU, .func (PySem.W.fnOf "_law_sums_right" "_law_sums_right" (defArgs sSums) (defBody sSums) (defScope sSums) .none kVU dcU pmU anU cdU ctU), slU⟩) (dU : PySem.W.codeIn K cdU "_law_sums_right" = true) (kU : PySem.W.keepIn K (.ref fU) = true)
    (aL : PySem.W.nsIn K mainGlobals "law" = some (some (.ref fL))) (lL : K.lookup fL = some ⟨ocL, odL, .func (PySem.W.fnOf "law" "law" (defArgs sLaw) (defBody sLaw) (defScope sLaw) .none kVL dcL pmL anL (.ref cL) ctL), slL⟩) (dL : PySem.W.codeIn K (.ref cL) "law" = true) (kL : PySem.W.keepIn K (.ref fL) = true)
    (lCode : K.lookup cL = some ⟨eCo, ddCo, .fields vsCo, slCo⟩) (vC : vsCo[11]? = some (.ref PL)) (nP : K.lookup PL = none)
    (z_isinstance : PySem.W.nsIn K mainGlobals "isinstance" = some none)
    (z_int : PySem.W.nsIn K mainGlobals "int" = some none)
    (z_bool : PySem.W.nsIn K mainGlobals "bool" = some none)
    (z_tuple : PySem.W.nsIn K mainGlobals "tuple" = some none)
    (z_len : PySem.W.nsIn K mainGlobals "len" = some none)
    (z_abs : PySem.W.nsIn K mainGlobals "abs" = some none)
    (z_repr : PySem.W.nsIn K mainGlobals "repr" = some none)
    (z_str : PySem.W.nsIn K mainGlobals "str" = some none)
    (z_range : PySem.W.nsIn K mainGlobals "range" = some none) :
    LawAtG l w K CX0 7 63 "script" mg fa h := by
  have e := hfa.symm.trans (PySem.W.mg_of KX GN aL)
  cases e
  obtain ⟨d1, F1⟩ := eQ.fn
  have b1 := F1.binds (ps := ["self", "at"]) fun _ _ _ _ _ _ us hl => match us, hl with | [_, _], _ => rfl
  have FI := fun_mk (st := sIsI) lI dI kI
  have bI := FI.binds (ps := ["value"]) fun _ _ _ _ _ _ us hl => match us, hl with | [_], _ => rfl
  have FT := fun_mk (st := sIsT) lT dT kT
  have bT := FT.binds (ps := ["value", "length"]) fun _ _ _ _ _ _ us hl => match us, hl with | [_, _], _ => rfl
  have FF := fun_mk (st := sIsF) lF dF kF
  have bF := FF.binds (ps := ["value"]) fun _ _ _ _ _ _ us hl => match us, hl with | [_], _ => rfl
  have FM := fun_mk (st := sMade) lM dM kM
  have bM := FM.binds (ps := ["top", "bottom"]) fun _ _ _ _ _ _ us hl => match us, hl with | [_, _], _ => rfl
  have FA := fun_mk (st := sAdd) lA dA kA
  have bA := FA.binds (ps := ["one", "other"]) fun _ _ _ _ _ _ us hl => match us, hl with | [_, _], _ => rfl
  have FS := fun_mk (st := sLess) lS dS kS
  have bS := FS.binds (ps := ["one", "other"]) fun _ _ _ _ _ _ us hl => match us, hl with | [_, _], _ => rfl
  have FX := fun_mk (st := sTimes) lX dX kX
  have bX := FX.binds (ps := ["one", "other"]) fun _ _ _ _ _ _ us hl => match us, hl with | [_, _], _ => rfl
  have FC := fun_mk (st := sCmp) lC dC kC
  have bC := FC.binds (ps := ["one", "other"]) fun _ _ _ _ _ _ us hl => match us, hl with | [_, _], _ => rfl
  have FD := fun_mk (st := sDraw) lD dD kD
  have bD := FD.binds (ps := ["script", "salt"]) fun _ _ _ _ _ _ us hl => match us, hl with | [_, _], _ => rfl
  have FY := fun_mk (st := sAny) lY dY kY
  have bY := FY.binds (ps := ["deal", "bound"]) fun _ _ _ _ _ _ us hl => match us, hl with | [_, _], _ => rfl
  have FO := fun_mk (st := sOf) lO dO kO
  have bO := FO.binds (ps := ["deal", "some"]) fun _ _ _ _ _ _ us hl => match us, hl with | [_, _], _ => rfl
  have FW := fun_mk (st := sLow) lW dW kW
  have bW := FW.binds (ps := ["top", "bottom"]) fun _ _ _ _ _ _ us hl => match us, hl with | [_, _], _ => rfl
  have FG := fun_mk (st := sInt) lG dG kG
  have bG := FG.binds (ps := ["deal"]) fun _ _ _ _ _ _ us hl => match us, hl with | [_], _ => rfl
  have FB := fun_mk (st := sBot) lB dB kB
  have bB := FB.binds (ps := ["deal"]) fun _ _ _ _ _ _ us hl => match us, hl with | [_], _ => rfl
  have FR := fun_mk (st := sRef) lR dR kR
  have bR := FR.binds (ps := ["work"]) fun _ _ _ _ _ _ us hl => match us, hl with | [_], _ => rfl
  have FU := fun_mk (st := sSums) lU dU kU
  have bU := FU.binds (ps := ["one", "other"]) fun _ _ _ _ _ _ us hl => match us, hl with | [_, _], _ => rfl
  have FL : FunC K "law" "law" sLaw _ _ cL := ⟨_, _, _, _, _, _, _, _, rfl, lL, dL⟩
  have kbA : KBinds K (PySem.W.fnOf "added" "added" (defArgs sAdd) (defBody sAdd) (defScope sAdd) .none kVA dcA pmA anA cdA ctA) ["one", "other"] ["other", "one"] gRev gRev := kb_rev fun _ _ => rfl
  have kbS : KBinds K (PySem.W.fnOf "less" "less" (defArgs sLess) (defBody sLess) (defScope sLess) .none kVS dcS pmS anS cdS ctS) ["one", "other"] ["other"] gOne gOne := kb_one fun _ _ => rfl
  have kbC : KBinds K (PySem.W.fnOf "compared" "compared" (defArgs sCmp) (defBody sCmp) (defScope sCmp) .none kVC dcC pmC anC cdC ctC) ["one", "other"] ["one", "other"] gSame gSame := kb_same fun _ _ => rfl
  have kbM : KBinds K (PySem.W.fnOf "made" "made" (defArgs sMade) (defBody sMade) (defScope sMade) .none kVM dcM pmM anM cdM ctM) ["top", "bottom"] ["bottom", "top"] gRev gRev := kb_rev fun _ _ => rfl
  have own2 := own cL PL _ _ _ _ _ _ lL rfl rfl lCode vC
  have g := fun {x : Str} {v : Value} (e : PySem.W.nsIn K mainGlobals x = some (some v)) => PySem.W.mg_of KX GN e
  have z := fun {x : Str} (e : PySem.W.nsIn K mainGlobals x = some none) => PySem.W.mg_none_of KX GN e
  have T : Cau K mg "InvalidQuestion" "MixError" Ce Me := ⟨g eQ.aC, g gMe, exm, kit, eQ.xc, eQ.xf, eQ.na, z z_isinstance⟩
  have TE : Err K mg "InvalidQuestion" Ce f1 := ⟨g eQ.aC, eQ.ox, eQ.a1, eQ.t1, eQ.na⟩
  refine ⟨PySem.W.fnOf "law" "law" (defArgs sLaw) (defBody sLaw) (defScope sLaw) .none kVL dcL pmL anL (.ref cL) ctL, [(cL, PL)], spLaw K [(PL, lamQ)], fun p hp => by rw [List.mem_singleton.mp hp]; exact own2.2, fun p hp => by rw [List.mem_singleton.mp hp]; exact nP, fun p hp => by rw [List.mem_singleton.mp hp]; exact own2.1, fun s v => .of_eq rfl,
    fun H scr ns hl _ hT hS => ⟨scr, ns, rfl, hS, hl, (fun p hp => by rw [List.mem_singleton.mp hp]; exact TabS.nil (hT (cL, PL) List.mem_cons_self)), fun _ => rfl⟩, fun base _ _ TB => ?_⟩
  have GI := ok_isI (P := l.prog) (w := w) (base := base) FI (z z_isinstance) (z z_int) (z z_bool)
  have GT := ok_isT (P := l.prog) (w := w) (base := base) FT (z z_isinstance) (z z_tuple) (z z_len)
  have GF := ok_isF FF GT bT kT (g aT) GI bI kI (g aI) (g gcd)
  have GQ := ok_init (P := l.prog) (w := w) (mg := mg) (base := base) F1 eQ.ox eQ.na
  have GM := ok_made FM TE GQ b1 (g gcd)
  have GA := ok_added FA GM bM kM (g aM)
  have GS := ok_less FS GM bM kM (g aM)
  have GX := ok_times FX GM bM kM (g aM)
  have GC := ok_cmp (P := l.prog) (w := w) (mg := mg) (base := base) FC
  have GD := ok_draw (P := l.prog) (w := w) (base := base) FD (z z_abs) (z z_int)
  have GY := ok_any (P := l.prog) (w := w) (base := base) FY (z z_int)
  have GO := ok_of FO GY bY kY (g aY) (z z_len)
  have GG := ok_int FG GY bY kY (g aY) GO bO kO (g aO)
  have GB := ok_bot FB GG bG kG (g aG)
  have GW := ok_low (P := l.prog) (w := w) (base := base) FW (z z_abs) (z z_int)
  have GU := ok_sums FU ⟨GA, bA, kA, g aA⟩ ⟨GS, bS, kS, g aS⟩ ⟨GX, bX, kX, g aX⟩ ⟨GC, bC, kC, g aC⟩ ⟨GW, bW, kW, g aW⟩ kbA kbS kbC (z z_repr)
  exact ok_law FL (TB (cL, PL) List.mem_cons_self) ⟨GD, bD, kD, g aD⟩ ⟨GG, bG, kG, g aG⟩ ⟨GB, bB, kB, g aB⟩ ⟨GW, bW, kW, g aW⟩ ⟨GM, bM, kM, g aM⟩ kbM ⟨GF, bF, kF, g aF⟩ ⟨GY, bY, kY, g aY⟩ GU bU kU (g aU) FR bR (g aR) T (z z_repr) (z z_str) (z z_range)
end K01
open PySem PySem.W PyProof.Rows
open_top hd for PySem.Challenge.rw_mixlabels_k01_fractions_in_lowest_terms
set_option maxRecDepth 100000 in
set_option maxHeartbeats 0 in
theorem PySem.Challenge.cw_mixlabels_k01_fractions_in_lowest_terms_holds : PySem.Challenge.rw_mixlabels_k01_fractions_in_lowest_terms.Holds :=
  hd (by
  k_fill
  refine L2.walk_ofGT (l := PySem.Challenge.rw_mixlabels_k01_fractions_in_lowest_terms) (n := 63) (lev := 7) (nm := "script") (XX := fun _ => L2.CX0) rfl (by decide) rfl ⟨rfl, by decide, by decide⟩ (by kernel_rfl) (fun w h Y => PySem.W.km_in_of Y) ?F (fun _ _ _ _ _ z => z)
  case F =>
    intro w mg fa h Y KX G hmg own
    refine' K01.all_mk KX G hmg own ?eQ ?gMe ?exm ?kit ?gcd ?aI ?lI ?dI ?kI ?aT ?lT ?dT ?kT ?aF ?lF ?dF ?kF ?aM ?lM ?dM ?kM ?aA ?lA ?dA ?kA ?aS ?lS ?dS ?kS ?aX ?lX ?dX ?kX ?aC ?lC ?dC ?kC ?aD ?lD ?dD ?kD ?aY ?lY ?dY ?kY ?aO ?lO ?dO ?kO ?aW ?lW ?dW ?kW ?aG ?lG ?dG ?kG ?aB ?lB ?dB ?kB ?aR ?lR ?dR ?kR ?aU ?lU ?dU ?kU ?aL ?lL ?dL ?kL ?lCode ?vC ?nP ?z_isinstance ?z_int ?z_bool ?z_tuple ?z_len ?z_abs ?z_repr ?z_str ?z_range
    (case gMe => k_is)
    (case eQ => (refine' L2.mkEG ?q_aC ?q_xL ?q_sa ?q_ga ?q_gg ?q_na ?q_a1 ?q_t1 ?q_l1 ?q_c1 ?q_k1 ?q_kC ?q_eC ?q_tC ?q_hC ?q_cC ?q_mC ?q_hn ?q_ht; (case q_aC => k_is); (case q_xL => k_is); (case q_sa => k_is); (case q_ga => k_is); (case q_gg => k_is); (case q_na => k_is); (case q_a1 => k_is); (case q_t1 => k_is); (case q_l1 => k_is); (case q_c1 => k_is); (case q_k1 => k_is); (case q_kC => k_is); (case q_eC => k_is); (case q_tC => k_is); (case q_hC => k_is); (case q_cC => k_is); (case q_mC => k_is); (case q_hn => k_is); (case q_ht => k_is)))
    (case exm => kernel_rfl)
    (case kit => kernel_rfl)
    (case gcd => k_is)
    (case aI => k_is)
    (case lI => k_is)
    (case dI => k_is)
    (case kI => k_is)
    (case aT => k_is)
    (case lT => k_is)
    (case dT => k_is)
    (case kT => k_is)
    (case aF => k_is)
    (case lF => k_is)
    (case dF => k_is)
    (case kF => k_is)
    (case aM => k_is)
    (case lM => k_is)
    (case dM => k_is)
    (case kM => k_is)
    (case aA => k_is)
    (case lA => k_is)
    (case dA => k_is)
    (case kA => k_is)
    (case aS => k_is)
    (case lS => k_is)
    (case dS => k_is)
    (case kS => k_is)
    (case aX => k_is)
    (case lX => k_is)
    (case dX => k_is)
    (case kX => k_is)
    (case aC => k_is)
    (case lC => k_is)
    (case dC => k_is)
    (case kC => k_is)
    (case aD => k_is)
    (case lD => k_is)
    (case dD => k_is)
    (case kD => k_is)
    (case aY => k_is)
    (case lY => k_is)
    (case dY => k_is)
    (case kY => k_is)
    (case aO => k_is)
    (case lO => k_is)
    (case dO => k_is)
    (case kO => k_is)
    (case aW => k_is)
    (case lW => k_is)
    (case dW => k_is)
    (case kW => k_is)
    (case aG => k_is)
    (case lG => k_is)
    (case dG => k_is)
    (case kG => k_is)
    (case aB => k_is)
    (case lB => k_is)
    (case dB => k_is)
    (case kB => k_is)
    (case aR => k_is)
    (case lR => k_is)
    (case dR => k_is)
    (case kR => k_is)
    (case aU => k_is)
    (case lU => k_is)
    (case dU => k_is)
    (case kU => k_is)
    (case aL => k_is)
    (case lL => k_is)
    (case dL => k_is)
    (case kL => k_is)
    (case lCode => k_is)
    (case vC => rfl)
    (case nP => kernel_rfl)
    (case z_isinstance => k_is)
    (case z_int => k_is)
    (case z_bool => k_is)
    (case z_tuple => k_is)
    (case z_len => k_is)
    (case z_abs => k_is)
    (case z_repr => k_is)
    (case z_str => k_is)
    (case z_range => k_is))
