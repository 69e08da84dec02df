import PyProof.Rows.All
import Wide.All
import OpenK.AllK
import Wide.FinOn
import HandS.ForExc
import HandS.ExcIs
import HandS.ExcCtx
import HandS.ExcInit
import HandS.ExcField
import HandS.Lambda
import HandS.EndTab
import HandS.Comp
import HandS.HotCalls
import HandS.ForMost
import HandS.RaiseMore
import HandS.ExcInitHot
import PySem.Challenge.RW_mixlabels_k00_errors_and_what_they_keep
set_option Elab.async false
set_option linter.all false
set_option maxRecDepth 100000
set_option maxHeartbeats 4000000
namespace GX
open PySem PySem.W PySem.Spec PySem.Calls PyProof.Rows
section
variable {pg : Program} {wd : World} {ar : Around} {er : Value → Shared → Prop} {st : Shared} {Kf : Frag} {x D : Addr} {ox : Obj}
/-- `__class__` is found as the data descriptor, whatever the object's own dict holds -/
theorem found_class {od : Option Obj} {at' g : Value} (hc : (clsIn Kf D).isSome = true) (ha : findIn Kf (.ref D) "__class__" = some (some at'))
    (hg : specialIn Kf at' "__get__" = some (some g)) (ht : takesIn Kf at' = some true) : findObj Kf D od "__class__" = some (.bind g at') := by
  obtain ⟨cd, hcd⟩ := Option.isSome_iff_exists.mp hc
  unfold findObj
  rw [hcd]
  simp [ha, hg, ht]
/-- the class of an own error, whether or not it has a dict of its own -/
theorem err_class {od : Option Obj} {Q : Option Value → Shared → Prop} (C : L2.ExcC Kf D) (X : Kf.In st.heap) (I : InstAt st.heap x ox D od)
    (h : Q (some (.ref D)) { st with toks := st.toks + 1 }) : wpAny (model pg wd) ar (getAttr? (.ref x) "__class__") Q er st := by
  have hf : findObj Kf D od "__class__" = some (.bind (.builtin "getset_descriptor.__get__") (.builtin "object.__class__")) :=
    found_class (by obtain ⟨cd, hc, _⟩ := any_some C.hd; rw [hc]; rfl) C.ha C.hn C.ht
  obtain ⟨hp, gs, dr, tk, os⟩ := st
  have l0 := I.type (M := model pg wd)
  have l1 := looks_findIn (M := model pg wd) X C.hg
  have l2 := looks_findIn (M := model pg wd) X C.hk
  have l3 := looks_find (M := model pg wd) X I hf
  have lsub : Looks (model pg wd) hp (isInstance (.ref x) (.type "BaseException")) true := l0.andThen (looks_subIn X C.hs)
  have n0 : (false && onTheHeap (Value.builtin "BaseException.__getattribute__")) = false := rfl
  have n2 : (Value.builtin "BaseException.__getattribute__" == Value.builtin "object.__getattribute__") = false := by decide +kernel
  have n1 : (onTheHeap (Value.ref D) && Value.builtin "BaseException.__getattribute__" == Value.builtin "object.__getattribute__") = false := by rw [n2]; rfl
  unfold getAttr? getAttrBy? getAttrBy
  refine wpAny_bind (wpAny_mkText (wpAny_bind (wpAny_attempt (wpAny_holding (wpAny_bind (l0.at (wpAny_bind (l1.at ?_))))))))
  show wpAny _ _ (if (onTheHeap (Value.ref D) && Value.builtin "BaseException.__getattribute__" == Value.builtin "object.__getattribute__") = true then _ else _) _ _ _
  rw [n1, if_neg Bool.false_ne_true]
  unfold getAttrByItsOwn hookBefore
  refine wpAny_bind ?_
  rw [if_pos (show onTheHeap (Value.ref D) = true from rfl)]
  refine l2.at ?_
  refine wpAny_bind (wpAny_attempt (wpAny_holding ?_))
  unfold callGetattribute
  rw [n0, if_neg Bool.false_ne_true]
  unfold boundAndCalled
  rw [PySem.F.excAttr_ValueError.ga.bind (.ref x)]
  refine wpAny_bind (wpAny_pure ?_)
  show wpAny _ _ (call (.builtin "BaseException.__getattribute__") [.ref x, .str "__class__" tk]) _ _ _
  refine wpAny_call (codeAny_call_builtin PySem.F.excAttr_ValueError.ga.plain PySem.F.entry_bexc_ga ?_)
  refine @check_slot (model pg wd) _ _ ⟨hp, gs, dr, tk + 1, os⟩ "BaseException.__getattribute__" "BaseException" "__getattribute__" (.ref x)
    [.str "__class__" tk] [] _ (by decide +kernel) (by decide +kernel) lsub (PySem.F.args_bexc_ga (.ref x) (.str "__class__" tk)) ?_
  unfold Builtin.«object.__getattribute__»
  refine wpAny_bind (wpAny_of_eq (a := ((Value.ref x : Value), [Value.str "__class__" tk])) (by first | rfl | (simp only [slotArgs]; rfl)) ?_)
  refine wpAny_bind (wpAny_pure (wpAny_bind (l0.at (wpAny_bind (l3.at ?_)))))
  show wpAny _ _ (holding [Value.builtin "object.__class__"] (call (.builtin "getset_descriptor.__get__") [.builtin "object.__class__", .ref x, .ref D]) >>= ret) _ _ _
  refine wpAny_bind (wpAny_holding (wpAny_call (class_get (s := ⟨hp, gs, dr, tk + 1, os⟩) (ox := ox) (od := od) X I C.hm ?_)))
  refine wpAny_pure ?_
  show wpAny _ _ (handedOut (.ref D)) _ _ _
  rw [handedOut_of (v := .ref D) rfl]
  first
    | exact wpAny_pure (wpAny_pure h)
    | exact wpAny_pure h
    | exact wpAny_pure (wpAny_bind (wpAny_pure (wpAny_pure h)))
theorem err_kit {od : Option Obj} (C : L2.ExcC Kf D) : KitX Kf (.ref x) (.ref D) (fun h => InstAt h x ox D od) where
  ty := fun _ _ _ I => I.type
  it := fun _ _ X _ => by
    obtain ⟨cdD, hcD, _⟩ := any_some C.hd
    unfold clsIn at hcD
    split at hcD
    · rename_i c' d' cd' sl' ho
      intro A' Q' E' s' k q
      unfold isType loadHead
      exact wpAny_bind (wpAny_loadPart (k _ _ (X _ _ ho)) (wpAny_pure q))
    · cases hcD
  ne := fun h tp dd its n sl X htp => by
    obtain ⟨cdD, hcD, _⟩ := any_some C.hd
    refine Bool.eq_false_iff.mpr fun q => ?_
    have e : D = tp := Value.ref.inj (beq_iff_eq.mp q)
    subst e
    unfold clsIn at hcD
    split at hcD
    · rename_i c' d' cd' sl' ho
      have z := (X _ _ ho).symm.trans htp
      cases z
    · cases hcD
  ca := fun X I k => err_class C X I k
end
end GX
namespace L2
open PySem PySem.Spec PyProof.Rows
/-- the dict that an error may have is tracked -/
def ErrD (H : Hp) : Option Addr → Prop
  | none => True
  | some d => ∃ fs, H d = some (.xd fs)
/-- isinstance(e, c), e a pinned error with the class at D -/
def rIsP (K : PySem.W.Frag) (a : Addr) (cls : Value) (d : Option Addr) : List V → Hp → VK → Prop := fun xs H Q =>
  ∃ (D : Addr) (c : V) (cv : Value) (b : Bool), cls = .ref D ∧ ExcC K D ∧ ErrD H d ∧ xs = [.ref a, c] ∧ (∀ u, RelV c u → u = cv) ∧ PySem.W.kitOne K (.ref D) cv = some b ∧ Q (.bl b) H
theorem call_isP {X : Cx} {a : Addr} {oe : Obj} {cls : Value} {d : Option Addr} (hz : Zc cls d oe) (hf : ∃ vs, oe.data = .fields vs) (hm : (a, oe) ∈ X.pn) : CallR X (.builtin "isinstance") (rIsP X.K a cls d) := by
  intro pins s σ H xs us Q I r h
  obtain ⟨D, c, cv, b, rfl, C, hd, rfl, hcv, e, q⟩ := h
  cases r with
  | cons rx rr =>
    cases rr with
    | cons rt rr =>
      cases rr
      cases rx
      have ec := hcv _ rt
      subst ec
      obtain ⟨hget, _⟩ := I.pin (a, oe) (List.mem_append.mpr (.inl hm))
      obtain ⟨vs, hv⟩ := hf
      have J : ∃ od, PySem.W.InstAt s.heap a oe D od := by
        cases d with
        | none => exact ⟨none, hget, hz.1, by unfold PySem.W.notCls; rw [hv] <;> rfl, by rw [hz.2]; trivial⟩
        | some dd =>
          obtain ⟨fs, ef⟩ := hd
          obtain ⟨mA, hns, _⟩ : ObjOk X.prog X.w H s.heap dd (.xd fs) := I.hok dd _ ef
          obtain ⟨od, ho, _⟩ := lookIn_ns hns
          exact ⟨some od, hget, hz.1, by unfold PySem.W.notCls; rw [hv] <;> rfl, by rw [hz.2]; exact ho⟩
      obtain ⟨od, J⟩ := J
      exact PySem.W.kia_one (GX.err_kit C) I.kIn J e (fun z => nomatch z) fun tk => ⟨.bl b, H, I.kept (t' := tk) fun _ _ z => z, rfl, q⟩
end L2
namespace L2
open PySem PySem.Spec PyProof.Rows
/-- repr(v): v is data of the kind d, small enough to be shown -/
structure ShowOk (d : PyData) : Prop where
  sh : d.showable = true
  nd : d.hasDict = false
  dp : d.depth ≤ 40
  sz : d.shown.length ≤ sizeLine
def rShow (K : PySem.W.Frag) : List V → Hp → VK → Prop := fun xs H Q => ∃ (v : V) (d : PyData), xs = [v] ∧ Dp K H v d ∧ ShowOk d ∧ Q (.str d.shown) H
theorem call_show {X : Cx} (hg : X.A.guards = some []) (hu : X.A.units + 64 < cLine) : CallR X (.builtin "repr") (rShow X.K) := by
  intro pins s σ H xs us Q I r h
  obtain ⟨v, d, rfl, hd, ok, q⟩ := h
  cases r with
  | cons rv rr =>
    cases rr
    rename_i u
    have fin : ∀ (h' : Heap) (tk : Tok) (t' : Nat), (∀ b o, s.heap.get? b = some o → h'.get? b = some o) → EP X pins σ Q (.str d.shown tk) { s with heap := h', toks := t' } :=
      fun h' tk t' k => ⟨.str d.shown, H, I.kept (t' := t') k, ⟨_, rfl⟩, q⟩
    cases hd with
    | non =>
      cases rv
      exact PySem.P.repr_of_none (fin s.heap _ _ fun _ _ e => e)
    | bl b =>
      cases rv
      have e : (PyData.bool b).shown = (if b = true then Str.ofString "True" else Str.ofString "False") := by cases b <;> simp [PyData.shown]
      rw [e] at fin
      exact PySem.P.repr_of_bool (fin s.heap _ _ fun _ _ e => e)
    | int i =>
      obtain ⟨t, rfl⟩ := rv
      have e : (PyData.int i).shown = Str.ofString (toString i) := by simp [PyData.shown]
      have hl : i.natAbs.log2 < 1920 := by simpa [PyData.showable] using ok.sh
      rw [e] at fin
      exact PySem.P.repr_of_int hl (fin s.heap _ _ fun _ _ e => e)
    | str x =>
      obtain ⟨t, rfl⟩ := rv
      exact PySem.P.repr_of_str (fin s.heap _ _ fun _ _ e => e) ok.sz
    | lst hs ha =>
      obtain ⟨as, hr⟩ := Dp.reads I _ _ _ (.lst hs ha) rv
      cases rv
      exact repr_of_reads' hr ok.sh (fun z => by rw [ok.nd] at z; cases z) hg (by have := ok.dp; omega) (fun _ _ e => e) (fun h' u tk k => fin h' u tk k) ok.sz
    | tup hs ha =>
      obtain ⟨as, hr⟩ := Dp.reads I _ _ _ (.tup hs ha) rv
      cases rv
      exact repr_of_reads' hr ok.sh (fun z => by rw [ok.nd] at z; cases z) hg (by have := ok.dp; omega) (fun _ _ e => e) (fun h' u tk k => fin h' u tk k) ok.sz
end L2
/-! Promises of defs that may lean on: nothing is being shown around them (no list or tuple's repr is under way). -/
namespace L2
open PySem PySem.Spec PyProof.Rows
/-- as FnOk, told only of surroundings in which nothing is being shown -/
structure FnG (Pg : Program) (wd : World) (Kf : PySem.W.Frag) (gl : Str → Option Value) (ground : Heap) (XX : CXT) (lev : Nat) (at' : Addr) (fdat : FuncData) (params : List Str) (prom : Sp) : Prop where
  len : ∀ vs H Q E, prom vs H Q E → vs.length = params.length
  run : ∀ (ar : Around) (fr : List Env) (st : Shared) (H : Hp) (given : Args) (us : List Value) (vs : List V) (Q : VK) (E : XK), ar.guards = some [] → Room lev ar → Env0 Pg wd Kf gl ground ar fr st H →
    BindsTo st fdat given (params.zip us) → Vals vs us → prom vs H Q E → codeAny (model Pg wd) ar (.call (.ref at') given) (CR XX fr Pg wd H st Q E) st
theorem FnOk.g {Pg : Program} {wd : World} {Kf : PySem.W.Frag} {gl : Str → Option Value} {ground : Heap} {XX : CXT} {lev : Nat} {at' : Addr} {fdat : FuncData} {params : List Str} {prom : Sp}
    (F : FnOk Pg wd Kf gl ground XX lev at' fdat params prom) : FnG Pg wd Kf gl ground XX lev at' fdat params prom :=
  ⟨F.len, fun ar fr st H given us vs Q E _ => F.run ar fr st H given us vs Q E⟩
theorem FnG.mono {Pg : Program} {wd : World} {Kf : PySem.W.Frag} {gl : Str → Option Value} {ground : Heap} {XX : CXT} {j lev : Nat} {at' : Addr} {fdat : FuncData} {params : List Str} {prom : Sp}
    (F : FnG Pg wd Kf gl ground XX j at' fdat params prom) (h : j ≤ lev) : FnG Pg wd Kf gl ground XX lev at' fdat params prom :=
  ⟨F.len, fun ar fr st H given us vs Q E hg hr => F.run ar fr st H given us vs Q E hg (hr.mono h)⟩
theorem guards_deeper {ar : Around} {env : Env} (h : ar.guards = some []) : (ar.deeper env).guards = some [] := h
/-- a def's promise by its body -/
theorem fnG_of {XX : CXT} {Pg : Program} {wd : World} {Kf : PySem.W.Frag} {gl : Str → Option Value} {ground : Heap} {lev : Nat} {at' : Addr} {nm qn : Str} {pars : Arguments} {bd : List Stmt} {sco : Scope} {v1 v2 v3 v4 cv v5 v6 : Value} {o1 o2 : Option Addr}
    {sl : Array (Option Value)} {N params : List Str} {prom : Sp} (look : Kf.lookup at' = some ⟨v6, o2, .func (PySem.W.fnOf nm qn pars bd sco v1 v2 v3 v4 o1 cv v5), sl⟩) (hcd : PySem.W.codeIn Kf cv qn = true) (S : FnScope N params sco)
    (len : ∀ vs H Q E, prom vs H Q E → vs.length = params.length)
    (body : ∀ (ar : Around) (fr : List Env) (st : Shared) (H : Hp) (vs : List V) (Q : VK) (E : XK), ar.guards = some [] → Room lev (ar.deeper (envOfC qn sco st.heap.objs.size at' cv)) → prom vs H Q E →
      ∃ t, PSs (cxOf XX Pg wd Kf gl ground N qn sco at' cv ar fr st H E) bd t ∧ t { nx := fun _ H' => Q .non H', rt := Q } (start N vs) H) :
    FnG Pg wd Kf gl ground XX (lev + 1) at' (PySem.W.fnOf nm qn pars bd sco v1 v2 v3 v4 o1 cv v5) params prom := by
  exact ⟨len, fun ar fr st H given us vs Q E hg hr e0 hb r hsp => LamX.run_ofS look hcd S hr e0 hb r (len _ _ _ _ hsp) fun hr' => body ar fr st H vs Q E hg hr' hsp⟩
theorem Fun.okG {nm qn : Str} {sm : Stmt} {at' : Addr} {fdat : FuncData} {N params : List Str} {lev : Nat} {prom : Sp} {Pg : Program} {wd : World} {Kf : PySem.W.Frag} {gl : Str → Option Value} {ground : Heap}
    (F : Fun Kf nm qn sm at' fdat) (S : FnScope N params (defScope sm)) (len : ∀ vs H Q E, prom vs H Q E → vs.length = params.length)
    (body : ∀ (cv : Value) (ar : Around) (fr : List Env) (st : Shared) (H : Hp) (vs : List V) (Q : VK) (E : XK), ar.guards = some [] → Room lev (ar.deeper (envOfC qn (defScope sm) st.heap.objs.size at' cv)) → prom vs H Q E →
      ∃ t, PSs (cxOf CX0 Pg wd Kf gl ground N qn (defScope sm) at' cv ar fr st H E).nox (defBody sm) t ∧ t { nx := fun _ H' => Q .non H', rt := Q } (start N vs) H) :
    FnG Pg wd Kf gl ground CX0 (lev + 1) at' fdat params prom := by
  obtain ⟨_, _, _, _, _, _, cv, _, _, rfl, look, hcd⟩ := F.ex
  refine fnG_of look hcd S len fun ar fr st H vs Q E hg hr hsp => ?_
  obtain ⟨t, h, q⟩ := body cv ar fr st H vs Q E hg hr hsp
  exact ⟨t, h.nox, q⟩
section
variable {X : Cx} {XX : CXT} {lev : Nat} {at' : Addr} {fdat : FuncData} {params : List Str} {prom : Sp} {dvs : List V} {ds : List Value} {E : XK} {nm : Str} {p pos : Pos} {e : Expr} {es : List Expr} {t : TA}
theorem run_fnG {pins : List (Addr × Obj)} {σ : St} {H : Hp} {s : Shared} {Q : VK} {us : List Value} {vs : List V} (F : FnG X.prog X.w X.K X.mg X.base XX lev at' fdat params prom) (hg : X.A.guards = some []) (hr : Room lev X.A) (hb : Binds X.K fdat params ds)
    (hd : Vals dvs ds) (hx : Passes XX X E) (I : Inv X pins σ H s) (r : Vals vs us) (h : prom (vs ++ dvs) H Q E) : wpAny (model X.prog X.w) X.A (call (.ref at') us) (EP X pins σ Q) X.xe s := by
  have both : Vals (vs ++ dvs) (us ++ ds) := r.append hd
  have many : (us ++ ds).length = params.length := both.length.symm.trans (F.len _ _ _ _ h)
  refine wpAny_call (codeAny_mono (F.run X.A X.stack s H ⟨us, []⟩ _ _ Q E hg hr I.env0 (hb s us I.kIn many) both h) fun res s' out => ?_)
  match res, out with
  | .error err, out => exact hx pins σ H s err s' I out
  | .ok (.ret _), out => exact I.after out
  | .ok .next, out => exact out.elim
  | .ok .brk, out => exact out.elim
  | .ok .cont, out => exact out.elim
theorem pe_callG (F : FnG X.prog X.w X.K X.mg X.base XX lev at' fdat params prom) (hg : X.A.guards = some []) (hr : Room lev X.A) (hgl : Gl X nm) (hm : X.mg nm = some (.ref at')) (hk : PySem.W.keepIn X.K (.ref at') = true) (hb : Binds X.K fdat params ds) (hd : Vals dvs ds)
    (hx : Passes XX X E) (ha : PA X (e :: es) t) (hdb : (nm == ("__debug__" : Str)) = false := by decide) (he : starEach (e :: es) X.env = (false, eval e X.env) :: starEach es X.env := by rfl)
    (hpl : (backTo pos (starEach es X.env)).any (·.1) = false := by rfl) : PE X (.Call (.Name nm p) (e :: es) [] pos) (tCall prom dvs E t) :=
  ⟨fun pins s σ H Q I h => wpAny_Call_Name_kw (ld_glob I hgl hm (PySem.W.callWith_K (h₀ := X.base) I.ok.mod.kin hk
    (thn (ha.run pos pins s σ H _ I h) fun us s1 ⟨vs, H1, I1, r, q⟩ => ⟨I1.kIn, run_fnG F hg hr hb hd hx I1 r q⟩) he hpl) hdb)⟩
end
end L2
/-! The end of a law's row: the law's promise FnG, met by the caller in whose surroundings nothing is being shown. -/
namespace L2
open PySem PySem.Spec PyProof.Rows LamX
/-- what the caller tracks ahead of the law: the tables of code objects, and perhaps the script, locked -/
structure Ahead (tabs : List (Addr × Addr)) (Kf : PySem.W.Frag) (scr : Addr) (ns : List Int) (H : Hp) (h : Heap) : Prop where
  tab : ∀ p ∈ tabs, H p.2 = some (.tbl #[])
  only : ∀ b, H b = none ∨ b ∈ tabs.map (·.2) ∨ ∃ o xs, H b = some (.frz o (.lst xs))
  seq : SqL Kf H scr (ns.map V.int)
  dom : ∀ b, H b ≠ none → b = scr ∨ b ∈ tabs.map (·.2)
  loose : H scr ≠ none → Kf.lookup scr = none
section
variable {Pg : Program} {wd : World} {Kf : PySem.W.Frag} {gl bl : Str → Option Value} {lev : Nat} {at' scr : Addr} {tabs : List (Addr × Addr)} {fdat : FuncData} {nm : Str} {prom : Sp} {st : Shared} {vs : List Value} {ns : List Int} {XX : CXT}
theorem ahead_go {H : Hp} (KX : Kf.In st.heap) (gns : st.heap.Ns mainGlobals gl) (bns : st.heap.Ns builtinsNs bl) (bbo : ∀ x : Str, x ≠ "__name__" → bl x = bootBuiltins x) (nol : st.heap.NoLimit) (gens : st.gens = #[])
    (tT : ∀ p ∈ tabs, st.heap.get? p.2 = some { cls := .none, data := .fields #[] }) (nT : ∀ p ∈ tabs, Kf.lookup p.2 = none) (cT : ∀ p ∈ tabs, PySem.W.CodeHd st.heap p.1 p.2)
    (bmain : ∃ (bm : Addr) (ob : Obj), gl "__builtins__" = some (.ref bm) ∧ bm ≠ builtinsNs ∧ st.heap.get? bm = some ob ∧ ob.cls = .type "module" ∧ ob.dict = some builtinsNs ∧ ob.data = .plain)
    (scrO : st.heap.get? scr = some { cls := .type "list", data := .seq vs.toArray }) (rm : Room lev callerA) (W : Ahead tabs Kf scr ns H st.heap) (hok : HOk Pg wd H st.heap)
    (F : ∀ ground : Heap, Kf.In ground → ground.Ns mainGlobals gl → (∀ p ∈ tabs, TabB ground gl p.1 p.2) → FnG Pg wd Kf gl ground XX lev at' fdat [nm] prom) (bnd : ∀ (s : Shared) (u : Value), BindsTo s fdat ⟨[u], []⟩ [(nm, u)])
    (said : prom [.ref scr] H (fun v _ => v = .bl true) fun _ _ _ => False) (noX : ∀ e s', XX [] H st (fun _ _ _ => False) e s' → False) :
    codeAny (model Pg wd) callerA (.call (.ref at') ⟨[.ref scr], []⟩) (fun r s' => r = .ok (.ret (.bool true)) ∧ OldK st.heap s'.heap ∧ s'.os = st.os ∧ AllBare s'.gens) st := by
  have tabAt : ∀ b, b ∈ tabs.map (·.2) → st.heap.get? b = some { cls := .none, data := .fields #[] } := fun b hb => by
    obtain ⟨p, hp, rfl⟩ := List.mem_map.mp hb
    exact tT p hp
  -- what is neither a list nor an empty table is not tracked
  have plain : ∀ {b : Addr} {o : Obj}, st.heap.get? b = some o → (∀ ys n, o.data ≠ .seq ys n) → o.data ≠ .fields #[] → H b = none := fun {b o} e h1 h2 => by
    apply Classical.byContradiction
    intro hb
    rcases W.dom b hb with z | z
    · subst z
      rw [scrO] at e
      obtain rfl := Option.some.inj e
      exact h1 _ _ rfl
    · rw [tabAt b z] at e
      obtain rfl := Option.some.inj e
      exact h2 rfl
  have dicts : ∀ {b : Addr} {o : Obj} {es : Array DictEntry} {n : Nat}, st.heap.get? b = some o → o.data = .dict es n → H b = none := fun {b o es n} e d =>
    plain e (fun ys m z => by rw [d] at z; cases z) fun z => by rw [d] at z; cases z
  have keepNs : ∀ {b : Addr} {m : Str → Option Value}, st.heap.Ns b m → (hidT st.heap H).Ns b m := fun {b m} ⟨o, es, n, e, d, r⟩ => ⟨o, es, n, hidT_get e (dicts e d), d, r⟩
  have KG : Kf.In (hidT st.heap H) := fun b o e => hidT_get (KX b o e) (by
    apply Classical.byContradiction
    intro hb
    rcases W.dom b hb with z | z
    · subst z
      rw [W.loose hb] at e
      cases e
    · obtain ⟨p, hp, rfl⟩ := List.mem_map.mp z
      rw [nT p hp] at e
      cases e)
  have MG : L2.Mod Kf gl (hidT st.heap H) := by
    obtain ⟨mc, n1, n2⟩ := nol
    exact ⟨KG, keepNs gns, ⟨bl, keepNs bns, bbo⟩, ⟨mc, keepNs n1, n2⟩⟩
  have TB : ∀ p ∈ tabs, TabB (hidT st.heap H) gl p.1 p.2 := fun p hp => by
    have notG : mainGlobals ≠ p.2 := fun z => by
      obtain ⟨o, es, n, e, d, _⟩ := gns
      rw [z, tT p hp] at e
      obtain rfl := Option.some.inj e
      cases d
    refine ⟨?_, ?_, notG⟩
    · obtain ⟨o, us, f1, f2, f3, f4, f5, f6, f7, e1, r1, r2, r3, r4, r5, r6, r7, r8, r9⟩ := cT p hp
      refine ⟨o, us, f1, f2, f3, f4, f5, f6, f7, hidT_get e1 (plain e1 (fun ys n z => ?_) fun z => ?_), r1, r2, r3, r4, r5, r6, r7, r8, r9⟩
      · rw [r2] at z; cases z
      · rw [r2] at z
        cases z
        simp at r3
    · obtain ⟨bm, ob, b1, b2, b3, b4, b5, b6⟩ := bmain
      refine ⟨bm, ob, b1, b2, fun q => ?_, fun q => ?_, hidT_get b3 (plain b3 (fun ys n z => ?_) fun z => ?_), b4, b5, b6⟩
      · obtain ⟨o, es, n, e, d, _⟩ := gns
        rw [q, e] at b3
        obtain rfl := Option.some.inj b3
        rw [d] at b6; cases b6
      · rw [q, tT p hp] at b3
        obtain rfl := Option.some.inj b3
        cases b6
      · rw [b6] at z; cases z
      · rw [b6] at z; cases z
  have e0 : Env0 Pg wd Kf gl (hidT st.heap H) callerA [] st H :=
    ⟨rfl, MG, fun b o e => of_hidT e, Nat.le_of_eq (hidT_size _ _), trivial, fun b hb => absurd (show b ∈ ([] : List Addr) from hb) (by simp), hok, .of_eq gens⟩
  refine codeAny_mono ((F _ KG (keepNs gns) TB).run callerA [] st H ⟨[.ref scr], []⟩ [.ref scr] [.ref scr] _ _ rfl rm e0 (bnd st (.ref scr)) (.cons rfl .nil) said) fun res s' out => ?_
  match res, out with
  | .error err, out => exact (noX err s' out).elim
  | .ok .next, out => exact out.elim
  | .ok .brk, out => exact out.elim
  | .ok .cont, out => exact out.elim
  | .ok (.ret u), out =>
    obtain ⟨v, H', os, bare, un, hok', rv, q⟩ := out
    obtain rfl : v = .bl true := q
    obtain rfl : u = Value.bool true := rv
    have old : ∀ b o, b ∉ tabs.map (·.2) → st.heap.get? b = some o → s'.heap.get? b = some o := fun b o nb e => by
      rcases W.only b with z | z | ⟨ob, xs, z⟩
      · exact un.keep b o e z (fun y => absurd (show b ∈ ([] : List Addr) from y) (by simp)) (by simp)
      · exact absurd z nb
      · obtain ⟨e1, _⟩ := hok b _ z
        obtain ⟨e2, _⟩ := hok' b _ (un.frzs b ob _ z)
        rw [e] at e1
        rw [Option.some.inj e1]
        exact e2
    have grown : ∀ p ∈ tabs, ∃ more : Array Value, s'.heap.get? p.2 = some { cls := .none, data := .fields more } := fun p hp => by
      obtain ⟨more, z⟩ := un.tbls p.2 #[] (W.tab p hp)
      exact ⟨_, hok' p.2 _ z⟩
    refine ⟨rfl, ⟨fun b o e => ?_, fun b o e => ?_⟩, os, bare⟩
    · by_cases hb : b ∈ tabs.map (·.2)
      · obtain ⟨p, hp, rfl⟩ := List.mem_map.mp hb
        obtain ⟨more, hm⟩ := grown p hp
        rw [tT p hp] at e
        obtain rfl := Option.some.inj e
        exact .inr (.inl ⟨((cT p hp).tab (tT p hp)).isCodeTable, rfl, #[], more, rfl, by rw [Array.empty_append]; exact hm⟩)
      · exact .inl (old b o hb e)
    · by_cases hb : b ∈ tabs.map (·.2)
      · obtain ⟨p, hp, rfl⟩ := List.mem_map.mp hb
        obtain ⟨more, hm⟩ := grown p hp
        exact ⟨_, hm⟩
      · exact ⟨o, old b o hb e⟩
/-- what the caller tracks: there is such an abstract heap -/
theorem ahead_any {Pg : Program} {wd : World} (KX : Kf.In st.heap) (tT : ∀ p ∈ tabs, st.heap.get? p.2 = some { cls := .none, data := .fields #[] })
    (scrO : st.heap.get? scr = some { cls := .type "list", data := .seq vs.toArray }) (hi : IntsAre vs ns) (hl : ns.length ≤ sizeLine) : ∃ H : Hp, Ahead tabs Kf scr ns H st.heap ∧ HOk Pg wd H st.heap := by
  have tabAt : ∀ b, b ∈ tabs.map (·.2) → st.heap.get? b = some { cls := .none, data := .fields #[] } := fun b hb => by
    obtain ⟨p, hp, rfl⟩ := List.mem_map.mp hb
    exact tT p hp
  have notT : scr ∉ tabs.map (·.2) := fun z => by
    have e := tabAt scr z
    rw [scrO] at e
    cases congrArg Obj.data (Option.some.inj e)
  have mem : ∀ p ∈ tabs, p.2 ∈ tabs.map (·.2) := fun p hp => List.mem_map.mpr ⟨p, hp, rfl⟩
  have rv := vals_ints hi
  cases hk : Kf.lookup scr with
  | some o =>
    have e := KX scr o hk
    rw [scrO] at e
    obtain rfl := Option.some.inj e
    refine ⟨fun b => if b ∈ tabs.map (·.2) then some (.tbl #[]) else none, ⟨fun p hp => if_pos (mem p hp), fun b => ?_, .inr ⟨_, vs.toArray, _, hk, rfl, rfl, rfl, by rw [List.size_toArray, hi.length]; exact hl, by simpa using rv⟩, fun b z => ?_, fun z => absurd (if_neg notT) z⟩, fun b u z => ?_⟩
    · by_cases hb : b ∈ tabs.map (·.2)
      · exact .inr (.inl hb)
      · exact .inl (if_neg hb)
    · by_cases hb : b ∈ tabs.map (·.2)
      · exact .inr hb
      · exact absurd (if_neg hb) z
    · by_cases hb : b ∈ tabs.map (·.2)
      · obtain rfl := Option.some.inj ((if_pos hb).symm.trans z)
        exact tabAt b hb
      · cases (if_neg hb).symm.trans z
  | none =>
    refine ⟨fun b => if b = scr then some (.frz { cls := .type "list", data := .seq vs.toArray } (.lst (ns.map V.int))) else if b ∈ tabs.map (·.2) then some (.tbl #[]) else none,
      ⟨fun p hp => (if_neg (show ¬ p.2 = scr from fun z => notT (z ▸ mem p hp))).trans (if_pos (mem p hp)), fun b => ?_, .inl (.inr ⟨{ cls := .type "list", data := .seq vs.toArray }, if_pos rfl⟩), fun b z => ?_, fun _ => hk⟩, fun b u z => ?_⟩
    · by_cases h1 : b = scr
      · exact .inr (.inr ⟨_, _, if_pos h1⟩)
      · by_cases h2 : b ∈ tabs.map (·.2)
        · exact .inr (.inl h2)
        · exact .inl ((if_neg h1).trans (if_neg h2))
    · by_cases h1 : b = scr
      · exact .inl h1
      · by_cases h2 : b ∈ tabs.map (·.2)
        · exact .inr h2
        · exact absurd ((if_neg h1).trans (if_neg h2)) z
    · by_cases h1 : b = scr
      · obtain rfl := Option.some.inj ((if_pos h1).symm.trans z)
        subst h1
        exact ⟨scrO, by rw [List.length_map]; exact hl, vs, _, rv, scrO⟩
      · have z2 := (if_neg h1).symm.trans z
        by_cases h2 : b ∈ tabs.map (·.2)
        · obtain rfl := Option.some.inj ((if_pos h2).symm.trans z2)
          exact tabAt b h2
        · cases (if_neg h2).symm.trans z2
end
/-- what must be known of the law's promise at the head's heap h -/
def LawAtG (l : PySem.W.OpenLaw) (wd : World) (Kf : PySem.W.Frag) (XX : CXT) (lev n : Nat) (nm : Str) (gl : Str → Option Value) (at' : Addr) (h : Heap) : Prop :=
  ∃ (fdat : FuncData) (tabs : List (Addr × Addr)) (prom : Sp), (∀ p ∈ tabs, h.get? p.2 = some { cls := .none, data := .fields #[] }) ∧ (∀ p ∈ tabs, Kf.lookup p.2 = none) ∧ (∀ p ∈ tabs, PySem.W.CodeHd h p.1 p.2) ∧
    (∀ (s : Shared) (u : Value), BindsTo s fdat ⟨[u], []⟩ [(nm, u)]) ∧
    (∀ (H : Hp) (scr : Addr) (ns : List Int), ns.length ≤ n → (∀ z ∈ ns, Builtin.Int.intBits z ≤ 1048576) → (∀ p ∈ tabs, H p.2 = some (.tbl #[])) → SqL Kf H scr (ns.map V.int) → prom [.ref scr] H (fun v _ => v = .bl true) fun _ _ _ => False) ∧
    ∀ ground : Heap, Kf.In ground → ground.Ns mainGlobals gl → (∀ p ∈ tabs, TabB ground gl p.1 p.2) → FnG l.prog wd Kf gl ground XX lev at' fdat [nm] prom
theorem walk_ofG {l : PySem.W.OpenLaw} {n lev : Nat} {q : Program} {loose : List Str} {XP : (Str → Option Value) → Heap → Prop} {YP : World → Heap → Prop} {d : DefRec} {Kf : Params → PySem.W.Frag} {XX : World → CXT} {nm : Str}
    (hn : l.most = some n) (hn2 : n ≤ sizeLine) (hdf : d.params.defaults = []) (rm : Room lev callerA) (hY : ∀ (w : World) (h : Heap), YP w h → (Kf w.params).In h)
    (F : ∀ (w : World) (gl : Str → Option Value) (at' : Addr) (h : Heap), YP w h → (Kf w.params).In h → h.Ns mainGlobals gl → gl d.name = some (.ref at') → LawAtG l w (Kf w.params) (XX w) lev n nm gl at' h)
    (noX : ∀ (w : World) (H : Hp) (s : Shared) (e : Value) (s' : Shared), XX w [] H s (fun _ _ _ => False) e s' → False) :
    PySem.W.WalkO q loose XP YP l.row.toRowW d [] (fun f vs => PySem.call f vs) := by
  refine Att.attach_callB hn hdf fun w s₀ s₁ mg mb fa o pm cd doc a vs ns G Y ho hd hcd hmg hobj hints hlen hbits hg => ?_
  have KX := hY w _ Y
  obtain ⟨fdat, tabs, prom, tT, nT, cT, bnd, said, F1⟩ := F w mg fa _ Y KX G.T.g hmg
  obtain ⟨H, W, hok⟩ := ahead_any (Pg := l.prog) (wd := w) (ns := ns) KX tT hobj hints (Nat.le_trans hlen hn2)
  exact ahead_go KX G.T.g G.T.b G.T.builtins G.T.nolimit hg tT nT cT G.T.bmain hobj rm W hok F1 bnd (said H a ns hlen hbits W.tab W.seq) fun e s' => noX w H s₁ e s'
end L2
/-! [e for x in range(n)] within an except suite: the block bears the handled error as its pin. -/
namespace L2
open PySem PySem.Spec PyProof.Rows HotX
abbrev Cx.blkP (X : Cx) (s : Shared) (H : Hp) (sco : Scope) (ce : Env) (fp : List Addr) (q : Addr × Obj) : Cx := { X.blk s H sco ce fp with pn := [q] }
theorem Inv.pinOn {X : Cx} {s0 : Shared} {H0 : Hp} {sco : Scope} {ce : Env} {fp : List Addr} {q : Addr × Obj} {σ : St} {H : Hp} {s : Shared} (I : Inv (X.blk s0 H0 sco ce fp) [] σ H s)
    (hq : s.heap.get? q.1 = some q.2 ∧ H q.1 = none ∧ q.1 ≠ ce.locals ∧ q.1 ∉ frs X.stack ∧ ∀ v, q.2.data ≠ .cell v) : Inv (X.blkP s0 H0 sco ce fp q) [] σ H s :=
  ⟨⟨I.ok.mod, I.ok.kind, I.ok.glob, I.ok.blt, I.ok.above, I.ok.inj, I.ok.has, I.ok.cab, I.ok.hd, I.ok.frames, I.ok.stk, I.ok.exf, I.ok.bs, I.ok.bsz, I.ok.noex, I.ok.exfs, I.ok.funs, I.ok.frf⟩,
    I.os, I.bare, I.base, I.loc, I.cell, I.free, I.freeC, fun p hp => by
      have e : p = q := by simpa using (show p ∈ [q] ++ ([] : List (Addr × Obj)) from hp)
      rw [e]
      exact hq, I.hok, I.len⟩
theorem pe_lcHot {X : Cx} {elt tg ne : Expr} {sco : Scope} {own : List (Str × Nat)} {p1 p2 p3 : Pos} {ta : TA} {g : TG} {te : TE} (hot : L2H.HotC X) (hN : X.N.Nodup) (hgl : Gl X "range") (hmr : X.mg "range" = none) (ha : PA X [ne] ta)
    (ok : BlkOk X.N X.env.scope sco own)
    (hg : ∀ (s : Shared) (H : Hp) (C : Addr) (cl : List (Str × Addr)) (fp : List Addr) (q : Addr × Obj), PG (X.blkP s H sco (compEnvC sco cl C X.env) fp q) tg g)
    (he : ∀ (s : Shared) (H : Hp) (C : Addr) (cl : List (Str × Addr)) (fp : List Addr) (q : Addr × Obj), PE (X.blkP s H sco (compEnvC sco cl C X.env) fp q) elt te)
    (hss : starEach [ne] X.env = [(false, eval ne X.env)] := by rfl) (hs : ∀ x, foldedSetIterable (.Call (.Name "range" p1) [ne] [] p2) X.env x = pure x := by intro _; rfl) :
    PE X (.ListComp elt [⟨tg, .Call (.Name "range" p1) [ne] [] p2, [], 0⟩] sco p3) (tLc (iRng1 ta) g tYes te (own.map (·.2))) := by
  refine ⟨fun pins s σ H Q I h => ?_⟩
  rw [eval_ListComp]
  obtain ⟨q, hot1, hq⟩ := hot
  have haves : ∀ y ∈ sco.names, y.2 = .free → ∃ c, X.env.cells.lookup y.1 = some c := fun y hy e => (ok.free y hy e).elim (fun k => I.ok.has _ (.inl k)) (fun k => I.ok.has _ (.inr k))
  refine wpAny_comprehension_free (use := none) rfl hs (closure_ok haves) ok.kind (fun y hy e => by rw [ok.uniq y hy, e])
    (thn ((L2H.pi_range1H (tg := tg) (p := p1) (pos := p2) hgl hmr ha hss).run pins s σ H _ I h) fun xv s1 hx => thn hx fun itv s2 h2 => ?_)
  obtain ⟨it, fp, tn, J, H2, rfl, I2, T, st2, f2, want⟩ := h2
  refine wpAny_newObj_type (newEnv_comp ?_) (by show 0 ≤ sizeLine; decide)
  generalize hD : s2.heap.objs.size = D
  have freeD : H2 D = none := I2.hok.fresh (Nat.le_of_eq hD)
  obtain ⟨W, ⟨m0, w0⟩, turn⟩ := want D freeD
  have P2 := I2.pin q (List.mem_append_left _ hq)
  have qF : q.1 ∉ frs X.stack := fun z => (List.mem_cons.mp (I2.stkSub q.1 z)).elim P2.2.2.1 P2.2.2.2.1
  have qlt : q.1 < s2.heap.objs.size := Heap.lt_size P2.1
  -- the new list
  generalize hs3 : ({ s2 with heap := s2.heap.push { cls := .type "list", data := .seq ([] : List Value).toArray } } : Shared) = s3
  have I3 : Inv X pins σ (upd H2 D (.lst [])) s3 := by
    rw [← hs3]
    refine I2.laid (t' := s2.toks) (fun b o e => Heap.get?_push_of_some _ e) (Nat.le_of_eq hD) ⟨Nat.zero_le _, [], 0, .nil, ?_⟩
    rw [← hD]
    exact Heap.get?_push_size _ rfl
  have heap3 : s3.heap = s2.heap.push { cls := .type "list", data := .seq ([] : List Value).toArray } := by rw [← hs3]
  have below : ∀ b ∈ fp, b < s2.heap.objs.size := fun b hb => by
    obtain ⟨o, e, _⟩ := T.obj _ _ st2 b hb
    exact Heap.lt_size e
  have f3 : ∀ b ∈ fp, FpOk X pins (upd H2 D (.lst [])) b ∧ b < s3.heap.objs.size := fun b hb =>
    ⟨⟨by rw [upd_ne (by rw [← hD]; exact Nat.ne_of_lt (below b hb))]; exact (f2 b hb).1, (f2 b hb).2⟩, by rw [heap3, Heap.size_push]; exact Nat.lt_succ_of_lt (below b hb)⟩
  have st3 : tn 0 s3.heap := T.keep _ _ _ st2 fun b _ o e => by rw [heap3]; exact Heap.get?_push_of_some _ e
  have I4 := block_start I3 ok hN f3
  have pg := hg s3 (upd H2 D (.lst [])) s3.heap.objs.size (cellsFrom (s3.heap.objs.size + 1) sco.names (cloFrom X.env.cells sco.names [])) fp q
  have pe := he s3 (upd H2 D (.lst [])) s3.heap.objs.size (cellsFrom (s3.heap.objs.size + 1) sco.names (cloFrom X.env.cells sco.names [])) fp q
  show codeAny _ _ (.compStart (.ListComp elt [⟨tg, .Call (.Name "range" p1) [ne] [] p2, [], 0⟩] sco p3) 0 (.ref it) (.ref D) (compEnvC sco (cellsFrom (s3.heap.objs.size + 1) sco.names (cloFrom X.env.cells sco.names [])) s3.heap.objs.size X.env))
    (compPost (model X.prog X.w) X.A X.xe none _ (.ref D) s3.heap.objs.size) { s3 with heap := pushCells (s3.heap.push { cls := .type "dict", data := .dict #[] }) sco.names }
  have nfp : ∀ b ∈ fp, (upd H2 D (.lst [])) b = none := fun b hb => (f3 b hb).1.1
  generalize hce : compEnvC sco (cellsFrom (s3.heap.objs.size + 1) sco.names (cloFrom X.env.cells sco.names [])) s3.heap.objs.size X.env = ce at I4 pg pe ⊢
  have cL : ce.locals = s3.heap.objs.size := by subst hce; rfl
  have qD : (upd H2 D (.lst [])) q.1 = none := by rw [upd_ne (by rw [← hD]; exact Nat.ne_of_lt qlt)]; exact P2.2.1
  have q3 : s3.heap.get? q.1 = some q.2 := by rw [heap3]; exact Heap.get?_push_of_some _ P2.1
  have qL : q.1 ≠ ce.locals := by rw [cL, heap3, Heap.size_push]; exact Nat.ne_of_lt (Nat.lt_succ_of_lt qlt)
  have qfp : ∀ b ∈ fp, q.1 ≠ b := fun b hb => (f3 b hb).1.2.2.2.2.2 q (List.mem_append_left _ hq)
  generalize hH3 : upd H2 D (.lst []) = H3 at I3 I4 pg pe w0 nfp f3 qD
  generalize hs4 : ({ s3 with heap := pushCells (s3.heap.push { cls := .type "dict", data := .dict #[] }) sco.names } : Shared) = s4 at I4 ⊢
  have st4 : tn 0 s4.heap := T.keep _ _ _ st3 fun b _ o e => by rw [← hs4]; exact pushCells_keeps _ _ _ _ (Heap.get?_push_of_some _ e)
  have I5 : Inv (X.blkP s3 H3 sco ce fp q) [] (wipe σ (own.map (·.2))) H3 s4 :=
    I4.pinOn ⟨by rw [← hs4]; exact pushCells_keeps _ _ _ _ (Heap.get?_push_of_some _ q3), qD, qL, qF, P2.2.2.2.2⟩
  have hotB : L2H.HotC (X.blkP s3 H3 sco ce fp q) := ⟨q, hot1, List.mem_cons_self⟩
  have stat : ∀ {σ' : St} {H' : Hp} {s' : Shared}, Inv (X.blkP s3 H3 sco ce fp q) [] σ' H' s' → (∀ b ∈ fp, H' b = none) → ∀ b ∈ fp, FpOk (X.blkP s3 H3 sco ce fp q) [] H' b := fun {σ' H' s'} I' hn b hb =>
    ⟨hn b hb, (I'.ok.exf b hb).1, I'.ok.exfs b hb, .inl hb, fun x c e => (I'.ok.exf b hb).2 x c e, fun p hp => by
      have e : p = q := by simpa using (show p ∈ [q] ++ ([] : List (Addr × Obj)) from hp)
      rw [e]
      exact qfp b hb⟩
  have loop : codeAny (model X.prog X.w) X.A (.compLoop (.ListComp elt [⟨tg, .Call (.Name "range" p1) [ne] [] p2, [], 0⟩] sco p3) 0 (.ref it) (.ref D) ce)
      (compPost (model X.prog X.w) X.A X.xe none (EP X pins σ Q) (.ref D) s3.heap.objs.size) s4 := by
    refine compLoop_any (fun n s' => ∃ i H', Inv (X.blkP s3 H3 sco ce fp q) [] (wipe σ (own.map (·.2))) H' s' ∧ tn i s'.heap ∧ (∀ b ∈ fp, H' b = none) ∧ W i n H') ?_ m0 ⟨0, H3, I5, st4, nfp, w0⟩
    rintro n s5 ⟨i, H5, J5, st5, n5, w5⟩
    rcases turn i n H5 w5 with ⟨stop, qq⟩ | ⟨go, Nx, hNx, step⟩
    · refine thnF (T.done (X.blkP s3 H3 sco ce fp q) rfl rfl rfl hotB i [] s5 _ H5 (fun _ _ => False) J5 (stat J5 n5) st5 stop) fun r s6 ⟨hr, J6⟩ => ?_
      subst hr
      -- back in the def's context
      have I7 : Inv X pins σ H5 s6 := I3.call' (ch := fp) J6.os J6.base J6.hok J6.bare fun b hb => ⟨(f3 b hb).1.2.2.2.1, (f3 b hb).1.2.1, (f3 b hb).1.2.2.2.2.1, (f3 b hb).1.2.2.2.2.2⟩
      have nC : H5 s3.heap.objs.size = none := cL ▸ (show H5 ce.locals = none from J6.free)
      obtain ⟨m, hn, _⟩ := J6.loc
      have hn : s6.heap.Ns s3.heap.objs.size m := cL ▸ (show s6.heap.Ns ce.locals m from hn)
      refine ⟨m, hn, fun h'' sb => ?_⟩
      obtain ⟨f0, f1, f2', f4, f5, f6⟩ := I3.fpOk (H' := H5) (Nat.le_refl _) nC
      exact ⟨.ref D, H5, I7.turned (t' := s6.toks) (fun b o hb e => (sb.2 b hb).trans e) f0 f1 f4 f5 f6, rfl, qq⟩
    · refine thnF (T.item (X.blkP s3 H3 sco ce fp q) rfl rfl rfl hotB i [] s5 _ H5 (fun _ _ => False) J5 (stat J5 n5) st5 go) fun r s6 ⟨u, hr, h6⟩ => ?_
      subst hr
      refine thnF h6 fun _ s7 ⟨x, H7, J7, r7, y7, st7, n7⟩ => ?_
      have J7' := J7.pinned (stat J7 n7) (T.obj _ _ st7)
      refine thnF (pg.run _ s7 _ H7 x u _ J7' r7 (step x H7 y7)) fun _ s8 ⟨σ8, H8, J8, hw8, q8⟩ => ?_
      refine thnF ((pts_nil (X := X.blkP s3 H3 sco ce fp q)).run _ s8 σ8 H8 _ J8 q8) fun b s9 ⟨H9, J9, q9⟩ => ?_
      -- the turn's end
      have fin : ∀ {s' : Shared} {H' : Hp}, Inv (X.blkP s3 H3 sco ce fp q) ([] ++ pinsAt fp s7.heap) σ8 H' s' → Nx H' →
          ∃ m, m < n ∧ ∃ i H', Inv (X.blkP s3 H3 sco ce fp q) [] (wipe σ (own.map (·.2))) H' s' ∧ tn i s'.heap ∧ (∀ b ∈ fp, H' b = none) ∧ W i m H' := fun {s' H'} J' nx => by
        obtain ⟨m', hm, w'⟩ := hNx H' nx
        have stands : ∀ b ∈ fp, ∀ o, s7.heap.get? b = some o → s'.heap.get? b = some o ∧ H' b = none := fun b hb o e =>
          let z := J'.pin (b, o) (List.mem_append_right _ (List.mem_append_right _ (mem_pinsAt hb e)))
          ⟨z.1, z.2.1⟩
        refine ⟨m', hm, i + 1, H', (J'.unpinned (pins := [])).weak (by rw [← hw8, wipe_length]) (fun j v e => ?_), T.keep _ _ _ st7 fun b hb o e => (stands b hb o e).1, fun b hb => ?_, w'⟩
        · rw [← hw8] at e
          exact (wipe_some e).1
        · obtain ⟨o, e, _⟩ := T.obj _ _ st7 b hb
          exact (stands b hb o e).2
      cases b with
      | false =>
        simp only [Bool.false_eq_true, if_false] at q9 ⊢
        exact fin J9 q9
      | true =>
        simp only [if_true] at q9 ⊢
        refine thnF (pe.run _ s9 σ8 H9 _ J9 q9) fun z s10 ⟨yv, H10, J10, r10, acc, hD10, hz10, nx⟩ => ?_
        exact app_ok (X := X.blkP s3 H3 sco ce fp q) J10 hD10 hz10 r10 fun s11 J11 => fin J11 nx
  exact codeAny_compStart_list loop (T.self X.A 0 _ _ _ st4 loop)
end L2
/-! A def called within an except suite, its promise told of the handled error; raising an own error by its __init__, the context told. -/
namespace L2
open PySem PySem.Spec PyProof.Rows HotX L2H
structure FnP (Pg : Program) (wd : World) (Kf : PySem.W.Frag) (gl : Str → Option Value) (ground : Heap) (XX : CXT) (lev : Nat) (at' : Addr) (fdat : FuncData) (params : List Str) (prom : Addr × Obj → Sp) : Prop where
  len : ∀ p vs H Q E, prom p vs H Q E → vs.length = params.length
  run : ∀ (ar : Around) (fr : List Env) (st : Shared) (H : Hp) (given : Args) (us : List Value) (vs : List V) (Q : VK) (E : XK) (p : Addr × Obj), RoomH lev ar → Hot1 ar p → PinOk fr H st p → Env0 Pg wd Kf gl ground ar fr st H →
    BindsTo st fdat given (params.zip us) → Vals vs us → prom p vs H Q E → codeAny (model Pg wd) ar (.call (.ref at') given) (CR XX fr Pg wd H st Q E) st
theorem fnP_of {XX : CXT} {Pg : Program} {wd : World} {Kf : PySem.W.Frag} {gl : Str → Option Value} {ground : Heap} {lev : Nat} {at' : Addr} {nm qn : Str} {pars : Arguments} {bd : List Stmt} {sco : Scope} {v1 v2 v3 v4 cv v5 v6 : Value} {o1 o2 : Option Addr}
    {sl : Array (Option Value)} {N params : List Str} {prom : Addr × Obj → Sp} (look : Kf.lookup at' = some ⟨v6, o2, .func (PySem.W.fnOf nm qn pars bd sco v1 v2 v3 v4 o1 cv v5), sl⟩) (hcd : PySem.W.codeIn Kf cv qn = true) (S : FnScope N params sco)
    (len : ∀ p vs H Q E, prom p vs H Q E → vs.length = params.length)
    (body : ∀ (ar : Around) (fr : List Env) (st : Shared) (H : Hp) (vs : List V) (Q : VK) (E : XK) (p : Addr × Obj), Hot1 ar p → RoomH lev (ar.deeper (envOfC qn sco st.heap.objs.size at' cv)) → prom p vs H Q E →
      ∃ t, PSs (cxH XX Pg wd Kf gl ground N qn sco at' cv ar fr st H E p) bd t ∧ t { nx := fun _ H' => Q .non H', rt := Q } (L2.start N vs) H) :
    FnP Pg wd Kf gl ground XX (lev + 1) at' (PySem.W.fnOf nm qn pars bd sco v1 v2 v3 v4 o1 cv v5) params prom := by
  refine ⟨len, fun ar fr st H given us vs Q E p rm hot hpin e0 hb r hsp => ?_⟩
  have KX : Kf.In st.heap := e0.mod.kin.keeps fun b o e => (e0.bs b o e).1
  have nol : st.heap.NoLimit := e0.mod.nolimit.keeps fun b o e => (e0.bs b o e).1
  have kinds : ∀ y ∈ params.zip us, sco.names.lookup y.1 = some .local ∨ (sco.names.lookup y.1 = some .cell ∧ ((cellsFrom (st.heap.objs.size + 1) sco.names []).lookup y.1).isSome = true) := fun ⟨n, v⟩ hy =>
    (S.par n (List.of_mem_zip hy).1).elim .inl fun k => .inr ⟨k, PySem.W.cellsFrom_some _ _ _ (.inl k)⟩
  refine codeAny_call_function rm.depth (KX _ _ look) rfl S.co S.gen rfl (PySem.W.codeRec_of KX hcd) (hb _ _ _ _ ?_)
  refine wpAny_newFunctionEnv_cells S.kind kinds fun env he s1 x => ?_
  subst he
  refine ⟨nol.keeps x.toInCall.keep, codeAny_func ?_⟩
  obtain ⟨t, ht, hq⟩ := body ar fr st H vs Q E p hot (rm.deeper _) hsp
  refine wpAny_mono (ht.run [] s1 (L2.start N vs) H _ (inv_startH S hpin e0 (len _ _ _ _ _ hsp) r x) hq) (fun fl s' out => ?_) fun e s' out => out
  match fl, out with
  | .ret u, ⟨v, σ', H', J, rv, q⟩ => exact ⟨v, H', J.os, J.bare, J.base, J.hok, rv, q⟩
  | .next, ⟨σ', H', J, q⟩ => exact ⟨.non, H', J.os, J.bare, J.base, J.hok, rfl, q⟩
  | .brk, ⟨_, _, _, q⟩ => exact q.elim
  | .cont, ⟨_, _, _, q⟩ => exact q.elim
/-- f(e, ..) within the suite that holds q -/
def tCallP (prom : Addr × Obj → Sp) (q : Addr × Obj) (E : XK) (t : TA) : TE := fun σ H Q => t σ H fun vs H1 => prom q vs H1 Q E
theorem pe_callP {X : Cx} {XX : CXT} {lev : Nat} {at' : Addr} {fdat : FuncData} {params : List Str} {prom : Addr × Obj → Sp} {E : XK} {nm : Str} {p pos : Pos} {e : Expr} {es : List Expr} {t : TA} {q : Addr × Obj}
    (F : FnP X.prog X.w X.K X.mg X.base XX lev at' fdat params prom) (rm : RoomH lev X.A) (hot : Hot1 X.A q) (hq : q ∈ X.pn) (hgl : Gl X nm) (hm : X.mg nm = some (.ref at')) (hk : PySem.W.keepIn X.K (.ref at') = true) (hb : Binds X.K fdat params [])
    (hx : Passes XX X E) (ha : PA X (e :: es) t) (hdb : (nm == ("__debug__" : Str)) = false := by decide) (he : starEach (e :: es) X.env = (false, eval e X.env) :: starEach es X.env := by rfl)
    (hpl : (backTo pos (starEach es X.env)).any (·.1) = false := by rfl) : PE X (.Call (.Name nm p) (e :: es) [] pos) (tCallP prom q E t) := by
  refine ⟨fun pins s σ H Q I h => wpAny_Call_Name_kw (ld_glob I hgl hm ?_ hdb)⟩
  refine PySem.W.callWith_K (h₀ := X.base) I.ok.mod.kin hk (thn (ha.run pos pins s σ H _ I h) fun us s1 ⟨vs, H1, I1, r, sp⟩ => ⟨I1.kIn, ?_⟩) he hpl
  have many : us.length = params.length := r.length.symm.trans (F.len _ _ _ _ _ sp)
  have b := hb s1 us I1.kIn (by rw [List.append_nil]; exact many)
  rw [List.append_nil] at b
  have P1 := I1.pin q (List.mem_append_left _ hq)
  have hpin : PinOk X.stack H1 s1 q := ⟨P1.1, P1.2.1, fun z => (List.mem_cons.mp (I1.stkSub q.1 z)).elim P1.2.2.1 P1.2.2.2.1, P1.2.2.2.2⟩
  refine wpAny_call (codeAny_mono (F.run X.A X.stack s1 H1 ⟨us, []⟩ us vs Q E q rm hot hpin I1.env0 b r sp) fun res s' out => ?_)
  match res, out with
  | .error err, out => exact hx pins σ H1 s1 err s' I1 out
  | .ok (.ret _), out => exact I1.after out
  | .ok .next, out => exact out.elim
  | .ok .brk, out => exact out.elim
  | .ok .cont, out => exact out.elim
/-- C(e, ..) by C's own __init__, where nothing is handled; the made error's context is None -/
theorem pmk_oexN {X : Cx} {XX : CXT} {nm : Str} {C fI : Addr} {lev : Nat} {fdat : FuncData} {params : List Str} {prom : Sp} {e : Expr} {es : List Expr} {ta : TA} {p pos : Pos} (T : OexC X.K C)
    (iC : PySem.W.findIn X.K (.ref C) "__init__" = some (some (.ref fI))) (tI : PySem.W.typeIn X.K (.ref fI) = some (.type "function")) (F : FnOk X.prog X.w X.K X.mg X.base XX lev fI fdat params prom) (rm : Room (lev + 1) X.A) (hb : Binds X.K fdat params [])
    (hx : Passes XX X (fun _ _ _ => False)) (hgl : Gl X nm) (hm : X.mg nm = some (.ref C)) (ha : PA X (e :: es) ta) (hdb : (nm == ("__debug__" : Str)) = false := by decide)
    (he : starEach (e :: es) X.env = (false, eval e X.env) :: starEach es X.env := by rfl) (hpl : (backTo pos (starEach es X.env)).any (·.1) = false := by rfl) :
    L2N.PMk X (.Call (.Name nm p) (e :: es) [] pos) (tMkO C prom [] ta) := by
  intro pins s σ H Q I h
  obtain ⟨n1, n2, n3, n4, bm, n5, n6, n7, n8, n9, n10, n11, n12, n13, n14, hC, hbm⟩ := T.cls
  refine wpAny_Call_Name_kw (ld_glob I hgl hm ?_ hdb)
  refine PySem.W.callWith_K (h₀ := X.base) I.ok.mod.kin T.kC (thn (ha.run pos pins s σ H _ I h) fun us s1 ⟨vs, H1, I1, r1, hz, q1⟩ => ⟨I1.kIn, ?_⟩) he hpl
  show wpAny _ _ (call (.ref C) us) _ _ _
  obtain ⟨hp, gs, dr, tk, os⟩ := s1
  have up : hp.objs.size ≤ hp.objs.size + 1 := Nat.le_succ _
  have hq := q1 (hp.objs.size + 1) (I1.hok.fresh up)
  have kk : ∀ b o, hp.get? b = some o → ((hp.push (PySem.W.kdv_tup us)).push (PySem.HandSPX.excO C hp.objs.size)).get? b = some o := fun b o z => Heap.get?_push_of_some _ (Heap.get?_push_of_some _ z)
  have mine : ((hp.push (PySem.W.kdv_tup us)).push (PySem.HandSPX.excO C hp.objs.size)).get? (hp.objs.size + 1) = some (PySem.HandSPX.excO C hp.objs.size) := by heap_get
  have I2 : Inv X pins σ (upd H1 (hp.objs.size + 1) (exo (hp.objs.size + 1) C none)) ⟨(hp.push (PySem.W.kdv_tup us)).push (PySem.HandSPX.excO C hp.objs.size), gs, dr, tk, os⟩ :=
    I1.laid (t' := tk) (a := hp.objs.size + 1) (o := exo (hp.objs.size + 1) C none) (h' := (hp.push (PySem.W.kdv_tup us)).push (PySem.HandSPX.excO C hp.objs.size)) kk up (exo_ok mine)
  rw [List.append_nil] at hq
  have r2 : Vals (V.ref (hp.objs.size + 1) :: vs) (Value.ref (hp.objs.size + 1) :: us) := .cons rfl r1
  have many : (Value.ref (hp.objs.size + 1) :: us).length = params.length := r2.length.symm.trans (F.len _ _ _ _ hq)
  have b := hb ⟨(hp.push (PySem.W.kdv_tup us)).push (PySem.HandSPX.excO C hp.objs.size), gs, dr, tk, os⟩ (Value.ref (hp.objs.size + 1) :: us) I2.kIn (by rw [List.append_nil]; exact many)
  rw [List.append_nil] at b
  have few : us.length ≤ sizeLine := by
    rw [← Paired.length r1, sizeLine_eq]
    omega
  refine wpAny_call (PySem.HandSPX.call_own PySem.F.excBase_ValueError (fun Y => PySem.HandSPX.refsVE_contains Y bm hbm) (I1.kIn _ _ hC) (PySem.W.looks_findIn I1.kIn iC) (fun self => PySem.W.bind_fn I1.kIn self tI) few
    (codeAny_mono (F.run _ X.stack _ _ ⟨Value.ref (hp.objs.size + 1) :: us, []⟩ _ _ _ (fun _ _ _ => False) (rm.make C us []) (I2.env0.make C us []) b r2 hq) fun res s' out => ?_))
  match res, out with
  | .error er, out => exact hx pins σ _ _ er s' I2 out
  | .ok (.ret u), ⟨v, H2, os2, bare2, un2, hok2, rv, ev, d, fs, ea, ed, hd1, q2⟩ =>
    subst ev
    obtain ⟨h2, g2, d2, t2, os'⟩ := s'
    obtain ⟨t0, G, J, kG, ge, hoe, na⟩ := mk_end0 (d2 := d2) (t2 := t2) I1 up kk un2 hok2 os2 bare2 ea ed hd1
    exact ⟨rv, hp.objs.size + 1, _, _, ⟨G, g2, d2, t2, os'⟩, _, .ref C, some d, rfl, J, kG, ge, hoe, ⟨rfl, rfl, fun zs z => by cases z; rfl⟩, rfl, rfl, na, rfl, bare2, raises_own T.exC T.tyC, q2⟩
  | .ok .next, out => exact out.elim
  | .ok .brk, out => exact out.elim
  | .ok .cont, out => exact out.elim
end L2
namespace K00
open PySem PySem.Spec PyProof.Rows L2
def top (i : Nat) : Stmt := PySem.Challenge.pw_mixlabels_k00_errors_and_what_they_keep.main.body.getD i (.Pass ⟨0, 0, 0, 0⟩)
abbrev sIni (i : Nat) : Stmt := inClass (top i) 0
abbrev sMarks : Stmt := top 16
abbrev sRaise : Stmt := top 17
abbrev sHeard : Stmt := top 18
abbrev sLaw : Stmt := top 19
/-! ### promises -/
/-- __init__(self, at) of the class at C -/
def spIni (C : Addr) : Sp := fun vs H Q _ => ∃ (a : Addr) (v : V), vs = [.ref a, v] ∧ H a = some (exo a C none) ∧ ∀ dx, H dx = none → dx ≠ a → Q .non (upd (upd H dx (exd dx [("at", v)])) a (exo a C (some dx)))
/-- what is known of the i-th error class, with an __init__ -/
structure Err (K : PySem.W.Frag) (mg : Str → Option Value) (nm : Str) (C fI : Addr) : Prop where
  gC : mg nm = some (.ref C)
  ox : OexC K C
  iC : PySem.W.findIn K (.ref C) "__init__" = some (some (.ref fI))
  tI : PySem.W.typeIn K (.ref fI) = some (.type "function")
  noA : PySem.W.findIn K (.ref C) "at" = some none
section
variable {P : Program} {w : World} {K : PySem.W.Frag} {mg : Str → Option Value} {base : Heap}
theorem ok_ini0 {q : Str} {f C : Addr} {fd : FuncData} (F : Fun K "__init__" q (sIni 2) f fd) (ox : OexC K C) (noA : PySem.W.findIn K (.ref C) "at" = some none) : FnOk P w K mg base CX0 1 f fd ["self", "at"] (spIni C) := by
  have sc : FnScope ["self", "at"] ["self", "at"] (defScope (sIni 2)) := ⟨rfl, rfl, rfl, by decide +kernel, rfl, by decide +kernel, by decide +kernel⟩
  refine F.ok sc (fun vs H Q E ⟨a, v, e, _⟩ => by rw [e]; rfl) (fun cdv A outer s H vs Q E hr ⟨a, v, e, ha, k⟩ => ?_)
  subst e
  exact ⟨_, pss_one (ps_ost (pv 0) (pv 1)), _, rfl, _, rfl, a, C, rfl, ox, noA, .inl ⟨ha, fun dx n ne => k dx n ne⟩⟩
theorem ok_ini1 {q : Str} {f C : Addr} {fd : FuncData} (F : Fun K "__init__" q (sIni 3) f fd) (ox : OexC K C) (noA : PySem.W.findIn K (.ref C) "at" = some none) : FnOk P w K mg base CX0 1 f fd ["self", "at"] (spIni C) := by
  have sc : FnScope ["self", "at"] ["self", "at"] (defScope (sIni 3)) := ⟨rfl, rfl, rfl, by decide +kernel, rfl, by decide +kernel, by decide +kernel⟩
  refine F.ok sc (fun vs H Q E ⟨a, v, e, _⟩ => by rw [e]; rfl) (fun cdv A outer s H vs Q E hr ⟨a, v, e, ha, k⟩ => ?_)
  subst e
  exact ⟨_, pss_one (ps_ost (pv 0) (pv 1)), _, rfl, _, rfl, a, C, rfl, ox, noA, .inl ⟨ha, fun dx n ne => k dx n ne⟩⟩
theorem ok_ini2 {q : Str} {f C : Addr} {fd : FuncData} (F : Fun K "__init__" q (sIni 4) f fd) (ox : OexC K C) (noA : PySem.W.findIn K (.ref C) "at" = some none) : FnOk P w K mg base CX0 1 f fd ["self", "at"] (spIni C) := by
  have sc : FnScope ["self", "at"] ["self", "at"] (defScope (sIni 4)) := ⟨rfl, rfl, rfl, by decide +kernel, rfl, by decide +kernel, by decide +kernel⟩
  refine F.ok sc (fun vs H Q E ⟨a, v, e, _⟩ => by rw [e]; rfl) (fun cdv A outer s H vs Q E hr ⟨a, v, e, ha, k⟩ => ?_)
  subst e
  exact ⟨_, pss_one (ps_ost (pv 0) (pv 1)), _, rfl, _, rfl, a, C, rfl, ox, noA, .inl ⟨ha, fun dx n ne => k dx n ne⟩⟩
theorem ok_ini3 {q : Str} {f C : Addr} {fd : FuncData} (F : Fun K "__init__" q (sIni 5) f fd) (ox : OexC K C) (noA : PySem.W.findIn K (.ref C) "at" = some none) : FnOk P w K mg base CX0 1 f fd ["self", "at"] (spIni C) := by
  have sc : FnScope ["self", "at"] ["self", "at"] (defScope (sIni 5)) := ⟨rfl, rfl, rfl, by decide +kernel, rfl, by decide +kernel, by decide +kernel⟩
  refine F.ok sc (fun vs H Q E ⟨a, v, e, _⟩ => by rw [e]; rfl) (fun cdv A outer s H vs Q E hr ⟨a, v, e, ha, k⟩ => ?_)
  subst e
  exact ⟨_, pss_one (ps_ost (pv 0) (pv 1)), _, rfl, _, rfl, a, C, rfl, ox, noA, .inl ⟨ha, fun dx n ne => k dx n ne⟩⟩
theorem ok_ini4 {q : Str} {f C : Addr} {fd : FuncData} (F : Fun K "__init__" q (sIni 6) f fd) (ox : OexC K C) (noA : PySem.W.findIn K (.ref C) "at" = some none) : FnOk P w K mg base CX0 1 f fd ["self", "at"] (spIni C) := by
  have sc : FnScope ["self", "at"] ["self", "at"] (defScope (sIni 6)) := ⟨rfl, rfl, rfl, by decide +kernel, rfl, by decide +kernel, by decide +kernel⟩
  refine F.ok sc (fun vs H Q E ⟨a, v, e, _⟩ => by rw [e]; rfl) (fun cdv A outer s H vs Q E hr ⟨a, v, e, ha, k⟩ => ?_)
  subst e
  exact ⟨_, pss_one (ps_ost (pv 0) (pv 1)), _, rfl, _, rfl, a, C, rfl, ox, noA, .inl ⟨ha, fun dx n ne => k dx n ne⟩⟩
theorem ok_ini5 {q : Str} {f C : Addr} {fd : FuncData} (F : Fun K "__init__" q (sIni 7) f fd) (ox : OexC K C) (noA : PySem.W.findIn K (.ref C) "at" = some none) : FnOk P w K mg base CX0 1 f fd ["self", "at"] (spIni C) := by
  have sc : FnScope ["self", "at"] ["self", "at"] (defScope (sIni 7)) := ⟨rfl, rfl, rfl, by decide +kernel, rfl, by decide +kernel, by decide +kernel⟩
  refine F.ok sc (fun vs H Q E ⟨a, v, e, _⟩ => by rw [e]; rfl) (fun cdv A outer s H vs Q E hr ⟨a, v, e, ha, k⟩ => ?_)
  subst e
  exact ⟨_, pss_one (ps_ost (pv 0) (pv 1)), _, rfl, _, rfl, a, C, rfl, ox, noA, .inl ⟨ha, fun dx n ne => k dx n ne⟩⟩
theorem ok_ini6 {q : Str} {f C : Addr} {fd : FuncData} (F : Fun K "__init__" q (sIni 8) f fd) (ox : OexC K C) (noA : PySem.W.findIn K (.ref C) "at" = some none) : FnOk P w K mg base CX0 1 f fd ["self", "at"] (spIni C) := by
  have sc : FnScope ["self", "at"] ["self", "at"] (defScope (sIni 8)) := ⟨rfl, rfl, rfl, by decide +kernel, rfl, by decide +kernel, by decide +kernel⟩
  refine F.ok sc (fun vs H Q E ⟨a, v, e, _⟩ => by rw [e]; rfl) (fun cdv A outer s H vs Q E hr ⟨a, v, e, ha, k⟩ => ?_)
  subst e
  exact ⟨_, pss_one (ps_ost (pv 0) (pv 1)), _, rfl, _, rfl, a, C, rfl, ox, noA, .inl ⟨ha, fun dx n ne => k dx n ne⟩⟩
theorem ok_ini7 {q : Str} {f C : Addr} {fd : FuncData} (F : Fun K "__init__" q (sIni 9) f fd) (ox : OexC K C) (noA : PySem.W.findIn K (.ref C) "at" = some none) : FnOk P w K mg base CX0 1 f fd ["self", "at"] (spIni C) := by
  have sc : FnScope ["self", "at"] ["self", "at"] (defScope (sIni 9)) := ⟨rfl, rfl, rfl, by decide +kernel, rfl, by decide +kernel, by decide +kernel⟩
  refine F.ok sc (fun vs H Q E ⟨a, v, e, _⟩ => by rw [e]; rfl) (fun cdv A outer s H vs Q E hr ⟨a, v, e, ha, k⟩ => ?_)
  subst e
  exact ⟨_, pss_one (ps_ost (pv 0) (pv 1)), _, rfl, _, rfl, a, C, rfl, ox, noA, .inl ⟨ha, fun dx n ne => k dx n ne⟩⟩
theorem ok_ini8 {q : Str} {f C : Addr} {fd : FuncData} (F : Fun K "__init__" q (sIni 10) f fd) (ox : OexC K C) (noA : PySem.W.findIn K (.ref C) "at" = some none) : FnOk P w K mg base CX0 1 f fd ["self", "at"] (spIni C) := by
  have sc : FnScope ["self", "at"] ["self", "at"] (defScope (sIni 10)) := ⟨rfl, rfl, rfl, by decide +kernel, rfl, by decide +kernel, by decide +kernel⟩
  refine F.ok sc (fun vs H Q E ⟨a, v, e, _⟩ => by rw [e]; rfl) (fun cdv A outer s H vs Q E hr ⟨a, v, e, ha, k⟩ => ?_)
  subst e
  exact ⟨_, pss_one (ps_ost (pv 0) (pv 1)), _, rfl, _, rfl, a, C, rfl, ox, noA, .inl ⟨ha, fun dx n ne => k dx n ne⟩⟩
theorem ok_ini9 {q : Str} {f C : Addr} {fd : FuncData} (F : Fun K "__init__" q (sIni 11) f fd) (ox : OexC K C) (noA : PySem.W.findIn K (.ref C) "at" = some none) : FnOk P w K mg base CX0 1 f fd ["self", "at"] (spIni C) := by
  have sc : FnScope ["self", "at"] ["self", "at"] (defScope (sIni 11)) := ⟨rfl, rfl, rfl, by decide +kernel, rfl, by decide +kernel, by decide +kernel⟩
  refine F.ok sc (fun vs H Q E ⟨a, v, e, _⟩ => by rw [e]; rfl) (fun cdv A outer s H vs Q E hr ⟨a, v, e, ha, k⟩ => ?_)
  subst e
  exact ⟨_, pss_one (ps_ost (pv 0) (pv 1)), _, rfl, _, rfl, a, C, rfl, ox, noA, .inl ⟨ha, fun dx n ne => k dx n ne⟩⟩
theorem ok_ini10 {q : Str} {f C : Addr} {fd : FuncData} (F : Fun K "__init__" q (sIni 12) f fd) (ox : OexC K C) (noA : PySem.W.findIn K (.ref C) "at" = some none) : FnOk P w K mg base CX0 1 f fd ["self", "at"] (spIni C) := by
  have sc : FnScope ["self", "at"] ["self", "at"] (defScope (sIni 12)) := ⟨rfl, rfl, rfl, by decide +kernel, rfl, by decide +kernel, by decide +kernel⟩
  refine F.ok sc (fun vs H Q E ⟨a, v, e, _⟩ => by rw [e]; rfl) (fun cdv A outer s H vs Q E hr ⟨a, v, e, ha, k⟩ => ?_)
  subst e
  exact ⟨_, pss_one (ps_ost (pv 0) (pv 1)), _, rfl, _, rfl, a, C, rfl, ox, noA, .inl ⟨ha, fun dx n ne => k dx n ne⟩⟩
theorem ok_ini11 {q : Str} {f C : Addr} {fd : FuncData} (F : Fun K "__init__" q (sIni 13) f fd) (ox : OexC K C) (noA : PySem.W.findIn K (.ref C) "at" = some none) : FnOk P w K mg base CX0 1 f fd ["self", "at"] (spIni C) := by
  have sc : FnScope ["self", "at"] ["self", "at"] (defScope (sIni 13)) := ⟨rfl, rfl, rfl, by decide +kernel, rfl, by decide +kernel, by decide +kernel⟩
  refine F.ok sc (fun vs H Q E ⟨a, v, e, _⟩ => by rw [e]; rfl) (fun cdv A outer s H vs Q E hr ⟨a, v, e, ha, k⟩ => ?_)
  subst e
  exact ⟨_, pss_one (ps_ost (pv 0) (pv 1)), _, rfl, _, rfl, a, C, rfl, ox, noA, .inl ⟨ha, fun dx n ne => k dx n ne⟩⟩
end
/-! ### _law_raise -/
/-- the error of the number at 0 to 11 -/
structure Errs (K : PySem.W.Frag) (mg : Str → Option Value) (P : Program) (w : World) (base : Heap) (C fI : Nat → Addr) (fd : Nat → FuncData) : Prop where
  e0 : Err K mg "InvalidBowl" (C 0) (fI 0)
  i0 : FnOk P w K mg base CX0 1 (fI 0) (fd 0) ["self", "at"] (spIni (C 0)) ∧ Binds K (fd 0) ["self", "at"] []
  e1 : Err K mg "InvalidRecipe" (C 1) (fI 1)
  i1 : FnOk P w K mg base CX0 1 (fI 1) (fd 1) ["self", "at"] (spIni (C 1)) ∧ Binds K (fd 1) ["self", "at"] []
  e2 : Err K mg "InvalidMixture" (C 2) (fI 2)
  i2 : FnOk P w K mg base CX0 1 (fI 2) (fd 2) ["self", "at"] (spIni (C 2)) ∧ Binds K (fd 2) ["self", "at"] []
  e3 : Err K mg "InvalidTable" (C 3) (fI 3)
  i3 : FnOk P w K mg base CX0 1 (fI 3) (fd 3) ["self", "at"] (spIni (C 3)) ∧ Binds K (fd 3) ["self", "at"] []
  e4 : Err K mg "InvalidNaming" (C 4) (fI 4)
  i4 : FnOk P w K mg base CX0 1 (fI 4) (fd 4) ["self", "at"] (spIni (C 4)) ∧ Binds K (fd 4) ["self", "at"] []
  e5 : Err K mg "InvalidForm" (C 5) (fI 5)
  i5 : FnOk P w K mg base CX0 1 (fI 5) (fd 5) ["self", "at"] (spIni (C 5)) ∧ Binds K (fd 5) ["self", "at"] []
  e6 : Err K mg "InvalidQuestion" (C 6) (fI 6)
  i6 : FnOk P w K mg base CX0 1 (fI 6) (fd 6) ["self", "at"] (spIni (C 6)) ∧ Binds K (fd 6) ["self", "at"] []
  e7 : Err K mg "InvalidPrices" (C 7) (fI 7)
  i7 : FnOk P w K mg base CX0 1 (fI 7) (fd 7) ["self", "at"] (spIni (C 7)) ∧ Binds K (fd 7) ["self", "at"] []
  e8 : Err K mg "InvalidPair" (C 8) (fI 8)
  i8 : FnOk P w K mg base CX0 1 (fI 8) (fd 8) ["self", "at"] (spIni (C 8)) ∧ Binds K (fd 8) ["self", "at"] []
  e9 : Err K mg "InvalidText" (C 9) (fI 9)
  i9 : FnOk P w K mg base CX0 1 (fI 9) (fd 9) ["self", "at"] (spIni (C 9)) ∧ Binds K (fd 9) ["self", "at"] []
  e10 : Err K mg "NotFaithful" (C 10) (fI 10)
  i10 : FnOk P w K mg base CX0 1 (fI 10) (fd 10) ["self", "at"] (spIni (C 10)) ∧ Binds K (fd 10) ["self", "at"] []
  e11 : Err K mg "Refused" (C 11) (fI 11)
  i11 : FnOk P w K mg base CX0 1 (fI 11) (fd 11) ["self", "at"] (spIni (C 11)) ∧ Binds K (fd 11) ["self", "at"] []
  gN : mg "InvalidCommand" = some (.ref (C 12))
  xN : PySem.W.excIn K (C 12) [.type "ValueError", .type "Exception", .type "BaseException", .type "object"] "ValueError.__new__" = true
  kN : PySem.W.keepIn K (.ref (C 12)) = true
  bN : PySem.W.subIn K (.ref (C 12)) (.type "BaseException") = some true
  tN : PySem.W.typeIn K (.ref (C 12)) = some (.type "type")
/-- X(), X an own error without __init__ -/
theorem pmk_own0 {X : Cx} {C : Addr} {bmB : List Value} {B newId initId : String} {x : Str} {p pos : Pos} (F : ExcBaseFacts B newId initId bmB) (q : PySem.W.excIn X.K C bmB newId = true) (gC : X.mg x = some (.ref C)) (kC : PySem.W.keepIn X.K (.ref C) = true)
    (r : Raises X (.ref C)) (hg : Gl X x) (hdb : (x == ("__debug__" : Str)) = false := by decide) : L2N.PMk X (.Call (.Name x p) [] [] pos) (fun _ H Q => Q (.ref C) none H) := by
  intro pins s σ H Q I h
  refine wpAny_Call_Name_kw (ld_glob I hg gC (PySem.W.callWith_K0 I.kIn kC ?_) hdb)
  show wpAny _ _ (call (.ref C) []) _ _ _
  obtain ⟨bm, N, nm, qn, bs, n1, n2, n3, n4, n5, n6, n7, n8, n9, n10, n11, mN, hC, hN, hni, T⟩ := exc_obj I.kIn q
  refine wpAny_call_exc_subT F T hC hN hni (fun h' e hm => ?_) (by show 0 ≤ sizeLine; exact Nat.zero_le _)
  exact L2N.mk_of I hm r h (I.hok.gone hm.new)
def spRaise (C : Nat → Addr) : Sp := fun vs H Q E => ∃ (at' : Nat) (v : V), at' ≤ 12 ∧ vs = [.int at', v] ∧ (at' < 12 → ∀ d, H d = none → E (.ref (C at')) (some d) (upd H d (.xd [("at", v)]))) ∧ (at' = 12 → E (.ref (C 12)) none H)
theorem made_heap {H : Hp} {a dx C : Addr} {v : V} (ha : H a = none) (hd : upd H a (exo a C none) dx = none) (ne : dx ≠ a) :
    upd (del (upd (upd (upd H a (exo a C none)) dx (exd dx [("at", v)])) a (exo a C (some dx))) a) dx (.xd [("at", v)]) = upd H dx (.xd [("at", v)]) := by
  funext b
  by_cases hb : b = dx
  · rw [hb, upd_same, upd_same]
  · rw [upd_ne hb, upd_ne hb]
    by_cases hc : b = a
    · rw [hc, del_same, ha]
    · rw [del_ne hc, upd_ne hc, upd_ne hb, upd_ne hc]
theorem mk_reads {K : PySem.W.Frag} {C : Addr} {v : V} {H : Hp} {σ : L2.St} {Q : XK} {ta : TA} (ht : ∀ R : List V → Hp → Prop, R [v] H → ta σ H R) (k : ∀ d, H d = none → Q (.ref C) (some d) (upd H d (.xd [("at", v)]))) : tMkO C (spIni C) [] ta σ H Q := by
  refine ht _ ⟨by show 1 ≤ 1000; decide, fun a ha => ⟨a, v, rfl, upd_same, fun dx n ne => ⟨rfl, dx, [("at", v)], upd_same, ?_, ?_, ?_⟩⟩⟩
  · rw [upd_ne ne, upd_same]
  · rw [upd_ne ne] at n
    exact n
  · rw [made_heap ha n ne]
    rw [upd_ne ne] at n
    exact k dx n
section
variable {P : Program} {w : World} {K : PySem.W.Frag} {mg : Str → Option Value} {base : Heap} {C fI : Nat → Addr} {fdI : Nat → FuncData}
theorem num_of {a b : Nat} (h : decide (V.int (a : Int) = V.int (b : Int)) = true) : a = b := Int.ofNat.inj (V.int.inj (of_decide_eq_true h))
theorem scR : FnScope ["at", "thing"] ["at", "thing"] (defScope sRaise) := ⟨rfl, rfl, rfl, by decide +kernel, rfl, by decide +kernel, by decide +kernel⟩
theorem ok_raise {f : Addr} {fd : FuncData} (F : Fun K "_law_raise" "_law_raise" sRaise f fd) (T : Errs K mg P w base C fI fdI) : FnOk P w K mg base (L2N.CX P w) 4 f fd ["at", "thing"] (spRaise C) := by
  obtain ⟨_, _, _, _, _, _, cv, _, _, rfl, look, hcd⟩ := F.ex
  refine fn_of look hcd scR (fun vs H Q E ⟨_, _, _, e, _⟩ => by rw [e]; rfl) fun A outer s H vs Q E hr ⟨at', v, h12, e, kL, kN⟩ => ?_
  subst e
  have tk : L2N.Takes (cxOf (L2N.CX P w) P w K mg base ["at", "thing"] "_law_raise" (defScope sRaise) f cv A outer s H E) (fun cls d _ H => E cls d H) := L2N.takes_of rfl rfl rfl rfl
  refine ⟨_, pss_cons (ps_if (pt_cmpR op_eq (pv 0) pe_int (nomark _)) (pss_one (L2N.ps_raise rfl tk (pmk_oexN T.e0.ox T.e0.iC T.e0.tI T.i0.1 (hr.mono (by decide)) T.i0.2 pass0 rfl T.e0.gC (pa_cons (pv 1) pa_nil)))) pss_nil)
    (pss_cons (ps_if (pt_cmpR op_eq (pv 0) pe_int (nomark _)) (pss_one (L2N.ps_raise rfl tk (pmk_oexN T.e1.ox T.e1.iC T.e1.tI T.i1.1 (hr.mono (by decide)) T.i1.2 pass0 rfl T.e1.gC (pa_cons (pv 1) pa_nil)))) pss_nil)
    (pss_cons (ps_if (pt_cmpR op_eq (pv 0) pe_int (nomark _)) (pss_one (L2N.ps_raise rfl tk (pmk_oexN T.e2.ox T.e2.iC T.e2.tI T.i2.1 (hr.mono (by decide)) T.i2.2 pass0 rfl T.e2.gC (pa_cons (pv 1) pa_nil)))) pss_nil)
    (pss_cons (ps_if (pt_cmpR op_eq (pv 0) pe_int (nomark _)) (pss_one (L2N.ps_raise rfl tk (pmk_oexN T.e3.ox T.e3.iC T.e3.tI T.i3.1 (hr.mono (by decide)) T.i3.2 pass0 rfl T.e3.gC (pa_cons (pv 1) pa_nil)))) pss_nil)
    (pss_cons (ps_if (pt_cmpR op_eq (pv 0) pe_int (nomark _)) (pss_one (L2N.ps_raise rfl tk (pmk_oexN T.e4.ox T.e4.iC T.e4.tI T.i4.1 (hr.mono (by decide)) T.i4.2 pass0 rfl T.e4.gC (pa_cons (pv 1) pa_nil)))) pss_nil)
    (pss_cons (ps_if (pt_cmpR op_eq (pv 0) pe_int (nomark _)) (pss_one (L2N.ps_raise rfl tk (pmk_oexN T.e5.ox T.e5.iC T.e5.tI T.i5.1 (hr.mono (by decide)) T.i5.2 pass0 rfl T.e5.gC (pa_cons (pv 1) pa_nil)))) pss_nil)
    (pss_cons (ps_if (pt_cmpR op_eq (pv 0) pe_int (nomark _)) (pss_one (L2N.ps_raise rfl tk (pmk_oexN T.e6.ox T.e6.iC T.e6.tI T.i6.1 (hr.mono (by decide)) T.i6.2 pass0 rfl T.e6.gC (pa_cons (pv 1) pa_nil)))) pss_nil)
    (pss_cons (ps_if (pt_cmpR op_eq (pv 0) pe_int (nomark _)) (pss_one (L2N.ps_raise rfl tk (pmk_oexN T.e7.ox T.e7.iC T.e7.tI T.i7.1 (hr.mono (by decide)) T.i7.2 pass0 rfl T.e7.gC (pa_cons (pv 1) pa_nil)))) pss_nil)
    (pss_cons (ps_if (pt_cmpR op_eq (pv 0) pe_int (nomark _)) (pss_one (L2N.ps_raise rfl tk (pmk_oexN T.e8.ox T.e8.iC T.e8.tI T.i8.1 (hr.mono (by decide)) T.i8.2 pass0 rfl T.e8.gC (pa_cons (pv 1) pa_nil)))) pss_nil)
    (pss_cons (ps_if (pt_cmpR op_eq (pv 0) pe_int (nomark _)) (pss_one (L2N.ps_raise rfl tk (pmk_oexN T.e9.ox T.e9.iC T.e9.tI T.i9.1 (hr.mono (by decide)) T.i9.2 pass0 rfl T.e9.gC (pa_cons (pv 1) pa_nil)))) pss_nil)
    (pss_cons (ps_if (pt_cmpR op_eq (pv 0) pe_int (nomark _)) (pss_one (L2N.ps_raise rfl tk (pmk_oexN T.e10.ox T.e10.iC T.e10.tI T.i10.1 (hr.mono (by decide)) T.i10.2 pass0 rfl T.e10.gC (pa_cons (pv 1) pa_nil)))) pss_nil)
    (pss_cons (ps_if (pt_cmpR op_eq (pv 0) pe_int (nomark _)) (pss_one (L2N.ps_raise rfl tk (pmk_oexN T.e11.ox T.e11.iC T.e11.tI T.i11.1 (hr.mono (by decide)) T.i11.2 pass0 rfl T.e11.gC (pa_cons (pv 1) pa_nil)))) pss_nil)
    (pss_one (L2N.ps_raise rfl tk (pmk_own0 PySem.F.excBase_ValueError T.xN T.gN T.kN (raises_own T.bN T.tN) rfl)))))))))))))), ?_⟩
  refine ⟨_, rfl, rfl, _, rfl, ?_⟩
  refine ite2 (fun c => ?_) (fun c0 => ?_)
  · obtain rfl : at' = 0 := num_of c
    exact mk_reads (K := K) (fun R h => ⟨_, rfl, h⟩) (kL (by decide))
  refine ⟨_, rfl, rfl, _, rfl, ?_⟩
  refine ite2 (fun c => ?_) (fun c1 => ?_)
  · obtain rfl : at' = 1 := num_of c
    exact mk_reads (K := K) (fun R h => ⟨_, rfl, h⟩) (kL (by decide))
  refine ⟨_, rfl, rfl, _, rfl, ?_⟩
  refine ite2 (fun c => ?_) (fun c2 => ?_)
  · obtain rfl : at' = 2 := num_of c
    exact mk_reads (K := K) (fun R h => ⟨_, rfl, h⟩) (kL (by decide))
  refine ⟨_, rfl, rfl, _, rfl, ?_⟩
  refine ite2 (fun c => ?_) (fun c3 => ?_)
  · obtain rfl : at' = 3 := num_of c
    exact mk_reads (K := K) (fun R h => ⟨_, rfl, h⟩) (kL (by decide))
  refine ⟨_, rfl, rfl, _, rfl, ?_⟩
  refine ite2 (fun c => ?_) (fun c4 => ?_)
  · obtain rfl : at' = 4 := num_of c
    exact mk_reads (K := K) (fun R h => ⟨_, rfl, h⟩) (kL (by decide))
  refine ⟨_, rfl, rfl, _, rfl, ?_⟩
  refine ite2 (fun c => ?_) (fun c5 => ?_)
  · obtain rfl : at' = 5 := num_of c
    exact mk_reads (K := K) (fun R h => ⟨_, rfl, h⟩) (kL (by decide))
  refine ⟨_, rfl, rfl, _, rfl, ?_⟩
  refine ite2 (fun c => ?_) (fun c6 => ?_)
  · obtain rfl : at' = 6 := num_of c
    exact mk_reads (K := K) (fun R h => ⟨_, rfl, h⟩) (kL (by decide))
  refine ⟨_, rfl, rfl, _, rfl, ?_⟩
  refine ite2 (fun c => ?_) (fun c7 => ?_)
  · obtain rfl : at' = 7 := num_of c
    exact mk_reads (K := K) (fun R h => ⟨_, rfl, h⟩) (kL (by decide))
  refine ⟨_, rfl, rfl, _, rfl, ?_⟩
  refine ite2 (fun c => ?_) (fun c8 => ?_)
  · obtain rfl : at' = 8 := num_of c
    exact mk_reads (K := K) (fun R h => ⟨_, rfl, h⟩) (kL (by decide))
  refine ⟨_, rfl, rfl, _, rfl, ?_⟩
  refine ite2 (fun c => ?_) (fun c9 => ?_)
  · obtain rfl : at' = 9 := num_of c
    exact mk_reads (K := K) (fun R h => ⟨_, rfl, h⟩) (kL (by decide))
  refine ⟨_, rfl, rfl, _, rfl, ?_⟩
  refine ite2 (fun c => ?_) (fun c10 => ?_)
  · obtain rfl : at' = 10 := num_of c
    exact mk_reads (K := K) (fun R h => ⟨_, rfl, h⟩) (kL (by decide))
  refine ⟨_, rfl, rfl, _, rfl, ?_⟩
  refine ite2 (fun c => ?_) (fun c11 => ?_)
  · obtain rfl : at' = 11 := num_of c
    exact mk_reads (K := K) (fun R h => ⟨_, rfl, h⟩) (kL (by decide))
  have last : at' = 12 := by
    have key : ∀ j : Nat, ¬ decide (V.int (at' : Int) = V.int (j : Int)) = true → at' ≠ j := fun j h e => h (by rw [e]; exact decide_eq_true rfl)
    have := key 0 c0
    have := key 1 c1
    have := key 2 c2
    have := key 3 c3
    have := key 4 c4
    have := key 5 c5
    have := key 6 c6
    have := key 7 c7
    have := key 8 c8
    have := key 9 c9
    have := key 10 c10
    have := key 11 c11
    omega
  exact kN last
end
end K00
namespace K00
open PySem PySem.Spec PyProof.Rows L2
/-! ### _law_marks, within the suite that holds the error -/
/-- the marks of the error with the number j -/
def marks (j : Nat) : List Bool := (List.range 13).map fun i => decide (i = j)
structure Kits (K : PySem.W.Frag) (mg : Str → Option Value) (C : Nat → Addr) : Prop where
  g0 : mg "InvalidBowl" = some (.ref (C 0))
  g1 : mg "InvalidRecipe" = some (.ref (C 1))
  g2 : mg "InvalidMixture" = some (.ref (C 2))
  g3 : mg "InvalidTable" = some (.ref (C 3))
  g4 : mg "InvalidNaming" = some (.ref (C 4))
  g5 : mg "InvalidForm" = some (.ref (C 5))
  g6 : mg "InvalidQuestion" = some (.ref (C 6))
  g7 : mg "InvalidPrices" = some (.ref (C 7))
  g8 : mg "InvalidPair" = some (.ref (C 8))
  g9 : mg "InvalidText" = some (.ref (C 9))
  g10 : mg "NotFaithful" = some (.ref (C 10))
  g11 : mg "Refused" = some (.ref (C 11))
  g12 : mg "InvalidCommand" = some (.ref (C 12))
  xc : ∀ j, j ≤ 12 → ExcC K (C j)
  kit : ∀ j i, j ≤ 12 → i ≤ 12 → PySem.W.kitOne K (.ref (C j)) (.ref (C i)) = some (decide (i = j))
  kVE : ∀ j, j ≤ 12 → PySem.W.kitOne K (.ref (C j)) (.type "ValueError") = some true
  isi : mg "isinstance" = none
def spMarks (C : Nat → Addr) : Addr × Obj → Sp := fun p vs H Q _ => ∃ (j : Nat) (d : Option Addr), j ≤ 12 ∧ vs = [.ref p.1] ∧ Zc (.ref (C j)) d p.2 ∧ (∃ ws, p.2.data = .fields ws) ∧ ErrD H d ∧
  ∀ (l : Addr) (H' : Hp), Same H H' → H' l = some (.lst ((marks j).map V.bl)) → Q (.ref l) H'
theorem ErrD.same {H H' : Hp} {d : Option Addr} (s : Same H H') (h : ErrD H d) : ErrD H' d := by
  cases d with
  | none => trivial
  | some d =>
    obtain ⟨fs, e⟩ := h
    exact ⟨fs, s _ _ e⟩
/-- isinstance(e, X), e the error at a with the number j in the slot n; b the answer -/
def tIsC (a : Addr) (d : Option Addr) (b : Bool) (n : Nat) : TE := fun σ H Q => σ[n]? = some (some (.ref a)) ∧ ErrD H d ∧ Q (.bl b) H
theorem pe_is {X : Cx} {C : Nat → Addr} {a : Addr} {oe : Obj} {d : Option Addr} {i j n : Nat} {x y : Str} {p1 p2 p3 pos : Pos} (T : Kits X.K X.mg C) (hz : Zc (.ref (C j)) d oe) (hf : ∃ vs, oe.data = .fields vs) (hm : (a, oe) ∈ X.pn)
    (hgi : Gl X "isinstance") (hgx : Gl X x) (gx : X.mg x = some (.ref (C i))) (hj : j ≤ 12) (hi : i ≤ 12) (he : PE X (.Name y p2) (tVar n)) (hdb : (x == ("__debug__" : Str)) = false := by decide)
    (h1 : starEach [.Name y p2, .Name x p3] X.env = (false, eval (.Name y p2) X.env) :: starEach [.Name x p3] X.env := by rfl) (h2 : starEach [.Name x p3] X.env = (false, eval (.Name x p3) X.env) :: starEach [] X.env := by rfl) (h3 : (backTo pos (starEach [.Name x p3] X.env)).any (·.1) = false := by rfl) :
    PE X (.Call (.Name "isinstance" p1) [.Name y p2, .Name x p3] [] pos) (tIsC a d (decide (i = j)) n) := by
  have q := pe_callB (p := p1) (pos := pos) (call_isP hz hf hm) hgi T.isi boot_isinstance (pa_cons he (pa_cons (pe_glob (v := .ref (C i)) hgx gx rfl hdb) pa_nil h2) h1) (by decide) (by decide) h1 h3
  exact ⟨fun pins s σ H Q I ⟨hs, hd, k⟩ => q.run pins s σ H Q I ⟨.ref a, hs, C j, .ref (C i), .ref (C i), _, rfl, T.xc j hj, hd, rfl, fun u z => z, T.kit j i hj hi, k⟩⟩
theorem pe_isVE {X : Cx} {C : Nat → Addr} {a : Addr} {oe : Obj} {d : Option Addr} {j n : Nat} {y : Str} {p1 p2 p3 pos : Pos} (T : Kits X.K X.mg C) (hz : Zc (.ref (C j)) d oe) (hf : ∃ vs, oe.data = .fields vs) (hm : (a, oe) ∈ X.pn)
    (hgi : Gl X "isinstance") (hgx : Gl X "ValueError") (gx : X.mg "ValueError" = none) (hj : j ≤ 12) (he : PE X (.Name y p2) (tVar n))
    (h1 : starEach [.Name y p2, .Name "ValueError" p3] X.env = (false, eval (.Name y p2) X.env) :: starEach [.Name "ValueError" p3] X.env := by rfl) (h2 : starEach [.Name "ValueError" p3] X.env = (false, eval (.Name "ValueError" p3) X.env) :: starEach [] X.env := by rfl)
    (h3 : (backTo pos (starEach [.Name "ValueError" p3] X.env)).any (·.1) = false := by rfl) :
    PE X (.Call (.Name "isinstance" p1) [.Name y p2, .Name "ValueError" p3] [] pos) (tIsC a d true n) := by
  have q := pe_callB (p := p1) (pos := pos) (call_isP hz hf hm) hgi T.isi boot_isinstance (pa_cons he (pa_cons (pe_bltn (v := .ty "ValueError") hgx gx PyProof.Rows.Boot.«ValueError» rfl) pa_nil h2) h1) (by decide) (by decide) h1 h3
  exact ⟨fun pins s σ H Q I ⟨hs, hd, k⟩ => q.run pins s σ H Q I ⟨.ref a, hs, C j, .ty "ValueError", .type "ValueError", _, rfl, T.xc j hj, hd, rfl, fun u z => z, T.kVE j hj, k⟩⟩
section
variable {P : Program} {w : World} {K : PySem.W.Frag} {mg : Str → Option Value} {base : Heap} {C : Nat → Addr}
theorem scM : FnScope ["e", "found"] ["e"] (defScope sMarks) := ⟨rfl, rfl, rfl, by decide +kernel, rfl, by decide +kernel, by decide +kernel⟩
theorem ok_marks {f : Addr} {fd : FuncData} (F : Fun K "_law_marks" "_law_marks" sMarks f fd) (T : Kits K mg C) : FnP P w K mg base CX0 1 f fd ["e"] (spMarks C) := by
  obtain ⟨_, _, _, _, _, _, cv, _, _, rfl, look, hcd⟩ := F.ex
  refine fnP_of look hcd scM (fun p vs H Q E ⟨_, _, _, e, _⟩ => by rw [e]; rfl) fun A outer s H vs Q E p hot hr ⟨j, d, hj, e, hz, hf, hd, k⟩ => ?_
  subst e
  have is0 : ∀ {p1 p2 p3 pos : Pos}, PE (L2H.cxH CX0 P w K mg base ["e", "found"] "_law_marks" (defScope sMarks) f cv A outer s H E p) (.Call (.Name "isinstance" p1) [.Name "e" p2, .Name "InvalidBowl" p3] [] pos) (tIsC p.1 d (decide (0 = j)) 0) :=
    fun {p1 p2 p3 pos} => pe_is T hz hf (List.mem_cons_self (a := p) (l := [])) rfl rfl T.g0 hj (by decide) (pv 0)
  have is1 : ∀ {p1 p2 p3 pos : Pos}, PE (L2H.cxH CX0 P w K mg base ["e", "found"] "_law_marks" (defScope sMarks) f cv A outer s H E p) (.Call (.Name "isinstance" p1) [.Name "e" p2, .Name "InvalidRecipe" p3] [] pos) (tIsC p.1 d (decide (1 = j)) 0) :=
    fun {p1 p2 p3 pos} => pe_is T hz hf (List.mem_cons_self (a := p) (l := [])) rfl rfl T.g1 hj (by decide) (pv 0)
  have is2 : ∀ {p1 p2 p3 pos : Pos}, PE (L2H.cxH CX0 P w K mg base ["e", "found"] "_law_marks" (defScope sMarks) f cv A outer s H E p) (.Call (.Name "isinstance" p1) [.Name "e" p2, .Name "InvalidMixture" p3] [] pos) (tIsC p.1 d (decide (2 = j)) 0) :=
    fun {p1 p2 p3 pos} => pe_is T hz hf (List.mem_cons_self (a := p) (l := [])) rfl rfl T.g2 hj (by decide) (pv 0)
  have is3 : ∀ {p1 p2 p3 pos : Pos}, PE (L2H.cxH CX0 P w K mg base ["e", "found"] "_law_marks" (defScope sMarks) f cv A outer s H E p) (.Call (.Name "isinstance" p1) [.Name "e" p2, .Name "InvalidTable" p3] [] pos) (tIsC p.1 d (decide (3 = j)) 0) :=
    fun {p1 p2 p3 pos} => pe_is T hz hf (List.mem_cons_self (a := p) (l := [])) rfl rfl T.g3 hj (by decide) (pv 0)
  have is4 : ∀ {p1 p2 p3 pos : Pos}, PE (L2H.cxH CX0 P w K mg base ["e", "found"] "_law_marks" (defScope sMarks) f cv A outer s H E p) (.Call (.Name "isinstance" p1) [.Name "e" p2, .Name "InvalidNaming" p3] [] pos) (tIsC p.1 d (decide (4 = j)) 0) :=
    fun {p1 p2 p3 pos} => pe_is T hz hf (List.mem_cons_self (a := p) (l := [])) rfl rfl T.g4 hj (by decide) (pv 0)
  have is5 : ∀ {p1 p2 p3 pos : Pos}, PE (L2H.cxH CX0 P w K mg base ["e", "found"] "_law_marks" (defScope sMarks) f cv A outer s H E p) (.Call (.Name "isinstance" p1) [.Name "e" p2, .Name "InvalidForm" p3] [] pos) (tIsC p.1 d (decide (5 = j)) 0) :=
    fun {p1 p2 p3 pos} => pe_is T hz hf (List.mem_cons_self (a := p) (l := [])) rfl rfl T.g5 hj (by decide) (pv 0)
  have is6 : ∀ {p1 p2 p3 pos : Pos}, PE (L2H.cxH CX0 P w K mg base ["e", "found"] "_law_marks" (defScope sMarks) f cv A outer s H E p) (.Call (.Name "isinstance" p1) [.Name "e" p2, .Name "InvalidQuestion" p3] [] pos) (tIsC p.1 d (decide (6 = j)) 0) :=
    fun {p1 p2 p3 pos} => pe_is T hz hf (List.mem_cons_self (a := p) (l := [])) rfl rfl T.g6 hj (by decide) (pv 0)
  have is7 : ∀ {p1 p2 p3 pos : Pos}, PE (L2H.cxH CX0 P w K mg base ["e", "found"] "_law_marks" (defScope sMarks) f cv A outer s H E p) (.Call (.Name "isinstance" p1) [.Name "e" p2, .Name "InvalidPrices" p3] [] pos) (tIsC p.1 d (decide (7 = j)) 0) :=
    fun {p1 p2 p3 pos} => pe_is T hz hf (List.mem_cons_self (a := p) (l := [])) rfl rfl T.g7 hj (by decide) (pv 0)
  have is8 : ∀ {p1 p2 p3 pos : Pos}, PE (L2H.cxH CX0 P w K mg base ["e", "found"] "_law_marks" (defScope sMarks) f cv A outer s H E p) (.Call (.Name "isinstance" p1) [.Name "e" p2, .Name "InvalidPair" p3] [] pos) (tIsC p.1 d (decide (8 = j)) 0) :=
    fun {p1 p2 p3 pos} => pe_is T hz hf (List.mem_cons_self (a := p) (l := [])) rfl rfl T.g8 hj (by decide) (pv 0)
  have is9 : ∀ {p1 p2 p3 pos : Pos}, PE (L2H.cxH CX0 P w K mg base ["e", "found"] "_law_marks" (defScope sMarks) f cv A outer s H E p) (.Call (.Name "isinstance" p1) [.Name "e" p2, .Name "InvalidText" p3] [] pos) (tIsC p.1 d (decide (9 = j)) 0) :=
    fun {p1 p2 p3 pos} => pe_is T hz hf (List.mem_cons_self (a := p) (l := [])) rfl rfl T.g9 hj (by decide) (pv 0)
  have is10 : ∀ {p1 p2 p3 pos : Pos}, PE (L2H.cxH CX0 P w K mg base ["e", "found"] "_law_marks" (defScope sMarks) f cv A outer s H E p) (.Call (.Name "isinstance" p1) [.Name "e" p2, .Name "NotFaithful" p3] [] pos) (tIsC p.1 d (decide (10 = j)) 0) :=
    fun {p1 p2 p3 pos} => pe_is T hz hf (List.mem_cons_self (a := p) (l := [])) rfl rfl T.g10 hj (by decide) (pv 0)
  have is11 : ∀ {p1 p2 p3 pos : Pos}, PE (L2H.cxH CX0 P w K mg base ["e", "found"] "_law_marks" (defScope sMarks) f cv A outer s H E p) (.Call (.Name "isinstance" p1) [.Name "e" p2, .Name "Refused" p3] [] pos) (tIsC p.1 d (decide (11 = j)) 0) :=
    fun {p1 p2 p3 pos} => pe_is T hz hf (List.mem_cons_self (a := p) (l := [])) rfl rfl T.g11 hj (by decide) (pv 0)
  have is12 : ∀ {p1 p2 p3 pos : Pos}, PE (L2H.cxH CX0 P w K mg base ["e", "found"] "_law_marks" (defScope sMarks) f cv A outer s H E p) (.Call (.Name "isinstance" p1) [.Name "e" p2, .Name "InvalidCommand" p3] [] pos) (tIsC p.1 d (decide (12 = j)) 0) :=
    fun {p1 p2 p3 pos} => pe_is T hz hf (List.mem_cons_self (a := p) (l := [])) rfl rfl T.g12 hj (by decide) (pv 0)
  refine ⟨_, pss_cons (ps_set (i := 1) scM.nd rfl (Or.inl rfl) (pe_lst (pa_cons is0 (pa_cons is1 (pa_cons is2 (pa_cons is3 pa_nil))))))
    (pss_cons (ps_set (i := 1) scM.nd rfl (Or.inl rfl) (pe_op op_cat (pv 1) (pe_lst (pa_cons is4 (pa_cons is5 (pa_cons is6 pa_nil))))))
    (pss_cons (ps_set (i := 1) scM.nd rfl (Or.inl rfl) (pe_op op_cat (pv 1) (pe_lst (pa_cons is7 (pa_cons is8 (pa_cons is9 pa_nil))))))
    (pss_one (ps_ret (pe_op op_cat (pv 1) (pe_lst (pa_cons is10 (pa_cons is11 (pa_cons is12 pa_nil))))))))), ?_⟩
  refine ⟨rfl, hd, rfl, hd, rfl, hd, rfl, hd, (by show 4 ≤ sizeLine; decide), fun l1 n1 => ?_⟩
  have s1 : Same H (upd H l1 (.lst [.bl (decide (0 = j)), .bl (decide (1 = j)), .bl (decide (2 = j)), .bl (decide (3 = j))])) := fun b o e => by rw [upd_ne (ne_of_none e n1)]; exact e
  have a1 : (upd H l1 (.lst [.bl (decide (0 = j)), .bl (decide (1 = j)), .bl (decide (2 = j)), .bl (decide (3 = j))])) l1 = some (.lst [.bl (decide (0 = j)), .bl (decide (1 = j)), .bl (decide (2 = j)), .bl (decide (3 = j))]) := upd_same
  generalize upd H l1 (.lst [.bl (decide (0 = j)), .bl (decide (1 = j)), .bl (decide (2 = j)), .bl (decide (3 = j))]) = H1 at s1 a1 ⊢
  have hdH1 := ErrD.same s1 hd
  refine ⟨_, rfl, rfl, hdH1, rfl, hdH1, rfl, hdH1, (by show 3 ≤ sizeLine; decide), fun la0 nla0 => ?_⟩
  refine ⟨l1, la0, [.bl (decide (0 = j)), .bl (decide (1 = j)), .bl (decide (2 = j)), .bl (decide (3 = j))], [.bl (decide (4 = j)), .bl (decide (5 = j)), .bl (decide (6 = j))], rfl, rfl, (by rw [upd_ne (ne_of_none a1 nla0)]; exact a1), upd_same, (by show 4 + 3 ≤ sizeLine; decide), fun lb0 nlb0 => ?_⟩
  have t0 : Same H (upd (upd H1 la0 (.lst [.bl (decide (4 = j)), .bl (decide (5 = j)), .bl (decide (6 = j))])) lb0 (.lst ([.bl (decide (0 = j)), .bl (decide (1 = j)), .bl (decide (2 = j)), .bl (decide (3 = j))] ++ [.bl (decide (4 = j)), .bl (decide (5 = j)), .bl (decide (6 = j))]))) := fun b o e => by
    have e1 := s1 b o e
    have e2 : upd H1 la0 (.lst [.bl (decide (4 = j)), .bl (decide (5 = j)), .bl (decide (6 = j))]) b = some o := by rw [upd_ne (ne_of_none e1 nla0)]; exact e1
    rw [upd_ne (ne_of_none e2 nlb0)]
    exact e2
  have b0 : (upd (upd H1 la0 (.lst [.bl (decide (4 = j)), .bl (decide (5 = j)), .bl (decide (6 = j))])) lb0 (.lst ([.bl (decide (0 = j)), .bl (decide (1 = j)), .bl (decide (2 = j)), .bl (decide (3 = j))] ++ [.bl (decide (4 = j)), .bl (decide (5 = j)), .bl (decide (6 = j))]))) lb0 = some (.lst [.bl (decide (0 = j)), .bl (decide (1 = j)), .bl (decide (2 = j)), .bl (decide (3 = j)), .bl (decide (4 = j)), .bl (decide (5 = j)), .bl (decide (6 = j))]) := upd_same
  generalize upd (upd H1 la0 (.lst [.bl (decide (4 = j)), .bl (decide (5 = j)), .bl (decide (6 = j))])) lb0 (.lst ([.bl (decide (0 = j)), .bl (decide (1 = j)), .bl (decide (2 = j)), .bl (decide (3 = j))] ++ [.bl (decide (4 = j)), .bl (decide (5 = j)), .bl (decide (6 = j))])) = H3 at t0 b0 ⊢
  clear s1 a1
  have s1 := t0
  have a1 := b0
  have hdH3 := ErrD.same s1 hd
  refine ⟨_, rfl, rfl, hdH3, rfl, hdH3, rfl, hdH3, (by show 3 ≤ sizeLine; decide), fun la1 nla1 => ?_⟩
  refine ⟨lb0, la1, [.bl (decide (0 = j)), .bl (decide (1 = j)), .bl (decide (2 = j)), .bl (decide (3 = j)), .bl (decide (4 = j)), .bl (decide (5 = j)), .bl (decide (6 = j))], [.bl (decide (7 = j)), .bl (decide (8 = j)), .bl (decide (9 = j))], rfl, rfl, (by rw [upd_ne (ne_of_none a1 nla1)]; exact a1), upd_same, (by show 7 + 3 ≤ sizeLine; decide), fun lb1 nlb1 => ?_⟩
  have t1 : Same H (upd (upd H3 la1 (.lst [.bl (decide (7 = j)), .bl (decide (8 = j)), .bl (decide (9 = j))])) lb1 (.lst ([.bl (decide (0 = j)), .bl (decide (1 = j)), .bl (decide (2 = j)), .bl (decide (3 = j)), .bl (decide (4 = j)), .bl (decide (5 = j)), .bl (decide (6 = j))] ++ [.bl (decide (7 = j)), .bl (decide (8 = j)), .bl (decide (9 = j))]))) := fun b o e => by
    have e1 := s1 b o e
    have e2 : upd H3 la1 (.lst [.bl (decide (7 = j)), .bl (decide (8 = j)), .bl (decide (9 = j))]) b = some o := by rw [upd_ne (ne_of_none e1 nla1)]; exact e1
    rw [upd_ne (ne_of_none e2 nlb1)]
    exact e2
  have b1 : (upd (upd H3 la1 (.lst [.bl (decide (7 = j)), .bl (decide (8 = j)), .bl (decide (9 = j))])) lb1 (.lst ([.bl (decide (0 = j)), .bl (decide (1 = j)), .bl (decide (2 = j)), .bl (decide (3 = j)), .bl (decide (4 = j)), .bl (decide (5 = j)), .bl (decide (6 = j))] ++ [.bl (decide (7 = j)), .bl (decide (8 = j)), .bl (decide (9 = j))]))) lb1 = some (.lst [.bl (decide (0 = j)), .bl (decide (1 = j)), .bl (decide (2 = j)), .bl (decide (3 = j)), .bl (decide (4 = j)), .bl (decide (5 = j)), .bl (decide (6 = j)), .bl (decide (7 = j)), .bl (decide (8 = j)), .bl (decide (9 = j))]) := upd_same
  generalize upd (upd H3 la1 (.lst [.bl (decide (7 = j)), .bl (decide (8 = j)), .bl (decide (9 = j))])) lb1 (.lst ([.bl (decide (0 = j)), .bl (decide (1 = j)), .bl (decide (2 = j)), .bl (decide (3 = j)), .bl (decide (4 = j)), .bl (decide (5 = j)), .bl (decide (6 = j))] ++ [.bl (decide (7 = j)), .bl (decide (8 = j)), .bl (decide (9 = j))])) = H5 at t1 b1 ⊢
  clear s1 a1
  have s1 := t1
  have a1 := b1
  have hdH5 := ErrD.same s1 hd
  refine ⟨_, rfl, rfl, hdH5, rfl, hdH5, rfl, hdH5, (by show 3 ≤ sizeLine; decide), fun la2 nla2 => ?_⟩
  refine ⟨lb1, la2, [.bl (decide (0 = j)), .bl (decide (1 = j)), .bl (decide (2 = j)), .bl (decide (3 = j)), .bl (decide (4 = j)), .bl (decide (5 = j)), .bl (decide (6 = j)), .bl (decide (7 = j)), .bl (decide (8 = j)), .bl (decide (9 = j))], [.bl (decide (10 = j)), .bl (decide (11 = j)), .bl (decide (12 = j))], rfl, rfl, (by rw [upd_ne (ne_of_none a1 nla2)]; exact a1), upd_same, (by show 10 + 3 ≤ sizeLine; decide), fun lb2 nlb2 => ?_⟩
  have t2 : Same H (upd (upd H5 la2 (.lst [.bl (decide (10 = j)), .bl (decide (11 = j)), .bl (decide (12 = j))])) lb2 (.lst ([.bl (decide (0 = j)), .bl (decide (1 = j)), .bl (decide (2 = j)), .bl (decide (3 = j)), .bl (decide (4 = j)), .bl (decide (5 = j)), .bl (decide (6 = j)), .bl (decide (7 = j)), .bl (decide (8 = j)), .bl (decide (9 = j))] ++ [.bl (decide (10 = j)), .bl (decide (11 = j)), .bl (decide (12 = j))]))) := fun b o e => by
    have e1 := s1 b o e
    have e2 : upd H5 la2 (.lst [.bl (decide (10 = j)), .bl (decide (11 = j)), .bl (decide (12 = j))]) b = some o := by rw [upd_ne (ne_of_none e1 nla2)]; exact e1
    rw [upd_ne (ne_of_none e2 nlb2)]
    exact e2
  have b2 : (upd (upd H5 la2 (.lst [.bl (decide (10 = j)), .bl (decide (11 = j)), .bl (decide (12 = j))])) lb2 (.lst ([.bl (decide (0 = j)), .bl (decide (1 = j)), .bl (decide (2 = j)), .bl (decide (3 = j)), .bl (decide (4 = j)), .bl (decide (5 = j)), .bl (decide (6 = j)), .bl (decide (7 = j)), .bl (decide (8 = j)), .bl (decide (9 = j))] ++ [.bl (decide (10 = j)), .bl (decide (11 = j)), .bl (decide (12 = j))]))) lb2 = some (.lst [.bl (decide (0 = j)), .bl (decide (1 = j)), .bl (decide (2 = j)), .bl (decide (3 = j)), .bl (decide (4 = j)), .bl (decide (5 = j)), .bl (decide (6 = j)), .bl (decide (7 = j)), .bl (decide (8 = j)), .bl (decide (9 = j)), .bl (decide (10 = j)), .bl (decide (11 = j)), .bl (decide (12 = j))]) := upd_same
  exact k lb2 _ t2 b2
end
end K00
namespace K00
open PySem PySem.Spec PyProof.Rows L2
/-! ### _law_heard -/
theorem takesN0 {X : Cx} : L2N.Takes X (fun _ _ _ _ => False) := fun _ _ ⟨_, _, _, _, _, _, _, _, _, _, _, _, _, _, _, _, z⟩ => z.elim
theorem sqT_same {K : PySem.W.Frag} {H H' : Hp} {a : Addr} {xs : List V} (s : Same H H') (h : SqT K H a xs) : SqT K H' a xs := by
  rcases h with (h | ⟨o, h⟩) | h
  · exact .inl (.inl (s _ _ h))
  · exact .inl (.inr ⟨o, s _ _ h⟩)
  · exact .inr h
mutual
theorem dp_same {K : PySem.W.Frag} {H H' : Hp} (s : Same H H') : ∀ (d : PyData) (v : V), Dp K H v d → Dp K H' v d
  | .none, _, h => by cases h; exact .non
  | .bool b, _, h => by cases h; exact .bl b
  | .int i, _, h => by cases h; exact .int i
  | .str x, _, h => by cases h; exact .str x
  | .list ds, _, h => by
    cases h with
    | lst hs ha => exact .lst (s.seq hs) (dpAll_same s ds _ ha)
  | .tuple ds, _, h => by
    cases h with
    | tup hs ha => exact .tup (sqT_same s hs) (dpAll_same s ds _ ha)
  | .dict kvs, _, h => by cases h
theorem dpAll_same {K : PySem.W.Frag} {H H' : Hp} (s : Same H H') : ∀ (ds : List PyData) (vs : List V), DpAll K H vs ds → DpAll K H' vs ds
  | [], _, h => by cases h; exact .nil
  | d :: ds, _, h => by
    cases h with
    | cons h1 h2 => exact .cons (dp_same s d _ h1) (dpAll_same s ds _ h2)
end
theorem dp_bools {K : PySem.W.Frag} {H : Hp} : ∀ l : List Bool, DpAll K H (l.map V.bl) (l.map PyData.bool)
  | [] => .nil
  | b :: l => .cons (.bl b) (dp_bools l)
theorem marks_range (j : Nat) : ((List.range 13).map fun s => V.bl (decide (V.int ((0 : Int) + (s : Nat)) = V.int ((j : Nat) : Int)))) = (marks j).map V.bl := by
  unfold marks
  rw [List.map_map]
  refine List.map_congr_left fun i _ => ?_
  show V.bl _ = V.bl _
  congr 1
  rw [Bool.eq_iff_iff]
  simp only [decide_eq_true_eq, V.int.injEq]
  omega
theorem marks_shaped (j : Nat) : SeqAt.shaped (.list ((marks j).map PyData.bool)) = true := by
  have h1 : ∀ l : List Bool, PyData.canLayAll0 (l.map PyData.bool) = true := fun l => by
    induction l with
    | nil => simp [PyData.canLayAll0]
    | cons b l ih => simp [PyData.canLayAll0, PyData.canLay0, ih]
  have h2 : ∀ l : List Bool, PyData.depthAll (l.map PyData.bool) ≤ 0 := fun l => by
    induction l with
    | nil => simp [PyData.depthAll]
    | cons b l ih => simp [PyData.depthAll, PyData.depth] at *; exact ih
  have h3 := h2 (marks j)
  simp only [SeqAt.shaped, PyData.canLay0, PyData.depth, h1, Bool.true_and, decide_eq_true_eq]
  exact decide_eq_true (by omega)
theorem marks_lay (j : Nat) : (PyData.list ((marks j).map PyData.bool)).canLay0 = true := SeqAt.canLay_of_shaped (marks_shaped j)
theorem marks_eqv (j : Nat) : (!(PyData.list ((marks j).map PyData.bool)).eqv (.list ((marks j).map PyData.bool))) = false := by
  rw [SeqAt.eqv_refl _ (marks_lay j)]
  rfl
def spHeard (K : PySem.W.Frag) : Sp := fun vs H Q _ => ∃ (at' : Nat) (v : V) (d : PyData), at' ≤ 12 ∧ vs = [.int at', v] ∧ Dp K H v d ∧ ShowOk d ∧ ∀ H', Same H H' → Q (.bl true) H'
/-- the error at a, of the class cls, with the dict d, is the one with the number j -/
def tMarksC (C : Nat → Addr) (a : Addr) (cls : Value) (d : Option Addr) : TE := fun σ H Q => ∃ j, j ≤ 12 ∧ cls = .ref (C j) ∧ σ[2]? = some (some (.ref a)) ∧ ErrD H d ∧ ∀ (l : Addr) (H' : Hp), Same H H' → H' l = some (.lst ((marks j).map V.bl)) → Q (.ref l) H'
def tVEC (C : Nat → Addr) (a : Addr) (cls : Value) (d : Option Addr) : TE := fun σ H Q => ∃ j, j ≤ 12 ∧ cls = .ref (C j) ∧ σ[2]? = some (some (.ref a)) ∧ ErrD H d ∧ Q (.bl true) H
def tAtC (C : Nat → Addr) (a : Addr) (cls : Value) (d : Option Addr) : TE := fun σ H Q => ∃ j, j < 12 ∧ cls = .ref (C j) ∧ σ[2]? = some (some (.ref a)) ∧ ∃ (dd : Addr) (v : V), d = some dd ∧ H dd = some (.xd [("at", v)]) ∧ Q v H
section
variable {P : Program} {w : World} {K : PySem.W.Frag} {mg : Str → Option Value} {base : Heap} {C fI : Nat → Addr} {fdI : Nat → FuncData} {fR fM M : Addr} {fdR fdM : FuncData}
abbrev hX (P : Program) (w : World) (K : PySem.W.Frag) (mg : Str → Option Value) (base : Heap) (f : Addr) (cv : Value) (A : Around) (outer : List Env) (s : Shared) (H : Hp) (E : XK) : Cx :=
  (cxOf CX0 P w K mg base ["at", "thing", "e", "spot"] "_law_heard" (defScope sHeard) f cv A outer s H E).nox
theorem scH : FnScope ["at", "thing", "e", "spot"] ["at", "thing"] (defScope sHeard) := ⟨rfl, rfl, rfl, by decide +kernel, rfl, by decide +kernel, by decide +kernel⟩
theorem ok_heard {f : Addr} {fd : FuncData} (F : Fun K "_law_heard" "_law_heard" sHeard f fd) (T : Kits K mg C) (xf : ∀ j, j < 12 → XfC K (C j) ∧ PySem.W.findIn K (.ref (C j)) "at" = some none)
    (FR : FnOk P w K mg base (L2N.CX P w) 4 fR fdR ["at", "thing"] (spRaise C)) (bR : Binds K fdR ["at", "thing"] []) (kR : PySem.W.keepIn K (.ref fR) = true) (gR : mg "_law_raise" = some (.ref fR))
    (FM : FnP P w K mg base CX0 1 fM fdM ["e"] (spMarks C)) (bM : Binds K fdM ["e"] []) (kM : PySem.W.keepIn K (.ref fM) = true) (gM : mg "_law_marks" = some (.ref fM))
    (gX : mg "MixError" = some (.ref M)) (eX : ∀ j, j ≤ 12 → PySem.W.exmOne K (.ref (C j)) (.ref M) = some true) (zR : mg "range" = none) (zV : mg "ValueError" = none) (zP : mg "repr" = none) :
    FnG P w K mg base CX0 5 f fd ["at", "thing"] (spHeard K) := by
  refine F.okG scH (fun vs H Q E ⟨_, _, _, _, e, _⟩ => by rw [e]; rfl) fun cv A outer s H vs Q E hg hr ⟨at', v, dv, h12, e, hv, hs, k⟩ => ?_
  subst e
  have hu : ((A.deeper (envOfC "_law_heard" (defScope sHeard) s.heap.objs.size f cv))).units + 64 < cLine := hr.units
  have h0 : ∀ (a : Addr) (oe : Obj) (cls : Value) (d : Option Addr) (pn : List (Addr × Obj)), L2N.Zn cls d oe → (∃ vs, oe.data = .fields vs) → L2H.Hot1 ((hX P w K mg base f cv A outer s H E).suite a ((a, oe) :: pn)).A (a, oe) :=
    fun a oe cls d pn hz ⟨ws, e⟩ => ⟨rfl, ws, e, hz.2.2 ws e⟩
  have marksC : ∀ (a : Addr) (oe : Obj) (cls : Value) (d : Option Addr) (pn : List (Addr × Obj)) (p1 p2 pos : Pos), L2N.Zn cls d oe → (∃ vs, oe.data = .fields vs) →
      PE ((hX P w K mg base f cv A outer s H E).suite a ((a, oe) :: pn)) (.Call (.Name "_law_marks" p1) [.Name "e" p2] [] pos) (tMarksC C a cls d) := by
    intro a oe cls d pn p1 p2 pos hz hd
    have q : PE ((hX P w K mg base f cv A outer s H E).suite a ((a, oe) :: pn)) (.Call (.Name "_law_marks" p1) [.Name "e" p2] [] pos) _ :=
      pe_callP (q := (a, oe)) FM (L2H.roomH_mark (hr.mono (by decide)) _) (h0 a oe cls d pn hz hd) List.mem_cons_self rfl gM kM bM pass0 (pa_cons (pv 2) pa_nil)
    refine ⟨fun pins st σ H1 Q1 I ⟨j, hj, hc, h2, he, k2⟩ => q.run pins st σ H1 Q1 I ?_⟩
    exact ⟨.ref a, h2, j, d, hj, rfl, hc ▸ hz.zc, hd, he, k2⟩
  have isC : ∀ (a : Addr) (oe : Obj) (cls : Value) (d : Option Addr) (pn : List (Addr × Obj)) (p1 p2 p3 pos : Pos), L2N.Zn cls d oe → (∃ vs, oe.data = .fields vs) →
      PE ((hX P w K mg base f cv A outer s H E).suite a ((a, oe) :: pn)) (.Call (.Name "isinstance" p1) [.Name "e" p2, .Name "ValueError" p3] [] pos) (tVEC C a cls d) := by
    intro a oe cls d pn p1 p2 p3 pos hz hd
    refine ⟨fun pins st σ H1 Q1 I ⟨j, hj, hc, h2, he, k2⟩ => ?_⟩
    subst hc
    have q : PE ((hX P w K mg base f cv A outer s H E).suite a ((a, oe) :: pn)) (.Call (.Name "isinstance" p1) [.Name "e" p2, .Name "ValueError" p3] [] pos) _ :=
      pe_isVE (n := 2) T hz.zc hd List.mem_cons_self rfl rfl zV hj (pv 2)
    exact q.run pins st σ H1 Q1 I ⟨h2, he, k2⟩
  have atC : ∀ (a : Addr) (oe : Obj) (cls : Value) (d : Option Addr) (pn : List (Addr × Obj)) (p2 pos : Pos), L2N.Zn cls d oe → (∃ vs, oe.data = .fields vs) →
      PE ((hX P w K mg base f cv A outer s H E).suite a ((a, oe) :: pn)) (.Attribute (.Name "e" p2) "at" pos) (tAtC C a cls d) := fun a oe cls d pn p2 pos hz hd =>
    ⟨fun pins st σ H1 Q1 I ⟨j, hj, hc, h2, dd, v, ed, ex, q⟩ => (pe_xf (xf j hj).1 (xf j hj).2 hz.zc hd (pv 2)).run pins st σ H1 Q1 I ⟨_, h2, rfl, hc, dd, _, v, ed, ex, by simp [List.lookup], q⟩⟩
  have hotC : ∀ (a : Addr) (oe : Obj) (cls : Value) (d : Option Addr) (pn : List (Addr × Obj)), L2N.Zn cls d oe → (∃ vs, oe.data = .fields vs) →
      L2H.HotC ((hX P w K mg base f cv A outer s H E).suite a ((a, oe) :: pn)) := fun a oe cls d pn hz hd => ⟨(a, oe), h0 a oe cls d pn hz hd, List.mem_cons_self⟩
  have showC : ∀ (a : Addr) (oe : Obj) (pn : List (Addr × Obj)), CallR ((hX P w K mg base f cv A outer s H E).suite a ((a, oe) :: pn)) (.builtin "repr") (rShow K) := fun a oe pn => call_show hg hu
  have neC : ∀ (a : Addr) (oe : Obj) (pn : List (Addr × Obj)), OpR ((hX P w K mg base f cv A outer s H E).suite a ((a, oe) :: pn)) (compareOp .NotEq) (rNeD K) := fun a oe pn => op_neD hu
  refine ⟨_, pss_cons (L2N.ps_try_as (i := 2) (Wout := fun _ _ _ _ => False) rfl rfl scH.nd rfl rfl ⟨rfl, by decide, .inl gX⟩ takesN0
    (fun W pn xe tk _ => pss_one (ps_expr (pe_callS FR hr rfl gR kR bR (fun σ => L2N.passAt tk σ) (pa_cons (pv 0) (pa_cons (pv 1) pa_nil)))))
    (fun a oe cls d pn hz hd => pss_cons (ps_if (PW.pt (pw_or (pt_cmpR (neC a oe pn) (marksC a oe cls d pn _ _ _ hz hd)
        (pe_lcHot (own := [("spot", 3)]) (hotC a oe cls d pn hz hd) scH.nd rfl zR (pa_cons pe_int pa_nil) (blkOk_by (N := ["at", "thing", "e", "spot"]) (sc := defScope sHeard) (by decide +kernel))
          (fun _ _ _ _ _ _ => pg_name (i := 3) scH.nd rfl (Or.inl rfl)) (fun _ _ _ _ _ _ => pe_cmpR op_eq (pv 3) (pv 0) (nomark _))) (nomark _))
        (pw_or1 (pt_not (pt_val (isC a oe cls d pn _ _ _ _ hz hd)))))) (pss_one (ps_ret pe_bl)) pss_nil)
      (pss_one (ps_ret (pe_or (pe_cmp (pc_gt (pv 0) pe_int) rfl) (pe_one (pe_cmpR op_eq (pe_callB (id := "repr") (showC a oe pn) rfl zP (by decide +kernel) (pa_cons (atC a oe cls d pn _ _ hz hd) pa_nil))
        (pe_callB (id := "repr") (showC a oe pn) rfl zP (by decide +kernel) (pa_cons (pv 1) pa_nil)) (nomark _)))))))) (pss_one (ps_ret pe_bl)), ?_⟩
  -- the suite's reading, the error at a on the heap H1
  refine ⟨_, rfl, _, rfl, at', v, h12, rfl, fun hlt d nd => ⟨true, eX at' h12, fun _ a na => ?_, fun z => nomatch z⟩, fun he => ⟨true, eX 12 (by decide), fun _ a na => ?_, fun z => nomatch z⟩⟩
  · refine ⟨at', h12, rfl, rfl, ⟨_, upd_same⟩, fun l H1 s1 hl => ?_⟩
    refine ⟨13, rfl, by decide, by decide, fun D nD => lc_range (lo := 0) (n := 13) (fun i H' => Same H1 H' ∧ H' D = some (.lst ((List.range i).map fun s => V.bl (decide (V.int ((0 : Int) + (s : Nat)) = V.int ((at' : Nat) : Int)))))) ⟨fun b o e => by rw [upd_ne (ne_of_none e nD)]; exact e, upd_same⟩ ?_ ?_⟩
    · rintro i H2 hi ⟨s2, hD⟩
      refine ⟨rfl, ?_⟩
      show tOp rEq (tVar 3) (tVar 0) _ _ _
      refine ⟨_, rfl, _, rfl, rfl, _, hD, ?_, ?_, ?_⟩
      · rw [List.length_map, List.length_range]
        exact small1000 (by omega)
      · intro b o e
        rw [upd_ne (show b ≠ D from ne_of_none e nD)]
        exact s2 b o e
      · rw [upd_same, List.range_succ, List.map_append]
        rfl
    · rintro H2 ⟨s2, hD⟩
      refine ⟨.list ((marks at').map PyData.bool), .list ((marks at').map PyData.bool), .lst (SqL.of (s2 _ _ hl)) (dp_bools _), .lst (SqL.of hD) (by rw [marks_range]; exact dp_bools _), marks_shaped _, marks_shaped _, _, rfl, ?_⟩
      rw [marks_eqv]
      refine iteF ?_
      have hd2 : ErrD H2 (some d) := ErrD.same (Same.trans s1 s2) (show ErrD (upd H d (.xd [("at", v)])) (some d) from ⟨_, upd_same⟩)
      refine ⟨at', h12, rfl, rfl, hd2, _, rfl, ?_⟩
      refine iteF ?_
      refine ⟨_, rfl, _, _, rfl, rfl, _, rfl, ?_⟩
      refine ite2 (fun c => absurd (of_decide_eq_true (p := (11 : Int) < (at' : Nat)) c) (by omega)) (fun _ => ?_)
      have hx : H2 d = some (.xd [("at", v)]) := s2 _ _ (s1 _ _ upd_same)
      have sA : Same H H2 := fun b o e => s2 _ _ (s1 _ _ (by rw [upd_ne (ne_of_none e nd)]; exact e))
      have hv2 := dp_same sA dv v hv
      refine ⟨at', hlt, rfl, rfl, d, v, rfl, hx, v, dv, rfl, hv2, hs, _, rfl, v, dv, rfl, hv2, hs, rfl, ?_⟩
      rw [decide_eq_true rfl]
      exact k H2 sA
  · subst he
    refine ⟨12, h12, rfl, rfl, trivial, fun l H1 s1 hl => ?_⟩
    refine ⟨13, rfl, by decide, by decide, fun D nD => lc_range (lo := 0) (n := 13) (fun i H' => Same H1 H' ∧ H' D = some (.lst ((List.range i).map fun s => V.bl (decide (V.int ((0 : Int) + (s : Nat)) = V.int ((12 : Nat) : Int)))))) ⟨fun b o e => by rw [upd_ne (ne_of_none e nD)]; exact e, upd_same⟩ ?_ ?_⟩
    · rintro i H2 hi ⟨s2, hD⟩
      refine ⟨rfl, ?_⟩
      show tOp rEq (tVar 3) (tVar 0) _ _ _
      refine ⟨_, rfl, _, rfl, rfl, _, hD, ?_, ?_, ?_⟩
      · rw [List.length_map, List.length_range]
        exact small1000 (by omega)
      · intro b o e
        rw [upd_ne (show b ≠ D from ne_of_none e nD)]
        exact s2 b o e
      · rw [upd_same, List.range_succ, List.map_append]
        rfl
    · rintro H2 ⟨s2, hD⟩
      refine ⟨.list ((marks 12).map PyData.bool), .list ((marks 12).map PyData.bool), .lst (SqL.of (s2 _ _ hl)) (dp_bools _), .lst (SqL.of hD) (by rw [marks_range]; exact dp_bools _), marks_shaped _, marks_shaped _, _, rfl, ?_⟩
      rw [marks_eqv]
      refine iteF ?_
      have hd2 : ErrD H2 none := trivial
      refine ⟨12, h12, rfl, rfl, hd2, _, rfl, ?_⟩
      refine iteF ?_
      refine ⟨_, rfl, _, _, rfl, rfl, _, rfl, ?_⟩
      refine ite2 (fun _ => ?_) (fun c => absurd (decide_eq_true (p := (11 : Int) < ((12 : Nat) : Int)) (by decide)) c)
      exact k H2 (Same.trans s1 s2)
end
end K00
namespace K00
open PySem PySem.Spec PyProof.Rows L2
theorem log_small {i : Int} (h : i.natAbs < 2 ^ 40) : i.natAbs.log2 < 1920 := by
  by_cases z : i.natAbs = 0
  · rw [z]; decide
  · have := (Nat.log2_lt z).mpr h
    omega
theorem show_int {i : Int} (h : i.natAbs < 10 ^ 12) : ShowOk (.int i) :=
  ⟨by simp only [PyData.showable, decide_eq_true_eq]; exact log_small (Nat.lt_trans h (by decide)), rfl, by simp [PyData.depth], Nat.le_trans (PyData.shown_int_le h) (by rw [sizeLine_eq]; decide)⟩
theorem show_none : ShowOk .none := ⟨rfl, rfl, by simp [PyData.depth], by rw [PyData.shown_none, sizeLine_eq]; decide⟩
theorem short1000 : ∀ n : _root_.Fin 1000, (reprText (Str.ofString (toString ((n.val : Nat) : Int)))).length ≤ 1000 := by decide +kernel
theorem show_str {i : Int} (h0 : 0 ≤ i) (h1 : i < 1000) : ShowOk (.str (Str.ofString (toString i))) := by
  refine ⟨rfl, rfl, by simp [PyData.depth], ?_⟩
  have h := short1000 ⟨i.toNat, by omega⟩
  have e : ((i.toNat : Nat) : Int) = i := by omega
  rw [show (((⟨i.toNat, by omega⟩ : _root_.Fin 1000).val : Nat) : Int) = i from e] at h
  have e2 : (PyData.str (Str.ofString (toString i))).shown = reprText (Str.ofString (toString i)) := by simp [PyData.shown]
  rw [e2, sizeLine_eq]
  omega
theorem short7 : ∀ n : _root_.Fin 11, (PyData.tuple [.int ((n.val : Nat) : Int), .str "a"]).shown.length ≤ 1000 ∧ (PyData.list [.int ((n.val : Nat) : Int)]).shown.length ≤ 1000 := by decide +kernel
theorem show_tup {i : Int} (h0 : 0 ≤ i) (h1 : i < 11) : ShowOk (.tuple [.int i, .str "a"]) ∧ ShowOk (.list [.int i]) := by
  have h := short7 ⟨i.toNat, by omega⟩
  rw [show (((⟨i.toNat, by omega⟩ : _root_.Fin 11).val : Nat) : Int) = i from by show ((i.toNat : Nat) : Int) = i; omega] at h
  have hl : i.natAbs.log2 < 1920 := log_small (Nat.lt_of_lt_of_le (show i.natAbs < 11 by omega) (by decide))
  refine ⟨⟨by simp [PyData.showable, PyData.showableAll, hl], by simp [PyData.hasDict, PyData.hasDictAll], by simp [PyData.depth, PyData.depthAll], Nat.le_trans h.1 (by rw [sizeLine_eq]; decide)⟩, ⟨by simp [PyData.showable, PyData.showableAll, hl], by simp [PyData.hasDict, PyData.hasDictAll], by simp [PyData.depth, PyData.depthAll], Nat.le_trans h.2 (by rw [sizeLine_eq]; decide)⟩⟩
end K00
namespace K00
open PySem PySem.Spec PyProof.Rows L2
/-! ### law -/
def spLaw (K : PySem.W.Frag) : Sp := fun vs H Q _ => ∃ (a : Addr) (ns : List Int), vs = [.ref a] ∧ SqL K H a (ns.map V.int) ∧ ns.length ≤ 63 ∧ ∀ H', Q (.bl true) H'
section
variable {P : Program} {w : World} {K : PySem.W.Frag} {mg : Str → Option Value} {base : Heap} {fH : Addr} {fdH : FuncData}
theorem scL : FnScope ["script", "k", "cell", "things", "at", "thing"] ["script"] (defScope sLaw) := ⟨rfl, rfl, rfl, by decide +kernel, rfl, by decide +kernel, by decide +kernel⟩
theorem ok_law {f : Addr} {fd : FuncData} (F : Fun K "law" "law" sLaw f fd) (FH : FnG P w K mg base CX0 5 fH fdH ["at", "thing"] (spHeard K)) (bH : Binds K fdH ["at", "thing"] []) (kH : PySem.W.keepIn K (.ref fH) = true) (gH : mg "_law_heard" = some (.ref fH))
    (zR : mg "range" = none) (zMax : mg "max" = none) (zMin : mg "min" = none) (zLen : mg "len" = none) (zInt : mg "int" = none) (zStr : mg "str" = none) : FnG P w K mg base CX0 6 f fd ["script"] (spLaw K) := by
  refine F.okG scL (fun vs H Q E ⟨_, _, e, _⟩ => by rw [e]; rfl) fun cv A outer s H vs Q E hg hr ⟨a, ns, e, hS, hlen, k⟩ => ?_
  subst e
  refine ⟨_, pss_cons (ps_for PassesOwn.never rfl (pi_range1 rfl zR (pa_cons (pe_callB (call_max2 rfl) rfl zMax (by decide +kernel) (pa_cons pe_int (pa_cons (pe_callB (call_min2 rfl) rfl zMin (by decide +kernel)
        (pa_cons pe_int (pa_cons (pe_callB call_len_seq rfl zLen PySem.boot_len (pa_cons (pv 0) pa_nil)) pa_nil))) pa_nil))) pa_nil)) (pg_name (i := 1) scL.nd rfl (Or.inl rfl))
      (pss_cons (ps_set (i := 2) scL.nd rfl (Or.inl rfl) (pe_ifExp (pt_cmpR op_lt (pv 1) (pe_callB call_len_seq rfl zLen PySem.boot_len (pa_cons (pv 0) pa_nil)) (nomark _)) (pe_ix ix_list (pv 0) (pv 1) (fun _ _ => rfl)) pe_int))
      (pss_cons (ps_set (i := 3) scL.nd rfl (Or.inl rfl) (pe_lst
        (pa_cons (pe_op op_mod (pe_callTy call_int1 rfl zInt (by decide +kernel) (pa_cons (pv 2) pa_nil)) pe_int)
        (pa_cons (pe_op op_sub pe_int (pe_op op_mod (pe_callTy call_int1 rfl zInt (by decide +kernel) (pa_cons (pv 2) pa_nil)) pe_int))
        (pa_cons (pe_callTy call_str_int rfl zStr (by decide +kernel) (pa_cons (pe_op op_mod (pe_callTy call_int1 rfl zInt (by decide +kernel) (pa_cons (pv 2) pa_nil)) pe_int) pa_nil))
        (pa_cons pe_non
        (pa_cons (pe_tup (pa_cons (pe_op op_mod (pe_callTy call_int1 rfl zInt (by decide +kernel) (pa_cons (pv 2) pa_nil)) pe_int) (pa_cons pe_str pa_nil)))
        (pa_cons (pe_lst (pa_cons (pe_op op_mod (pe_callTy call_int1 rfl zInt (by decide +kernel) (pa_cons (pv 2) pa_nil)) pe_int) pa_nil)) pa_nil))))))))
      (pss_one (ps_for PassesOwn.never rfl (pi_range1 rfl zR (pa_cons pe_int pa_nil)) (pg_name (i := 4) scL.nd rfl (Or.inl rfl))
        (pss_one (ps_for PassesOwn.never rfl (pi_list (pv 3)) (pg_name (i := 5) scL.nd rfl (Or.inl rfl))
          (pss_one (ps_if (pt_not (pt_val (pe_callG FH hg hr rfl gH kH bH .nil pass0 (pa_cons (pv 4) (pa_cons (pv 5) pa_nil))))) (pss_one (ps_ret pe_bl)) pss_nil)))))))))
    (pss_one (ps_ret pe_bl)), ?_⟩
  refine ⟨_, rfl, a, _, rfl, .inl hS, _, _, rfl, _, _, rfl, _, rfl, ?b1, ?b2, for_range (lo := 0) (n := _) (fun i σ H' => ∃ v1 v2 v3 v4 v5 : Option V, σ = [some (.ref a), v1, v2, v3, v4, v5] ∧ Same H H') ⟨_, _, _, _, _, rfl, Same.refl H⟩ ?_ ?_⟩
  case b1 => rw [List.length_map]; (repeat' split) <;> omega
  case b2 => rw [List.length_map]; (repeat' split) <;> omega
  · rintro i σ H1 hi ⟨v1, v2, v3, v4, v5, rfl, s1⟩
    refine ⟨_, rfl, _, rfl, a, _, rfl, .inl (s1.seq hS), _, _, rfl, rfl, _, rfl, ?_⟩
    -- behind the cell's value, whatever it is
    refine ite2 (fun c => ?_) (fun _ => ?_)
    · have hlt : i < ns.length := by
        have c' := of_decide_eq_true c
        rw [List.length_map] at c'
        omega
      obtain ⟨z, hz⟩ : ∃ z, ns[i]? = some z := ⟨_, List.getElem?_eq_getElem hlt⟩
      refine ⟨_, rfl, _, rfl, a, ns.map V.int, _, .int z, rfl, rfl, s1.seq hS, (by rw [Int.zero_add]; exact atI_nat (by rw [List.getElem?_map, hz]; rfl)), ?_⟩
      refine ⟨_, rfl, .inl ⟨_, rfl, ?_⟩⟩
      refine ⟨_, _, rfl, rfl, (by show (0 : Int) < 1000000007; decide), ?_⟩
      refine ⟨_, rfl, .inl ⟨_, rfl, ?_⟩⟩
      refine ⟨_, _, rfl, rfl, (by show (0 : Int) < 97; decide), ?_⟩
      refine ⟨_, _, rfl, rfl, ?_⟩
      refine ⟨_, rfl, .inl ⟨_, rfl, ?_⟩⟩
      refine ⟨_, _, rfl, rfl, (by show (0 : Int) < 1000; decide), ?_⟩
      refine ⟨_, rfl, log_small (by have := Int.emod_nonneg z (show (1000 : Int) ≠ 0 by decide); have := Int.emod_lt_of_pos z (show (0 : Int) < 1000 by decide); omega), ?_⟩
      refine ⟨_, rfl, .inl ⟨_, rfl, ?_⟩⟩
      refine ⟨_, _, rfl, rfl, (by show (0 : Int) < 7; decide), ?_⟩
      refine ⟨(by show 2 ≤ sizeLine; decide), fun t nt => ?_⟩
      refine ⟨_, rfl, .inl ⟨_, rfl, ?_⟩⟩
      refine ⟨_, _, rfl, rfl, (by show (0 : Int) < 11; decide), ?_⟩
      refine ⟨(by show 1 ≤ sizeLine; decide), fun l nl => ?_⟩
      refine ⟨(by show 6 ≤ sizeLine; decide), fun p np => ?_⟩
      dsimp only at nl np ⊢
      have m1 := Int.emod_nonneg z (show (1000000007 : Int) ≠ 0 by decide)
      have m2 := Int.emod_lt_of_pos z (show (0 : Int) < 1000000007 by decide)
      have m3 := Int.emod_nonneg z (show (97 : Int) ≠ 0 by decide)
      have m4 := Int.emod_lt_of_pos z (show (0 : Int) < 97 by decide)
      have m5 := Int.emod_nonneg z (show (1000 : Int) ≠ 0 by decide)
      have m6 := Int.emod_lt_of_pos z (show (0 : Int) < 1000 by decide)
      have m7 := Int.emod_nonneg z (show (7 : Int) ≠ 0 by decide)
      have m8 := Int.emod_lt_of_pos z (show (0 : Int) < 7 by decide)
      have m9 := Int.emod_nonneg z (show (11 : Int) ≠ 0 by decide)
      have m10 := Int.emod_lt_of_pos z (show (0 : Int) < 11 by decide)
      generalize z % 1000000007 = x1 at m1 m2 ⊢
      generalize z % 97 = x2 at m3 m4 ⊢
      generalize z % 1000 = x3 at m5 m6 ⊢
      generalize z % 7 = x4 at m7 m8 nt nl np ⊢
      generalize z % 11 = x5 at m9 m10 nl np ⊢
      have hT : (upd (upd (upd H1 t (.tup [.int x4, .str "a"])) l (.lst [.int x5])) p (.lst [.int x1, .int (0 - x2), .str (Str.ofString (toString x3)), .non, .ref t, .ref l])) t = some (.tup [.int x4, .str "a"]) := by
        rw [upd_ne (ne_of_none (show (upd (upd H1 t (.tup [.int x4, .str "a"])) l (.lst [.int x5])) t = _ from by rw [upd_ne (ne_of_none upd_same nl)]; exact upd_same) np), upd_ne (ne_of_none upd_same nl), upd_same]
      have hL : (upd (upd (upd H1 t (.tup [.int x4, .str "a"])) l (.lst [.int x5])) p (.lst [.int x1, .int (0 - x2), .str (Str.ofString (toString x3)), .non, .ref t, .ref l])) l = some (.lst [.int x5]) := by
        rw [upd_ne (ne_of_none upd_same np), upd_same]
      have hP : (upd (upd (upd H1 t (.tup [.int x4, .str "a"])) l (.lst [.int x5])) p (.lst [.int x1, .int (0 - x2), .str (Str.ofString (toString x3)), .non, .ref t, .ref l])) p = some (.lst [.int x1, .int (0 - x2), .str (Str.ofString (toString x3)), .non, .ref t, .ref l]) := upd_same
      have s3 : Same H (upd (upd (upd H1 t (.tup [.int x4, .str "a"])) l (.lst [.int x5])) p (.lst [.int x1, .int (0 - x2), .str (Str.ofString (toString x3)), .non, .ref t, .ref l])) := fun b o e => by
        have e1 := s1 b o e
        have e2 : upd H1 t (.tup [.int x4, .str "a"]) b = some o := by rw [upd_ne (ne_of_none e1 nt)]; exact e1
        have e3 : upd (upd H1 t (.tup [.int x4, .str "a"])) l (.lst [.int x5]) b = some o := by rw [upd_ne (ne_of_none e2 nl)]; exact e2
        rw [upd_ne (ne_of_none e3 np)]
        exact e3
      generalize (upd (upd (upd H1 t (.tup [.int x4, .str "a"])) l (.lst [.int x5])) p (.lst [.int x1, .int (0 - x2), .str (Str.ofString (toString x3)), .non, .ref t, .ref l])) = H3 at hT hL hP s3 ⊢
      have items : ∀ (j : Nat) (y : V), ([.int x1, .int (0 - x2), .str (Str.ofString (toString x3)), .non, .ref t, .ref l] : List V)[j]? = some y → ∃ d, Dp K H3 y d ∧ ShowOk d := fun j y hj => by
        match j, hj with
        | 0, hj => obtain rfl := Option.some.inj hj; exact ⟨_, .int _, show_int (by omega)⟩
        | 1, hj => obtain rfl := Option.some.inj hj; exact ⟨_, .int _, show_int (by omega)⟩
        | 2, hj => obtain rfl := Option.some.inj hj; exact ⟨_, .str _, show_str (by omega) (by omega)⟩
        | 3, hj => obtain rfl := Option.some.inj hj; exact ⟨_, .non, show_none⟩
        | 4, hj => obtain rfl := Option.some.inj hj; exact ⟨_, .tup (SqT.of hT) (.cons (.int _) (.cons (.str _) .nil)), (show_tup (by omega) (by omega)).1⟩
        | 5, hj => obtain rfl := Option.some.inj hj; exact ⟨_, .lst (SqL.of hL) (.cons (.int _) .nil), (show_tup (by omega) (by omega)).2⟩
        | n + 6, hj => simp at hj
      -- for at in range(13)
      refine ⟨13, rfl, by decide, by decide, for_range (lo := 0) (n := 13) (fun _ σ H' => ∃ v1 v2 v4 v5 : Option V, σ = [some (.ref a), v1, v2, some (.ref p), v4, v5] ∧ Same H3 H') ⟨_, _, _, _, rfl, Same.refl _⟩ ?_ ?_⟩
      · rintro i2 σ H4 hi2 ⟨w1, w2, w4, w5, rfl, s4⟩
        -- for thing in things
        refine ⟨_, rfl, p, rfl, ⟨_, SqL.of (s4 _ _ hP)⟩, for_list (K := K) (a := p) (xs := [.int x1, .int (0 - x2), .str (Str.ofString (toString x3)), .non, .ref t, .ref l]) (fun _ σ H' => ∃ v1 v2 v5 : Option V, σ = [some (.ref a), v1, v2, some (.ref p), some (.int (0 + (i2 : Nat))), v5] ∧ Same H3 H')
          ⟨_, _, _, rfl, s4⟩ (fun _ _ H' _ ⟨_, _, _, _, s5⟩ => SqL.of (s5 _ _ hP)) ?_ ?_⟩
        · rintro j y σ H5 hj ⟨u1, u2, u5, rfl, s5⟩
          obtain ⟨d, hd, ok⟩ := items j y hj
          refine ⟨_, rfl, _, rfl, i2, y, d, by omega, (by rw [Int.zero_add]; rfl), dp_same s5 d y hd, ok, fun H6 s6 => ⟨true, rfl, ?_⟩⟩
          refine iteF ?_
          exact ⟨_, _, _, rfl, Same.trans s5 s6⟩
        · rintro σ H5 ⟨u1, u2, u5, rfl, s5⟩
          exact ⟨_, _, _, _, rfl, s5⟩
      · rintro σ H4 ⟨w1, w2, w4, w5, rfl, s4⟩
        exact ⟨_, _, _, _, _, rfl, Same.trans s3 s4⟩
    · refine ⟨_, rfl, .inl ⟨_, rfl, ?_⟩⟩
      refine ⟨_, _, rfl, rfl, (by show (0 : Int) < 1000000007; decide), ?_⟩
      refine ⟨_, rfl, .inl ⟨_, rfl, ?_⟩⟩
      refine ⟨_, _, rfl, rfl, (by show (0 : Int) < 97; decide), ?_⟩
      refine ⟨_, _, rfl, rfl, ?_⟩
      refine ⟨_, rfl, .inl ⟨_, rfl, ?_⟩⟩
      refine ⟨_, _, rfl, rfl, (by show (0 : Int) < 1000; decide), ?_⟩
      refine ⟨_, rfl, log_small (by have := Int.emod_nonneg (0 : Int) (show (1000 : Int) ≠ 0 by decide); have := Int.emod_lt_of_pos (0 : Int) (show (0 : Int) < 1000 by decide); omega), ?_⟩
      refine ⟨_, rfl, .inl ⟨_, rfl, ?_⟩⟩
      refine ⟨_, _, rfl, rfl, (by show (0 : Int) < 7; decide), ?_⟩
      refine ⟨(by show 2 ≤ sizeLine; decide), fun t nt => ?_⟩
      refine ⟨_, rfl, .inl ⟨_, rfl, ?_⟩⟩
      refine ⟨_, _, rfl, rfl, (by show (0 : Int) < 11; decide), ?_⟩
      refine ⟨(by show 1 ≤ sizeLine; decide), fun l nl => ?_⟩
      refine ⟨(by show 6 ≤ sizeLine; decide), fun p np => ?_⟩
      dsimp only at nl np ⊢
      have m1 := Int.emod_nonneg (0 : Int) (show (1000000007 : Int) ≠ 0 by decide)
      have m2 := Int.emod_lt_of_pos (0 : Int) (show (0 : Int) < 1000000007 by decide)
      have m3 := Int.emod_nonneg (0 : Int) (show (97 : Int) ≠ 0 by decide)
      have m4 := Int.emod_lt_of_pos (0 : Int) (show (0 : Int) < 97 by decide)
      have m5 := Int.emod_nonneg (0 : Int) (show (1000 : Int) ≠ 0 by decide)
      have m6 := Int.emod_lt_of_pos (0 : Int) (show (0 : Int) < 1000 by decide)
      have m7 := Int.emod_nonneg (0 : Int) (show (7 : Int) ≠ 0 by decide)
      have m8 := Int.emod_lt_of_pos (0 : Int) (show (0 : Int) < 7 by decide)
      have m9 := Int.emod_nonneg (0 : Int) (show (11 : Int) ≠ 0 by decide)
      have m10 := Int.emod_lt_of_pos (0 : Int) (show (0 : Int) < 11 by decide)
      generalize (0 : Int) % 1000000007 = x1 at m1 m2 ⊢
      generalize (0 : Int) % 97 = x2 at m3 m4 ⊢
      generalize (0 : Int) % 1000 = x3 at m5 m6 ⊢
      generalize (0 : Int) % 7 = x4 at m7 m8 nt nl np ⊢
      generalize (0 : Int) % 11 = x5 at m9 m10 nl np ⊢
      have hT : (upd (upd (upd H1 t (.tup [.int x4, .str "a"])) l (.lst [.int x5])) p (.lst [.int x1, .int (0 - x2), .str (Str.ofString (toString x3)), .non, .ref t, .ref l])) t = some (.tup [.int x4, .str "a"]) := by
        rw [upd_ne (ne_of_none (show (upd (upd H1 t (.tup [.int x4, .str "a"])) l (.lst [.int x5])) t = _ from by rw [upd_ne (ne_of_none upd_same nl)]; exact upd_same) np), upd_ne (ne_of_none upd_same nl), upd_same]
      have hL : (upd (upd (upd H1 t (.tup [.int x4, .str "a"])) l (.lst [.int x5])) p (.lst [.int x1, .int (0 - x2), .str (Str.ofString (toString x3)), .non, .ref t, .ref l])) l = some (.lst [.int x5]) := by
        rw [upd_ne (ne_of_none upd_same np), upd_same]
      have hP : (upd (upd (upd H1 t (.tup [.int x4, .str "a"])) l (.lst [.int x5])) p (.lst [.int x1, .int (0 - x2), .str (Str.ofString (toString x3)), .non, .ref t, .ref l])) p = some (.lst [.int x1, .int (0 - x2), .str (Str.ofString (toString x3)), .non, .ref t, .ref l]) := upd_same
      have s3 : Same H (upd (upd (upd H1 t (.tup [.int x4, .str "a"])) l (.lst [.int x5])) p (.lst [.int x1, .int (0 - x2), .str (Str.ofString (toString x3)), .non, .ref t, .ref l])) := fun b o e => by
        have e1 := s1 b o e
        have e2 : upd H1 t (.tup [.int x4, .str "a"]) b = some o := by rw [upd_ne (ne_of_none e1 nt)]; exact e1
        have e3 : upd (upd H1 t (.tup [.int x4, .str "a"])) l (.lst [.int x5]) b = some o := by rw [upd_ne (ne_of_none e2 nl)]; exact e2
        rw [upd_ne (ne_of_none e3 np)]
        exact e3
      generalize (upd (upd (upd H1 t (.tup [.int x4, .str "a"])) l (.lst [.int x5])) p (.lst [.int x1, .int (0 - x2), .str (Str.ofString (toString x3)), .non, .ref t, .ref l])) = H3 at hT hL hP s3 ⊢
      have items : ∀ (j : Nat) (y : V), ([.int x1, .int (0 - x2), .str (Str.ofString (toString x3)), .non, .ref t, .ref l] : List V)[j]? = some y → ∃ d, Dp K H3 y d ∧ ShowOk d := fun j y hj => by
        match j, hj with
        | 0, hj => obtain rfl := Option.some.inj hj; exact ⟨_, .int _, show_int (by omega)⟩
        | 1, hj => obtain rfl := Option.some.inj hj; exact ⟨_, .int _, show_int (by omega)⟩
        | 2, hj => obtain rfl := Option.some.inj hj; exact ⟨_, .str _, show_str (by omega) (by omega)⟩
        | 3, hj => obtain rfl := Option.some.inj hj; exact ⟨_, .non, show_none⟩
        | 4, hj => obtain rfl := Option.some.inj hj; exact ⟨_, .tup (SqT.of hT) (.cons (.int _) (.cons (.str _) .nil)), (show_tup (by omega) (by omega)).1⟩
        | 5, hj => obtain rfl := Option.some.inj hj; exact ⟨_, .lst (SqL.of hL) (.cons (.int _) .nil), (show_tup (by omega) (by omega)).2⟩
        | n + 6, hj => simp at hj
      -- for at in range(13)
      refine ⟨13, rfl, by decide, by decide, for_range (lo := 0) (n := 13) (fun _ σ H' => ∃ v1 v2 v4 v5 : Option V, σ = [some (.ref a), v1, v2, some (.ref p), v4, v5] ∧ Same H3 H') ⟨_, _, _, _, rfl, Same.refl _⟩ ?_ ?_⟩
      · rintro i2 σ H4 hi2 ⟨w1, w2, w4, w5, rfl, s4⟩
        -- for thing in things
        refine ⟨_, rfl, p, rfl, ⟨_, SqL.of (s4 _ _ hP)⟩, for_list (K := K) (a := p) (xs := [.int x1, .int (0 - x2), .str (Str.ofString (toString x3)), .non, .ref t, .ref l]) (fun _ σ H' => ∃ v1 v2 v5 : Option V, σ = [some (.ref a), v1, v2, some (.ref p), some (.int (0 + (i2 : Nat))), v5] ∧ Same H3 H')
          ⟨_, _, _, rfl, s4⟩ (fun _ _ H' _ ⟨_, _, _, _, s5⟩ => SqL.of (s5 _ _ hP)) ?_ ?_⟩
        · rintro j y σ H5 hj ⟨u1, u2, u5, rfl, s5⟩
          obtain ⟨d, hd, ok⟩ := items j y hj
          refine ⟨_, rfl, _, rfl, i2, y, d, by omega, (by rw [Int.zero_add]; rfl), dp_same s5 d y hd, ok, fun H6 s6 => ⟨true, rfl, ?_⟩⟩
          refine iteF ?_
          exact ⟨_, _, _, rfl, Same.trans s5 s6⟩
        · rintro σ H5 ⟨u1, u2, u5, rfl, s5⟩
          exact ⟨_, _, _, _, rfl, s5⟩
      · rintro σ H4 ⟨w1, w2, w4, w5, rfl, s4⟩
        exact ⟨_, _, _, _, _, rfl, Same.trans s3 s4⟩
  · rintro σ H1 ⟨v1, v2, v3, v4, v5, rfl, s1⟩
    exact k H1
end
end K00
namespace K00
open PySem PySem.Spec PyProof.Rows L2
/-- the 12 error classes with an __init__: what the top has written of one of them -/
structure EFacts (K : PySem.W.Frag) (i : Nat) (nm q : Str) (M C f1 : Addr) : Prop where
  aC : PySem.W.nsIn K mainGlobals nm = some (some (.ref C))
  xL : ∃ nm q N bs sn sub ab col dd k0 k1 k2 k3 k5, K.lookup C = some (excClassObj nm q C N bs [.ref M, .type "ValueError", .type "Exception", .type "BaseException", .type "object"] true sn sub ab col dd k0 k1 k2 k3 k5 "ValueError.__new__")
  sa : PySem.W.findIn K (.ref C) "__setattr__" = some (some (.builtin "object.__setattr__"))
  ga : PySem.W.findIn K (.ref C) "__getattribute__" = some (some (.builtin "BaseException.__getattribute__"))
  gg : PySem.W.findIn K (.ref C) "__getattr__" = some none
  na : PySem.W.findIn K (.ref C) "at" = some none
  a1 : PySem.W.findIn K (.ref C) "__init__" = some (some (.ref f1))
  t1 : PySem.W.typeIn K (.ref f1) = some (.type "function")
  l1 : ∃ oc od kV dc pm an cd ct sl, K.lookup f1 = some ⟨oc, od, .func (PySem.W.fnOf "__init__" q (defArgs (sIni i)) (defBody (sIni i)) (defScope (sIni i)) .none kV dc pm an cd ct), sl⟩ ∧ PySem.W.codeIn K cd q = true
  k1 : PySem.W.keepIn K (.ref f1) = true
  kC : PySem.W.keepIn K (.ref C) = true
  eC : PySem.W.subIn K (.ref C) (.type "BaseException") = some true
  tC : PySem.W.typeIn K (.ref C) = some (.type "type")
  hC : PySem.W.hasDictIn K C = true
  cC : PySem.W.findIn K (.ref C) "__class__" = some (some (.builtin "object.__class__"))
  mC : PySem.W.mroIn K C (.type "object") = some true
theorem mkE {K : PySem.W.Frag} {i : Nat} {nm q : Str} {M C f1 : Addr} {m1 m2 : Str} {N : Addr} {bs : List Value} {sn : List Str} {sub : List Value} {ab : Bool} {col : Option Bool} {dd : Option Addr} {k0 k1 k2 k3 k5 : Option Value}
    {oc kV dc pm cd ct : Value} {od an : Option Addr} {sl : Array (Option Value)} (aC : PySem.W.nsIn K mainGlobals nm = some (some (.ref C)))
    (xL : K.lookup C = some (excClassObj m1 m2 C N bs [.ref M, .type "ValueError", .type "Exception", .type "BaseException", .type "object"] true sn sub ab col dd k0 k1 k2 k3 k5 "ValueError.__new__"))
    (sa : PySem.W.findIn K (.ref C) "__setattr__" = some (some (.builtin "object.__setattr__"))) (ga : PySem.W.findIn K (.ref C) "__getattribute__" = some (some (.builtin "BaseException.__getattribute__")))
    (gg : PySem.W.findIn K (.ref C) "__getattr__" = some none) (na : PySem.W.findIn K (.ref C) "at" = some none) (a1 : PySem.W.findIn K (.ref C) "__init__" = some (some (.ref f1))) (t1 : PySem.W.typeIn K (.ref f1) = some (.type "function"))
    (l1 : K.lookup f1 = some ⟨oc, od, .func (PySem.W.fnOf "__init__" q (defArgs (sIni i)) (defBody (sIni i)) (defScope (sIni i)) .none kV dc pm an cd ct), sl⟩) (c1 : PySem.W.codeIn K cd q = true)
    (kf : PySem.W.keepIn K (.ref f1) = true) (kC : PySem.W.keepIn K (.ref C) = true) (eC : PySem.W.subIn K (.ref C) (.type "BaseException") = some true) (tC : PySem.W.typeIn K (.ref C) = some (.type "type")) (hC : PySem.W.hasDictIn K C = true)
    (cC : PySem.W.findIn K (.ref C) "__class__" = some (some (.builtin "object.__class__"))) (mC : PySem.W.mroIn K C (.type "object") = some true) : EFacts K i nm q M C f1 :=
  ⟨aC, ⟨_, _, _, _, _, _, _, _, _, _, _, _, _, _, xL⟩, sa, ga, gg, na, a1, t1, ⟨_, _, _, _, _, _, _, _, _, l1, c1⟩, kf, kC, eC, tC, hC, cC, mC⟩
/-- what isinstance and except ask of the classes -/
def kitsB (K : PySem.W.Frag) (M : Addr) (C : Nat → Addr) : Bool :=
  (List.range 13).all fun j => decide (PySem.W.kitOne K (.ref (C j)) (.type "ValueError") = some true) && decide (PySem.W.exmOne K (.ref (C j)) (.ref M) = some true) &&
    (List.range 13).all fun i => decide (PySem.W.kitOne K (.ref (C j)) (.ref (C i)) = some (decide (i = j)))
section
variable {K : PySem.W.Frag} {h : Heap} {mg : Str → Option Value} {i : Nat} {nm q : Str} {M C f1 : Addr}
theorem EFacts.err (F : EFacts K i nm q M C f1) (X : K.In h) (G : h.Ns mainGlobals mg) : Err K mg nm C f1 := by
  obtain ⟨m1, m2, N, bs, sn, sub, ab, col, dd, k0, k1, k2, k3, k5, e⟩ := F.xL
  exact ⟨PySem.W.mg_of X G F.aC, ⟨⟨m1, m2, N, bs, _, sn, sub, ab, col, dd, k0, k1, k2, k3, k5, e, by rfl⟩, F.sa, F.eC, F.tC, F.kC⟩, F.a1, F.t1, F.na⟩
theorem EFacts.xc (F : EFacts K i nm q M C f1) (hn : PySem.W.specialIn K (.builtin "object.__class__") "__get__" = some (some (.builtin "getset_descriptor.__get__"))) (ht : PySem.W.takesIn K (.builtin "object.__class__") = some true) : ExcC K C :=
  ⟨F.ga, F.gg, F.eC, F.hC, F.cC, hn, ht, F.mC⟩
theorem EFacts.xf (F : EFacts K i nm q M C f1) : XfC K C ∧ PySem.W.findIn K (.ref C) "at" = some none := ⟨⟨F.ga, F.gg, F.eC, F.hC⟩, F.na⟩
theorem EFacts.fn (F : EFacts K i nm q M C f1) : ∃ fd, Fun K "__init__" q (sIni i) f1 fd := by
  obtain ⟨oc, od, kV, dc, pm, an, cd, ct, sl, l, c⟩ := F.l1
  exact ⟨_, fun_mk l c F.k1⟩
theorem kits_at {C : Nat → Addr} (h : kitsB K M C = true) {j i : Nat} (hj : j ≤ 12) (hi : i ≤ 12) : PySem.W.kitOne K (.ref (C j)) (.ref (C i)) = some (decide (i = j)) := by
  unfold kitsB at h
  have h1 := List.all_eq_true.mp h j (List.mem_range.mpr (by omega))
  have h2 := (Bool.and_eq_true_iff.mp h1).2
  exact of_decide_eq_true (List.all_eq_true.mp h2 i (List.mem_range.mpr (by omega)))
theorem kits_ve {C : Nat → Addr} (h : kitsB K M C = true) {j : Nat} (hj : j ≤ 12) : PySem.W.kitOne K (.ref (C j)) (.type "ValueError") = some true ∧ PySem.W.exmOne K (.ref (C j)) (.ref M) = some true := by
  unfold kitsB at h
  have h1 := (Bool.and_eq_true_iff.mp (List.all_eq_true.mp h j (List.mem_range.mpr (by omega)))).1
  exact ⟨of_decide_eq_true (Bool.and_eq_true_iff.mp h1).1, of_decide_eq_true (Bool.and_eq_true_iff.mp h1).2⟩
end
/-- thirteen addresses by their numbers -/
def at13 (c0 c1 c2 c3 c4 c5 c6 c7 c8 c9 c10 c11 c12 : Addr) : Nat → Addr
  | 0 => c0
  | 1 => c1
  | 2 => c2
  | 3 => c3
  | 4 => c4
  | 5 => c5
  | 6 => c6
  | 7 => c7
  | 8 => c8
  | 9 => c9
  | 10 => c10
  | 11 => c11
  | _ => c12
theorem all_mk {l : PySem.W.OpenLaw} {w : World} {K : PySem.W.Frag} {h : Heap} {mg : Str → Option Value} {fa M c0 c1 c2 c3 c4 c5 c6 c7 c8 c9 c10 c11 c12 f0 f1 f2 f3 f4 f5 f6 f7 f8 f9 f10 f11 fM fR fH fL : Addr} (X : K.In h) (G : h.Ns mainGlobals mg) (hfa : mg "law" = some (.ref fa))
    {odM anM : Option Addr} {slM : Array (Option Value)} {ocM kVM dcM pmM cdM ctM : Value}
    {odR anR : Option Addr} {slR : Array (Option Value)} {ocR kVR dcR pmR cdR ctR : Value}
    {odH anH : Option Addr} {slH : Array (Option Value)} {ocH kVH dcH pmH cdH ctH : Value}
    {odL anL : Option Addr} {slL : Array (Option Value)} {ocL kVL dcL pmL cdL ctL : Value}
    (e0 : EFacts K 2 "InvalidBowl" "InvalidBowl.__init__" M c0 f0)
    (e1 : EFacts K 3 "InvalidRecipe" "InvalidRecipe.__init__" M c1 f1)
    (e2 : EFacts K 4 "InvalidMixture" "InvalidMixture.__init__" M c2 f2)
    (e3 : EFacts K 5 "InvalidTable" "InvalidTable.__init__" M c3 f3)
    (e4 : EFacts K 6 "InvalidNaming" "InvalidNaming.__init__" M c4 f4)
    (e5 : EFacts K 7 "InvalidForm" "InvalidForm.__init__" M c5 f5)
    (e6 : EFacts K 8 "InvalidQuestion" "InvalidQuestion.__init__" M c6 f6)
    (e7 : EFacts K 9 "InvalidPrices" "InvalidPrices.__init__" M c7 f7)
    (e8 : EFacts K 10 "InvalidPair" "InvalidPair.__init__" M c8 f8)
    (e9 : EFacts K 11 "InvalidText" "InvalidText.__init__" M c9 f9)
    (e10 : EFacts K 12 "NotFaithful" "NotFaithful.__init__" M c10 f10)
    (e11 : EFacts K 13 "Refused" "Refused.__init__" M c11 f11)
    (aN : PySem.W.nsIn K mainGlobals "InvalidCommand" = some (some (.ref c12))) (xN : PySem.W.excIn K c12 [.type "ValueError", .type "Exception", .type "BaseException", .type "object"] "ValueError.__new__" = true) (kN : PySem.W.keepIn K (.ref c12) = true)
    (bN : PySem.W.subIn K (.ref c12) (.type "BaseException") = some true) (tN : PySem.W.typeIn K (.ref c12) = some (.type "type")) (gaN : PySem.W.findIn K (.ref c12) "__getattribute__" = some (some (.builtin "BaseException.__getattribute__")))
    (ggN : PySem.W.findIn K (.ref c12) "__getattr__" = some none) (hN : PySem.W.hasDictIn K c12 = true) (cN : PySem.W.findIn K (.ref c12) "__class__" = some (some (.builtin "object.__class__"))) (mN : PySem.W.mroIn K c12 (.type "object") = some true)
    (gM : PySem.W.nsIn K mainGlobals "MixError" = some (some (.ref M))) (hn : PySem.W.specialIn K (.builtin "object.__class__") "__get__" = some (some (.builtin "getset_descriptor.__get__"))) (ht : PySem.W.takesIn K (.builtin "object.__class__") = some true)
    (kits : kitsB K M (at13 c0 c1 c2 c3 c4 c5 c6 c7 c8 c9 c10 c11 c12) = true)
    (aM : PySem.W.nsIn K mainGlobals "_law_marks" = some (some (.ref fM))) (lM : K.lookup fM = some ⟨ocM, odM, .func (PySem.W.fnOf "_law_marks" "_law_marks" (defArgs sMarks) (defBody sMarks) (defScope sMarks) .none kVM dcM pmM anM cdM ctM), slM⟩) (dM : PySem.W.codeIn K cdM "_law_marks" = true) (kM : PySem.W.keepIn K (.ref fM) = true)
    (aR : PySem.W.nsIn K mainGlobals "_law_raise" = some (some (.ref fR))) (lR : K.lookup fR = some ⟨ocR, odR, .func (PySem.W.fnOf "_law_raise" "_law_raise" (defArgs sRaise) (defBody sRaise) (defScope sRaise) .none kVR dcR pmR anR cdR ctR), slR⟩) (dR : PySem.W.codeIn K cdR "_law_raise" = true) (kR : PySem.W.keepIn K (.ref fR) = true)
    (aH : PySem.W.nsIn K mainGlobals "_law_heard" = some (some (.ref fH))) (lH : K.lookup fH = some ⟨ocH, odH, .func (PySem.W.fnOf "_law_heard" "_law_heard" (defArgs sHeard) (defBody sHeard) (defScope sHeard) .none kVH dcH pmH anH cdH ctH), slH⟩) (dH : PySem.W.codeIn K cdH "_law_heard" = true) (kH : PySem.W.keepIn K (.ref fH) = true)
    (aL : PySem.W.nsIn K mainGlobals "law" = some (some (.ref fL))) (lL : K.lookup fL = some ⟨ocL, odL, .func (PySem.W.fnOf "law" "law" (defArgs sLaw) (defBody sLaw) (defScope sLaw) .none kVL dcL pmL anL cdL ctL), slL⟩) (dL : PySem.W.codeIn K cdL "law" = true) (kL : PySem.W.keepIn K (.ref fL) = true)
    (z_isinstance : PySem.W.nsIn K mainGlobals "isinstance" = some none)
    (z_range : PySem.W.nsIn K mainGlobals "range" = some none)
    (z_ValueError : PySem.W.nsIn K mainGlobals "ValueError" = some none)
    (z_repr : PySem.W.nsIn K mainGlobals "repr" = some none)
    (z_max : PySem.W.nsIn K mainGlobals "max" = some none)
    (z_min : PySem.W.nsIn K mainGlobals "min" = some none)
    (z_len : PySem.W.nsIn K mainGlobals "len" = some none)
    (z_int : PySem.W.nsIn K mainGlobals "int" = some none)
    (z_str : PySem.W.nsIn K mainGlobals "str" = some none) :
    LawAtG l w K CX0 6 63 "script" mg fa h := by
  have e := hfa.symm.trans (PySem.W.mg_of X G aL)
  cases e
  obtain ⟨d0, F0⟩ := e0.fn
  obtain ⟨d1, F1⟩ := e1.fn
  obtain ⟨d2, F2⟩ := e2.fn
  obtain ⟨d3, F3⟩ := e3.fn
  obtain ⟨d4, F4⟩ := e4.fn
  obtain ⟨d5, F5⟩ := e5.fn
  obtain ⟨d6, F6⟩ := e6.fn
  obtain ⟨d7, F7⟩ := e7.fn
  obtain ⟨d8, F8⟩ := e8.fn
  obtain ⟨d9, F9⟩ := e9.fn
  obtain ⟨d10, F10⟩ := e10.fn
  obtain ⟨d11, F11⟩ := e11.fn
  have FM := fun_mk (st := sMarks) lM dM kM
  have FR := fun_mk (st := sRaise) lR dR kR
  have FH := fun_mk (st := sHeard) lH dH kH
  have FL := fun_mk (st := sLaw) lL dL kL
  have b0 := F0.binds (ps := ["self", "at"]) fun _ _ _ _ _ _ us hl => match us, hl with | [_, _], _ => rfl
  have b1 := F1.binds (ps := ["self", "at"]) fun _ _ _ _ _ _ us hl => match us, hl with | [_, _], _ => rfl
  have b2 := F2.binds (ps := ["self", "at"]) fun _ _ _ _ _ _ us hl => match us, hl with | [_, _], _ => rfl
  have b3 := F3.binds (ps := ["self", "at"]) fun _ _ _ _ _ _ us hl => match us, hl with | [_, _], _ => rfl
  have b4 := F4.binds (ps := ["self", "at"]) fun _ _ _ _ _ _ us hl => match us, hl with | [_, _], _ => rfl
  have b5 := F5.binds (ps := ["self", "at"]) fun _ _ _ _ _ _ us hl => match us, hl with | [_, _], _ => rfl
  have b6 := F6.binds (ps := ["self", "at"]) fun _ _ _ _ _ _ us hl => match us, hl with | [_, _], _ => rfl
  have b7 := F7.binds (ps := ["self", "at"]) fun _ _ _ _ _ _ us hl => match us, hl with | [_, _], _ => rfl
  have b8 := F8.binds (ps := ["self", "at"]) fun _ _ _ _ _ _ us hl => match us, hl with | [_, _], _ => rfl
  have b9 := F9.binds (ps := ["self", "at"]) fun _ _ _ _ _ _ us hl => match us, hl with | [_, _], _ => rfl
  have b10 := F10.binds (ps := ["self", "at"]) fun _ _ _ _ _ _ us hl => match us, hl with | [_, _], _ => rfl
  have b11 := F11.binds (ps := ["self", "at"]) fun _ _ _ _ _ _ us hl => match us, hl with | [_, _], _ => rfl
  have bM := FM.binds (ps := ["e"]) fun _ _ _ _ _ _ us hl => match us, hl with | [_], _ => rfl
  have bR := FR.binds (ps := ["at", "thing"]) fun _ _ _ _ _ _ us hl => match us, hl with | [_, _], _ => rfl
  have bH := FH.binds (ps := ["at", "thing"]) fun _ _ _ _ _ _ us hl => match us, hl with | [_, _], _ => rfl
  have XC : ∀ j, j ≤ 12 → ExcC K (at13 c0 c1 c2 c3 c4 c5 c6 c7 c8 c9 c10 c11 c12 j) := fun j hj => by
    match j, hj with
    | 0, _ => exact e0.xc hn ht
    | 1, _ => exact e1.xc hn ht
    | 2, _ => exact e2.xc hn ht
    | 3, _ => exact e3.xc hn ht
    | 4, _ => exact e4.xc hn ht
    | 5, _ => exact e5.xc hn ht
    | 6, _ => exact e6.xc hn ht
    | 7, _ => exact e7.xc hn ht
    | 8, _ => exact e8.xc hn ht
    | 9, _ => exact e9.xc hn ht
    | 10, _ => exact e10.xc hn ht
    | 11, _ => exact e11.xc hn ht
    | 12, _ => exact ⟨gaN, ggN, bN, hN, cN, hn, ht, mN⟩
    | n + 13, hj => omega
  have T : Kits K mg (at13 c0 c1 c2 c3 c4 c5 c6 c7 c8 c9 c10 c11 c12) := { g0 := PySem.W.mg_of X G e0.aC, g1 := PySem.W.mg_of X G e1.aC, g2 := PySem.W.mg_of X G e2.aC, g3 := PySem.W.mg_of X G e3.aC, g4 := PySem.W.mg_of X G e4.aC, g5 := PySem.W.mg_of X G e5.aC, g6 := PySem.W.mg_of X G e6.aC, g7 := PySem.W.mg_of X G e7.aC, g8 := PySem.W.mg_of X G e8.aC, g9 := PySem.W.mg_of X G e9.aC, g10 := PySem.W.mg_of X G e10.aC, g11 := PySem.W.mg_of X G e11.aC, g12 := PySem.W.mg_of X G aN, kit := (fun j i hj hi => kits_at kits hj hi), kVE := (fun j hj => (kits_ve kits hj).1), isi := PySem.W.mg_none_of X G z_isinstance, xc := XC }
  refine ⟨PySem.W.fnOf "law" "law" (defArgs sLaw) (defBody sLaw) (defScope sLaw) .none kVL dcL pmL anL cdL ctL, [], spLaw K, fun p hp => absurd hp (by simp), fun p hp => absurd hp (by simp), fun p hp => absurd hp (by simp), fun s v => .of_eq rfl, fun H scr ns hl _ _ hS => ⟨scr, ns, rfl, hS, hl, fun _ => rfl⟩, fun base _ _ _ => ?_⟩
  have TR : Errs K mg l.prog w base (at13 c0 c1 c2 c3 c4 c5 c6 c7 c8 c9 c10 c11 c12) (at13 f0 f1 f2 f3 f4 f5 f6 f7 f8 f9 f10 f11 c12) (fun i => match i with | 0 => d0 | 1 => d1 | 2 => d2 | 3 => d3 | 4 => d4 | 5 => d5 | 6 => d6 | 7 => d7 | 8 => d8 | 9 => d9 | 10 => d10 | _ => d11) := {
    e0 := e0.err X G, i0 := ⟨ok_ini0 F0 (e0.err X G).ox e0.na, b0⟩,
    e1 := e1.err X G, i1 := ⟨ok_ini1 F1 (e1.err X G).ox e1.na, b1⟩,
    e2 := e2.err X G, i2 := ⟨ok_ini2 F2 (e2.err X G).ox e2.na, b2⟩,
    e3 := e3.err X G, i3 := ⟨ok_ini3 F3 (e3.err X G).ox e3.na, b3⟩,
    e4 := e4.err X G, i4 := ⟨ok_ini4 F4 (e4.err X G).ox e4.na, b4⟩,
    e5 := e5.err X G, i5 := ⟨ok_ini5 F5 (e5.err X G).ox e5.na, b5⟩,
    e6 := e6.err X G, i6 := ⟨ok_ini6 F6 (e6.err X G).ox e6.na, b6⟩,
    e7 := e7.err X G, i7 := ⟨ok_ini7 F7 (e7.err X G).ox e7.na, b7⟩,
    e8 := e8.err X G, i8 := ⟨ok_ini8 F8 (e8.err X G).ox e8.na, b8⟩,
    e9 := e9.err X G, i9 := ⟨ok_ini9 F9 (e9.err X G).ox e9.na, b9⟩,
    e10 := e10.err X G, i10 := ⟨ok_ini10 F10 (e10.err X G).ox e10.na, b10⟩,
    e11 := e11.err X G, i11 := ⟨ok_ini11 F11 (e11.err X G).ox e11.na, b11⟩,
    gN := PySem.W.mg_of X G aN, xN := xN, kN := kN, bN := bN, tN := tN }
  have GR := ok_raise (w := w) (base := base) FR TR
  have GM := ok_marks (P := l.prog) (w := w) (base := base) FM T
  have GH := ok_heard FH T (fun j hj => by
      match j, hj with
      | 0, _ => exact e0.xf
      | 1, _ => exact e1.xf
      | 2, _ => exact e2.xf
      | 3, _ => exact e3.xf
      | 4, _ => exact e4.xf
      | 5, _ => exact e5.xf
      | 6, _ => exact e6.xf
      | 7, _ => exact e7.xf
      | 8, _ => exact e8.xf
      | 9, _ => exact e9.xf
      | 10, _ => exact e10.xf
      | 11, _ => exact e11.xf
      | n + 12, hj => omega) GR bR kR (PySem.W.mg_of X G aR) GM bM kM (PySem.W.mg_of X G aM) (PySem.W.mg_of X G gM) (fun j hj => (kits_ve kits hj).2)
    (PySem.W.mg_none_of X G z_range) (PySem.W.mg_none_of X G z_ValueError) (PySem.W.mg_none_of X G z_repr)
  exact ok_law FL GH bH kH (PySem.W.mg_of X G aH) (PySem.W.mg_none_of X G z_range) (PySem.W.mg_none_of X G z_max) (PySem.W.mg_none_of X G z_min) (PySem.W.mg_none_of X G z_len) (PySem.W.mg_none_of X G z_int) (PySem.W.mg_none_of X G z_str)
end K00
open PySem PySem.W PyProof.Rows
open_top hd for PySem.Challenge.rw_mixlabels_k00_errors_and_what_they_keep
set_option maxRecDepth 100000 in
set_option maxHeartbeats 0 in
theorem PySem.Challenge.cw_mixlabels_k00_errors_and_what_they_keep_holds : PySem.Challenge.rw_mixlabels_k00_errors_and_what_they_keep.Holds :=
  hd (by
  k_fill
  refine L2.walk_ofG (l := PySem.Challenge.rw_mixlabels_k00_errors_and_what_they_keep) (n := 63) (lev := 6) (nm := "script") (XX := fun _ => L2.CX0) rfl (by decide) rfl ⟨rfl, by decide, by decide⟩ (fun w h Y => PySem.W.kIn_of Y) ?F (fun _ _ _ _ _ z => z)
  case F =>
    intro w mg fa h Y KX G hmg
    refine' K00.all_mk KX G hmg ?e0 ?e1 ?e2 ?e3 ?e4 ?e5 ?e6 ?e7 ?e8 ?e9 ?e10 ?e11 ?aN ?xN ?kN ?bN ?tN ?gaN ?ggN ?hN ?cN ?mN ?gM ?hn ?ht ?kits ?aM ?lM ?dM ?kM ?aR ?lR ?dR ?kR ?aH ?lH ?dH ?kH ?aL ?lL ?dL ?kL ?z_isinstance ?z_range ?z_ValueError ?z_repr ?z_max ?z_min ?z_len ?z_int ?z_str
    (case gM => k_is)
    (case e0 => (refine' K00.mkE ?aC ?xL ?sa ?ga ?gg ?na ?a1 ?t1 ?l1 ?c1 ?k1 ?kC ?eC ?tC ?hC ?cC ?mC; (case aC => k_is); (case xL => k_is); (case sa => k_is); (case ga => k_is); (case gg => k_is); (case na => k_is); (case a1 => k_is); (case t1 => k_is); (case l1 => k_is); (case c1 => k_is); (case k1 => k_is); (case kC => k_is); (case eC => k_is); (case tC => k_is); (case hC => k_is); (case cC => k_is); (case mC => k_is)))
    (case e1 => (refine' K00.mkE ?aC ?xL ?sa ?ga ?gg ?na ?a1 ?t1 ?l1 ?c1 ?k1 ?kC ?eC ?tC ?hC ?cC ?mC; (case aC => k_is); (case xL => k_is); (case sa => k_is); (case ga => k_is); (case gg => k_is); (case na => k_is); (case a1 => k_is); (case t1 => k_is); (case l1 => k_is); (case c1 => k_is); (case k1 => k_is); (case kC => k_is); (case eC => k_is); (case tC => k_is); (case hC => k_is); (case cC => k_is); (case mC => k_is)))
    (case e2 => (refine' K00.mkE ?aC ?xL ?sa ?ga ?gg ?na ?a1 ?t1 ?l1 ?c1 ?k1 ?kC ?eC ?tC ?hC ?cC ?mC; (case aC => k_is); (case xL => k_is); (case sa => k_is); (case ga => k_is); (case gg => k_is); (case na => k_is); (case a1 => k_is); (case t1 => k_is); (case l1 => k_is); (case c1 => k_is); (case k1 => k_is); (case kC => k_is); (case eC => k_is); (case tC => k_is); (case hC => k_is); (case cC => k_is); (case mC => k_is)))
    (case e3 => (refine' K00.mkE ?aC ?xL ?sa ?ga ?gg ?na ?a1 ?t1 ?l1 ?c1 ?k1 ?kC ?eC ?tC ?hC ?cC ?mC; (case aC => k_is); (case xL => k_is); (case sa => k_is); (case ga => k_is); (case gg => k_is); (case na => k_is); (case a1 => k_is); (case t1 => k_is); (case l1 => k_is); (case c1 => k_is); (case k1 => k_is); (case kC => k_is); (case eC => k_is); (case tC => k_is); (case hC => k_is); (case cC => k_is); (case mC => k_is)))
    (case e4 => (refine' K00.mkE ?aC ?xL ?sa ?ga ?gg ?na ?a1 ?t1 ?l1 ?c1 ?k1 ?kC ?eC ?tC ?hC ?cC ?mC; (case aC => k_is); (case xL => k_is); (case sa => k_is); (case ga => k_is); (case gg => k_is); (case na => k_is); (case a1 => k_is); (case t1 => k_is); (case l1 => k_is); (case c1 => k_is); (case k1 => k_is); (case kC => k_is); (case eC => k_is); (case tC => k_is); (case hC => k_is); (case cC => k_is); (case mC => k_is)))
    (case e5 => (refine' K00.mkE ?aC ?xL ?sa ?ga ?gg ?na ?a1 ?t1 ?l1 ?c1 ?k1 ?kC ?eC ?tC ?hC ?cC ?mC; (case aC => k_is); (case xL => k_is); (case sa => k_is); (case ga => k_is); (case gg => k_is); (case na => k_is); (case a1 => k_is); (case t1 => k_is); (case l1 => k_is); (case c1 => k_is); (case k1 => k_is); (case kC => k_is); (case eC => k_is); (case tC => k_is); (case hC => k_is); (case cC => k_is); (case mC => k_is)))
    (case e6 => (refine' K00.mkE ?aC ?xL ?sa ?ga ?gg ?na ?a1 ?t1 ?l1 ?c1 ?k1 ?kC ?eC ?tC ?hC ?cC ?mC; (case aC => k_is); (case xL => k_is); (case sa => k_is); (case ga => k_is); (case gg => k_is); (case na => k_is); (case a1 => k_is); (case t1 => k_is); (case l1 => k_is); (case c1 => k_is); (case k1 => k_is); (case kC => k_is); (case eC => k_is); (case tC => k_is); (case hC => k_is); (case cC => k_is); (case mC => k_is)))
    (case e7 => (refine' K00.mkE ?aC ?xL ?sa ?ga ?gg ?na ?a1 ?t1 ?l1 ?c1 ?k1 ?kC ?eC ?tC ?hC ?cC ?mC; (case aC => k_is); (case xL => k_is); (case sa => k_is); (case ga => k_is); (case gg => k_is); (case na => k_is); (case a1 => k_is); (case t1 => k_is); (case l1 => k_is); (case c1 => k_is); (case k1 => k_is); (case kC => k_is); (case eC => k_is); (case tC => k_is); (case hC => k_is); (case cC => k_is); (case mC => k_is)))
    (case e8 => (refine' K00.mkE ?aC ?xL ?sa ?ga ?gg ?na ?a1 ?t1 ?l1 ?c1 ?k1 ?kC ?eC ?tC ?hC ?cC ?mC; (case aC => k_is); (case xL => k_is); (case sa => k_is); (case ga => k_is); (case gg => k_is); (case na => k_is); (case a1 => k_is); (case t1 => k_is); (case l1 => k_is); (case c1 => k_is); (case k1 => k_is); (case kC => k_is); (case eC => k_is); (case tC => k_is); (case hC => k_is); (case cC => k_is); (case mC => k_is)))
    (case e9 => (refine' K00.mkE ?aC ?xL ?sa ?ga ?gg ?na ?a1 ?t1 ?l1 ?c1 ?k1 ?kC ?eC ?tC ?hC ?cC ?mC; (case aC => k_is); (case xL => k_is); (case sa => k_is); (case ga => k_is); (case gg => k_is); (case na => k_is); (case a1 => k_is); (case t1 => k_is); (case l1 => k_is); (case c1 => k_is); (case k1 => k_is); (case kC => k_is); (case eC => k_is); (case tC => k_is); (case hC => k_is); (case cC => k_is); (case mC => k_is)))
    (case e10 => (refine' K00.mkE ?aC ?xL ?sa ?ga ?gg ?na ?a1 ?t1 ?l1 ?c1 ?k1 ?kC ?eC ?tC ?hC ?cC ?mC; (case aC => k_is); (case xL => k_is); (case sa => k_is); (case ga => k_is); (case gg => k_is); (case na => k_is); (case a1 => k_is); (case t1 => k_is); (case l1 => k_is); (case c1 => k_is); (case k1 => k_is); (case kC => k_is); (case eC => k_is); (case tC => k_is); (case hC => k_is); (case cC => k_is); (case mC => k_is)))
    (case e11 => (refine' K00.mkE ?aC ?xL ?sa ?ga ?gg ?na ?a1 ?t1 ?l1 ?c1 ?k1 ?kC ?eC ?tC ?hC ?cC ?mC; (case aC => k_is); (case xL => k_is); (case sa => k_is); (case ga => k_is); (case gg => k_is); (case na => k_is); (case a1 => k_is); (case t1 => k_is); (case l1 => k_is); (case c1 => k_is); (case k1 => k_is); (case kC => k_is); (case eC => k_is); (case tC => k_is); (case hC => k_is); (case cC => k_is); (case mC => k_is)))
    (case aN => k_is); (case xN => k_exc)
    (case kN => k_is)
    (case bN => k_is)
    (case tN => k_is)
    (case gaN => k_is)
    (case ggN => k_is)
    (case hN => k_is)
    (case cN => k_is)
    (case mN => k_is)
    (case hn => k_is)
    (case ht => k_is)
    (case aM => k_is)
    (case lM => k_is)
    (case dM => k_is)
    (case kM => k_is)
    (case aR => k_is)
    (case lR => k_is)
    (case dR => k_is)
    (case kR => k_is)
    (case aH => k_is)
    (case lH => k_is)
    (case dH => k_is)
    (case kH => k_is)
    (case aL => k_is)
    (case lL => k_is)
    (case dL => k_is)
    (case kL => k_is)
    (case z_isinstance => k_is)
    (case z_range => k_is)
    (case z_ValueError => k_is)
    (case z_repr => k_is)
    (case z_max => k_is)
    (case z_min => k_is)
    (case z_len => k_is)
    (case z_int => k_is)
    (case z_str => k_is)
    (case kits => kernel_rfl))
