import PyProof.Rows.All
import Wide.All
import OpenK.AllK
import Wide.FinOn
import HandS.ForExc
import HandS.ForMost
import HandS.IsInst
import HandS.Wide
import HandS.RaiseMore
import HandS.Style
import HandS.Lambda
import HandS.EndTab
import HandS.TupMul
import HandS.Iter
import HandS.Zip
import KE.GoesEnum
import KE.GoesEnumKw
import PyProof.EnumMake
import PyProof.SumWalkG
import HandS.WideBits
import HandS.Deep
import HandS.TupLe
import HandS.TupAny
import HandS.SortInts
import HandS.Conv
import HandS.Gcd
import HandS.Rev
import HandS.RevRange
import HandS.ExcInit
import HandS.Text
import KE.SortData
import KE.DataMinMax
import HandS.SetFor
import HandS.Strs
import PyProof.NeKinds
import KE.BitLaws
import HandS.EndOwn
import HandS.ExcIs
import HandS.ExcField
import PySem.Challenge.RW_mixlabels_k15_cases_and_their_blends
set_option Elab.async false
set_option linter.all false
set_option maxRecDepth 100000
set_option maxHeartbeats 16000000
namespace L2
open PySem PySem.Spec PyProof.Rows
/-- repr(v): v is data of the kind d, small enough to be shown -/
structure ShowOk (d : PyData) : Prop where
  sh : d.showable = true
  nd : d.hasDict = false
  dp : d.depth ≤ 40
  sz : d.shown.length ≤ sizeLine
def rShow (K : PySem.W.Frag) : List V → Hp → VK → Prop := fun xs H Q => ∃ (v : V) (d : PyData), xs = [v] ∧ Dp K H v d ∧ ShowOk d ∧ Q (.str d.shown) H
theorem call_show {X : Cx} (hg : X.A.guards = some []) (hu : X.A.units + 64 < cLine) : CallR X (.builtin "repr") (rShow X.K) := by
  intro pins s σ H xs us Q I r h
  obtain ⟨v, d, rfl, hd, ok, q⟩ := h
  cases r with
  | cons rv rr =>
    cases rr
    rename_i u
    have fin : ∀ (h' : Heap) (tk : Tok) (t' : Nat), (∀ b o, s.heap.get? b = some o → h'.get? b = some o) → EP X pins σ Q (.str d.shown tk) { s with heap := h', toks := t' } :=
      fun h' tk t' k => ⟨.str d.shown, H, I.kept (t' := t') k, ⟨_, rfl⟩, q⟩
    cases hd with
    | non =>
      cases rv
      exact PySem.P.repr_of_none (fin s.heap _ _ fun _ _ e => e)
    | bl b =>
      cases rv
      have e : (PyData.bool b).shown = (if b = true then Str.ofString "True" else Str.ofString "False") := by cases b <;> simp [PyData.shown]
      rw [e] at fin
      exact PySem.P.repr_of_bool (fin s.heap _ _ fun _ _ e => e)
    | int i =>
      obtain ⟨t, rfl⟩ := rv
      have e : (PyData.int i).shown = Str.ofString (toString i) := by simp [PyData.shown]
      have hl : i.natAbs.log2 < 1920 := by simpa [PyData.showable] using ok.sh
      rw [e] at fin
      exact PySem.P.repr_of_int hl (fin s.heap _ _ fun _ _ e => e)
    | str x =>
      obtain ⟨t, rfl⟩ := rv
      exact PySem.P.repr_of_str (fin s.heap _ _ fun _ _ e => e) ok.sz
    | lst hs ha =>
      obtain ⟨as, hr⟩ := Dp.reads I _ _ _ (.lst hs ha) rv
      cases rv
      exact repr_of_reads' hr ok.sh (fun z => by rw [ok.nd] at z; cases z) hg (by have := ok.dp; omega) (fun _ _ e => e) (fun h' u tk k => fin h' u tk k) ok.sz
    | tup hs ha =>
      obtain ⟨as, hr⟩ := Dp.reads I _ _ _ (.tup hs ha) rv
      cases rv
      exact repr_of_reads' hr ok.sh (fun z => by rw [ok.nd] at z; cases z) hg (by have := ok.dp; omega) (fun _ _ e => e) (fun h' u tk k => fin h' u tk k) ok.sz
end L2
namespace L2
open PySem PySem.Spec PyProof.Rows
theorem sqT_same {K : PySem.W.Frag} {H H' : Hp} {a : Addr} {xs : List V} (s : Same H H') (h : SqT K H a xs) : SqT K H' a xs := by
  rcases h with (h | ⟨o, h⟩) | h
  · exact .inl (.inl (s _ _ h))
  · exact .inl (.inr ⟨o, s _ _ h⟩)
  · exact .inr h
mutual
theorem dp_same {K : PySem.W.Frag} {H H' : Hp} (s : Same H H') : ∀ (d : PyData) (v : V), Dp K H v d → Dp K H' v d
  | .none, _, h => by cases h; exact .non
  | .bool b, _, h => by cases h; exact .bl b
  | .int i, _, h => by cases h; exact .int i
  | .str x, _, h => by cases h; exact .str x
  | .list ds, _, h => by
    cases h with
    | lst hs ha => exact .lst (s.seq hs) (dpAll_same s ds _ ha)
  | .tuple ds, _, h => by
    cases h with
    | tup hs ha => exact .tup (sqT_same s hs) (dpAll_same s ds _ ha)
  | .dict kvs, _, h => by cases h
theorem dpAll_same {K : PySem.W.Frag} {H H' : Hp} (s : Same H H') : ∀ (ds : List PyData) (vs : List V), DpAll K H vs ds → DpAll K H' vs ds
  | [], _, h => by cases h; exact .nil
  | d :: ds, _, h => by
    cases h with
    | cons h1 h2 => exact .cons (dp_same s d _ h1) (dpAll_same s ds _ h2)
end
/-- the built-in class of a datum -/
def kindOf : PyData → String
  | .none => "NoneType"
  | .bool _ => "bool"
  | .int _ => "int"
  | .str _ => "str"
  | .list _ => "list"
  | .tuple _ => "tuple"
  | .dict _ => "dict"
theorem dp_kind {K : PySem.W.Frag} {H : Hp} {v : V} {d : PyData} (h : Dp K H v d) : TyX K H v (.type (kindOf d)) := by
  cases h with
  | non => exact .base .non
  | bl b => exact .base (.bl b)
  | int i => exact .base (.int i)
  | str x => exact .base (.str x)
  | lst hs _ =>
    rcases hs with (hs | ⟨o, hs⟩) | ⟨o, _, _, e, c, _⟩
    · exact .base (.lst hs)
    · exact .base (.frz hs)
    · exact .kList e c
  | tup hs _ =>
    rcases hs with (hs | ⟨o, hs⟩) | ⟨o, _, _, e, c, _⟩
    · exact .base (.tup hs)
    · exact .fTuple hs
    · exact .kTuple e c
/-- isinstance(x, T) of a datum -/
def rIsD (K : PySem.W.Frag) (T : String) : List V → Hp → VK → Prop := fun xs H Q => ∃ (v : V) (d : PyData), xs = [v, .ty T] ∧ Dp K H v d ∧ Q (.bl (kindOf d == T || (T == "int" && kindOf d == "bool"))) H
theorem call_isD {X : Cx} {T : String} (hT : T = "int" ∨ T = "bool" ∨ T = "tuple" ∨ T = "str" ∨ T = "list") : CallR X (.builtin "isinstance") (rIsD X.K T) := by
  intro pins s σ H xs us Q I r h
  obtain ⟨v, d, rfl, hd, q⟩ := h
  refine call_isi pins s σ H _ us Q I r ⟨v, .ty T, _, _, _, rfl, .ty T, dp_kind hd, kit_ty ?_, q⟩
  rcases hT with rfl | rfl | rfl | rfl | rfl <;> cases d <;> simp only [kindOf] <;> decide +kernel
/-- // by any divisor but nought, of any moderate size -/
def CDivA (_ j : Int) : Prop := j ≠ 0 ∧ j.natAbs.log2 < 9000
theorem op_fdivA {X : Cx} : OpR X (binaryOp .FloorDiv) (rI CDivA fun i j => .int (i.fdiv j)) := opI fun _ _ _ _ _ _ _ hc q => floordiv_int hc.1 q (.inl (PyProof.noPylong_of_log2 hc.2))
theorem log_lt {n : Nat} {b : Nat} (h : n < 2 ^ b) (hb : 0 < b) : n.log2 < b := by
  by_cases z : n = 0
  · rw [z]; simpa using hb
  · exact (Nat.log2_lt z).mpr h
end L2
namespace L2
open PySem PySem.Spec PyProof.Rows
/-- the draws' object at p, its list of great numbers at q -/
structure Deal (H : Hp) (p q : Addr) (cs : List Int) (bl : Int) : Prop where
  hp : H p = some (.lst [.ref q, .int bl])
  hq : H q = some (.lst (cs.map V.int))
  nn : ∀ c ∈ cs, 0 ≤ c
  b0 : 0 ≤ bl
  b1 : bl < 2147483647
  ln : cs.length ≤ 100
/-- all but the draws' two objects stays -/
def Keep (p q : Addr) (H H' : Hp) : Prop := ∀ b o, b ≠ p → b ≠ q → H b = some o → H' b = some o
theorem Keep.refl {p q : Addr} (H : Hp) : Keep p q H H := fun _ _ _ _ h => h
theorem Keep.trans {p q : Addr} {H H1 H2 : Hp} (a : Keep p q H H1) (b : Keep p q H1 H2) : Keep p q H H2 := fun c o h1 h2 h => b c o h1 h2 (a c o h1 h2 h)
theorem Keep.of {p q : Addr} {H H' : Hp} (s : Same H H') : Keep p q H H' := fun b o _ _ h => s b o h
theorem Deal.same {H H' : Hp} {p q : Addr} {cs : List Int} {bl : Int} (D : Deal H p q cs bl) (s : Same H H') : Deal H' p q cs bl := ⟨s _ _ D.hp, s _ _ D.hq, D.nn, D.b0, D.b1, D.ln⟩
theorem Deal.ne {H : Hp} {p q : Addr} {cs : List Int} {bl : Int} (D : Deal H p q cs bl) : p ≠ q := fun e => by
  have h := D.hp
  rw [e, D.hq] at h
  match cs, D, h with
  | [], _, h => cases h
  | _ :: _, _, h =>
    have h2 := HO.lst.inj (Option.some.inj h)
    simp at h2
theorem same_new {H : Hp} {a : Addr} {o : HO} (h : H a = none) : Same H (upd H a o) := fun b u e => by rw [upd_ne (ne_of_none e h)]; exact e
/-- the great numbers changed -/
theorem Deal.setq {H : Hp} {p q : Addr} {cs cs' : List Int} {bl : Int} (D : Deal H p q cs bl) (nn : ∀ c ∈ cs', 0 ≤ c) (ln : cs'.length ≤ 100) : Deal (upd H q (.lst (cs'.map V.int))) p q cs' bl :=
  ⟨by rw [upd_ne D.ne]; exact D.hp, upd_same, nn, D.b0, D.b1, ln⟩
theorem keep_q {p q : Addr} {H : Hp} {o : HO} : Keep p q H (upd H q o) := fun b u _ h2 h => by rw [upd_ne h2]; exact h
theorem keep_p {p q : Addr} {H : Hp} {o : HO} : Keep p q H (upd H p o) := fun b u h1 _ h => by rw [upd_ne h1]; exact h
def spAny : Sp := fun vs H Q _ => ∃ (p q : Addr) (cs : List Int) (bl bound : Int), vs = [.ref p, .int bound] ∧ Deal H p q cs bl ∧ 1 ≤ bound ∧ bound < 1073741824 ∧
  ∀ (v : Int) (H' : Hp) (cs' : List Int) (bl' : Int), 0 ≤ v → v < bound → Deal H' p q cs' bl' → Keep p q H H' → Q (.int v) H'
theorem dpAll_ints {K : PySem.W.Frag} {H : Hp} : ∀ l : List Int, DpAll K H (l.map V.int) (l.map PyData.int)
  | [] => .nil
  | b :: l => .cons (.int b) (dpAll_ints l)
theorem ints_shaped (l : List Int) : SeqAt.shaped (.list (l.map PyData.int)) = true := by
  have h1 : ∀ l : List Int, PyData.canLayAll0 (l.map PyData.int) = true := fun l => by
    induction l with
    | nil => simp [PyData.canLayAll0]
    | cons b l ih => simp [PyData.canLayAll0, PyData.canLay0, ih]
  have h2 : ∀ l : List Int, PyData.depthAll (l.map PyData.int) ≤ 0 := fun l => by
    induction l with
    | nil => simp [PyData.depthAll]
    | cons b l ih => simp [PyData.depthAll, PyData.depth] at *; exact ih
  have h3 := h2 l
  simp only [SeqAt.shaped, PyData.canLay0, PyData.depth, h1, Bool.true_and, decide_eq_true_eq]
  exact decide_eq_true (by omega)
theorem ints_eqv (l : List Int) : (!(PyData.list (l.map PyData.int)).eqv (.list [])) = !l.isEmpty := by
  cases l with
  | nil => rfl
  | cons a l => simp [PyData.eqv, PyData.eqvAll]
/-- deal[0] != [] -/
theorem ne_nil_reads {K : PySem.W.Frag} {H : Hp} {a l : Addr} {cs : List Int} {Q : VK} (ha : H a = some (.lst (cs.map V.int))) (hl : H l = some (.lst [])) (k : Q (.bl (!cs.isEmpty)) H) : rNeD K (.ref a) (.ref l) H Q :=
  ⟨.list (cs.map PyData.int), .list ([].map PyData.int), .lst (SqL.of ha) (dpAll_ints cs), .lst (SqL.of hl) .nil, ints_shaped cs, ints_shaped [], by rw [show ([].map PyData.int) = [] from rfl, ints_eqv]; exact k⟩
end L2
namespace L2
open PySem PySem.Spec PyProof.Rows
/-- as FnOk, told only of surroundings in which nothing is being shown -/
structure FnG (Pg : Program) (wd : World) (Kf : PySem.W.Frag) (gl : Str → Option Value) (ground : Heap) (XX : CXT) (lev : Nat) (at' : Addr) (fdat : FuncData) (params : List Str) (prom : Sp) : Prop where
  len : ∀ vs H Q E, prom vs H Q E → vs.length = params.length
  run : ∀ (ar : Around) (fr : List Env) (st : Shared) (H : Hp) (given : Args) (us : List Value) (vs : List V) (Q : VK) (E : XK), ar.guards = some [] → Room lev ar → Env0 Pg wd Kf gl ground ar fr st H →
    BindsTo st fdat given (params.zip us) → Vals vs us → prom vs H Q E → codeAny (model Pg wd) ar (.call (.ref at') given) (CR XX fr Pg wd H st Q E) st
theorem FnOk.g {Pg : Program} {wd : World} {Kf : PySem.W.Frag} {gl : Str → Option Value} {ground : Heap} {XX : CXT} {lev : Nat} {at' : Addr} {fdat : FuncData} {params : List Str} {prom : Sp}
    (F : FnOk Pg wd Kf gl ground XX lev at' fdat params prom) : FnG Pg wd Kf gl ground XX lev at' fdat params prom :=
  ⟨F.len, fun ar fr st H given us vs Q E _ => F.run ar fr st H given us vs Q E⟩
theorem FnG.mono {Pg : Program} {wd : World} {Kf : PySem.W.Frag} {gl : Str → Option Value} {ground : Heap} {XX : CXT} {j lev : Nat} {at' : Addr} {fdat : FuncData} {params : List Str} {prom : Sp}
    (F : FnG Pg wd Kf gl ground XX j at' fdat params prom) (h : j ≤ lev) : FnG Pg wd Kf gl ground XX lev at' fdat params prom :=
  ⟨F.len, fun ar fr st H given us vs Q E hg hr => F.run ar fr st H given us vs Q E hg (hr.mono h)⟩
theorem guards_deeper {ar : Around} {env : Env} (h : ar.guards = some []) : (ar.deeper env).guards = some [] := h
/-- a def's promise by its body -/
theorem fnG_of {XX : CXT} {Pg : Program} {wd : World} {Kf : PySem.W.Frag} {gl : Str → Option Value} {ground : Heap} {lev : Nat} {at' : Addr} {nm qn : Str} {pars : Arguments} {bd : List Stmt} {sco : Scope} {v1 v2 v3 v4 cv v5 v6 : Value} {o1 o2 : Option Addr}
    {sl : Array (Option Value)} {N params : List Str} {prom : Sp} (look : Kf.lookup at' = some ⟨v6, o2, .func (PySem.W.fnOf nm qn pars bd sco v1 v2 v3 v4 o1 cv v5), sl⟩) (hcd : PySem.W.codeIn Kf cv qn = true) (S : FnScope N params sco)
    (len : ∀ vs H Q E, prom vs H Q E → vs.length = params.length)
    (body : ∀ (ar : Around) (fr : List Env) (st : Shared) (H : Hp) (vs : List V) (Q : VK) (E : XK), ar.guards = some [] → Room lev (ar.deeper (envOfC qn sco st.heap.objs.size at' cv)) → prom vs H Q E →
      ∃ t, PSs (cxOf XX Pg wd Kf gl ground N qn sco at' cv ar fr st H E) bd t ∧ t { nx := fun _ H' => Q .non H', rt := Q } (start N vs) H) :
    FnG Pg wd Kf gl ground XX (lev + 1) at' (PySem.W.fnOf nm qn pars bd sco v1 v2 v3 v4 o1 cv v5) params prom := by
  exact ⟨len, fun ar fr st H given us vs Q E hg hr e0 hb r hsp => LamX.run_ofS look hcd S hr e0 hb r (len _ _ _ _ hsp) fun hr' => body ar fr st H vs Q E hg hr' hsp⟩
theorem Fun.okG {nm qn : Str} {sm : Stmt} {at' : Addr} {fdat : FuncData} {N params : List Str} {lev : Nat} {prom : Sp} {Pg : Program} {wd : World} {Kf : PySem.W.Frag} {gl : Str → Option Value} {ground : Heap}
    (F : Fun Kf nm qn sm at' fdat) (S : FnScope N params (defScope sm)) (len : ∀ vs H Q E, prom vs H Q E → vs.length = params.length)
    (body : ∀ (cv : Value) (ar : Around) (fr : List Env) (st : Shared) (H : Hp) (vs : List V) (Q : VK) (E : XK), ar.guards = some [] → Room lev (ar.deeper (envOfC qn (defScope sm) st.heap.objs.size at' cv)) → prom vs H Q E →
      ∃ t, PSs (cxOf CX0 Pg wd Kf gl ground N qn (defScope sm) at' cv ar fr st H E).nox (defBody sm) t ∧ t { nx := fun _ H' => Q .non H', rt := Q } (start N vs) H) :
    FnG Pg wd Kf gl ground CX0 (lev + 1) at' fdat params prom := by
  obtain ⟨_, _, _, _, _, _, cv, _, _, rfl, look, hcd⟩ := F.ex
  refine fnG_of look hcd S len fun ar fr st H vs Q E hg hr hsp => ?_
  obtain ⟨t, h, q⟩ := body cv ar fr st H vs Q E hg hr hsp
  exact ⟨t, h.nox, q⟩
section
variable {X : Cx} {XX : CXT} {lev : Nat} {at' : Addr} {fdat : FuncData} {params : List Str} {prom : Sp} {dvs : List V} {ds : List Value} {E : XK} {nm : Str} {p pos : Pos} {e : Expr} {es : List Expr} {t : TA}
theorem run_fnG {pins : List (Addr × Obj)} {σ : St} {H : Hp} {s : Shared} {Q : VK} {us : List Value} {vs : List V} (F : FnG X.prog X.w X.K X.mg X.base XX lev at' fdat params prom) (hg : X.A.guards = some []) (hr : Room lev X.A) (hb : Binds X.K fdat params ds)
    (hd : Vals dvs ds) (hx : Passes XX X E) (I : Inv X pins σ H s) (r : Vals vs us) (h : prom (vs ++ dvs) H Q E) : wpAny (model X.prog X.w) X.A (call (.ref at') us) (EP X pins σ Q) X.xe s := by
  have both : Vals (vs ++ dvs) (us ++ ds) := r.append hd
  have many : (us ++ ds).length = params.length := both.length.symm.trans (F.len _ _ _ _ h)
  refine wpAny_call (codeAny_mono (F.run X.A X.stack s H ⟨us, []⟩ _ _ Q E hg hr I.env0 (hb s us I.kIn many) both h) fun res s' out => ?_)
  match res, out with
  | .error err, out => exact hx pins σ H s err s' I out
  | .ok (.ret _), out => exact I.after out
  | .ok .next, out => exact out.elim
  | .ok .brk, out => exact out.elim
  | .ok .cont, out => exact out.elim
theorem pe_callG (F : FnG X.prog X.w X.K X.mg X.base XX lev at' fdat params prom) (hg : X.A.guards = some []) (hr : Room lev X.A) (hgl : Gl X nm) (hm : X.mg nm = some (.ref at')) (hk : PySem.W.keepIn X.K (.ref at') = true) (hb : Binds X.K fdat params ds) (hd : Vals dvs ds)
    (hx : Passes XX X E) (ha : PA X (e :: es) t) (hdb : (nm == ("__debug__" : Str)) = false := by decide) (he : starEach (e :: es) X.env = (false, eval e X.env) :: starEach es X.env := by rfl)
    (hpl : (backTo pos (starEach es X.env)).any (·.1) = false := by rfl) : PE X (.Call (.Name nm p) (e :: es) [] pos) (tCall prom dvs E t) :=
  ⟨fun pins s σ H Q I h => wpAny_Call_Name_kw (ld_glob I hgl hm (PySem.W.callWith_K (h₀ := X.base) I.ok.mod.kin hk
    (thn (ha.run pos pins s σ H _ I h) fun us s1 ⟨vs, H1, I1, r, q⟩ => ⟨I1.kIn, run_fnG F hg hr hb hd hx I1 r q⟩) he hpl) hdb)⟩
end
end L2
namespace L3
open PySem PySem.Spec PyProof.Rows L2 LamX
inductive PV where
  | non | bl (b : Bool) | int (i : Int) | str (x : Str) | tup (xs : List PV) | lst (xs : List PV) | scr (xs : List PV) | dic | ins (C : Str) (fs : List Str) (xs : List PV)
mutual
inductive Rp (K : PySem.W.Frag) (mg : Str → Option Value) (F : Hp) : V → PV → Prop
  | non : Rp K mg F .non .non
  | bl (b : Bool) : Rp K mg F (.bl b) (.bl b)
  | int (i : Int) : Rp K mg F (.int i) (.int i)
  | str (x : Str) : Rp K mg F (.str x) (.str x)
  | lst {a : Addr} {xs : List V} {ds : List PV} : F a = some (.lst xs) → RpAll K mg F xs ds → Rp K mg F (.ref a) (.lst ds)
  | scr {a : Addr} {xs : List V} {ds : List PV} : SqL K F a xs → RpAll K mg F xs ds → Rp K mg F (.ref a) (.scr ds)
  | tup {a : Addr} {xs : List V} {ds : List PV} : SqT K F a xs → RpAll K mg F xs ds → Rp K mg F (.ref a) (.tup ds)
  | dic {a : Addr} {kvs : List (Key × V)} : F a = some (.dK kvs) → Rp K mg F (.ref a) .dic
  | ins {a C dx : Addr} {nm : Str} {fs : List (Str × V)} {ns : List Str} {ds : List PV} : F a = some (.ins C dx fs) → mg nm = some (.ref C) → ns = fs.map (·.1) → RpAll K mg F (fs.map (·.2)) ds → Rp K mg F (.ref a) (.ins nm ns ds)
inductive RpAll (K : PySem.W.Frag) (mg : Str → Option Value) (F : Hp) : List V → List PV → Prop
  | nil : RpAll K mg F [] []
  | cons {v : V} {vs : List V} {d : PV} {ds : List PV} : Rp K mg F v d → RpAll K mg F vs ds → RpAll K mg F (v :: vs) (d :: ds)
end
section
variable {K : PySem.W.Frag} {mg : Str → Option Value} {F F' : Hp}
mutual
theorem rp_same (s : Same F F') : ∀ (d : PV) (v : V), Rp K mg F v d → Rp K mg F' v d
  | .non, _, h => by cases h; exact .non
  | .bl b, _, h => by cases h; exact .bl b
  | .int i, _, h => by cases h; exact .int i
  | .str x, _, h => by cases h; exact .str x
  | .lst ds, _, h => by
    cases h with
    | lst hs ha => exact .lst (s _ _ hs) (rpAll_same s ds _ ha)
  | .scr ds, _, h => by
    cases h with
    | scr hs ha => exact .scr (s.seq hs) (rpAll_same s ds _ ha)
  | .tup ds, _, h => by
    cases h with
    | tup hs ha => exact .tup (sqT_same s hs) (rpAll_same s ds _ ha)
  | .dic, _, h => by
    cases h with
    | dic e => exact .dic (s _ _ e)
  | .ins C fs ds, _, h => by
    cases h with
    | ins e m n ha => exact .ins (s _ _ e) m n (rpAll_same s ds _ ha)
theorem rpAll_same (s : Same F F') : ∀ (ds : List PV) (vs : List V), RpAll K mg F vs ds → RpAll K mg F' vs ds
  | [], _, h => by cases h; exact .nil
  | d :: ds, _, h => by
    cases h with
    | cons h1 h2 => exact .cons (rp_same s d _ h1) (rpAll_same s ds _ h2)
end
theorem Rp.same {v : V} {d : PV} (h : Rp K mg F v d) (s : Same F F') : Rp K mg F' v d := rp_same s d v h
theorem RpAll.same {v : List V} {d : List PV} (h : RpAll K mg F v d) (s : Same F F') : RpAll K mg F' v d := rpAll_same s d v h
theorem RpAll.length : ∀ {vs : List V} {ds : List PV}, RpAll K mg F vs ds → vs.length = ds.length
  | _, _, .nil => rfl
  | _, _, .cons _ t => congrArg (· + 1) (RpAll.length t)
theorem RpAll.get : ∀ {vs : List V} {ds : List PV} {i : Nat} {d : PV}, RpAll K mg F vs ds → ds[i]? = some d → ∃ v, vs[i]? = some v ∧ Rp K mg F v d
  | _, _, _, _, .nil, e => by simp at e
  | _, _, 0, _, .cons r _, e => by simp at e; subst e; exact ⟨_, rfl, r⟩
  | _, _, i + 1, x, .cons _ t, e => by
    obtain ⟨u, h1, h2⟩ := RpAll.get (i := i) (d := x) t (by simpa using e)
    exact ⟨u, by simpa using h1, h2⟩
theorem RpAll.getV : ∀ {vs : List V} {ds : List PV} {i : Nat} {v : V}, RpAll K mg F vs ds → vs[i]? = some v → ∃ d, ds[i]? = some d ∧ Rp K mg F v d
  | _, _, _, _, .nil, e => by simp at e
  | _, _, 0, _, .cons r _, e => by simp at e; subst e; exact ⟨_, rfl, r⟩
  | _, _, i + 1, x, .cons _ t, e => by
    obtain ⟨u, h1, h2⟩ := RpAll.getV (i := i) (v := x) t (by simpa using e)
    exact ⟨u, by simpa using h1, h2⟩
theorem RpAll.append : ∀ {vs us : List V} {ds es : List PV}, RpAll K mg F vs ds → RpAll K mg F us es → RpAll K mg F (vs ++ us) (ds ++ es)
  | _, _, _, _, .nil, s => s
  | _, _, _, _, .cons r t, s => .cons r (RpAll.append t s)
theorem RpAll.take : ∀ (n : Nat) {vs : List V} {ds : List PV}, RpAll K mg F vs ds → RpAll K mg F (vs.take n) (ds.take n)
  | 0, _, _, _ => by simp only [List.take_zero]; exact .nil
  | _ + 1, _, _, .nil => by simp only [List.take_nil]; exact .nil
  | n + 1, _, _, .cons r t => by simp only [List.take_succ_cons]; exact .cons r (RpAll.take n t)
theorem RpAll.drop : ∀ (n : Nat) {vs : List V} {ds : List PV}, RpAll K mg F vs ds → RpAll K mg F (vs.drop n) (ds.drop n)
  | 0, _, _, r => r
  | _ + 1, _, _, .nil => by simp only [List.drop_nil]; exact .nil
  | n + 1, _, _, .cons r t => by simp only [List.drop_succ_cons]; exact RpAll.drop n t
theorem RpAll.snoc {vs : List V} {ds : List PV} {v : V} {d : PV} (h : RpAll K mg F vs ds) (r : Rp K mg F v d) : RpAll K mg F (vs ++ [v]) (ds ++ [d]) := h.append (.cons r .nil)
theorem RpAll.set : ∀ {vs : List V} {ds : List PV} (i : Nat) {v : V} {d : PV}, RpAll K mg F vs ds → Rp K mg F v d → RpAll K mg F (vs.set i v) (ds.set i d)
  | _, _, _, _, _, .nil, _ => by simp only [List.set_nil]; exact .nil
  | _, _, 0, _, _, .cons _ t, r => .cons r t
  | _, _, i + 1, _, _, .cons q t, r => .cons q (RpAll.set i t r)
theorem RpAll.erase : ∀ {vs : List V} {ds : List PV} (i : Nat), RpAll K mg F vs ds → RpAll K mg F (vs.eraseIdx i) (ds.eraseIdx i)
  | _, _, _, .nil => by simp only [List.eraseIdx_nil]; exact .nil
  | _, _, 0, .cons _ t => t
  | _, _, i + 1, .cons q t => .cons q (RpAll.erase i t)
theorem RpAll.dropLast {vs : List V} {ds : List PV} (h : RpAll K mg F vs ds) : RpAll K mg F vs.dropLast ds.dropLast := by
  rw [List.dropLast_eq_take, List.dropLast_eq_take, h.length]
  exact h.take _
theorem RpAll.reverse : ∀ {vs : List V} {ds : List PV}, RpAll K mg F vs ds → RpAll K mg F vs.reverse ds.reverse
  | _, _, .nil => .nil
  | _, _, .cons r t => by rw [List.reverse_cons, List.reverse_cons]; exact (RpAll.reverse t).snoc r
theorem rpAll_int : ∀ (ns : List Int), RpAll K mg F (ns.map V.int) (ns.map PV.int)
  | [] => .nil
  | n :: ns => .cons (.int n) (rpAll_int ns)
end

structure Ct where
  F0 : Hp
  H0 : Hp
  dl : Option (Addr × Addr)
  T : List (Addr × Str)
  G : List (Addr × HO)
/-- nothing there that must last -/
def NB : Option HO → Prop
  | none => True
  | some (.tbl _) => True
  | _ => False
theorem NB.ne {o : Option HO} (h : NB o) {u : HO} (e : o = some u) (n : ∀ ps, u ≠ .tbl ps) : False := by
  subst e
  cases u <;> first | exact h | exact n _ rfl
/-- an address of this def's own -/
structure Fsh (c : Ct) (dl : Option (Addr × Addr)) (F : Hp) (a : Addr) : Prop where
  f : F a = none
  h : NB (c.H0 a)
  d : ∀ p q, dl = some (p, q) → a ≠ p ∧ a ≠ q
structure Wd (c : Ct) (dl : Option (Addr × Addr)) (F H : Hp) : Prop where
  sub : Same F H
  ntb : ∀ b ps, F b ≠ some (.tbl ps)
  base : ∀ b o, c.H0 b = some o → (∀ ps, o ≠ .tbl ps) → (∀ p q, c.dl = some (p, q) → b ≠ p ∧ b ≠ q) → H b = some o
  dd : ∀ p q, dl = some (p, q) → ∃ cs bl, Deal H p q cs bl ∧ F p = none ∧ F q = none
  dn : dl = c.dl ∨ (c.dl = none ∧ ∀ p q, dl = some (p, q) → NB (c.H0 p) ∧ NB (c.H0 q))
  fr : ∀ b o, F b = some o → c.F0 b = some o ∨ NB (c.H0 b)
  tab : Tabs c.T H
  gh : ∀ p ∈ c.G, H p.1 = some p.2 ∧ Fsh c dl F p.1
  gl : ∀ p ∈ c.G, ∃ xs, p.2 = .lst xs
  gd : (c.G.map (·.1)).Nodup
inductive Sl where
  | val (d : PV) | own (xs : List PV) | deal
abbrev Rho := List (Option Sl)
def SR (K : PySem.W.Frag) (mg : Str → Option Value) (c : Ct) (dl : Option (Addr × Addr)) (F H : Hp) (v : V) : Sl → Prop
  | .val d => Rp K mg F v d
  | .own xs => ∃ a vs, v = .ref a ∧ H a = some (.lst vs) ∧ Fsh c dl F a ∧ (∀ o, (a, o) ∉ c.G) ∧ RpAll K mg F vs xs
  | .deal => ∃ p q, v = .ref p ∧ dl = some (p, q)
structure ER (K : PySem.W.Frag) (mg : Str → Option Value) (c : Ct) (F H : Hp) (σ : L2.St) (ρ : Rho) : Prop where
  ex : ∃ dl, Wd c dl F H ∧ (∀ (i : Nat) (s : Sl), ρ[i]? = some (some s) → ∃ v, σ[i]? = some (some v) ∧ SR K mg c dl F H v s) ∧
    (∀ (i j : Nat) (a : Addr) (xs ys : List PV), ρ[i]? = some (some (.own xs)) → ρ[j]? = some (some (.own ys)) → σ[i]? = some (some (V.ref a)) → σ[j]? = some (some (V.ref a)) → i = j)
  len : ρ.length = σ.length
section
variable {K : PySem.W.Frag} {mg : Str → Option Value} {c : Ct} {dl : Option (Addr × Addr)} {F F' H H' : Hp} {σ : L2.St} {ρ : Rho}
/-- a new address is of this def's own -/
theorem Wd.fresh (w : Wd c dl F H) {p : Addr} (hp : H p = none) : Fsh c dl F p := by
  refine ⟨?_, ?_, fun p' q' e => ?_⟩
  · cases e : F p with
    | none => rfl
    | some o => rw [w.sub _ _ e] at hp; cases hp
  · cases e : c.H0 p with
    | none => trivial
    | some o =>
      by_cases t : ∃ ps, o = .tbl ps
      · obtain ⟨ps, rfl⟩ := t; trivial
      · exfalso
        have nd : ∀ p' q', c.dl = some (p', q') → p ≠ p' ∧ p ≠ q' := fun p' q' e' => by
          rcases w.dn with z | ⟨z, _⟩
          · obtain ⟨cs, bl, D, _, _⟩ := w.dd p' q' (z.trans e')
            exact ⟨(fun z => by rw [z, D.hp] at hp; cases hp), (fun z => by rw [z, D.hq] at hp; cases hp)⟩
          · rw [z] at e'; cases e'
        rw [w.base p o e (fun ps z => t ⟨ps, z⟩) nd] at hp
        cases hp
  · obtain ⟨cs, bl, D, _, _⟩ := w.dd p' q' e
    exact ⟨(fun z => by rw [z, D.hp] at hp; cases hp), (fun z => by rw [z, D.hq] at hp; cases hp)⟩
/-- something new is laid, told or not -/
theorem Wd.lay (w : Wd c dl F H) {p : Addr} {o : HO} (hp : H p = none) : Wd c dl F (upd H p o) :=
  ⟨fun b u e => same_new hp _ _ (w.sub b u e), w.ntb, fun b u e n d => same_new hp _ _ (w.base b u e n d), fun p' q' e => by
    obtain ⟨cs, bl, D, h1, h2⟩ := w.dd p' q' e
    exact ⟨cs, bl, D.same (same_new hp), h1, h2⟩, w.dn, w.fr, w.tab.ext (same_new hp), fun q hq => ⟨same_new hp _ _ (w.gh q hq).1, (w.gh q hq).2⟩, w.gl, w.gd⟩
/-- an own object becomes told -/
theorem Wd.tell (w : Wd c dl F H) {p : Addr} {o : HO} (hp : H p = some o) (f : Fsh c dl F p) (nt : ∀ ps, o ≠ .tbl ps) (ng : ∀ u, (p, u) ∉ c.G) : Wd c dl (upd F p o) H := by
  have gne : ∀ q ∈ c.G, q.1 ≠ p := fun q hq z => ng q.2 (by rw [← z]; exact hq)
  refine ⟨fun b u e => ?_, fun b ps e => ?_, w.base, fun p' q' e => ?_, w.dn, fun b u e => ?_, w.tab, fun q hq => ⟨(w.gh q hq).1, by rw [upd_ne (gne q hq)]; exact (w.gh q hq).2.f, (w.gh q hq).2.h, (w.gh q hq).2.d⟩, w.gl, w.gd⟩
  · by_cases hb : b = p
    · subst hb; rw [upd_same] at e; cases e; exact hp
    · rw [upd_ne hb] at e; exact w.sub b u e
  · by_cases hb : b = p
    · subst hb; rw [upd_same] at e; cases e; exact nt _ rfl
    · rw [upd_ne hb] at e; exact w.ntb b ps e
  · obtain ⟨cs, bl, D, h1, h2⟩ := w.dd p' q' e
    obtain ⟨n1, n2⟩ := f.d p' q' e
    exact ⟨cs, bl, D, by rw [upd_ne n1.symm]; exact h1, by rw [upd_ne n2.symm]; exact h2⟩
  · by_cases hb : b = p
    · subst hb; exact .inr f.h
    · rw [upd_ne hb] at e; exact w.fr b u e
theorem same_tell {p : Addr} {o : HO} (f : F p = none) : Same F (upd F p o) := same_new f
theorem SR.mono {v : V} {s : Sl} (r : SR K mg c dl F H v s) (sF : Same F F') (hH : ∀ a vs, H a = some (.lst vs) → Fsh c dl F a → H' a = some (.lst vs) ∧ Fsh c dl F' a) : SR K mg c dl F' H' v s := by
  cases s with
  | val d => exact Rp.same r sF
  | own xs =>
    obtain ⟨a, vs, e, h, f, ng, ra⟩ := r
    obtain ⟨h', f'⟩ := hH a vs h f
    exact ⟨a, vs, e, h', f', ng, ra.same sF⟩
  | deal => exact r
/-- a new told object -/
theorem ER.alloc (E : ER K mg c F H σ ρ) {p : Addr} {o : HO} (hp : H p = none) (nt : ∀ ps, o ≠ .tbl ps) : ER K mg c (upd F p o) (upd H p o) σ ρ := by
  obtain ⟨⟨dl, w, sl, inj⟩, len⟩ := E
  have f := w.fresh hp
  have ng : ∀ u, (p, u) ∉ c.G := fun u hu => by rw [(w.gh _ hu).1] at hp; cases hp
  refine ⟨⟨dl, (w.lay hp).tell upd_same f nt ng, fun i s e => ?_, inj⟩, len⟩
  obtain ⟨v, h1, h2⟩ := sl i s e
  refine ⟨v, h1, h2.mono (same_new f.f) fun a vs h fa => ?_⟩
  have ne : a ≠ p := ne_of_none h hp
  exact ⟨by rw [upd_ne ne]; exact h, ⟨by rw [upd_ne ne]; exact fa.f, fa.h, fa.d⟩⟩
/-- a new object that is not told -/
theorem ER.allocH (E : ER K mg c F H σ ρ) {p : Addr} {o : HO} (hp : H p = none) : ER K mg c F (upd H p o) σ ρ := by
  obtain ⟨⟨dl, w, sl, inj⟩, len⟩ := E
  refine ⟨⟨dl, w.lay hp, fun i s e => ?_, inj⟩, len⟩
  obtain ⟨v, h1, h2⟩ := sl i s e
  exact ⟨v, h1, h2.mono (fun _ _ z => z) fun a vs h fa => ⟨same_new hp _ _ h, fa⟩⟩
theorem ER.noF (E : ER K mg c F H σ ρ) {p : Addr} (hp : H p = none) : F p = none := by
  obtain ⟨⟨dl, w, _⟩, _⟩ := E
  exact (w.fresh hp).f
theorem ER.sub (E : ER K mg c F H σ ρ) : Same F H := by
  obtain ⟨⟨dl, w, _⟩, _⟩ := E
  exact w.sub
/-- a slot is given a value -/
theorem ER.setVal (E : ER K mg c F H σ ρ) {i : Nat} {v : V} {d : PV} (r : Rp K mg F v d) (h : i < ρ.length) : ER K mg c F H (σ.set i (some v)) (ρ.set i (some (.val d))) := by
  obtain ⟨⟨dl, w, sl, inj⟩, len⟩ := E
  refine ⟨⟨dl, w, fun j s e => ?_, fun j k a xs ys e1 e2 e3 e4 => ?_⟩, by simp [len]⟩
  · by_cases hj : j = i
    · subst hj
      rw [List.getElem?_set_self h] at e
      obtain rfl := Option.some.inj (Option.some.inj e)
      exact ⟨v, List.getElem?_set_self (by omega), r⟩
    · rw [List.getElem?_set_ne (Ne.symm hj)] at e ⊢
      exact sl j s e
  · have n : ∀ j xs, (ρ.set i (some (Sl.val d)))[j]? = some (some (.own xs)) → j ≠ i ∧ ρ[j]? = some (some (.own xs)) := fun j xs e => by
      by_cases hj : j = i
      · subst hj; rw [List.getElem?_set_self h] at e; cases e
      · rw [List.getElem?_set_ne (Ne.symm hj)] at e; exact ⟨hj, e⟩
    obtain ⟨n1, e1⟩ := n j xs e1
    obtain ⟨n2, e2⟩ := n k ys e2
    rw [List.getElem?_set_ne (Ne.symm n1)] at e3
    rw [List.getElem?_set_ne (Ne.symm n2)] at e4
    exact inj j k a xs ys e1 e2 e3 e4
/-- a slot is forgotten -/
theorem ER.drop (E : ER K mg c F H σ ρ) {i : Nat} {o : Option V} : ER K mg c F H (σ.set i o) (ρ.set i none) := by
  obtain ⟨⟨dl, w, sl, inj⟩, len⟩ := E
  have n : ∀ j (s : Sl), (ρ.set i none)[j]? = some (some s) → j ≠ i ∧ ρ[j]? = some (some s) := fun j s e => by
    by_cases hj : j = i
    · subst hj
      by_cases h : j < ρ.length
      · rw [List.getElem?_set_self h] at e; cases e
      · rw [List.getElem?_eq_none (by simp; omega)] at e; cases e
    · rw [List.getElem?_set_ne (Ne.symm hj)] at e; exact ⟨hj, e⟩
  refine ⟨⟨dl, w, fun j s e => ?_, fun j k a xs ys e1 e2 e3 e4 => ?_⟩, by simp [len]⟩
  · obtain ⟨hj, e⟩ := n j s e
    rw [List.getElem?_set_ne (Ne.symm hj)]
    exact sl j s e
  · obtain ⟨n1, e1⟩ := n j _ e1
    obtain ⟨n2, e2⟩ := n k _ e2
    rw [List.getElem?_set_ne (Ne.symm n1)] at e3
    rw [List.getElem?_set_ne (Ne.symm n2)] at e4
    exact inj j k a xs ys e1 e2 e3 e4
end
section
variable {K : PySem.W.Frag} {mg : Str → Option Value} {c : Ct} {F F' H H' : Hp} {σ : L2.St} {ρ : Rho}
/-- with one more thing kept aside -/
abbrev Ct.kp (c : Ct) (a : Addr) (o : HO) : Ct := { c with G := (a, o) :: c.G }
theorem Fsh.kp {dl : Option (Addr × Addr)} {F : Hp} {a b : Addr} {o : HO} (f : Fsh c dl F a) : Fsh (c.kp b o) dl F a := ⟨f.f, f.h, f.d⟩
theorem Fsh.unkp {dl : Option (Addr × Addr)} {F : Hp} {a b : Addr} {o : HO} (f : Fsh (c.kp b o) dl F a) : Fsh c dl F a := ⟨f.f, f.h, f.d⟩
theorem Wd.unkp {dl : Option (Addr × Addr)} {a : Addr} {o : HO} (w : Wd (c.kp a o) dl F H) : Wd c dl F H := ⟨w.sub, w.ntb, w.base, w.dd, w.dn, w.fr, w.tab, fun p hp => ⟨(w.gh p (List.mem_cons_of_mem _ hp)).1, (w.gh p (List.mem_cons_of_mem _ hp)).2.unkp⟩, (fun p hp => w.gl p (List.mem_cons_of_mem _ hp)), (List.nodup_cons.mp w.gd).2⟩
theorem SR.unkp {dl : Option (Addr × Addr)} {a : Addr} {o : HO} {v : V} {s : Sl} (r : SR K mg (c.kp a o) dl F H v s) : SR K mg c dl F H v s := by
  cases s with
  | val d => exact r
  | own xs => obtain ⟨b, vs, e, h, f, ng, ra⟩ := r; exact ⟨b, vs, e, h, f.unkp, (fun u hu => ng u (List.mem_cons_of_mem _ hu)), ra⟩
  | deal => exact r
theorem ER.unkp {a : Addr} {o : HO} (E : ER K mg (c.kp a o) F H σ ρ) : ER K mg c F H σ ρ := by
  obtain ⟨⟨dl, w, sl, inj⟩, len⟩ := E
  exact ⟨⟨dl, w.unkp, (fun i s e => let ⟨v, h1, h2⟩ := sl i s e; ⟨v, h1, h2.unkp⟩), inj⟩, len⟩
variable {dl : Option (Addr × Addr)} {a : Addr} {o : HO}
theorem Wd.kp {xs : List V} (w : Wd c dl F H) (h : H a = some (.lst xs)) (f : Fsh c dl F a) (ng : ∀ u, (a, u) ∉ c.G) : Wd (c.kp a (.lst xs)) dl F H :=
  ⟨w.sub, w.ntb, w.base, w.dd, w.dn, w.fr, w.tab, (fun p hp => by
    rcases List.mem_cons.mp hp with rfl | hp
    · exact ⟨h, f.kp⟩
    · exact ⟨(w.gh p hp).1, (w.gh p hp).2.kp⟩), (fun p hp => by
    rcases List.mem_cons.mp hp with rfl | hp
    · exact ⟨xs, rfl⟩
    · exact w.gl p hp), List.nodup_cons.mpr ⟨(fun z => by
      obtain ⟨q, hq, e⟩ := List.mem_map.mp z
      have e : q.1 = a := e
      exact ng q.2 (by rw [← e]; exact hq)), w.gd⟩⟩
theorem Wd.kpn (w : Wd (c.kp a o) dl F H) (u : HO) : (a, u) ∉ c.G := fun z => (List.nodup_cons.mp w.gd).1 (List.mem_map.mpr ⟨_, z, rfl⟩)
theorem tabs_lst {T : List (Addr × Str)} {xs ys : List V} (t : Tabs T H) (h : H a = some (.lst xs)) : Tabs T (upd H a (.lst ys)) := fun p hp => by
  obtain ⟨ps, h1, h2, h3⟩ := t p hp
  refine ⟨ps, by rw [upd_ne (ne_of h1 h (fun z => nomatch z))]; exact h1, h2, fun pos cv hc => ?_⟩
  obtain ⟨c, e1, e2⟩ := h3 pos cv hc
  exact ⟨c, e1, by rw [upd_ne (ne_of e2 h (fun z => by unfold CodeO at z; cases z))]; exact e2⟩
/-- a list of one's own is changed -/
theorem Wd.write {xs ys : List V} (w : Wd c dl F H) (h : H a = some (.lst xs)) (f : Fsh c dl F a) (ng : ∀ u, (a, u) ∉ c.G) : Wd c dl F (upd H a (.lst ys)) := by
  refine ⟨fun b u e => ?_, w.ntb, fun b u e n d => ?_, fun p q e => ?_, w.dn, w.fr, tabs_lst w.tab h, fun p hp => ⟨?_, (w.gh p hp).2⟩, w.gl, w.gd⟩
  · rw [upd_ne (ne_of_none e f.f)]; exact w.sub b u e
  · have : b ≠ a := fun z => by subst z; exact f.h.ne e n
    rw [upd_ne this]; exact w.base b u e n d
  · obtain ⟨cs, bl, D, h1, h2⟩ := w.dd p q e
    obtain ⟨n1, n2⟩ := f.d p q e
    exact ⟨cs, bl, ⟨by rw [upd_ne n1.symm]; exact D.hp, by rw [upd_ne n2.symm]; exact D.hq, D.nn, D.b0, D.b1, D.ln⟩, h1, h2⟩
  · have : p.1 ≠ a := fun z => ng p.2 (by rw [← z]; exact hp)
    rw [upd_ne this]; exact (w.gh p hp).1
theorem SR.kp {v : V} {s : Sl} (r : SR K mg c dl F H v s) (n : ∀ xs, s = .own xs → v ≠ .ref a) : SR K mg (c.kp a o) dl F H v s := by
  cases s with
  | val d => exact r
  | own xs =>
    obtain ⟨b, vs, e, h, f, ng, ra⟩ := r
    refine ⟨b, vs, e, h, f.kp, fun u hu => ?_, ra⟩
    rcases List.mem_cons.mp hu with z | z
    · exact n xs rfl (by rw [e]; congr 1; exact congrArg Prod.fst z)
    · exact ng u z
  | deal => exact r
/-- something new is laid and kept aside -/
theorem ER.newG {xs : List V} (E : ER K mg c F H σ ρ) {p : Addr} (hp : H p = none) : ER K mg (c.kp p (.lst xs)) F (upd H p (.lst xs)) σ ρ := by
  obtain ⟨⟨dl, w, sl, inj⟩, len⟩ := E
  have f := w.fresh hp
  have ng : ∀ u, (p, u) ∉ c.G := fun u hu => by rw [(w.gh _ hu).1] at hp; cases hp
  refine ⟨⟨dl, (w.lay hp).kp upd_same f ng, fun i s e => ?_, inj⟩, len⟩
  obtain ⟨v, h1, h2⟩ := sl i s e
  have h3 := h2.mono (H' := upd H p (.lst xs)) (fun _ _ z => z) fun a vs h fa => ⟨same_new hp _ _ h, fa⟩
  refine ⟨v, h1, h3.kp fun xs e2 z => ?_⟩
  subst e2
  obtain ⟨b, vs, e3, h4, _⟩ := h2
  rw [e3] at z
  injection z with z
  subst z
  rw [h4] at hp; cases hp
/-- the list kept aside is changed -/
theorem ER.setG {vs ys : List V} (E : ER K mg (c.kp a (.lst vs)) F H σ ρ) : ER K mg (c.kp a (.lst ys)) F (upd H a (.lst ys)) σ ρ := by
  obtain ⟨⟨dl, w, sl, inj⟩, len⟩ := E
  obtain ⟨ha, fa⟩ := w.gh (a, .lst vs) List.mem_cons_self
  refine ⟨⟨dl, (w.unkp.write ha fa.unkp w.kpn).kp upd_same fa.unkp w.kpn, fun i s e => ?_, inj⟩, len⟩
  obtain ⟨v, h1, h2⟩ := sl i s e
  have nv : ∀ xs, s = .own xs → v ≠ .ref a := fun xs e2 z => by
    subst e2
    obtain ⟨b, vs', e3, _, _, ng, _⟩ := h2
    rw [e3] at z
    injection z with z
    subst z
    exact ng _ List.mem_cons_self
  refine ⟨v, h1, ?_⟩
  cases s with
  | val d => exact h2
  | own xs =>
    obtain ⟨b, vs', e3, h4, f4, ng, ra⟩ := h2
    have nb : b ≠ a := fun z => nv xs rfl (by rw [e3, z])
    refine ⟨b, vs', e3, by rw [upd_ne nb]; exact h4, f4.unkp.kp, fun u hu => ?_, ra⟩
    rcases List.mem_cons.mp hu with z | z
    · exact nb (congrArg Prod.fst z)
    · exact ng u (List.mem_cons_of_mem _ z)
  | deal => exact h2
/-- what was kept aside is told -/
theorem ER.tellG {vs : List V} (E : ER K mg (c.kp a (.lst vs)) F H σ ρ) : ER K mg c (upd F a (.lst vs)) H σ ρ ∧ F a = none := by
  obtain ⟨⟨dl, w, sl, inj⟩, len⟩ := E
  obtain ⟨ha, fa⟩ := w.gh (a, .lst vs) List.mem_cons_self
  refine ⟨⟨⟨dl, w.unkp.tell ha fa.unkp (fun _ z => nomatch z) w.kpn, fun i s e => ?_, inj⟩, len⟩, fa.f⟩
  obtain ⟨v, h1, h2⟩ := sl i s e
  refine ⟨v, h1, ?_⟩
  cases s with
  | val d => exact Rp.same h2 (same_new fa.f)
  | own xs =>
    obtain ⟨b, vs', e3, h4, f4, ng, ra⟩ := h2
    have nb : b ≠ a := fun z => by subst z; exact ng _ List.mem_cons_self
    exact ⟨b, vs', e3, h4, ⟨by rw [upd_ne nb]; exact f4.f, f4.h, f4.d⟩, fun u hu => ng u (List.mem_cons_of_mem _ hu), ra.same (same_new fa.f)⟩
  | deal => exact h2
/-- what was kept aside becomes a slot's own -/
theorem ER.ownG {vs : List V} {ds : List PV} {i : Nat} (E : ER K mg (c.kp a (.lst vs)) F H σ ρ) (r : RpAll K mg F vs ds) (hi : i < ρ.length) : ER K mg c F H (σ.set i (some (.ref a))) (ρ.set i (some (.own ds))) := by
  obtain ⟨⟨dl, w, sl, inj⟩, len⟩ := E
  obtain ⟨ha, fa⟩ := w.gh (a, .lst vs) List.mem_cons_self
  have nota : ∀ (j : Nat) (xs : List PV) (b : Addr), ρ[j]? = some (some (.own xs)) → σ[j]? = some (some (V.ref b)) → b ≠ a := fun j xs b e1 e2 z => by
    subst z
    obtain ⟨v, h1, b', vs', e3, _, _, ng, _⟩ := sl j _ e1
    rw [h1] at e2
    obtain rfl := Option.some.inj (Option.some.inj e2)
    injection e3 with e3
    subst e3
    exact ng _ List.mem_cons_self
  refine ⟨⟨dl, w.unkp, fun j s e => ?_, fun j k b xs ys e1 e2 e3 e4 => ?_⟩, by simp [len]⟩
  · by_cases hj : j = i
    · subst hj
      rw [List.getElem?_set_self hi] at e
      obtain rfl := Option.some.inj (Option.some.inj e)
      exact ⟨.ref a, List.getElem?_set_self (by omega), a, vs, rfl, ha, fa.unkp, w.kpn, r⟩
    · rw [List.getElem?_set_ne (Ne.symm hj)] at e ⊢
      obtain ⟨v, h1, h2⟩ := sl j s e
      exact ⟨v, h1, h2.unkp⟩
  · by_cases hj : j = i
    · by_cases hk : k = i
      · rw [hj, hk]
      · rw [List.getElem?_set_ne (Ne.symm hk)] at e2 e4
        rw [hj, List.getElem?_set_self (by omega)] at e3
        obtain h := Option.some.inj (Option.some.inj e3)
        injection h with h
        exact absurd h.symm (nota k ys b e2 e4)
    · rw [List.getElem?_set_ne (Ne.symm hj)] at e1 e3
      by_cases hk : k = i
      · rw [hk, List.getElem?_set_self (by omega)] at e4
        obtain h := Option.some.inj (Option.some.inj e4)
        injection h with h
        exact absurd h.symm (nota j xs b e1 e3)
      · rw [List.getElem?_set_ne (Ne.symm hk)] at e2 e4
        exact inj j k b xs ys e1 e2 e3 e4
/-- a slot's own list is changed -/
theorem ER.setOwn {ys : List V} {ds es : List PV} {i : Nat} (E : ER K mg c F H σ ρ) (hρ : ρ[i]? = some (some (.own ds))) (hσ : σ[i]? = some (some (.ref a))) (r : RpAll K mg F ys es) :
    ER K mg c F (upd H a (.lst ys)) σ (ρ.set i (some (.own es))) := by
  obtain ⟨⟨dl, w, sl, inj⟩, len⟩ := E
  obtain ⟨v, h1, b, vs', e3, h4, f4, ng, ra⟩ := sl i _ hρ
  rw [h1] at hσ
  obtain rfl := Option.some.inj (Option.some.inj hσ)
  injection e3 with e3
  subst e3
  have hi : i < ρ.length := (List.getElem?_eq_some_iff.mp hρ).1
  have own : ∀ (j : Nat) (xs : List PV), (ρ.set i (some (Sl.own es)))[j]? = some (some (.own xs)) → ∃ ys, ρ[j]? = some (some (.own ys)) := fun j xs e => by
    by_cases hj : j = i
    · subst hj; exact ⟨_, hρ⟩
    · rw [List.getElem?_set_ne (Ne.symm hj)] at e; exact ⟨_, e⟩
  refine ⟨⟨dl, w.write h4 f4 ng, fun j s e => ?_, fun j k b xs ys e1 e2 e3 e4 => ?_⟩, by simp [len]⟩
  · by_cases hj : j = i
    · subst hj
      rw [List.getElem?_set_self hi] at e
      obtain rfl := Option.some.inj (Option.some.inj e)
      exact ⟨.ref a, h1, a, ys, rfl, upd_same, f4, ng, r⟩
    · rw [List.getElem?_set_ne (Ne.symm hj)] at e
      obtain ⟨v, g1, g2⟩ := sl j s e
      refine ⟨v, g1, ?_⟩
      cases s with
      | val d => exact g2
      | own xs =>
        obtain ⟨b, vs2, q1, q2, q3, q4, q5⟩ := g2
        have nb : b ≠ a := fun z => by
          subst z; subst q1
          exact hj (inj j i b xs ds e hρ g1 h1)
        exact ⟨b, vs2, q1, by rw [upd_ne nb]; exact q2, q3, q4, q5⟩
      | deal => exact g2
  · obtain ⟨x1, e1⟩ := own j xs e1
    obtain ⟨x2, e2⟩ := own k ys e2
    exact inj j k b x1 x2 e1 e2 e3 e4
/-- a slot's own list is told -/
theorem ER.frz {ds : List PV} {i : Nat} (E : ER K mg c F H σ ρ) (hρ : ρ[i]? = some (some (.own ds))) : ∃ F', Same F F' ∧ ER K mg c F' H σ (ρ.set i (some (.val (.lst ds)))) := by
  obtain ⟨⟨dl, w, sl, inj⟩, len⟩ := E
  obtain ⟨v, h1, a, vs, rfl, h4, f4, ng, ra⟩ := sl i _ hρ
  have hi : i < ρ.length := (List.getElem?_eq_some_iff.mp hρ).1
  have own : ∀ (j : Nat) (xs : List PV), (ρ.set i (some (Sl.val (.lst ds))))[j]? = some (some (.own xs)) → j ≠ i ∧ ρ[j]? = some (some (.own xs)) := fun j xs e => by
    by_cases hj : j = i
    · subst hj; rw [List.getElem?_set_self hi] at e; cases e
    · rw [List.getElem?_set_ne (Ne.symm hj)] at e; exact ⟨hj, e⟩
  refine ⟨upd F a (.lst vs), same_new f4.f, ⟨dl, w.tell h4 f4 (fun _ z => nomatch z) ng, fun j s e => ?_, fun j k b xs ys e1 e2 e3 e4 => ?_⟩, by simp [len]⟩
  · by_cases hj : j = i
    · subst hj
      rw [List.getElem?_set_self hi] at e
      obtain rfl := Option.some.inj (Option.some.inj e)
      exact ⟨.ref a, h1, .lst upd_same (ra.same (same_new f4.f))⟩
    · rw [List.getElem?_set_ne (Ne.symm hj)] at e
      obtain ⟨v, g1, g2⟩ := sl j s e
      refine ⟨v, g1, ?_⟩
      cases s with
      | val d => exact Rp.same g2 (same_new f4.f)
      | own xs =>
        obtain ⟨b, vs2, q1, q2, q3, q4, q5⟩ := g2
        have nb : b ≠ a := fun z => by
          subst z; subst q1
          exact hj (inj j i b xs ds e hρ g1 h1)
        exact ⟨b, vs2, q1, q2, ⟨by rw [upd_ne nb]; exact q3.f, q3.h, q3.d⟩, q4, q5.same (same_new f4.f)⟩
      | deal => exact g2
  · obtain ⟨n1, e1⟩ := own j xs e1
    obtain ⟨n2, e2⟩ := own k ys e2
    exact inj j k b xs ys e1 e2 e3 e4
/-- a slot's own list, read -/
theorem ER.own {ds : List PV} {i : Nat} (E : ER K mg c F H σ ρ) (hρ : ρ[i]? = some (some (.own ds))) : ∃ a vs, σ[i]? = some (some (.ref a)) ∧ H a = some (.lst vs) ∧ RpAll K mg F vs ds := by
  obtain ⟨⟨dl, w, sl, inj⟩, len⟩ := E
  obtain ⟨v, h1, a, vs, rfl, h4, f4, ng, ra⟩ := sl i _ hρ
  exact ⟨a, vs, h1, h4, ra⟩
theorem ER.val {d : PV} {i : Nat} (E : ER K mg c F H σ ρ) (hρ : ρ[i]? = some (some (.val d))) : ∃ v, σ[i]? = some (some v) ∧ Rp K mg F v d := by
  obtain ⟨⟨dl, w, sl, inj⟩, len⟩ := E
  exact sl i _ hρ
end
abbrev RS := Str → PV → Prop
def M (α : Type) := (α → Prop) → RS → Prop
instance : Monad M where
  pure x := fun Q _ => Q x
  bind m f := fun Q R => m (fun x => f x Q R) R
theorem bind_def {α β : Type} (m : M α) (f : α → M β) (Q : β → Prop) (R : RS) : (m >>= f) Q R = m (fun x => f x Q R) R := rfl
theorem pure_def {α : Type} (x : α) (Q : α → Prop) (R : RS) : (pure x : M α) Q R = Q x := rfl
instance : LawfulMonad M := LawfulMonad.mk' M (fun x => rfl) (fun x f => rfl) (fun x f g => rfl)
def raiseM {α : Type} (nm : Str) (d : PV) : M α := fun _ R => R nm d
def failM {α : Type} : M α := fun _ _ => False
def needM (p : Prop) : M Unit := fun Q _ => p ∧ Q ()
def anyM {α : Type} (p : α → Prop) : M α := fun Q _ => ∀ x, p x → Q x
abbrev PTE := Rho → M PV
inductive Fl where
  | nx (ρ : Rho) | rt (d : PV) | bk (ρ : Rho) | ct (ρ : Rho)
abbrev PTS := Rho → M Fl
/-- what is wished of an exception; the tables of code objects -/
structure Wsh where
  w : WX
  T : List (Addr × Str)
  top : Bool := false
section
variable (X : Cx) (W : Wsh)
def RsOk (c : Ct) (F : Hp) (R : RS) : Prop := c.T = W.T ∧ (W.top = true → c.dl = none) ∧ ∀ nm d, R nm d → ∀ (C dx : Addr) (v : V) (σ' : L2.St) (H' F' : Hp), X.mg nm = some (.ref C) → H' dx = some (.xd [("at", v)]) → Wd c c.dl F' H' → Same F F' → Rp X.K X.mg F' v d → σ'.length = X.N.length → W.w (.ref C) (some dx) σ' H'
def EQ (c : Ct) (F : Hp) (σ : L2.St) (ρ : Rho) (Qp : PV → Prop) (Q : VK) : Prop := ∀ d, Qp d → ∀ v H' F', ER X.K X.mg c F' H' σ ρ → Same F F' → Rp X.K X.mg F' v d → Q v H'
def tP (te : PTE) : TE := fun σ H Q => ∃ c F ρ Qp R, ER X.K X.mg c F H σ ρ ∧ te ρ Qp R ∧ EQ X c F σ ρ Qp Q ∧ RsOk X W c F R
def FlOk (c : Ct) (F : Hp) (D : Ends) : Fl → Prop
  | .nx ρ => ∀ σ' H' F', ER X.K X.mg c F' H' σ' ρ → Same F F' → D.nx σ' H'
  | .bk ρ => ∀ σ' H' F', ER X.K X.mg c F' H' σ' ρ → Same F F' → D.bk σ' H'
  | .ct ρ => ∀ σ' H' F', ER X.K X.mg c F' H' σ' ρ → Same F F' → D.ct σ' H'
  | .rt d => ∀ v H' F', Wd c c.dl F' H' → Same F F' → Rp X.K X.mg F' v d → D.rt v H'
def tS (ts : PTS) : TS := fun D σ H => ∃ c F ρ Qp R, ER X.K X.mg c F H σ ρ ∧ ts ρ Qp R ∧ (∀ f, Qp f → FlOk X c F D f) ∧ RsOk X W c F R
abbrev PPE (e : Expr) (te : PTE) : Prop := PE X e (tP X W te)
abbrev PPS (st : Stmt) (ts : PTS) : Prop := PS X st (tS X W ts)
abbrev PPSs (st : List Stmt) (ts : PTS) : Prop := PSs X st (tS X W ts)
/-- a test -/
def tB (te : Rho → M Bool) : TT := fun σ H Q => ∃ c F ρ Qp R, ER X.K X.mg c F H σ ρ ∧ te ρ Qp R ∧ (∀ b, Qp b → ∀ H' F', ER X.K X.mg c F' H' σ ρ → Same F F' → Q b H') ∧ RsOk X W c F R
abbrev PPT (e : Expr) (te : Rho → M Bool) : Prop := PT X e (tB X W te)
abbrev PPW (e : Expr) (te : Rho → M Bool) : Prop := PW X e (tB X W te)
/-- arguments -/
def AQ (c : Ct) (F : Hp) (σ : L2.St) (ρ : Rho) (Qp : List PV → Prop) (Q : List V → Hp → Prop) : Prop := ∀ d, Qp d → ∀ v H' F', ER X.K X.mg c F' H' σ ρ → Same F F' → RpAll X.K X.mg F' v d → Q v H'
def tA (te : Rho → M (List PV)) : TA := fun σ H Q => ∃ c F ρ Qp R, ER X.K X.mg c F H σ ρ ∧ te ρ Qp R ∧ AQ X c F σ ρ Qp Q ∧ RsOk X W c F R
abbrev PPA (es : List Expr) (te : Rho → M (List PV)) : Prop := PA X es (tA X W te)
end
section
variable {X : Cx} {W : Wsh}
theorem RsOk.mono {c : Ct} {F F' : Hp} {R : RS} (h : RsOk X W c F R) (s : Same F F') : RsOk X W c F' R := ⟨h.1, h.2.1, fun nm d r C dx v σ' H' F2 e1 e2 w s2 => h.2.2 nm d r C dx v σ' H' F2 e1 e2 w fun _ _ z => s2 _ _ (s _ _ z)⟩
theorem PE.imp {e : Expr} {t t' : TE} (h : PE X e t) (k : ∀ σ H Q, t' σ H Q → t σ H Q) : PE X e t' := ⟨fun pins s σ H Q I q => h.run pins s σ H Q I (k σ H Q q)⟩
theorem PT.imp {e : Expr} {t t' : TT} (h : PT X e t) (k : ∀ σ H Q, t' σ H Q → t σ H Q) : PT X e t' := ⟨fun pins s σ H Q I q => h.run pins s σ H Q I (k σ H Q q)⟩
theorem PW.imp {e : Expr} {t t' : TT} (h : PW X e t) (k : ∀ σ H Q, t' σ H Q → t σ H Q) : PW X e t' := ⟨fun wh pins s σ H Q I q => h.run wh pins s σ H Q I (k σ H Q q)⟩
theorem PA.imp {e : List Expr} {t t' : TA} (h : PA X e t) (k : ∀ σ H Q, t' σ H Q → t σ H Q) : PA X e t' := ⟨fun p pins s σ H Q I q => h.run p pins s σ H Q I (k σ H Q q)⟩
theorem PS.imp {e : Stmt} {t t' : TS} (h : PS X e t) (k : ∀ D σ H, t' D σ H → t D σ H) : PS X e t' := ⟨fun pins s σ H D I q => h.run pins s σ H D I (k D σ H q)⟩
theorem PSs.imp {e : List Stmt} {t t' : TS} (h : PSs X e t) (k : ∀ D σ H, t' D σ H → t D σ H) : PSs X e t' := ⟨fun pins s σ H D I q => h.run pins s σ H D I (k D σ H q)⟩
end
end L3
namespace L2
open PySem PySem.Spec PyProof.Rows
mutual
inductive Dz (K : PySem.W.Frag) (H : Hp) : V → PyData → Prop
  | non : Dz K H .non .none
  | bl (b : Bool) : Dz K H (.bl b) (.bool b)
  | int (i : Int) : Dz K H (.int i) (.int i)
  | str (x : Str) : Dz K H (.str x) (.str x)
  | lst {a : Addr} {xs : List V} {ds : List PyData} : SqL K H a xs → Dz K H (.ref a) (.list ds)
  | tup {a : Addr} {xs : List V} {ds : List PyData} : SqT K H a xs → DzAll K H xs ds → Dz K H (.ref a) (.tuple ds)
  | dic {a : Addr} {kvs : List (Key × V)} {es : List (PyData × PyData)} : H a = some (.dK kvs) → Dz K H (.ref a) (.dict es)
inductive DzAll (K : PySem.W.Frag) (H : Hp) : List V → List PyData → Prop
  | nil : DzAll K H [] []
  | cons {v : V} {vs : List V} {d : PyData} {ds : List PyData} : Dz K H v d → DzAll K H vs ds → DzAll K H (v :: vs) (d :: ds)
end
mutual
theorem dz_of {K : PySem.W.Frag} {H : Hp} : ∀ (d : PyData) (v : V), Dp K H v d → Dz K H v d
  | .none, _, h => by cases h; exact .non
  | .bool b, _, h => by cases h; exact .bl b
  | .int i, _, h => by cases h; exact .int i
  | .str x, _, h => by cases h; exact .str x
  | .list ds, _, h => by
    cases h with
    | lst hs ha => exact .lst hs
  | .tuple ds, _, h => by
    cases h with
    | tup hs ha => exact .tup hs (dzAll_of ds _ ha)
  | .dict kvs, _, h => by cases h
theorem dzAll_of {K : PySem.W.Frag} {H : Hp} : ∀ (ds : List PyData) (vs : List V), DpAll K H vs ds → DzAll K H vs ds
  | [], _, h => by cases h; exact .nil
  | d :: ds, _, h => by
    cases h with
    | cons h1 h2 => exact .cons (dz_of d _ h1) (dzAll_of ds _ h2)
end
mutual
theorem dz_same {K : PySem.W.Frag} {H H' : Hp} (s : Same H H') : ∀ (d : PyData) (v : V), Dz K H v d → Dz K H' v d
  | .none, _, h => by cases h; exact .non
  | .bool b, _, h => by cases h; exact .bl b
  | .int i, _, h => by cases h; exact .int i
  | .str x, _, h => by cases h; exact .str x
  | .list ds, _, h => by
    cases h with
    | lst hs => exact .lst (s.seq hs)
  | .tuple ds, _, h => by
    cases h with
    | tup hs ha => exact .tup (sqT_same s hs) (dzAll_same s ds _ ha)
  | .dict kvs, _, h => by
    cases h with
    | dic e => exact .dic (s _ _ e)
theorem dzAll_same {K : PySem.W.Frag} {H H' : Hp} (s : Same H H') : ∀ (ds : List PyData) (vs : List V), DzAll K H vs ds → DzAll K H' vs ds
  | [], _, h => by cases h; exact .nil
  | d :: ds, _, h => by
    cases h with
    | cons h1 h2 => exact .cons (dz_same s d _ h1) (dzAll_same s ds _ h2)
end
theorem dz_kind {K : PySem.W.Frag} {H : Hp} {v : V} {d : PyData} (h : Dz K H v d) : TyX K H v (.type (kindOf d)) := by
  cases h with
  | non => exact .base .non
  | bl b => exact .base (.bl b)
  | int i => exact .base (.int i)
  | str x => exact .base (.str x)
  | lst hs =>
    rcases hs with (hs | ⟨o, hs⟩) | ⟨o, _, _, e, c, _⟩
    · exact .base (.lst hs)
    · exact .base (.frz hs)
    · exact .kList e c
  | tup hs _ =>
    rcases hs with (hs | ⟨o, hs⟩) | ⟨o, _, _, e, c, _⟩
    · exact .base (.tup hs)
    · exact .fTuple hs
    · exact .kTuple e c
  | dic e => exact .base (.dK e)
def rIsZ (K : PySem.W.Frag) (T : String) : List V → Hp → VK → Prop := fun xs H Q => ∃ (v : V) (d : PyData), xs = [v, .ty T] ∧ Dz K H v d ∧ Q (.bl (kindOf d == T || (T == "int" && kindOf d == "bool"))) H
theorem call_isZ {X : Cx} {T : String} (hT : T = "int" ∨ T = "bool" ∨ T = "tuple" ∨ T = "str" ∨ T = "list") : CallR X (.builtin "isinstance") (rIsZ X.K T) := by
  intro pins s σ H xs us Q I r h
  obtain ⟨v, d, rfl, hd, q⟩ := h
  refine call_isi pins s σ H _ us Q I r ⟨v, .ty T, _, _, _, rfl, .ty T, dz_kind hd, kit_ty ?_, q⟩
  rcases hT with rfl | rfl | rfl | rfl | rfl <;> cases d <;> simp only [kindOf] <;> decide +kernel
end L2
namespace L2
open PySem PySem.Spec PyProof.Rows
theorem tuple_mul1 (l : Addr) (items : Array Value) (n : Nat) (dd : Option Addr) (sl : Array (Option Value)) (u : Tok) :
    Meets (Builtin.«tuple.__mul__» ⟨[.ref l, .int 1 u], []⟩) (fun _ R s => s.heap.get? l = some { cls := .type "tuple", dict := dd, data := .seq items n, slots := sl } ∧ R (.ok (.ret (Value.ref l))) s) :=
  .of_wp fun prog w A R s h => by
    obtain ⟨hp, g, d, tk, os⟩ := s
    obtain ⟨hl, h⟩ := h
    have f1 := AutoSeq1.idx_int
    have c0 : (decide ((1 : Int) < -(2 ^ 63)) || decide ((1 : Int) ≥ 2 ^ 63)) = false := by decide
    have c1 : (items.isEmpty || (1 : Int) == 1) = true := by rw [show ((1 : Int) == 1) = true from rfl, Bool.or_true]
    wp_walk using wpAny_loadPart' hl
    repeat (first
      | (refine wpAny_ite_false (decide_eq_false (by rw [c0]; exact Bool.false_ne_true)) ?_; wp_walk using wpAny_loadPart' hl)
      | (refine wpAny_ite_true (decide_eq_true c1) ?_; wp_walk using wpAny_loadPart' hl)
      | (refine wpAny_ite_true (decide_eq_true rfl) ?_; wp_walk using wpAny_loadPart' hl))
    exact ⟨_, rfl, h⟩
theorem tuple_mul0 (l : Addr) (items : Array Value) (n : Nat) (dd : Option Addr) (sl : Array (Option Value)) (x : Int) (u : Tok) (hx : x ≤ 0) (hx2 : -1000 ≤ x) (hi : items.isEmpty = false) :
    Meets (Builtin.«tuple.__mul__» ⟨[.ref l, .int x u], []⟩) (fun _ R s => s.heap.get? l = some { cls := .type "tuple", dict := dd, data := .seq items n, slots := sl } ∧
      R (.ok (.ret (Value.ref s.heap.objs.size))) { s with heap := s.heap.push { cls := Value.type "tuple", data := Data.seq #[] }, toks := s.toks }) :=
  .of_wp fun prog w A R s h => by
    obtain ⟨hp, g, d, tk, os⟩ := s
    obtain ⟨hl, h⟩ := h
    have f1 := AutoSeq1.idx_int
    have c0 : (decide (x < -(2 ^ 63)) || decide (x ≥ 2 ^ 63)) = false := by rw [decide_eq_false (by omega), decide_eq_false (by omega)] <;> rfl
    have c1 : (items.isEmpty || x == 1) = false := by
      rw [hi, Bool.false_or]
      exact beq_eq_false_iff_ne.mpr (by omega)
    have c2 : (decide (x ≤ 0) || items.isEmpty) = true := by rw [decide_eq_true hx, Bool.true_or]
    wp_walk using wpAny_loadPart' hl
    repeat (first
      | (refine wpAny_ite_false (decide_eq_false (by rw [c0]; exact Bool.false_ne_true)) ?_; wp_walk using wpAny_loadPart' hl)
      | (refine wpAny_ite_false (decide_eq_false (by rw [c1]; exact Bool.false_ne_true)) ?_; wp_walk using wpAny_loadPart' hl)
      | (refine wpAny_ite_true (decide_eq_true c2) ?_; wp_walk using wpAny_loadPart' hl))
    exact ⟨_, rfl, h⟩
/-- t * n, t not empty -/
def rRepB (K : PySem.W.Frag) : R2 := fun x y H Q => ∃ l k xs, x = .ref l ∧ y = .int k ∧ SqT K H l xs ∧ xs ≠ [] ∧ -1000 ≤ k ∧ k ≤ 1000 ∧ xs.length ≤ 1000 ∧ (k = 1 → Q (.ref l) H) ∧ (k ≠ 1 → ∀ p, H p = none → Q (.ref p) (upd H p (.tup (List.replicate k.toNat xs).flatten)))
section
variable {X : Cx}
theorem op_repB : OpR X (binaryOp .Mult) (rRepB X.K) := by
  intro pins s σ H x y v u Q I rx ry h
  obtain ⟨l, k, xs, rfl, rfl, hT, hne, h1, h2, hz, q⟩ := h
  by_cases hk : 2 ≤ k
  · exact op_repT pins s σ H _ _ v u Q I rx ry ⟨l, k, xs, rfl, rfl, hT, hne, hk, h2, hz, fun p np => q.2 (by omega) p np⟩
  cases rx
  obtain ⟨t, rfl⟩ := ry
  obtain ⟨its, r, ⟨⟨cls, dd, data, sl⟩, ho, hc, n, hd⟩, hs⟩ := I.tuple hT
  simp only at hc hd
  subst hc hd
  have hle : its.length = xs.length := r.length.symm
  have hn : its ≠ [] := fun e => hne (by
    rw [e] at hle
    exact List.eq_nil_of_length_eq_zero hle.symm)
  have hi : its.toArray.isEmpty = false := by
    cases its with
    | nil => exact absurd rfl hn
    | cons a b => rfl
  by_cases h1' : k = 1
  · subst h1'
    refine wpAny_binaryOp_repeat_ref (T := "tuple") (U := "int") (by decide) ⟨_, ho, rfl⟩ (fun s' => typeIs_int s' 1 t) noFill_tuple_mul F.fills_int_mul F.slot_int_rmul repeat_tuple F.slot_int_index.lookup
      (call_meets F.slot_int_rmul (typeIs_int s 1 t) F.entry_int_rmul (F.args_int_rmul_2 _ _) (int_rmul_tuple 1 t l its.toArray n dd sl)
        ⟨ho, rfl, ⟨_, ho, rfl⟩, call_meets F.slot_tuple_mul ⟨_, ho, rfl⟩ F.entry_tuple_mul (F.args_tuple_mul_2 _ _) (tuple_mul1 l its.toArray n dd sl t) ⟨ho, ?_⟩⟩)
    exact ⟨.ref l, H, I, rfl, q.1 rfl⟩
  · have hk0 : k ≤ 0 := by omega
    refine wpAny_binaryOp_repeat_ref (T := "tuple") (U := "int") (by decide) ⟨_, ho, rfl⟩ (fun s' => typeIs_int s' k t) noFill_tuple_mul F.fills_int_mul F.slot_int_rmul repeat_tuple F.slot_int_index.lookup
      (call_meets F.slot_int_rmul (typeIs_int s k t) F.entry_int_rmul (F.args_int_rmul_2 _ _) (int_rmul_tuple k t l its.toArray n dd sl)
        ⟨ho, rfl, ⟨_, ho, rfl⟩, call_meets F.slot_tuple_mul ⟨_, ho, rfl⟩ F.entry_tuple_mul (F.args_tuple_mul_2 _ _) (tuple_mul0 l its.toArray n dd sl k t hk0 h1 hi) ⟨ho, ?_⟩⟩)
    have e0 : (List.replicate k.toNat xs).flatten = [] := by rw [show k.toNat = 0 by omega]; rfl
    refine ⟨.ref s.heap.objs.size, _, I.laid (t' := s.toks) (o := .tup []) (fun b ob q => Heap.get?_push_of_some _ q) (Nat.le_refl _) ?_, rfl, ?_⟩
    · exact ⟨Nat.zero_le _, [], .nil, IsTup.new _ _⟩
    · have := q.2 h1' s.heap.objs.size (I.hok.fresh (Nat.le_refl _))
      rw [e0] at this
      exact this
end
end L2
namespace L2
open PySem PySem.Spec PyProof.Rows
def tupIt (t : Addr) : Obj := { cls := .type "tuple_iterator", data := .fields #[.ref t, .int 0 0] }
def enumO (it : Addr) : Obj := { cls := .type "enumerate", data := .fields #[.none, .bool false, .ref it, rawInt 0, .none, .none] }
theorem meets_enumT (t : Addr) (items : Array Value) :
    Meets (Builtin.«enumerate.__new__» ⟨[.type "enumerate", .ref t], []⟩) (fun _ R s => s.heap.IsTuple t items ∧ R (.ok (.ret (.ref (s.heap.push (tupIt t)).objs.size))) { s with heap := (s.heap.push (tupIt t)).push (enumO s.heap.objs.size) }) :=
  .of_wp fun prog w A R s h => by
    obtain ⟨hp, g, d, tk, os⟩ := s
    obtain ⟨hl, h⟩ := h
    have hsub := sub_enumerate
    wp_walk using wpAny_of_eq hsub
    refine wpAny_stack_any fun st => wpAny_pure ?_
    split
    · rename_i c _ _ _ _ _
      generalize (c == Value.type "enumerate") = b
      cases b
      · wp_walk using (wpAny_pyIter_tuple hl)
        exact ⟨_, rfl, h⟩
      · wp_walk using (wpAny_pyIter_tuple hl)
        exact ⟨_, rfl, h⟩
    · wp_walk using (wpAny_pyIter_tuple hl)
      exact ⟨_, rfl, h⟩
theorem call_enumerate_tuple {prog : Program} {w : World} {A : Around} {E : Value → Shared → Prop} {s : Shared} {l : Addr} {items : Array Value} {Q : Value → Shared → Prop} (hL : s.heap.IsTuple l items)
    (h : ∀ h' : Heap, IsEnum h' (s.heap.objs.size + 1) s.heap.objs.size 0 Value.none → h'.IsTupleIter s.heap.objs.size l 0 → (∀ (b : Addr) (o : Obj), s.heap.get? b = some o → h'.get? b = some o) →
      Q (.ref (s.heap.objs.size + 1)) { heap := h', gens := s.gens, drawn := s.drawn, toks := s.toks, os := s.os }) :
    wpAny (model prog w) A (call (.type "enumerate") [.ref l]) Q E s := by
  refine callType_new F.called_enumerate (of_decide_eq_true rfl) (F.typeCall_enumerate_1 (.ref l)) (F.newCall_enumerate_1 (.ref l)) (fun obj => F.args_object_init_2 obj (.ref l)) F.entry_enumerate_new (meets_enumT l items) ⟨hL, ?_⟩
  have e1 : (s.heap.push (tupIt l)).objs.size = s.heap.objs.size + 1 := by
    simp [Heap.push]
  have g2 : ((s.heap.push (tupIt l)).push (enumO s.heap.objs.size)).get? (s.heap.objs.size + 1) = some (enumO s.heap.objs.size) := by
    rw [← e1]
    exact Heap.get?_push_size _ rfl
  have g1 : ((s.heap.push (tupIt l)).push (enumO s.heap.objs.size)).get? s.heap.objs.size = some (tupIt l) := by
    exact Heap.get?_push_of_some _ (Heap.get?_push_size _ rfl)
  rw [e1]
  exact ⟨⟨_, g2, rfl⟩, h _ g2 ⟨_, g1, rfl, rfl⟩ (fun b o q => Heap.get?_push_of_some _ (Heap.get?_push_of_some _ q))⟩
/-- the turns of enumerate over a tuple -/
def IteT (K : PySem.W.Frag) (a : Addr) (n : Nat) : It :=
  ⟨fun i H => ∃ xs x, SqT K H a xs ∧ xs.length = n ∧ xs[i]? = some x,
   fun i H v H' => ∃ T x, v = V.ref T ∧ H T = none ∧ H' = upd H T (HO.tup [V.int (i : Int), x]) ∧ ∀ xs, SqT K H a xs → xs[i]? = some x,
   fun i H => n ≤ i ∧ ∃ xs, SqT K H a xs ∧ xs.length = n⟩
theorem tup_is {h : Heap} {a : Addr} {its : Array Value} (p : IsTup h a its) : h.IsTuple a its := by
  obtain ⟨o, h1, h2, h3⟩ := p
  exact ⟨o, h1, h2, h3⟩
theorem turn_enumT {P : Program} {w : World} {K : PySem.W.Frag} {elts : List Expr} {kk : Nat} {tpos : Pos} (a e it : Addr) (n : Nat) :
    Turn P w K (.Tuple elts kk tpos) (IteT K a n) [e, it] e (fun i h => (∃ old, IsEnum h e it (i : Int) old) ∧ h.IsTupleIter it a i ∧ e ≠ it ∧ a ≠ it ∧ a ≠ e ∧ i ≤ n) where
  mem := by simp
  obj := by
    rintro i h ⟨⟨old, he⟩, ⟨o, ho, hc, hd⟩, _⟩ b hb
    simp only [List.mem_cons, List.not_mem_nil, or_false] at hb
    rcases hb with z | z
    · rw [z]
      exact ⟨_, he, fun v q => nomatch q⟩
    · rw [z]
      exact ⟨o, ho, fun v q => by rw [hd] at q; cases q⟩
  keep := by
    rintro i h h' ⟨⟨old, he⟩, hi, n1, n2, n3, n4⟩ k
    exact ⟨⟨old, k e (by simp) _ he⟩, hi.at fun o q => k it (by simp) o q, n1, n2, n3, n4⟩
  item := by
    intro X hP hw hK hc i pins s σ H E I hf st hg
    subst hP hw hK
    obtain ⟨⟨old, he⟩, hit, hne, n2, n3, n4⟩ := st
    obtain ⟨xs, x, hq, hn, hx⟩ := hg
    obtain ⟨its, rv, p, hz⟩ := I.tuple hq
    obtain ⟨u, hu, ru⟩ := Vals.get rv hx
    have hel := Heap.lt_size he
    have hil : it < s.heap.objs.size := by
      obtain ⟨w, q, _⟩ := hit
      exact Heap.lt_size q
    have hi : i < its.toArray.size := by
      rcases Nat.lt_or_ge i its.length with z | z
      · simpa using z
      · rw [List.getElem?_eq_none z] at hu
        cases hu
    have n5 : i + 1 ≤ n := by
      have := (List.getElem?_eq_some_iff.mp hx).1
      omega
    refine wpAny_pyNext_enum_itemD (Draws.tuple (A := X.A.in1) (I.ok.hd hc) it a n2 its.toArray) he ⟨hit, tup_is p⟩ hi hne (by simp [hne, Ne.symm n3]) (fun u' h' tk hu' ho hst hT hsz hk => ?_)
    obtain rfl : u' = u := by
      have h1 : its[i]? = some u' := by simpa using hu'
      rw [hu] at h1
      exact (Option.some.inj h1).symm
    refine ⟨_, rfl, wpAny_letOwnedTupleGo_enum ho fun h'' he' sb => ?_⟩
    have hT2 := (sb.2 s.heap.objs.size (Nat.ne_of_gt hel)).trans hT
    have new : ObjOk X.prog X.w (upd H s.heap.objs.size (.tup [.int (i : Int), x])) h'' s.heap.objs.size (.tup [.int (i : Int), x]) :=
      ⟨(by show 2 ≤ sizeLine; decide), [Value.int (i : Int) tk, u'], .cons ⟨tk, rfl⟩ (.cons ru .nil), _, hT2, rfl, 0, rfl⟩
    have I1 := Inv.turnedNew (t' := tk + 1) (ch := [e, it]) I (fun b ob hb q => (sb.2 b fun z => hb (by simp [z])).trans (hk b ob (fun z => hb (by simp [z])) (fun z => hb (by simp [z])) q)) hf (Nat.le_refl _) new
    refine ⟨V.ref s.heap.objs.size, _, I1, rfl, ⟨_, x, rfl, I.hok.fresh (Nat.le_refl _), rfl, fun ys hy => by rw [Inv.tuple_inj I hy hq]; exact hx⟩, ⟨⟨u', ?_⟩, hst.1.at fun o q => (sb.2 it (Ne.symm hne)).trans q, hne, n2, n3, n5⟩, fun b hb => ?_⟩
    · have e1 : ((i + 1 : Nat) : Int) = (i : Int) + 1 := by omega
      rw [e1]
      exact he'
    · have hb' : b < s.heap.objs.size := by
        simp only [List.mem_cons, List.not_mem_nil, or_false] at hb
        rcases hb with z | z
        · rw [z]; exact hel
        · rw [z]; exact hil
      rw [upd_ne (Nat.ne_of_lt hb')]
      exact (hf b hb).1
  done := by
    intro X hP hw hK hc i pins s σ H E I hf st hg
    subst hP hw hK
    obtain ⟨⟨old, he⟩, hit, hne, n2, n3, n4⟩ := st
    obtain ⟨hx, xs, hq, hn⟩ := hg
    obtain ⟨its, rv, p, hz⟩ := I.tuple hq
    obtain ⟨f0, f1, f2, f3, f4, f5⟩ := hf it (by simp)
    have hl := Vals.length rv
    have en : i = its.toArray.size := by
      have : its.toArray.size = its.length := by simp
      omega
    subst en
    refine wpAny_pyNext_enum_endD (Draws.tuple (A := X.A.in1) (I.ok.hd hc) it a n2 its.toArray) he ⟨hit, tup_is p⟩ (fun h' eb => ⟨rfl, Inv.turned I (fun b o hb q => eb b o hb q) f0 f1 f3 f4 f5⟩)
  self := by
    rintro A i s Q E ⟨⟨old, he⟩, _⟩ h
    exact wpAny_pyIter_enum he h
def iEnumA (K : PySem.W.Frag) (ta : TA) : TI := fun σ H R => ta σ H fun vs H1 => ∃ a xs, vs = [V.ref a] ∧ ((SqL K H1 a xs ∧ R (Ite K a) H1) ∨ (SqT K H1 a xs ∧ R (IteT K a xs.length) H1))
theorem pi_enumA {X : Cx} {e : Expr} {ta : TA} {p pos tpos : Pos} {elts : List Expr} {kk : Nat} (hg : Gl X "enumerate") (hm : X.mg "enumerate" = none) (ha : PA X [e] ta) (hs : starEach [e] X.env = [(false, eval e X.env)] := by rfl) :
    PI X (.Tuple elts kk tpos) (.Call (.Name "enumerate" p) [e] [] pos) (iEnumA X.K ta) := by
  refine ⟨fun pins s σ H R I h => ?_⟩
  refine wpAny_Call_Name_kw (ld_blt I hg hm boot_enumerate (PyProof.Rows.callWith_type1 (thn (ha.run pos pins s σ H _ I h) fun us s1 ⟨vs, H1, I1, r1, q1⟩ => ?_) hs rfl) (by decide) (by decide))
  obtain ⟨a, xs, rfl, q⟩ := q1
  cases r1 with
  | cons r rr =>
    cases rr
    cases r
    have new : ∀ b, b ∈ [s1.heap.objs.size + 1, s1.heap.objs.size] → FpOk X pins H1 b := fun b hb => by
      simp only [List.mem_cons, List.not_mem_nil, or_false] at hb
      have hle : s1.heap.objs.size ≤ b := by
        rcases hb with z | z
        · rw [z]; exact Nat.le_add_right _ 1
        · rw [z]; exact Nat.le_refl _
      exact I1.fpOk hle (I1.hok.fresh hle)
    rcases q with ⟨hq, q⟩ | ⟨hq, q⟩
    · obtain ⟨its, rv, p', hz⟩ := I1.list hq
      refine call_enumerate_list p'.isList fun h' he hit hsz hk => ?_
      refine wpAny_pyIter_enum he ?_
      exact ⟨_, _, _, _, H1, rfl, I1.kept hk, turn_enum a _ _, ⟨⟨_, he⟩, hit, Nat.succ_ne_self _⟩, new, q⟩
    · obtain ⟨its, rv, p', hz⟩ := I1.tuple hq
      have al : a < s1.heap.objs.size := by
        obtain ⟨o, h1, _⟩ := p'
        exact Heap.lt_size h1
      refine call_enumerate_tuple (tup_is p') fun h' he hit hk => ?_
      refine wpAny_pyIter_enum he ?_
      exact ⟨_, _, _, _, H1, rfl, I1.kept hk, turn_enumT a _ _ xs.length, ⟨⟨_, he⟩, hit, Nat.succ_ne_self _, Nat.ne_of_lt al, Nat.ne_of_lt (Nat.lt_succ_of_lt al), Nat.zero_le _⟩, new, q⟩
theorem sum_tup {prog : Program} {w : World} {A : Around} {E : Value → Shared → Prop} {s : Shared} {l : Addr} {its : List Value} {ns : List Int} {Q : Value → Shared → Prop} (hh : A.handled = none) (hl : s.heap.IsTuple l its.toArray) (hi : IntsAre its ns)
    (h : ∀ (h' : Heap) (tk : Nat) (t' : Tok), (∀ (b : Addr) (o : Obj), s.heap.get? b = some o → h'.get? b = some o) → Q (.int ns.sum t') { heap := h', gens := s.gens, drawn := s.drawn, toks := tk, os := s.os }) :
    wpAny (model prog w) A (call (.builtin "sum") [.ref l]) Q E s := by
  obtain ⟨xs, e⟩ := hi.allInts.items
  have hn : numsOf (intItems xs).toList = ns := by
    rw [← e]
    exact hi.numsOf
  have hlt : l < s.heap.objs.size := by
    obtain ⟨o, q, _⟩ := hl
    exact Heap.lt_size q
  refine call_sum_walkG (wpAny_pyIter_tuple hl ?_)
  have g1 : (s.heap.push (tupIt l)).get? s.heap.objs.size = some (tupIt l) := Heap.get?_push_size _ rfl
  have up : ∀ (b : Addr) (o : Obj), s.heap.get? b = some o → (s.heap.push (tupIt l)).get? b = some o := fun b o q => Heap.get?_push_of_some _ q
  have sz : (s.heap.push (tupIt l)).objs.size = s.heap.objs.size + 1 := by simp [Heap.push]
  refine ⟨s.heap.objs.size, _, _, _, _, _, numAt xs, rfl, Walks.tuple (A := A.in1) hh s.heap.objs.size l (Nat.ne_of_lt hlt) its.toArray, ⟨⟨_, g1, rfl, rfl⟩, ?_⟩, fun b hb => ?_, fun i v hv => ?_, fun h' tk t' hk => ?_⟩
  · obtain ⟨o, q1, q2, q3⟩ := hl
    exact ⟨o, up _ _ q1, q2, q3⟩
  · show b < (s.heap.push (tupIt l)).objs.size
    rw [sz]
    simp only [List.mem_cons, List.not_mem_nil, or_false] at hb
    rcases hb with z | z
    · rw [z]
      exact Nat.lt_succ_self _
    · rw [z]
      exact Nat.lt_succ_of_lt hlt
  · rw [e, intItems, Array.getElem?_map] at hv
    rw [numAt]
    cases g : xs[i]? with
    | none =>
      rw [g] at hv
      cases hv
    | some p =>
      rw [g] at hv
      exact ⟨p.2, (Option.some.inj hv).symm⟩
  · have this := h h' tk t' (fun b o q => hk b o (fun z => by
      simp only [List.mem_cons, List.not_mem_nil, or_false] at z
      rw [z] at q
      exact absurd (Heap.lt_size q) (Nat.lt_irrefl _)) (up b o q))
    have sz2 : its.toArray.size = xs.size := by
      rw [e]
      simp [intItems]
    rw [sz2, preSum_eq, List.take_of_length_le (by simp)]
    rw [nums_intItems] at hn
    rw [hn]
    exact this
def rSumA (K : PySem.W.Frag) : List V → Hp → (V → Hp → Prop) → Prop := fun vs H Q => ∃ (a : Addr) (ns : List Int), vs = [V.ref a] ∧ (SqL K H a (ns.map V.int) ∨ SqT K H a (ns.map V.int)) ∧ Q (.int ns.sum) H
theorem cr_sumA {X : Cx} (hc : X.calm = true) : CallR X (.builtin "sum") (rSumA X.K) := by
  intro pins s σ H vs us Q I r h
  obtain ⟨a, ns, rfl, hs, q⟩ := h
  rcases hs with hs | hs
  · exact cr_sum hc pins s σ H _ us Q I r ⟨a, ns, rfl, hs, q⟩
  · obtain ⟨its, rv, hl, _⟩ := I.tuple hs
    rw [Vals.ref1 r]
    exact sum_tup (I.ok.hd hc) (tup_is hl) (Vals.ints rv) fun h' tk t' hk => ⟨V.int ns.sum, H, I.kept hk, ⟨t', rfl⟩, q⟩
end L2
namespace L3
open PySem PySem.Spec PyProof.Rows L2 LamX
section
variable {X : Cx} {W : Wsh}
/-- a value that is read: told, or a list of this def's own -/
def RR (K : PySem.W.Frag) (mg : Str → Option Value) (F H : Hp) (v : V) (d : PV) : Prop := Rp K mg F v d ∨ ∃ a vs ds, v = .ref a ∧ d = .lst ds ∧ H a = some (.lst vs) ∧ RpAll K mg F vs ds
section
variable {K : PySem.W.Frag} {mg : Str → Option Value} {F H F' H' : Hp} {v : V}
theorem RR.int {i : Int} (r : RR K mg F H v (.int i)) : v = .int i := by
  rcases r with r | ⟨_, _, _, _, e, _⟩
  · cases r; rfl
  · cases e
theorem RR.bl {i : Bool} (r : RR K mg F H v (.bl i)) : v = .bl i := by
  rcases r with r | ⟨_, _, _, _, e, _⟩
  · cases r; rfl
  · cases e
theorem RR.str {i : Str} (r : RR K mg F H v (.str i)) : v = .str i := by
  rcases r with r | ⟨_, _, _, _, e, _⟩
  · cases r; rfl
  · cases e
theorem RR.non (r : RR K mg F H v .non) : v = .non := by
  rcases r with r | ⟨_, _, _, _, e, _⟩
  · cases r; rfl
  · cases e
theorem RR.tup {ds : List PV} (r : RR K mg F H v (.tup ds)) : ∃ a vs, v = .ref a ∧ SqT K F a vs ∧ RpAll K mg F vs ds := by
  rcases r with r | ⟨_, _, _, _, e, _⟩
  · cases r with
    | tup h ha => exact ⟨_, _, rfl, h, ha⟩
  · cases e
theorem RR.lst {ds : List PV} (r : RR K mg F H v (.lst ds)) (s : Same F H) : ∃ a vs, v = .ref a ∧ H a = some (.lst vs) ∧ RpAll K mg F vs ds := by
  rcases r with r | ⟨_, _, _, e1, e, h, ha⟩
  · cases r with
    | lst h ha => exact ⟨_, _, rfl, s _ _ h, ha⟩
  · cases e; exact ⟨_, _, e1, h, ha⟩
theorem RR.scr {ds : List PV} (r : RR K mg F H v (.scr ds)) : ∃ a vs, v = .ref a ∧ SqL K F a vs ∧ RpAll K mg F vs ds := by
  rcases r with r | ⟨_, _, _, _, e, _⟩
  · cases r with
    | scr h ha => exact ⟨_, _, rfl, h, ha⟩
  · cases e
end
/-- an operator's reading serves g -/
def OpS (X : Cx) (W : Wsh) (r : R2) (g : PV → PV → M PV) : Prop := ∀ (c : Ct) (F H : Hp) (σ : L2.St) (ρ : Rho) (x y : PV) (v u : V) (Qp : PV → Prop) (R : RS) (Q : VK),
  ER X.K X.mg c F H σ ρ → RR X.K X.mg F H v x → RR X.K X.mg F H u y → g x y Qp R → EQ X c F σ ρ Qp Q → RsOk X W c F R → r v u H Q
theorem EQ.mono {c : Ct} {F F' : Hp} {σ : L2.St} {ρ : Rho} {Qp : PV → Prop} {Q : VK} (h : EQ X c F σ ρ Qp Q) (s : Same F F') : EQ X c F' σ ρ Qp Q := fun d q v H' F2 E s2 r => h d q v H' F2 E (s.trans s2) r
theorem EQ.here {c : Ct} {F H : Hp} {σ : L2.St} {ρ : Rho} {Qp : PV → Prop} {Q : VK} {d : PV} {v : V} (h : EQ X c F σ ρ Qp Q) (q : Qp d) (E : ER X.K X.mg c F H σ ρ) (r : Rp X.K X.mg F v d) : Q v H := h d q v H F E (Same.refl _) r
/-- a new tuple, told -/
theorem EQ.tup {c : Ct} {F H : Hp} {σ : L2.St} {ρ : Rho} {Qp : PV → Prop} {Q : VK} {xs : List V} {ds : List PV} {p : Addr} (h : EQ X c F σ ρ Qp Q) (q : Qp (.tup ds)) (E : ER X.K X.mg c F H σ ρ) (r : RpAll X.K X.mg F xs ds) (hp : H p = none) : Q (.ref p) (upd H p (.tup xs)) :=
  h _ q _ _ _ (E.alloc hp (fun _ z => nomatch z)) (same_new (E.noF hp)) (.tup (SqT.of upd_same) (r.same (same_new (E.noF hp))))
theorem EQ.lst {c : Ct} {F H : Hp} {σ : L2.St} {ρ : Rho} {Qp : PV → Prop} {Q : VK} {xs : List V} {ds : List PV} {p : Addr} (h : EQ X c F σ ρ Qp Q) (q : Qp (.lst ds)) (E : ER X.K X.mg c F H σ ρ) (r : RpAll X.K X.mg F xs ds) (hp : H p = none) : Q (.ref p) (upd H p (.lst xs)) :=
  h _ q _ _ _ (E.alloc hp (fun _ z => nomatch z)) (same_new (E.noF hp)) (.lst upd_same (r.same (same_new (E.noF hp))))
/-- what is wanted of a value that is read: it stays read through what comes between -/
def LQ (X : Cx) (c : Ct) (F : Hp) (σ : L2.St) (ρ : Rho) (Qp : PV → Prop) (Q : VK) : Prop := ∀ d, Qp d → ∀ v H' F', ER X.K X.mg c F' H' σ ρ → Same F F' → (∀ c2 H2 F2, ER X.K X.mg c2 F2 H2 σ ρ → Same F' F2 → RR X.K X.mg F2 H2 v d) → Q v H'
def tR (X : Cx) (W : Wsh) (te : PTE) : TE := fun σ H Q => ∃ c F ρ Qp R, ER X.K X.mg c F H σ ρ ∧ te ρ Qp R ∧ LQ X c F σ ρ Qp Q ∧ RsOk X W c F R
abbrev PPR (X : Cx) (W : Wsh) (e : Expr) (te : PTE) : Prop := PE X e (tR X W te)
theorem PPE.r {e : Expr} {te : PTE} (h : PPE X W e te) : PPR X W e te := PE.imp h fun σ H Q ⟨c, F, ρ, Qp, R, E, t, k, rs⟩ => ⟨c, F, ρ, Qp, R, E, t, fun d q v H' F' E' s r => k d q v H' F' E' s fun _ H2 F2 _ s2 => .inl (r.same s2), rs⟩
theorem tOp_ok {r : R2} {g : PV → PV → M PV} {ta tb : PTE} (hs : OpS X W r g) {σ : L2.St} {H : Hp} {Q : VK} (h : tP X W (fun ρ => ta ρ >>= fun x => tb ρ >>= fun y => g x y) σ H Q) : tOp r (tR X W ta) (tR X W tb) σ H Q := by
  obtain ⟨c, F, ρ, Qp, R, E, t, k, rs⟩ := h
  refine ⟨c, F, ρ, _, R, E, t, fun x qx v H1 F1 E1 s1 r1 => ?_, rs⟩
  refine ⟨c, F1, ρ, _, R, E1, qx, fun y qy u H2 F2 E2 s2 r2 => ?_, rs.mono s1⟩
  exact hs c F2 H2 σ ρ x y v u Qp R Q E2 (r1 _ _ _ E2 s2) (r2 _ _ _ E2 (Same.refl _)) qy (k.mono (s1.trans s2)) (rs.mono (s1.trans s2))
theorem pp_op {op : Operator} {r : R2} {g : PV → PV → M PV} {a b : Expr} {ta tb : PTE} {pos : Pos} (ho : OpR X (binaryOp op) r) (hs : OpS X W r g) (ha : PPR X W a ta) (hb : PPR X W b tb) :
    PPE X W (.BinOp a op b pos) (fun ρ => ta ρ >>= fun x => tb ρ >>= fun y => g x y) := PE.imp (pe_op ho ha hb) fun _ _ _ h => tOp_ok hs h
theorem pp_cmp {op : CmpOp} {r : R2} {g : PV → PV → M PV} {a b : Expr} {ta tb : PTE} {pos : Pos} (ho : OpR X (compareOp op) r) (hs : OpS X W r g) (ha : PPR X W a ta) (hb : PPR X W b tb) (hm : behindInMarks op b = false) :
    PPE X W (.Compare a [op] [b] pos) (fun ρ => ta ρ >>= fun x => tb ρ >>= fun y => g x y) := PE.imp (pe_cmpR ho ha hb hm) fun _ _ _ h => tOp_ok hs h
/-- the two readings of an operator, of unlike kinds of values -/
theorem op_alt {f : Value → Value → Sem Value} {r1 r2 : R2} (h1 : OpR X f r1) (h2 : OpR X f r2) : OpR X f (fun x y H Q => r1 x y H Q ∨ r2 x y H Q) := by
  intro pins s σ H x y v u Q I rx ry h
  rcases h with h | h
  · exact h1 pins s σ H x y v u Q I rx ry h
  · exact h2 pins s σ H x y v u Q I rx ry h
def subM : PV → PV → M PV
  | .int i, .int j => pure (.int (i - j))
  | _, _ => failM
theorem subS : OpS X W (rI0 fun i j => .int (i - j)) subM := by
  intro c F H σ ρ x y v u Qp R Q E r1 r2 g k rs
  cases x <;> cases y <;> first | exact g.elim | skip
  obtain rfl := r1.int
  obtain rfl := r2.int
  exact ⟨_, _, rfl, rfl, k.here g E (.int _)⟩
abbrev Wid (i : Int) : Prop := i.natAbs < 2 ^ 4000
def mulM : PV → PV → M PV
  | .int i, .int j => fun Q _ => Wid i ∧ Wid j ∧ Q (.int (i * j))
  | .tup xs, .int k => fun Q _ => xs ≠ [] ∧ -1000 ≤ k ∧ k ≤ 1000 ∧ xs.length ≤ 1000 ∧ Q (.tup (List.replicate k.toNat xs).flatten)
  | .lst xs, .int k => fun Q _ => -(2 ^ 63) ≤ k ∧ k < 2 ^ 63 ∧ xs.length * k.toNat ≤ sizeLine ∧ Q (.lst (List.replicate k.toNat xs).flatten)
  | _, _ => failM
theorem Wid.log {i : Int} (h : Wid i) : i.natAbs.log2 < 4000 := log_lt h (by decide)
theorem RpAll.rep {K : PySem.W.Frag} {mg : Str → Option Value} {F : Hp} {xs : List V} {ds : List PV} (r : RpAll K mg F xs ds) : ∀ n : Nat, RpAll K mg F (List.replicate n xs).flatten (List.replicate n ds).flatten
  | 0 => .nil
  | n + 1 => by
    rw [List.replicate_succ, List.replicate_succ, List.flatten_cons, List.flatten_cons]
    exact r.append (RpAll.rep r n)
def divM : PV → PV → M PV
  | .int i, .int j => fun Q _ => (0 < j ∧ Wid j) ∧ Q (.int (i / j))
  | _, _ => failM
theorem divS : OpS X W (rI CDivA fun i j => .int (i.fdiv j)) divM := by
  intro c F H σ ρ x y v u Qp R Q E r1 r2 g k rs
  cases x <;> cases y <;> first | exact g.elim | skip
  obtain rfl := r1.int
  obtain rfl := r2.int
  obtain ⟨⟨g1, g2⟩, g3⟩ := g
  refine ⟨_, _, rfl, rfl, ⟨by omega, Nat.lt_trans g2.log (by decide)⟩, ?_⟩
  show Q (V.int (Int.fdiv _ _)) H
  rw [Int.fdiv_eq_ediv_of_nonneg _ (by omega)]
  exact k.here g3 E (.int _)
def modM : PV → PV → M PV
  | .int i, .int j => fun Q _ => 0 < j ∧ Q (.int (i % j))
  | _, _ => failM
theorem modS : OpS X W (rI (fun _ j => 0 < j) fun i j => .int (i % j)) modM := by
  intro c F H σ ρ x y v u Qp R Q E r1 r2 g k rs
  cases x <;> cases y <;> first | exact g.elim | skip
  obtain rfl := r1.int
  obtain rfl := r2.int
  exact ⟨_, _, rfl, rfl, g.1, k.here g.2 E (.int _)⟩
def powM : PV → PV → M PV
  | .int i, .int j => fun Q _ => CPow i j ∧ Q (.int (i ^ j.toNat))
  | _, _ => failM
theorem powS : OpS X W (rI CPow fun i j => .int (i ^ j.toNat)) powM := by
  intro c F H σ ρ x y v u Qp R Q E r1 r2 g k rs
  cases x <;> cases y <;> first | exact g.elim | skip
  obtain rfl := r1.int
  obtain rfl := r2.int
  exact ⟨_, _, rfl, rfl, g.1, k.here g.2 E (.int _)⟩
def shrM : PV → PV → M PV
  | .int i, .int j => fun Q _ => 0 ≤ j ∧ Q (.int (i / 2 ^ j.toNat))
  | _, _ => failM
theorem shrS : OpS X W (rI (fun _ j => 0 ≤ j) fun i j => .int (i / 2 ^ j.toNat)) shrM := by
  intro c F H σ ρ x y v u Qp R Q E r1 r2 g k rs
  cases x <;> cases y <;> first | exact g.elim | skip
  obtain rfl := r1.int
  obtain rfl := r2.int
  exact ⟨_, _, rfl, rfl, g.1, k.here g.2 E (.int _)⟩
def bitM (f : Int → Int → Int) : PV → PV → M PV
  | .int i, .int j => pure (.int (f i j))
  | _, _ => failM
theorem bitS {f : Int → Int → Int} : OpS X W (rI0 fun i j => .int (f i j)) (bitM f) := by
  intro c F H σ ρ x y v u Qp R Q E r1 r2 g k rs
  cases x <;> cases y <;> first | exact g.elim | skip
  obtain rfl := r1.int
  obtain rfl := r2.int
  exact ⟨_, _, rfl, rfl, k.here g E (.int _)⟩
def cmpM (p : Int → Int → Bool) : PV → PV → M PV
  | .int i, .int j => pure (.bl (p i j))
  | _, _ => failM
theorem cmpS {p : Int → Int → Bool} : OpS X W (rI0 fun i j => .bl (p i j)) (cmpM p) := by
  intro c F H σ ρ x y v u Qp R Q E r1 r2 g k rs
  cases x <;> cases y <;> first | exact g.elim | skip
  obtain rfl := r1.int
  obtain rfl := r2.int
  exact ⟨_, _, rfl, rfl, k.here g E (.bl _)⟩
def isNone : PV → Bool
  | .non => true
  | _ => false
theorem rp_none {K : PySem.W.Frag} {mg : Str → Option Value} {F H : Hp} {v : V} {d : PV} (r : RR K mg F H v d) : decide (v = .non) = isNone d := by
  rcases r with r | ⟨_, _, _, rfl, rfl, _⟩
  · cases r <;> simp [isNone]
  · simp [isNone]
def isnM (a : PV) : PV → M PV
  | .non => pure (.bl (isNone a))
  | _ => failM
theorem isnS : OpS X W (fun x y H Q => y = .non ∧ Q (.bl (decide (x = .non))) H) isnM := by
  intro c F H σ ρ x y v u Qp R Q E r1 r2 g k rs
  cases y <;> first | exact g.elim | skip
  refine ⟨r2.non, ?_⟩
  rw [rp_none r1]
  exact k.here g E (.bl _)
def notnM (a : PV) : PV → M PV
  | .non => pure (.bl (!isNone a))
  | _ => failM
theorem notnS : OpS X W (fun x y H Q => y = .non ∧ Q (.bl (!decide (x = .non))) H) notnM := by
  intro c F H σ ρ x y v u Qp R Q E r1 r2 g k rs
  cases y <;> first | exact g.elim | skip
  refine ⟨r2.non, ?_⟩
  rw [rp_none r1]
  exact k.here g E (.bl _)
def isbM : PV → PV → M PV
  | .bl a, .bl b => pure (.bl (decide (a = b)))
  | _, _ => failM
theorem isbS : OpS X W rIsB isbM := by
  intro c F H σ ρ x y v u Qp R Q E r1 r2 g k rs
  cases x <;> cases y <;> first | exact g.elim | skip
  obtain rfl := r1.bl
  obtain rfl := r2.bl
  exact ⟨_, _, rfl, rfl, k.here g E (.bl _)⟩
def notbM : PV → PV → M PV
  | .bl a, .bl b => pure (.bl (!decide (a = b)))
  | _, _ => failM
theorem notbS : OpS X W rNotB notbM := by
  intro c F H σ ρ x y v u Qp R Q E r1 r2 g k rs
  cases x <;> cases y <;> first | exact g.elim | skip
  obtain rfl := r1.bl
  obtain rfl := r2.bl
  exact ⟨_, _, rfl, rfl, k.here g E (.bl _)⟩
def rAddP (K : PySem.W.Frag) : R2 := fun x y H Q => ((rI0 fun i j => .int (i + j)) x y H Q ∨ (∃ i j, x = .str i ∧ y = .str j ∧ i.length + j.length ≤ sizeLine ∧ Q (.str (i ++ j)) H)) ∨ (rCatA K x y H Q ∨ rCat x y H Q)
theorem opAdd : OpR X (binaryOp .Add) (rAddP X.K) := op_alt (op_alt op_add op_add_str) (op_alt op_catA op_cat)
def addM : PV → PV → M PV
  | .int i, .int j => pure (.int (i + j))
  | .str a, .str b => fun Q _ => a.length + b.length ≤ sizeLine ∧ Q (.str (a ++ b))
  | .tup a, .tup b => fun Q _ => a.length + b.length ≤ sizeLine ∧ Q (.tup (a ++ b))
  | .lst a, .lst b => fun Q _ => a.length + b.length ≤ sizeLine ∧ Q (.lst (a ++ b))
  | _, _ => failM
theorem addS : OpS X W (rAddP X.K) addM := by
  intro c F H σ ρ x y v u Qp R Q E r1 r2 g k rs
  cases x with
  | int i => cases y with
    | int j =>
      obtain rfl := r1.int
      obtain rfl := r2.int
      exact .inl (.inl ⟨_, _, rfl, rfl, k.here g E (.int _)⟩)
    | _ => exact g.elim
  | str a => cases y with
    | str b =>
      obtain rfl := r1.str
      obtain rfl := r2.str
      exact .inl (.inr ⟨_, _, rfl, rfl, g.1, k.here g.2 E (.str _)⟩)
    | _ => exact g.elim
  | tup ds => cases y with
    | tup es =>
      obtain ⟨a, xs, rfl, h1, ha⟩ := r1.tup
      obtain ⟨b, ys, rfl, h2, hb⟩ := r2.tup
      obtain ⟨g1, g2⟩ := g
      have l1 := ha.length
      have l2 := hb.length
      refine .inr (.inl ⟨a, b, xs, ys, rfl, rfl, sqT_same E.sub h1, sqT_same E.sub h2, by omega, fun e => ?_, fun n e => ?_, fun n1 n2 p hp => k.tup g2 E (ha.append hb) hp⟩)
      · subst e; cases ha; exact k.here (by simpa using g2) E (.tup h2 hb)
      · subst e; cases hb; exact k.here (by simpa using g2) E (.tup h1 ha)
    | _ => exact g.elim
  | lst ds => cases y with
    | lst es =>
      obtain ⟨a, xs, rfl, h1, ha⟩ := r1.lst E.sub
      obtain ⟨b, ys, rfl, h2, hb⟩ := r2.lst E.sub
      obtain ⟨g1, g2⟩ := g
      have l1 := ha.length
      have l2 := hb.length
      exact .inr (.inr ⟨a, b, xs, ys, rfl, rfl, h1, h2, by omega, fun p hp => k.lst g2 E (ha.append hb) hp⟩)
    | _ => exact g.elim
  | _ => exact g.elim
def rMulP (K : PySem.W.Frag) : R2 := fun x y H Q => (rI CMulW fun i j => .int (i * j)) x y H Q ∨ (rRepB K x y H Q ∨ rRep x y H Q)
theorem opMul : OpR X (binaryOp .Mult) (rMulP X.K) := op_alt op_mulW (op_alt op_repB op_rep)
theorem mulS : OpS X W (rMulP X.K) mulM := by
  intro c F H σ ρ x y v u Qp R Q E r1 r2 g k rs
  cases y with
  | int j =>
    obtain rfl := r2.int
    cases x with
    | int i =>
      obtain rfl := r1.int
      obtain ⟨g1, g2, g3⟩ := g
      refine .inl ⟨_, _, rfl, rfl, ?_, k.here g3 E (.int _)⟩
      have h1 := g1.log
      have h2 := g2.log
      show _ + _ < 1000000
      omega
    | tup ds =>
      obtain ⟨a, xs, rfl, h1, ha⟩ := r1.tup
      obtain ⟨g1, g2, g3, g4, g5⟩ := g
      have l1 := ha.length
      refine .inr (.inl ⟨a, j, xs, rfl, rfl, sqT_same E.sub h1, (fun e => g1 (by subst e; cases ha; rfl)), g2, g3, by omega, fun e => ?_, fun n p hp => k.tup g5 E (ha.rep _) hp⟩)
      subst e
      exact k.here (by simpa [List.replicate] using g5) E (.tup h1 ha)
    | lst ds =>
      obtain ⟨a, xs, rfl, h1, ha⟩ := r1.lst E.sub
      obtain ⟨g2, g3, g4, g5⟩ := g
      have l1 := ha.length
      exact .inr (.inr ⟨a, j, xs, rfl, rfl, h1, g2, g3, by rw [l1]; exact g4, fun p hp => k.lst g5 E (ha.rep _) hp⟩)
    | _ => exact g.elim
  | _ => cases x <;> exact g.elim
mutual
def toD : PV → PyData
  | .non => .none
  | .bl b => .bool b
  | .int i => .int i
  | .str x => .str x
  | .tup xs => .tuple (toDs xs)
  | .lst xs => .list (toDs xs)
  | .scr xs => .list (toDs xs)
  | .dic => .dict []
  | .ins _ _ _ => .dict []
def toDs : List PV → List PyData
  | [] => []
  | x :: xs => toD x :: toDs xs
end
mutual
theorem rp_dp {K : PySem.W.Frag} {mg : Str → Option Value} {F : Hp} : ∀ (d : PV) (v : V), PyData.canLay0 (toD d) = true → Rp K mg F v d → Dp K F v (toD d)
  | .non, _, _, h => by cases h; simp only [toD]; exact .non
  | .bl b, _, _, h => by cases h; simp only [toD]; exact .bl b
  | .int i, _, _, h => by cases h; simp only [toD]; exact .int i
  | .str x, _, _, h => by cases h; simp only [toD]; exact .str x
  | .lst ds, _, p, h => by
    cases h with
    | lst hs ha => simp only [toD]; exact .lst (SqL.of hs) (rp_dps ds _ (by simpa only [toD, PyData.canLay0] using p) ha)
  | .scr ds, _, p, h => by
    cases h with
    | scr hs ha => simp only [toD]; exact .lst hs (rp_dps ds _ (by simpa only [toD, PyData.canLay0] using p) ha)
  | .tup ds, _, p, h => by
    cases h with
    | tup hs ha => simp only [toD]; exact .tup hs (rp_dps ds _ (by simpa only [toD, PyData.canLay0] using p) ha)
  | .dic, _, p, _ => by simp only [toD, PyData.canLay0] at p; cases p
  | .ins _ _ _, _, p, _ => by simp only [toD, PyData.canLay0] at p; cases p
theorem rp_dps {K : PySem.W.Frag} {mg : Str → Option Value} {F : Hp} : ∀ (ds : List PV) (vs : List V), PyData.canLayAll0 (toDs ds) = true → RpAll K mg F vs ds → DpAll K F vs (toDs ds)
  | [], _, _, h => by cases h; simp only [toDs]; exact .nil
  | d :: ds, _, p, h => by
    simp only [toDs, PyData.canLayAll0, Bool.and_eq_true] at p
    cases h with
    | cons h1 h2 => simp only [toDs]; exact .cons (rp_dp d _ p.1 h1) (rp_dps ds _ p.2 h2)
end
/-- data that may be compared -/
abbrev okD (d : PV) : Prop := SeqAt.shaped (toD d) = true
theorem RR.dp {K : PySem.W.Frag} {mg : Str → Option Value} {F H : Hp} {v : V} {d : PV} (r : RR K mg F H v d) (h : okD d) (s : Same F H) : Dp K H v (toD d) := by
  rcases r with r | ⟨a, vs, ds, rfl, rfl, e, ha⟩
  · exact dp_same s _ _ (rp_dp d v (SeqAt.canLay_of_shaped h) r)
  · have p := SeqAt.canLay_of_shaped h
    simp only [toD] at p ⊢
    exact .lst (SqL.of e) (dpAll_same s _ _ (rp_dps ds _ (by simpa only [PyData.canLay0] using p) ha))
theorem Rp.dp {K : PySem.W.Frag} {mg : Str → Option Value} {F H : Hp} {v : V} {d : PV} (r : Rp K mg F v d) (h : okD d) (s : Same F H) : Dp K H v (toD d) := dp_same s _ _ (rp_dp d v (SeqAt.canLay_of_shaped h) r)
abbrev eqP (x y : PV) : Bool := PyData.eqv (toD x) (toD y)
def eqM (x y : PV) : M PV := fun Q _ => (okD x ∧ okD y) ∧ Q (.bl (eqP x y))
def neM (x y : PV) : M PV := fun Q _ => (okD x ∧ okD y) ∧ Q (.bl (!eqP x y))
theorem eqS : OpS X W (rEqD X.K) eqM := by
  intro c F H σ ρ x y v u Qp R Q E r1 r2 g k rs
  exact ⟨_, _, r1.dp g.1.1 E.sub, r2.dp g.1.2 E.sub, g.1.1, g.1.2, k.here g.2 E (.bl _)⟩
theorem neS : OpS X W (rNeD X.K) neM := by
  intro c F H σ ρ x y v u Qp R Q E r1 r2 g k rs
  exact ⟨_, _, r1.dp g.1.1 E.sub, r2.dp g.1.2 E.sub, g.1.1, g.1.2, k.here g.2 E (.bl _)⟩
def itemsOf : PV → List PV
  | .tup xs => xs
  | .lst xs => xs
  | .scr xs => xs
  | _ => []
/-- x in a list of data -/
def inM (x : PV) : PV → M PV
  | .lst ys => fun Q _ => (okD x ∧ okD (.lst ys)) ∧ Q (.bl (ys.any fun z => eqP z x))
  | _ => failM
theorem toDs_map : ∀ xs : List PV, toDs xs = xs.map toD
  | [] => rfl
  | x :: xs => by simp only [toDs, List.map_cons, toDs_map xs]
theorem inS : OpS X W (rInD X.K) inM := by
  intro c F H σ ρ x y v u Qp R Q E r1 r2 g k rs
  cases y with
  | lst es =>
    obtain ⟨⟨g1, g2⟩, g3⟩ := g
    have h := r2.dp g2 E.sub
    simp only [toD] at h
    refine ⟨_, toDs es, r1.dp g1 E.sub, h, g1, g2, ?_⟩
    rw [toDs_map, List.any_map]
    exact k.here g3 E (.bl _)
  | _ => exact g.elim
def notinM (x : PV) : PV → M PV
  | .lst ys => fun Q _ => (okD x ∧ okD (.lst ys)) ∧ Q (.bl (!ys.any fun z => eqP z x))
  | _ => failM
theorem notinS : OpS X W (rNotInD X.K) notinM := by
  intro c F H σ ρ x y v u Qp R Q E r1 r2 g k rs
  cases y with
  | lst es =>
    obtain ⟨⟨g1, g2⟩, g3⟩ := g
    have h := r2.dp g2 E.sub
    simp only [toD] at h
    refine ⟨_, toDs es, r1.dp g1 E.sub, h, g1, g2, ?_⟩
    rw [toDs_map, List.any_map]
    exact k.here g3 E (.bl _)
  | _ => exact g.elim
def ixP (xs : List PV) (i : Int) : M PV := fun Q _ => ∃ d, atI xs i = some d ∧ Q d
def ixM : PV → PV → M PV
  | .tup xs, .int i => ixP xs i
  | .lst xs, .int i => ixP xs i
  | .scr xs, .int i => ixP xs i
  | _, _ => failM
theorem RpAll.at {K : PySem.W.Frag} {mg : Str → Option Value} {F : Hp} {vs : List V} {ds : List PV} {i : Int} {d : PV} (r : RpAll K mg F vs ds) (h : atI ds i = some d) : ∃ v, atI vs i = some v ∧ Rp K mg F v d := by
  unfold atI at h ⊢
  rw [r.length]
  cases e : ixN ds.length i with
  | none => rw [e] at h; cases h
  | some j => rw [e] at h; exact r.get h
theorem ixS : OpS X W (rIx X.K) ixM := by
  intro c F H σ ρ x y v u Qp R Q E r1 r2 g k rs
  cases y with
  | int i =>
    obtain rfl := r2.int
    cases x with
    | tup ds =>
      obtain ⟨a, xs, rfl, h1, ha⟩ := r1.tup
      obtain ⟨d, g1, g2⟩ := g
      obtain ⟨z, e, rz⟩ := ha.at g1
      exact .inr (.inl ⟨_, _, _, _, rfl, rfl, sqT_same E.sub h1, e, k.here g2 E rz⟩)
    | lst ds =>
      obtain ⟨a, xs, rfl, h1, ha⟩ := r1.lst E.sub
      obtain ⟨d, g1, g2⟩ := g
      obtain ⟨z, e, rz⟩ := ha.at g1
      exact .inl ⟨_, _, _, _, rfl, rfl, SqL.of h1, e, k.here g2 E rz⟩
    | scr ds =>
      obtain ⟨a, xs, rfl, h1, ha⟩ := r1.scr
      obtain ⟨d, g1, g2⟩ := g
      obtain ⟨z, e, rz⟩ := ha.at g1
      exact .inl ⟨_, _, _, _, rfl, rfl, E.sub.seq h1, e, k.here g2 E rz⟩
    | _ => exact g.elim
  | _ => cases x <;> exact g.elim
theorem pp_ix {a b : Expr} {ta tb : PTE} {pos : Pos} (ha : PPR X W a ta) (hb : PPR X W b tb) (hs : PlainIx b := by exact fun _ _ => rfl) : PPE X W (.Subscript a b pos) (fun ρ => ta ρ >>= fun x => tb ρ >>= fun y => ixM x y) :=
  PE.imp (pe_ix ix_seq ha hb hs) fun _ _ _ h => tOp_ok ixS h
end
end L3
namespace L3
open PySem PySem.Spec PyProof.Rows L2 LamX
section
variable {X : Cx} {W : Wsh}
def varM (ρ : Rho) (i : Nat) : M PV := match ρ[i]? with
  | some (some (.val d)) => pure d
  | _ => failM
def rdM (ρ : Rho) (i : Nat) : M PV := match ρ[i]? with
  | some (some (.val d)) => pure d
  | some (some (.own ds)) => pure (.lst ds)
  | _ => failM
theorem varM_inv {ρ : Rho} {i : Nat} {Q : PV → Prop} {R : RS} (h : varM ρ i Q R) : ∃ d, ρ[i]? = some (some (.val d)) ∧ Q d := by
  unfold varM at h
  match e : ρ[i]?, h with
  | some (some (.val d)), h => exact ⟨d, rfl, h⟩
  | some (some (.own _)), h => exact h.elim
  | some (some .deal), h => exact h.elim
  | some none, h => exact h.elim
  | none, h => exact h.elim
theorem rdM_inv {ρ : Rho} {i : Nat} {Q : PV → Prop} {R : RS} (h : rdM ρ i Q R) : (∃ d, ρ[i]? = some (some (.val d)) ∧ Q d) ∨ ∃ ds, ρ[i]? = some (some (.own ds)) ∧ Q (.lst ds) := by
  unfold rdM at h
  match e : ρ[i]?, h with
  | some (some (.val d)), h => exact .inl ⟨d, rfl, h⟩
  | some (some (.own ds)), h => exact .inr ⟨ds, rfl, h⟩
  | some (some .deal), h => exact h.elim
  | some none, h => exact h.elim
  | none, h => exact h.elim
theorem pp_var {e : Expr} {i : Nat} (h : PE X e (tVar i)) : PPE X W e (fun ρ => varM ρ i) := PE.imp h fun σ H Q ⟨c, F, ρ, Qp, R, E, t, k, rs⟩ => by
  obtain ⟨d, hd, t⟩ := varM_inv t
  obtain ⟨v, h1, h2⟩ := E.val hd
  exact ⟨v, h1, k.here t E h2⟩
theorem pr_var {e : Expr} {i : Nat} (h : PE X e (tVar i)) : PPR X W e (fun ρ => rdM ρ i) := PE.imp h fun σ H Q ⟨c, F, ρ, Qp, R, E, t, k, rs⟩ => by
  rcases rdM_inv t with ⟨d, hd, t⟩ | ⟨ds, hd, t⟩
  · obtain ⟨v, h1, h2⟩ := E.val hd
    exact ⟨v, h1, k d t v H F E (Same.refl _) fun _ H2 F2 _ s => .inl (h2.same s)⟩
  · obtain ⟨a, vs, h1, h2, h3⟩ := E.own hd
    refine ⟨_, h1, k _ t _ H F E (Same.refl _) fun _ H2 F2 E2 s => ?_⟩
    obtain ⟨a', vs', g1, g2, g3⟩ := E2.own hd
    rw [h1] at g1
    obtain h := Option.some.inj (Option.some.inj g1)
    injection h with h
    subst h
    exact .inr ⟨_, _, _, rfl, rfl, g2, g3⟩
theorem pp_cst {e : Expr} {v : V} {d : PV} (h : PE X e (tC v)) (r : ∀ F, Rp X.K X.mg F v d) : PPE X W e (fun _ => pure d) := PE.imp h fun σ H Q ⟨c, F, ρ, Qp, R, E, t, k, rs⟩ => k.here t E (r F)
theorem pp_int {i : Int} {j pos} : PPE X W (.Constant (.int i) j pos) (fun _ => pure (.int i)) := pp_cst pe_int fun _ => .int i
theorem pp_bl {b : Bool} {j pos} : PPE X W (.Constant (.bool b) j pos) (fun _ => pure (.bl b)) := pp_cst pe_bl fun _ => .bl b
theorem pp_non {j pos} : PPE X W (.Constant .none j pos) (fun _ => pure .non) := pp_cst pe_non fun _ => .non
theorem pp_str {x : Str} {j pos} : PPE X W (.Constant (.str x) j pos) (fun _ => pure (.str x)) := pp_cst pe_str fun _ => .str x
theorem pp_neg {a : Expr} {ta : PTE} {pos : Pos} (ha : PPR X W a ta) : PPE X W (.UnaryOp .USub a pos) (fun ρ => ta ρ >>= fun d => match d with | .int i => pure (.int (-i)) | _ => failM) :=
  PE.imp (pe_un un_neg ha) fun σ H Q ⟨c, F, ρ, Qp, R, E, t, k, rs⟩ => by
    refine ⟨c, F, ρ, _, R, E, t, fun x qx v H1 F1 E1 s1 r1 => ?_, rs⟩
    have r := r1 _ _ _ E1 (Same.refl _)
    cases x with
    | int i =>
      obtain rfl := r.int
      exact ⟨_, rfl, (k.mono s1).here qx E1 (.int _)⟩
    | _ => exact qx.elim
theorem ppa_nil : PPA X W [] (fun _ => pure []) := PA.imp pa_nil fun σ H Q ⟨c, F, ρ, Qp, R, E, t, k, rs⟩ => k [] t [] H F E (Same.refl _) .nil
theorem ppa_cons {e : Expr} {es : List Expr} {te : PTE} {t : Rho → M (List PV)} (ha : PPE X W e te) (hr : PPA X W es t) (hs : starEach (e :: es) X.env = (false, eval e X.env) :: starEach es X.env := by rfl) :
    PPA X W (e :: es) (fun ρ => te ρ >>= fun x => t ρ >>= fun xs => pure (x :: xs)) := PA.imp (pa_cons ha hr hs) fun σ H Q ⟨c, F, ρ, Qp, R, E, t, k, rs⟩ => by
  refine ⟨c, F, ρ, _, R, E, t, fun x qx v H1 F1 E1 s1 r1 => ⟨c, F1, ρ, _, R, E1, qx, fun xs qxs vs H2 F2 E2 s2 r2 => ?_, rs.mono s1⟩, rs⟩
  exact k _ qxs _ H2 F2 E2 (s1.trans s2) (.cons (r1.same s2) r2)
/-- values that are read -/
inductive RRs (K : PySem.W.Frag) (mg : Str → Option Value) (F H : Hp) : List V → List PV → Prop
  | nil : RRs K mg F H [] []
  | cons {v : V} {d : PV} {vs : List V} {ds : List PV} : RR K mg F H v d → RRs K mg F H vs ds → RRs K mg F H (v :: vs) (d :: ds)
def tAR (X : Cx) (W : Wsh) (te : Rho → M (List PV)) : TA := fun σ H Q => ∃ c F ρ Qp R, ER X.K X.mg c F H σ ρ ∧ te ρ Qp R ∧
  (∀ ds, Qp ds → ∀ vs H' F', ER X.K X.mg c F' H' σ ρ → Same F F' → (∀ c2 H2 F2, ER X.K X.mg c2 F2 H2 σ ρ → Same F' F2 → RRs X.K X.mg F2 H2 vs ds) → Q vs H') ∧ RsOk X W c F R
abbrev PAR (X : Cx) (W : Wsh) (es : List Expr) (te : Rho → M (List PV)) : Prop := PA X es (tAR X W te)
theorem par_nil : PAR X W [] (fun _ => pure []) := PA.imp pa_nil fun σ H Q ⟨c, F, ρ, Qp, R, E, t, k, rs⟩ => k [] t [] H F E (Same.refl _) fun _ _ _ _ _ => .nil
theorem par_cons {e : Expr} {es : List Expr} {te : PTE} {t : Rho → M (List PV)} (ha : PPR X W e te) (hr : PAR X W es t) (hs : starEach (e :: es) X.env = (false, eval e X.env) :: starEach es X.env := by rfl) :
    PAR X W (e :: es) (fun ρ => te ρ >>= fun x => t ρ >>= fun xs => pure (x :: xs)) := PA.imp (pa_cons ha hr hs) fun σ H Q ⟨c, F, ρ, Qp, R, E, t, k, rs⟩ => by
  refine ⟨c, F, ρ, _, R, E, t, fun x qx v H1 F1 E1 s1 r1 => ⟨c, F1, ρ, _, R, E1, qx, fun xs qxs vs H2 F2 E2 s2 r2 => ?_, rs.mono s1⟩, rs⟩
  exact k _ qxs _ H2 F2 E2 (s1.trans s2) fun _ H3 F3 E3 s3 => .cons (r1 _ _ _ E3 (s2.trans s3)) (r2 _ _ _ E3 s3)
def tF (X : Cx) (W : Wsh) (te : Rho → M (List PV)) : TE := fun σ H Q => ∃ c F ρ Qp R, ER X.K X.mg c F H σ ρ ∧ te ρ Qp R ∧
  (∀ ds, Qp ds → ∀ a vs H' F', ER X.K X.mg (c.kp a (.lst vs)) F' H' σ ρ → Same F F' → RpAll X.K X.mg F' vs ds → Q (.ref a) H') ∧ RsOk X W c F R
/-- an expression that makes a new list -/
abbrev PF (X : Cx) (W : Wsh) (e : Expr) (te : Rho → M (List PV)) : Prop := PE X e (tF X W te)
def FQ (X : Cx) (c : Ct) (F : Hp) (σ : L2.St) (ρ : Rho) (Qp : List PV → Prop) (Q : VK) : Prop := ∀ ds, Qp ds → ∀ a vs H' F', ER X.K X.mg (c.kp a (.lst vs)) F' H' σ ρ → Same F F' → RpAll X.K X.mg F' vs ds → Q (.ref a) H'
theorem FQ.new {c : Ct} {F H : Hp} {σ : L2.St} {ρ : Rho} {Qp : List PV → Prop} {Q : VK} {xs : List V} {ds : List PV} {p : Addr} (h : FQ X c F σ ρ Qp Q) (q : Qp ds) (E : ER X.K X.mg c F H σ ρ) (r : RpAll X.K X.mg F xs ds) (hp : H p = none) : Q (.ref p) (upd H p (.lst xs)) :=
  h ds q p xs _ F (E.newG hp) (Same.refl _) r
theorem FQ.mono {c : Ct} {F F' : Hp} {σ : L2.St} {ρ : Rho} {Qp : List PV → Prop} {Q : VK} (h : FQ X c F σ ρ Qp Q) (s : Same F F') : FQ X c F' σ ρ Qp Q := fun ds q a vs H' F2 E s2 r => h ds q a vs H' F2 E (s.trans s2) r
theorem PF.pp {e : Expr} {te : Rho → M (List PV)} (h : PF X W e te) : PPE X W e (fun ρ => te ρ >>= fun xs => pure (.lst xs)) := PE.imp h fun σ H Q ⟨c, F, ρ, Qp, R, E, t, k, rs⟩ =>
  ⟨c, F, ρ, _, R, E, t, fun ds q a vs H' F' E' s r => by
    obtain ⟨E2, nf⟩ := E'.tellG
    exact k _ q _ H' _ E2 (s.trans (same_new nf)) (.lst upd_same (r.same (same_new nf))), rs⟩
def fitM (xs : List PV) : M (List PV) := fun Q _ => xs.length ≤ sizeLine ∧ Q xs
theorem pf_lst {es : List Expr} {t : Rho → M (List PV)} {pos : Pos} (h : PPA X W es t) : PF X W (.List es pos) (fun ρ => t ρ >>= fitM) := PE.imp (pe_lst h) fun σ H Q ⟨c, F, ρ, Qp, R, E, t, k, rs⟩ =>
  ⟨c, F, ρ, _, R, E, t, fun ds q vs H' F' E' s r => ⟨by rw [r.length]; exact q.1, fun p hp => FQ.new (FQ.mono k s) q.2 E' r hp⟩, rs⟩
theorem pp_tup {es : List Expr} {t : Rho → M (List PV)} {j} {pos : Pos} (h : PPA X W es t) : PPE X W (.Tuple es j pos) (fun ρ => t ρ >>= fitM >>= fun xs => pure (.tup xs)) := PE.imp (pe_tup h) fun σ H Q ⟨c, F, ρ, Qp, R, E, t, k, rs⟩ =>
  ⟨c, F, ρ, _, R, E, t, fun ds q vs H' F' E' s r => ⟨by rw [r.length]; exact q.1, fun p hp => (EQ.mono k s).tup q.2 E' r hp⟩, rs⟩
def asB : PV → M Bool
  | .bl b => pure b
  | _ => failM
theorem pt_v {e : Expr} {te : PTE} (h : PPE X W e te) (he : ∀ whole, isTrue e X.env whole = (do let v ← whole; standAt e.pos; holding [v] (truthy v)) := by intro _; rfl) : PPT X W e (fun ρ => te ρ >>= asB) :=
  PT.imp (pt_val h he) fun σ H Q ⟨c, F, ρ, Qp, R, E, t, k, rs⟩ => ⟨c, F, ρ, _, R, E, t, fun d q v H' F' E' s r => by
    cases r with
    | bl b => exact ⟨b, rfl, k b q H' F' E' s⟩
    | _ => exact q.elim, rs⟩
theorem pt_cmp {op : CmpOp} {r : R2} {g : PV → PV → M PV} {a b : Expr} {ta tb : PTE} {pos : Pos} (ho : OpR X (compareOp op) r) (hs : OpS X W r g) (ha : PPR X W a ta) (hb : PPR X W b tb) (hm : behindInMarks op b = false) :
    PPT X W (.Compare a [op] [b] pos) (fun ρ => (ta ρ >>= fun x => tb ρ >>= fun y => g x y) >>= asB) := PT.imp (pt_cmpR ho ha hb hm) fun σ H Q ⟨c, F, ρ, Qp, R, E, t, k, rs⟩ => by
  refine tOp_ok hs ⟨c, F, ρ, _, R, E, t, fun d q v H' F' E' s r => ?_, rs⟩
  cases r with
  | bl b => exact ⟨b, rfl, k b q H' F' E' s⟩
  | _ => exact q.elim
theorem pp_chain {op op' : CmpOp} {r r' : R2} {g g' : PV → PV → M PV} {a b d : Expr} {ta tb td : PTE} {pos : Pos} (ho : OpR X (compareOp op) r) (hs : OpS X W r g) (ho' : OpR X (compareOp op') r') (hs' : OpS X W r' g') (ha : PPR X W a ta) (hb : PPR X W b tb) (hd : PPR X W d td)
    (hm : lastMarks [op, op'] [b, d] = false := by with_unfolding_all rfl) :
    PPE X W (.Compare a [op, op'] [b, d] pos) (fun ρ => ta ρ >>= fun x => tb ρ >>= fun y => g x y >>= asB >>= fun k => if k = true then td ρ >>= fun z => g' y z else pure (.bl false)) :=
  PE.imp (pe_chain ho ho' ha hb hd hm) fun σ H Q ⟨c, F, ρ, Qp, R, E, t, k, rs⟩ => by
    refine ⟨c, F, ρ, _, R, E, t, fun x qx v H1 F1 E1 s1 r1 => ⟨c, F1, ρ, _, R, E1, qx, fun y qy u H2 F2 E2 s2 r2 => ?_, rs.mono s1⟩, rs⟩
    refine hs c F2 H2 σ ρ x y v u _ R _ E2 (r1 _ _ _ E2 s2) (r2 _ _ _ E2 (Same.refl _)) qy (fun z qz w' H3 F3 E3 s3 r3 => ?_) (rs.mono (s1.trans s2))
    cases r3 with
    | bl b =>
      refine ⟨b, rfl, ?_⟩
      cases b with
      | false => exact ((EQ.mono k (s1.trans s2)).mono s3).here qz E3 (.bl _)
      | true =>
        refine ⟨c, F3, ρ, _, R, E3, qz, fun z' qz' w2 H4 F4 E4 s4 r4 => ?_, rs.mono ((s1.trans s2).trans s3)⟩
        exact hs' c F4 H4 σ ρ y z' u w2 Qp R Q E4 (r2 _ _ _ E4 (s3.trans s4)) (r4 _ _ _ E4 (Same.refl _)) qz' (((EQ.mono k (s1.trans s2)).mono s3).mono s4) (((rs.mono (s1.trans s2)).mono s3).mono s4)
    | _ => exact qz.elim
theorem pt_chainP {op op' : CmpOp} {r r' : R2} {g g' : PV → PV → M PV} {a b d : Expr} {ta tb td : PTE} {pos : Pos} (ho : OpR X (compareOp op) r) (hs : OpS X W r g) (ho' : OpR X (compareOp op') r') (hs' : OpS X W r' g') (ha : PPR X W a ta) (hb : PPR X W b tb) (hd : PPR X W d td)
    (hm : lastMarks [op, op'] [b, d] = false := by with_unfolding_all rfl) :
    PPT X W (.Compare a [op, op'] [b, d] pos) (fun ρ => (ta ρ >>= fun x => tb ρ >>= fun y => g x y >>= asB >>= fun k => if k = true then td ρ >>= fun z => g' y z else pure (.bl false)) >>= asB) :=
  PT.imp (pt_chain ho ho' ha hb hd hm) fun σ H Q ⟨c, F, ρ, Qp, R, E, t, k, rs⟩ => by
    refine ⟨c, F, ρ, _, R, E, t, fun x qx v H1 F1 E1 s1 r1 => ⟨c, F1, ρ, _, R, E1, qx, fun y qy u H2 F2 E2 s2 r2 => ?_, rs.mono s1⟩, rs⟩
    refine hs c F2 H2 σ ρ x y v u _ R _ E2 (r1 _ _ _ E2 s2) (r2 _ _ _ E2 (Same.refl _)) qy (fun z qz w' H3 F3 E3 s3 r3 => ?_) (rs.mono (s1.trans s2))
    cases r3 with
    | bl b =>
      refine ⟨b, rfl, ?_⟩
      cases b with
      | false => exact ⟨false, rfl, k false qz H3 F3 E3 ((s1.trans s2).trans s3)⟩
      | true =>
        refine ⟨c, F3, ρ, _, R, E3, qz, fun z' qz' w2 H4 F4 E4 s4 r4 => ?_, rs.mono ((s1.trans s2).trans s3)⟩
        refine hs' c F4 H4 σ ρ y z' u w2 _ R _ E4 (r2 _ _ _ E4 (s3.trans s4)) (r4 _ _ _ E4 (Same.refl _)) qz' (fun d' qd w3 H5 F5 E5 s5 r5 => ?_) (((rs.mono (s1.trans s2)).mono s3).mono s4)
        cases r5 with
        | bl b => exact ⟨b, rfl, k b qd H5 F5 E5 ((((s1.trans s2).trans s3).trans s4).trans s5)⟩
        | _ => exact qd.elim
    | _ => exact qz.elim
variable {a b : Expr} {rest : List Expr} {pos : Pos}
theorem pt_not {tA : Rho → M Bool} (ha : PPT X W a tA) : PPT X W (.UnaryOp .Not a pos) (fun ρ => tA ρ >>= fun k => pure (!k)) := PT.imp (L2.pt_not ha) fun σ H Q ⟨c, F, ρ, Qp, R, E, t, k, rs⟩ =>
  ⟨c, F, ρ, _, R, E, t, fun b q H' F' E' s => k _ q H' F' E' s, rs⟩
theorem pw_and1 {tA : Rho → M Bool} (ha : PPT X W a tA) : PPW X W (.BoolOp .And [a] pos) tA := L2.pw_and1 ha
theorem pw_or1 {tA : Rho → M Bool} (ha : PPT X W a tA) : PPW X W (.BoolOp .Or [a] pos) tA := L2.pw_or1 ha
theorem pw_and {tA tB : Rho → M Bool} (ha : PPT X W a tA) (hb : PPW X W (.BoolOp .And (b :: rest) pos) tB) : PPW X W (.BoolOp .And (a :: b :: rest) pos) (fun ρ => tA ρ >>= fun k => if k = true then tB ρ else pure false) :=
  PW.imp (L2.pw_and ha hb) fun σ H Q ⟨c, F, ρ, Qp, R, E, t, k, rs⟩ => ⟨c, F, ρ, _, R, E, t, fun b q H' F' E' s => by
    cases b with
    | true => exact ⟨c, F', ρ, Qp, R, E', q, fun b2 q2 H2 F2 E2 s2 => k b2 q2 H2 F2 E2 (s.trans s2), rs.mono s⟩
    | false => exact k false q H' F' E' s, rs⟩
theorem pw_or {tA tB : Rho → M Bool} (ha : PPT X W a tA) (hb : PPW X W (.BoolOp .Or (b :: rest) pos) tB) : PPW X W (.BoolOp .Or (a :: b :: rest) pos) (fun ρ => tA ρ >>= fun k => if k = true then pure true else tB ρ) :=
  PW.imp (L2.pw_or ha hb) fun σ H Q ⟨c, F, ρ, Qp, R, E, t, k, rs⟩ => ⟨c, F, ρ, _, R, E, t, fun b q H' F' E' s => by
    cases b with
    | false => exact ⟨c, F', ρ, Qp, R, E', q, fun b2 q2 H2 F2 E2 s2 => k b2 q2 H2 F2 E2 (s.trans s2), rs.mono s⟩
    | true => exact k true q H' F' E' s, rs⟩
theorem pp_one {op} {te : PTE} (h : PPE X W a te) : PPE X W (.BoolOp op [a] pos) te := pe_one h
theorem pp_and {ta tb : PTE} (ha : PPE X W a ta) (hb : PPE X W (.BoolOp .And (b :: rest) pos) tb) : PPE X W (.BoolOp .And (a :: b :: rest) pos) (fun ρ => ta ρ >>= asB >>= fun k => if k = true then tb ρ else pure (.bl false)) :=
  PE.imp (pe_and ha hb) fun σ H Q ⟨c, F, ρ, Qp, R, E, t, k, rs⟩ => ⟨c, F, ρ, _, R, E, t, fun d q v H' F' E' s r => by
    cases r with
    | bl b =>
      refine ⟨b, rfl, ?_⟩
      cases b with
      | true => exact ⟨c, F', ρ, Qp, R, E', q, EQ.mono k s, rs.mono s⟩
      | false => exact (EQ.mono k s).here q E' (.bl _)
    | _ => exact q.elim, rs⟩
theorem pp_or {ta tb : PTE} (ha : PPE X W a ta) (hb : PPE X W (.BoolOp .Or (b :: rest) pos) tb) : PPE X W (.BoolOp .Or (a :: b :: rest) pos) (fun ρ => ta ρ >>= asB >>= fun k => if k = true then pure (.bl true) else tb ρ) :=
  PE.imp (pe_or ha hb) fun σ H Q ⟨c, F, ρ, Qp, R, E, t, k, rs⟩ => ⟨c, F, ρ, _, R, E, t, fun d q v H' F' E' s r => by
    cases r with
    | bl b =>
      refine ⟨b, rfl, ?_⟩
      cases b with
      | false => exact ⟨c, F', ρ, Qp, R, E', q, EQ.mono k s, rs.mono s⟩
      | true => exact (EQ.mono k s).here q E' (.bl _)
    | _ => exact q.elim, rs⟩
theorem pp_not {ta : PTE} (ha : PPE X W a ta) : PPE X W (.UnaryOp .Not a pos) (fun ρ => ta ρ >>= asB >>= fun k => pure (.bl (!k))) := PE.imp (pe_not ha) fun σ H Q ⟨c, F, ρ, Qp, R, E, t, k, rs⟩ =>
  ⟨c, F, ρ, _, R, E, t, fun d q v H' F' E' s r => by
    cases r with
    | bl b => exact ⟨b, rfl, (EQ.mono k s).here q E' (.bl _)⟩
    | _ => exact q.elim, rs⟩
theorem pp_if {cnd : Expr} {tc : Rho → M Bool} {ta tb : PTE} (hc : PPT X W cnd tc) (ha : PPE X W a ta) (hb : PPE X W b tb) : PPE X W (.IfExp cnd a b pos) (fun ρ => tc ρ >>= fun k => if k = true then ta ρ else tb ρ) :=
  PE.imp (pe_ifExp hc ha hb) fun σ H Q ⟨c, F, ρ, Qp, R, E, t, k, rs⟩ => ⟨c, F, ρ, _, R, E, t, fun d q H' F' E' s => by
    cases d with
    | true => exact ⟨c, F', ρ, Qp, R, E', q, EQ.mono k s, rs.mono s⟩
    | false => exact ⟨c, F', ρ, Qp, R, E', q, EQ.mono k s, rs.mono s⟩, rs⟩
def CallS (X : Cx) (W : Wsh) (r : List V → Hp → VK → Prop) (g : List PV → M PV) : Prop := ∀ (c : Ct) (F H : Hp) (σ : L2.St) (ρ : Rho) (ds : List PV) (vs : List V) (Qp : PV → Prop) (R : RS) (Q : VK),
  ER X.K X.mg c F H σ ρ → RRs X.K X.mg F H vs ds → g ds Qp R → EQ X c F σ ρ Qp Q → RsOk X W c F R → r vs H Q
def CallF (X : Cx) (W : Wsh) (r : List V → Hp → VK → Prop) (g : List PV → M (List PV)) : Prop := ∀ (c : Ct) (F H : Hp) (σ : L2.St) (ρ : Rho) (ds : List PV) (vs : List V) (Qp : List PV → Prop) (R : RS) (Q : VK),
  ER X.K X.mg c F H σ ρ → RRs X.K X.mg F H vs ds → g ds Qp R → FQ X c F σ ρ Qp Q → RsOk X W c F R → r vs H Q
theorem tCB_ok {r : List V → Hp → VK → Prop} {g : List PV → M PV} {t : Rho → M (List PV)} (hs : CallS X W r g) {σ : L2.St} {H : Hp} {Q : VK} (h : tP X W (fun ρ => t ρ >>= g) σ H Q) : tCB r (tAR X W t) σ H Q := by
  obtain ⟨c, F, ρ, Qp, R, E, t, k, rs⟩ := h
  exact ⟨c, F, ρ, _, R, E, t, fun ds q vs H' F' E' s r => hs c F' H' σ ρ ds vs Qp R Q E' (r _ _ _ E' (Same.refl _)) q (EQ.mono k s) (rs.mono s), rs⟩
theorem tCF_ok {r : List V → Hp → VK → Prop} {g : List PV → M (List PV)} {t : Rho → M (List PV)} (hs : CallF X W r g) {σ : L2.St} {H : Hp} {Q : VK} (h : tF X W (fun ρ => t ρ >>= g) σ H Q) : tCB r (tAR X W t) σ H Q := by
  obtain ⟨c, F, ρ, Qp, R, E, t, k, rs⟩ := h
  exact ⟨c, F, ρ, _, R, E, t, fun ds q vs H' F' E' s r => hs c F' H' σ ρ ds vs Qp R Q E' (r _ _ _ E' (Same.refl _)) q (FQ.mono k s) (rs.mono s), rs⟩
section
variable {e : Expr} {es : List Expr} {x : Str} {id : String} {T : String} {p : Pos} {r : List V → Hp → VK → Prop} {g : List PV → M PV} {gf : List PV → M (List PV)} {t : Rho → M (List PV)}
theorem pp_callB (hc : CallR X (.builtin id) r) (hs : CallS X W r g) (hg : Gl X x) (hm : X.mg x = none) (hv : bootBuiltins x = some (.builtin id)) (ha : PAR X W (e :: es) t) (hn : x ≠ "__name__" := by decide) (hdb : (x == ("__debug__" : Str)) = false := by decide)
    (he : starEach (e :: es) X.env = (false, eval e X.env) :: starEach es X.env := by rfl) (hpl : (backTo pos (starEach es X.env)).any (·.1) = false := by rfl) : PPE X W (.Call (.Name x p) (e :: es) [] pos) (fun ρ => t ρ >>= g) :=
  PE.imp (pe_callB hc hg hm hv ha hn hdb he hpl) fun _ _ _ h => tCB_ok hs h
theorem pp_callTy (hc : CallR X (.type T) r) (hs : CallS X W r g) (hg : Gl X x) (hm : X.mg x = none) (hv : bootBuiltins x = some (.type T)) (ha : PAR X W (e :: es) t) (hn : x ≠ "__name__" := by decide) (hdb : (x == ("__debug__" : Str)) = false := by decide)
    (he : starEach (e :: es) X.env = (false, eval e X.env) :: starEach es X.env := by rfl) (hpl : (backTo pos (starEach es X.env)).any (·.1) = false := by rfl) : PPE X W (.Call (.Name x p) (e :: es) [] pos) (fun ρ => t ρ >>= g) :=
  PE.imp (pe_callTy hc hg hm hv ha hn hdb he hpl) fun _ _ _ h => tCB_ok hs h
theorem pf_callB (hc : CallR X (.builtin id) r) (hs : CallF X W r gf) (hg : Gl X x) (hm : X.mg x = none) (hv : bootBuiltins x = some (.builtin id)) (ha : PAR X W (e :: es) t) (hn : x ≠ "__name__" := by decide) (hdb : (x == ("__debug__" : Str)) = false := by decide)
    (he : starEach (e :: es) X.env = (false, eval e X.env) :: starEach es X.env := by rfl) (hpl : (backTo pos (starEach es X.env)).any (·.1) = false := by rfl) : PF X W (.Call (.Name x p) (e :: es) [] pos) (fun ρ => t ρ >>= gf) :=
  PE.imp (pe_callB hc hg hm hv ha hn hdb he hpl) fun _ _ _ h => tCF_ok hs h
theorem pf_callTy (hc : CallR X (.type T) r) (hs : CallF X W r gf) (hg : Gl X x) (hm : X.mg x = none) (hv : bootBuiltins x = some (.type T)) (ha : PAR X W (e :: es) t) (hn : x ≠ "__name__" := by decide) (hdb : (x == ("__debug__" : Str)) = false := by decide)
    (he : starEach (e :: es) X.env = (false, eval e X.env) :: starEach es X.env := by rfl) (hpl : (backTo pos (starEach es X.env)).any (·.1) = false := by rfl) : PF X W (.Call (.Name x p) (e :: es) [] pos) (fun ρ => t ρ >>= gf) :=
  PE.imp (pe_callTy hc hg hm hv ha hn hdb he hpl) fun _ _ _ h => tCF_ok hs h
end
theorem call_alt {f : Value} {r1 r2 : List V → Hp → VK → Prop} (h1 : CallR X f r1) (h2 : CallR X f r2) : CallR X f (fun xs H Q => r1 xs H Q ∨ r2 xs H Q) := by
  intro pins s σ H xs us Q I r h
  rcases h with h | h
  · exact h1 pins s σ H xs us Q I r h
  · exact h2 pins s σ H xs us Q I r h
end
end L3
namespace L3
open PySem PySem.Spec PyProof.Rows L2 LamX
section
variable {K : PySem.W.Frag} {mg : Str → Option Value} {F H : Hp}
theorem RRs.one {vs : List V} {d : PV} (r : RRs K mg F H vs [d]) : ∃ v, vs = [v] ∧ RR K mg F H v d := by
  cases r with
  | cons h t => cases t; exact ⟨_, rfl, h⟩
theorem RRs.two {vs : List V} {d e : PV} (r : RRs K mg F H vs [d, e]) : ∃ v u, vs = [v, u] ∧ RR K mg F H v d ∧ RR K mg F H u e := by
  cases r with
  | cons h t =>
    obtain ⟨u, rfl, h2⟩ := t.one
    exact ⟨_, _, rfl, h, h2⟩
theorem rpAll_ints : ∀ {ns : List Int} {vs : List V}, RpAll K mg F vs (ns.map PV.int) → vs = ns.map V.int
  | [], _, .nil => rfl
  | n :: ns, _, .cons h t => by cases h; rw [rpAll_ints t]; rfl
theorem rpAll_bls : ∀ {ns : List Bool} {vs : List V}, RpAll K mg F vs (ns.map PV.bl) → vs = ns.map V.bl
  | [], _, .nil => rfl
  | n :: ns, _, .cons h t => by cases h; rw [rpAll_bls t]; rfl
/-- a list or a tuple that is read -/
theorem RR.seq {v : V} {d : PV} {ds : List PV} (r : RR K mg F H v d) (h : d = .lst ds ∨ d = .tup ds ∨ d = .scr ds) (s : Same F H) : ∃ a vs, v = .ref a ∧ (SqL K H a vs ∨ SqT K H a vs) ∧ RpAll K mg F vs ds ∧ (d ≠ .tup ds → SqL K H a vs) := by
  rcases h with rfl | rfl | rfl
  · obtain ⟨a, vs, e, h, ha⟩ := r.lst s; exact ⟨a, vs, e, .inl (SqL.of h), ha, fun _ => SqL.of h⟩
  · obtain ⟨a, vs, e, h, ha⟩ := r.tup; exact ⟨a, vs, e, .inr (sqT_same s h), ha, fun z => absurd rfl z⟩
  · obtain ⟨a, vs, e, h, ha⟩ := r.scr; exact ⟨a, vs, e, .inl (s.seq h), ha, fun _ => s.seq h⟩
end
/-- what a list or a tuple holds -/
def seqM : PV → M (List PV)
  | .lst xs => pure xs
  | .tup xs => pure xs
  | .scr xs => pure xs
  | _ => failM
theorem seqM_inv {d : PV} {Q : List PV → Prop} {R : RS} (h : seqM d Q R) : ∃ ds, (d = .lst ds ∨ d = .tup ds ∨ d = .scr ds) ∧ Q ds := by
  cases d <;> first | exact h.elim | exact ⟨_, .inl rfl, h⟩ | exact ⟨_, .inr (.inl rfl), h⟩ | exact ⟨_, .inr (.inr rfl), h⟩
/-- a list alone -/
def lstM : PV → M (List PV)
  | .lst xs => pure xs
  | .scr xs => pure xs
  | _ => failM
theorem lstM_inv {d : PV} {Q : List PV → Prop} {R : RS} (h : lstM d Q R) : ∃ ds, (d = .lst ds ∨ d = .scr ds) ∧ Q ds := by
  cases d <;> first | exact h.elim | exact ⟨_, .inl rfl, h⟩ | exact ⟨_, .inr rfl, h⟩
/-- ints alone -/
def intsM (ds : List PV) : M (List Int) := fun Q _ => ∃ ns, ds = ns.map PV.int ∧ Q ns
def blsM (ds : List PV) : M (List Bool) := fun Q _ => ∃ ns, ds = ns.map PV.bl ∧ Q ns
def oneM (ds : List PV) : M PV := match ds with
  | [d] => pure d
  | _ => failM
theorem oneM_inv {ds : List PV} {Q : PV → Prop} {R : RS} (h : oneM ds Q R) : ∃ d, ds = [d] ∧ Q d := by
  match ds, h with
  | [d], h => exact ⟨d, rfl, h⟩
def twoM (ds : List PV) : M (PV × PV) := match ds with
  | [d, e] => pure (d, e)
  | _ => failM
theorem twoM_inv {ds : List PV} {Q : PV × PV → Prop} {R : RS} (h : twoM ds Q R) : ∃ d e, ds = [d, e] ∧ Q (d, e) := by
  match ds, h with
  | [d, e], h => exact ⟨d, e, rfl, h⟩
section
variable {X : Cx} {W : Wsh}
def lenM (ds : List PV) : M PV := oneM ds >>= fun d => match d with
  | .str x => fun Q _ => x.length ≤ sizeLine ∧ Q (.int x.length)
  | d => seqM d >>= fun xs => pure (.int xs.length)
theorem lenS : CallS X W (fun xs H Q => ∃ x n, xs = [x] ∧ LenV X.K x H n ∧ Q (.int n) H) lenM := by
  intro c F H σ ρ ds vs Qp R Q E r g k rs
  obtain ⟨d, rfl, g⟩ := oneM_inv g
  obtain ⟨v, rfl, r1⟩ := r.one
  have seq : ∀ d, RR X.K X.mg F H v d → (seqM d >>= fun xs => (pure (.int xs.length) : M PV)) Qp R → ∃ x n, [v] = [x] ∧ LenV X.K x H n ∧ Q (.int n) H := fun d r1 g => by
    obtain ⟨ds, hd, g⟩ := seqM_inv g
    obtain ⟨a, xs, rfl, h, ha, _⟩ := r1.seq hd E.sub
    refine ⟨_, xs.length, rfl, ?_, ?_⟩
    · rcases h with h | h
      · exact .inl ⟨xs, h, rfl⟩
      · exact .inr ⟨xs, h, rfl⟩
    · rw [ha.length]
      exact k.here g E (.int _)
  cases d with
  | str x =>
    obtain rfl := r1.str
    exact ⟨_, _, rfl, ⟨g.1, rfl⟩, k.here g.2 E (.int _)⟩
  | _ => exact seq _ r1 g
def intM (ds : List PV) : M PV := oneM ds >>= fun d => match d with
  | .int i => pure (.int i)
  | .bl b => pure (.int (if b = true then 1 else 0))
  | _ => failM
theorem intS : CallS X W (fun xs H Q => (∃ i, xs = [.int i] ∧ Q (.int i) H) ∨ ∃ k, xs = [.bl k] ∧ Q (.int (if k then 1 else 0)) H) intM := by
  intro c F H σ ρ ds vs Qp R Q E r g k rs
  obtain ⟨d, rfl, g⟩ := oneM_inv g
  obtain ⟨v, rfl, r1⟩ := r.one
  cases d with
  | int i => obtain rfl := r1.int; exact .inl ⟨_, rfl, k.here g E (.int _)⟩
  | bl i => obtain rfl := r1.bl; exact .inr ⟨_, rfl, k.here g E (.int _)⟩
  | _ => exact g.elim
def absM (ds : List PV) : M PV := oneM ds >>= fun d => match d with
  | .int i => pure (.int (if i < 0 then -i else i))
  | _ => failM
theorem absS : CallS X W (fun xs H Q => ∃ i, xs = [.int i] ∧ Q (.int (if i < 0 then -i else i)) H) absM := by
  intro c F H σ ρ ds vs Qp R Q E r g k rs
  obtain ⟨d, rfl, g⟩ := oneM_inv g
  obtain ⟨v, rfl, r1⟩ := r.one
  cases d with
  | int i => obtain rfl := r1.int; exact ⟨_, rfl, k.here g E (.int _)⟩
  | _ => exact g.elim
def sumM (ds : List PV) : M PV := oneM ds >>= seqM >>= intsM >>= fun ns => pure (.int ns.sum)
theorem sumS : CallS X W (rSumA X.K) sumM := by
  intro c F H σ ρ ds vs Qp R Q E r g k rs
  obtain ⟨d, rfl, g⟩ := oneM_inv g
  obtain ⟨v, rfl, r1⟩ := r.one
  obtain ⟨ds, hd, ns, rfl, g⟩ := seqM_inv g
  obtain ⟨a, xs, rfl, h, ha, _⟩ := r1.seq hd E.sub
  obtain rfl := rpAll_ints ha
  exact ⟨a, ns, rfl, h, k.here g E (.int _)⟩
def maxM (ds : List PV) : M PV := oneM ds >>= lstM >>= intsM >>= fun ns => fun Q _ => 0 < ns.length ∧ ∀ m, m ∈ ns → (∀ y, y ∈ ns → y ≤ m) → Q (.int m)
theorem maxS : CallS X W (rMax X.K) maxM := by
  intro c F H σ ρ ds vs Qp R Q E r g k rs
  obtain ⟨d, rfl, g⟩ := oneM_inv g
  obtain ⟨v, rfl, r1⟩ := r.one
  obtain ⟨ds, hd, ns, rfl, g0, g⟩ := lstM_inv g
  obtain ⟨a, xs, rfl, h, ha, h2⟩ := r1.seq (ds := ns.map PV.int) (by rcases hd with e | e; exact .inl e; exact .inr (.inr e)) E.sub
  obtain rfl := rpAll_ints ha
  exact ⟨a, ns, rfl, h2 (by rcases hd with e | e <;> (rw [e]; exact fun z => nomatch z)), g0, fun m h1 h2 => k.here (g m h1 h2) E (.int _)⟩
def minM (ds : List PV) : M PV := oneM ds >>= lstM >>= intsM >>= fun ns => fun Q _ => 0 < ns.length ∧ ∀ m, m ∈ ns → (∀ y, y ∈ ns → m ≤ y) → Q (.int m)
theorem minS : CallS X W (rMin X.K) minM := by
  intro c F H σ ρ ds vs Qp R Q E r g k rs
  obtain ⟨d, rfl, g⟩ := oneM_inv g
  obtain ⟨v, rfl, r1⟩ := r.one
  obtain ⟨ds, hd, ns, rfl, g0, g⟩ := lstM_inv g
  obtain ⟨a, xs, rfl, h, ha, h2⟩ := r1.seq (ds := ns.map PV.int) (by rcases hd with e | e; exact .inl e; exact .inr (.inr e)) E.sub
  obtain rfl := rpAll_ints ha
  exact ⟨a, ns, rfl, h2 (by rcases hd with e | e <;> (rw [e]; exact fun z => nomatch z)), g0, fun m h1 h2 => k.here (g m h1 h2) E (.int _)⟩
def max2M (ds : List PV) : M PV := twoM ds >>= fun p => match p with
  | (.int i, .int j) => pure (.int (if j > i then j else i))
  | _ => failM
theorem max2S : CallS X W (fun xs H Q => ∃ i j, xs = [.int i, .int j] ∧ Q (.int (if j > i then j else i)) H) max2M := by
  intro c F H σ ρ ds vs Qp R Q E r g k rs
  obtain ⟨d, e, rfl, g⟩ := twoM_inv g
  obtain ⟨v, u, rfl, r1, r2⟩ := r.two
  cases d <;> cases e <;> first | exact g.elim | skip
  obtain rfl := r1.int
  obtain rfl := r2.int
  exact ⟨_, _, rfl, k.here g E (.int _)⟩
def min2M (ds : List PV) : M PV := twoM ds >>= fun p => match p with
  | (.int i, .int j) => pure (.int (if j < i then j else i))
  | _ => failM
theorem min2S : CallS X W (fun xs H Q => ∃ i j, xs = [.int i, .int j] ∧ Q (.int (if j < i then j else i)) H) min2M := by
  intro c F H σ ρ ds vs Qp R Q E r g k rs
  obtain ⟨d, e, rfl, g⟩ := twoM_inv g
  obtain ⟨v, u, rfl, r1, r2⟩ := r.two
  cases d <;> cases e <;> first | exact g.elim | skip
  obtain rfl := r1.int
  obtain rfl := r2.int
  exact ⟨_, _, rfl, k.here g E (.int _)⟩
def anyM' (ds : List PV) : M PV := oneM ds >>= lstM >>= blsM >>= fun ns => pure (.bl (ns.any id))
theorem anyS : CallS X W (rAny X.K) anyM' := by
  intro c F H σ ρ ds vs Qp R Q E r g k rs
  obtain ⟨d, rfl, g⟩ := oneM_inv g
  obtain ⟨v, rfl, r1⟩ := r.one
  obtain ⟨ds, hd, ns, rfl, g⟩ := lstM_inv g
  obtain ⟨a, xs, rfl, h, ha, h2⟩ := r1.seq (ds := ns.map PV.bl) (by rcases hd with e | e; exact .inl e; exact .inr (.inr e)) E.sub
  obtain rfl := rpAll_bls ha
  exact ⟨a, ns, rfl, h2 (by rcases hd with e | e <;> (rw [e]; exact fun z => nomatch z)), k.here g E (.bl _)⟩
def allM' (ds : List PV) : M PV := oneM ds >>= lstM >>= blsM >>= fun ns => pure (.bl (ns.all id))
theorem allS : CallS X W (rAll X.K) allM' := by
  intro c F H σ ρ ds vs Qp R Q E r g k rs
  obtain ⟨d, rfl, g⟩ := oneM_inv g
  obtain ⟨v, rfl, r1⟩ := r.one
  obtain ⟨ds, hd, ns, rfl, g⟩ := lstM_inv g
  obtain ⟨a, xs, rfl, h, ha, h2⟩ := r1.seq (ds := ns.map PV.bl) (by rcases hd with e | e; exact .inl e; exact .inr (.inr e)) E.sub
  obtain rfl := rpAll_bls ha
  exact ⟨a, ns, rfl, h2 (by rcases hd with e | e <;> (rw [e]; exact fun z => nomatch z)), k.here g E (.bl _)⟩
def tupM (ds : List PV) : M PV := oneM ds >>= seqM >>= fun xs => pure (.tup xs)
theorem tupS : CallS X W (fun xs H Q => ∃ p ys, xs = [.ref p] ∧ ((SqL X.K H p ys ∧ ∀ l, H l = none → Q (.ref l) (upd H l (.tup ys))) ∨ (SqT X.K H p ys ∧ Q (.ref p) H))) tupM := by
  intro c F H σ ρ ds vs Qp R Q E r g k rs
  obtain ⟨d, rfl, g⟩ := oneM_inv g
  obtain ⟨v, rfl, r1⟩ := r.one
  obtain ⟨ds, hd, g⟩ := seqM_inv g
  rcases hd with rfl | rfl | rfl
  · obtain ⟨a, vs, rfl, h, ha⟩ := r1.lst E.sub
    exact ⟨a, vs, rfl, .inl ⟨SqL.of h, fun p hp => k.tup g E ha hp⟩⟩
  · obtain ⟨a, vs, rfl, h, ha⟩ := r1.tup
    exact ⟨a, vs, rfl, .inr ⟨sqT_same E.sub h, k.here g E (.tup h ha)⟩⟩
  · obtain ⟨a, vs, rfl, h, ha⟩ := r1.scr
    exact ⟨a, vs, rfl, .inl ⟨E.sub.seq h, fun p hp => k.tup g E ha hp⟩⟩
def listM (ds : List PV) : M (List PV) := oneM ds >>= seqM
theorem listF : CallF X W (fun xs H Q => ∃ p ys, xs = [.ref p] ∧ (SqL X.K H p ys ∨ SqT X.K H p ys) ∧ ∀ l, H l = none → Q (.ref l) (upd H l (.lst ys))) listM := by
  intro c F H σ ρ ds vs Qp R Q E r g k rs
  obtain ⟨d, rfl, g⟩ := oneM_inv g
  obtain ⟨v, rfl, r1⟩ := r.one
  obtain ⟨ds, hd, g⟩ := seqM_inv g
  obtain ⟨a, xs, rfl, h, ha, _⟩ := r1.seq hd E.sub
  exact ⟨a, xs, rfl, h, fun l hl => k.new g E ha hl⟩
/-- the one ascending order of some ints -/
def sortI (ns : List Int) : List Int := ns.mergeSort (fun a b => decide (a ≤ b))
theorem sortI_eq {ns ms : List Int} (p : ms.Perm ns) (s : ms.Pairwise (· ≤ ·)) : ms = sortI ns := by
  have h1 : (sortI ns).Pairwise (fun a b => decide (a ≤ b) = true) := List.pairwise_mergeSort (fun a b c h1 h2 => by simp at *; omega) (fun a b => by simp; omega) ns
  refine List.Perm.eq_of_pairwise (le := (· ≤ ·)) (fun a b _ _ h1 h2 => Int.le_antisymm h1 h2) s (h1.imp fun h => of_decide_eq_true h) (p.trans (List.mergeSort_perm _ _).symm)
def sortedM (ds : List PV) : M (List PV) := oneM ds >>= lstM >>= intsM >>= fun ns => pure ((sortI ns).map PV.int)
theorem sortedF : CallF X W (rSortedI X.K) sortedM := by
  intro c F H σ ρ ds vs Qp R Q E r g k rs
  obtain ⟨d, rfl, g⟩ := oneM_inv g
  obtain ⟨v, rfl, r1⟩ := r.one
  obtain ⟨ds, hd, ns, rfl, g⟩ := lstM_inv g
  obtain ⟨a, xs, rfl, h, ha, h2⟩ := r1.seq (ds := ns.map PV.int) (by rcases hd with e | e; exact .inl e; exact .inr (.inr e)) E.sub
  obtain rfl := rpAll_ints ha
  refine ⟨a, ns, rfl, h2 (by rcases hd with e | e <;> (rw [e]; exact fun z => nomatch z)), fun ms p pm sm hp => ?_⟩
  obtain rfl := sortI_eq pm sm
  exact k.new g E (rpAll_int _) hp
abbrev okS (d : PV) : Prop := PyData.canLay0 (toD d) = true ∧ ShowOk (toD d)
abbrev shP (d : PV) : Str := (toD d).shown
def reprM (ds : List PV) : M PV := oneM ds >>= fun d => fun Q _ => okS d ∧ Q (.str (shP d))
theorem RR.dp0 {K : PySem.W.Frag} {mg : Str → Option Value} {F H : Hp} {v : V} {d : PV} (r : RR K mg F H v d) (h : PyData.canLay0 (toD d) = true) (s : Same F H) : Dp K H v (toD d) := by
  rcases r with r | ⟨a, vs, ds, rfl, rfl, e, ha⟩
  · exact dp_same s _ _ (rp_dp d v h r)
  · simp only [toD] at h ⊢
    exact .lst (SqL.of e) (dpAll_same s _ _ (rp_dps ds _ (by simpa only [PyData.canLay0] using h) ha))
theorem reprS : CallS X W (rShow X.K) reprM := by
  intro c F H σ ρ ds vs Qp R Q E r g k rs
  obtain ⟨d, rfl, g⟩ := oneM_inv g
  obtain ⟨v, rfl, r1⟩ := r.one
  exact ⟨v, toD d, rfl, r1.dp0 g.1.1 E.sub, g.1.2, k.here g.2 E (.str _)⟩
def kindP : PV → Option String
  | .non => some "NoneType"
  | .bl _ => some "bool"
  | .int _ => some "int"
  | .str _ => some "str"
  | .tup _ => some "tuple"
  | .lst _ => some "list"
  | .scr _ => some "list"
  | .dic => some "dict"
  | .ins _ _ _ => none
theorem RR.ty {K : PySem.W.Frag} {mg : Str → Option Value} {F H : Hp} {v : V} {d : PV} {t : String} (r : RR K mg F H v d) (s : Same F H) (h : kindP d = some t) : TyX K H v (.type t) := by
  cases d with
  | non => cases h; rw [r.non]; exact .base .non
  | bl b => cases h; rw [r.bl]; exact .base (.bl b)
  | int b => cases h; rw [r.int]; exact .base (.int b)
  | str b => cases h; rw [r.str]; exact .base (.str b)
  | tup ds =>
    cases h
    obtain ⟨a, vs, rfl, hs, _⟩ := r.tup
    rcases sqT_same s hs with (hs | ⟨o, hs⟩) | ⟨o, _, _, e, c, _⟩
    · exact .base (.tup hs)
    · exact .fTuple hs
    · exact .kTuple e c
  | lst ds =>
    cases h
    obtain ⟨a, vs, rfl, hs, _⟩ := r.lst s
    exact .base (.lst hs)
  | scr ds =>
    cases h
    obtain ⟨a, vs, rfl, hs, _⟩ := r.scr
    rcases s.seq hs with (hs | ⟨o, hs⟩) | ⟨o, _, _, e, c, _⟩
    · exact .base (.lst hs)
    · exact .base (.frz hs)
    · exact .kList e c
  | dic =>
    cases h
    rcases r with r | ⟨_, _, _, _, e, _⟩
    · cases r with
      | dic e => exact .base (.dK (s _ _ e))
    · cases e
  | ins _ _ _ => cases h
def isiM (T : String) (d : PV) : M PV := match kindP d with
  | some t => pure (.bl (t == T || (T == "int" && t == "bool")))
  | none => failM
def rIsP (K : PySem.W.Frag) (T : String) : List V → Hp → VK → Prop := fun xs H Q => ∃ (v : V) (t : String), xs = [v, .ty T] ∧ t ∈ ["NoneType", "bool", "int", "str", "tuple", "list", "dict"] ∧ TyX K H v (.type t) ∧ Q (.bl (t == T || (T == "int" && t == "bool"))) H
theorem call_isP' {X : Cx} {T : String} (hT : T ∈ ["int", "bool", "tuple", "str", "list"]) : CallR X (.builtin "isinstance") (rIsP X.K T) := by
  intro pins s σ H xs us Q I r h
  obtain ⟨v, t, rfl, ht, hd, q⟩ := h
  refine call_isi pins s σ H _ us Q I r ⟨v, .ty T, _, _, _, rfl, .ty T, hd, kit_ty ?_, q⟩
  simp only [List.mem_cons, List.not_mem_nil, or_false] at hT ht
  rcases hT with rfl | rfl | rfl | rfl | rfl <;> rcases ht with rfl | rfl | rfl | rfl | rfl | rfl | rfl <;> decide +kernel
theorem kindP_mem {d : PV} {t : String} (h : kindP d = some t) : t ∈ ["NoneType", "bool", "int", "str", "tuple", "list", "dict"] := by
  cases d <;> simp only [kindP, Option.some.injEq, reduceCtorEq] at h <;> subst h <;> decide
theorem isiM_inv {T : String} {d : PV} {Q : PV → Prop} {R : RS} (h : isiM T d Q R) : ∃ t, kindP d = some t ∧ Q (.bl (t == T || (T == "int" && t == "bool"))) := by
  unfold isiM at h
  cases e : kindP d with
  | none => rw [e] at h; exact h.elim
  | some t => rw [e] at h; exact ⟨t, rfl, h⟩
theorem pp_isi {x : Str} {T : String} {e : Expr} {te : PTE} {p1 p2 pos : Pos} (hT : T ∈ ["int", "bool", "tuple", "str", "list"]) (he : PPR X W e te) (gI : Gl X "isinstance") (zI : X.mg "isinstance" = none) (gT : Gl X x) (zT : X.mg x = none) (bT : bootBuiltins x = some (.type T)) (hn : x ≠ "__name__") (hdb : (x == ("__debug__" : Str)) = false)
    (h1 : starEach [e, .Name x p2] X.env = (false, eval e X.env) :: starEach [.Name x p2] X.env := by rfl) (h2 : starEach [.Name x p2] X.env = (false, eval (.Name x p2) X.env) :: starEach [] X.env := by rfl) (h3 : (backTo pos (starEach [.Name x p2] X.env)).any (·.1) = false := by rfl) :
    PPE X W (.Call (.Name "isinstance" p1) [e, .Name x p2] [] pos) (fun ρ => te ρ >>= isiM T) :=
  PE.imp (pe_callB (call_isP' hT) gI zI boot_isinstance (pa_cons he (pa_cons (pe_bltn (v := .ty T) gT zT bT rfl hn hdb) pa_nil h2) h1) (by decide) (by decide) h1 h3) fun σ H Q ⟨c, F, ρ, Qp, R, E, t, k, rs⟩ => by
    refine ⟨c, F, ρ, _, R, E, t, fun d q v H' F' E' s r => ?_, rs⟩
    obtain ⟨t, e, q⟩ := isiM_inv q
    exact ⟨v, t, rfl, kindP_mem e, (r _ _ _ E' (Same.refl _)).ty E'.sub e, (EQ.mono k s).here q E' (.bl _)⟩
/-- isinstance(x, (list, tuple)) -/
def isSqM (d : PV) : M PV := match kindP d with
  | some t => pure (.bl (t == "list" || t == "tuple"))
  | none => failM
theorem isSqM_inv {d : PV} {Q : PV → Prop} {R : RS} (h : isSqM d Q R) : ∃ t, kindP d = some t ∧ Q (.bl (t == "list" || t == "tuple")) := by
  unfold isSqM at h
  cases e : kindP d with
  | none => rw [e] at h; exact h.elim
  | some t => rw [e] at h; exact ⟨t, rfl, h⟩
theorem kitAny_lt' {K : PySem.W.Frag} {t : String} (ht : t ∈ ["NoneType", "bool", "int", "str", "tuple", "list", "dict"]) : PySem.W.kitAny K (.type t) [.type "list", .type "tuple"] = some (t == "list" || t == "tuple") := by
  have h1 : PySem.W.kitOne K (.type t) (.type "list") = some (t == "list") := kit_ty (by
    simp only [List.mem_cons, List.not_mem_nil, or_false] at ht
    rcases ht with rfl | rfl | rfl | rfl | rfl | rfl | rfl <;> decide +kernel)
  have h2 : PySem.W.kitOne K (.type t) (.type "tuple") = some (t == "tuple") := kit_ty (by
    simp only [List.mem_cons, List.not_mem_nil, or_false] at ht
    rcases ht with rfl | rfl | rfl | rfl | rfl | rfl | rfl <;> decide +kernel)
  simp only [PySem.W.kitAny, h1, h2]
  cases t == "list" <;> cases t == "tuple" <;> rfl
theorem pp_isSq {e : Expr} {te : PTE} {j} {p1 p2 p3 p4 pos : Pos} (he : PPR X W e te) (gI : Gl X "isinstance") (zI : X.mg "isinstance" = none) (gl : Gl X "list") (zl : X.mg "list" = none) (gt : Gl X "tuple") (zt : X.mg "tuple" = none)
    (h1 : starEach [e, .Tuple [.Name "list" p2, .Name "tuple" p3] j p4] X.env = (false, eval e X.env) :: starEach [.Tuple [.Name "list" p2, .Name "tuple" p3] j p4] X.env := by rfl) :
    PPE X W (.Call (.Name "isinstance" p1) [e, .Tuple [.Name "list" p2, .Name "tuple" p3] j p4] [] pos) (fun ρ => te ρ >>= isSqM) :=
  PE.imp (pe_callB call_isiT gI zI boot_isinstance (pa_cons he (pa_cons (pe_tup (pa_cons (pe_bltn (v := .ty "list") gl zl (by decide +kernel) rfl) (pa_cons (pe_bltn (v := .ty "tuple") gt zt (by decide +kernel) rfl) pa_nil))) pa_nil) h1) (by decide) (by decide) h1 rfl) fun σ H Q ⟨c, F, ρ, Qp, R, E, t, k, rs⟩ => by
    refine ⟨c, F, ρ, _, R, E, t, fun d q v H' F' E' s r => ?_, rs⟩
    obtain ⟨t, e, q⟩ := isSqM_inv q
    refine ⟨by show 2 ≤ sizeLine; decide, fun p hp => ?_⟩
    have E2 := E'.allocH (o := .tup [.ty "list", .ty "tuple"]) hp
    exact ⟨v, p, _, _, _, _, rfl, upd_same, .cons (.ty _) (.cons (.ty _) .nil), (r _ _ _ E2 (Same.refl _)).ty E2.sub e, kitAny_lt' (kindP_mem e), (EQ.mono k s).here q E2 (.bl _)⟩
end
end L3
namespace L3
open PySem PySem.Spec PyProof.Rows L2 LamX
section
variable {K : PySem.W.Frag} {mg : Str → Option Value} {c : Ct} {F H : Hp} {σ : L2.St} {ρ : Rho}
theorem ER.wd (E : ER K mg c F H σ ρ) : Wd c c.dl F H := by
  obtain ⟨⟨dl, w, _, _⟩, _⟩ := E
  rcases w.dn with e | ⟨e, _⟩
  · rw [← e]; exact w
  · refine ⟨w.sub, w.ntb, w.base, (fun p q z => by rw [e] at z; cases z), .inl rfl, w.fr, w.tab, (fun p hp => ⟨(w.gh p hp).1, (w.gh p hp).2.f, (w.gh p hp).2.h, fun p q z => by rw [e] at z; cases z⟩), w.gl, w.gd⟩
end
def setM (ρ : Rho) (i : Nat) (s : Sl) : M Rho := fun Q _ => i < ρ.length ∧ Q (ρ.set i (some s))
def ownM (ρ : Rho) (i : Nat) : M (List PV) := match ρ[i]? with
  | some (some (.own ds)) => pure ds
  | _ => failM
theorem ownM_inv {ρ : Rho} {i : Nat} {Q : List PV → Prop} {R : RS} (h : ownM ρ i Q R) : ∃ ds, ρ[i]? = some (some (.own ds)) ∧ Q ds := by
  unfold ownM at h
  match e : ρ[i]?, h with
  | some (some (.own ds)), h => exact ⟨ds, rfl, h⟩
  | some (some (.val _)), h => exact h.elim
  | some (some .deal), h => exact h.elim
  | some none, h => exact h.elim
  | none, h => exact h.elim
section
variable {X : Cx} {W : Wsh}
def andThen (f : Fl) (ts : PTS) : M Fl := match f with
  | .nx ρ => ts ρ
  | f => pure f
theorem FlOk.mono {c : Ct} {F F' : Hp} {D : Ends} {f : Fl} (h : FlOk X c F D f) (s : Same F F') : FlOk X c F' D f := by
  cases f with
  | nx ρ => exact fun σ' H' F2 E s2 => h σ' H' F2 E (s.trans s2)
  | bk ρ => exact fun σ' H' F2 E s2 => h σ' H' F2 E (s.trans s2)
  | ct ρ => exact fun σ' H' F2 E s2 => h σ' H' F2 E (s.trans s2)
  | rt d => exact fun v H' F2 w s2 r => h v H' F2 w (s.trans s2) r
theorem pss_nil : PPSs X W [] (fun ρ => pure (.nx ρ)) := PSs.imp L2.pss_nil fun D σ H ⟨c, F, ρ, Qp, R, E, t, k, rs⟩ => k _ t σ H F E (Same.refl _)
theorem pss_cons {st : Stmt} {rest : List Stmt} {t u : PTS} (h1 : PPS X W st t) (h2 : PPSs X W rest u) : PPSs X W (st :: rest) (fun ρ => t ρ >>= fun f => andThen f u) :=
  PSs.imp (L2.pss_cons h1 h2) fun D σ H ⟨c, F, ρ, Qp, R, E, t, k, rs⟩ => ⟨c, F, ρ, _, R, E, t, fun f q => by
    cases f with
    | nx ρ' => exact fun σ' H' F' E' s => ⟨c, F', ρ', Qp, R, E', q, fun f q => (k f q).mono s, rs.mono s⟩
    | bk ρ' => exact k _ q
    | ct ρ' => exact k _ q
    | rt d => exact k _ q, rs⟩
theorem pss_one {st : Stmt} {t : PTS} (h1 : PPS X W st t) : PPSs X W [st] t := L2.pss_one h1
theorem pps_pass {pos : Pos} : PPS X W (.Pass pos) (fun ρ => pure (.nx ρ)) := PS.imp ps_pass fun D σ H ⟨c, F, ρ, Qp, R, E, t, k, rs⟩ => k _ t σ H F E (Same.refl _)
theorem pps_break {pos : Pos} : PPS X W (.Break pos) (fun ρ => pure (.bk ρ)) := PS.imp ps_break fun D σ H ⟨c, F, ρ, Qp, R, E, t, k, rs⟩ => k _ t σ H F E (Same.refl _)
theorem pps_cont {pos : Pos} : PPS X W (.Continue pos) (fun ρ => pure (.ct ρ)) := PS.imp ps_continue fun D σ H ⟨c, F, ρ, Qp, R, E, t, k, rs⟩ => k _ t σ H F E (Same.refl _)
theorem pps_if {cnd : Expr} {a b : List Stmt} {tc : Rho → M Bool} {ta tb : PTS} {pos : Pos} (hc : PPT X W cnd tc) (ha : PPSs X W a ta) (hb : PPSs X W b tb) : PPS X W (.If cnd a b pos) (fun ρ => tc ρ >>= fun k => if k = true then ta ρ else tb ρ) :=
  PS.imp (ps_if hc ha hb) fun D σ H ⟨c, F, ρ, Qp, R, E, t, k, rs⟩ => ⟨c, F, ρ, _, R, E, t, fun b q H' F' E' s => by
    cases b with
    | true => exact ⟨c, F', ρ, Qp, R, E', q, fun f q => (k f q).mono s, rs.mono s⟩
    | false => exact ⟨c, F', ρ, Qp, R, E', q, fun f q => (k f q).mono s, rs.mono s⟩, rs⟩
def tX (X : Cx) (W : Wsh) (te : Rho → M (PV × Rho)) : TE := fun σ H Q => ∃ c F ρ Qp R, ER X.K X.mg c F H σ ρ ∧ te ρ Qp R ∧
  (∀ d ρ', Qp (d, ρ') → ∀ v H' F', ER X.K X.mg c F' H' σ ρ' → Same F F' → Rp X.K X.mg F' v d → Q v H') ∧ RsOk X W c F R
abbrev PXE (X : Cx) (W : Wsh) (e : Expr) (te : Rho → M (PV × Rho)) : Prop := PE X e (tX X W te)
theorem PPE.x {e : Expr} {te : PTE} (h : PPE X W e te) : PXE X W e (fun ρ => te ρ >>= fun d => pure (d, ρ)) := PE.imp h fun σ H Q ⟨c, F, ρ, Qp, R, E, t, k, rs⟩ => ⟨c, F, ρ, _, R, E, t, fun d q v H' F' E' s r => k d ρ q v H' F' E' s r, rs⟩
theorem pps_ret {e : Expr} {te : PTE} {pos : Pos} (h : PPE X W e te) : PPS X W (.Return (some e) pos) (fun ρ => te ρ >>= fun d => pure (.rt d)) := PS.imp (ps_ret h) fun D σ H ⟨c, F, ρ, Qp, R, E, t, k, rs⟩ =>
  ⟨c, F, ρ, _, R, E, t, fun d q v H' F' E' s r => k _ q v H' F' E'.wd s r, rs⟩
theorem pps_retN {pos : Pos} : PPS X W (.Return none pos) (fun _ => pure (.rt .non)) := PS.imp ps_retN fun D σ H ⟨c, F, ρ, Qp, R, E, t, k, rs⟩ => k _ t .non H F E.wd (Same.refl _) .non
/-- return of a list of one's own -/
theorem pps_retO {e : Expr} {i : Nat} {pos : Pos} (h : PE X e (tVar i)) : PPS X W (.Return (some e) pos) (fun ρ => ownM ρ i >>= fun ds => pure (.rt (.lst ds))) := PS.imp (ps_ret h) fun D σ H ⟨c, F, ρ, Qp, R, E, t, k, rs⟩ => by
  obtain ⟨ds, hd, q⟩ := ownM_inv t
  obtain ⟨F', s, E'⟩ := E.frz hd
  have hi : i < ρ.length := (List.getElem?_eq_some_iff.mp hd).1
  obtain ⟨v, h1, h2⟩ := E'.val (List.getElem?_set_self hi)
  exact ⟨v, h1, k _ q v H F' E'.wd s h2⟩
theorem pps_expr {e : Expr} {te : Rho → M (PV × Rho)} {pos : Pos} (h : PXE X W e te) (hs : swapsWith e none pos.line X.env = pure false := by rfl) : PPS X W (.Expr e pos) (fun ρ => te ρ >>= fun p => pure (.nx p.2)) := PS.imp (ps_expr h hs) fun D σ H ⟨c, F, ρ, Qp, R, E, t, k, rs⟩ =>
  ⟨c, F, ρ, _, R, E, t, fun d ρ' q v H' F' E' s r => k _ q σ H' F' E' s, rs⟩
theorem pps_doc {x j pos pos'} : PPS X W (.Expr (.Constant (.str x) j pos) pos') (fun ρ => pure (.nx ρ)) := PS.imp ps_doc fun D σ H ⟨c, F, ρ, Qp, R, E, t, k, rs⟩ => k _ t σ H F E (Same.refl _)
section
variable {i : Nat} {x : Str} {e : Expr} {pos pos' : Pos}
theorem pps_set {te : Rho → M (PV × Rho)} (hN : X.N.Nodup) (hi : X.N[i]? = some x) (hx : Loc X.env.scope x) (h : PXE X W e te) (hs : swapsWith e (some (.Name x pos')) pos.line X.env = pure false := by rfl) (hf : X.fn x = true ∨ X.env.scope.names.lookup x = some .local := by first | exact .inl rfl | exact .inr rfl | assumption) :
    PPS X W (.Assign [.Name x pos'] e pos) (fun ρ => te ρ >>= fun p => setM p.2 i (.val p.1) >>= fun ρ => pure (.nx ρ)) := PS.imp (ps_set hN hi hx h hs hf) fun D σ H ⟨c, F, ρ, Qp, R, E, t, k, rs⟩ =>
  ⟨c, F, ρ, _, R, E, t, fun d ρ' q v H' F' E' s r => k _ q.2 _ H' F' (E'.setVal r q.1) s, rs⟩
theorem pps_setO {te : Rho → M (List PV)} (hN : X.N.Nodup) (hi : X.N[i]? = some x) (hx : Loc X.env.scope x) (h : PF X W e te) (hs : swapsWith e (some (.Name x pos')) pos.line X.env = pure false := by rfl) (hf : X.fn x = true ∨ X.env.scope.names.lookup x = some .local := by first | exact .inl rfl | exact .inr rfl | assumption) :
    PPS X W (.Assign [.Name x pos'] e pos) (fun ρ => te ρ >>= fun ds => setM ρ i (.own ds) >>= fun ρ => pure (.nx ρ)) := PS.imp (ps_set hN hi hx h hs hf) fun D σ H ⟨c, F, ρ, Qp, R, E, t, k, rs⟩ =>
  ⟨c, F, ρ, _, R, E, t, fun ds q a vs H' F' E' s r => k _ q.2 _ H' F' (E'.ownG r q.1) s, rs⟩
/-- x op= e, of plain values -/
theorem pps_aug {te : PTE} {op : Operator} {r : TIp} {g : PV → PV → M PV} (hN : X.N.Nodup) (hi : X.N[i]? = some x) (hx : Loc X.env.scope x) (h : PPR X W e te) (ho : PIp X op r) (hs : OpS X W r g) (hf : X.fn x = true ∨ X.env.scope.names.lookup x = some .local := by first | exact .inl rfl | exact .inr rfl | assumption) :
    PPS X W (.AugAssign (.Name x pos') op e pos) (fun ρ => varM ρ i >>= fun a => te ρ >>= fun b => g a b >>= fun d => setM ρ i (.val d) >>= fun ρ => pure (.nx ρ)) := PS.imp (ps_aug hN hi hx h ho hf) fun D σ H ⟨c, F, ρ, Qp, R, E, t, k, rs⟩ => by
  obtain ⟨d, hd, t⟩ := varM_inv t
  obtain ⟨v, h1, h2⟩ := E.val hd
  refine ⟨v, h1, c, F, ρ, _, R, E, t, fun y q u H1 F1 E1 s1 r1 => ?_, rs⟩
  exact hs c F1 H1 σ ρ d y v u _ R _ E1 (.inl (h2.same s1)) (r1 _ _ _ E1 (Same.refl _)) q (fun z qz w' H2 F2 E2 s2 r2 => k _ qz.2 _ H2 F2 (E2.setVal r2 qz.1) (s1.trans s2)) (rs.mono s1)
end
/-- a step of the proof alone: a list of one's own is told from here on -/
def frzM (ρ : Rho) (i : Nat) : M Rho := match ρ[i]? with
  | some (some (.own ds)) => pure (ρ.set i (some (.val (.lst ds))))
  | _ => pure ρ
theorem frzM_ok {c : Ct} {F H : Hp} {σ : L2.St} {ρ : Rho} {i : Nat} {Q : Rho → Prop} {R : RS} (E : ER X.K X.mg c F H σ ρ) (h : frzM ρ i Q R) : ∃ F' ρ', Same F F' ∧ ER X.K X.mg c F' H σ ρ' ∧ Q ρ' := by
  unfold frzM at h
  match e : ρ[i]?, h with
  | some (some (.own ds)), h =>
    obtain ⟨F', s, E'⟩ := E.frz e
    exact ⟨F', _, s, E', h⟩
  | some (some (.val _)), h => exact ⟨F, ρ, Same.refl _, E, h⟩
  | some (some .deal), h => exact ⟨F, ρ, Same.refl _, E, h⟩
  | some none, h => exact ⟨F, ρ, Same.refl _, E, h⟩
  | none, h => exact ⟨F, ρ, Same.refl _, E, h⟩
theorem pps_frz {st : Stmt} {ts : PTS} (i : Nat) (h : PPS X W st ts) : PPS X W st (fun ρ => frzM ρ i >>= ts) := PS.imp h fun D σ H ⟨c, F, ρ, Qp, R, E, t, k, rs⟩ => by
  obtain ⟨F', ρ', s, E', q⟩ := frzM_ok E t
  exact ⟨c, F', ρ', Qp, R, E', q, fun f q => (k f q).mono s, rs.mono s⟩
section
variable {i : Nat} {e o : Expr} {pos apos cpos : Pos}
/-- xs.append(e) -/
theorem px_append {te : Rho → M (PV × Rho)} (ho : PE X o (tVar i)) (he : PXE X W e te) (hb : attributeBase o "append" X.env (eval o X.env) = eval o X.env := by rfl)
    (hfew : ((backTo cpos (starEach [e] X.env)).all (fun x => !x.1) && (backToKw cpos (keywordEach [] X.env)).all (fun x => x.1.isSome) && decide (([e] : List Expr).length + ([] : List Keyword).length + (if ([] : List Keyword).isEmpty then 0 else 1) < 30)) = true := by rfl)
    (hl : (apos.endLine == cpos.line) = true := by rfl) (hs : starEach [e] X.env = (false, eval e X.env) :: starEach [] X.env := by rfl) :
    PXE X W (.Call (.Attribute o "append" apos) [e] [] cpos) (fun ρ => ownM ρ i >>= fun _ => te ρ >>= fun p => ownM p.2 i >>= fun ds => fun Q _ => (ds.length < sizeLine ∧ i < p.2.length) ∧ Q (.non, p.2.set i (some (.own (ds ++ [p.1]))))) :=
  PE.imp (pe_bm PySem.F.plainAttrs_list PySem.F.slot_list_append PySem.F.type_list_append mt_append ho (pa_cons he pa_nil hs) hb hfew hl hs rfl) fun σ H Q ⟨c, F, ρ, Qp, R, E, t, k, rs⟩ => by
    obtain ⟨ds0, h0, t⟩ := ownM_inv t
    obtain ⟨a, vs0, h1, h2, h3⟩ := E.own h0
    refine ⟨_, h1, .inl ⟨rfl, _, SqL.of h2⟩, c, F, ρ, _, R, E, t, fun d ρ' q v H' F' E' s r => ?_, rs⟩
    obtain ⟨ds, g0, ⟨q1, q2⟩, q3⟩ := ownM_inv q
    obtain ⟨a', vs, g1, g2, g3⟩ := E'.own g0
    rw [h1] at g1
    obtain h := Option.some.inj (Option.some.inj g1)
    injection h with h
    subst h
    refine ⟨a, vs, v, rfl, rfl, g2, by rw [g3.length]; exact q1, ?_⟩
    exact k _ _ q3 _ _ F' (E'.setOwn g0 h1 (g3.snoc r)) s .non
/-- xs.pop() -/
theorem px_pop (ho : PE X o (tVar i)) (hb : attributeBase o "pop" X.env (eval o X.env) = eval o X.env := by rfl) (hl : (apos.endLine == cpos.line) = true := by rfl) :
    PXE X W (.Call (.Attribute o "pop" apos) [] [] cpos) (fun ρ => ownM ρ i >>= fun ds => fun Q _ => ∃ d, ds[ds.length - 1]? = some d ∧ Q (d, ρ.set i (some (.own ds.dropLast)))) :=
  PE.imp (pe_bm0 PySem.F.plainAttrs_list PySem.F.slot_list_pop PySem.F.type_list_pop mt_pop ho hb hl) fun σ H Q ⟨c, F, ρ, Qp, R, E, t, k, rs⟩ => by
    obtain ⟨ds, h0, d, hd, q⟩ := ownM_inv t
    obtain ⟨a, vs, h1, h2, h3⟩ := E.own h0
    obtain ⟨y, hy, ry⟩ := h3.get hd
    refine ⟨_, h1, .inl ⟨rfl, _, SqL.of h2⟩, a, vs, y, rfl, rfl, h2, by rw [h3.length]; exact hy, ?_⟩
    exact k _ _ q _ _ F (E.setOwn h0 h1 h3.dropLast) (Same.refl _) ry
/-- xs.pop(i) -/
theorem px_popAt {te : PTE} (ho : PE X o (tVar i)) (he : PPR X W e te) (hb : attributeBase o "pop" X.env (eval o X.env) = eval o X.env := by rfl)
    (hfew : ((backTo cpos (starEach [e] X.env)).all (fun x => !x.1) && (backToKw cpos (keywordEach [] X.env)).all (fun x => x.1.isSome) && decide (([e] : List Expr).length + ([] : List Keyword).length + (if ([] : List Keyword).isEmpty then 0 else 1) < 30)) = true := by rfl)
    (hl : (apos.endLine == cpos.line) = true := by rfl) (hs : starEach [e] X.env = (false, eval e X.env) :: starEach [] X.env := by rfl) :
    PXE X W (.Call (.Attribute o "pop" apos) [e] [] cpos) (fun ρ => ownM ρ i >>= fun ds => te ρ >>= fun d => match d with
      | .int j => fun Q _ => ∃ d, (0 ≤ j ∧ j < 2 ^ 63 ∧ ds[j.toNat]? = some d) ∧ Q (d, ρ.set i (some (.own (ds.eraseIdx j.toNat))))
      | _ => failM) :=
  PE.imp (pe_bm PySem.F.plainAttrs_list PySem.F.slot_list_pop PySem.F.type_list_pop mt_popAt ho (pa_cons he pa_nil hs) hb hfew hl hs rfl) fun σ H Q ⟨c, F, ρ, Qp, R, E, t, k, rs⟩ => by
    obtain ⟨ds, h0, t⟩ := ownM_inv t
    obtain ⟨a, vs0, h1, h2, h3⟩ := E.own h0
    refine ⟨_, h1, .inl ⟨rfl, _, SqL.of h2⟩, c, F, ρ, _, R, E, t, fun d q v H' F' E' s r => ?_, rs⟩
    have r := r _ _ _ E' (Same.refl _)
    obtain ⟨a', vs, g1, g2, g3⟩ := E'.own h0
    rw [h1] at g1
    obtain h := Option.some.inj (Option.some.inj g1)
    injection h with h
    subst h
    cases d with
    | int j =>
      obtain rfl := r.int
      obtain ⟨d, ⟨q1, q2, q3⟩, q4⟩ := q
      obtain ⟨y, hy, ry⟩ := g3.get q3
      have hlt : j.toNat < vs.length := (List.getElem?_eq_some_iff.mp hy).1
      refine ⟨a, vs, j, j.toNat, y, rfl, rfl, g2, by omega, q2, PySem.StrLaws.seqIndex_nonneg q1 (by omega), hy, ?_⟩
      exact k _ _ q4 _ _ F' (E'.setOwn h0 h1 (g3.erase _)) s ry
    | _ => exact q.elim
/-- xs[i] = e -/
theorem pps_store {ie : Expr} {te : Rho → M (PV × Rho)} {ti : PTE} {pt : Pos} (ho : PE X o (tVar i)) (hi : PPR X W ie ti) (he : PXE X W e te)
    (ha : ∀ v, assign (.Subscript o ie pt) X.env v = (do
      let ov ← holding [v] (eval o X.env)
      let iv ← holding [v, ov] (eval ie X.env)
      standAt pt
      holding [v, ov, iv] (setItem ov iv v)
      release [v, ov, iv] []) := by intro _; rfl)
    (hs : swapsWithSole [.Subscript o ie pt] e pos.line X.env = pure false := by rfl) (hw : swappedStores [.Subscript o ie pt] e X.env = pure none := by rfl) (h1 : (assignEach [.Subscript o ie pt] X.env).map (·.2) = [assign (.Subscript o ie pt) X.env] := by rfl) :
    PPS X W (.Assign [.Subscript o ie pt] e pos) (fun ρ => te ρ >>= fun p => ownM p.2 i >>= fun ds => ti p.2 >>= fun d => match d with
      | .int j => fun Q _ => ∃ n, (ixN ds.length j = some n ∧ i < p.2.length) ∧ Q (.nx (p.2.set i (some (.own (ds.set n p.1)))))
      | _ => failM) :=
  PS.imp (ps_asg he (pg_sub ho hi set_list ha) hs hw h1) fun D σ H ⟨c, F, ρ, Qp, R, E, t, k, rs⟩ => by
    refine ⟨c, F, ρ, _, R, E, t, fun d ρ' q v H1 F1 E1 s1 r1 => ?_, rs⟩
    obtain ⟨ds, h0, q⟩ := ownM_inv q
    obtain ⟨a, vs0, h1, h2, h3⟩ := E1.own h0
    refine ⟨_, h1, c, F1, ρ', _, R, E1, q, fun d2 q2 v2 H2 F2 E2 s2 r2 => ?_, rs.mono s1⟩
    have r2 := r2 _ _ _ E2 (Same.refl _)
    obtain ⟨a', vs, g1, g2, g3⟩ := E2.own h0
    rw [h1] at g1
    obtain h := Option.some.inj (Option.some.inj g1)
    injection h with h
    subst h
    cases d2 with
    | int j =>
      obtain rfl := r2.int
      obtain ⟨n, ⟨q3, q4⟩, q5⟩ := q2
      refine ⟨a, vs, j, n, rfl, rfl, g2, by rw [g3.length]; exact q3, ?_⟩
      exact k _ q5 _ _ F2 (E2.setOwn h0 h1 (g3.set n (r1.same s2))) (s1.trans s2)
    | _ => exact q2.elim
end
end
end L3
namespace L3
open PySem PySem.Spec PyProof.Rows L2 LamX
theorem wipe_get (σ : L2.St) : ∀ (V : List Nat) (i : Nat), (wipe σ V)[i]? = if i ∈ V then (if i < σ.length then some none else none) else σ[i]?
  | [], i => by simp [wipe]
  | v :: V, i => by
    unfold wipe
    rw [List.getElem?_set, wipe_length, wipe_get σ V i]
    by_cases h : v = i
    · subst h; simp
    · have h' : ¬ i = v := fun e => h e.symm
      simp [h, h']
theorem wipe_set {σ : L2.St} {V : List Nat} {i : Nat} {o : Option L2.V} (h : i ∈ V) : wipe (σ.set i o) V = wipe σ V := by
  apply List.ext_getElem?
  intro j
  rw [wipe_get, wipe_get, List.length_set]
  by_cases e : j ∈ V
  · simp [e]
  · have : i ≠ j := fun z => e (z ▸ h)
    simp [e, List.getElem?_set_ne this]
theorem wipe_wipe {σ : L2.St} {V : List Nat} : wipe (wipe σ V) V = wipe σ V := by
  apply List.ext_getElem?
  intro j
  rw [wipe_get, wipe_get, wipe_length]
  by_cases e : j ∈ V <;> simp [e]
theorem wipe_sub {σ : L2.St} {V U : List Nat} (h : ∀ i ∈ U, i ∈ V) : wipe (wipe σ U) V = wipe σ V := by
  apply List.ext_getElem?
  intro j
  rw [wipe_get, wipe_get, wipe_length, wipe_get]
  by_cases e : j ∈ V
  · simp [e]
  · have : j ∉ U := fun z => e (h _ z)
    simp [e, this]
def wipeR (ρ : Rho) : List Nat → Rho
  | [] => ρ
  | v :: V => (wipeR ρ V).set v none
theorem wipeR_length (ρ : Rho) : ∀ V : List Nat, (wipeR ρ V).length = ρ.length
  | [] => rfl
  | v :: V => by unfold wipeR; rw [List.length_set, wipeR_length ρ V]
theorem wipeR_get (ρ : Rho) : ∀ (V : List Nat) (i : Nat), (wipeR ρ V)[i]? = if i ∈ V then (if i < ρ.length then some none else none) else ρ[i]?
  | [], i => by simp [wipeR]
  | v :: V, i => by
    unfold wipeR
    rw [List.getElem?_set, wipeR_length, wipeR_get ρ V i]
    by_cases h : v = i
    · subst h; simp
    · have h' : ¬ i = v := fun e => h e.symm
      simp [h, h']
theorem wipeR_set {ρ : Rho} {V : List Nat} {i : Nat} {o : Option Sl} (h : i ∈ V) : wipeR (ρ.set i o) V = wipeR ρ V := by
  apply List.ext_getElem?
  intro j
  rw [wipeR_get, wipeR_get, List.length_set]
  by_cases e : j ∈ V
  · simp [e]
  · have : i ≠ j := fun z => e (z ▸ h)
    simp [e, List.getElem?_set_ne this]
/-- the slots of V hold nothing of one's own -/
def Nov (ρ : Rho) (V : List Nat) : Prop := ∀ i ∈ V, ∀ s, ρ[i]? = some (some s) → ∃ d, s = .val d
/-- the slots of V are empty -/
def Emp (ρ : Rho) (V : List Nat) : Prop := ∀ i ∈ V, ρ[i]? = some none ∨ ρ[i]? = none
theorem Emp.wipe {ρ : Rho} {V : List Nat} (h : Emp ρ V) : wipeR ρ V = ρ := by
  apply List.ext_getElem?
  intro j
  rw [wipeR_get]
  by_cases e : j ∈ V
  · rw [if_pos e]
    rcases h j e with z | z
    · rw [z, if_pos (List.getElem?_eq_some_iff.mp z).1]
    · rw [z, if_neg (by have := List.getElem?_eq_none_iff.mp z; omega)]
  · rw [if_neg e]
section
variable {K : PySem.W.Frag} {mg : Str → Option Value} {c : Ct} {F H : Hp} {σ : L2.St} {ρ : Rho}
theorem ER.wipe (E : ER K mg c F H σ ρ) : ∀ V : List Nat, ER K mg c F H (L2.wipe σ V) (wipeR ρ V)
  | [] => E
  | v :: V => by unfold L2.wipe wipeR; exact (E.wipe V).drop
theorem ER.unwipe {V : List Nat} (E : ER K mg c F H (L2.wipe σ V) ρ) : ER K mg c F H σ ρ := by
  obtain ⟨⟨dl, w, sl, inj⟩, len⟩ := E
  have get : ∀ i s, ρ[i]? = some (some s) → (L2.wipe σ V)[i]? = σ[i]? := fun i s e => by
    obtain ⟨v, h1, _⟩ := sl i s e
    rw [h1]
    exact (wipe_some h1).1.symm
  refine ⟨⟨dl, w, fun i s e => ?_, fun i j a xs ys e1 e2 e3 e4 => ?_⟩, by rw [len, wipe_length]⟩
  · obtain ⟨v, h1, h2⟩ := sl i s e
    exact ⟨v, (wipe_some h1).1, h2⟩
  · exact inj i j a xs ys e1 e2 (by rw [get i _ e1]; exact e3) (by rw [get j _ e2]; exact e4)
/-- the block is left: its own slots are again as they were -/
theorem ER.merge {c' : Ct} {F' H' : Hp} {V : List Nat} (E0 : ER K mg c F H σ ρ) (E : ER K mg c' F' H' (L2.wipe σ V) (wipeR ρ V)) (s : Same F F') (nov : Nov ρ V) : ER K mg c' F' H' σ ρ := by
  obtain ⟨⟨dl0, w0, sl0, inj0⟩, len0⟩ := E0
  obtain ⟨⟨dl, w, sl, inj⟩, len⟩ := E
  have out : ∀ i, i ∉ V → (wipeR ρ V)[i]? = ρ[i]? ∧ (L2.wipe σ V)[i]? = σ[i]? := fun i h => by rw [wipeR_get, wipe_get, if_neg h, if_neg h]; exact ⟨rfl, rfl⟩
  have own : ∀ i xs, ρ[i]? = some (some (Sl.own xs)) → i ∉ V := fun i xs e h => by
    obtain ⟨d, z⟩ := nov i h _ e
    cases z
  refine ⟨⟨dl, w, fun i s' e => ?_, fun i j a xs ys e1 e2 e3 e4 => ?_⟩, len0⟩
  · by_cases h : i ∈ V
    · obtain ⟨d, rfl⟩ := nov i h _ e
      obtain ⟨v, h1, h2⟩ := sl0 i _ e
      exact ⟨v, h1, Rp.same h2 s⟩
    · obtain ⟨o1, o2⟩ := out i h
      rw [← o1] at e
      rw [← o2]
      exact sl i s' e
  · obtain ⟨o1, o2⟩ := out i (own i xs e1)
    obtain ⟨o3, o4⟩ := out j (own j ys e2)
    exact inj i j a xs ys (o1.trans e1) (o3.trans e2) (o2.trans e3) (o4.trans e4)
theorem ER.wiped {V : List Nat} (E : ER K mg c F H σ ρ) (h : Emp ρ V) : ER K mg c F H (L2.wipe σ V) ρ := by
  have := E.wipe V
  rw [h.wipe] at this
  exact this
end
section
variable {X : Cx} {W : Wsh}
abbrev PTG := PV → Rho → M Rho
def tG (X : Cx) (is : List Nat) (g : PTG) : TG := fun v σ H Q => ∃ c F ρ d Qp R, ER X.K X.mg c F H σ ρ ∧ Rp X.K X.mg F v d ∧ g d ρ Qp R ∧
  ∀ ρ', Qp ρ' → (∀ V, (∀ i ∈ is, i ∈ V) → wipeR ρ' V = wipeR ρ V) → ∀ σ' H' F', ER X.K X.mg c F' H' σ' ρ' → Same F F' → (∀ V, (∀ i ∈ is, i ∈ V) → wipe σ' V = wipe σ V) → Q σ' H'
abbrev PPG (X : Cx) (tg : Expr) (is : List Nat) (g : PTG) : Prop := PG X tg (tG X is g)
theorem PG.imp {e : Expr} {t t' : TG} (h : PG X e t) (k : ∀ v σ H Q, t' v σ H Q → t v σ H Q) : PG X e t' := ⟨fun pins s σ H v u Q I r q => h.run pins s σ H v u Q I r (k v σ H Q q)⟩
theorem PGs.imp {es : List Expr} {t t' : TGs} (h : PGs X es t) (k : ∀ v σ H Q, t' v σ H Q → t v σ H Q) : PGs X es t' := ⟨fun pins s σ H v u Q I r q => h.run pins s σ H v u Q I r (k v σ H Q q)⟩
theorem ppg_name {tg : Expr} {i : Nat} (h : PG X tg (gName i)) : PPG X tg [i] (fun d ρ => setM ρ i (.val d)) := PG.imp h fun v σ H Q ⟨c, F, ρ, d, Qp, R, E, r, q, k⟩ =>
  k _ q.2 (fun V hV => wipeR_set (hV i (by simp))) _ H F (E.setVal r q.1) (Same.refl _) (fun V hV => wipe_set (hV i (by simp)))
/-- several targets -/
def tGs (X : Cx) (is : List Nat) (g : List PV → Rho → M Rho) : TGs := fun vs σ H Q => ∃ c F ρ ds Qp R, ER X.K X.mg c F H σ ρ ∧ RpAll X.K X.mg F vs ds ∧ g ds ρ Qp R ∧
  ∀ ρ', Qp ρ' → (∀ V, (∀ i ∈ is, i ∈ V) → wipeR ρ' V = wipeR ρ V) → ∀ σ' H' F', ER X.K X.mg c F' H' σ' ρ' → Same F F' → (∀ V, (∀ i ∈ is, i ∈ V) → wipe σ' V = wipe σ V) → Q σ' H'
abbrev PPGs (X : Cx) (es : List Expr) (is : List Nat) (g : List PV → Rho → M Rho) : Prop := PGs X es (tGs X is g)
def unNil (ds : List PV) (ρ : Rho) : M Rho := match ds with
  | [] => pure ρ
  | _ => failM
def unCons (g : PTG) (gs : List PV → Rho → M Rho) (ds : List PV) (ρ : Rho) : M Rho := match ds with
  | d :: ds => g d ρ >>= fun ρ' => gs ds ρ'
  | _ => failM
theorem ppgs_nil : PPGs X [] [] unNil := PGs.imp pgs_nil fun vs σ H Q ⟨c, F, ρ, ds, Qp, R, E, r, q, k⟩ => by
  cases r with
  | nil => exact ⟨rfl, k ρ q (fun _ _ => rfl) σ H F E (Same.refl _) fun _ _ => rfl⟩
  | cons _ _ => exact q.elim
theorem ppgs_cons {e : Expr} {es : List Expr} {is js : List Nat} {g : PTG} {gs : List PV → Rho → M Rho} (h1 : PPG X e is g) (h2 : PPGs X es js gs) (hs : (assignEach (e :: es) X.env).map (·.2) = assign e X.env :: (assignEach es X.env).map (·.2) := by rfl) :
    PPGs X (e :: es) (is ++ js) (unCons g gs) := PGs.imp (pgs_cons h1 h2 hs) fun vs σ H Q ⟨c, F, ρ, ds, Qp, R, E, r, q, k⟩ => by
  cases r with
  | nil => exact q.elim
  | cons r rr =>
    refine ⟨_, _, rfl, c, F, ρ, _, _, R, E, r, q, fun ρ' q' w1 σ' H' F' E' s w2 => ?_⟩
    refine ⟨c, F', ρ', _, _, R, E', rr.same s, q', fun ρ2 q2 w3 σ2 H2 F2 E2 s2 w4 => ?_⟩
    exact k ρ2 q2 (fun V hV => (w3 V fun i hi => hV i (by simp [hi])).trans (w1 V fun i hi => hV i (by simp [hi]))) σ2 H2 F2 E2 (s.trans s2)
      (fun V hV => (w4 V fun i hi => hV i (by simp [hi])).trans (w2 V fun i hi => hV i (by simp [hi])))
def unTup (n : Nat) (gs : List PV → Rho → M Rho) : PTG := fun d ρ => match d with
  | .tup ds => fun Q R => ds.length = n ∧ gs ds ρ Q R
  | _ => failM
theorem ppg_tup {es : List Expr} {is : List Nat} {gs : List PV → Rho → M Rho} {n : Nat} {j} {pos : Pos} (hc : X.calm = true) (h : PPGs X es is gs) (hn : (assignEach es X.env).length = n := by rfl) (hst : (assignEach es X.env).findIdx? (·.1) = none := by rfl) :
    PPG X (.Tuple es j pos) is (unTup n gs) := PG.imp (pg_tup hc h hn hst) fun v σ H Q ⟨c, F, ρ, d, Qp, R, E, r, q, k⟩ => by
  cases r with
  | tup hs ha =>
    exact ⟨_, _, rfl, sqT_same E.sub hs, by rw [ha.length]; exact q.1, c, F, ρ, _, Qp, R, E, ha, q.2, k⟩
  | _ => exact q.elim
/-- a target is given a value -/
theorem pps_asg {tg e : Expr} {is : List Nat} {g : PTG} {te : Rho → M (PV × Rho)} {pos : Pos} (he : PXE X W e te) (hg : PPG X tg is g) (hs : swapsWithSole [tg] e pos.line X.env = pure false := by rfl) (hw : swappedStores [tg] e X.env = pure none := by rfl)
    (h1 : (assignEach [tg] X.env).map (·.2) = [assign tg X.env] := by rfl) : PPS X W (.Assign [tg] e pos) (fun ρ => te ρ >>= fun p => g p.1 p.2 >>= fun ρ => pure (.nx ρ)) := PS.imp (ps_asg he hg hs hw h1) fun D σ H ⟨c, F, ρ, Qp, R, E, t, k, rs⟩ =>
  ⟨c, F, ρ, _, R, E, t, fun d ρ' q v H' F' E' s r => ⟨c, F', ρ', d, _, R, E', r, q, fun ρ2 q2 _ σ2 H2 F2 E2 s2 _ => k _ q2 σ2 H2 F2 E2 (s.trans s2)⟩, rs⟩
structure WalkP (K : PySem.W.Frag) (mg : Str → Option Value) (G : Hp → Hp → Prop) (J : It) (ds : List PV) : Prop where
  go : ∀ i F H, i < ds.length → G F H → J.go i H
  stop : ∀ F H, G F H → J.stop ds.length H
  yld : ∀ i F H x H', i < ds.length → G F H → J.yld i H x H' → ∃ d, ds[i]? = some d ∧ ((H' = H ∧ Rp K mg F x d) ∨ ∃ T vs es, x = .ref T ∧ H T = none ∧ H' = upd H T (.tup vs) ∧ d = .tup es ∧ RpAll K mg F vs es)
/-- told things stand -/
def GT (F : Hp) : Hp → Hp → Prop := fun F' H => Same F F' ∧ Same F' H
/-- the def's own lists stand, too -/
def GR (X : Cx) (F : Hp) (σ : L2.St) (ρ : Rho) : Hp → Hp → Prop := fun F' H => Same F F' ∧ ∃ c, ER X.K X.mg c F' H σ ρ
def tI (X : Cx) (W : Wsh) (ti : Rho → M (List PV)) : TI := fun σ H Rf => ∃ c F ρ Qp R, ER X.K X.mg c F H σ ρ ∧ ti ρ Qp R ∧ (∀ ds, Qp ds → ∀ J H' F', ER X.K X.mg c F' H' σ ρ → Same F F' → WalkP X.K X.mg (GT F') J ds → Rf J H') ∧ RsOk X W c F R
abbrev PPI (X : Cx) (W : Wsh) (tg iter : Expr) (ti : Rho → M (List PV)) : Prop := PI X tg iter (tI X W ti)
def tIR (X : Cx) (W : Wsh) (ti : Rho → M (List PV)) : TI := fun σ H Rf => ∃ c F ρ Qp R, ER X.K X.mg c F H σ ρ ∧ ti ρ Qp R ∧ (∀ ds, Qp ds → ∀ J H' F', ER X.K X.mg c F' H' σ ρ → Same F F' → WalkP X.K X.mg (GR X F' σ ρ) J ds → Rf J H') ∧ RsOk X W c F R
abbrev PIR (X : Cx) (W : Wsh) (tg iter : Expr) (ti : Rho → M (List PV)) : Prop := PI X tg iter (tIR X W ti)
theorem PI.imp {tg e : Expr} {t t' : TI} (h : PI X tg e t) (k : ∀ σ H Q, t' σ H Q → t σ H Q) : PI X tg e t' := ⟨fun pins s σ H Q I q => h.run pins s σ H Q I (k σ H Q q)⟩
theorem WalkP.imp {K : PySem.W.Frag} {mg : Str → Option Value} {G G' : Hp → Hp → Prop} {J : It} {ds : List PV} (w : WalkP K mg G J ds) (h : ∀ F H, G' F H → G F H) : WalkP K mg G' J ds :=
  ⟨fun i F H hi g => w.go i F H hi (h F H g), fun F H g => w.stop F H (h F H g), fun i F H x H' hi g y => w.yld i F H x H' hi (h F H g) y⟩
theorem PPI.r {tg e : Expr} {ti : Rho → M (List PV)} (h : PPI X W tg e ti) : PIR X W tg e ti := PI.imp h fun σ H Q ⟨c, F, ρ, Qp, R, E, t, k, rs⟩ => ⟨c, F, ρ, Qp, R, E, t, fun ds q J H' F' E' s w => k ds q J H' F' E' s (w.imp fun F2 H2 g => ⟨g.1, g.2.choose_spec.sub⟩), rs⟩
/-- a list or a tuple -/
def iSq (K : PySem.W.Frag) (tl : TE) : TI := fun σ H R => tl σ H fun x H1 => ∃ (a : Addr) (xs : List V), x = .ref a ∧ ((SqL K H1 a xs ∧ R (Itl K a) H1) ∨ (SqT K H1 a xs ∧ R (Itt K a) H1))
theorem pi_sq {tg l : Expr} {tl : TE} (hl : PE X l tl) : PI X tg l (iSq X.K tl) := by
  refine ⟨fun pins s σ H R I h => thn (hl.run pins s σ H _ I h) fun v s1 ⟨x, H1, I1, r1, q1⟩ => ?_⟩
  obtain ⟨a, xs, rfl, q⟩ := q1
  cases r1
  have new : ∀ b, b ∈ [s1.heap.objs.size] → FpOk X pins H1 b := fun b hb => by
    simp only [List.mem_cons, List.not_mem_nil, or_false] at hb
    rw [hb]
    exact I1.fpOk (Nat.le_refl _) (I1.hok.fresh (Nat.le_refl _))
  rcases q with ⟨hq, q⟩ | ⟨hq, q⟩
  · obtain ⟨its, rv, p, hz⟩ := I1.list hq
    refine wpAny_pyIter_list p.isList ?_
    exact ⟨_, _, _, _, H1, rfl, I1.kept fun b o e => Heap.get?_push_of_some _ e, turn_list a _, ⟨_, Heap.get?_push_size _ rfl, rfl, rfl⟩, new, q⟩
  · obtain ⟨its, rv, p, hz⟩ := I1.tuple hq
    refine wpAny_pyIter_tuple (tup_is p) ?_
    exact ⟨_, _, _, _, H1, rfl, I1.kept fun b o e => Heap.get?_push_of_some _ e, turn_tuple a _, ⟨_, Heap.get?_push_size _ rfl, rfl, rfl⟩, new, q⟩
theorem walkP_list {K : PySem.W.Frag} {mg : Str → Option Value} {G : Hp → Hp → Prop} {a : Addr} {ds : List PV} (h : ∀ F H, G F H → ∃ xs, SqL K H a xs ∧ RpAll K mg F xs ds) : WalkP K mg G (Itl K a) ds := by
  refine ⟨fun i F H hi g => ?_, fun F H g => ?_, fun i F H x H' hi g y => ?_⟩
  · obtain ⟨xs, h1, h2⟩ := h F H g
    obtain ⟨v, h3, _⟩ := h2.get (List.getElem?_eq_getElem hi)
    exact ⟨xs, v, h1, h3⟩
  · obtain ⟨xs, h1, h2⟩ := h F H g
    exact ⟨xs, h1, by rw [h2.length]; exact Nat.le_refl _⟩
  · obtain ⟨xs, h1, h2⟩ := h F H g
    obtain ⟨d, h3, h4⟩ := h2.getV (y.2 xs h1)
    exact ⟨d, h3, .inl ⟨y.1, h4⟩⟩
theorem walkP_tup {K : PySem.W.Frag} {mg : Str → Option Value} {G : Hp → Hp → Prop} {a : Addr} {ds : List PV} (h : ∀ F H, G F H → ∃ xs, SqT K H a xs ∧ RpAll K mg F xs ds) : WalkP K mg G (Itt K a) ds := by
  refine ⟨fun i F H hi g => ?_, fun F H g => ?_, fun i F H x H' hi g y => ?_⟩
  · obtain ⟨xs, h1, h2⟩ := h F H g
    obtain ⟨v, h3, _⟩ := h2.get (List.getElem?_eq_getElem hi)
    exact ⟨xs, v, h1, h3⟩
  · obtain ⟨xs, h1, h2⟩ := h F H g
    exact ⟨xs, h1, by rw [h2.length]; exact Nat.le_refl _⟩
  · obtain ⟨xs, h1, h2⟩ := h F H g
    obtain ⟨d, h3, h4⟩ := h2.getV (y.2 xs h1)
    exact ⟨d, h3, .inl ⟨y.1, h4⟩⟩
theorem ppi_seq {tg l : Expr} {te : PTE} (h : PPE X W l te) : PPI X W tg l (fun ρ => te ρ >>= seqM) := PI.imp (pi_sq h) fun σ H Q ⟨c, F, ρ, Qp, R, E, t, k, rs⟩ => by
  refine ⟨c, F, ρ, _, R, E, t, fun d q v H' F' E' s r => ?_, rs⟩
  cases r with
  | lst hs ha => exact ⟨_, _, rfl, .inl ⟨SqL.of (E'.sub _ _ hs), k _ q _ H' F' E' s (walkP_list fun F2 H2 g => ⟨_, SqL.of (g.2 _ _ (g.1 _ _ hs)), ha.same g.1⟩)⟩⟩
  | scr hs ha => exact ⟨_, _, rfl, .inl ⟨E'.sub.seq hs, k _ q _ H' F' E' s (walkP_list fun F2 H2 g => ⟨_, g.2.seq (g.1.seq hs), ha.same g.1⟩)⟩⟩
  | tup hs ha => exact ⟨_, _, rfl, .inr ⟨sqT_same E'.sub hs, k _ q _ H' F' E' s (walkP_tup fun F2 H2 g => ⟨_, sqT_same g.2 (sqT_same g.1 hs), ha.same g.1⟩)⟩⟩
  | _ => exact q.elim
/-- .. of the def's own, too -/
theorem pir_seq {tg l : Expr} {te : PTE} (h : PPR X W l te) : PIR X W tg l (fun ρ => te ρ >>= seqM) := PI.imp (pi_sq h) fun σ H Q ⟨c, F, ρ, Qp, R, E, t, k, rs⟩ => by
  refine ⟨c, F, ρ, _, R, E, t, fun d q v H' F' E' s r => ?_, rs⟩
  have r0 := r _ _ _ E' (Same.refl _)
  cases d with
  | lst ds =>
    obtain ⟨a, vs, rfl, h1, h2⟩ := r0.lst E'.sub
    refine ⟨a, vs, rfl, .inl ⟨SqL.of h1, k _ q _ H' F' E' s (walkP_list fun F2 H2 g => ?_)⟩⟩
    obtain ⟨a', vs', e, g1, g2⟩ := (r _ _ _ g.2.choose_spec g.1).lst g.2.choose_spec.sub
    injection e with e
    subst e
    exact ⟨vs', SqL.of g1, g2⟩
  | scr ds =>
    obtain ⟨a, vs, rfl, h1, h2⟩ := r0.scr
    exact ⟨a, vs, rfl, .inl ⟨E'.sub.seq h1, k _ q _ H' F' E' s (walkP_list fun F2 H2 g => ⟨_, g.2.choose_spec.sub.seq (g.1.seq h1), h2.same g.1⟩)⟩⟩
  | tup ds =>
    obtain ⟨a, vs, rfl, h1, h2⟩ := r0.tup
    exact ⟨a, vs, rfl, .inr ⟨sqT_same E'.sub h1, k _ q _ H' F' E' s (walkP_tup fun F2 H2 g => ⟨_, sqT_same g.2.choose_spec.sub (sqT_same g.1 h1), h2.same g.1⟩)⟩⟩
  | _ => exact q.elim
def rngL (lo : Int) (n : Nat) : List PV := (List.range n).map fun i => .int (lo + ((i : Nat) : Int))
theorem walkP_range {K : PySem.W.Frag} {mg : Str → Option Value} {G : Hp → Hp → Prop} {lo : Int} {n : Nat} : WalkP K mg G (Itr lo n) (rngL lo n) := by
  have l : (rngL lo n).length = n := by simp [rngL]
  refine ⟨fun i F H hi g => by rw [l] at hi; exact hi, fun F H g => by rw [l]; exact Nat.le_refl _, fun i F H x H' hi g y => ?_⟩
  rw [l] at hi
  obtain ⟨y1, y2⟩ := y
  refine ⟨.int (lo + ((i : Nat) : Int)), by simp [rngL, hi], .inl ⟨y1, ?_⟩⟩
  rw [y2]
  exact .int _
def rng1M (ds : List PV) : M (List PV) := oneM ds >>= fun d => match d with
  | .int j => fun Q _ => (-(2 ^ 62) ≤ j ∧ j < 2 ^ 62) ∧ Q (rngL 0 j.toNat)
  | _ => failM
def rng2M (ds : List PV) : M (List PV) := twoM ds >>= fun p => match p with
  | (.int i, .int j) => fun Q _ => (-(2 ^ 62) ≤ i ∧ i < 2 ^ 62 ∧ -(2 ^ 62) ≤ j ∧ j < 2 ^ 62) ∧ Q (rngL i (j - i).toNat)
  | _ => failM
theorem ppi_range1 {tg a : Expr} {t : Rho → M (List PV)} {p pos : Pos} (hg : Gl X "range") (hm : X.mg "range" = none) (ha : PAR X W [a] t) (hs : starEach [a] X.env = [(false, eval a X.env)] := by rfl) :
    PPI X W tg (.Call (.Name "range" p) [a] [] pos) (fun ρ => t ρ >>= rng1M) := PI.imp (pi_range1 hg hm ha hs) fun σ H Q ⟨c, F, ρ, Qp, R, E, t, k, rs⟩ => by
  refine ⟨c, F, ρ, _, R, E, t, fun ds q vs H' F' E' s r => ?_, rs⟩
  obtain ⟨d, rfl, q⟩ := oneM_inv q
  obtain ⟨v, rfl, r1⟩ := (r _ _ _ E' (Same.refl _)).one
  cases d with
  | int j =>
    obtain rfl := r1.int
    exact ⟨j, rfl, q.1.1, q.1.2, k _ q.2 _ H' F' E' s walkP_range⟩
  | _ => exact q.elim
theorem ppi_range2 {tg a b : Expr} {t : Rho → M (List PV)} {p pos : Pos} (hg : Gl X "range") (hm : X.mg "range" = none) (ha : PAR X W [a, b] t) (hs : starEach [a, b] X.env = [(false, eval a X.env), (false, eval b X.env)] := by rfl) (hs2 : starEach [b] X.env = [(false, eval b X.env)] := by rfl) :
    PPI X W tg (.Call (.Name "range" p) [a, b] [] pos) (fun ρ => t ρ >>= rng2M) := PI.imp (pi_range2 hg hm ha hs hs2) fun σ H Q ⟨c, F, ρ, Qp, R, E, t, k, rs⟩ => by
  refine ⟨c, F, ρ, _, R, E, t, fun ds q vs H' F' E' s r => ?_, rs⟩
  obtain ⟨d, e, rfl, q⟩ := twoM_inv q
  obtain ⟨v, u, rfl, r1, r2⟩ := (r _ _ _ E' (Same.refl _)).two
  cases d <;> cases e <;> first | exact q.elim | skip
  obtain rfl := r1.int
  obtain rfl := r2.int
  exact ⟨_, _, rfl, q.1, k _ q.2 _ H' F' E' s walkP_range⟩
/-- enumerate -/
def enumL (ds : List PV) : List PV := (ds.zipIdx).map fun p => .tup [.int ((p.2 : Nat) : Int), p.1]
theorem enumL_get {ds : List PV} {i : Nat} {d : PV} (h : ds[i]? = some d) : (enumL ds)[i]? = some (.tup [.int ((i : Nat) : Int), d]) := by simp [enumL, List.getElem?_zipIdx, h]
theorem enumL_len {ds : List PV} : (enumL ds).length = ds.length := by simp [enumL]
theorem walkP_enum {K : PySem.W.Frag} {mg : Str → Option Value} {G : Hp → Hp → Prop} {a : Addr} {ds : List PV} (h : ∀ F H, G F H → ∃ xs, SqL K H a xs ∧ RpAll K mg F xs ds) : WalkP K mg G (Ite K a) (enumL ds) := by
  refine ⟨fun i F H hi g => ?_, fun F H g => ?_, fun i F H x H' hi g y => ?_⟩
  · rw [enumL_len] at hi
    obtain ⟨xs, h1, h2⟩ := h F H g
    obtain ⟨v, h3, _⟩ := h2.get (List.getElem?_eq_getElem hi)
    exact ⟨xs, v, h1, h3⟩
  · obtain ⟨xs, h1, h2⟩ := h F H g
    exact ⟨xs, h1, by rw [h2.length, enumL_len]; exact Nat.le_refl _⟩
  · obtain ⟨xs, h1, h2⟩ := h F H g
    obtain ⟨T, z, rfl, nT, rfl, y⟩ := y
    obtain ⟨d, h3, h4⟩ := h2.getV (y xs h1)
    exact ⟨_, enumL_get h3, .inr ⟨T, _, _, rfl, nT, rfl, rfl, .cons (.int _) (.cons h4 .nil)⟩⟩
theorem walkP_enumT {K : PySem.W.Frag} {mg : Str → Option Value} {G : Hp → Hp → Prop} {a : Addr} {ds : List PV} {n : Nat} (hn : n = ds.length) (h : ∀ F H, G F H → ∃ xs, SqT K H a xs ∧ RpAll K mg F xs ds) : WalkP K mg G (IteT K a n) (enumL ds) := by
  subst hn
  refine ⟨fun i F H hi g => ?_, fun F H g => ?_, fun i F H x H' hi g y => ?_⟩
  · rw [enumL_len] at hi
    obtain ⟨xs, h1, h2⟩ := h F H g
    obtain ⟨v, h3, _⟩ := h2.get (List.getElem?_eq_getElem hi)
    exact ⟨xs, v, h1, h2.length, h3⟩
  · obtain ⟨xs, h1, h2⟩ := h F H g
    exact ⟨by rw [enumL_len]; exact Nat.le_refl _, xs, h1, h2.length⟩
  · obtain ⟨xs, h1, h2⟩ := h F H g
    obtain ⟨T, z, rfl, nT, rfl, y⟩ := y
    obtain ⟨d, h3, h4⟩ := h2.getV (y xs h1)
    exact ⟨_, enumL_get h3, .inr ⟨T, _, _, rfl, nT, rfl, rfl, .cons (.int _) (.cons h4 .nil)⟩⟩
theorem pir_enum {e : Expr} {t : Rho → M (List PV)} {p pos tpos : Pos} {elts : List Expr} {kk : Nat} (hg : Gl X "enumerate") (hm : X.mg "enumerate" = none) (ha : PAR X W [e] t) (hs : starEach [e] X.env = [(false, eval e X.env)] := by rfl) :
    PIR X W (.Tuple elts kk tpos) (.Call (.Name "enumerate" p) [e] [] pos) (fun ρ => t ρ >>= oneM >>= seqM >>= fun ds => pure (enumL ds)) := PI.imp (pi_enumA hg hm ha hs) fun σ H Q ⟨c, F, ρ, Qp, R, E, t, k, rs⟩ => by
  refine ⟨c, F, ρ, _, R, E, t, fun ds q vs H' F' E' s r => ?_, rs⟩
  obtain ⟨d, rfl, q⟩ := oneM_inv q
  obtain ⟨v, rfl, r0⟩ := (r _ _ _ E' (Same.refl _)).one
  have r1 : ∀ F2 H2, GR X F' σ ρ F2 H2 → RR X.K X.mg F2 H2 v d := fun F2 H2 g => by
    obtain ⟨v', e, h⟩ := (r _ _ _ g.2.choose_spec g.1).one
    obtain rfl := (List.cons.inj e).1
    exact h
  cases d with
  | lst ds =>
    obtain ⟨a, vs, rfl, h1, h2⟩ := r0.lst E'.sub
    refine ⟨a, vs, rfl, .inl ⟨SqL.of h1, k _ q _ H' F' E' s (walkP_enum fun F2 H2 g => ?_)⟩⟩
    obtain ⟨a', vs', e, g1, g2⟩ := (r1 _ _ g).lst g.2.choose_spec.sub
    injection e with e
    subst e
    exact ⟨vs', SqL.of g1, g2⟩
  | scr ds =>
    obtain ⟨a, vs, rfl, h1, h2⟩ := r0.scr
    exact ⟨a, vs, rfl, .inl ⟨E'.sub.seq h1, k _ q _ H' F' E' s (walkP_enum fun F2 H2 g => ⟨_, g.2.choose_spec.sub.seq (g.1.seq h1), h2.same g.1⟩)⟩⟩
  | tup ds =>
    obtain ⟨a, vs, rfl, h1, h2⟩ := r0.tup
    exact ⟨a, vs, rfl, .inr ⟨sqT_same E'.sub h1, k _ q _ H' F' E' s (walkP_enumT h2.length fun F2 H2 g => ⟨_, sqT_same g.2.choose_spec.sub (sqT_same g.1 h1), h2.same g.1⟩)⟩⟩
  | _ => exact q.elim
theorem ppi_enum {e : Expr} {te : PTE} {p pos tpos : Pos} {elts : List Expr} {kk : Nat} (hg : Gl X "enumerate") (hm : X.mg "enumerate" = none) (he : PPE X W e te) (hs : starEach [e] X.env = (false, eval e X.env) :: starEach [] X.env := by rfl) :
    PPI X W (.Tuple elts kk tpos) (.Call (.Name "enumerate" p) [e] [] pos) (fun ρ => te ρ >>= seqM >>= fun ds => pure (enumL ds)) := PI.imp (pi_enumA hg hm (pa_cons he pa_nil hs) hs) fun σ H Q ⟨c, F, ρ, Qp, R, E, t, k, rs⟩ => by
  refine ⟨c, F, ρ, _, R, E, t, fun d q v H' F' E' s r => ?_, rs⟩
  cases r with
  | lst hs ha => exact ⟨_, _, rfl, .inl ⟨SqL.of (E'.sub _ _ hs), k _ q _ H' F' E' s (walkP_enum fun F2 H2 g => ⟨_, SqL.of (g.2 _ _ (g.1 _ _ hs)), ha.same g.1⟩)⟩⟩
  | scr hs ha => exact ⟨_, _, rfl, .inl ⟨E'.sub.seq hs, k _ q _ H' F' E' s (walkP_enum fun F2 H2 g => ⟨_, g.2.seq (g.1.seq hs), ha.same g.1⟩)⟩⟩
  | tup hs ha => exact ⟨_, _, rfl, .inr ⟨sqT_same E'.sub hs, k _ q _ H' F' E' s (walkP_enumT ha.length fun F2 H2 g => ⟨_, sqT_same g.2 (sqT_same g.1 hs), ha.same g.1⟩)⟩⟩
  | _ => exact q.elim
def forP (g : PTG) (body : PTS) : List PV → Rho → M Fl
  | [], ρ => pure (.nx ρ)
  | d :: ds, ρ => g d ρ >>= fun ρ => body ρ >>= fun f => match f with
    | .nx ρ' => forP g body ds ρ'
    | .ct ρ' => forP g body ds ρ'
    | .bk ρ' => pure (.nx ρ')
    | .rt d => pure (.rt d)
/-- an item that comes is told -/
theorem ER.item {c : Ct} {F H H' : Hp} {σ : L2.St} {ρ : Rho} {x : V} {d : PV} (E : ER X.K X.mg c F H σ ρ) (y : (H' = H ∧ Rp X.K X.mg F x d) ∨ ∃ T vs es, x = .ref T ∧ H T = none ∧ H' = upd H T (.tup vs) ∧ d = .tup es ∧ RpAll X.K X.mg F vs es) :
    ∃ F', Same F F' ∧ ER X.K X.mg c F' H' σ ρ ∧ Rp X.K X.mg F' x d := by
  rcases y with ⟨rfl, r⟩ | ⟨T, vs, es, rfl, nT, rfl, rfl, r⟩
  · exact ⟨F, Same.refl _, E, r⟩
  · have s := same_new (o := .tup vs) (E.noF nT)
    exact ⟨_, s, E.alloc nT (fun _ z => nomatch z), .tup (SqT.of upd_same) (r.same s)⟩
theorem pps_for {tg it : Expr} {body : List Stmt} {is : List Nat} {g : PTG} {ti : Rho → M (List PV)} {tb : PTS} {pos : Pos} (hp : PassesOwn (model X.prog X.w) X.A X.env X.xe) (hc : X.calm = true) (hi : PPI X W tg it ti) (hg : PPG X tg is g) (hb : PPSs X W body tb) (hs : ∀ x, foldedSetIterable it X.env x = pure x := by intro _; rfl) :
    PPS X W (.For tg it body [] pos) (fun ρ => ti ρ >>= fun ds => forP g tb ds ρ) := PS.imp (ps_for hp hc hi hg hb hs) fun D σ H ⟨c, F, ρ, Qp, R, E, t, k, rs⟩ => by
  refine ⟨c, F, ρ, _, R, E, t, fun ds q J H1 F1 E1 s1 w => ?_, rs⟩
  refine ⟨fun i m σ H => i + m = ds.length ∧ ∃ F2 ρ2, ER X.K X.mg c F2 H σ ρ2 ∧ Same F1 F2 ∧ forP g tb (ds.drop i) ρ2 Qp R, ⟨ds.length, by omega, F1, ρ, E1, Same.refl _, q⟩, ?_⟩
  rintro i m σ2 H2 ⟨hm, F2, ρ2, E2, s2, q2⟩
  have G2 : GT F1 F2 H2 := ⟨s2, E2.sub⟩
  by_cases hi : i < ds.length
  · refine .inr ⟨w.go i F2 H2 hi G2, fun σ' H' => ∃ F3 ρ3, ER X.K X.mg c F3 H' σ' ρ3 ∧ Same F1 F3 ∧ forP g tb (ds.drop (i + 1)) ρ3 Qp R, fun σ' H' n => ⟨ds.length - (i + 1), by omega, by omega, n⟩, fun x H' y => ?_⟩
    obtain ⟨d, hd, y⟩ := w.yld i F2 H2 x H' hi G2 y
    have e : ds.drop i = d :: ds.drop (i + 1) := by rw [List.drop_eq_getElem_cons hi]; congr 1; exact Option.some.inj ((List.getElem?_eq_getElem hi).symm.trans hd)
    rw [e] at q2
    obtain ⟨F3, s3, E3, r3⟩ := E2.item y
    refine ⟨c, F3, ρ2, d, _, R, E3, r3, q2, fun ρ4 q4 _ σ4 H4 F4 E4 s4 _ => ?_⟩
    have s14 : Same F1 F4 := (s2.trans s3).trans s4
    refine ⟨c, F4, ρ4, _, R, E4, q4, fun f qf => ?_, rs.mono (s1.trans s14)⟩
    cases f with
    | nx ρ5 => exact fun σ' H' F' E' s' => ⟨F', ρ5, E', s14.trans s', qf⟩
    | ct ρ5 => exact fun σ' H' F' E' s' => ⟨F', ρ5, E', s14.trans s', qf⟩
    | bk ρ5 => exact fun σ' H' F' E' s' => k _ qf σ' H' F' E' ((s1.trans s14).trans s')
    | rt d => exact fun v H' F' w' s' r' => k _ qf v H' F' w' ((s1.trans s14).trans s') r'
  · have e : i = ds.length := by omega
    subst e
    rw [List.drop_length] at q2
    exact .inl ⟨w.stop F2 H2 G2, k _ q2 σ2 H2 F2 E2 (s1.trans s2)⟩
def whileN (tc : Rho → M Bool) (body : PTS) : Nat → Rho → M Fl
  | 0, _ => failM
  | n + 1, ρ => tc ρ >>= fun b => if b = true then body ρ >>= fun f => match f with
    | .nx ρ' => whileN tc body n ρ'
    | .ct ρ' => whileN tc body n ρ'
    | .bk ρ' => pure (.nx ρ')
    | .rt d => pure (.rt d)
    else pure (.nx ρ)
def whileP (tc : Rho → M Bool) (body : PTS) (ρ : Rho) : M Fl := fun Q R => ∃ n, whileN tc body n ρ Q R
theorem pps_while {cnd : Expr} {body : List Stmt} {tc : Rho → M Bool} {tb : PTS} {pos : Pos} (hp : PassesOwn (model X.prog X.w) X.A X.env X.xe) (hc : PPT X W cnd tc) (hb : PPSs X W body tb) : PPS X W (.While cnd body [] pos) (whileP tc tb) :=
  PS.imp (ps_while hp hc hb) fun D σ H ⟨c, F, ρ, Qp, R, E, ⟨n, t⟩, k, rs⟩ => by
    refine ⟨fun m σ H => ∃ F2 ρ2, ER X.K X.mg c F2 H σ ρ2 ∧ Same F F2 ∧ whileN tc tb m ρ2 Qp R, ⟨n, F, ρ, E, Same.refl _, t⟩, ?_⟩
    rintro m σ2 H2 ⟨F2, ρ2, E2, s2, q2⟩
    cases m with
    | zero => exact q2.elim
    | succ m =>
      refine ⟨c, F2, ρ2, _, R, E2, q2, fun b q3 H3 F3 E3 s3 => ?_, rs.mono s2⟩
      cases b with
      | false => exact k _ q3 σ2 H3 F3 E3 (s2.trans s3)
      | true =>
        refine ⟨fun σ' H' => ∃ F2 ρ2, ER X.K X.mg c F2 H' σ' ρ2 ∧ Same F F2 ∧ whileN tc tb m ρ2 Qp R, fun σ' H' n => ⟨m, Nat.lt_succ_self m, n⟩, ?_⟩
        refine ⟨c, F3, ρ2, _, R, E3, q3, fun f qf => ?_, rs.mono (s2.trans s3)⟩
        cases f with
        | nx ρ5 => exact fun σ' H' F' E' s' => ⟨F', ρ5, E', (s2.trans s3).trans s', qf⟩
        | ct ρ5 => exact fun σ' H' F' E' s' => ⟨F', ρ5, E', (s2.trans s3).trans s', qf⟩
        | bk ρ5 => exact fun σ' H' F' E' s' => k _ qf σ' H' F' E' ((s2.trans s3).trans s')
        | rt d => exact fun v H' F' w' s' r' => k _ qf v H' F' w' ((s2.trans s3).trans s') r'
end
end L3
namespace L3
open PySem PySem.Spec PyProof.Rows L2 LamX
section
variable {X : Cx} {W : Wsh}
abbrev W0 (T : List (Addr × Str)) : Wsh := ⟨fun _ _ _ _ => False, T, false⟩
def noR : RS := fun _ _ => False
theorem rsOk0 {c c2 : Ct} {F F2 : Hp} {R : RS} (h : RsOk X W c F R) (e : c2.T = c.T) : RsOk X (W0 W.T) c2 F2 noR := ⟨e.trans h.1, (fun z => nomatch z), fun _ _ h => h.elim⟩
abbrev PPTs (X : Cx) (W : Wsh) (ifs : List Expr) (tt : Rho → M Bool) : Prop := PTs X ifs (tB X W tt)
theorem ppts_nil : PPTs X W [] (fun _ => pure true) := ⟨fun pins s σ H Q I ⟨c, F, ρ, Qp, R, E, t, k, rs⟩ => pts_nil.run pins s σ H Q I (k true t H F E (Same.refl _))⟩
theorem ppts_one {e : Expr} {tt : Rho → M Bool} (h : PPT X W e tt) : PPTs X W [e] tt := pts_one h
/-- what a comprehension makes of its items -/
def lcP (g : PTG) (tt : Rho → M Bool) (te : PTE) (ρ : Rho) : List PV → List PV → M (List PV)
  | [], acc => pure acc
  | d :: ds, acc => g d ρ >>= fun ρ2 => tt ρ2 >>= fun b => if b = true then te ρ2 >>= fun x => fun Q R => acc.length < sizeLine ∧ lcP g tt te ρ ds (acc ++ [x]) Q R else lcP g tt te ρ ds acc
def calmM {α : Type} (m : M α) : M α := fun Q _ => m Q noR
/-- the slots of a block, wiped -/
def novM (ρ : Rho) (V : List Nat) : M Rho := fun Q _ => Nov ρ V ∧ Q (wipeR ρ V)
section
variable {elt tg iter : Expr} {ifs : List Expr} {scope : Scope} {own : List (Str × Nat)} {is : List Nat} {pos : Pos} {ti : Rho → M (List PV)} {g : PTG} {tt : Rho → M Bool} {te : PTE}
theorem tLc_ok (hV : ∀ i ∈ is, i ∈ own.map (·.2)) {σ : L2.St} {H : Hp} {Q : VK} (h : tF X W (fun ρ => novM ρ (own.map (·.2)) >>= fun ρw => ti ρ >>= fun ds => calmM (lcP g tt te ρw ds [])) σ H Q) :
    tLc (tIR X W ti) (tG X is g) (tB X (W0 W.T) tt) (tP X (W0 W.T) te) (own.map (·.2)) σ H Q := by
  obtain ⟨c, F, ρ, Qp, R, E, ⟨emp, t⟩, k, rs⟩ := h
  refine ⟨c, F, ρ, _, R, E, t, fun ds q J H1 F1 E1 s1 w => fun D hD => ?_, rs⟩
  have q : lcP g tt te (wipeR ρ (own.map (·.2))) ds [] Qp noR := q
  refine ⟨fun i m H => i + m = ds.length ∧ ∃ F2 acc vs, ER X.K X.mg (c.kp D (.lst vs)) F2 H σ ρ ∧ Same F1 F2 ∧ RpAll X.K X.mg F2 vs acc ∧ lcP g tt te (wipeR ρ (own.map (·.2))) (ds.drop i) acc Qp noR, ⟨ds.length, by omega, F1, [], [], E1.newG hD, Same.refl _, .nil, q⟩, ?_⟩
  rintro i m H2 ⟨hm, F2, acc, vs, E2, s2, ra, q2⟩
  have G2 : GR X F1 σ ρ F2 H2 := ⟨s2, c, E2.unkp⟩
  by_cases hi : i < ds.length
  · refine .inr ⟨w.go i F2 H2 hi G2, fun H' => ∃ F3 acc vs, ER X.K X.mg (c.kp D (.lst vs)) F3 H' σ ρ ∧ Same F1 F3 ∧ RpAll X.K X.mg F3 vs acc ∧ lcP g tt te (wipeR ρ (own.map (·.2))) (ds.drop (i + 1)) acc Qp noR, fun H' n => ⟨ds.length - (i + 1), by omega, by omega, n⟩, fun x H' y => ?_⟩
    obtain ⟨d, hd, y⟩ := w.yld i F2 H2 x H' hi G2 y
    have e : ds.drop i = d :: ds.drop (i + 1) := by rw [List.drop_eq_getElem_cons hi]; congr 1; exact Option.some.inj ((List.getElem?_eq_getElem hi).symm.trans hd)
    rw [e] at q2
    obtain ⟨F3, s3, E3, r3⟩ := E2.item y
    refine ⟨c.kp D (.lst vs), F3, wipeR ρ (List.map (fun x : Str × Nat => x.2) own), d, _, noR, E3.wipe _, r3, q2, fun ρ4 q4 wr σ4 H4 F4 E4 s4 ws => ⟨(ws _ hV).trans wipe_wipe, ?_⟩⟩
    have wrw : wipeR (wipeR ρ (own.map (·.2))) (own.map (·.2)) = wipeR ρ (own.map (·.2)) := by
      apply List.ext_getElem?
      intro j
      rw [wipeR_get, wipeR_get, wipeR_length]
      by_cases e : j ∈ own.map (·.2) <;> simp only [e, if_true, if_false]
    have back : ∀ {c' : Ct} {F' H' : Hp}, Same F3 F' → ER X.K X.mg c' F' H' σ4 ρ4 → ER X.K X.mg c' F' H' σ ρ := fun s' E' => by
      have := E'.wipe (own.map (·.2))
      rw [wr _ hV, wrw, (ws _ hV).trans wipe_wipe] at this
      exact E3.merge this s' emp
    refine ⟨c.kp D (.lst vs), F4, ρ4, _, noR, E4, q4, fun b q5 H5 F5 E5 s5 => ?_, rsOk0 rs rfl⟩
    cases b with
    | false => exact ⟨F5, acc, vs, back (s4.trans s5) E5, ((s2.trans s3).trans s4).trans s5, ra.same ((s3.trans s4).trans s5), q5⟩
    | true =>
      refine ⟨c.kp D (.lst vs), F5, ρ4, _, noR, E5, q5, fun z q6 v6 H6 F6 E6 s6 r6 => ?_, rsOk0 rs rfl⟩
      obtain ⟨q7, q8⟩ := q6
      have hD6 : H6 D = some (.lst vs) := by
        obtain ⟨⟨dl, w6, _, _⟩, _⟩ := E6
        exact (w6.gh (D, .lst vs) List.mem_cons_self).1
      exact ⟨vs, hD6, by rw [ra.length]; exact q7, F6, acc ++ [z], vs ++ [v6], (back ((s4.trans s5).trans s6) E6).setG, (((s2.trans s3).trans s4).trans s5).trans s6, (ra.same (((s3.trans s4).trans s5).trans s6)).snoc r6, q8⟩
  · have e : i = ds.length := by omega
    subst e
    rw [List.drop_length] at q2
    exact .inl ⟨w.stop F2 H2 G2, k acc q2 D vs H2 F2 E2 (s1.trans s2) ra⟩
theorem pf_lc (hc : X.calm = true) (hN : X.N.Nodup) (hi : PIR X W tg iter ti) (ok : BlkOk X.N X.env.scope scope own)
    (hg : ∀ (s : Shared) (H : Hp) (C : Addr) (cl : List (Str × Addr)) (fp : List Addr), PPG (X.blk s H scope (compEnvC scope cl C X.env) fp) tg is g) (ht : ∀ (s : Shared) (H : Hp) (C : Addr) (cl : List (Str × Addr)) (fp : List Addr), PPTs (X.blk s H scope (compEnvC scope cl C X.env) fp) (W0 W.T) ifs tt)
    (he : ∀ (s : Shared) (H : Hp) (C : Addr) (cl : List (Str × Addr)) (fp : List Addr), PPE (X.blk s H scope (compEnvC scope cl C X.env) fp) (W0 W.T) elt te) (hV : ∀ i ∈ is, i ∈ own.map (·.2)) (hs : ∀ x, foldedSetIterable iter X.env x = pure x := by intro _; rfl) :
    PF X W (.ListComp elt [⟨tg, iter, ifs, 0⟩] scope pos) (fun ρ => novM ρ (own.map (·.2)) >>= fun ρw => ti ρ >>= fun ds => calmM (lcP g tt te ρw ds [])) :=
  PE.imp (pe_lc (g := tG X is g) (tt := tB X (W0 W.T) tt) (te := tP X (W0 W.T) te) hc hN hi ok hg ht he hs) fun σ H Q h => tLc_ok hV h
/-- name = [..] on one line, the name a local -/
theorem pps_setLc {i : Nat} {y : Str} {py spos : Pos} (hc : X.calm = true) (hN : X.N.Nodup) (hy : X.N[i]? = some y) (hyl : X.env.scope.names.lookup y = some .local)
    (hsw : swapsWith (.ListComp elt [⟨tg, iter, ifs, 0⟩] scope pos) (some (.Name y py)) spos.line X.env = pure true) (hi : PIR X W tg iter ti) (ok : BlkOk X.N X.env.scope scope own)
    (hg : ∀ (s : Shared) (H : Hp) (C : Addr) (cl : List (Str × Addr)) (fp : List Addr), PPG (X.blk s H scope (compEnvC scope cl C X.env) fp) tg is g) (ht : ∀ (s : Shared) (H : Hp) (C : Addr) (cl : List (Str × Addr)) (fp : List Addr), PPTs (X.blk s H scope (compEnvC scope cl C X.env) fp) (W0 W.T) ifs tt)
    (he : ∀ (s : Shared) (H : Hp) (C : Addr) (cl : List (Str × Addr)) (fp : List Addr), PPE (X.blk s H scope (compEnvC scope cl C X.env) fp) (W0 W.T) elt te) (hV : ∀ i ∈ is, i ∈ own.map (·.2)) (hs : ∀ x, foldedSetIterable iter X.env x = pure x := by intro _; rfl) :
    PPS X W (.Assign [.Name y py] (.ListComp elt [⟨tg, iter, ifs, 0⟩] scope pos) spos) (fun ρ => (novM ρ (own.map (·.2)) >>= fun ρw => ti ρ >>= fun ds => calmM (lcP g tt te ρw ds [])) >>= fun ds => setM ρ i (.own ds) >>= fun ρ => pure (.nx ρ)) :=
  PS.imp (ps_setLc (g := tG X is g) (tt := tB X (W0 W.T) tt) (te := tP X (W0 W.T) te) hc hN hy hyl hsw hi ok hg ht he hs) fun D σ H ⟨c, F, ρ, Qp, R, E, t, k, rs⟩ => by
    refine tLc_ok (Q := fun x H1 => gName i x σ H1 D.nx) hV ⟨c, F, ρ, _, R, E, t, fun ds q a vs H' F' E' s r => ?_, rs⟩
    exact k _ q.2 _ H' F' (E'.ownG r q.1) s
end
def lcP1 (g : PTG) (tt : Rho → M Bool) (te : PTE) (ρ : Rho) (k : List PV → M (List PV)) : List PV → List PV → M (List PV)
  | [], acc => k acc
  | d :: ds, acc => g d ρ >>= fun ρ2 => tt ρ2 >>= fun b => if b = true then te ρ2 >>= fun x => fun Q R => acc.length < sizeLine ∧ lcP1 g tt te ρ k ds (acc ++ [x]) Q R else lcP1 g tt te ρ k ds acc
def lc2P (g : PTG) (tt : Rho → M Bool) (ti1 : Rho → M (List PV)) (g1 : PTG) (tt1 : Rho → M Bool) (te : PTE) (V1 : List Nat) (ρ : Rho) : List PV → List PV → M (List PV)
  | [], acc => pure acc
  | d :: ds, acc => g d ρ >>= fun ρ2 => tt ρ2 >>= fun b => if b = true then novM ρ2 V1 >>= fun ρw => ti1 ρ2 >>= fun es => lcP1 g1 tt1 te ρw (lc2P g tt ti1 g1 tt1 te V1 ρ ds) es acc else lc2P g tt ti1 g1 tt1 te V1 ρ ds acc
section
variable {elt tg iter tg1 iter1 : Expr} {ifs ifs1 : List Expr} {scope : Scope} {own : List (Str × Nat)} {is is1 : List Nat} {V1 : List Nat} {pos : Pos} {ti ti1 : Rho → M (List PV)} {g g1 : PTG} {tt tt1 : Rho → M Bool} {te : PTE}
theorem tLc2_ok (hV : ∀ i ∈ is, i ∈ own.map (·.2)) (hv : ∀ i ∈ V1, i ∈ own.map (·.2)) (hV1 : ∀ i ∈ is1, i ∈ V1) {σ : L2.St} {H : Hp} {Q : VK} (h : tF X W (fun ρ => novM ρ (own.map (·.2)) >>= fun ρw => ti ρ >>= fun ds => calmM (lc2P g tt ti1 g1 tt1 te V1 ρw ds [])) σ H Q) :
    tLc2 (tIR X W ti) (tG X is g) (tB X (W0 W.T) tt) (tIR X (W0 W.T) ti1) (tG X is1 g1) (tB X (W0 W.T) tt1) (tP X (W0 W.T) te) (own.map (·.2)) V1 σ H Q := by
  obtain ⟨c, F, ρ, Qp, R, E, ⟨emp, t⟩, k, rs⟩ := h
  refine ⟨c, F, ρ, _, R, E, t, fun ds q J H1 F1 E1 s1 w => fun D hD => ?_, rs⟩
  have q : lc2P g tt ti1 g1 tt1 te V1 (wipeR ρ (own.map (·.2))) ds [] Qp noR := q
  refine ⟨fun i m H => i + m = ds.length ∧ ∃ F2 acc vs, ER X.K X.mg (c.kp D (.lst vs)) F2 H σ ρ ∧ Same F1 F2 ∧ RpAll X.K X.mg F2 vs acc ∧ lc2P g tt ti1 g1 tt1 te V1 (wipeR ρ (own.map (·.2))) (ds.drop i) acc Qp noR, ⟨ds.length, by omega, F1, [], [], E1.newG hD, Same.refl _, .nil, q⟩, ?_⟩
  rintro i m H2 ⟨hm, F2, acc, vs, E2, s2, ra, q2⟩
  have G2 : GR X F1 σ ρ F2 H2 := ⟨s2, c, E2.unkp⟩
  by_cases hi : i < ds.length
  · refine .inr ⟨w.go i F2 H2 hi G2, fun H' => ∃ F3 acc vs, ER X.K X.mg (c.kp D (.lst vs)) F3 H' σ ρ ∧ Same F1 F3 ∧ RpAll X.K X.mg F3 vs acc ∧ lc2P g tt ti1 g1 tt1 te V1 (wipeR ρ (own.map (·.2))) (ds.drop (i + 1)) acc Qp noR, fun H' n => ⟨ds.length - (i + 1), by omega, by omega, n⟩, fun x H' y => ?_⟩
    obtain ⟨d, hd, y⟩ := w.yld i F2 H2 x H' hi G2 y
    have e : ds.drop i = d :: ds.drop (i + 1) := by rw [List.drop_eq_getElem_cons hi]; congr 1; exact Option.some.inj ((List.getElem?_eq_getElem hi).symm.trans hd)
    rw [e] at q2
    obtain ⟨F3, s3, E3, r3⟩ := E2.item y
    refine ⟨c.kp D (.lst vs), F3, wipeR ρ (List.map (fun x : Str × Nat => x.2) own), d, _, noR, E3.wipe _, r3, q2, fun ρ4 q4 wr σ4 H4 F4 E4 s4 ws => ⟨(ws _ hV).trans wipe_wipe, ?_⟩⟩
    have wrw : wipeR (wipeR ρ (own.map (·.2))) (own.map (·.2)) = wipeR ρ (own.map (·.2)) := by
      apply List.ext_getElem?
      intro j
      rw [wipeR_get, wipeR_get, wipeR_length]
      by_cases e : j ∈ own.map (·.2) <;> simp only [e, if_true, if_false]
    have back : ∀ {c' : Ct} {F' H' : Hp}, Same F3 F' → ER X.K X.mg c' F' H' σ4 ρ4 → ER X.K X.mg c' F' H' σ ρ := fun s' E' => by
      have := E'.wipe (own.map (·.2))
      rw [wr _ hV, wrw, (ws _ hV).trans wipe_wipe] at this
      exact E3.merge this s' emp
    refine ⟨c.kp D (.lst vs), F4, ρ4, _, noR, E4, q4, fun b q5 H5 F5 E5 s5 => ?_, rsOk0 rs rfl⟩
    have s15 : Same F1 F5 := ((s2.trans s3).trans s4).trans s5
    have ra5 := ra.same ((s3.trans s4).trans s5)
    cases b with
    | false => exact ⟨F5, acc, vs, back (s4.trans s5) E5, s15, ra5, q5⟩
    | true =>
      obtain ⟨emp1, q5⟩ := q5
      refine ⟨c.kp D (.lst vs), F5, ρ4, _, noR, E5, q5, fun es q6 J1 H6 F6 E6 s6 w1 => ?_, rsOk0 rs rfl⟩
      have q6 : lcP1 g1 tt1 te (wipeR ρ4 V1) (lc2P g tt ti1 g1 tt1 te V1 (wipeR ρ (own.map (·.2))) (ds.drop (i + 1))) es acc Qp noR := q6
      refine ⟨fun j m H => j + m = es.length ∧ ∃ F7 acc vs7, ER X.K X.mg (c.kp D (.lst vs7)) F7 H σ4 ρ4 ∧ Same F6 F7 ∧ RpAll X.K X.mg F7 vs7 acc ∧ lcP1 g1 tt1 te (wipeR ρ4 V1) (lc2P g tt ti1 g1 tt1 te V1 (wipeR ρ (own.map (·.2))) (ds.drop (i + 1))) (es.drop j) acc Qp noR, ⟨es.length, by omega, F6, acc, vs, E6, Same.refl _, ra5.same s6, q6⟩, ?_⟩
      rintro j m7 H7 ⟨hm7, F7, acc7, vs7, E7, s7, ra7, q7⟩
      have G7 : GR X F6 σ4 ρ4 F7 H7 := ⟨s7, _, E7⟩
      have emp1 : Nov ρ4 V1 := emp1
      by_cases hj : j < es.length
      · refine .inr ⟨w1.go j F7 H7 hj G7, fun H' => ∃ F7 acc vs7, ER X.K X.mg (c.kp D (.lst vs7)) F7 H' σ4 ρ4 ∧ Same F6 F7 ∧ RpAll X.K X.mg F7 vs7 acc ∧ lcP1 g1 tt1 te (wipeR ρ4 V1) (lc2P g tt ti1 g1 tt1 te V1 (wipeR ρ (own.map (·.2))) (ds.drop (i + 1))) (es.drop (j + 1)) acc Qp noR, fun H' n => ⟨es.length - (j + 1), by omega, by omega, n⟩, fun x1 H' y1 => ?_⟩
        obtain ⟨d1, hd1, y1⟩ := w1.yld j F7 H7 x1 H' hj G7 y1
        have e1 : es.drop j = d1 :: es.drop (j + 1) := by rw [List.drop_eq_getElem_cons hj]; congr 1; exact Option.some.inj ((List.getElem?_eq_getElem hj).symm.trans hd1)
        rw [e1] at q7
        obtain ⟨F8, s8, E8, r8⟩ := E7.item y1
        refine ⟨c.kp D (.lst vs7), F8, wipeR ρ4 V1, d1, _, noR, E8.wipe _, r8, q7, fun ρ9 q9 wr1 σ9 H9 F9 E9 s9 ws1 => ⟨(ws1 _ hV1).trans wipe_wipe, ?_⟩⟩
        have wrw1 : wipeR (wipeR ρ4 V1) V1 = wipeR ρ4 V1 := by
          apply List.ext_getElem?
          intro j
          rw [wipeR_get, wipeR_get, wipeR_length]
          by_cases e : j ∈ V1 <;> simp only [e, if_true, if_false]
        have back1 : ∀ {c' : Ct} {F' H' : Hp}, Same F8 F' → ER X.K X.mg c' F' H' σ9 ρ9 → ER X.K X.mg c' F' H' σ4 ρ4 := fun s' E' => by
          have := E'.wipe V1
          rw [wr1 _ hV1, wrw1, (ws1 _ hV1).trans wipe_wipe] at this
          exact E8.merge this s' emp1
        refine ⟨c.kp D (.lst vs7), F9, ρ9, _, noR, E9, q9, fun b1 qa Ha Fa Ea sa => ?_, rsOk0 rs rfl⟩
        have s6a : Same F6 Fa := ((s7.trans s8).trans s9).trans sa
        have raa := ra7.same ((s8.trans s9).trans sa)
        cases b1 with
        | false => exact ⟨Fa, acc7, vs7, back1 (s9.trans sa) Ea, s6a, raa, qa⟩
        | true =>
          refine ⟨c.kp D (.lst vs7), Fa, ρ9, _, noR, Ea, qa, fun z qb vb Hb Fb Eb sb rb => ?_, rsOk0 rs rfl⟩
          obtain ⟨qc, qd⟩ := qb
          have hDb : Hb D = some (.lst vs7) := by
            obtain ⟨⟨dl, wb, _, _⟩, _⟩ := Eb
            exact (wb.gh (D, .lst vs7) List.mem_cons_self).1
          exact ⟨vs7, hDb, by rw [raa.length]; exact qc, Fb, acc7 ++ [z], vs7 ++ [vb], (back1 ((s9.trans sa).trans sb) Eb).setG, s6a.trans sb, (raa.same sb).snoc rb, qd⟩
      · have e1 : j = es.length := by omega
        subst e1
        rw [List.drop_length] at q7
        exact .inl ⟨w1.stop F7 H7 G7, F7, acc7, vs7, back (((s4.trans s5).trans s6).trans s7) E7, (s15.trans s6).trans s7, ra7, q7⟩
  · have e : i = ds.length := by omega
    subst e
    rw [List.drop_length] at q2
    exact .inl ⟨w.stop F2 H2 G2, k acc q2 D vs H2 F2 E2 (s1.trans s2) ra⟩
theorem pf_lc2 (hc : X.calm = true) (hN : X.N.Nodup) (hi : PIR X W tg iter ti) (ok : BlkOk X.N X.env.scope scope own) (hv : ∀ i ∈ V1, i ∈ own.map (·.2))
    (hg : ∀ (s : Shared) (H : Hp) (C : Addr) (cl : List (Str × Addr)) (fp : List Addr), PPG (X.blk s H scope (compEnvC scope cl C X.env) fp) tg is g) (ht : ∀ (s : Shared) (H : Hp) (C : Addr) (cl : List (Str × Addr)) (fp : List Addr), PPTs (X.blk s H scope (compEnvC scope cl C X.env) fp) (W0 W.T) ifs tt)
    (hi1 : ∀ (s : Shared) (H : Hp) (C : Addr) (cl : List (Str × Addr)) (fp : List Addr), PIR (X.blk s H scope (compEnvC scope cl C X.env) fp) (W0 W.T) tg1 iter1 ti1)
    (hg1 : ∀ (s : Shared) (H : Hp) (C : Addr) (cl : List (Str × Addr)) (fp : List Addr), PPG (X.blk s H scope (compEnvC scope cl C X.env) fp) tg1 is1 g1) (ht1 : ∀ (s : Shared) (H : Hp) (C : Addr) (cl : List (Str × Addr)) (fp : List Addr), PPTs (X.blk s H scope (compEnvC scope cl C X.env) fp) (W0 W.T) ifs1 tt1)
    (he : ∀ (s : Shared) (H : Hp) (C : Addr) (cl : List (Str × Addr)) (fp : List Addr), PPE (X.blk s H scope (compEnvC scope cl C X.env) fp) (W0 W.T) elt te) (hV : ∀ i ∈ is, i ∈ own.map (·.2)) (hV1 : ∀ i ∈ is1, i ∈ V1)
    (hs : ∀ x, foldedSetIterable iter X.env x = pure x := by intro _; rfl) (hs1 : ∀ env x, foldedSetIterable iter1 env x = pure x := by intro _ _; rfl) :
    PF X W (.ListComp elt [⟨tg, iter, ifs, 0⟩, ⟨tg1, iter1, ifs1, 0⟩] scope pos) (fun ρ => novM ρ (own.map (·.2)) >>= fun ρw => ti ρ >>= fun ds => calmM (lc2P g tt ti1 g1 tt1 te V1 ρw ds [])) :=
  PE.imp (pe_lc2 (g := tG X is g) (tt := tB X (W0 W.T) tt) (wi1 := tIR X (W0 W.T) ti1) (g1 := tG X is1 g1) (tt1 := tB X (W0 W.T) tt1) (te := tP X (W0 W.T) te) hc hN hi ok hv hg ht hi1 hg1 ht1 he hs hs1) fun σ H Q h => tLc2_ok hV hv hV1 h
end
end
end L3
namespace L3
open PySem PySem.Spec PyProof.Rows L2 LamX
abbrev PProm := List Sl → M PV
section
variable {K : PySem.W.Frag} {mg : Str → Option Value}
/-- the world as a def finds it -/
abbrev Ct.at (F H : Hp) (dl : Option (Addr × Addr)) (T : List (Addr × Str)) : Ct := ⟨F, H, dl, T, []⟩
/-- what is handed over -/
def SAr (K : PySem.W.Frag) (mg : Str → Option Value) (dl : Option (Addr × Addr)) (F : Hp) (v : V) : Sl → Prop
  | .val d => Rp K mg F v d
  | .own _ => False
  | .deal => ∃ p q, v = .ref p ∧ dl = some (p, q)
def spP (K : PySem.W.Frag) (mg : Str → Option Value) (T : List (Addr × Str)) (n : Nat) (pp : PProm) : Sp := fun vs H Q E => ∃ F dl ss Qp R, Wd (Ct.at F H dl T) dl F H ∧ vs.length = n ∧ Paired (SAr K mg dl F) vs ss ∧ pp ss Qp R ∧
  (∀ d, Qp d → ∀ v H' F', Wd (Ct.at F H dl T) dl F' H' → Same F F' → Rp K mg F' v d → Q v H') ∧
  (∀ nm d, R nm d → ∀ (C dx : Addr) v H' F', mg nm = some (.ref C) → H' dx = some (.xd [("at", v)]) → Wd (Ct.at F H dl T) dl F' H' → Same F F' → Rp K mg F' v d → E (.ref C) (some dx) H')
/-- the world as a def leaves it, seen by its caller -/
theorem ER.back {c : Ct} {dl : Option (Addr × Addr)} {F H F' H' : Hp} {σ : L2.St} {ρ : Rho} (w : Wd c dl F H)
    (sl : ∀ (i : Nat) (s : Sl), ρ[i]? = some (some s) → ∃ v, σ[i]? = some (some v) ∧ SR K mg c dl F H v s)
    (inj : ∀ (i j : Nat) (a : Addr) (xs ys : List PV), ρ[i]? = some (some (.own xs)) → ρ[j]? = some (some (.own ys)) → σ[i]? = some (some (V.ref a)) → σ[j]? = some (some (V.ref a)) → i = j) (len : ρ.length = σ.length)
    (w' : Wd (Ct.at F H dl c.T) dl F' H') (s : Same F F') : ER K mg c F' H' σ ρ := by
  have keep : ∀ b xs, H b = some (.lst xs) → (∀ p q, dl = some (p, q) → b ≠ p ∧ b ≠ q) → H' b = some (.lst xs) := fun b xs e n => w'.base b _ e (fun _ z => nomatch z) n
  have fre : ∀ b xs, H b = some (.lst xs) → F b = none → F' b = none := fun b xs e n => by
    cases q : F' b with
    | none => rfl
    | some o =>
      rcases w'.fr b o q with z | z
      · rw [show (Ct.at F H dl c.T).F0 b = F b from rfl, n] at z; cases z
      · rw [show (Ct.at F H dl c.T).H0 b = H b from rfl, e] at z; exact z.elim
  have fsh : ∀ {a xs}, H a = some (.lst xs) → Fsh c dl F a → Fsh c dl F' a := fun {a xs} e f => ⟨fre a xs e f.f, f.h, f.d⟩
  have wd : Wd c dl F' H' := by
    refine ⟨w'.sub, w'.ntb, fun b o e n d => ?_, w'.dd, w.dn, fun b o e => ?_, w'.tab, fun p hp => ?_, w.gl, w.gd⟩
    · refine w'.base b o (w.base b o e n d) n fun p q z => ?_
      rcases w.dn with y | ⟨_, y⟩
      · exact d p q (y.symm.trans z)
      · obtain ⟨y1, y2⟩ := y p q z
        exact ⟨fun z => by subst z; exact y1.ne e n, fun z => by subst z; exact y2.ne e n⟩
    · rcases w'.fr b o e with z | z
      · exact w.fr b o z
      · have z : NB (H b) := z
        by_cases t : NB (c.H0 b)
        · exact .inr t
        · exfalso
          have nd : ∀ p q, dl = some (p, q) → b ≠ p ∧ b ≠ q := fun p q y => by
            obtain ⟨_, _, _, f1, f2⟩ := w'.dd p q y
            exact ⟨(fun z => by rw [z, f1] at e; cases e), (fun z => by rw [z, f2] at e; cases e)⟩
          cases u : c.H0 b with
          | none => rw [u] at t; exact t trivial
          | some o' =>
            have nt : ∀ ps, o' ≠ .tbl ps := fun ps y => by rw [u, y] at t; exact t trivial
            refine z.ne (w.base b o' u nt fun p q y => ?_) nt
            rcases w.dn with y2 | ⟨y2, _⟩
            · exact nd p q (y2.trans y)
            · rw [y2] at y; cases y
    · obtain ⟨xs, e⟩ := w.gl p hp
      obtain ⟨g1, g2⟩ := w.gh p hp
      rw [e] at g1 ⊢
      exact ⟨keep _ _ g1 g2.d, fsh g1 g2⟩
  refine ⟨⟨dl, wd, fun i s' e => ?_, inj⟩, len⟩
  obtain ⟨v, h1, h2⟩ := sl i s' e
  exact ⟨v, h1, h2.mono s fun a vs e f => ⟨keep a vs e f.d, fsh e f⟩⟩
end
section
variable {X : Cx} {W : Wsh}
def SAs (X : Cx) (F : Hp) (σ : L2.St) (ρ : Rho) (v : V) : Sl → Prop
  | .val d => Rp X.K X.mg F v d
  | .own _ => False
  | .deal => ∃ i : Nat, ρ[i]? = some (some .deal) ∧ σ[i]? = some (some v)
theorem SAs.same {F F' : Hp} {σ : L2.St} {ρ : Rho} {v : V} {s : Sl} (h : SAs X F σ ρ v s) (k : Same F F') : SAs X F' σ ρ v s := by
  cases s with
  | val d => exact Rp.same h k
  | own _ => exact h
  | deal => exact h
theorem sas_same {F F' : Hp} {σ : L2.St} {ρ : Rho} (k : Same F F') : ∀ {vs : List V} {ss : List Sl}, Paired (SAs X F σ ρ) vs ss → Paired (SAs X F' σ ρ) vs ss
  | _, _, .nil => .nil
  | _, _, .cons h t => .cons (h.same k) (sas_same k t)
def SQ (X : Cx) (c : Ct) (F : Hp) (σ : L2.St) (ρ : Rho) (Qp : List Sl → Prop) (Q : List V → Hp → Prop) : Prop := ∀ ss, Qp ss → ∀ vs H' F', ER X.K X.mg c F' H' σ ρ → Same F F' → Paired (SAs X F' σ ρ) vs ss → Q vs H'
def tSA (X : Cx) (W : Wsh) (te : Rho → M (List Sl)) : TA := fun σ H Q => ∃ c F ρ Qp R, ER X.K X.mg c F H σ ρ ∧ te ρ Qp R ∧ SQ X c F σ ρ Qp Q ∧ RsOk X W c F R
abbrev PSA (X : Cx) (W : Wsh) (es : List Expr) (te : Rho → M (List Sl)) : Prop := PA X es (tSA X W te)
abbrev PSK (X : Cx) (W : Wsh) (ks : List Keyword) (te : Rho → M (List Sl)) : Prop := PK X ks (tSA X W te)
def dealM (ρ : Rho) (i : Nat) : M Unit := match ρ[i]? with
  | some (some .deal) => pure ()
  | _ => failM
theorem dealM_inv {ρ : Rho} {i : Nat} {Q : Unit → Prop} {R : RS} (h : dealM ρ i Q R) : ρ[i]? = some (some .deal) ∧ Q () := by
  unfold dealM at h
  match e : ρ[i]?, h with
  | some (some .deal), h => exact ⟨rfl, h⟩
  | some (some (.own _)), h => exact h.elim
  | some (some (.val _)), h => exact h.elim
  | some none, h => exact h.elim
  | none, h => exact h.elim
theorem PK.imp {e : List Keyword} {t t' : TA} (h : PK X e t) (k : ∀ σ H Q, t' σ H Q → t σ H Q) : PK X e t' := ⟨fun p pins s σ H Q I q => h.run p pins s σ H Q I (k σ H Q q)⟩
section
variable {e : Expr} {es : List Expr} {ks : List Keyword} {te : PTE} {t : Rho → M (List Sl)} {i : Nat} {nm : Option Str} {kpos : Pos}
theorem psa_nil : PSA X W [] (fun _ => pure []) := PA.imp pa_nil fun σ H Q ⟨c, F, ρ, Qp, R, E, t, k, rs⟩ => k [] t [] H F E (Same.refl _) .nil
theorem t_val {σ : L2.St} {H : Hp} {Q : List V → Hp → Prop} (h : tSA X W (fun ρ => te ρ >>= fun x => t ρ >>= fun xs => pure (.val x :: xs)) σ H Q) : tCons (tP X W te) (tSA X W t) σ H Q := by
  obtain ⟨c, F, ρ, Qp, R, E, t, k, rs⟩ := h
  refine ⟨c, F, ρ, _, R, E, t, fun x qx v H1 F1 E1 s1 r1 => ⟨c, F1, ρ, _, R, E1, qx, fun xs qxs vs H2 F2 E2 s2 r2 => ?_, rs.mono s1⟩, rs⟩
  exact k _ qxs _ H2 F2 E2 (s1.trans s2) (.cons (Rp.same r1 s2) r2)
theorem t_deal {σ : L2.St} {H : Hp} {Q : List V → Hp → Prop} (h : tSA X W (fun ρ => dealM ρ i >>= fun _ => t ρ >>= fun xs => pure (.deal :: xs)) σ H Q) : tCons (tVar i) (tSA X W t) σ H Q := by
  obtain ⟨c, F, ρ, Qp, R, E, t, k, rs⟩ := h
  obtain ⟨hd, t⟩ := dealM_inv t
  obtain ⟨v, hv⟩ : ∃ v, σ[i]? = some (some v) := by
    obtain ⟨⟨dl, w, sl, _⟩, _⟩ := E
    obtain ⟨v, h1, _⟩ := sl i _ hd
    exact ⟨v, h1⟩
  exact ⟨v, hv, c, F, ρ, _, R, E, t, fun xs qxs vs H2 F2 E2 s2 r2 => k _ qxs _ H2 F2 E2 s2 (.cons ⟨i, hd, hv⟩ r2), rs⟩
theorem psa_val (ha : PPE X W e te) (hr : PSA X W es t) (hs : starEach (e :: es) X.env = (false, eval e X.env) :: starEach es X.env := by rfl) : PSA X W (e :: es) (fun ρ => te ρ >>= fun x => t ρ >>= fun xs => pure (.val x :: xs)) :=
  PA.imp (pa_cons ha hr hs) fun _ _ _ h => t_val h
theorem psa_deal (ha : PE X e (tVar i)) (hr : PSA X W es t) (hs : starEach (e :: es) X.env = (false, eval e X.env) :: starEach es X.env := by rfl) : PSA X W (e :: es) (fun ρ => dealM ρ i >>= fun _ => t ρ >>= fun xs => pure (.deal :: xs)) :=
  PA.imp (pa_cons ha hr hs) fun _ _ _ h => t_deal h
theorem psk_nil : PSK X W [] (fun _ => pure []) := PK.imp pk_nil fun σ H Q ⟨c, F, ρ, Qp, R, E, t, k, rs⟩ => k [] t [] H F E (Same.refl _) .nil
theorem psk_val (ha : PPE X W e te) (hr : PSK X W ks t) : PSK X W (⟨nm, e, kpos⟩ :: ks) (fun ρ => te ρ >>= fun x => t ρ >>= fun xs => pure (.val x :: xs)) := PK.imp (pk_cons ha hr) fun _ _ _ h => t_val h
theorem psk_deal (ha : PE X e (tVar i)) (hr : PSK X W ks t) : PSK X W (⟨nm, e, kpos⟩ :: ks) (fun ρ => dealM ρ i >>= fun _ => t ρ >>= fun xs => pure (.deal :: xs)) := PK.imp (pk_cons ha hr) fun _ _ _ h => t_deal h
end
theorem takes_len {W : WX} (t : Takes X W) : Takes X (fun c d σ H => σ.length = X.N.length → W c d σ H) := fun u s' ⟨a, B, sI, pins, σ, H, cls, d, e, I, nb, up, sky, na, os, ag, wk⟩ =>
  t u s' ⟨a, B, sI, pins, σ, H, cls, d, e, I, nb, up, sky, na, os, ag, wk I.len⟩
/-- what is wanted of an error that a callee lets out -/
abbrev EW (X : Cx) (W : Wsh) : XK := fun cls d H => ∀ σ' : L2.St, σ'.length = X.N.length → W.w cls d σ' H
theorem passW (tk : Takes X W.w) : Passes (L2.CX X.prog X.w) X (EW X W) := passes_call (takes_len tk) fun _ _ σ _ h l => h σ l
theorem sp_ok {c : Ct} {F H : Hp} {σ : L2.St} {ρ : Rho} {vs : List V} {ss : List Sl} {n : Nat} {pp : PProm} {Qp : PV → Prop} {R : RS} {Q : VK} (E : ER X.K X.mg c F H σ ρ) (hn : ss.length = n) (r : Paired (SAs X F σ ρ) vs ss) (q : pp ss Qp R) (k : EQ X c F σ ρ Qp Q) (rs : RsOk X W c F R) :
    spP X.K X.mg W.T n pp vs H Q (EW X W) := by
  obtain ⟨⟨dl, w, sl, inj⟩, len⟩ := id E
  have w0 : Wd (Ct.at F H dl W.T) dl F H := ⟨w.sub, w.ntb, fun b o e _ _ => e, w.dd, .inl rfl, fun b o e => .inl e, by rw [← rs.1]; exact w.tab, (fun p hp => absurd hp List.not_mem_nil), (fun p hp => absurd hp List.not_mem_nil), List.nodup_nil⟩
  have back : ∀ {F' H' : Hp}, Wd (Ct.at F H dl W.T) dl F' H' → Same F F' → ER X.K X.mg c F' H' σ ρ := fun w' s => ER.back w sl inj len (by rw [rs.1]; exact w') s
  refine ⟨F, dl, ss, Qp, R, w0, by rw [r.length, hn], ?_, q, fun d qd v H' F' w' s r' => k d qd v H' F' (back w' s) s r', fun nm d rd C dx v H' F' e1 e2 w' s r' σ' l => rs.2.2 nm d rd C dx v σ' H' F' e1 e2 (back w' s).wd s r' l⟩
  refine Paired.mapP r fun v s h => ?_
  cases s with
  | val d => exact h
  | own _ => exact h
  | deal =>
    obtain ⟨i, h1, h2⟩ := h
    obtain ⟨v', h3, p, q, h4, h5⟩ := sl i _ h1
    rw [h2] at h3
    obtain rfl := Option.some.inj (Option.some.inj h3)
    exact ⟨p, q, h4, h5⟩
/-- f(e, ..) -/
theorem pp_call {f : Addr} {fd : FuncData} {ps : List Str} {lev n : Nat} {pp : PProm} {nm : Str} {e : Expr} {es : List Expr} {t : Rho → M (List Sl)} {p pos : Pos} (F : FnG X.prog X.w X.K X.mg X.base (L2.CX X.prog X.w) lev f fd ps (spP X.K X.mg W.T n pp)) (tk : Takes X W.w) (hg : X.A.guards = some []) (hr : Room lev X.A) (hgl : Gl X nm) (hm : X.mg nm = some (.ref f))
    (hk : PySem.W.keepIn X.K (.ref f) = true) (hb : Binds X.K fd ps []) (ha : PSA X W (e :: es) t) (hdb : (nm == ("__debug__" : Str)) = false := by decide) (he : starEach (e :: es) X.env = (false, eval e X.env) :: starEach es X.env := by rfl)
    (hpl : (backTo pos (starEach es X.env)).any (·.1) = false := by rfl) : PPE X W (.Call (.Name nm p) (e :: es) [] pos) (fun ρ => t ρ >>= fun ss => fun Q R => ss.length = n ∧ pp ss Q R) :=
  PE.imp (pe_callG F hg hr hgl hm hk hb .nil (passW tk) ha hdb he hpl) fun σ H Q ⟨c, F, ρ, Qp, R, E, t, k, rs⟩ => ⟨c, F, ρ, _, R, E, t, fun ss q vs H' F' E' s r => by
    show spP X.K X.mg W.T n pp (vs ++ []) H' Q (EW X W)
    rw [List.append_nil]
    exact sp_ok E' q.1 r q.2 (EQ.mono k s) (rs.mono s), rs⟩
def gPerm {α : Type} (nu nk : Nat) (perm : List Nat) (us ws : List α) : List α := if us.length = nu ∧ ws.length = nk then perm.filterMap fun i => (us ++ ws)[i]? else []
theorem vals_fm {vs : List V} {us : List Value} (r : Vals vs us) : ∀ perm : List Nat, Vals (perm.filterMap fun i => vs[i]?) (perm.filterMap fun i => us[i]?)
  | [] => .nil
  | i :: perm => by
    rw [List.filterMap_cons, List.filterMap_cons]
    cases e : vs[i]? with
    | none => rw [r.none_of e]; exact vals_fm r perm
    | some v =>
      obtain ⟨u, h1, h2⟩ := r.get e
      rw [h1]
      exact .cons h2 (vals_fm r perm)
theorem kb_perm {K : PySem.W.Frag} {fd : FuncData} {ps ks : List Str} {nu : Nat} (perm : List Nat) (h0 : 0 < ps.length) (h : ∀ us ws : List Value, us.length = nu → ws.length = ks.length → bindArgs fd ⟨us, ks.zip ws⟩ = pure (ps.zip (gPerm nu ks.length perm us ws))) : KBinds K fd ps ks (gPerm nu ks.length perm) (gPerm nu ks.length perm) := by
  refine ⟨fun s us ws _ hl => ?_, fun {vs us zs ws} r rz => ?_⟩
  · by_cases c : us.length = nu ∧ ws.length = ks.length
    · exact .of_eq (h us ws c.1 c.2)
    · unfold gPerm at hl
      rw [if_neg c] at hl
      simp only [List.length_nil] at hl
      omega
  · unfold gPerm
    rw [r.length, rz.length]
    split
    · exact vals_fm (r.append rz) perm
    · exact .nil
theorem paired_fm {α β : Type} {R : α → β → Prop} {vs : List α} {us : List β} (r : Paired R vs us) : ∀ perm : List Nat, Paired R (perm.filterMap fun i => vs[i]?) (perm.filterMap fun i => us[i]?) := by
  have get : ∀ {vs : List α} {us : List β}, Paired R vs us → ∀ i : Nat, (vs[i]? = none ∧ us[i]? = none) ∨ ∃ v u, vs[i]? = some v ∧ us[i]? = some u ∧ R v u := by
    intro vs us r
    induction r with
    | nil => intro i; exact .inl (by simp)
    | cons h t ih =>
      intro i
      cases i with
      | zero => exact .inr ⟨_, _, rfl, rfl, h⟩
      | succ i => simpa using ih i
  intro perm
  induction perm with
  | nil => exact .nil
  | cons i perm ih =>
    rw [List.filterMap_cons, List.filterMap_cons]
    rcases get r i with ⟨h1, h2⟩ | ⟨v, u, h1, h2, h3⟩
    · rw [h1, h2]; exact ih
    · rw [h1, h2]; exact .cons h3 ih
theorem paired_app {α β : Type} {R : α → β → Prop} {vs vs' : List α} {us us' : List β} (r : Paired R vs us) (r' : Paired R vs' us') : Paired R (vs ++ vs') (us ++ us') := by
  induction r with
  | nil => exact r'
  | cons h t ih => exact .cons h ih
theorem paired_perm {R : V → Sl → Prop} {nu nk : Nat} {perm : List Nat} {vs zs : List V} {ss ts : List Sl} (r : Paired R vs ss) (rz : Paired R zs ts) : Paired R (gPerm nu nk perm vs zs) (gPerm nu nk perm ss ts) := by
  unfold gPerm
  rw [r.length, rz.length]
  split
  · exact paired_fm (paired_app r rz) perm
  · exact .nil
section
variable {f : Addr} {fd : FuncData} {ps ks : List Str} {lev n nu nk : Nat} {pp : PProm} {nm : Str} {e : Expr} {es : List Expr} {kws : List Keyword} {t tk' : Rho → M (List Sl)} {p pos : Pos} {perm : List Nat}
theorem run_fnGk {E : XK} {sp : Sp} {g : List Value → List Value → List Value} {gV : List V → List V → List V} {pins : List (Addr × Obj)} {σ : L2.St} {H : Hp} {s : Shared} {Q : VK} {us ws : List Value} {vs zs : List V} (F : FnG X.prog X.w X.K X.mg X.base (L2.CX X.prog X.w) lev f fd ps sp) (hg : X.A.guards = some []) (hr : Room lev X.A) (hb : KBinds X.K fd ps ks g gV) (hx : Passes (L2.CX X.prog X.w) X E)
    (I : Inv X pins σ H s) (r : Vals vs us) (rz : Vals zs ws) (h : sp (gV vs zs) H Q E) : wpAny (model X.prog X.w) X.A (call (.ref f) us (ks.zip ws)) (EP X pins σ Q) X.xe s := by
  have r2 := hb.rel r rz
  have hl : (g us ws).length = ps.length := by rw [← r2.length]; exact F.len _ _ _ _ h
  refine wpAny_call (codeAny_mono (F.run X.A X.stack s H ⟨us, ks.zip ws⟩ (g us ws) (gV vs zs) Q E hg hr I.env0 (hb.to s us ws I.kIn hl) r2 h) fun r s' hq => ?_)
  cases r with
  | error e => exact hx pins σ H s e s' I hq
  | ok fl =>
    cases fl with
    | ret u => exact I.after hq
    | next => exact False.elim hq
    | brk => exact False.elim hq
    | cont => exact False.elim hq
theorem pp_callK (F : FnG X.prog X.w X.K X.mg X.base (L2.CX X.prog X.w) lev f fd ps (spP X.K X.mg W.T n pp)) (tk : Takes X W.w) (hg : X.A.guards = some []) (hr : Room lev X.A) (hgl : Gl X nm) (hm : X.mg nm = some (.ref f))
    (hk : PySem.W.keepIn X.K (.ref f) = true) (hb : KBinds X.K fd ps ks (gPerm nu nk perm) (gPerm nu nk perm)) (ha : PSA X W (e :: es) t) (hkw : PSK X W kws tk') (hall : (backToKw pos (keywordEach kws X.env)).all (·.1.isSome) = true := by rfl) (hks : (backToKw pos (keywordEach kws X.env)).filterMap (·.1) = ks := by rfl)
    (hdb : (nm == ("__debug__" : Str)) = false := by decide) (he : starEach (e :: es) X.env = (false, eval e X.env) :: starEach es X.env := by rfl)
    (hpl : ((backTo pos (starEach (e :: es) X.env)).any (·.1) || (backToKw pos (keywordEach kws X.env)).any (·.1.isNone)) = false := by rfl) :
    PPE X W (.Call (.Name nm p) (e :: es) kws pos) (fun ρ => t ρ >>= fun ss => tk' ρ >>= fun zs => fun Q R => (gPerm nu nk perm ss zs).length = n ∧ pp (gPerm nu nk perm ss zs) Q R) := by
  refine ⟨fun pins s σ H Q I ⟨c, F0, ρ, Qp, R, E, t, k, rs⟩ => ?_⟩
  refine wpAny_Call_Name_kw (ld_glob I hgl hm ?_ hdb)
  refine PySem.W.callWith_KW (h₀ := X.base) I.ok.mod.kin hk hall (thn (ha.run pos pins s σ H _ I ⟨c, F0, ρ, _, R, E, t, fun ss q vs H1 F1 E1 s1 r1 => (⟨c, F1, ρ, _, R, E1, q, fun zs qz ws H2 F2 E2 s2 r2 => ?_, rs.mono s1⟩ : tSA X W tk' σ H1 (fun zs H2 => spP X.K X.mg W.T n pp (gPerm nu nk perm vs zs) H2 Q (EW X W))), rs⟩) fun us s1 ⟨vs, H1, I1, r, q⟩ => ?_) hpl he
  · exact sp_ok E2 qz.1 (paired_perm (sas_same s2 r1) r2) qz.2 (EQ.mono k (s1.trans s2)) (rs.mono (s1.trans s2))
  · refine thn (hkw.run pos pins s1 σ H1 _ I1 q) fun ws s2 ⟨zs, H2, I2, rz, q2⟩ => ⟨I2.kIn, ?_⟩
    rw [hks]
    exact run_fnGk F hg hr hb (passW tk) I2 r rz q2
theorem pp_callK0 (F : FnG X.prog X.w X.K X.mg X.base (L2.CX X.prog X.w) lev f fd ps (spP X.K X.mg W.T n pp)) (tk : Takes X W.w) (hg : X.A.guards = some []) (hr : Room lev X.A) (hgl : Gl X nm) (hm : X.mg nm = some (.ref f))
    (hk : PySem.W.keepIn X.K (.ref f) = true) (hb : KBinds X.K fd ps ks (gPerm 0 nk perm) (gPerm 0 nk perm)) (hkw : PSK X W kws tk') (hall : (backToKw pos (keywordEach kws X.env)).all (·.1.isSome) = true := by rfl) (hks : (backToKw pos (keywordEach kws X.env)).filterMap (·.1) = ks := by rfl)
    (hdb : (nm == ("__debug__" : Str)) = false := by decide) (hpl : ((backTo pos (starEach [] X.env)).any (·.1) || (backToKw pos (keywordEach kws X.env)).any (·.1.isNone)) = false := by rfl) :
    PPE X W (.Call (.Name nm p) [] kws pos) (fun ρ => tk' ρ >>= fun zs => fun Q R => (gPerm 0 nk perm [] zs).length = n ∧ pp (gPerm 0 nk perm [] zs) Q R) := by
  refine ⟨fun pins s σ H Q I ⟨c, F0, ρ, Qp, R, E, t, k, rs⟩ => ?_⟩
  refine wpAny_Call_Name_kw (ld_glob I hgl hm ?_ hdb)
  refine PySem.W.callWith_KW0 (h₀ := X.base) I.ok.mod.kin hk hall (thn (hkw.run pos pins s σ H (fun zs H2 => spP X.K X.mg W.T n pp (gPerm 0 nk perm [] zs) H2 Q (EW X W)) I ⟨c, F0, ρ, _, R, E, t, fun zs qz ws H2 F2 E2 s2 r2 => ?_, rs⟩) fun ws s2 ⟨zs, H2, I2, rz, q2⟩ => ⟨I2.kIn, ?_⟩) hpl
  · exact sp_ok E2 qz.1 (paired_perm .nil r2) qz.2 (EQ.mono k s2) (rs.mono s2)
  · rw [hks]
    exact run_fnGk (us := []) (vs := []) F hg hr hb (passW tk) I2 .nil rz q2
end
def endM (f : Fl) : M PV := match f with
  | .rt d => pure d
  | .nx _ => pure .non
  | _ => failM
/-- what a def of the names N does, its body being ts -/
def pdef (N : List Str) (ts : PTS) : PProm := fun ss => ts (ss.map some ++ List.replicate (N.length - ss.length) none) >>= endM
section
variable {P : Program} {w : World} {K : PySem.W.Frag} {mg : Str → Option Value} {base : Heap}
theorem paired_start {dl : Option (Addr × Addr)} {F H : Hp} {T : List (Addr × Str)} {N : List Str} {vs : List V} {ss : List Sl} (wd : Wd (Ct.at F H dl T) dl F H) (r : Paired (SAr K mg dl F) vs ss) (hn : vs.length ≤ N.length) : ER K mg (Ct.at F H dl T) F H (L2.start N vs) (ss.map some ++ List.replicate (N.length - ss.length) none) := by
  have l := r.length
  have get : ∀ {vs : List V} {ss : List Sl}, Paired (SAr K mg dl F) vs ss → ∀ (i : Nat) (s : Sl), ss[i]? = some s → ∃ v, vs[i]? = some v ∧ SAr K mg dl F v s := by
    intro vs ss r
    induction r with
    | nil => intro i s h; simp at h
    | cons h t ih =>
      intro i s e
      cases i with
      | zero => obtain rfl := Option.some.inj e; exact ⟨_, rfl, h⟩
      | succ i => simpa using ih i s (by simpa using e)
  have at_ : ∀ (i : Nat) (s : Sl), (ss.map some ++ List.replicate (N.length - ss.length) none)[i]? = some (some s) → ss[i]? = some s := fun i s e => by
    by_cases h : i < ss.length
    · rw [List.getElem?_append_left (by simpa using h), List.getElem?_map, List.getElem?_eq_getElem h] at e
      rw [List.getElem?_eq_getElem h]
      exact Option.some.inj e
    · rw [List.getElem?_append_right (by simp; omega), List.getElem?_replicate] at e
      split at e <;> simp at e
  refine ⟨⟨dl, wd, fun i s e => ?_, fun i j a xs ys e1 _ _ _ => ?_⟩, by unfold L2.start; simp [l]⟩
  · have e := at_ i s e
    obtain ⟨v, h1, h2⟩ := get r i s e
    have hi := (List.getElem?_eq_some_iff.mp h1).1
    refine ⟨v, ?_, ?_⟩
    · unfold L2.start
      rw [List.getElem?_append_left (by simpa using hi), List.getElem?_map, h1]
      rfl
    · cases s with
      | val d => exact h2
      | own _ => exact h2.elim
      | deal => exact h2
  · obtain ⟨v, _, h2⟩ := get r i _ (at_ i _ e1)
    exact h2.elim
theorem def_ok {nm qn : Str} {st : Stmt} {f : Addr} {fd : FuncData} {N ps : List Str} {lev : Nat} {T : List (Addr × Str)} {ts : PTS} (F : Fun K nm qn st f fd) (sc : FnScope N ps (defScope st)) (hN : ps.length ≤ N.length)
    (body : ∀ (cv : Value) (A : Around) (outer : List PySem.Env) (s : Shared) (H : Hp) (E : XK), A.guards = some [] → Room lev (A.deeper (envOfC qn (defScope st) s.heap.objs.size f cv)) →
      PPSs (cxOf (L2.CX P w) P w K mg base N qn (defScope st) f cv A outer s H E) ⟨fun cls d _ H => E cls d H, T, false⟩ (defBody st) ts) :
    FnG P w K mg base (L2.CX P w) (lev + 1) f fd ps (spP K mg T ps.length (pdef N ts)) := by
  obtain ⟨_, _, _, _, _, _, cv, _, _, rfl, look, hcd⟩ := F.ex
  refine fnG_of look hcd sc (fun vs H Q E ⟨_, _, _, _, _, _, h, _⟩ => h) fun ar fr s H vs Q E hg hr hsp => ⟨_, body cv ar fr s H E hg hr, ?_⟩
  obtain ⟨F0, dl, ss, Qp, R, wd, hl, r, q, k1, k2⟩ := hsp
  refine ⟨Ct.at F0 H dl T, F0, _, _, R, paired_start wd r (by omega), q, fun fl qf => ?_, rfl, (fun z => nomatch z), fun nm d rd C dx v σ' H' F' e1 e2 w' s' r' _ => k2 nm d rd C dx v H' F' e1 e2 w' s' r'⟩
  cases fl with
  | nx ρ' => exact fun σ' H' F' E' s' => k1 _ qf _ H' F' E'.wd s' .non
  | bk ρ' => exact qf.elim
  | ct ρ' => exact qf.elim
  | rt d => exact fun v H' F' w' s' r' => k1 _ qf _ H' F' w' s' r'
/-- .. whose code object is known -/
theorem def_okC {nm qn : Str} {st : Stmt} {f cc : Addr} {fd : FuncData} {N ps : List Str} {lev : Nat} {T : List (Addr × Str)} {ts : PTS}
    (F : ∃ (oc : Value) (od : Option Addr) (kV doc pm : Value) (an : Option Addr) (ct : Value) (osl : Array (Option Value)), fd = PySem.W.fnOf nm qn (defArgs st) (defBody st) (defScope st) .none kV doc pm an (.ref cc) ct ∧ K.lookup f = some ⟨oc, od, .func fd, osl⟩ ∧ PySem.W.codeIn K (.ref cc) qn = true)
    (sc : FnScope N ps (defScope st)) (hN : ps.length ≤ N.length)
    (body : ∀ (A : Around) (outer : List PySem.Env) (s : Shared) (H : Hp) (E : XK), A.guards = some [] → Room lev (A.deeper (envOfC qn (defScope st) s.heap.objs.size f (.ref cc))) →
      PPSs (cxOf (L2.CX P w) P w K mg base N qn (defScope st) f (.ref cc) A outer s H E) ⟨fun cls d _ H => E cls d H, T, false⟩ (defBody st) ts) :
    FnG P w K mg base (L2.CX P w) (lev + 1) f fd ps (spP K mg T ps.length (pdef N ts)) := by
  obtain ⟨_, _, _, _, _, _, _, _, rfl, look, hcd⟩ := F
  refine fnG_of look hcd sc (fun vs H Q E ⟨_, _, _, _, _, _, h, _⟩ => h) fun ar fr s H vs Q E hg hr hsp => ⟨_, body ar fr s H E hg hr, ?_⟩
  obtain ⟨F0, dl, ss, Qp, R, wd, hl, r, q, k1, k2⟩ := hsp
  refine ⟨Ct.at F0 H dl T, F0, _, _, R, paired_start wd r (by omega), q, fun fl qf => ?_, rfl, (fun z => nomatch z), fun nm d rd C dx v σ' H' F' e1 e2 w' s' r' _ => k2 nm d rd C dx v H' F' e1 e2 w' s' r'⟩
  cases fl with
  | nx ρ' => exact fun σ' H' F' E' s' => k1 _ qf _ H' F' E'.wd s' .non
  | bk ρ' => exact qf.elim
  | ct ρ' => exact qf.elim
  | rt d => exact fun v H' F' w' s' r' => k1 _ qf _ H' F' w' s' r'
end
end
end L3
namespace L2
open PySem PySem.Spec PyProof.Rows LamX
theorem snoc_cases (l : List Int) : l = [] ∨ ∃ ini z, l = ini ++ [z] := by
  rcases List.eq_nil_or_concat l with h | ⟨a, b, h⟩
  · exact .inl h
  · exact .inr ⟨a, b, by simpa using h⟩
theorem atI_snoc {ini : List Int} {z : Int} : atI ((ini ++ [z]).map V.int) (-1) = some (.int z) := by
  have h : ((ini ++ [z]).map V.int) = ini.map V.int ++ [V.int z] := by simp
  rw [h]
  exact atI_last _ _
theorem last_snoc {ini : List Int} {z : Int} : ((ini ++ [z]).map V.int)[((ini ++ [z]).map V.int).length - 1]? = some (.int z) := by simp
theorem drop_snoc {ini : List Int} {z : Int} : ((ini ++ [z]).map V.int).dropLast = ini.map V.int := by simp
theorem abs_nat (t : Int) : (if t < 0 then -t else t) = ((t.natAbs : Nat) : Int) := by split <;> omega
theorem iteT' {b : Bool} {p q : Prop} (e : b = true) (h : p) : if b = true then p else q := by rw [if_pos e]; exact h
theorem iteF' {b : Bool} {p q : Prop} (e : b = false) (h : q) : if b = true then p else q := by rw [if_neg (by rw [e]; decide)]; exact h
theorem cut_ints (ns : List Int) (lo hi : Option Int) : ∃ ms : List Int, cutV (ns.map V.int) lo hi = ms.map V.int ∧ ms.length ≤ ns.length := by
  refine ⟨(ns.drop (HT.sIx (ns.map V.int).length 0 lo)).take (HT.sIx (ns.map V.int).length (ns.map V.int).length hi - HT.sIx (ns.map V.int).length 0 lo), ?_, ?_⟩
  · unfold cutV
    rw [List.map_take, List.map_drop]
  · rw [List.length_take, List.length_drop]
    omega
def absI (x : Int) : Int := ((x.natAbs : Nat) : Int)
theorem take_snoc {α : Type} {l : List α} {i : Nat} {x : α} (h : l[i]? = some x) : l.take (i + 1) = l.take i ++ [x] := by
  rw [List.take_add_one, h]
  rfl
def spOf : Sp := fun vs H Q _ => ∃ (p q s : Addr) (cs : List Int) (bl : Int) (xs : List V), vs = [.ref p, .ref s] ∧ Deal H p q cs bl ∧ H s = some (.lst xs) ∧ s ≠ p ∧ s ≠ q ∧ xs ≠ [] ∧ xs.length ≤ 1000000 ∧
  ∀ (x : V) (H' : Hp) (cs' : List Int) (bl' : Int), x ∈ xs → Deal H' p q cs' bl' → Keep p q H H' → Q x H'
def spDraw (K : PySem.W.Frag) : Sp := fun vs H Q _ => ∃ (a : Addr) (salt : Int) (ns : List Int), vs = [.ref a, .int salt] ∧ SqL K H a (ns.map V.int) ∧ ns.length ≤ 63 ∧ 0 ≤ salt ∧ salt ≤ 1000 ∧
  ∀ (p q : Addr) (cs : List Int) (bl : Int) (H' : Hp), Same H H' → H p = none → H q = none → Deal H' p q cs bl → Q (.ref p) H'
theorem not_dec {u v : V} (e : u = v) : (!decide (u = v)) = false := by rw [decide_eq_true e]; rfl
structure Uses (P : Program) (w : World) (K : PySem.W.Frag) (mg : Str → Option Value) (base : Heap) (CXg : CXT) (lev : Nat) (nm : Str) (ps : List Str) (f : Addr) (fd : FuncData) (sp : Sp) : Prop where
  ok : FnOk P w K mg base CXg lev f fd ps sp
  b : Binds K fd ps []
  k : PySem.W.keepIn K (.ref f) = true
  g : mg nm = some (.ref f)
theorem keep_tup {p q r : Addr} {H H' : Hp} {cs : List Int} {bl : Int} {xs : List V} (D : Deal H p q cs bl) (k : Keep p q H H') (h : H r = some (.tup xs)) : H' r = some (.tup xs) :=
  k r _ (fun e => by rw [e, D.hp] at h; cases h) (fun e => by rw [e, D.hq] at h; cases h) h
theorem keep_tabs {p q : Addr} {H H' : Hp} {cs : List Int} {bl : Int} {T : List (Addr × Str)} (D : Deal H p q cs bl) (k : Keep p q H H') (t : Tabs T H) : Tabs T H' := by
  have go : ∀ b o, H b = some o → (∀ xs, o ≠ .lst xs) → H' b = some o := fun b o e n => k b o (fun z => by rw [z, D.hp] at e; exact n _ (Option.some.inj e).symm) (fun z => by rw [z, D.hq] at e; exact n _ (Option.some.inj e).symm) e
  intro x hx
  obtain ⟨ps, h1, h2, h3⟩ := t x hx
  refine ⟨ps, go _ _ h1 (fun _ z => by cases z), h2, fun pos cv hc => ?_⟩
  obtain ⟨c, e1, e2⟩ := h3 pos cv hc
  exact ⟨c, e1, go _ _ e2 (fun _ z => by unfold CodeO at z; cases z)⟩
theorem deal_extN {p q : Addr} {H H' : Hp} {cs : List Int} {bl : Int} (D : Deal H p q cs bl) (e : ExtN H H') : Deal H' p q cs bl :=
  ⟨e _ _ D.hp (fun _ z => by cases z), e _ _ D.hq (fun _ z => by cases z), D.nn, D.b0, D.b1, D.ln⟩
theorem tabs_same {T : List (Addr × Str)} {H H' : Hp} (t : Tabs T H) (s : Same H H') : Tabs T H' := t.ext s
theorem none_of {A B : Hp} {b : Addr} (s : Same A B) (h : B b = none) : A b = none := by
  cases e : A b with
  | none => rfl
  | some o => rw [s _ _ e] at h; cases h
end L2
namespace L3
open PySem PySem.Spec PyProof.Rows L2 LamX
def spIni (C : Addr) : Sp := fun vs H Q _ => ∃ (a : Addr) (v : V), vs = [.ref a, v] ∧ H a = some (exo a C none) ∧ ∀ dx, H dx = none → dx ≠ a → Q .non (upd (upd H dx (exd dx [("at", v)])) a (exo a C (some dx)))
theorem err_heap' {H : Hp} {a dx C : Addr} {v : V} (ha : H a = none) (hd : upd H a (exo a C none) dx = none) (ne : dx ≠ a) :
    upd (del (upd (upd (upd H a (exo a C none)) dx (exd dx [("at", v)])) a (exo a C (some dx))) a) dx (.xd [("at", v)]) = upd H dx (.xd [("at", v)]) := by
  funext b
  by_cases hb : b = dx
  · rw [hb, upd_same, upd_same]
  · rw [upd_ne hb, upd_ne hb]
    by_cases hc : b = a
    · rw [hc, del_same, ha]
    · rw [del_ne hc, upd_ne hc, upd_ne hb, upd_ne hc]
/-- an own error class: its facts, its __init__'s promise -/
structure ErrP (P : Program) (w : World) (K : PySem.W.Frag) (mg : Str → Option Value) (base : Heap) (nm : Str) : Prop where
  ex : ∃ (C fI : Addr) (fd : FuncData), mg nm = some (.ref C) ∧ OexC K C ∧ PySem.W.findIn K (.ref C) "__init__" = some (some (.ref fI)) ∧ PySem.W.typeIn K (.ref fI) = some (.type "function") ∧ PySem.W.findIn K (.ref C) "at" = some none ∧
    FnOk P w K mg base CX0 1 fI fd ["self", "at"] (spIni C) ∧ Binds K fd ["self", "at"] []
section
variable {X : Cx} {W : Wsh}
theorem pps_raise {nm : Str} {e : Expr} {te : PTE} {p pos pos' : Pos} (T : ErrP X.prog X.w X.K X.mg X.base nm) (hc : X.calm = true) (tk : Takes X W.w) (hr : Room 2 X.A) (hgl : Gl X nm) (he : PPE X W e te) (hx : Passes CX0 X (fun _ _ _ => False)) (hdb : (nm == ("__debug__" : Str)) = false := by decide)
    (hs : starEach [e] X.env = (false, eval e X.env) :: starEach [] X.env := by rfl) :
    PPS X W (.Raise (some (.Call (.Name nm p) [e] [] pos')) none pos) (fun ρ => te ρ >>= fun d => raiseM nm d) := by
  obtain ⟨C, fI, fd, gC, ox, iC, tI, na, FI, bI⟩ := T.ex
  refine PS.imp (L2.ps_raise hc (takes_len tk) (pmk_oex ox iC tI FI hr bI .nil hx hgl gC (pa_cons he pa_nil hs) hdb hs)) fun D σ H ⟨c, F, ρ, Qp, R, E, t, k, rs⟩ => ?_
  refine ⟨c, F, ρ, _, R, E, t, fun d q v H1 F1 E1 s1 r1 => ⟨by show 1 ≤ 1000; decide, fun a ha => ⟨a, v, rfl, upd_same, fun dx n1 ne => ⟨rfl, dx, [("at", v)], upd_same, (by rw [upd_ne ne, upd_same]), (by rw [upd_ne ne] at n1; exact n1), ?_⟩⟩⟩, rs⟩
  rw [err_heap' ha n1 ne]
  rw [upd_ne ne] at n1
  exact fun l => rs.2.2 nm d q C dx v σ _ F1 gC upd_same (E1.wd.lay n1) s1 r1 l
def tO (X : Cx) (W : Wsh) (te : Rho → M (Option Int)) : TO := fun σ H Q => ∃ c F ρ Qp R, ER X.K X.mg c F H σ ρ ∧ te ρ Qp R ∧ (∀ o, Qp o → ∀ H' F', ER X.K X.mg c F' H' σ ρ → Same F F' → Q o H') ∧ RsOk X W c F R
abbrev PPO (X : Cx) (W : Wsh) (e : Option Expr) (te : Rho → M (Option Int)) : Prop := PO X e (tO X W te)
theorem PO.imp {e : Option Expr} {t t' : TO} (h : PO X e t) (k : ∀ σ H Q, t' σ H Q → t σ H Q) : PO X e t' := ⟨fun pins s σ H Q I q => h.run pins s σ H Q I (k σ H Q q)⟩
theorem ppo_none : PPO X W none (fun _ => pure none) := PO.imp po_none fun σ H Q ⟨c, F, ρ, Qp, R, E, t, k, rs⟩ => k none t H F E (Same.refl _)
def asI : PV → M Int
  | .int i => pure i
  | _ => failM
theorem ppo_some {e : Expr} {te : PTE} (h : PPR X W e te) : PPO X W (some e) (fun ρ => te ρ >>= asI >>= fun i => pure (some i)) := PO.imp (po_some h) fun σ H Q ⟨c, F, ρ, Qp, R, E, t, k, rs⟩ =>
  ⟨c, F, ρ, _, R, E, t, fun d q v H' F' E' s r => by
    have r := r _ _ _ E' (Same.refl _)
    cases d with
    | int i =>
      obtain rfl := r.int
      exact ⟨i, rfl, k _ q H' F' E' s⟩
    | _ => exact q.elim, rs⟩
def cutP {α : Type} (xs : List α) (lo hi : Option Int) : List α := (xs.drop (HT.sIx xs.length 0 lo)).take (HT.sIx xs.length xs.length hi - HT.sIx xs.length 0 lo)
theorem RpAll.cut {K : PySem.W.Frag} {mg : Str → Option Value} {F : Hp} {vs : List V} {ds : List PV} (r : RpAll K mg F vs ds) (lo hi : Option Int) : RpAll K mg F (cutV vs lo hi) (cutP ds lo hi) := by
  unfold cutV cutP
  rw [r.length]
  exact (r.drop _).take _
def sliceM (d : PV) (lo hi : Option Int) : M PV := match d with
  | .tup xs => pure (.tup (cutP xs lo hi))
  | .lst xs => pure (.lst (cutP xs lo hi))
  | .scr xs => pure (.lst (cutP xs lo hi))
  | .str z => fun Q _ => z.length ≤ sizeLine ∧ Q (.str (cutS z lo hi))
  | _ => failM
theorem cut_whole {α : Type} {xs : List α} {lo hi : Option Int} (h : HT.sIx xs.length 0 lo = 0 ∧ HT.sIx xs.length xs.length hi = xs.length) : cutP xs lo hi = xs := by
  unfold cutP
  rw [h.1, h.2]
  simp
theorem pp_slice {e : Expr} {lo hi : Option Expr} {te : PTE} {tl th : Rho → M (Option Int)} {p2 pos : Pos} (he : PPR X W e te) (hl : PPO X W lo tl) (hh : PPO X W hi th) :
    PPE X W (.Subscript e (.Slice lo hi none p2) pos) (fun ρ => te ρ >>= fun d => tl ρ >>= fun l => th ρ >>= fun h => sliceM d l h) :=
  PE.imp (pe_slice (SlR.or sl_tupA (SlR.or sl_list sl_str)) he hl hh) fun σ H Q ⟨c, F, ρ, Qp, R, E, t, k, rs⟩ => by
    refine ⟨c, F, ρ, _, R, E, t, fun d q v H1 F1 E1 s1 r1 => ⟨c, F1, ρ, _, R, E1, q, fun l q H2 F2 E2 s2 => ⟨c, F2, ρ, _, R, E2, q, fun h q H3 F3 E3 s3 => ?_, rs.mono (s1.trans s2)⟩, rs.mono s1⟩, rs⟩
    have r := r1 _ _ _ E3 (s2.trans s3)
    have k3 := EQ.mono k ((s1.trans s2).trans s3)
    cases d with
    | tup ds =>
      obtain ⟨a, vs, rfl, hs, ha⟩ := r.tup
      refine .inl ⟨a, vs, rfl, sqT_same E3.sub hs, fun w => ?_, fun _ p hp => k3.tup q E3 (ha.cut l h) hp⟩
      rw [ha.length] at w
      refine k3.here ?_ E3 (.tup hs ha)
      have q : Qp (.tup (cutP ds l h)) := q
      rw [cut_whole w] at q
      exact q
    | lst ds =>
      obtain ⟨a, vs, rfl, hs, ha⟩ := r.lst E3.sub
      exact .inr (.inl ⟨a, vs, rfl, SqL.of hs, fun p hp => k3.lst q E3 (ha.cut l h) hp⟩)
    | scr ds =>
      obtain ⟨a, vs, rfl, hs, ha⟩ := r.scr
      exact .inr (.inl ⟨a, vs, rfl, E3.sub.seq hs, fun p hp => k3.lst q E3 (ha.cut l h) hp⟩)
    | str z =>
      obtain rfl := r.str
      exact .inr (.inr ⟨z, rfl, q.1, k3.here q.2 E3 (.str _)⟩)
    | _ => exact q.elim
/-- a list's slice, a new list -/
theorem pf_slice {e : Expr} {lo hi : Option Expr} {te : PTE} {tl th : Rho → M (Option Int)} {p2 pos : Pos} (he : PPR X W e te) (hl : PPO X W lo tl) (hh : PPO X W hi th) :
    PF X W (.Subscript e (.Slice lo hi none p2) pos) (fun ρ => te ρ >>= lstM >>= fun xs => tl ρ >>= fun l => th ρ >>= fun h => pure (cutP xs l h)) :=
  PE.imp (pe_slice sl_list he hl hh) fun σ H Q ⟨c, F, ρ, Qp, R, E, t, k, rs⟩ => by
    refine ⟨c, F, ρ, _, R, E, t, fun d q v H1 F1 E1 s1 r1 => ?_, rs⟩
    obtain ⟨ds, hd, q1⟩ := lstM_inv q
    refine ⟨c, F1, ρ, _, R, E1, q1, fun l q2 H2 F2 E2 s2 => ⟨c, F2, ρ, _, R, E2, q2, fun h q3 H3 F3 E3 s3 => ?_, rs.mono (s1.trans s2)⟩, rs.mono s1⟩
    have r := r1 _ _ _ E3 (s2.trans s3)
    have k3 := FQ.mono k ((s1.trans s2).trans s3)
    rcases hd with rfl | rfl
    · obtain ⟨a, vs, rfl, hs, ha⟩ := r.lst E3.sub
      exact ⟨a, vs, rfl, SqL.of hs, fun p hp => k3.new q3 E3 (ha.cut l h) hp⟩
    · obtain ⟨a, vs, rfl, hs, ha⟩ := r.scr
      exact ⟨a, vs, rfl, E3.sub.seq hs, fun p hp => k3.new q3 E3 (ha.cut l h) hp⟩
theorem tOpF_ok {r : R2} {g : PV → PV → M (List PV)} {ta tb : PTE} (hs : ∀ (c : Ct) (F H : Hp) (σ : L2.St) (ρ : Rho) (x y : PV) (v u : V) (Qp : List PV → Prop) (R : RS) (Q : VK), ER X.K X.mg c F H σ ρ → RR X.K X.mg F H v x → RR X.K X.mg F H u y → g x y Qp R → FQ X c F σ ρ Qp Q → r v u H Q)
    {σ : L2.St} {H : Hp} {Q : VK} (h : tF X W (fun ρ => ta ρ >>= fun x => tb ρ >>= fun y => g x y) σ H Q) : tOp r (tR X W ta) (tR X W tb) σ H Q := by
  obtain ⟨c, F, ρ, Qp, R, E, t, k, rs⟩ := h
  refine ⟨c, F, ρ, _, R, E, t, fun x qx v H1 F1 E1 s1 r1 => ?_, rs⟩
  refine ⟨c, F1, ρ, _, R, E1, qx, fun y qy u H2 F2 E2 s2 r2 => ?_, rs.mono s1⟩
  exact hs c F2 H2 σ ρ x y v u Qp R Q E2 (r1 _ _ _ E2 s2) (r2 _ _ _ E2 (Same.refl _)) qy (FQ.mono k (s1.trans s2))
def catM : PV → PV → M (List PV)
  | .lst a, .lst b => fun Q _ => a.length + b.length ≤ sizeLine ∧ Q (a ++ b)
  | _, _ => failM
theorem pf_cat {a b : Expr} {ta tb : PTE} {pos : Pos} (ha : PPR X W a ta) (hb : PPR X W b tb) : PF X W (.BinOp a .Add b pos) (fun ρ => ta ρ >>= fun x => tb ρ >>= fun y => catM x y) :=
  PE.imp (pe_op op_cat ha hb) fun _ _ _ h => tOpF_ok (fun c F H σ ρ x y v u Qp R Q E r1 r2 g k => by
    cases x <;> cases y <;> first | exact g.elim | skip
    obtain ⟨a, xs, rfl, h1, ha⟩ := r1.lst E.sub
    obtain ⟨b, ys, rfl, h2, hb⟩ := r2.lst E.sub
    exact ⟨a, b, xs, ys, rfl, rfl, h1, h2, by rw [ha.length, hb.length]; exact g.1, fun p hp => k.new g.2 E (ha.append hb) hp⟩) h
def repM : PV → PV → M (List PV)
  | .lst a, .int k => fun Q _ => (-(2 ^ 63) ≤ k ∧ k < 2 ^ 63 ∧ a.length * k.toNat ≤ sizeLine) ∧ Q (List.replicate k.toNat a).flatten
  | _, _ => failM
theorem pf_rep {a b : Expr} {ta tb : PTE} {pos : Pos} (ha : PPR X W a ta) (hb : PPR X W b tb) : PF X W (.BinOp a .Mult b pos) (fun ρ => ta ρ >>= fun x => tb ρ >>= fun y => repM x y) :=
  PE.imp (pe_op op_rep ha hb) fun _ _ _ h => tOpF_ok (fun c F H σ ρ x y v u Qp R Q E r1 r2 g k => by
    cases x <;> cases y <;> first | exact g.elim | skip
    obtain ⟨a, xs, rfl, h1, ha⟩ := r1.lst E.sub
    obtain rfl := r2.int
    exact ⟨a, _, xs, rfl, rfl, h1, g.1.1, g.1.2.1, by rw [ha.length]; exact g.1.2.2, fun p hp => k.new g.2 E (ha.rep _) hp⟩) h
/-- values for slots: told ones, and new lists kept aside -/
inductive Kpt (K : PySem.W.Frag) (mg : Str → Option Value) (F : Hp) : Ct → List V → List Sl → Ct → Prop
  | nil {c : Ct} : Kpt K mg F c [] [] c
  | val {c c' : Ct} {v : V} {d : PV} {vs : List V} {ss : List Sl} : Rp K mg F v d → Kpt K mg F c vs ss c' → Kpt K mg F c (v :: vs) (.val d :: ss) c'
  | own {c c' : Ct} {a : Addr} {ws : List V} {ds : List PV} {vs : List V} {ss : List Sl} : RpAll K mg F ws ds → Kpt K mg F (c.kp a (.lst ws)) vs ss c' → Kpt K mg F c (.ref a :: vs) (.own ds :: ss) c'
theorem Kpt.same {K : PySem.W.Frag} {mg : Str → Option Value} {F F' : Hp} {c c' : Ct} {vs : List V} {ss : List Sl} (k : Kpt K mg F c vs ss c') (s : Same F F') : Kpt K mg F' c vs ss c' := by
  induction k with
  | nil => exact .nil
  | val r _ ih => exact .val (r.same s) ih
  | own r _ ih => exact .own (r.same s) ih
theorem Kpt.len {K : PySem.W.Frag} {mg : Str → Option Value} {F : Hp} {c c' : Ct} {vs : List V} {ss : List Sl} (k : Kpt K mg F c vs ss c') : vs.length = ss.length := by
  induction k with
  | nil => rfl
  | val _ _ ih => simpa using ih
  | own _ _ ih => simpa using ih
def setV (σ : L2.St) : List Nat → List V → L2.St
  | i :: is, v :: vs => (setV σ is vs).set i (some v)
  | _, _ => σ
def setS (ρ : Rho) : List Nat → List Sl → Rho
  | i :: is, s :: ss => (setS ρ is ss).set i (some s)
  | _, _ => ρ
theorem setS_len (ρ : Rho) : ∀ (is : List Nat) (ss : List Sl), (setS ρ is ss).length = ρ.length
  | [], _ => by simp [setS]
  | i :: is, [] => by simp [setS]
  | i :: is, s :: ss => by simp [setS, setS_len ρ is ss]
theorem ER.setAll {K : PySem.W.Frag} {mg : Str → Option Value} {F H : Hp} {σ : L2.St} {ρ : Rho} {c c' : Ct} {vs : List V} {ss : List Sl} (k : Kpt K mg F c vs ss c') : ∀ is : List Nat, is.length = ss.length → (∀ i ∈ is, i < ρ.length) → ER K mg c' F H σ ρ → ER K mg c F H (setV σ is vs) (setS ρ is ss) := by
  induction k with
  | nil => intro is _ _ E; cases is <;> exact E
  | val r _ ih =>
    intro is hl hi E
    match is, hl, hi with
    | i :: is, hl, hi => exact (ih is (by simpa using hl) (fun j hj => hi j (List.mem_cons_of_mem _ hj)) E).setVal r (by rw [setS_len]; exact hi i List.mem_cons_self)
  | own r _ ih =>
    intro is hl hi E
    match is, hl, hi with
    | i :: is, hl, hi => exact (ih is (by simpa using hl) (fun j hj => hi j (List.mem_cons_of_mem _ hj)) E).ownG r (by rw [setS_len]; exact hi i List.mem_cons_self)
/-- expressions that make values for slots -/
def tKs (X : Cx) (W : Wsh) (te : Rho → M (List Sl)) : TA := fun σ H Q => ∃ c F ρ Qp R, ER X.K X.mg c F H σ ρ ∧ te ρ Qp R ∧ (∀ ss, Qp ss → ∀ vs c' H' F', ER X.K X.mg c' F' H' σ ρ → Same F F' → Kpt X.K X.mg F' c vs ss c' → Q vs H') ∧ RsOk X W c F R
abbrev PKs (X : Cx) (W : Wsh) (es : List Expr) (te : Rho → M (List Sl)) : Prop := PA X es (tKs X W te)
theorem Wd.unkpE {c : Ct} {a : Addr} {o : HO} {F H : Hp} (w : Wd (c.kp a o) (c.kp a o).dl F H) : Wd c c.dl F H := w.unkp
section
variable {e : Expr} {es : List Expr} {te : PTE} {tf : Rho → M (List PV)} {t : Rho → M (List Sl)}
theorem pks_nil : PKs X W [] (fun _ => pure []) := PA.imp pa_nil fun σ H Q ⟨c, F, ρ, Qp, R, E, t, k, rs⟩ => k [] t [] c H F E (Same.refl _) .nil
theorem pks_val (ha : PPE X W e te) (hr : PKs X W es t) (hs : starEach (e :: es) X.env = (false, eval e X.env) :: starEach es X.env := by rfl) : PKs X W (e :: es) (fun ρ => te ρ >>= fun x => t ρ >>= fun xs => pure (.val x :: xs)) :=
  PA.imp (pa_cons ha hr hs) fun σ H Q ⟨c, F, ρ, Qp, R, E, t, k, rs⟩ => by
    refine ⟨c, F, ρ, _, R, E, t, fun x qx v H1 F1 E1 s1 r1 => ⟨c, F1, ρ, _, R, E1, qx, fun ss q vs c' H2 F2 E2 s2 kp => ?_, rs.mono s1⟩, rs⟩
    exact k _ q _ c' H2 F2 E2 (s1.trans s2) (.val (r1.same s2) kp)
theorem pks_own (ha : PF X W e tf) (hr : PKs X W es t) (hs : starEach (e :: es) X.env = (false, eval e X.env) :: starEach es X.env := by rfl) : PKs X W (e :: es) (fun ρ => tf ρ >>= fun x => t ρ >>= fun xs => pure (.own x :: xs)) :=
  PA.imp (pa_cons ha hr hs) fun σ H Q ⟨c, F, ρ, Qp, R, E, t, k, rs⟩ => by
    refine ⟨c, F, ρ, _, R, E, t, fun ds qx a ws H1 F1 E1 s1 r1 => ⟨c.kp a (.lst ws), F1, ρ, _, R, E1, qx, fun ss q vs c' H2 F2 E2 s2 kp => ?_, ?_⟩, rs⟩
    · exact k _ q _ c' H2 F2 E2 (s1.trans s2) (.own (r1.same s2) kp)
    · exact ⟨rs.1, rs.2.1, fun nm d r C dx v σ' H' F' e1 e2 w s r' l => rs.2.2 nm d r C dx v σ' H' F' e1 e2 w.unkpE (s1.trans s) r' l⟩
end
def setsM (ρ : Rho) (is : List Nat) (ss : List Sl) : M Rho := fun Q _ => (is.length = ss.length ∧ ∀ i ∈ is, i < ρ.length) ∧ Q (setS ρ is ss)
theorem pps_par {i j : Nat} {x y : Str} {a b : Expr} {t : Rho → M (List Sl)} {px py pt pos : Pos} {kt k2 pt2} (hc : X.calm = true) (hN : X.N.Nodup) (hi : X.N[i]? = some x) (hj : X.N[j]? = some y) (hij : i ≠ j)
    (hx : X.env.scope.names.lookup x = some .local) (hy : X.env.scope.names.lookup y = some .local) (ha : PKs X W [a, b] t)
    (hw : swappedStores [.Tuple [.Name x px, .Name y py] kt pt] (.Tuple [a, b] k2 pt2) X.env = pure (some [x, y]))
    (hs : swapsWithSole [.Tuple [.Name x px, .Name y py] kt pt] (.Tuple [a, b] k2 pt2) pos.line X.env = pure false := by rfl) :
    PPS X W (.Assign [.Tuple [.Name x px, .Name y py] kt pt] (.Tuple [a, b] k2 pt2) pos) (fun ρ => t ρ >>= fun ss => setsM ρ [i, j] ss >>= fun ρ => pure (.nx ρ)) :=
  PS.imp (ps_par hc hN hi hj hij hx hy ha hw hs) fun D σ H ⟨c, F, ρ, Qp, R, E, t, k, rs⟩ => ⟨c, F, ρ, _, R, E, t, fun ss q vs c' H' F' E' s kp => by
    obtain ⟨⟨hl, hi'⟩, q⟩ := q
    have E2 := ER.setAll kp [i, j] hl hi' E'
    have hv := kp.len
    have h2 : vs.length = 2 := hv.trans hl.symm
    obtain ⟨v, w, rfl⟩ : ∃ v w, vs = [v, w] := by
      match vs, h2 with
      | [v, w], _ => exact ⟨v, w, rfl⟩
    obtain ⟨s1, s2, rfl⟩ : ∃ v w, ss = [v, w] := by
      match ss, hl with
      | [v, w], _ => exact ⟨v, w, rfl⟩
    refine ⟨v, w, rfl, k _ q _ H' F' ?_ s⟩
    rw [List.set_comm _ _ hij]
    exact E2, rs⟩
theorem pps_par3 {i j l : Nat} {x y z : Str} {a b d : Expr} {t : Rho → M (List Sl)} {px py pz pt pos : Pos} {kt k2 pt2} (hc : X.calm = true) (hN : X.N.Nodup) (hi : X.N[i]? = some x) (hj : X.N[j]? = some y) (hl' : X.N[l]? = some z) (hij : i ≠ j) (hil : i ≠ l) (hjl : j ≠ l)
    (hx : X.env.scope.names.lookup x = some .local) (hy : X.env.scope.names.lookup y = some .local) (hz : X.env.scope.names.lookup z = some .local) (ha : PKs X W [a, b, d] t)
    (hw : swappedStores [.Tuple [.Name x px, .Name y py, .Name z pz] kt pt] (.Tuple [a, b, d] k2 pt2) X.env = pure (some [x, y, z]))
    (hs : swapsWithSole [.Tuple [.Name x px, .Name y py, .Name z pz] kt pt] (.Tuple [a, b, d] k2 pt2) pos.line X.env = pure false := by rfl) :
    PPS X W (.Assign [.Tuple [.Name x px, .Name y py, .Name z pz] kt pt] (.Tuple [a, b, d] k2 pt2) pos) (fun ρ => t ρ >>= fun ss => setsM ρ [i, j, l] ss >>= fun ρ => pure (.nx ρ)) :=
  PS.imp (ps_par3 hc hN hi hj hl' hij hil hjl hx hy hz ha hw hs) fun D σ H ⟨c, F, ρ, Qp, R, E, t, k, rs⟩ => ⟨c, F, ρ, _, R, E, t, fun ss q vs c' H' F' E' s kp => by
    obtain ⟨⟨hl, hi'⟩, q⟩ := q
    have E2 := ER.setAll kp [i, j, l] hl hi' E'
    have hv := kp.len
    have h2 : vs.length = 3 := hv.trans hl.symm
    obtain ⟨v, w, u, rfl⟩ : ∃ v w u, vs = [v, w, u] := by
      match vs, h2 with
      | [v, w, u], _ => exact ⟨v, w, u, rfl⟩
    obtain ⟨s1, s2, s3, rfl⟩ : ∃ v w u, ss = [v, w, u] := by
      match ss, hl with
      | [v, w, u], _ => exact ⟨v, w, u, rfl⟩
    · refine ⟨v, w, u, rfl, k _ q _ H' F' ?_ s⟩
      have e : ((σ.set i (some v)).set j (some w)).set l (some u) = ((σ.set l (some u)).set j (some w)).set i (some v) := by
        rw [List.set_comm _ _ hij, List.set_comm _ _ hil, List.set_comm (some w) (some u) hjl]
      rw [e]
      exact E2, rs⟩
/-- a, b, .. = e, f, .. by a tuple that is taken apart: any number of names, any kind -/
def gNames : List Nat → TGs
  | [] => gNil
  | i :: is => gCons (gName i) (gNames is)
theorem gNames_ok {D : L2.St → Hp → Prop} : ∀ (is : List Nat) (vs : List V) (σ : L2.St) (H : Hp), is.Nodup → is.length = vs.length → D (setV σ is vs) H → gNames is vs σ H D
  | [], [], σ, H, _, _, h => ⟨rfl, h⟩
  | i :: is, v :: vs, σ, H, nd, hl, h => by
    obtain ⟨n1, n2⟩ := List.nodup_cons.mp nd
    refine ⟨v, vs, rfl, gNames_ok is vs _ H n2 (by simpa using hl) ?_⟩
    have e : ∀ (is : List Nat) (vs : List V), i ∉ is → setV (σ.set i (some v)) is vs = (setV σ is vs).set i (some v) := by
      intro is
      induction is with
      | nil => intro vs _; simp [setV]
      | cons j is ih =>
        intro vs h
        cases vs with
        | nil => simp [setV]
        | cons u vs =>
          have hj : i ≠ j := fun z => h (by simp [z])
          simp only [setV]
          rw [ih vs (fun z => h (List.mem_cons_of_mem _ z)), List.set_comm _ _ hj]
    rw [e is vs n1]
    exact h
theorem pps_parN {tgs es : List Expr} {is : List Nat} {t : Rho → M (List Sl)} {kt k2} {pt pt2 pos : Pos} {n : Nat} (hc : X.calm = true) (nd : is.Nodup) (hg : PGs X tgs (gNames is)) (ha : PKs X W es t) (hlen : is.length = n) (hn : (assignEach tgs X.env).length = n := by rfl) (hst : (assignEach tgs X.env).findIdx? (·.1) = none := by rfl)
    (hs : swapsWithSole [.Tuple tgs kt pt] (.Tuple es k2 pt2) pos.line X.env = pure false := by rfl) (hw : swappedStores [.Tuple tgs kt pt] (.Tuple es k2 pt2) X.env = pure none := by rfl)
    (h1 : (assignEach [.Tuple tgs kt pt] X.env).map (·.2) = [assign (.Tuple tgs kt pt) X.env] := by rfl) :
    PPS X W (.Assign [.Tuple tgs kt pt] (.Tuple es k2 pt2) pos) (fun ρ => t ρ >>= fun ss => fun Q R => ss.length ≤ sizeLine ∧ (setsM ρ is ss >>= fun ρ => pure (.nx ρ)) Q R) :=
  PS.imp (ps_asg (pe_tup ha) (pg_tup hc hg hn hst) hs hw h1) fun D σ H ⟨c, F, ρ, Qp, R, E, t, k, rs⟩ => ⟨c, F, ρ, _, R, E, t, fun ss q vs c' H' F' E' s kp => by
    obtain ⟨hz, ⟨hl, hi'⟩, q⟩ := q
    have hv := kp.len
    refine ⟨by rw [hv]; exact hz, fun p hp => ⟨p, vs, rfl, SqT.of upd_same, by omega, gNames_ok is vs σ _ nd (by omega) ?_⟩⟩
    exact k _ q _ _ F' (ER.setAll kp is hl hi' (E'.allocH hp)) s, rs⟩
def rGetP (K : PySem.W.Frag) : V → V → Hp → VK → Prop := fun o i H Q => ∃ (p : Addr) (xs : List V) (k : Nat) (v : V), o = .ref p ∧ i = .int (k : Int) ∧ SqL K H p xs ∧ xs[k]? = some v ∧ Q v H
theorem get_listP : PGet X (rGetP X.K) := by
  intro pins s σ H o i ov iv Q I ro ri h
  obtain ⟨p, xs, k, v, rfl, rfl, hq, hv, q⟩ := h
  cases ro
  obtain ⟨t, rfl⟩ := ri
  obtain ⟨its, rv, pl, hz⟩ := I.list hq
  obtain ⟨u, hu, ru⟩ := Vals.get rv hv
  have hl := Vals.length rv
  have hn := line63
  have hk := (List.getElem?_eq_some_iff.mp hv).1
  have hz' : xs.length ≤ sizeLine := hz
  refine wpAny_getItem_list pl.isList (by omega) (by omega) (by simpa using hu) ⟨v, H, I, ru, q⟩
theorem pps_augS {i : Nat} {o ie e : Expr} {ti te : PTE} {op : Operator} {r : TIp} {g : PV → PV → M PV} {tpos pos : Pos} (ho : PE X o (tVar i)) (hi : PPR X W ie ti) (he : PPR X W e te) (hp : PIp X op r) (hs : OpS X W r g)
    (ha : ∀ ov iv new, augStore ie ov iv new = (do holding [new, ov, iv] (setItem ov iv new); release [new, ov, iv] []; pure .next) := by intros; rfl) :
    PPS X W (.AugAssign (.Subscript o ie tpos) op e pos) (fun ρ => ownM ρ i >>= fun ds => ti ρ >>= asI >>= fun j => fun Q R => ∃ d, (0 ≤ j ∧ ds[j.toNat]? = some d) ∧ (te ρ >>= fun b => g d b >>= fun z => fun Q _ => i < ρ.length ∧ Q (.nx (ρ.set i (some (.own (ds.set j.toNat z)))))) Q R) :=
  PS.imp (ps_augS ho hi get_listP he hp set_list ha) fun D σ H ⟨c, F, ρ, Qp, R, E, t, k, rs⟩ => by
    obtain ⟨ds, h0, t⟩ := ownM_inv t
    obtain ⟨a, vs0, h1, h2, h3⟩ := E.own h0
    refine ⟨_, h1, c, F, ρ, _, R, E, t, fun d q v H1 F1 E1 s1 r1 => ?_, rs⟩
    have r1 := r1 _ _ _ E1 (Same.refl _)
    cases d with
    | int j =>
      obtain rfl := r1.int
      obtain ⟨d, ⟨q1, q2⟩, q3⟩ := q
      obtain ⟨j, rfl⟩ : ∃ n : Nat, j = (n : Int) := ⟨j.toNat, by omega⟩
      rw [Int.toNat_natCast] at q2 q3
      have at_ : ∀ {F' H' : Hp}, ER X.K X.mg c F' H' σ ρ → ∃ vs x, H' a = some (.lst vs) ∧ RpAll X.K X.mg F' vs ds ∧ vs[j]? = some x ∧ Rp X.K X.mg F' x d := fun E' => by
        obtain ⟨a', vs, g1, g2, g3⟩ := E'.own h0
        rw [h1] at g1
        obtain h := Option.some.inj (Option.some.inj g1)
        injection h with h
        subst h
        obtain ⟨x, h4, h5⟩ := g3.get q2
        exact ⟨vs, x, g2, g3, h4, h5⟩
      obtain ⟨vs, x, g2, g3, g4, g5⟩ := at_ E1
      refine ⟨a, vs, j, x, rfl, rfl, SqL.of g2, g4, c, F1, ρ, _, R, E1, q3, fun b qb u H2 F2 E2 s2 r2 => ?_, rs.mono s1⟩
      refine hs c F2 H2 σ ρ d b x u _ R _ E2 (.inl (g5.same s2)) (r2 _ _ _ E2 (Same.refl _)) qb (fun z qz w' H3 F3 E3 s3 r3 => ?_) (rs.mono (s1.trans s2))
      obtain ⟨vs3, x3, g6, g7, g8, _⟩ := at_ E3
      have hlt := (List.getElem?_eq_some_iff.mp g8).1
      refine ⟨a, vs3, j, j, rfl, rfl, g6, by unfold ixN; rw [if_pos (by omega), if_pos (by omega)]; simp, ?_⟩
      exact k _ qz.2 _ _ F3 (E3.setOwn h0 h1 (g7.set j r3)) ((s1.trans s2).trans s3)
    | _ => exact q.elim
def anyP : PProm := fun ss => match ss with
  | [.deal, .val (.int b)] => fun Q _ => (1 ≤ b ∧ b < 1073741824) ∧ ∀ v, 0 ≤ v → v < b → Q (.int v)
  | _ => failM
theorem FnG.cx {P : Program} {w : World} {K : PySem.W.Frag} {mg : Str → Option Value} {base : Heap} {XX : CXT} {lev : Nat} {f : Addr} {fd : FuncData} {ps : List Str} {sp : Sp} (F : FnG P w K mg base CX0 lev f fd ps sp) : FnG P w K mg base XX lev f fd ps sp :=
  ⟨F.len, fun ar fr st H given us vs Q E hg hr e0 hb r h => codeAny_mono (F.run ar fr st H given us vs Q E hg hr e0 hb r h) fun res s' out => by
    cases res with
    | error e => exact out.elim
    | ok fl => cases fl <;> exact out⟩
theorem FnG.sp {P : Program} {w : World} {K : PySem.W.Frag} {mg : Str → Option Value} {base : Heap} {XX : CXT} {lev : Nat} {f : Addr} {fd : FuncData} {ps : List Str} {sp sp' : Sp} (F : FnG P w K mg base XX lev f fd ps sp) (h : ∀ vs H Q E, sp' vs H Q E → sp vs H Q E) : FnG P w K mg base XX lev f fd ps sp' :=
  ⟨fun vs H Q E q => F.len vs H Q E (h vs H Q E q), fun ar fr st H given us vs Q E hg hr e0 hb r q => F.run ar fr st H given us vs Q E hg hr e0 hb r (h vs H Q E q)⟩
theorem Wd.keepD {F H H' : Hp} {T : List (Addr × Str)} {p q : Addr} {cs : List Int} {bl : Int} (w : Wd (Ct.at F H (some (p, q)) T) (some (p, q)) F H) (D' : Deal H' p q cs bl) (k : Keep p q H H') : Wd (Ct.at F H (some (p, q)) T) (some (p, q)) F H' := by
  obtain ⟨cs0, bl0, D, f1, f2⟩ := w.dd p q rfl
  refine ⟨fun b o e => k b o (fun z => by rw [z, f1] at e; cases e) (fun z => by rw [z, f2] at e; cases e) (w.sub b o e), w.ntb, fun b o e n d => ?_, fun p' q' e => ?_, .inl rfl, w.fr, keep_tabs D k w.tab, (fun p hp => absurd hp List.not_mem_nil), (fun p hp => absurd hp List.not_mem_nil), List.nodup_nil⟩
  · obtain ⟨n1, n2⟩ := d p q rfl
    exact k b o n1 n2 e
  · cases e
    exact ⟨cs, bl, D', f1, f2⟩
theorem any_ok {P : Program} {w : World} {K : PySem.W.Frag} {mg : Str → Option Value} {base : Heap} {lev : Nat} {f : Addr} {fd : FuncData} {T : List (Addr × Str)} (F : FnOk P w K mg base CX0 lev f fd ["deal", "bound"] spAny) : FnG P w K mg base (L2.CX P w) lev f fd ["deal", "bound"] (spP K mg T 2 anyP) := by
  refine FnG.sp (FnG.cx F.g) fun vs H Q E ⟨F0, dl, ss, Qp, R, wd, hl, r, q, k1, k2⟩ => ?_
  match ss, r, q with
  | [.deal, .val (.int b)], .cons h1 (.cons h2 .nil), q =>
    obtain ⟨p, q', rfl, rfl⟩ := h1
    obtain ⟨cs, bl, D, _, _⟩ := wd.dd p q' rfl
    cases h2
    obtain ⟨⟨b1, b2⟩, q⟩ := q
    exact ⟨p, q', cs, bl, b, rfl, D, b1, b2, fun v H' cs' bl' v0 v1 D' k => k1 _ (q v v0 v1) _ H' F0 (wd.keepD D' k) (Same.refl _) (.int v)⟩
def noDeal (ρ : Rho) (i : Nat) : Bool := (List.range ρ.length).all fun j => j == i || match ρ[j]? with
  | some (some .deal) => false
  | _ => true
theorem noDeal_at {ρ : Rho} {i j : Nat} (h : noDeal ρ i = true) (hj : ρ[j]? = some (some .deal)) : j = i := by
  have := List.all_eq_true.mp h j (List.mem_range.mpr (List.getElem?_eq_some_iff.mp hj).1)
  rw [hj] at this
  simpa using this
def drawM (ρ : Rho) (i : Nat) (d s : PV) : M Rho := match d, s with
  | .scr ds, .int k => fun Q _ => (i < ρ.length ∧ noDeal ρ i = true ∧ ∃ ns : List Int, ds = ns.map PV.int ∧ ns.length ≤ 63) ∧ (0 ≤ k ∧ k ≤ 1000) ∧ Q (ρ.set i (some .deal))
  | _, _ => failM
/-- deal = _law_draw(script, salt) -/
theorem pps_draw {i : Nat} {x nm : Str} {e1 e2 : Expr} {f : Addr} {fd : FuncData} {lev : Nat} {t1 t2 : PTE} {pos pos' p1 p2 : Pos} (F : FnOk X.prog X.w X.K X.mg X.base CX0 lev f fd ["script", "salt"] (spDraw X.K)) (ht : W.top = true) (hr : Room lev X.A) (hgl : Gl X nm) (hm : X.mg nm = some (.ref f)) (hk : PySem.W.keepIn X.K (.ref f) = true) (hb : Binds X.K fd ["script", "salt"] [])
    (hx : Passes CX0 X (fun _ _ _ => False)) (h1 : PPE X W e1 t1) (h2 : PPE X W e2 t2) (hN : X.N.Nodup) (hi : X.N[i]? = some x) (hl : Loc X.env.scope x) (hdb : (nm == ("__debug__" : Str)) = false := by decide)
    (s1 : starEach [e1, e2] X.env = (false, eval e1 X.env) :: starEach [e2] X.env := by rfl) (s2 : starEach [e2] X.env = (false, eval e2 X.env) :: starEach [] X.env := by rfl) (hpl : (backTo p2 (starEach [e2] X.env)).any (·.1) = false := by rfl)
    (hs : swapsWith (.Call (.Name nm p1) [e1, e2] [] p2) (some (.Name x pos')) pos.line X.env = pure false := by rfl) (hf : X.fn x = true ∨ X.env.scope.names.lookup x = some .local := by first | exact .inl rfl | exact .inr rfl | assumption) :
    PPS X W (.Assign [.Name x pos'] (.Call (.Name nm p1) [e1, e2] [] p2) pos) (fun ρ => t1 ρ >>= fun d => t2 ρ >>= fun s => drawM ρ i d s >>= fun ρ => pure (.nx ρ)) :=
  PS.imp (ps_set hN hi hl (pe_call F hr hgl hm hk hb .nil hx (pa_cons h1 (pa_cons h2 pa_nil s2) s1) hdb s1 hpl) hs hf) fun D σ H ⟨c, F0, ρ, Qp, R, E, t, k, rs⟩ => by
    refine ⟨c, F0, ρ, _, R, E, t, fun d q v H1 F1 E1 s1 r1 => ⟨c, F1, ρ, _, R, E1, q, fun s q2 u H2 F2 E2 s2 r2 => ?_, rs.mono s1⟩, rs⟩
    cases d with
    | scr ds => cases s with
      | int salt =>
        obtain ⟨⟨hi', nd, ns, rfl, hn⟩, ⟨k0, k1⟩, q3⟩ := q2
        cases r2
        obtain ⟨a, vs, rfl, hs, ha⟩ := RR.scr (.inl (r1.same s2) : RR X.K X.mg F2 H2 v _)
        obtain rfl := rpAll_ints ha
        refine ⟨a, salt, ns, rfl, E2.sub.seq hs, hn, k0, k1, fun p q' cs bl H' s3 hp hq D' => k _ q3 _ H' F2 ?_ (s1.trans s2)⟩
        obtain ⟨⟨dl, w, sl, inj⟩, len⟩ := E2
        have c0 := rs.2.1 ht
        have fsh : ∀ {b : Addr} {o : HO}, H2 b = some o → Fsh c dl F2 b → Fsh c (some (p, q')) F2 b := fun e f => ⟨f.f, f.h, fun p1 q1 z => by cases z; exact ⟨ne_of_none e hp, ne_of_none e hq⟩⟩
        have wd : Wd c (some (p, q')) F2 H' := ⟨w.sub.trans s3, w.ntb, fun b o e n d => s3 _ _ (w.base b o e n d), fun p1 q1 z => by cases z; exact ⟨cs, bl, D', (w.fresh hp).f, (w.fresh hq).f⟩,
          .inr ⟨c0, fun p1 q1 z => by cases z; exact ⟨(w.fresh hp).h, (w.fresh hq).h⟩⟩, w.fr, w.tab.ext s3, fun g hg => ⟨s3 _ _ (w.gh g hg).1, fsh (w.gh g hg).1 (w.gh g hg).2⟩, w.gl, w.gd⟩
        have at_ : ∀ j (z : Sl), (ρ.set i (some Sl.deal))[j]? = some (some z) → (j = i ∧ z = .deal) ∨ (j ≠ i ∧ ρ[j]? = some (some z)) := fun j z e => by
          by_cases hj : j = i
          · subst hj; rw [List.getElem?_set_self hi'] at e; exact .inl ⟨rfl, (Option.some.inj (Option.some.inj e)).symm⟩
          · rw [List.getElem?_set_ne (Ne.symm hj)] at e; exact .inr ⟨hj, e⟩
        refine ⟨⟨_, wd, fun j z e => ?_, fun j j' b xs ys e1 e2 e3 e4 => ?_⟩, by simp [len]⟩
        · rcases at_ j z e with ⟨rfl, rfl⟩ | ⟨hj, e⟩
          · exact ⟨_, List.getElem?_set_self (by omega), p, q', rfl, rfl⟩
          · rw [List.getElem?_set_ne (Ne.symm hj)]
            obtain ⟨v, g1, g2⟩ := sl j z e
            refine ⟨v, g1, ?_⟩
            cases z with
            | val d => exact g2
            | own xs =>
              obtain ⟨b, ws, e1, e2, e3, e4, e5⟩ := g2
              exact ⟨b, ws, e1, s3 _ _ e2, fsh e2 e3, e4, e5⟩
            | deal => exact absurd (noDeal_at nd e) hj
        · rcases at_ j _ e1 with ⟨_, z⟩ | ⟨n1, e1⟩
          · cases z
          · rcases at_ j' _ e2 with ⟨_, z⟩ | ⟨n2, e2⟩
            · cases z
            · rw [List.getElem?_set_ne (Ne.symm n1)] at e3
              rw [List.getElem?_set_ne (Ne.symm n2)] at e4
              exact inj j j' b xs ys e1 e2 e3 e4
      | _ => exact q2.elim
    | _ => cases s <;> exact q2.elim
end
end L3
namespace L2
open PySem PySem.Spec PyProof.Rows
def gRev {α : Type} : List α → List α → List α
  | [], [a, b] => [b, a]
  | _, _ => []
def gSame {α : Type} : List α → List α → List α
  | [], [a, b] => [a, b]
  | _, _ => []
def gOne {α : Type} : List α → List α → List α
  | [a], [b] => [a, b]
  | _, _ => []
theorem gRev_rel {vs : List V} {us : List Value} {zs : List V} {ws : List Value} (r : Vals vs us) (rz : Vals zs ws) : Vals (gRev vs zs) (gRev us ws) := by
  cases r with
  | cons p r => exact .nil
  | nil =>
    cases rz with
    | nil => exact .nil
    | cons p rz =>
      cases rz with
      | nil => exact .nil
      | cons q rz =>
        cases rz with
        | nil => exact .cons q (.cons p .nil)
        | cons _ _ => exact .nil
theorem gSame_rel {vs : List V} {us : List Value} {zs : List V} {ws : List Value} (r : Vals vs us) (rz : Vals zs ws) : Vals (gSame vs zs) (gSame us ws) := by
  cases r with
  | cons p r => exact .nil
  | nil =>
    cases rz with
    | nil => exact .nil
    | cons p rz =>
      cases rz with
      | nil => exact .nil
      | cons q rz =>
        cases rz with
        | nil => exact .cons p (.cons q .nil)
        | cons _ _ => exact .nil
theorem gOne_rel {vs : List V} {us : List Value} {zs : List V} {ws : List Value} (r : Vals vs us) (rz : Vals zs ws) : Vals (gOne vs zs) (gOne us ws) := by
  cases r with
  | nil => exact .nil
  | cons p r =>
    cases r with
    | cons _ _ => exact .nil
    | nil =>
      cases rz with
      | nil => exact .nil
      | cons q rz =>
        cases rz with
        | nil => exact .cons p (.cons q .nil)
        | cons _ _ => exact .nil
theorem kb_rev {K : PySem.W.Frag} {fd : FuncData} {p1 p2 : Str} (h : ∀ a b : Value, bindArgs fd ⟨[], [(p2, a), (p1, b)]⟩ = pure [(p1, b), (p2, a)]) : KBinds K fd [p1, p2] [p2, p1] gRev gRev := by
  refine ⟨fun s us ws _ hl => ?_, gRev_rel⟩
  match us, ws, hl with
  | [], [a, b], _ => exact .of_eq (h a b)
theorem kb_same {K : PySem.W.Frag} {fd : FuncData} {p1 p2 : Str} (h : ∀ a b : Value, bindArgs fd ⟨[], [(p1, a), (p2, b)]⟩ = pure [(p1, a), (p2, b)]) : KBinds K fd [p1, p2] [p1, p2] gSame gSame := by
  refine ⟨fun s us ws _ hl => ?_, gSame_rel⟩
  match us, ws, hl with
  | [], [a, b], _ => exact .of_eq (h a b)
theorem kb_one {K : PySem.W.Frag} {fd : FuncData} {p1 p2 : Str} (h : ∀ a b : Value, bindArgs fd ⟨[a], [(p2, b)]⟩ = pure [(p1, a), (p2, b)]) : KBinds K fd [p1, p2] [p2] gOne gOne := by
  refine ⟨fun s us ws _ hl => ?_, gOne_rel⟩
  match us, ws, hl with
  | [a], [b], _ => exact .of_eq (h a b)
theorem Fun.fd_is {K : PySem.W.Frag} {x qual : Str} {st : Stmt} {f : Addr} {fd : FuncData} (F : Fun K x qual st f fd) : ∃ kV doc pm an cdv ct, fd = PySem.W.fnOf x qual (defArgs st) (defBody st) (defScope st) .none kV doc pm an cdv ct := by
  obtain ⟨oc, od, kV, doc, pm, an, cdv, ct, osl, e, lk, hcd⟩ := F.ex
  exact ⟨_, _, _, _, _, _, e⟩
section
variable {X : Cx} {CX : CXT} {k : Nat} {f : Addr} {fd : FuncData} {ps ks : List Str} {sp : Sp} {E : XK} {x : Str} {p pos : Pos} {kws : List Keyword} {tk : TA} {g : List Value → List Value → List Value} {gV : List V → List V → List V}
def tCallK0 (sp : Sp) (gV : List V → List V → List V) (E : XK) (tk : TA) : TE := fun σ H Q => tk σ H fun zs H2 => sp (gV [] zs) H2 Q E
/-- f(k = v, ..), nothing by position -/
theorem pe_callK0 (F : FnOk X.prog X.w X.K X.mg X.base CX k f fd ps sp) (hr : Room k X.A) (hg : Gl X x) (hm : X.mg x = some (.ref f)) (hk : PySem.W.keepIn X.K (.ref f) = true) (hb : KBinds X.K fd ps ks g gV) (hx : Passes CX X E)
    (hkw : PK X kws tk) (hall : (backToKw pos (keywordEach kws X.env)).all (·.1.isSome) = true := by rfl) (hks : (backToKw pos (keywordEach kws X.env)).filterMap (·.1) = ks := by rfl)
    (hdb : (x == ("__debug__" : Str)) = false := by decide) (hpl : ((backTo pos (starEach [] X.env)).any (·.1) || (backToKw pos (keywordEach kws X.env)).any (·.1.isNone)) = false := by rfl) :
    PE X (.Call (.Name x p) [] kws pos) (tCallK0 sp gV E tk) := by
  refine ⟨fun pins s σ H Q I h => ?_⟩
  refine wpAny_Call_Name_kw (ld_glob I hg hm ?_ hdb)
  refine PySem.W.callWith_KW0 (h₀ := X.base) I.ok.mod.kin hk hall (thn (hkw.run pos pins s σ H _ I h) fun ws s2 ⟨zs, H2, I2, rz, q2⟩ => ⟨I2.kIn, ?_⟩) hpl
  rw [hks]
  exact run_fnk (us := []) (vs := []) F hr hb hx I2 .nil rz q2
end
end L2
namespace L3
open PySem PySem.Spec PyProof.Rows L2 LamX
def callM (n : Nat) (pp : PProm) (a : M (List Sl)) : M PV := a >>= fun ss => fun Q R => ss.length = n ∧ pp ss Q R
def callKM (n nu nk : Nat) (perm : List Nat) (pp : PProm) (a b : M (List Sl)) : M PV := a >>= fun ss => b >>= fun zs => fun Q R => (gPerm nu nk perm ss zs).length = n ∧ pp (gPerm nu nk perm ss zs) Q R
def callK0M (n nk : Nat) (perm : List Nat) (pp : PProm) (b : M (List Sl)) : M PV := b >>= fun zs => fun Q R => (gPerm 0 nk perm [] zs).length = n ∧ pp (gPerm 0 nk perm [] zs) Q R
def aVal (a : M PV) (r : M (List Sl)) : M (List Sl) := a >>= fun x => r >>= fun xs => pure (.val x :: xs)
def aOwn (a : M (List PV)) (r : M (List Sl)) : M (List Sl) := a >>= fun x => r >>= fun xs => pure (.own x :: xs)
def aDeal (ρ : Rho) (i : Nat) (r : M (List Sl)) : M (List Sl) := dealM ρ i >>= fun _ => r >>= fun xs => pure (.deal :: xs)
def aNil : M (List Sl) := pure []
def vCons (a : M PV) (r : M (List PV)) : M (List PV) := a >>= fun x => r >>= fun xs => pure (x :: xs)
def vNil : M (List PV) := pure []
def op2 (g : PV → PV → M PV) (a b : M PV) : M PV := a >>= fun x => b >>= fun y => g x y
def xOf (ρ : Rho) (a : M PV) : M (PV × Rho) := a >>= fun d => pure (d, ρ)
def appM (i : Nat) (te : Rho → M (PV × Rho)) (ρ : Rho) : M (PV × Rho) := ownM ρ i >>= fun _ => te ρ >>= fun p => ownM p.2 i >>= fun ds => fun Q _ => (ds.length < sizeLine ∧ i < p.2.length) ∧ Q (.non, p.2.set i (some (.own (ds ++ [p.1]))))
def popM (i : Nat) (ρ : Rho) : M (PV × Rho) := ownM ρ i >>= fun ds => fun Q _ => ∃ d, ds[ds.length - 1]? = some d ∧ Q (d, ρ.set i (some (.own ds.dropLast)))
def popAtM (i : Nat) (te : PTE) (ρ : Rho) : M (PV × Rho) := ownM ρ i >>= fun ds => te ρ >>= fun d => match d with
  | .int j => fun Q _ => ∃ d, (0 ≤ j ∧ j < 2 ^ 63 ∧ ds[j.toNat]? = some d) ∧ Q (d, ρ.set i (some (.own (ds.eraseIdx j.toNat))))
  | _ => failM
def storeM (i : Nat) (te : Rho → M (PV × Rho)) (ti : PTE) (ρ : Rho) : M Fl := te ρ >>= fun p => ownM p.2 i >>= fun ds => ti p.2 >>= fun d => match d with
  | .int j => fun Q _ => ∃ n, (ixN ds.length j = some n ∧ i < p.2.length) ∧ Q (.nx (p.2.set i (some (.own (ds.set n p.1)))))
  | _ => failM
def augSM (i : Nat) (g : PV → PV → M PV) (ti te : PTE) (ρ : Rho) : M Fl := ownM ρ i >>= fun ds => ti ρ >>= asI >>= fun j => fun Q R => ∃ d, (0 ≤ j ∧ ds[j.toNat]? = some d) ∧ (te ρ >>= fun b => g d b >>= fun z => fun Q _ => i < ρ.length ∧ Q (.nx (ρ.set i (some (.own (ds.set j.toNat z)))))) Q R
def setX (i : Nat) (te : M (PV × Rho)) : M Fl := te >>= fun p => setM p.2 i (.val p.1) >>= fun ρ => pure (.nx ρ)
def setO (i : Nat) (te : M (List PV)) (ρ : Rho) : M Fl := te >>= fun ds => setM ρ i (.own ds) >>= fun ρ => pure (.nx ρ)
def setL (i : Nat) (te : M (List PV)) (ρ : Rho) : M Fl := te >>= fun ds => setM ρ i (.val (.lst ds)) >>= fun ρ => pure (.nx ρ)
def asgX (g : PTG) (te : M (PV × Rho)) : M Fl := te >>= fun p => g p.1 p.2 >>= fun ρ => pure (.nx ρ)
def augX (i : Nat) (g : PV → PV → M PV) (te : M PV) (ρ : Rho) : M Fl := varM ρ i >>= fun a => te >>= fun b => g a b >>= fun d => setM ρ i (.val d) >>= fun ρ => pure (.nx ρ)
def retX (te : M PV) : M Fl := te >>= fun d => pure (.rt d)
def retO (ρ : Rho) (i : Nat) : M Fl := ownM ρ i >>= fun ds => pure (.rt (.lst ds))
def exprX (te : M (PV × Rho)) : M Fl := te >>= fun p => pure (.nx p.2)
def parX (is : List Nat) (t : M (List Sl)) (ρ : Rho) : M Fl := t >>= fun ss => setsM ρ is ss >>= fun ρ => pure (.nx ρ)
def parNX (is : List Nat) (t : M (List Sl)) (ρ : Rho) : M Fl := t >>= fun ss => fun Q R => ss.length ≤ sizeLine ∧ (setsM ρ is ss >>= fun ρ => pure (.nx ρ)) Q R
def seqX (a : M Fl) (b : PTS) : M Fl := a >>= fun f => andThen f b
def ifX {α : Type} (c : M Bool) (a b : M α) : M α := c >>= fun k => if k = true then a else b
def andB (a b : M Bool) : M Bool := a >>= fun k => if k = true then b else pure false
def orB (a b : M Bool) : M Bool := a >>= fun k => if k = true then pure true else b
def notB (a : M Bool) : M Bool := a >>= fun k => pure (!k)
def andV (a b : M PV) : M PV := a >>= asB >>= fun k => if k = true then b else pure (.bl false)
def orV (a b : M PV) : M PV := a >>= asB >>= fun k => if k = true then pure (.bl true) else b
def notV (a : M PV) : M PV := a >>= asB >>= fun k => pure (.bl (!k))
def tupX (a : M (List PV)) : M PV := a >>= fitM >>= fun xs => pure (.tup xs)
def lstX (a : M (List PV)) : M PV := a >>= fun xs => pure (.lst xs)
def negX (a : M PV) : M PV := a >>= fun d => match d with | .int i => pure (.int (-i)) | _ => failM
def chainX (g g' : PV → PV → M PV) (a b c : M PV) : M PV := a >>= fun x => b >>= fun y => g x y >>= asB >>= fun k => if k = true then c >>= fun z => g' y z else pure (.bl false)
def sliceX (a : M PV) (l h : M (Option Int)) : M PV := a >>= fun d => l >>= fun l => h >>= fun h => sliceM d l h
def fsliceX (a : M PV) (l h : M (Option Int)) : M (List PV) := a >>= lstM >>= fun xs => l >>= fun l => h >>= fun h => pure (cutP xs l h)
def partX (a : M PV) : M (Option Int) := a >>= asI >>= fun i => pure (some i)
def lcX (V : List Nat) (g : PTG) (tt : Rho → M Bool) (te : PTE) (ti : Rho → M (List PV)) (ρ : Rho) : M (List PV) := novM ρ V >>= fun ρw => ti ρ >>= fun ds => calmM (lcP g tt te ρw ds [])
def lc2X (V V1 : List Nat) (g : PTG) (tt : Rho → M Bool) (ti1 : Rho → M (List PV)) (g1 : PTG) (tt1 : Rho → M Bool) (te : PTE) (ti : Rho → M (List PV)) (ρ : Rho) : M (List PV) := novM ρ V >>= fun ρw => ti ρ >>= fun ds => calmM (lc2P g tt ti1 g1 tt1 te V1 ρw ds [])
def forX (g : PTG) (tb : PTS) (ti : Rho → M (List PV)) (ρ : Rho) : M Fl := ti ρ >>= fun ds => forP g tb ds ρ
def frzX (i : Nat) (ts : PTS) (ρ : Rho) : M Fl := frzM ρ i >>= ts
def gN (i : Nat) : PTG := fun d ρ => setM ρ i (.val d)
def raiseX (nm : Str) (a : M PV) : M Fl := a >>= fun d => raiseM nm d
def drawX (i : Nat) (a b : M PV) (ρ : Rho) : M Fl := a >>= fun d => b >>= fun s => drawM ρ i d s >>= fun ρ => pure (.nx ρ)
/-- a def of the program: where it stands -/
def FF (K : PySem.W.Frag) (mg : Str → Option Value) (nm : Str) (st : Stmt) : Prop := ∃ f fd, Fun K nm nm st f fd ∧ mg nm = some (.ref f)
/-- a def's meaning -/
def UP (P : Program) (w : World) (K : PySem.W.Frag) (mg : Str → Option Value) (base : Heap) (T : List (Addr × Str)) (lev : Nat) (nm : Str) (ps : List Str) (st : Stmt) (pp : PProm) : Prop :=
  ∃ f fd, FnG P w K mg base (L2.CX P w) lev f fd ps (spP K mg T ps.length pp) ∧ Fun K nm nm st f fd ∧ mg nm = some (.ref f) ∧ Binds K fd ps []
section
variable {P : Program} {w : World} {K : PySem.W.Frag} {mg : Str → Option Value} {base : Heap} {T : List (Addr × Str)} {lev : Nat} {nm : Str} {ps : List Str} {st : Stmt} {pp : PProm}
theorem UP.mono (U : UP P w K mg base T lev nm ps st pp) {lev' : Nat} (h : lev ≤ lev') : UP P w K mg base T lev' nm ps st pp := by
  obtain ⟨f, fd, F, a, b, c⟩ := U
  exact ⟨f, fd, F.mono h, a, b, c⟩
theorem up_of {N : List Str} {ts : PTS} (A : FF K mg nm st) (sc : FnScope N ps (defScope st)) (hN : ps.length ≤ N.length)
    (hb : ∀ (kV doc pm : Value) (an : Option Addr) (cdv ct : Value) (us : List Value), us.length = ps.length → bindArgs (PySem.W.fnOf nm nm (defArgs st) (defBody st) (defScope st) .none kV doc pm an cdv ct) ⟨us, []⟩ = pure (ps.zip us))
    (body : ∀ (f : Addr) (cv : Value) (A : Around) (outer : List PySem.Env) (s : Shared) (H : Hp) (E : XK), A.guards = some [] → Room lev (A.deeper (envOfC nm (defScope st) s.heap.objs.size f cv)) →
      PPSs (cxOf (L2.CX P w) P w K mg base N nm (defScope st) f cv A outer s H E) ⟨fun cls d _ H => E cls d H, T, false⟩ (defBody st) ts) :
    UP P w K mg base T (lev + 1) nm ps st (pdef N ts) := by
  obtain ⟨f, fd, F, g⟩ := A
  exact ⟨f, fd, def_ok F sc hN fun cv A outer s H E hg hr => body f cv A outer s H E hg hr, F, g, F.binds hb⟩
end
section
variable {X : Cx} {W : Wsh}
theorem pp_u {lev n : Nat} {ps : List Str} {st : Stmt} {pp : PProm} {nm : Str} {e : Expr} {es : List Expr} {t : Rho → M (List Sl)} {p pos : Pos} (U : UP X.prog X.w X.K X.mg X.base W.T lev nm ps st pp) (tk : Takes X W.w) (hg : X.A.guards = some []) (hr : Room lev X.A) (hgl : Gl X nm) (ha : PSA X W (e :: es) t) (hn : ps.length = n := by rfl)
    (hdb : (nm == ("__debug__" : Str)) = false := by decide) (he : starEach (e :: es) X.env = (false, eval e X.env) :: starEach es X.env := by rfl) (hpl : (backTo pos (starEach es X.env)).any (·.1) = false := by rfl) :
    PPE X W (.Call (.Name nm p) (e :: es) [] pos) (fun ρ => t ρ >>= fun ss => fun Q R => ss.length = n ∧ pp ss Q R) := by
  subst hn
  obtain ⟨f, fd, F, a, g, b⟩ := U
  exact pp_call F tk hg hr hgl g a.kp b ha hdb he hpl
theorem pp_uK {lev n nk nu : Nat} {ps ks : List Str} {st : Stmt} {pp : PProm} {nm : Str} {e : Expr} {es : List Expr} {kws : List Keyword} {t tk' : Rho → M (List Sl)} {p pos : Pos} (perm : List Nat) (U : UP X.prog X.w X.K X.mg X.base W.T lev nm ps st pp) (tk : Takes X W.w) (hg : X.A.guards = some []) (hr : Room lev X.A) (hgl : Gl X nm) (h0 : 0 < ps.length)
    (hb : ∀ (kV doc pm : Value) (an : Option Addr) (cdv ct : Value) (us ws : List Value), us.length = nu → ws.length = ks.length → bindArgs (PySem.W.fnOf nm nm (defArgs st) (defBody st) (defScope st) .none kV doc pm an cdv ct) ⟨us, ks.zip ws⟩ = pure (ps.zip (gPerm nu ks.length perm us ws)))
    (ha : PSA X W (e :: es) t) (hkw : PSK X W kws tk') (hn : ps.length = n := by rfl) (hnk : ks.length = nk := by rfl) (hall : (backToKw pos (keywordEach kws X.env)).all (·.1.isSome) = true := by rfl) (hks : (backToKw pos (keywordEach kws X.env)).filterMap (·.1) = ks := by rfl)
    (hdb : (nm == ("__debug__" : Str)) = false := by decide) (he : starEach (e :: es) X.env = (false, eval e X.env) :: starEach es X.env := by rfl)
    (hpl : ((backTo pos (starEach (e :: es) X.env)).any (·.1) || (backToKw pos (keywordEach kws X.env)).any (·.1.isNone)) = false := by rfl) :
    PPE X W (.Call (.Name nm p) (e :: es) kws pos) (fun ρ => t ρ >>= fun ss => tk' ρ >>= fun zs => fun Q R => (gPerm nu nk perm ss zs).length = n ∧ pp (gPerm nu nk perm ss zs) Q R) := by
  subst hn hnk
  obtain ⟨f, fd, F, a, g, b⟩ := U
  have kb : KBinds X.K fd ps ks (gPerm nu ks.length perm) (gPerm nu ks.length perm) := by
    obtain ⟨kV, doc, pm, an, cdv, ct, rfl⟩ := a.fd_is
    exact kb_perm perm h0 (hb kV doc pm an cdv ct)
  exact pp_callK F tk hg hr hgl g a.kp kb ha hkw hall hks hdb he hpl
theorem pp_uK0 {lev n nk : Nat} {ps ks : List Str} {st : Stmt} {pp : PProm} {nm : Str} {kws : List Keyword} {tk' : Rho → M (List Sl)} {p pos : Pos} (perm : List Nat) (U : UP X.prog X.w X.K X.mg X.base W.T lev nm ps st pp) (tk : Takes X W.w) (hg : X.A.guards = some []) (hr : Room lev X.A) (hgl : Gl X nm) (h0 : 0 < ps.length)
    (hb : ∀ (kV doc pm : Value) (an : Option Addr) (cdv ct : Value) (us ws : List Value), us.length = 0 → ws.length = ks.length → bindArgs (PySem.W.fnOf nm nm (defArgs st) (defBody st) (defScope st) .none kV doc pm an cdv ct) ⟨us, ks.zip ws⟩ = pure (ps.zip (gPerm 0 ks.length perm us ws)))
    (hkw : PSK X W kws tk') (hn : ps.length = n := by rfl) (hnk : ks.length = nk := by rfl) (hall : (backToKw pos (keywordEach kws X.env)).all (·.1.isSome) = true := by rfl) (hks : (backToKw pos (keywordEach kws X.env)).filterMap (·.1) = ks := by rfl)
    (hdb : (nm == ("__debug__" : Str)) = false := by decide) (hpl : ((backTo pos (starEach [] X.env)).any (·.1) || (backToKw pos (keywordEach kws X.env)).any (·.1.isNone)) = false := by rfl) :
    PPE X W (.Call (.Name nm p) [] kws pos) (fun ρ => tk' ρ >>= fun zs => fun Q R => (gPerm 0 nk perm [] zs).length = n ∧ pp (gPerm 0 nk perm [] zs) Q R) := by
  subst hn hnk
  obtain ⟨f, fd, F, a, g, b⟩ := U
  have kb : KBinds X.K fd ps ks (gPerm 0 ks.length perm) (gPerm 0 ks.length perm) := by
    obtain ⟨kV, doc, pm, an, cdv, ct, rfl⟩ := a.fd_is
    exact kb_perm perm h0 (hb kV doc pm an cdv ct)
  exact pp_callK0 F tk hg hr hgl g a.kp kb hkw hall hks hdb hpl
/-- a name as a target -/
theorem g_nm (i : Nat) {x : Str} {pos : Pos} (hN : X.N.Nodup) (hi : X.N[i]? = some x := by rfl) (hx : Loc X.env.scope x := by first | exact Or.inl rfl | exact Or.inr rfl) (hf : X.fn x = true ∨ X.env.scope.names.lookup x = some .local := by first | exact .inl rfl | exact .inr rfl) : PPG X (.Name x pos) [i] (fun d ρ => setM ρ i (.val d)) := ppg_name (pg_name hN hi hx hf)
/-- a name's value set by a comprehension on the same line, then told -/
theorem pps_setLcV {elt tg iter : Expr} {ifs : List Expr} {scope : Scope} {own : List (Str × Nat)} {is : List Nat} {pos : Pos} {ti : Rho → M (List PV)} {g : PTG} {tt : Rho → M Bool} {te : PTE} {i : Nat} {y : Str} {py spos : Pos} (hc : X.calm = true) (hN : X.N.Nodup) (hy : X.N[i]? = some y) (hyl : X.env.scope.names.lookup y = some .local)
    (hsw : swapsWith (.ListComp elt [⟨tg, iter, ifs, 0⟩] scope pos) (some (.Name y py)) spos.line X.env = pure true) (hi : PIR X W tg iter ti) (ok : BlkOk X.N X.env.scope scope own)
    (hg : ∀ (s : Shared) (H : Hp) (C : Addr) (cl : List (Str × Addr)) (fp : List Addr), PPG (X.blk s H scope (compEnvC scope cl C X.env) fp) tg is g) (ht : ∀ (s : Shared) (H : Hp) (C : Addr) (cl : List (Str × Addr)) (fp : List Addr), PPTs (X.blk s H scope (compEnvC scope cl C X.env) fp) (W0 W.T) ifs tt)
    (he : ∀ (s : Shared) (H : Hp) (C : Addr) (cl : List (Str × Addr)) (fp : List Addr), PPE (X.blk s H scope (compEnvC scope cl C X.env) fp) (W0 W.T) elt te) (hV : ∀ i ∈ is, i ∈ own.map (·.2)) (hs : ∀ x, foldedSetIterable iter X.env x = pure x := by intro _; rfl) :
    PPS X W (.Assign [.Name y py] (.ListComp elt [⟨tg, iter, ifs, 0⟩] scope pos) spos) (fun ρ => (novM ρ (own.map (·.2)) >>= fun ρw => ti ρ >>= fun ds => calmM (lcP g tt te ρw ds [])) >>= fun ds => setM ρ i (.val (.lst ds)) >>= fun ρ => pure (.nx ρ)) :=
  PS.imp (ps_setLc (g := tG X is g) (tt := tB X (W0 W.T) tt) (te := tP X (W0 W.T) te) hc hN hy hyl hsw hi ok hg ht he hs) fun D σ H ⟨c, F, ρ, Qp, R, E, t, k, rs⟩ => by
    refine tLc_ok (Q := fun x H1 => gName i x σ H1 D.nx) hV ⟨c, F, ρ, _, R, E, t, fun ds q a vs H' F' E' s r => ?_, rs⟩
    obtain ⟨E2, nf⟩ := E'.tellG
    exact k _ q.2 _ H' _ (E2.setVal (.lst upd_same (r.same (same_new nf))) q.1) (s.trans (same_new nf))
end
end L3
theorem L2.Room.u64 {k : Nat} {A : PySem.Around} (r : L2.Room k A) : A.units + 64 < PySem.cLine := by have := r.un; omega
theorem L2.Room.u65 {k : Nat} {A : PySem.Around} (r : L2.Room k A) : A.units + 65 < PySem.cLine := by have := r.un; omega
namespace L3
open PySem PySem.Spec PyProof.Rows L2 LamX
theorem pass0X {X : Cx} : Passes CX0 X (fun _ _ _ => False) := pass0
section
variable {X : Cx} {W : Wsh}
def flatP : PV → Bool
  | .non => true
  | .bl _ => true
  | .int _ => true
  | .str _ => true
  | _ => false
theorem Rp.flat {K : PySem.W.Frag} {mg : Str → Option Value} {F : Hp} {v : V} {d : PV} (r : Rp K mg F v d) (h : flatP d = true) : flatV v = true := by
  cases r <;> first | rfl | (simp [flatP] at h; done)
theorem rpAll_flat {K : PySem.W.Frag} {mg : Str → Option Value} {F : Hp} : ∀ {vs : List V} {ds : List PV}, RpAll K mg F vs ds → ds.all flatP = true → vs.all flatV = true
  | _, _, .nil, _ => rfl
  | _, _, .cons h t, f => by
    rw [List.all_cons, Bool.and_eq_true] at f
    rw [List.all_cons, h.flat f.1, rpAll_flat t f.2]
    rfl
theorem eqV_flat {K : PySem.W.Frag} {mg : Str → Option Value} {F : Hp} {v u : V} {d e : PV} (r : Rp K mg F v d) (r2 : Rp K mg F u e) (h : flatP d = true) (h2 : flatP e = true) : eqV v u = eqP d e := by
  cases r <;> first | (simp [flatP] at h; done) | (cases r2 <;> first | (simp [flatP] at h2; done) | (simp [eqV, eqP, toD, PyData.eqv]; done) | skip)
theorem inV_flat {K : PySem.W.Frag} {mg : Str → Option Value} {F : Hp} {u : V} {e : PV} (r2 : Rp K mg F u e) (h2 : flatP e = true) : ∀ {vs : List V} {ds : List PV}, RpAll K mg F vs ds → ds.all flatP = true → inV u vs = ds.any fun z => eqP z e
  | _, _, .nil, _ => rfl
  | v :: vs, d :: ds, .cons h t, f => by
    rw [List.all_cons, Bool.and_eq_true] at f
    have e1 : inV u (v :: vs) = (eqV v u || inV u vs) := rfl
    rw [e1, List.any_cons, eqV_flat h r2 f.1 h2, inV_flat r2 h2 t f.2]
def rInA (K : PySem.W.Frag) : R2 := fun x y H Q => rInD K x y H Q ∨ rIn K false x y H Q
def rNotinA (K : PySem.W.Frag) : R2 := fun x y H Q => rNotInD K x y H Q ∨ rIn K true x y H Q
theorem op_inA (hu : X.A.units + 65 < cLine) : OpR X (compareOp .In) (rInA X.K) := op_alt (op_inD hu) op_in_seq
theorem op_notinA (hu : X.A.units + 65 < cLine) : OpR X (compareOp .NotIn) (rNotinA X.K) := op_alt (op_notInD hu) op_notIn_seq
def inAM (x : PV) : PV → M PV
  | .lst ys => fun Q _ => (okD x ∧ okD (.lst ys)) ∧ Q (.bl (ys.any fun z => eqP z x))
  | .tup ys => fun Q _ => (flatP x = true ∧ ys.all flatP = true) ∧ Q (.bl (ys.any fun z => eqP z x))
  | _ => failM
theorem inAS : OpS X W (rInA X.K) inAM := by
  intro c F H σ ρ x y v u Qp R Q E r1 r2 g k rs
  cases y with
  | lst es =>
    obtain ⟨⟨g1, g2⟩, g3⟩ := g
    have h := r2.dp g2 E.sub
    simp only [toD] at h
    refine .inl ⟨_, toDs es, r1.dp g1 E.sub, h, g1, g2, ?_⟩
    rw [toDs_map, List.any_map]
    exact k.here g3 E (.bl _)
  | tup es =>
    obtain ⟨⟨g1, g2⟩, g3⟩ := g
    obtain ⟨a, xs, rfl, h1, ha⟩ := r2.tup
    rcases r1 with r1 | ⟨_, _, _, _, e, _⟩
    · refine .inr ⟨a, xs, rfl, .inr (sqT_same E.sub h1), r1.flat g1, rpAll_flat ha g2, ?_⟩
      rw [if_neg (by decide), inV_flat r1 g1 ha g2]
      exact k.here g3 E (.bl _)
    · subst e; cases g1
  | _ => exact g.elim
def notinAM (x : PV) : PV → M PV
  | .lst ys => fun Q _ => (okD x ∧ okD (.lst ys)) ∧ Q (.bl (!ys.any fun z => eqP z x))
  | .tup ys => fun Q _ => (flatP x = true ∧ ys.all flatP = true) ∧ Q (.bl (!ys.any fun z => eqP z x))
  | _ => failM
theorem notinAS : OpS X W (rNotinA X.K) notinAM := by
  intro c F H σ ρ x y v u Qp R Q E r1 r2 g k rs
  cases y with
  | lst es =>
    obtain ⟨⟨g1, g2⟩, g3⟩ := g
    have h := r2.dp g2 E.sub
    simp only [toD] at h
    refine .inl ⟨_, toDs es, r1.dp g1 E.sub, h, g1, g2, ?_⟩
    rw [toDs_map, List.any_map]
    exact k.here g3 E (.bl _)
  | tup es =>
    obtain ⟨⟨g1, g2⟩, g3⟩ := g
    obtain ⟨a, xs, rfl, h1, ha⟩ := r2.tup
    rcases r1 with r1 | ⟨_, _, _, _, e, _⟩
    · refine .inr ⟨a, xs, rfl, .inr (sqT_same E.sub h1), r1.flat g1, rpAll_flat ha g2, ?_⟩
      rw [if_pos rfl, inV_flat r1 g1 ha g2]
      exact k.here g3 E (.bl _)
    · subst e; cases g1
  | _ => exact g.elim
def trM : PV → M Bool
  | .non => pure false
  | .bl b => pure b
  | .int i => pure (i != 0)
  | .str x => fun Q _ => x.length ≤ sizeLine ∧ Q ((x.length : Int) != 0)
  | .tup xs => pure (!xs.isEmpty)
  | .lst xs => pure (!xs.isEmpty)
  | .scr xs => pure (!xs.isEmpty)
  | _ => failM
theorem RpAll.emp {K : PySem.W.Frag} {mg : Str → Option Value} {F : Hp} {vs : List V} {ds : List PV} (r : RpAll K mg F vs ds) : vs.isEmpty = ds.isEmpty := by
  cases r <;> rfl
theorem pt_tr {e : Expr} {te : PTE} (h : PPR X W e te) (he : ∀ whole, isTrue e X.env whole = (do let v ← whole; standAt e.pos; holding [v] (truthy v)) := by intro _; rfl) : PPT X W e (fun ρ => te ρ >>= trM) :=
  PT.imp (pt_truth h he) fun σ H Q ⟨c, F, ρ, Qp, R, E, t, k, rs⟩ => ⟨c, F, ρ, _, R, E, t, fun d q v H' F' E' s r0 => by
    have r := r0 _ _ _ E' (Same.refl _)
    cases d with
    | non => obtain rfl := r.non; exact ⟨_, rfl, k _ q H' F' E' s⟩
    | bl b => obtain rfl := r.bl; exact ⟨_, rfl, k _ q H' F' E' s⟩
    | int b => obtain rfl := r.int; exact ⟨_, rfl, k _ q H' F' E' s⟩
    | str b => obtain rfl := r.str; exact ⟨_, ⟨q.1, rfl⟩, k _ q.2 H' F' E' s⟩
    | tup ds =>
      obtain ⟨a, xs, rfl, h1, ha⟩ := r.tup
      exact ⟨_, .inr (.inl ⟨xs, sqT_same E'.sub h1, rfl⟩), k _ (by rw [ha.emp]; exact q) H' F' E' s⟩
    | lst ds =>
      obtain ⟨a, xs, rfl, h1, ha⟩ := r.lst E'.sub
      exact ⟨_, .inl ⟨xs, SqL.of h1, rfl⟩, k _ (by rw [ha.emp]; exact q) H' F' E' s⟩
    | scr ds =>
      obtain ⟨a, xs, rfl, h1, ha⟩ := r.scr
      exact ⟨_, .inl ⟨xs, E'.sub.seq h1, rfl⟩, k _ (by rw [ha.emp]; exact q) H' F' E' s⟩
    | _ => exact q.elim, rs⟩
def rgP (a b : Int) : List PV := (List.range (b - a).toNat).map fun i => PV.int (a + (i : Nat))
theorem rg_rp {K : PySem.W.Frag} {mg : Str → Option Value} {F : Hp} (a b : Int) : RpAll K mg F (rgV a b) (rgP a b) := by
  unfold rgV rgP
  generalize List.range (b - a).toNat = l
  induction l with
  | nil => exact .nil
  | cons x l ih => exact .cons (.int _) ih
def listR1 (a : M PV) : M (List PV) := a >>= asI >>= fun n => fun Q _ => RgOk 0 n ∧ Q (rgP 0 n)
def listR2 (a b : M PV) : M (List PV) := a >>= fun x => b >>= fun y => match x, y with
  | .int i, .int j => fun Q _ => RgOk i j ∧ Q (rgP i j)
  | _, _ => failM
theorem pf_listR1 {a : Expr} {ta : PTE} {p p2 pos pos2 : Pos} (hc : X.calm = true) (gl : Gl X "list") (zl : X.mg "list" = none) (gr : Gl X "range") (zr : X.mg "range" = none) (ha : PPR X W a ta)
    (na : starEach [Expr.Call (.Name "range" p2) [a] [] pos2] X.env = (false, eval (Expr.Call (.Name "range" p2) [a] [] pos2) X.env) :: starEach [] X.env := by rfl) (na2 : starEach [a] X.env = (false, eval a X.env) :: starEach [] X.env := by rfl) :
    PF X W (.Call (.Name "list" p) [.Call (.Name "range" p2) [a] [] pos2] [] pos) (fun ρ => listR1 (ta ρ)) :=
  PE.imp (pe_listRg hc gl zl (prg_1 gr zr ha na2) na) fun σ H Q ⟨c, F, ρ, Qp, R, E, t, k, rs⟩ => by
    refine ⟨c, F, ρ, _, R, E, t, fun x qx v H1 F1 E1 s1 r1 => ?_, rs⟩
    cases x with
    | int n =>
      obtain rfl := (r1 _ _ _ E1 (Same.refl _)).int
      exact ⟨n, rfl, qx.1, fun q hq => (FQ.mono k s1).new qx.2 E1 (rg_rp _ _) hq⟩
    | _ => exact qx.elim
theorem pf_listR2 {a b : Expr} {ta tb : PTE} {p p2 pos pos2 : Pos} (hc : X.calm = true) (gl : Gl X "list") (zl : X.mg "list" = none) (gr : Gl X "range") (zr : X.mg "range" = none) (ha : PPR X W a ta) (hb : PPR X W b tb)
    (na : starEach [Expr.Call (.Name "range" p2) [a, b] [] pos2] X.env = (false, eval (Expr.Call (.Name "range" p2) [a, b] [] pos2) X.env) :: starEach [] X.env := by rfl) (na2 : starEach [a, b] X.env = (false, eval a X.env) :: starEach [b] X.env := by rfl)
    (na3 : starEach [b] X.env = (false, eval b X.env) :: starEach [] X.env := by rfl) (hp : (backTo pos2 (starEach [b] X.env)).any (·.1) = false := by rfl) :
    PF X W (.Call (.Name "list" p) [.Call (.Name "range" p2) [a, b] [] pos2] [] pos) (fun ρ => listR2 (ta ρ) (tb ρ)) :=
  PE.imp (pe_listRg hc gl zl (prg_2 gr zr ha hb na2 na3 hp) na) fun σ H Q ⟨c, F, ρ, Qp, R, E, t, k, rs⟩ => by
    refine ⟨c, F, ρ, _, R, E, t, fun x qx v H1 F1 E1 s1 r1 => ⟨c, F1, ρ, _, R, E1, qx, fun y qy u H2 F2 E2 s2 r2 => ?_, rs.mono s1⟩, rs⟩
    have r1' := r1 _ _ _ E2 s2
    have r2' := r2 _ _ _ E2 (Same.refl _)
    cases x <;> cases y <;> first | exact qy.elim | skip
    obtain rfl := r1'.int
    obtain rfl := r2'.int
    exact ⟨_, _, rfl, rfl, qy.1, fun q hq => (FQ.mono k (s1.trans s2)).new qy.2 E2 (rg_rp _ _) hq⟩
end
section
variable {X : Cx} {W : Wsh} {elt tg iter tg1 iter1 : Expr} {ifs ifs1 : List Expr} {scope : Scope} {own : List (Str × Nat)} {V1 is is1 : List Nat} {pos : Pos} {ti ti1 : Rho → M (List PV)} {g g1 : PTG} {tt tt1 : Rho → M Bool} {te : PTE} {i : Nat} {y : Str} {py spos : Pos}
theorem pps_setLc2 (hc : X.calm = true) (hN : X.N.Nodup) (hy : X.N[i]? = some y) (hyl : X.env.scope.names.lookup y = some .local)
    (hsw : swapsWith (.ListComp elt [⟨tg, iter, ifs, 0⟩, ⟨tg1, iter1, ifs1, 0⟩] scope pos) (some (.Name y py)) spos.line X.env = pure true) (hi : PIR X W tg iter ti) (ok : BlkOk X.N X.env.scope scope own) (hv : ∀ i ∈ V1, i ∈ own.map (·.2))
    (hg : ∀ (s : Shared) (H : Hp) (C : Addr) (cl : List (Str × Addr)) (fp : List Addr), PPG (X.blk s H scope (compEnvC scope cl C X.env) fp) tg is g) (ht : ∀ (s : Shared) (H : Hp) (C : Addr) (cl : List (Str × Addr)) (fp : List Addr), PPTs (X.blk s H scope (compEnvC scope cl C X.env) fp) (W0 W.T) ifs tt)
    (hi1 : ∀ (s : Shared) (H : Hp) (C : Addr) (cl : List (Str × Addr)) (fp : List Addr), PIR (X.blk s H scope (compEnvC scope cl C X.env) fp) (W0 W.T) tg1 iter1 ti1)
    (hg1 : ∀ (s : Shared) (H : Hp) (C : Addr) (cl : List (Str × Addr)) (fp : List Addr), PPG (X.blk s H scope (compEnvC scope cl C X.env) fp) tg1 is1 g1) (ht1 : ∀ (s : Shared) (H : Hp) (C : Addr) (cl : List (Str × Addr)) (fp : List Addr), PPTs (X.blk s H scope (compEnvC scope cl C X.env) fp) (W0 W.T) ifs1 tt1)
    (he : ∀ (s : Shared) (H : Hp) (C : Addr) (cl : List (Str × Addr)) (fp : List Addr), PPE (X.blk s H scope (compEnvC scope cl C X.env) fp) (W0 W.T) elt te) (hV : ∀ i ∈ is, i ∈ own.map (·.2)) (hV1 : ∀ i ∈ is1, i ∈ V1)
    (hs : ∀ x, foldedSetIterable iter X.env x = pure x := by intro _; rfl) (hs1 : ∀ env x, foldedSetIterable iter1 env x = pure x := by intro _ _; rfl) :
    PPS X W (.Assign [.Name y py] (.ListComp elt [⟨tg, iter, ifs, 0⟩, ⟨tg1, iter1, ifs1, 0⟩] scope pos) spos) (fun ρ => (novM ρ (own.map (·.2)) >>= fun ρw => ti ρ >>= fun ds => calmM (lc2P g tt ti1 g1 tt1 te V1 ρw ds [])) >>= fun ds => setM ρ i (.own ds) >>= fun ρ => pure (.nx ρ)) :=
  PS.imp (ps_setLc2 (g := tG X is g) (tt := tB X (W0 W.T) tt) (wi1 := tIR X (W0 W.T) ti1) (g1 := tG X is1 g1) (tt1 := tB X (W0 W.T) tt1) (te := tP X (W0 W.T) te) hc hN hy hyl hsw hi ok hv hg ht hi1 hg1 ht1 he hs hs1) fun D σ H ⟨c, F, ρ, Qp, R, E, t, k, rs⟩ => by
    refine tLc2_ok (Q := fun x H1 => gName i x σ H1 D.nx) hV hv hV1 ⟨c, F, ρ, _, R, E, t, fun ds q a vs H' F' E' s r => ?_, rs⟩
    exact k _ q.2 _ H' F' (E'.ownG r q.1) s
theorem pps_setLc2V (hc : X.calm = true) (hN : X.N.Nodup) (hy : X.N[i]? = some y) (hyl : X.env.scope.names.lookup y = some .local)
    (hsw : swapsWith (.ListComp elt [⟨tg, iter, ifs, 0⟩, ⟨tg1, iter1, ifs1, 0⟩] scope pos) (some (.Name y py)) spos.line X.env = pure true) (hi : PIR X W tg iter ti) (ok : BlkOk X.N X.env.scope scope own) (hv : ∀ i ∈ V1, i ∈ own.map (·.2))
    (hg : ∀ (s : Shared) (H : Hp) (C : Addr) (cl : List (Str × Addr)) (fp : List Addr), PPG (X.blk s H scope (compEnvC scope cl C X.env) fp) tg is g) (ht : ∀ (s : Shared) (H : Hp) (C : Addr) (cl : List (Str × Addr)) (fp : List Addr), PPTs (X.blk s H scope (compEnvC scope cl C X.env) fp) (W0 W.T) ifs tt)
    (hi1 : ∀ (s : Shared) (H : Hp) (C : Addr) (cl : List (Str × Addr)) (fp : List Addr), PIR (X.blk s H scope (compEnvC scope cl C X.env) fp) (W0 W.T) tg1 iter1 ti1)
    (hg1 : ∀ (s : Shared) (H : Hp) (C : Addr) (cl : List (Str × Addr)) (fp : List Addr), PPG (X.blk s H scope (compEnvC scope cl C X.env) fp) tg1 is1 g1) (ht1 : ∀ (s : Shared) (H : Hp) (C : Addr) (cl : List (Str × Addr)) (fp : List Addr), PPTs (X.blk s H scope (compEnvC scope cl C X.env) fp) (W0 W.T) ifs1 tt1)
    (he : ∀ (s : Shared) (H : Hp) (C : Addr) (cl : List (Str × Addr)) (fp : List Addr), PPE (X.blk s H scope (compEnvC scope cl C X.env) fp) (W0 W.T) elt te) (hV : ∀ i ∈ is, i ∈ own.map (·.2)) (hV1 : ∀ i ∈ is1, i ∈ V1)
    (hs : ∀ x, foldedSetIterable iter X.env x = pure x := by intro _; rfl) (hs1 : ∀ env x, foldedSetIterable iter1 env x = pure x := by intro _ _; rfl) :
    PPS X W (.Assign [.Name y py] (.ListComp elt [⟨tg, iter, ifs, 0⟩, ⟨tg1, iter1, ifs1, 0⟩] scope pos) spos) (fun ρ => (novM ρ (own.map (·.2)) >>= fun ρw => ti ρ >>= fun ds => calmM (lc2P g tt ti1 g1 tt1 te V1 ρw ds [])) >>= fun ds => setM ρ i (.val (.lst ds)) >>= fun ρ => pure (.nx ρ)) :=
  PS.imp (ps_setLc2 (g := tG X is g) (tt := tB X (W0 W.T) tt) (wi1 := tIR X (W0 W.T) ti1) (g1 := tG X is1 g1) (tt1 := tB X (W0 W.T) tt1) (te := tP X (W0 W.T) te) hc hN hy hyl hsw hi ok hv hg ht hi1 hg1 ht1 he hs hs1) fun D σ H ⟨c, F, ρ, Qp, R, E, t, k, rs⟩ => by
    refine tLc2_ok (Q := fun x H1 => gName i x σ H1 D.nx) hV hv hV1 ⟨c, F, ρ, _, R, E, t, fun ds q a vs H' F' E' s r => ?_, rs⟩
    obtain ⟨E2, nf⟩ := E'.tellG
    exact k _ q.2 _ H' _ (E2.setVal (.lst upd_same (r.same (same_new nf))) q.1) (s.trans (same_new nf))
end
def op2F (g : PV → PV → M (List PV)) (a b : M PV) : M (List PV) := a >>= fun x => b >>= fun y => g x y
end L3
namespace PySem.W
open PySem PySem.Calls PySem.SeqAt PyProof.Rows
section
variable {prog : Program} {w : World} {A : Around} {E : Value → Shared → Prop} {s : Shared}
theorem call_tuple_lt' {Q : Value → Shared → Prop} {l b : Addr} {items items2 : Array Value} {e r : Nat → Bool} (hl : s.heap.IsTuple l items) (hb : s.heap.IsTuple b items2)
    (he : ∀ j (h1 : j < items.size) (h2 : j < items2.size), EqAt A.in1 s items[j] items2[j] (e j)) (hr : ∀ j (h1 : j < items.size) (h2 : j < items2.size), e j = false → RcLt A.in1 s items[j] items2[j] (r j))
    (h : Q (.bool (firstLt e r (decide (items.size < items2.size)) (List.range (min items.size items2.size)))) s) : wpAny (model prog w) A (call (.builtin "tuple.__lt__") [.ref l, .ref b]) Q E s := by
  obtain ⟨⟨cls, dd, data, sl⟩, ho, hc, n, hd⟩ := id hl
  obtain ⟨⟨cls2, dd2, data2, sl2⟩, ho2, hc2, n2, hd2⟩ := id hb
  simp only at hc hd hc2 hd2
  subst hc hd hc2 hd2
  exact call_meets F.slot_tuple_lt ⟨_, ho, rfl⟩ F.entry_tuple_lt (F.args_tuple_lt_2 _ _) (tuple_ltAt l b items items2 n n2 dd dd2 sl sl2 e r) ⟨ho, ho2, he, hr, h⟩
theorem oneLt_tuple {xs ys : List PyData} {a b : Value} {as bs : List Addr} {Q : Bool → Shared → Prop} (ra : Reads s.heap a (.tuple xs) as) (rb : Reads s.heap b (.tuple ys) bs) (h : alike (.tuple xs) (.tuple ys) = true)
    (hu : A.units + min (PyData.tuple xs).depth (PyData.tuple ys).depth < cLine) (hq : Q (dataLt (.tuple xs) (.tuple ys)) s) : wpAny (model prog w) A (oneLt' true a b) Q E s := by
  have hal : alikeAll xs ys = true := by simpa [alike] using h
  cases ra with
  | @tuple l o vs n _ as₁ h1 h2 h3 h4 =>
    cases rb with
    | @tuple l' o' vs' n' _ bs₁ k1 k2 k3 k4 =>
      have n1 : vs.size = xs.length := by simpa using ReadsAll.length _ _ _ h4
      have n2 : vs'.size = ys.length := by simpa using ReadsAll.length _ _ _ k4
      rw [dataLt_tuple, ← firstLt_toks xs ys hal, ← n1, ← n2] at hq
      rw [oneLt'_eq]
      simp only [if_true]
      refine wpAny_bind (wpAny_cRoomFor (room_here hu) ?_)
      refine wpAny_bind (wpAny_callSpecialIfBound?_slot (T := "tuple") ⟨_, h1, h2⟩ F.slot_tuple_lt (call_tuple_lt' (e := pairEq xs ys) (r := fun j => dataLt (xs.getD j .none) (ys.getD j .none)) ⟨_, h1, h2, _, h3⟩ ⟨_, k1, k2, _, k3⟩ (fun j j1 j2 => ?_) (fun j j1 j2 hj => ?_) ?_))
      · have := eqAt_alikeAll xs ys A.in1 s vs.toList vs'.toList _ _ h4 k4 hal (room_in hu) j (by simpa using j1) (by simpa using j2)
        simpa using this
      · have := rcLt_alikeAll xs ys A.in1 s vs.toList vs'.toList _ _ h4 k4 hal (room_in hu) j (by simpa using j1) (by simpa using j2) hj
        simpa using this
      · exact wpAny_truthy_bool hq
/-- the kind of keys: the first one is the empty tuple, all are tuples -/
theorem first_none {v : Value} {M : Model} {as : List Addr} {Q : Option Value → Shared → Prop} (r : Reads s.heap v (.tuple []) as) (h : Q none s) : wpAny M A (firstOfTuple' v) Q E s := by
  cases r with
  | @tuple a o vs n _ _ h1 h2 h3 h4 =>
    rw [kas_first_eq]
    refine wpAny_bind (Looks.here (show Looks M s.heap (typeOf (.ref a)) o.cls from (Looks.ld h1).andThen .now) ?_)
    rw [h2, if_neg (by first | decide | simp)]
    have e : vs = #[] := by
      cases vs with
      | mk l => cases l with
        | nil => rfl
        | cons x t => cases h4
    subst e
    exact wpAny_bind (listItems_at h1 h3 (wpAny_pure h))
theorem first_any {v : Value} {M : Model} {as : List Addr} {xs : List PyData} {Q : Option Value → Shared → Prop} (r : Reads s.heap v (.tuple xs) as) (h : ∀ x, Q x s) : wpAny M A (firstOfTuple' v) Q E s := by
  cases r with
  | @tuple a o vs n _ _ h1 h2 h3 h4 =>
    rw [kas_first_eq]
    refine wpAny_bind (Looks.here (show Looks M s.heap (typeOf (.ref a)) o.cls from (Looks.ld h1).andThen .now) ?_)
    rw [h2, if_neg (by first | decide | simp)]
    exact wpAny_bind (listItems_at h1 h3 (wpAny_pure (h _)))
theorem firsts_any {M : Model} : ∀ (l : List Value) {Q : List (Option Value) → Shared → Prop}, (∀ v ∈ l, ∃ xs as, Reads s.heap v (.tuple xs) as) → (∀ fs, Q fs s) → wpAny M A (l.mapM firstOfTuple') Q E s
  | [], _, _, h => by rw [List.mapM_nil]; exact wpAny_pure (h _)
  | x :: l, Q, hf, h => by
    rw [List.mapM_cons]
    obtain ⟨xs, as, r⟩ := hf x (.head _)
    exact wpAny_bind (first_any r fun y => wpAny_bind (firsts_any l (Q := fun bs s' => wpAny M A (pure (y :: bs)) Q E s') (fun v hv => hf v (.tail _ hv)) fun fs => wpAny_pure (h _)))
theorem kind_empty {v₁ v₂ : Value} {rest : List Value} {M : Model} {as : List Addr} {Q : SortKind → Shared → Prop} (r1 : Reads s.heap v₁ (.tuple []) as) (hr : ∀ v ∈ v₂ :: rest, ∃ xs as, Reads s.heap v (.tuple xs) as) (h : Q oneType' s) :
    wpAny M A (keyKind' (v₁ :: v₂ :: rest).toArray) Q E s := by
  rw [keyKind'_eq, List.mapM_toArray, map_eq_pure_bind]
  refine wpAny_bind (wpAny_bind ?_)
  rw [List.mapM_cons]
  refine wpAny_bind (first_none r1 (wpAny_bind (firsts_any _ hr fun fs => wpAny_pure (wpAny_pure ?_))))
  rw [if_neg (by simp), if_neg (by simp)]
  rw [oneTypeOnly'_eq, List.mapM_toArray, map_eq_pure_bind]
  refine wpAny_bind (wpAny_bind (wpAny_bind (kas_mapM (r := Value.type "tuple") _ (fun v hv Q' hq => ?_) (wpAny_pure ?_))))
  · rcases List.mem_cons.mp hv with rfl | hv
    · exact (show Looks M s.heap (typeOf v) (.type "tuple") from looks_reads r1).here hq
    · obtain ⟨xs, as, r⟩ := hr v hv
      exact (show Looks M s.heap (typeOf v) (.type "tuple") from looks_reads r).here hq
  · have hall : ((List.map (fun _ => Value.type "tuple") (v₁ :: v₂ :: rest)).toArray.all fun x => x == Value.type "tuple") = true := by
      simp only [List.all_toArray, List.all_map, List.all_eq_true]
      intro _ _
      exact beq_self_eq_true _
    have h0 : (List.map (fun _ => Value.type "tuple") (v₁ :: v₂ :: rest)).toArray[0]? = some (Value.type "tuple") := by simp
    rw [h0]
    simp only [hall, if_true]
    exact wpAny_pure (wpAny_pure h)
/-- .. or the first one is the empty tuple, and all are tuples -/
def SortableE (ds : List PyData) : Prop := Sortable ds ∨ ∃ r, ds = .tuple [] :: r ∧ ∀ d ∈ r, ∃ xs, d = .tuple xs
theorem SortsAt.dataE {vs : List Value} {ds : List PyData} (e : EachIs (fun v d => ∃ as, Reads s.heap v d as) vs ds) (hal : AllAlike ds) (hk : SortableE ds) (hu : ∀ d, d ∈ ds → A.units + d.depth < cLine) : SortsAt prog w A s (dataKind s.heap ds) vs := by
  rcases hk with hk | ⟨r, rfl, ht⟩
  · exact SortsAt.data e hal hk hu
  · have room : ∀ {d d' : PyData}, d ∈ PyData.tuple [] :: r → A.units + min d.depth d'.depth < cLine := fun {d d'} hd => Nat.lt_of_le_of_lt (Nat.add_le_add_left (Nat.min_le_left _ _) _) (hu d hd)
    have tup : ∀ d ∈ PyData.tuple [] :: r, ∃ xs, d = .tuple xs := fun d hd => by
      rcases List.mem_cons.mp hd with rfl | hd
      · exact ⟨[], rfl⟩
      · exact ht d hd
    refine ⟨fun v hv => ?_, oneType', ?_, fun h2 E Q hq => ?_⟩
    · obtain ⟨d, hd, as, r⟩ := e.left v hv
      exact ⟨_, dataKind_some hal hd r⟩
    · intro E x y a b Q ha hb hq
      obtain ⟨d, as, hd, ra, rfl⟩ := dataKind_inv ha
      obtain ⟨d', as', hd', rb, rfl⟩ := dataKind_inv hb
      rw [keyLt'_oneType]
      obtain ⟨xs, rfl⟩ := tup d hd
      obtain ⟨ys, rfl⟩ := tup d' hd'
      exact oneLt_tuple ra rb (hal _ hd _ hd') (room hd) hq
    · cases e with
      | cons h1 t =>
        obtain ⟨as, r1⟩ := h1
        cases t with
        | nil => exact absurd h2 (by simp)
        | cons h3 t =>
          refine kind_empty r1 (fun v hv => ?_) hq
          obtain ⟨d, hd, as, r⟩ := (EachIs.cons h3 t).left v hv
          obtain ⟨xs, rfl⟩ := ht d hd
          exact ⟨xs, as, r⟩
/-- sorted(xs) -/
theorem sorted_dataE {β : Type} {R : Value → β → Prop} {enc : β → PyData} {vs : List Value} {bs : List β} {l : Addr} {Q : Value → Shared → Prop} (hl : s.heap.IsList l vs.toArray) (e : EachIs R vs bs) (er : EachIs (fun v b => ∃ as, Reads s.heap v (enc b) as) vs bs) (hal : AllAlike (bs.map enc)) (hk : SortableE (bs.map enc)) (hL : bs.length ≤ sizeLine)
    (hu : ∀ b, b ∈ bs → A.units + 2 + (enc b).depth < cLine) (h : ∀ out, out.length = bs.length → EachIs R out (bs.mergeSort (dataLe false enc)) → Q (.ref (s.heap.objs.size + 1)) { s with heap := sortedAll s.heap vs (List.toArray out) }) :
    wpAny (model prog w) A (call (.builtin "sorted") [.ref l]) Q E s := by
  have er' : EachIs (fun v b => ∃ as, Reads (sortingHeap (copyHeap s.heap vs) (s.heap.objs.size + 1) vs) v (enc b) as) vs bs := er.mono fun _ _ ⟨as, r⟩ => ⟨as, PyProof.Rows.Reads.keeps (fun _ _ => sorting_copy_old) r⟩
  exact sorted_vals hl (SortsAt.dataE (s := { s with heap := sortingHeap (copyHeap s.heap vs) (s.heap.objs.size + 1) vs }) (each_map (R := fun v d => ∃ as, Reads (sortingHeap (copyHeap s.heap vs) (s.heap.objs.size + 1) vs) v d as) enc er') hal hk (bound_map hu)) (by rw [e.length]; exact hL)
    (h _ (by rw [sortVals_length false rfl]; exact e.length) (sortVals_data false e er' hal))
end
end PySem.W
namespace L2
open PySem PySem.Spec PyProof.Rows PySem.W
/-- data that may be sorted -/
def OkSort (ds : List PyData) : Prop := AllAlike ds ∧ SortableE ds ∧ PyData.canLayAll0 ds = true ∧ ∀ d ∈ ds, d.depth ≤ 64
def sortZ (xs : List V) (ds : List PyData) : List V := ((xs.zip ds).mergeSort (dataLe false Prod.snd)).map Prod.fst
def rSortedD (K : PySem.W.Frag) : List V → Hp → VK → Prop := fun vs H Q => ∃ (a : Addr) (xs : List V) (ds : List PyData), vs = [.ref a] ∧ SqL K H a xs ∧ DpAll K H xs ds ∧ OkSort ds ∧ ∀ p, H p = none → Q (.ref p) (upd H p (.lst (sortZ xs ds)))
section
variable {X : Cx}
theorem dpAll_len {K : PySem.W.Frag} {H : Hp} : ∀ {xs : List V} {ds : List PyData}, DpAll K H xs ds → xs.length = ds.length
  | _, _, .nil => rfl
  | _, _, .cons _ t => by rw [List.length_cons, List.length_cons, dpAll_len t]
theorem each_zip {pins : List (Addr × Obj)} {σ : St} {H : Hp} {s : Shared} (I : Inv X pins σ H s) : ∀ {xs : List V} {its : List Value} {ds : List PyData}, Vals xs its → DpAll X.K H xs ds →
    EachIs (fun u (b : V × PyData) => RelV b.1 u) its (xs.zip ds) ∧ EachIs (fun u (b : V × PyData) => ∃ as, Reads s.heap u b.2 as) its (xs.zip ds)
  | _, _, _, .nil, .nil => ⟨.nil, .nil⟩
  | _, _, _, .cons r t, .cons h k => by
    obtain ⟨e1, e2⟩ := each_zip I t k
    exact ⟨.cons r e1, .cons (Dp.reads I _ _ _ h r) e2⟩
theorem vals_each : ∀ {out : List Value} {bs : List (V × PyData)}, EachIs (fun u (b : V × PyData) => RelV b.1 u) out bs → Vals (bs.map Prod.fst) out
  | _, _, .nil => .nil
  | _, _, .cons h t => .cons h (vals_each t)
theorem zip_snd {α β : Type} : ∀ {xs : List α} {ds : List β}, xs.length = ds.length → (xs.zip ds).map Prod.snd = ds
  | [], [], _ => rfl
  | x :: xs, d :: ds, h => by rw [List.zip_cons_cons, List.map_cons, zip_snd (Nat.succ.inj h)]
  | [], _ :: _, h => by cases h
  | _ :: _, [], h => by cases h
theorem cr_sortedD (hu : X.A.units + 200 < cLine) : CallR X (.builtin "sorted") (rSortedD X.K) := by
  intro pins s σ H vs us Q I r h
  obtain ⟨a, xs, ds, rfl, hs, hd, ⟨h1, h2, h3, h4⟩, q⟩ := h
  obtain ⟨its, rv, hl, hz⟩ := I.list hs
  rw [Vals.ref1 r]
  obtain ⟨e1, e2⟩ := each_zip I rv hd
  have hlen := dpAll_len hd
  have hm : (xs.zip ds).map Prod.snd = ds := zip_snd hlen
  refine sorted_dataE hl.isList e1 e2 (by rw [hm]; exact h1) (by rw [hm]; exact h2) (by rw [List.length_zip, ← hlen, Nat.min_self]; exact hz) (fun b hb => ?_) fun out ho hout => ?_
  · have := h4 b.2 (List.of_mem_zip hb).2
    omega
  obtain ⟨ep, he'⟩ := PyProof.Rows.sortedAll_at s.heap its out.toArray
  have hlen2 : (sortZ xs ds).length ≤ sizeLine := by
    unfold sortZ
    rw [List.length_map, (List.mergeSort_perm _ _).length_eq, List.length_zip, ← hlen, Nat.min_self]
    exact hz
  exact ⟨.ref _, upd H (s.heap.objs.size + 1) (.lst (sortZ xs ds)), I.laid (t' := s.toks) (fun _ _ => PyProof.Rows.sortedAll_old) (Nat.le_succ _) ⟨hlen2, out, ep, vals_each hout, he'⟩, rfl, q _ (I.hok.fresh (Nat.le_succ _))⟩
end
end L2
namespace L3
open PySem PySem.Spec PyProof.Rows L2 LamX PySem.W
/-- the order of plain values that are alike -/
noncomputable def leP (x y : PV) : Bool := dataLe false toD x y
noncomputable def sortP (ds : List PV) : List PV := ds.mergeSort leP
theorem dpAll_of {K : PySem.W.Frag} {mg : Str → Option Value} {F H : Hp} {xs : List V} {ds : List PV} (h : PyData.canLayAll0 (toDs ds) = true) (r : RpAll K mg F xs ds) (s : Same F H) : DpAll K H xs (toDs ds) := dpAll_same s _ _ (rp_dps ds _ h r)
theorem rpAll_pairs {K : PySem.W.Frag} {mg : Str → Option Value} {F : Hp} : ∀ {ps : List (V × PV)}, (∀ p ∈ ps, Rp K mg F p.1 p.2) → RpAll K mg F (ps.map Prod.fst) (ps.map Prod.snd)
  | [], _ => .nil
  | p :: ps, h => .cons (h p List.mem_cons_self) (rpAll_pairs fun q hq => h q (List.mem_cons_of_mem _ hq))
theorem rpAll_zip {K : PySem.W.Frag} {mg : Str → Option Value} {F : Hp} : ∀ {xs : List V} {ds : List PV}, RpAll K mg F xs ds → ∀ p ∈ xs.zip ds, Rp K mg F p.1 p.2
  | _, _, .nil, p, hp => by cases hp
  | x :: xs, d :: ds, .cons h t, p, hp => by
    rw [List.zip_cons_cons] at hp
    rcases List.mem_cons.mp hp with rfl | hp
    · exact h
    · exact rpAll_zip t p hp
theorem sortZ_rp {K : PySem.W.Frag} {mg : Str → Option Value} {F : Hp} {xs : List V} {ds : List PV} (r : RpAll K mg F xs ds) : RpAll K mg F (sortZ xs (toDs ds)) (sortP ds) := by
  have e1 : xs.zip (toDs ds) = (xs.zip ds).map (fun p => (p.1, toD p.2)) := by
    rw [toDs_map, List.zip_map_right]
    rfl
  have e2 : ((xs.zip ds).map (fun p : V × PV => (p.1, toD p.2))).mergeSort (dataLe false Prod.snd) = ((xs.zip ds).mergeSort fun a b => dataLe false toD a.2 b.2).map (fun p => (p.1, toD p.2)) :=
    (List.map_mergeSort (r := fun a b : V × PV => dataLe false toD a.2 b.2) (f := fun p : V × PV => (p.1, toD p.2)) fun a _ b _ => rfl).symm
  have e3 : sortZ xs (toDs ds) = ((xs.zip ds).mergeSort fun a b => dataLe false toD a.2 b.2).map Prod.fst := by
    unfold sortZ
    rw [e1, e2, List.map_map]
    rfl
  have e4 : sortP ds = ((xs.zip ds).mergeSort fun a b => dataLe false toD a.2 b.2).map Prod.snd := by
    rw [List.map_mergeSort (r := fun a b : V × PV => dataLe false toD a.2 b.2) (s := leP) (f := Prod.snd) fun a _ b _ => rfl, zip_snd r.length]
    rfl
  rw [e3, e4]
  exact rpAll_pairs fun p hp => rpAll_zip r p ((List.mergeSort_perm _ _).mem_iff.mp hp)
abbrev OkSortP (ds : List PV) : Prop := OkSort (toDs ds)
/-- sorted(..): of ints, or of data that are alike -/
noncomputable def sortAM (ds : List PV) : M (List PV) := oneM ds >>= lstM >>= fun xs => fun Q _ => (∃ ns, xs = ns.map PV.int ∧ Q ((sortI ns).map PV.int)) ∨ (OkSortP xs ∧ Q (sortP xs))
def rSortedA (K : PySem.W.Frag) : List V → Hp → VK → Prop := fun vs H Q => rSortedI K vs H Q ∨ rSortedD K vs H Q
section
variable {X : Cx} {W : Wsh}
theorem call_sortA {k : Nat} (hr : Room k X.A) : CallR X (.builtin "sorted") (rSortedA X.K) := call_alt cr_sortedI (cr_sortedD (by have := hr.un; omega))
theorem sortAF : CallF X W (rSortedA X.K) sortAM := by
  intro c F H σ ρ ds vs Qp R Q E r g k rs
  obtain ⟨d, rfl, g⟩ := oneM_inv g
  obtain ⟨v, rfl, r1⟩ := r.one
  obtain ⟨ds, hd, g⟩ := lstM_inv g
  obtain ⟨a, xs, rfl, h, ha, h2⟩ := r1.seq (ds := ds) (by rcases hd with e | e; exact .inl e; exact .inr (.inr e)) E.sub
  have h3 : SqL X.K H a xs := h2 (by rcases hd with e | e <;> (rw [e]; exact fun z => nomatch z))
  rcases g with ⟨ns, rfl, g⟩ | ⟨g1, g⟩
  · obtain rfl := rpAll_ints ha
    refine .inl ⟨a, ns, rfl, h3, fun ms p pm sm hp => ?_⟩
    obtain rfl := sortI_eq pm sm
    exact k.new g E (rpAll_int _) hp
  · exact .inr ⟨a, xs, toDs ds, rfl, h3, dpAll_of g1.2.2.1 ha E.sub, g1, fun p hp => k.new g E (sortZ_rp ha) hp⟩
end
end L3
namespace L2
open PySem PySem.Spec PyProof.Rows
section
variable {P : Program} {w : World} {A : Around} {E : Value → Shared → Prop} {s : Shared}
/-- the object of a new set -/
abbrev newSet (w : World) : Obj := { cls := .type "set", dict := none, data := .set #[] 0 (.fresh 0 0 (!w.params.followText "set-order")) }
/-- what the call leaves: the set at the end of the heap, older objects as they were -/
def SetLeft (w : World) (s : Shared) (ns : List Int) (h' : Heap) (c : Nat) : Prop := SetR w h' s.heap.objs.size (fun j => decide (j ∈ ns)) c ∧ c ≤ ns.length ∧ ∀ b o, s.heap.get? b = some o → h'.get? b = some o
theorem call_set_listI {l : Addr} {items : Array Value} (ns : List Int) {Q : Value → Shared → Prop} (hh : A.handled = none) (hl : s.heap.IsList l items) (hit : IntsAre items.toList ns) (hb : ns.length + 1 < scanBound)
    (done : ∀ (h' : Heap) (tk c : Nat), SetLeft w s ns h' c → Q (.ref s.heap.objs.size) { s with heap := h', toks := tk }) : wpAny (model P w) A (call (.type "set") [.ref l]) Q E s := by
  have size : items.size = ns.length := (Array.length_toList (xs := items)).symm.trans (IntsAre.length hit)
  have ⟨_, _, mro⟩ := F.called_set.mro
  have f1 := F.called_set.made
  have f2 := F.called_set.sub
  apply wpAny_call
  apply codeAny_of_tree
  show wpAny _ _ (callAny (.type "set") _) _ _ _
  apply wpAny_pure
  refine And.intro (Code.quiet_builtin _ (by decide +kernel)) (codeAny_builtin F.entry_type_call ?_)
  rw [Around.under_plain (weight_type_call_type "set" [.ref l] []) rfl]
  have f3 := F.called_set.notType
  have f4 := F.called_set.canCreate
  have f5 := F.typeCall_set_1 (.ref l)
  repeat (any_goals (first | assumption | wp_step))
  apply codeAny_mono (code_set_led1 (.ref l) (E := E) (Q₁ := fun x s₁ => x = .ref s.heap.objs.size ∧ s₁ = { s with heap := s.heap.push (newSet w) }) (And.intro rfl rfl))
  intro r s₁ hr
  match r, hr with
  | .error e, hr => exact hr
  | .ok (.ret x), hr =>
    obtain ⟨e1, e2⟩ := hr
    subst e1 e2
    have new : (s.heap.push (newSet w)).get? s.heap.objs.size = some (newSet w) := Heap.get?_push_size _ rfl
    have newT : Shared.TypeIs { s with heap := s.heap.push (newSet w) } (.ref s.heap.objs.size) "set" := Exists.intro _ (And.intro new rfl)
    have g1 := F.called_set.init.lookup
    have g2 := F.called_set.init.bind (.ref s.heap.objs.size)
    repeat (any_goals (first | assumption | wp_step))
    apply codeAny_mono (codeAny_call_builtin (R := wants (fun r s₂ => r = .none ∧ ∃ h' tk c, s₂ = { s with heap := h', toks := tk } ∧ SetLeft w s ns h' c) E) F.called_set.init.plain F.entry_set_init (check_set_init_1 newT ?body))
    case body =>
      have ⟨⟨oc, od, oa, os⟩, at0, at1, n0, at2⟩ := hl
      cases at1
      cases at2
      have atS : (s.heap.push (newSet w)).get? l = some { cls := .type "list", dict := od, data := .seq items n0, slots := os } := Heap.get?_push_of_some _ at0
      have b1 := F.sub_list_set
      have b2 := F.sub_list_frozenset
      have b3 : (Value.type "list" == Value.type "dict") = false := by decide
      have isL : (s.heap.push (newSet w)).IsList l items := Exists.intro _ (And.intro atS (And.intro rfl (Exists.intro n0 rfl)))
      unfold Builtin.«set.__init__» noKeywords Builtin.Frozenset.updateFrom
      generalize itn : pyIter = it
      wp_walk
      subst itn
      apply wpAny_pyIter_list isL
      apply wpAny_bind
      apply wpAny_runValue
      have lt : l < s.heap.objs.size := Heap.lt_size at0
      have sz : (s.heap.push (newSet w)).objs.size = s.heap.objs.size + 1 := Heap.size_push ..
      have ne1 : l ≠ (s.heap.push (newSet w)).objs.size := by
        rw [sz]
        exact Nat.ne_of_lt (Nat.lt_succ_of_lt lt)
      have no : s.heap.objs.size ∉ [(s.heap.push (newSet w)).objs.size, l] := by
        rw [sz]
        simp only [List.mem_cons, List.not_mem_nil, or_false, not_or]
        exact And.intro (Nat.ne_of_lt (Nat.lt_succ_self _)) (Nat.ne_of_gt lt)
      have each : ∀ (i : Nat) (v : Value), items[i]? = some v → ∃ k t, ns[i]? = some k ∧ v = .int k t := by
        intro i v hv
        have hi : i < ns.length := size ▸ (Array.getElem?_eq_some_iff.mp hv).1
        have ⟨t, e⟩ := PyProof.Rows.IntsAre.int_at hit i v ((Array.getElem?_toList).trans hv)
        exact ⟨ns[i], t, List.getElem?_eq_getElem hi, by rw [e, List.getD_eq_getElem?_getD, List.getElem?_eq_getElem hi] <;> rfl⟩
      refine set_update_ints ((Walks.list (show A.in1.in1.in1.handled = none by simp [hh]) _ l ne1 items).toS) s.heap.objs.size no ns size hb each (items.size - 0) 0 _ (by omega) (Nat.zero_le _) ⟨⟨_, Heap.get?_push_size _ rfl, rfl, rfl⟩, isL.push _⟩ ?s0 ?r0
      case s0 => exact ⟨0, Nat.le_refl 0, setR_new_at (Heap.get?_push_of_some _ new)⟩
      case r0 =>
        intro ⟨h2, gs, dr, tk2, os2⟩ c2 mv le2 st2
        cases (show gs = s.gens from mv.gens)
        cases (show dr = s.drawn from mv.drawn)
        cases (show os2 = s.os from mv.os)
        show wpAny _ _ _ _ _ _
        apply wpAny_pure
        show wpAny _ _ (ret Value.none) _ _ _
        refine wpAny_pure ⟨rfl, h2, tk2, c2, rfl, st2, size ▸ le2, fun b o e => mv.heap b o ?_ (Heap.get?_push_of_some _ (Heap.get?_push_of_some _ e))⟩
        have small := Heap.lt_size e
        rw [sz]
        simp only [List.mem_cons, List.not_mem_nil, or_false, not_or]
        exact And.intro (Nat.ne_of_lt small) (Nat.ne_of_lt (Nat.lt_succ_of_lt small))
    intro r₂ s₂ hr₂
    match r₂, hr₂ with
    | .error e, hr₂ => exact hr₂
    | .ok (.ret r), hr₂ =>
      obtain ⟨e1, h2, tk2, c2, e2, left⟩ := hr₂
      subst e1 e2
      repeat (any_goals (first | assumption | wp_step))
      exact done _ _ _ left
end
section
variable {X : Cx}
/-- set(xs): a new set of these ints -/
def rSetLI (K : PySem.W.Frag) (w : World) : List V → Hp → VK → Prop := fun xs H Q => ∃ (l : Addr) (ns : List Int), xs = [V.ref l] ∧ SqL K H l (ns.map V.int) ∧ ns.length ≤ 1000 ∧
  ∀ a c, H a = none → c ≤ ns.length → Q (.ref a) (upd H a (SetO w a (fun j => decide (j ∈ ns)) c))
theorem cr_setLI (hc : X.calm = true) : CallR X (.type "set") (rSetLI X.K X.w) := by
  intro pins s σ H xs us Q I r h
  obtain ⟨l, ns, rfl, hq, hz, q⟩ := h
  rw [Vals.ref1 r]
  obtain ⟨its, rv, pl, _⟩ := I.list hq
  have hn : H s.heap.objs.size = none := I.hok.fresh (Nat.le_refl _)
  refine call_set_listI ns (I.ok.hd hc) pl.isList (by simpa using rv.ints) (by unfold scanBound; omega) fun h' tk c left => ?_
  exact ⟨.ref s.heap.objs.size, upd H s.heap.objs.size (SetO X.w s.heap.objs.size (fun j => decide (j ∈ ns)) c), I.laid (t' := tk) left.2.2 (Nat.le_refl _) (setO_new left.1), rfl, q _ c hn left.2.1⟩
end
end L2
namespace L2
open PySem PySem.Spec PyProof.Rows HT
section
variable {prog : Program} {w : World} {A : Around} {E : Value → Shared → Prop} {s : Shared}
theorem places_back (n : Nat) : Builtin.Slice.slicePlaces ((n : Int) - 1) (-1) (-1) = n := by
  unfold Builtin.Slice.slicePlaces
  simp only [show ¬ ((-1 : Int) > 0) by decide, if_false, show (-(-1) : Int) = 1 by decide, Int.ediv_one]
  split <;> omega
theorem applied_back {sl : Addr} {vs : Value} {n : Nat} {Q : Int × Int × Nat → Shared → Prop} (hs : s.heap.IsSliceOf sl .none .none vs) (ps : IsPart vs (some (-1))) (h : Q ((n : Int) - 1, -1, n) s) :
    wpAny (model prog w) A (Builtin.Slice.sliceApplied (.ref sl) (pure (n : Int))) Q E s := by
  have ⟨o, at1, _, data⟩ := hs
  unfold Builtin.Slice.sliceApplied Builtin.Slice.sliceFields
  apply wpAny_bind
  apply wpAny_bind
  refine wpAny_field at1 data (x := .none) rfl (wpAny_bind ?_)
  refine wpAny_field at1 data (x := .none) rfl (wpAny_bind ?_)
  refine wpAny_field at1 data (x := vs) rfl (wpAny_pure ?_)
  apply wpAny_bind
  refine slicePart_ ps ?_
  show wpAny _ _ (if ((-1 : Int) == 0) = true then _ else _) _ _ s
  rw [if_neg (by decide)]
  refine wpAny_bind (slicePart_none (wpAny_bind (slicePart_none (wpAny_bind (wpAny_pure ?_)))))
  show wpAny _ _ (pure ((n : Int) - 1, (-1 : Int), Builtin.Slice.slicePlaces ((n : Int) - 1) (-1) (-1))) _ _ s
  rw [places_back]
  exact wpAny_pure h
theorem pick_back (xs : Array Value) : ((List.range xs.size).filterMap fun (m : Nat) => xs[((xs.size : Int) - 1 + (m : Int) * -1).toNat]?).toArray = xs.toList.reverse.toArray := by
  have e : ∀ l : List Nat, (∀ m ∈ l, m < xs.size) → (l.filterMap fun (m : Nat) => xs[((xs.size : Int) - 1 + (m : Int) * -1).toNat]?) = (l.map fun k => xs.size - 1 - k).filterMap (xs[·]?) := by
    intro l
    induction l with
    | nil => intro _; rfl
    | cons m l ih =>
      intro hl
      have hm := hl m List.mem_cons_self
      have hp : ((xs.size : Int) - 1 + (m : Int) * -1).toNat = xs.size - 1 - m := by omega
      rw [List.map_cons, List.filterMap_cons, List.filterMap_cons, ih fun k hk => hl k (List.mem_cons_of_mem _ hk), hp]
  rw [e _ (fun m hm => List.mem_range.mp hm), PySem.W.krv_range, List.filterMap_reverse, PySem.W.krv_all]
theorem item_back {t sl : Addr} {items : Array Value} {vs : Value} {Q : Value → Shared → Prop} (ht : IsTup s.heap t items) (hs : s.heap.IsSliceOf sl .none .none vs) (ps : IsPart vs (some (-1)))
    (h : Q (.ref s.heap.objs.size) { s with heap := s.heap.push { cls := .type "tuple", data := .seq items.toList.reverse.toArray } }) (hsz : items.size ≤ sizeLine) : wpAny (model prog w) A (getItem (.ref t) (.ref sl)) Q E s := by
  have ⟨o, at1, cls, data⟩ := hs
  have room : sizeOk (.seq items.toList.reverse.toArray) := by
    show items.toList.reverse.toArray.size ≤ sizeLine
    simpa using hsz
  have isS : s.TypeIs (.ref sl) "slice" := Exists.intro o (And.intro at1 cls)
  unfold getItem
  try (with_reducible refine wpAny_holding ?_)
  first | (refine wpAny_bind (wpAny_pure ?_)) | skip
  refine wpAny_bind (wpAny_sequenceKey ht.typeIs (by decide) (wpAny_bind ?_))
  refine wpAny_callSpecial?_slot (name := Str.ofString "__getitem__") ht.typeIs PyProof.Rows.slot_tuple_getitem (wpAny_call_entry PyProof.Rows.slot_tuple_getitem ht.typeIs entry_tuple_getitem ?body (args_tuple_getitem _ _))
  show wpAny _ _ (Builtin.Tuple.tupleItemsOf (.ref t) >>= _) _ _ s
  apply wpAny_bind
  refine tupleItemsOf_ ht (wpAny_bind (wpAny_typeOf isS ?_))
  rw [if_pos (by decide)]
  refine wpAny_bind (applied_back hs ps ?_)
  show wpAny _ _ (if (((items.size : Int) - 1) == 0 && (-1 : Int) == 1 && items.size == items.size) = true then _ else _) _ _ s
  rw [if_neg (by simp), pick_back]
  first
    | exact wpAny_bind (m := Builtin.Tuple.tupleExact _) (wpAny_newObj_type (wpAny_pure ⟨_, rfl, wpAny_pure h⟩) room)
    | exact wpAny_bind (m := Builtin.Tuple.tupleExact _) (wpAny_newObj_type (wpAny_bind (wpAny_pure (wpAny_pure ⟨_, rfl, wpAny_pure h⟩))) room)
    | exact wpAny_bind (wpAny_bind (m := Builtin.Tuple.tupleExact _) (wpAny_newObj_type (wpAny_pure (wpAny_pure ⟨_, rfl, wpAny_pure h⟩)) room))
    | exact wpAny_bind (wpAny_bind (m := Builtin.Tuple.tupleExact _) (wpAny_newObj_type (wpAny_pure ⟨_, rfl, wpAny_pure h⟩) room))
end
section
variable {X : Cx}
def tRevA (K : PySem.W.Frag) (te : TE) : TE := fun σ H Q => te σ H fun x H1 => ∃ a xs, x = .ref a ∧ ((SqL K H1 a xs ∧ ∀ p, H1 p = none → Q (.ref p) (upd H1 p (.lst xs.reverse))) ∨ (SqT K H1 a xs ∧ ∀ p, H1 p = none → Q (.ref p) (upd H1 p (.tup xs.reverse))))
theorem pe_revA {e : Expr} {te : TE} {k : Nat} {p1 p2 p3 pos : Pos} (he : PE X e te) : PE X (.Subscript e (.Slice none none (some (.UnaryOp .USub (.Constant (.int 1) k p1) p2)) p3) pos) (tRevA X.K te) := by
  refine ⟨fun pins s σ H Q I h => Subscript_ (thn (he.run pins s σ H _ I h) fun v s1 ⟨x, H1, I1, r1, a, xs, ex, q⟩ => ?_)⟩
  subst ex
  cases r1
  have step : PO X (some (.UnaryOp .USub (.Constant (.int 1) k p1) p2)) (tPart (tUn (rU fun i => .int (-i)) (tC (.int 1)))) := po_some (pe_un un_neg pe_int)
  refine wpAny_Slice (thn (po_none.run pins s1 σ H1 (fun o H2 => o = none ∧ H2 = H1) I1 ⟨rfl, rfl⟩) ?_)
  rintro vl s2 ⟨_, _, I2, pl, rfl, rfl⟩
  refine thn (po_none.run pins s2 σ _ (fun o H3 => o = none ∧ H3 = _) I2 ⟨rfl, rfl⟩) ?_
  rintro vu s3 ⟨_, _, I3, pu, rfl, rfl⟩
  refine thn (step.run pins s3 σ _ (fun o H4 => o = some (-1) ∧ H4 = _) I3 ⟨1, rfl, -1, rfl, rfl, rfl⟩) ?_
  rintro vs s4 ⟨_, _, I4, ps, rfl, rfl⟩
  cases pl
  cases pu
  have I5 := I4.kept (t' := s4.toks) (h' := s4.heap.push { cls := .type "slice", data := .fields #[.none, .none, vs] }) fun b ob q => Heap.get?_push_of_some _ q
  have isl := Heap.IsSliceOf.new s4.heap .none .none vs
  rcases q with ⟨hx, q⟩ | ⟨hx, q⟩
  · obtain ⟨its, r, ht, hz⟩ := I5.list hx
    have len := r.length
    apply tail_any (ops := [.ref a, .ref s4.heap.objs.size]) ht.isList.typeIs (PySem.slot_list_getitem.lookup) ?_ (by with_unfolding_all rfl)
    refine wpAny_getItem_list_slice ht.isList isl .none .none ps (by decide) ?_ (by rw [List.size_toArray]; omega)
    rw [PySem.W.krv_pick]
    refine ⟨.ref _, _, I5.laid (t' := s4.toks) (o := .lst xs.reverse) (fun b ob q => Heap.get?_push_of_some _ q) (Nat.le_refl _) ?_, rfl, q _ (I5.hok.fresh (Nat.le_refl _))⟩
    exact And.intro (by rw [List.length_reverse]; exact hz) ⟨_, 0, r.reverse, Heap.get?_push_size _ rfl⟩
  · obtain ⟨its, r, ht, hz⟩ := I5.tuple hx
    have len := r.length
    apply tail_any (ops := [.ref a, .ref s4.heap.objs.size]) ht.typeIs (PyProof.Rows.slot_tuple_getitem.lookup) ?_ (by with_unfolding_all rfl)
    refine item_back ht isl ps ?_ (by rw [List.size_toArray]; omega)
    refine ⟨.ref _, _, I5.laid (t' := s4.toks) (o := .tup xs.reverse) (fun b ob q => Heap.get?_push_of_some _ q) (Nat.le_refl _) ?_, rfl, q _ (I5.hok.fresh (Nat.le_refl _))⟩
    exact And.intro (by rw [List.length_reverse]; exact hz) ⟨_, r.reverse, IsTup.new _ _⟩
end
end L2
namespace L3
open PySem PySem.Spec PyProof.Rows L2 LamX
section
variable {X : Cx} {W : Wsh}
def setSM (d : PV) : M (List PV) := lstM d >>= intsM >>= fun ns => fun Q _ => ns.length < 64 ∧ ∀ ms : List Int, ms.Pairwise (· < ·) → (∀ k, k ∈ ms ↔ k ∈ ns) → Q (ms.map PV.int)
theorem pf_sortSet {e : Expr} {te : PTE} {p p2 pos pos2 : Pos} (hc : X.calm = true) (g1 : Gl X "sorted") (z1 : X.mg "sorted" = none) (g2 : Gl X "set") (z2 : X.mg "set" = none) (he : PPR X W e te)
    (h1 : starEach [e] X.env = (false, eval e X.env) :: starEach [] X.env := by rfl) (h2 : (backTo pos2 (starEach [] X.env)).any (·.1) = false := by rfl)
    (h3 : starEach [Expr.Call (.Name "set" p2) [e] [] pos2] X.env = (false, eval (Expr.Call (.Name "set" p2) [e] [] pos2) X.env) :: starEach [] X.env := by rfl) (h4 : (backTo pos (starEach [] X.env)).any (·.1) = false := by rfl) :
    PF X W (.Call (.Name "sorted" p) [.Call (.Name "set" p2) [e] [] pos2] [] pos) (fun ρ => te ρ >>= setSM) :=
  PE.imp (pe_callB (cr_sortedSet hc) g1 z1 (by decide +kernel) (pa_cons (pe_callTy (cr_setLI hc) g2 z2 (by decide +kernel) (pa_cons he pa_nil h1) (by decide) (by decide) h1 h2) pa_nil h3) (by decide) (by decide) h3 h4) fun σ H Q ⟨c, F, ρ, Qp, R, E, t, k, rs⟩ => by
    refine ⟨c, F, ρ, _, R, E, t, fun d q v H' F' E' s r => ?_, rs⟩
    have r1 := r _ _ _ E' (Same.refl _)
    obtain ⟨ds, hd, ns, rfl, q1, q2⟩ := lstM_inv q
    obtain ⟨a, xs, rfl, h, ha, h2⟩ := r1.seq (ds := ns.map PV.int) (by rcases hd with e | e; exact .inl e; exact .inr (.inr e)) E'.sub
    have h3 : SqL X.K H' a xs := h2 (by rcases hd with e | e <;> (rw [e]; exact fun z => nomatch z))
    obtain rfl := rpAll_ints ha
    refine ⟨a, ns, rfl, h3, by omega, fun p c hp hc => ?_⟩
    have E2 := E'.allocH (o := SetO X.w p (fun j => decide (j ∈ ns)) c) hp
    refine ⟨p, _, c, rfl, upd_same, by omega, fun ms p2 h1 hm hl hp2 => ?_⟩
    exact (FQ.mono k s).new (q2 ms h1 fun k => (hm k).trans (by simp)) E2 (rpAll_int _) hp2
def revM (d : PV) : M PV := match d with
  | .tup xs => pure (.tup xs.reverse)
  | .lst xs => pure (.lst xs.reverse)
  | _ => failM
theorem RpAll.rev {K : PySem.W.Frag} {mg : Str → Option Value} {F : Hp} : ∀ {vs : List V} {ds : List PV}, RpAll K mg F vs ds → RpAll K mg F vs.reverse ds.reverse
  | _, _, .nil => .nil
  | _, _, .cons h t => by
    rw [List.reverse_cons, List.reverse_cons]
    exact (RpAll.rev t).append (.cons h .nil)
theorem pp_rev {e : Expr} {te : PTE} {k : Nat} {p1 p2 p3 pos : Pos} (he : PPR X W e te) : PPE X W (.Subscript e (.Slice none none (some (.UnaryOp .USub (.Constant (.int 1) k p1) p2)) p3) pos) (fun ρ => te ρ >>= revM) :=
  PE.imp (pe_revA he) fun σ H Q ⟨c, F, ρ, Qp, R, E, t, k, rs⟩ => by
    refine ⟨c, F, ρ, _, R, E, t, fun d q v H' F' E' s r => ?_, rs⟩
    have r1 := r _ _ _ E' (Same.refl _)
    cases d with
    | tup ds =>
      obtain ⟨a, xs, rfl, h, ha⟩ := r1.tup
      exact ⟨a, xs, rfl, .inr ⟨sqT_same E'.sub h, fun p hp => (EQ.mono k s).tup q E' ha.rev hp⟩⟩
    | lst ds =>
      obtain ⟨a, xs, rfl, h, ha⟩ := r1.lst E'.sub
      exact ⟨a, xs, rfl, .inl ⟨SqL.of h, fun p hp => (EQ.mono k s).lst q E' ha.rev hp⟩⟩
    | _ => exact q.elim
theorem pp_dict0 {pos : Pos} : PPE X W (.Dict [] [] pos) (fun _ => pure .dic) := PE.imp pe_dnewK fun σ H Q ⟨c, F, ρ, Qp, R, E, t, k, rs⟩ => fun p hp =>
  k _ t _ _ _ (E.alloc hp (fun _ z => nomatch z)) (same_new (E.noF hp)) (.dic upd_same)
def stM (i : Nat) (ti : PTE) : PTG := fun d ρ => ownM ρ i >>= fun ds => calmM (ti ρ) >>= fun e => match e with
  | .int j => fun Q _ => ∃ n, (ixN ds.length j = some n ∧ i < ρ.length) ∧ Q (ρ.set i (some (.own (ds.set n d))))
  | _ => failM
theorem pe_exW {e : Expr} {ti : PTE} (h : ∀ W, PPR X W e ti) : PE X e (fun σ H Q => ∃ W, tR X W ti σ H Q) := ⟨fun pins s σ H Q I ⟨W, q⟩ => (h W).run pins s σ H Q I q⟩
theorem ppg_store {o ie : Expr} {i : Nat} {ti : PTE} {pt : Pos} (ho : PE X o (tVar i)) (hi : ∀ W, PPR X W ie ti)
    (ha : ∀ v, assign (.Subscript o ie pt) X.env v = (do
      let ov ← holding [v] (eval o X.env)
      let iv ← holding [v, ov] (eval ie X.env)
      standAt pt
      holding [v, ov, iv] (setItem ov iv v)
      release [v, ov, iv] []) := by intro _; rfl) : PPG X (.Subscript o ie pt) [i] (stM i ti) :=
  PG.imp (pg_sub ho (pe_exW hi) set_list ha) fun v σ H Q ⟨c, F, ρ, d, Qp, R, E, r, q, k⟩ => by
    obtain ⟨ds, h0, q⟩ := ownM_inv q
    obtain ⟨a, vs0, h1, h2, h3⟩ := E.own h0
    refine ⟨_, h1, ⟨fun _ _ _ _ => False, c.T, false⟩, c, F, ρ, _, noR, E, q, fun d2 q2 v2 H2 F2 E2 s2 r2 => ?_, ⟨rfl, (fun z => nomatch z), fun _ _ h => h.elim⟩⟩
    have r2 := r2 _ _ _ E2 (Same.refl _)
    obtain ⟨a', vs, g1, g2, g3⟩ := E2.own h0
    rw [h1] at g1
    obtain h := Option.some.inj (Option.some.inj g1)
    injection h with h
    subst h
    cases d2 with
    | int j =>
      obtain rfl := r2.int
      obtain ⟨n, ⟨q3, q4⟩, q5⟩ := q2
      refine ⟨a, vs, j, n, rfl, rfl, g2, by rw [g3.length]; exact q3, ?_⟩
      exact k _ q5 (fun V hV => wipeR_set (hV i (by simp))) σ _ F2 (E2.setOwn h0 h1 (g3.set n (r.same s2))) s2 fun _ _ => rfl
    | _ => exact q2.elim
def strM (ds : List PV) : M PV := oneM ds >>= fun d => match d with
  | .int i => fun Q _ => i.natAbs.log2 < 1920 ∧ Q (.str (toString i))
  | .str x => pure (.str x)
  | _ => failM
def rStrA : List V → Hp → VK → Prop := fun xs H Q => (∃ i, xs = [.int i] ∧ i.natAbs.log2 < 1920 ∧ Q (.str (toString i)) H) ∨ ∃ a, xs = [.str a] ∧ Q (.str a) H
theorem call_strA : CallR X (.type "str") rStrA := call_alt call_str_int SkE.call_str_str
theorem strS : CallS X W rStrA strM := by
  intro c F H σ ρ ds vs Qp R Q E r g k rs
  obtain ⟨d, rfl, g⟩ := oneM_inv g
  obtain ⟨v, rfl, r1⟩ := r.one
  cases d with
  | int i => obtain rfl := r1.int; exact .inl ⟨_, rfl, g.1, k.here g.2 E (.str _)⟩
  | str i => obtain rfl := r1.str; exact .inr ⟨_, rfl, k.here g E (.str _)⟩
  | _ => exact g.elim
theorem pss_never {b : List Stmt} : PPSs X W b (fun _ => failM) := ⟨fun pins s σ H D I ⟨_, _, _, _, _, _, t, _⟩ => t.elim⟩
theorem pp_never {e : Expr} : PPE X W e (fun _ => failM) := ⟨fun pins s σ H D I ⟨_, _, _, _, _, _, t, _⟩ => t.elim⟩
end
end L3
namespace L3
open PySem PySem.Spec PyProof.Rows L2 LamX
section
variable {α β : Type} {R : RS} {ρ : Rho} {i : Nat}
theorem bind_run {m : M α} {f : α → M β} {Q : β → Prop} : (m >>= f) Q R = m (fun x => f x Q R) R := propext Iff.rfl
theorem pure_run {x : α} {Q : α → Prop} : (pure x : M α) Q R = Q x := propext Iff.rfl
theorem fail_run {Q : α → Prop} : (failM : M α) Q R = False := propext Iff.rfl
theorem op2_run {g : PV → PV → M PV} {a b : M PV} {Q : PV → Prop} : op2 g a b Q R = a (fun x => b (fun y => g x y Q R) R) R := propext Iff.rfl
theorem op2F_run {g : PV → PV → M (List PV)} {a b : M PV} {Q : List PV → Prop} : op2F g a b Q R = a (fun x => b (fun y => g x y Q R) R) R := propext Iff.rfl
theorem xOf_run {a : M PV} {Q : PV × Rho → Prop} : xOf ρ a Q R = a (fun d => Q (d, ρ)) R := propext Iff.rfl
theorem setX_run {te : M (PV × Rho)} {Q : Fl → Prop} : setX i te Q R = te (fun p => i < p.2.length ∧ Q (.nx (p.2.set i (some (.val p.1))))) R := propext Iff.rfl
theorem setO_run {te : M (List PV)} {Q : Fl → Prop} : setO i te ρ Q R = te (fun ds => i < ρ.length ∧ Q (.nx (ρ.set i (some (.own ds))))) R := propext Iff.rfl
theorem setL_run {te : M (List PV)} {Q : Fl → Prop} : setL i te ρ Q R = te (fun ds => i < ρ.length ∧ Q (.nx (ρ.set i (some (.val (.lst ds)))))) R := propext Iff.rfl
theorem seqX_run {a : M Fl} {b : PTS} {Q : Fl → Prop} : seqX a b Q R = a (fun f => andThen f b Q R) R := propext Iff.rfl
theorem then_nx {b : PTS} {Q : Fl → Prop} : andThen (.nx ρ) b Q R = b ρ Q R := propext Iff.rfl
theorem then_rt {b : PTS} {d : PV} {Q : Fl → Prop} : andThen (.rt d) b Q R = Q (.rt d) := propext Iff.rfl
theorem then_bk {b : PTS} {Q : Fl → Prop} : andThen (.bk ρ) b Q R = Q (.bk ρ) := propext Iff.rfl
theorem then_ct {b : PTS} {Q : Fl → Prop} : andThen (.ct ρ) b Q R = Q (.ct ρ) := propext Iff.rfl
theorem ifX_run {c : M Bool} {a b : M α} {Q : α → Prop} : ifX c a b Q R = c (fun k => if k = true then a Q R else b Q R) R := by
  show c (fun k => (if k = true then a else b) Q R) R = _
  congr 1
  funext k
  cases k <;> rfl
theorem rd_val {d : PV} {Q : PV → Prop} (h : ρ[i]? = some (some (.val d))) : rdM ρ i Q R = Q d := by unfold rdM; rw [h]; rfl
theorem rd_own {ds : List PV} {Q : PV → Prop} (h : ρ[i]? = some (some (.own ds))) : rdM ρ i Q R = Q (.lst ds) := by unfold rdM; rw [h]; rfl
theorem var_val {d : PV} {Q : PV → Prop} (h : ρ[i]? = some (some (.val d))) : varM ρ i Q R = Q d := by unfold varM; rw [h]; rfl
theorem own_own {ds : List PV} {Q : List PV → Prop} (h : ρ[i]? = some (some (.own ds))) : ownM ρ i Q R = Q ds := by unfold ownM; rw [h]; rfl
theorem deal_deal {Q : Unit → Prop} (h : ρ[i]? = some (some .deal)) : dealM ρ i Q R = Q () := by unfold dealM; rw [h]; rfl
def rdQ : Option (Option Sl) → (PV → Prop) → Prop
  | some (some (.val d)), Q => Q d
  | some (some (.own ds)), Q => Q (.lst ds)
  | _, _ => False
def varQ : Option (Option Sl) → (PV → Prop) → Prop
  | some (some (.val d)), Q => Q d
  | _, _ => False
def ownQ : Option (Option Sl) → (List PV → Prop) → Prop
  | some (some (.own ds)), Q => Q ds
  | _, _ => False
def dealQ : Option (Option Sl) → (Unit → Prop) → Prop
  | some (some .deal), Q => Q ()
  | _, _ => False
theorem rd_run {Q : PV → Prop} : rdM ρ i Q R = rdQ ρ[i]? Q := by
  unfold rdM
  match ρ[i]? with
  | some (some (.val d)) => rfl
  | some (some (.own ds)) => rfl
  | some (some .deal) => rfl
  | some none => rfl
  | none => rfl
theorem var_run {Q : PV → Prop} : varM ρ i Q R = varQ ρ[i]? Q := by
  unfold varM
  match ρ[i]? with
  | some (some (.val d)) => rfl
  | some (some (.own ds)) => rfl
  | some (some .deal) => rfl
  | some none => rfl
  | none => rfl
theorem own_run {Q : List PV → Prop} : ownM ρ i Q R = ownQ ρ[i]? Q := by
  unfold ownM
  match ρ[i]? with
  | some (some (.val d)) => rfl
  | some (some (.own ds)) => rfl
  | some (some .deal) => rfl
  | some none => rfl
  | none => rfl
theorem deal_run {Q : Unit → Prop} : dealM ρ i Q R = dealQ ρ[i]? Q := by
  unfold dealM
  match ρ[i]? with
  | some (some (.val d)) => rfl
  | some (some (.own ds)) => rfl
  | some (some .deal) => rfl
  | some none => rfl
  | none => rfl
theorem rdQ_val {d : PV} {Q : PV → Prop} : rdQ (some (some (.val d))) Q = Q d := propext Iff.rfl
theorem rdQ_own {d : List PV} {Q : PV → Prop} : rdQ (some (some (.own d))) Q = Q (.lst d) := propext Iff.rfl
theorem varQ_val {d : PV} {Q : PV → Prop} : varQ (some (some (.val d))) Q = Q d := propext Iff.rfl
theorem ownQ_own {d : List PV} {Q : List PV → Prop} : ownQ (some (some (.own d))) Q = Q d := propext Iff.rfl
theorem dealQ_deal {Q : Unit → Prop} : dealQ (some (some .deal)) Q = Q () := propext Iff.rfl
theorem frz_run {Q : Fl → Prop} {ts : PTS} : frzX i ts ρ Q R = (match ρ[i]? with | some (some (.own ds)) => ts (ρ.set i (some (.val (.lst ds)))) Q R | _ => ts ρ Q R) := by
  show frzM ρ i (fun ρ => ts ρ Q R) R = _
  unfold frzM
  match ρ[i]? with
  | some (some (.val d)) => rfl
  | some (some (.own ds)) => rfl
  | some (some .deal) => rfl
  | some none => rfl
  | none => rfl
theorem forX_run {g : PTG} {tb : PTS} {ti : Rho → M (List PV)} {Q : Fl → Prop} : forX g tb ti ρ Q R = ti ρ (fun ds => forP g tb ds ρ Q R) R := propext Iff.rfl
theorem gN_run {d : PV} {Q : Rho → Prop} : gN i d ρ Q R = (i < ρ.length ∧ Q (ρ.set i (some (.val d)))) := propext Iff.rfl
theorem seq_lst {ds : List PV} {Q : List PV → Prop} : seqM (.lst ds) Q R = Q ds := propext Iff.rfl
theorem seq_tup {ds : List PV} {Q : List PV → Prop} : seqM (.tup ds) Q R = Q ds := propext Iff.rfl
theorem lst_lst {ds : List PV} {Q : List PV → Prop} : lstM (.lst ds) Q R = Q ds := propext Iff.rfl
theorem one_one {d : PV} {Q : PV → Prop} : oneM [d] Q R = Q d := propext Iff.rfl
theorem two_two {d e : PV} {Q : PV × PV → Prop} : twoM [d, e] Q R = Q (d, e) := propext Iff.rfl
theorem retX_run {te : M PV} {Q : Fl → Prop} : retX te Q R = te (fun d => Q (.rt d)) R := propext Iff.rfl
theorem retO_run {Q : Fl → Prop} : retO ρ i Q R = ownM ρ i (fun ds => Q (.rt (.lst ds))) R := propext Iff.rfl
theorem exprX_run {te : M (PV × Rho)} {Q : Fl → Prop} : exprX te Q R = te (fun p => Q (.nx p.2)) R := propext Iff.rfl
theorem parX_run {is : List Nat} {t : M (List Sl)} {Q : Fl → Prop} : parX is t ρ Q R = t (fun ss => (is.length = ss.length ∧ ∀ i ∈ is, i < ρ.length) ∧ Q (.nx (setS ρ is ss))) R := propext Iff.rfl
theorem parNX_run {is : List Nat} {t : M (List Sl)} {Q : Fl → Prop} : parNX is t ρ Q R = t (fun ss => ss.length ≤ sizeLine ∧ (is.length = ss.length ∧ ∀ i ∈ is, i < ρ.length) ∧ Q (.nx (setS ρ is ss))) R := propext Iff.rfl
theorem andB_run {a b : M Bool} {Q : Bool → Prop} : andB a b Q R = a (fun k => if k = true then b Q R else Q false) R := by
  show a (fun k => (if k = true then b else pure false) Q R) R = _
  congr 1
  funext k
  cases k <;> rfl
theorem orB_run {a b : M Bool} {Q : Bool → Prop} : orB a b Q R = a (fun k => if k = true then Q true else b Q R) R := by
  show a (fun k => (if k = true then pure true else b) Q R) R = _
  congr 1
  funext k
  cases k <;> rfl
theorem notB_run {a : M Bool} {Q : Bool → Prop} : notB a Q R = a (fun k => Q (!k)) R := propext Iff.rfl
theorem andV_run {a b : M PV} {Q : PV → Prop} : andV a b Q R = a (fun d => asB d (fun k => if k = true then b Q R else Q (.bl false)) R) R := by
  show a (fun d => asB d (fun k => (if k = true then b else pure (.bl false)) Q R) R) R = _
  congr 1
  funext d
  congr 1
  funext k
  cases k <;> rfl
theorem orV_run {a b : M PV} {Q : PV → Prop} : orV a b Q R = a (fun d => asB d (fun k => if k = true then Q (.bl true) else b Q R) R) R := by
  show a (fun d => asB d (fun k => (if k = true then pure (.bl true) else b) Q R) R) R = _
  congr 1
  funext d
  congr 1
  funext k
  cases k <;> rfl
theorem notV_run {a : M PV} {Q : PV → Prop} : notV a Q R = a (fun d => asB d (fun k => Q (.bl (!k))) R) R := propext Iff.rfl
theorem asB_run {b : Bool} {Q : Bool → Prop} : asB (.bl b) Q R = Q b := propext Iff.rfl
theorem asI_run {j : Int} {Q : Int → Prop} : asI (.int j) Q R = Q j := propext Iff.rfl
theorem tr_int {j : Int} {Q : Bool → Prop} : trM (.int j) Q R = Q (j != 0) := propext Iff.rfl
theorem tupX_run {a : M (List PV)} {Q : PV → Prop} : tupX a Q R = a (fun xs => xs.length ≤ sizeLine ∧ Q (.tup xs)) R := propext Iff.rfl
theorem fit_run {xs : List PV} {Q : List PV → Prop} : fitM xs Q R = (xs.length ≤ sizeLine ∧ Q xs) := propext Iff.rfl
theorem lstX_run {a : M (List PV)} {Q : PV → Prop} : lstX a Q R = a (fun xs => Q (.lst xs)) R := propext Iff.rfl
theorem negX_run {a : M PV} {Q : PV → Prop} : negX a Q R = a (fun d => (match d with | .int i => pure (.int (-i)) | _ => failM : M PV) Q R) R := propext Iff.rfl
theorem vCons_run {a : M PV} {r : M (List PV)} {Q : List PV → Prop} : vCons a r Q R = a (fun x => r (fun xs => Q (x :: xs)) R) R := propext Iff.rfl
theorem vNil_run {Q : List PV → Prop} : vNil Q R = Q [] := propext Iff.rfl
theorem aVal_run {a : M PV} {r : M (List Sl)} {Q : List Sl → Prop} : aVal a r Q R = a (fun x => r (fun xs => Q (.val x :: xs)) R) R := propext Iff.rfl
theorem aOwn_run {a : M (List PV)} {r : M (List Sl)} {Q : List Sl → Prop} : aOwn a r Q R = a (fun x => r (fun xs => Q (.own x :: xs)) R) R := propext Iff.rfl
theorem aDeal_run {r : M (List Sl)} {Q : List Sl → Prop} : aDeal ρ i r Q R = dealM ρ i (fun _ => r (fun xs => Q (.deal :: xs)) R) R := propext Iff.rfl
theorem aNil_run {Q : List Sl → Prop} : aNil Q R = Q [] := propext Iff.rfl
theorem callM_run {n : Nat} {pp : PProm} {a : M (List Sl)} {Q : PV → Prop} : callM n pp a Q R = a (fun ss => ss.length = n ∧ pp ss Q R) R := propext Iff.rfl
theorem sub_run {i j : Int} {Q : PV → Prop} : subM (.int i) (.int j) Q R = Q (.int (i - j)) := propext Iff.rfl
theorem add_run {i j : Int} {Q : PV → Prop} : addM (.int i) (.int j) Q R = Q (.int (i + j)) := propext Iff.rfl
theorem mul_run {i j : Int} {Q : PV → Prop} : mulM (.int i) (.int j) Q R = (Wid i ∧ Wid j ∧ Q (.int (i * j))) := propext Iff.rfl
theorem div_run {i j : Int} {Q : PV → Prop} : divM (.int i) (.int j) Q R = ((0 < j ∧ Wid j) ∧ Q (.int (i / j))) := propext Iff.rfl
theorem mod_run {i j : Int} {Q : PV → Prop} : modM (.int i) (.int j) Q R = (0 < j ∧ Q (.int (i % j))) := propext Iff.rfl
theorem shr_run {i j : Int} {Q : PV → Prop} : shrM (.int i) (.int j) Q R = (0 ≤ j ∧ Q (.int (i / 2 ^ j.toNat))) := propext Iff.rfl
theorem bit_run {f : Int → Int → Int} {i j : Int} {Q : PV → Prop} : bitM f (.int i) (.int j) Q R = Q (.int (f i j)) := propext Iff.rfl
theorem cmp_run {p : Int → Int → Bool} {i j : Int} {Q : PV → Prop} : cmpM p (.int i) (.int j) Q R = Q (.bl (p i j)) := propext Iff.rfl
theorem pdef_run {N : List Str} {ts : PTS} {ss : List Sl} {Q : PV → Prop} : pdef N ts ss Q R = ts (ss.map some ++ List.replicate (N.length - ss.length) none) (fun f => endM f Q R) R := propext Iff.rfl
theorem end_rt {d : PV} {Q : PV → Prop} : endM (.rt d) Q R = Q d := propext Iff.rfl
theorem end_nx {Q : PV → Prop} : endM (.nx ρ) Q R = Q .non := propext Iff.rfl
theorem setS_nil : setS ρ [] [] = ρ := rfl
theorem setS_cons {j : Nat} {js : List Nat} {x : Sl} {xs : List Sl} : setS ρ (j :: js) (x :: xs) = (setS ρ js xs).set j (some x) := rfl
theorem frz_own {ds : List PV} {Q : Fl → Prop} {ts : PTS} (h : ρ[i]? = some (some (.own ds))) : frzX i ts ρ Q R = ts (ρ.set i (some (.val (.lst ds)))) Q R := by
  show frzM ρ i (fun ρ => ts ρ Q R) R = _
  unfold frzM
  rw [h]
  rfl
theorem appM_run {te : Rho → M (PV × Rho)} {Q : PV × Rho → Prop} : appM i te ρ Q R = ownM ρ i (fun _ => te ρ (fun p => ownM p.2 i (fun ds => (ds.length < sizeLine ∧ i < p.2.length) ∧ Q (.non, p.2.set i (some (.own (ds ++ [p.1]))))) R) R) R := propext Iff.rfl
theorem whileP_go {c : Rho → M Bool} {body : PTS} {Q : Fl → Prop} (I : Nat → Rho → Prop) (n : Nat) (h0 : I n ρ)
    (step : ∀ m ρ, I m ρ → ∀ K : Rho → Prop, (∀ m' ρ', m' < m → I m' ρ' → K ρ') → c ρ (fun b => if b = true then body ρ (fun f => (match f with | .nx ρ' => K ρ' | .ct ρ' => K ρ' | .bk ρ' => Q (.nx ρ') | .rt d => Q (.rt d))) R else Q (.nx ρ)) R) : whileP c body ρ Q R := by
  have go : ∀ k m ρ, m < k → I m ρ → whileN c body k ρ Q R := by
    intro k
    induction k with
    | zero => intro m ρ h; omega
    | succ k ih =>
      intro m ρ hm hi
      have h := step m ρ hi (fun ρ' => whileN c body k ρ' Q R) fun m' ρ' h1 h2 => ih m' ρ' (by omega) h2
      show c ρ (fun b => (if b = true then body ρ >>= fun f => (match f with | .nx ρ' => whileN c body k ρ' | .ct ρ' => whileN c body k ρ' | .bk ρ' => pure (.nx ρ') | .rt d => pure (.rt d)) else pure (.nx ρ) : M Fl) Q R) R
      have e : (fun b => (if b = true then body ρ >>= fun f => (match f with | .nx ρ' => whileN c body k ρ' | .ct ρ' => whileN c body k ρ' | .bk ρ' => pure (.nx ρ') | .rt d => pure (.rt d)) else pure (.nx ρ) : M Fl) Q R) = (fun b => if b = true then body ρ (fun f => (match f with | .nx ρ' => whileN c body k ρ' Q R | .ct ρ' => whileN c body k ρ' Q R | .bk ρ' => Q (.nx ρ') | .rt d => Q (.rt d))) R else Q (.nx ρ)) := by
        funext b
        cases b with
        | false => rfl
        | true =>
          show body ρ (fun f => (match f with | .nx ρ' => whileN c body k ρ' | .ct ρ' => whileN c body k ρ' | .bk ρ' => pure (.nx ρ') | .rt d => pure (.rt d) : M Fl) Q R) R = body ρ _ R
          congr 1
          funext f
          cases f <;> rfl
      rw [e]
      exact h
  exact ⟨n + 1, go (n + 1) n ρ (Nat.lt_succ_self n) h0⟩
theorem forP_go {g : PTG} {body : PTS} {ds : List PV} {Q : Fl → Prop} (I : Nat → Rho → Prop) (h0 : I 0 ρ)
    (step : ∀ i d ρ, ds[i]? = some d → I i ρ → ∀ K : Rho → Prop, (∀ ρ', I (i + 1) ρ' → K ρ') → g d ρ (fun ρ2 => body ρ2 (fun f => (match f with | .nx ρ' => K ρ' | .ct ρ' => K ρ' | .bk ρ' => Q (.nx ρ') | .rt d => Q (.rt d))) R) R)
    (done : ∀ ρ, I ds.length ρ → Q (.nx ρ)) : forP g body ds ρ Q R := by
  have go : ∀ k i ρ, i + k = ds.length → I i ρ → forP g body (ds.drop i) ρ Q R := by
    intro k
    induction k with
    | zero =>
      intro i ρ hi h
      rw [List.drop_of_length_le (by omega)]
      have e : i = ds.length := by omega
      exact done ρ (e ▸ h)
    | succ k ih =>
      intro i ρ hi h
      have hlt : i < ds.length := by omega
      rw [List.drop_eq_getElem_cons hlt]
      have h := step i ds[i] ρ (List.getElem?_eq_getElem hlt) h (fun ρ' => forP g body (ds.drop (i + 1)) ρ' Q R) fun ρ' h2 => ih (i + 1) ρ' (by omega) h2
      show g ds[i] ρ (fun ρ2 => body ρ2 (fun f => (match f with | .nx ρ' => forP g body (ds.drop (i + 1)) ρ' | .ct ρ' => forP g body (ds.drop (i + 1)) ρ' | .bk ρ' => pure (.nx ρ') | .rt d => pure (.rt d) : M Fl) Q R) R) R
      have e : (fun f : Fl => (match f with | .nx ρ' => forP g body (ds.drop (i + 1)) ρ' | .ct ρ' => forP g body (ds.drop (i + 1)) ρ' | .bk ρ' => pure (.nx ρ') | .rt d => pure (.rt d) : M Fl) Q R) = (fun f : Fl => (match f with | .nx ρ' => forP g body (ds.drop (i + 1)) ρ' Q R | .ct ρ' => forP g body (ds.drop (i + 1)) ρ' Q R | .bk ρ' => Q (.nx ρ') | .rt d => Q (.rt d))) := by
        funext f
        cases f <;> rfl
      rw [e]
      exact h
  exact go ds.length 0 ρ (by omega) h0
end
end L3
namespace L3
open PySem PySem.Spec PyProof.Rows L2 LamX
section
variable {R : RS} {ρ : Rho} {i : Nat} {g g1 : PTG} {tt tt1 : Rho → M Bool} {te : PTE} {ti ti1 : Rho → M (List PV)} {V V1 : List Nat} {ds : List PV}
theorem lcX_run {Q : List PV → Prop} : lcX V g tt te ti ρ Q R = (Nov ρ V ∧ ti ρ (fun ds => lcP g tt te (wipeR ρ V) ds [] Q noR) R) := propext Iff.rfl
theorem lc2X_run {Q : List PV → Prop} : lc2X V V1 g tt ti1 g1 tt1 te ti ρ Q R = (Nov ρ V ∧ ti ρ (fun ds => lc2P g tt ti1 g1 tt1 te V1 (wipeR ρ V) ds [] Q noR) R) := propext Iff.rfl
theorem if_run {α : Type} {b : Bool} {a c : M α} {Q : α → Prop} : (if b = true then a else c) Q R = (if b = true then a Q R else c Q R) := by cases b <;> rfl
theorem lcP_inv {acc : List PV} {Q : List PV → Prop} (I : Nat → List PV → Prop) (h0 : I 0 acc)
    (step : ∀ i d acc, ds[i]? = some d → I i acc → ∀ K : List PV → Prop, (∀ acc', I (i + 1) acc' → K acc') → g d ρ (fun ρ2 => tt ρ2 (fun b => if b = true then te ρ2 (fun x => acc.length < sizeLine ∧ K (acc ++ [x])) R else K acc) R) R)
    (done : ∀ acc, I ds.length acc → Q acc) : lcP g tt te ρ ds acc Q R := by
  have go : ∀ k i acc, i + k = ds.length → I i acc → lcP g tt te ρ (ds.drop i) acc Q R := by
    intro k
    induction k with
    | zero =>
      intro i acc hi h
      rw [List.drop_of_length_le (by omega)]
      have e : i = ds.length := by omega
      exact done acc (e ▸ h)
    | succ k ih =>
      intro i acc hi h
      have hlt : i < ds.length := by omega
      rw [List.drop_eq_getElem_cons hlt]
      have h := step i ds[i] acc (List.getElem?_eq_getElem hlt) h (fun acc' => lcP g tt te ρ (ds.drop (i + 1)) acc' Q R) fun acc' h2 => ih (i + 1) acc' (by omega) h2
      show g ds[i] ρ (fun ρ2 => tt ρ2 (fun b => (if b = true then te ρ2 >>= fun x => fun Q R => acc.length < sizeLine ∧ lcP g tt te ρ (ds.drop (i + 1)) (acc ++ [x]) Q R else lcP g tt te ρ (ds.drop (i + 1)) acc) Q R) R) R
      have e : ∀ ρ2, (fun b : Bool => (if b = true then te ρ2 >>= fun x => fun Q R => acc.length < sizeLine ∧ lcP g tt te ρ (ds.drop (i + 1)) (acc ++ [x]) Q R else lcP g tt te ρ (ds.drop (i + 1)) acc) Q R) = fun b => if b = true then te ρ2 (fun x => acc.length < sizeLine ∧ lcP g tt te ρ (ds.drop (i + 1)) (acc ++ [x]) Q R) R else lcP g tt te ρ (ds.drop (i + 1)) acc Q R := by
        intro ρ2
        funext b
        cases b <;> rfl
      simp only [e]
      exact h
  exact go ds.length 0 acc (by omega) h0
/-- a comprehension of which each item is known -/
theorem lcP_go {Q : List PV → Prop} (p : PV → Bool) (f : PV → PV) (hl : ds.length ≤ sizeLine)
    (step : ∀ d ∈ ds, ∀ (K1 : PV → Prop) (K0 : Prop), (p d = true → K1 (f d)) → (p d = false → K0) → g d ρ (fun ρ2 => tt ρ2 (fun b => if b = true then te ρ2 K1 R else K0) R) R)
    (h : Q ((ds.filter p).map f)) : lcP g tt te ρ ds [] Q R := by
  refine lcP_inv (fun i acc => acc = ((ds.take i).filter p).map f) (by simp) ?_ ?_
  · rintro i d acc hd rfl K hK
    have hlt : i < ds.length := (List.getElem?_eq_some_iff.mp hd).1
    have et : ds.take (i + 1) = ds.take i ++ [d] := by rw [List.take_succ, hd]; rfl
    have hs : (((ds.take i).filter p).map f).length < sizeLine := by
      rw [List.length_map]
      have h1 := List.length_filter_le p (ds.take i)
      have h2 : (ds.take i).length ≤ i := by rw [List.length_take]; omega
      omega
    refine step d (List.mem_of_getElem? hd) _ _ (fun hp => ⟨hs, hK _ ?_⟩) fun hp => hK _ ?_
    · rw [et, List.filter_append, List.map_append, List.filter_cons, if_pos hp]
      rfl
    · rw [et, List.filter_append, List.map_append, List.filter_cons, if_neg (by rw [hp]; exact Bool.false_ne_true)]
      simp
  · rintro acc rfl
    rw [List.take_length]
    exact h
theorem lcP1_inv {acc : List PV} {Q : List PV → Prop} {k : List PV → M (List PV)} (I : Nat → List PV → Prop) (h0 : I 0 acc)
    (step : ∀ i d acc, ds[i]? = some d → I i acc → ∀ K : List PV → Prop, (∀ acc', I (i + 1) acc' → K acc') → g d ρ (fun ρ2 => tt ρ2 (fun b => if b = true then te ρ2 (fun x => acc.length < sizeLine ∧ K (acc ++ [x])) R else K acc) R) R)
    (done : ∀ acc, I ds.length acc → k acc Q R) : lcP1 g tt te ρ k ds acc Q R := by
  have go : ∀ j i acc, i + j = ds.length → I i acc → lcP1 g tt te ρ k (ds.drop i) acc Q R := by
    intro j
    induction j with
    | zero =>
      intro i acc hi h
      rw [List.drop_of_length_le (by omega)]
      have e : i = ds.length := by omega
      exact done acc (e ▸ h)
    | succ j ih =>
      intro i acc hi h
      have hlt : i < ds.length := by omega
      rw [List.drop_eq_getElem_cons hlt]
      have h := step i ds[i] acc (List.getElem?_eq_getElem hlt) h (fun acc' => lcP1 g tt te ρ k (ds.drop (i + 1)) acc' Q R) fun acc' h2 => ih (i + 1) acc' (by omega) h2
      show g ds[i] ρ (fun ρ2 => tt ρ2 (fun b => (if b = true then te ρ2 >>= fun x => fun Q R => acc.length < sizeLine ∧ lcP1 g tt te ρ k (ds.drop (i + 1)) (acc ++ [x]) Q R else lcP1 g tt te ρ k (ds.drop (i + 1)) acc) Q R) R) R
      have e : ∀ ρ2, (fun b : Bool => (if b = true then te ρ2 >>= fun x => fun Q R => acc.length < sizeLine ∧ lcP1 g tt te ρ k (ds.drop (i + 1)) (acc ++ [x]) Q R else lcP1 g tt te ρ k (ds.drop (i + 1)) acc) Q R) = fun b => if b = true then te ρ2 (fun x => acc.length < sizeLine ∧ lcP1 g tt te ρ k (ds.drop (i + 1)) (acc ++ [x]) Q R) R else lcP1 g tt te ρ k (ds.drop (i + 1)) acc Q R := by
        intro ρ2
        funext b
        cases b <;> rfl
      simp only [e]
      exact h
  exact go ds.length 0 acc (by omega) h0
/-- two clauses, each item known -/
theorem lc2P_go {Q : List PV → Prop} (p : PV → Bool) (e : PV → List PV) (p1 : PV → PV → Bool) (f : PV → PV → PV) (Good : PV → Rho → Prop)
    (hl : ((ds.filter p).flatMap fun d => e d).length ≤ sizeLine)
    (step : ∀ d ∈ ds, ∀ (K : List PV → Rho → Prop) (K0 : Prop), (p d = true → ∀ ρw, Good d ρw → K (e d) ρw) → (p d = false → K0) → g d ρ (fun ρ2 => tt ρ2 (fun b => if b = true then Nov ρ2 V1 ∧ ti1 ρ2 (fun es => K es (wipeR ρ2 V1)) R else K0) R) R)
    (step1 : ∀ d ∈ ds, p d = true → ∀ ρw, Good d ρw → ∀ x ∈ e d, ∀ (K1 : PV → Prop) (K0 : Prop), (p1 d x = true → K1 (f d x)) → (p1 d x = false → K0) → g1 x ρw (fun ρ2 => tt1 ρ2 (fun b => if b = true then te ρ2 K1 R else K0) R) R)
    (h : Q ((ds.filter p).flatMap fun d => ((e d).filter (p1 d)).map (f d))) : lc2P g tt ti1 g1 tt1 te V1 ρ ds [] Q R := by
  have go : ∀ (es : List PV) (acc : List PV), (∀ d ∈ es, d ∈ ds) → acc.length + ((es.filter p).flatMap fun d => e d).length ≤ sizeLine → Q (acc ++ (es.filter p).flatMap fun d => ((e d).filter (p1 d)).map (f d)) → lc2P g tt ti1 g1 tt1 te V1 ρ es acc Q R := by
    intro es
    induction es with
    | nil =>
      intro acc _ _ hq
      show Q acc
      simpa using hq
    | cons d es ih =>
      intro acc hm hz hq
      have hd := hm d List.mem_cons_self
      have e0 : ∀ ρ2, (fun b : Bool => (if b = true then novM ρ2 V1 >>= fun ρw => ti1 ρ2 >>= fun es1 => lcP1 g1 tt1 te ρw (lc2P g tt ti1 g1 tt1 te V1 ρ es) es1 acc else lc2P g tt ti1 g1 tt1 te V1 ρ es acc : M (List PV)) Q R) = fun b => if b = true then Nov ρ2 V1 ∧ ti1 ρ2 (fun es1 => lcP1 g1 tt1 te (wipeR ρ2 V1) (lc2P g tt ti1 g1 tt1 te V1 ρ es) es1 acc Q R) R else lc2P g tt ti1 g1 tt1 te V1 ρ es acc Q R := by
        intro ρ2
        funext b
        cases b <;> rfl
      show g d ρ (fun ρ2 => tt ρ2 (fun b => (if b = true then novM ρ2 V1 >>= fun ρw => ti1 ρ2 >>= fun es1 => lcP1 g1 tt1 te ρw (lc2P g tt ti1 g1 tt1 te V1 ρ es) es1 acc else lc2P g tt ti1 g1 tt1 te V1 ρ es acc : M (List PV)) Q R) R) R
      simp only [e0]
      refine step d hd (fun es1 ρw => lcP1 g1 tt1 te ρw (lc2P g tt ti1 g1 tt1 te V1 ρ es) es1 acc Q R) (lc2P g tt ti1 g1 tt1 te V1 ρ es acc Q R) (fun hp ρw gd => ?_) fun hp => ?_
      · rw [List.filter_cons, if_pos hp, List.flatMap_cons, List.length_append] at hz
        rw [List.filter_cons, if_pos hp, List.flatMap_cons] at hq
        refine lcP1_inv (fun i a => a = acc ++ (((e d).take i).filter (p1 d)).map (f d)) (by simp) ?_ ?_
        · rintro i x a hx rfl K hK
          have hlt : i < (e d).length := (List.getElem?_eq_some_iff.mp hx).1
          have et : (e d).take (i + 1) = (e d).take i ++ [x] := by rw [List.take_succ, hx]; rfl
          have hs : (acc ++ (((e d).take i).filter (p1 d)).map (f d)).length < sizeLine := by
            rw [List.length_append, List.length_map]
            have h1 := List.length_filter_le (p1 d) ((e d).take i)
            have h2 : ((e d).take i).length ≤ i := by rw [List.length_take]; omega
            omega
          refine step1 d hd hp ρw gd x (List.mem_of_getElem? hx) _ _ (fun hp => ⟨hs, hK _ ?_⟩) fun hp => hK _ ?_
          · rw [et, List.filter_append, List.map_append, List.filter_cons, if_pos hp]
            simp
          · rw [et, List.filter_append, List.map_append, List.filter_cons, if_neg (by rw [hp]; exact Bool.false_ne_true)]
            simp
        · rintro a rfl
          rw [List.take_length]
          refine ih _ (fun d' h' => hm d' (List.mem_cons_of_mem _ h')) ?_ (by rw [List.append_assoc]; exact hq)
          rw [List.length_append, List.length_map]
          have h1 := List.length_filter_le (p1 d) (e d)
          omega
      · rw [List.filter_cons, if_neg (by rw [hp]; exact Bool.false_ne_true)] at hz hq
        exact ih acc (fun d' h' => hm d' (List.mem_cons_of_mem _ h')) hz hq
  exact go ds [] (fun _ h => h) (by simpa using hl) (by simpa using h)
theorem rng1_run {j : Int} {Q : List PV → Prop} : rng1M [.int j] Q R = ((-(2 ^ 62) ≤ j ∧ j < 2 ^ 62) ∧ Q (rngL 0 j.toNat)) := propext Iff.rfl
theorem rng2_run {i j : Int} {Q : List PV → Prop} : rng2M [.int i, .int j] Q R = ((-(2 ^ 62) ≤ i ∧ i < 2 ^ 62 ∧ -(2 ^ 62) ≤ j ∧ j < 2 ^ 62) ∧ Q (rngL i (j - i).toNat)) := propext Iff.rfl
theorem len_lst {xs : List PV} {Q : PV → Prop} : lenM [.lst xs] Q R = Q (.int xs.length) := propext Iff.rfl
theorem len_tup {xs : List PV} {Q : PV → Prop} : lenM [.tup xs] Q R = Q (.int xs.length) := propext Iff.rfl
theorem ix_tup {xs : List PV} {j : Int} {Q : PV → Prop} : ixM (.tup xs) (.int j) Q R = ∃ d, atI xs j = some d ∧ Q d := propext Iff.rfl
theorem ix_lst {xs : List PV} {j : Int} {Q : PV → Prop} : ixM (.lst xs) (.int j) Q R = ∃ d, atI xs j = some d ∧ Q d := propext Iff.rfl
theorem atI_nat {α : Type} {xs : List α} {n : Nat} : atI xs (n : Int) = xs[n]? := by
  unfold atI ixN
  by_cases h : n < xs.length
  · rw [if_pos (by omega), if_pos (by omega)]
    rfl
  · rw [if_pos (by omega), if_neg (by omega), List.getElem?_eq_none (by omega)]
    rfl
theorem atI_int {α : Type} {xs : List α} {j : Int} (h : 0 ≤ j) : atI xs j = xs[j.toNat]? := by
  obtain ⟨n, rfl⟩ := Int.eq_ofNat_of_zero_le h
  exact atI_nat
theorem atI_last {α : Type} {xs : List α} (h : xs ≠ []) : atI xs (-1) = some (xs.getLast h) := by
  unfold atI ixN
  have l : 0 < xs.length := List.length_pos_iff.mpr h
  rw [if_neg (by decide), if_pos (by omega), List.getLast_eq_getElem]
  show xs[(-1 + (xs.length : Int)).toNat]? = _
  rw [show (-1 + (xs.length : Int)).toNat = xs.length - 1 by omega]
  exact List.getElem?_eq_getElem _
theorem unTup_run {n : Nat} {gs : List PV → Rho → M Rho} {xs : List PV} {Q : Rho → Prop} : unTup n gs (.tup xs) ρ Q R = (xs.length = n ∧ gs xs ρ Q R) := propext Iff.rfl
theorem unCons_run {gs : List PV → Rho → M Rho} {d : PV} {xs : List PV} {Q : Rho → Prop} : unCons g gs (d :: xs) ρ Q R = g d ρ (fun ρ' => gs xs ρ' Q R) R := propext Iff.rfl
theorem unNil_run {Q : Rho → Prop} : unNil [] ρ Q R = Q ρ := propext Iff.rfl
theorem asgX_run {t : M (PV × Rho)} {Q : Fl → Prop} : asgX g t Q R = t (fun p => g p.1 p.2 (fun ρ => Q (.nx ρ)) R) R := propext Iff.rfl
theorem stM_run {t : PTE} {d : PV} {Q : Rho → Prop} : stM i t d ρ Q R = ownQ ρ[i]? (fun ds => t ρ (fun e => (match e with | .int j => fun Q _ => ∃ n, (ixN ds.length j = some n ∧ i < ρ.length) ∧ Q (ρ.set i (some (.own (ds.set n d)))) | _ => failM : M Rho) Q R) noR) := by
  rw [← own_run (R := R)]
  rfl
theorem storeM_run {t : Rho → M (PV × Rho)} {t2 : PTE} {Q : Fl → Prop} : storeM i t t2 ρ Q R = t ρ (fun p => ownQ p.2[i]? (fun ds => t2 p.2 (fun d => (match d with | .int j => fun Q _ => ∃ n, (ixN ds.length j = some n ∧ i < p.2.length) ∧ Q (.nx (p.2.set i (some (.own (ds.set n p.1))))) | _ => failM : M Fl) Q R) R)) R := by
  show t ρ (fun p => ownM p.2 i (fun ds => t2 p.2 _ R) R) R = _
  congr 1
  funext p
  rw [own_run]
  all_goals rfl
theorem augX_run {g : PV → PV → M PV} {t : M PV} {Q : Fl → Prop} : augX i g t ρ Q R = varQ ρ[i]? (fun a => t (fun b => g a b (fun d => i < ρ.length ∧ Q (.nx (ρ.set i (some (.val d))))) R) R) := by
  rw [← var_run (R := R)]
  rfl
theorem popM_run {Q : PV × Rho → Prop} : popM i ρ Q R = ownQ ρ[i]? (fun ds => ∃ d, ds[ds.length - 1]? = some d ∧ Q (d, ρ.set i (some (.own ds.dropLast)))) := by
  rw [← own_run (R := R)]
  rfl
theorem callKM_run {n nu nk : Nat} {perm : List Nat} {pp : PProm} {a b : M (List Sl)} {Q : PV → Prop} : callKM n nu nk perm pp a b Q R = a (fun ss => b (fun zs => (gPerm nu nk perm ss zs).length = n ∧ pp (gPerm nu nk perm ss zs) Q R) R) R := propext Iff.rfl
theorem callK0M_run {n nk : Nat} {perm : List Nat} {pp : PProm} {b : M (List Sl)} {Q : PV → Prop} : callK0M n nk perm pp b Q R = b (fun zs => (gPerm 0 nk perm [] zs).length = n ∧ pp (gPerm 0 nk perm [] zs) Q R) R := propext Iff.rfl
theorem eqM_run {x y : PV} {Q : PV → Prop} : eqM x y Q R = ((okD x ∧ okD y) ∧ Q (.bl (eqP x y))) := propext Iff.rfl
theorem neM_run {x y : PV} {Q : PV → Prop} : neM x y Q R = ((okD x ∧ okD y) ∧ Q (.bl (!eqP x y))) := propext Iff.rfl
theorem repr_run {d : PV} {Q : PV → Prop} : reprM [d] Q R = (okS d ∧ Q (.str (shP d))) := propext Iff.rfl
theorem tup_lst {xs : List PV} {Q : PV → Prop} : tupM [.lst xs] Q R = Q (.tup xs) := propext Iff.rfl
theorem tup_tup {xs : List PV} {Q : PV → Prop} : tupM [.tup xs] Q R = Q (.tup xs) := propext Iff.rfl
theorem list_tup {xs : List PV} {Q : List PV → Prop} : listM [.tup xs] Q R = Q xs := propext Iff.rfl
theorem list_lst {xs : List PV} {Q : List PV → Prop} : listM [.lst xs] Q R = Q xs := propext Iff.rfl
theorem calm_run {α : Type} {m : M α} {Q : α → Prop} : calmM m Q R = m Q noR := propext Iff.rfl
theorem ints_run {ns : List Int} {Q : List Int → Prop} (h : Q ns) : intsM (ns.map PV.int) Q R := ⟨ns, rfl, h⟩
theorem sum_run {ns : List Int} {Q : PV → Prop} (h : Q (.int ns.sum)) : sumM [.lst (ns.map PV.int)] Q R := ⟨ns, rfl, h⟩
theorem sum_runT {ns : List Int} {Q : PV → Prop} (h : Q (.int ns.sum)) : sumM [.tup (ns.map PV.int)] Q R := ⟨ns, rfl, h⟩
theorem all_run {bs : List Bool} {Q : PV → Prop} (h : Q (.bl (bs.all id))) : allM' [.lst (bs.map PV.bl)] Q R := ⟨bs, rfl, h⟩
theorem any_run {bs : List Bool} {Q : PV → Prop} (h : Q (.bl (bs.any id))) : anyM' [.lst (bs.map PV.bl)] Q R := ⟨bs, rfl, h⟩
theorem any_draw {b : Int} {Q : PV → Prop} : anyP [.deal, .val (.int b)] Q R = ((1 ≤ b ∧ b < 1073741824) ∧ ∀ v, 0 ≤ v → v < b → Q (.int v)) := propext Iff.rfl
theorem int_int {j : Int} {Q : PV → Prop} : intM [.int j] Q R = Q (.int j) := propext Iff.rfl
def novS : Option (Option Sl) → Prop
  | some (some (.own _)) => False
  | some (some .deal) => False
  | _ => True
theorem nov_nil : Nov ρ [] = True := eq_true fun i h => by cases h
theorem nov_cons {j : Nat} : Nov ρ (j :: V) = (novS ρ[j]? ∧ Nov ρ V) := by
  refine propext ⟨fun h => ⟨?_, fun i hi => h i (List.mem_cons_of_mem _ hi)⟩, fun h i hi s hs => ?_⟩
  · have h := h j List.mem_cons_self
    match e : ρ[j]? with
    | some (some (.val d)) => trivial
    | some (some (.own ds)) =>
      obtain ⟨d, h⟩ := h _ e
      cases h
    | some (some .deal) =>
      obtain ⟨d, h⟩ := h _ e
      cases h
    | some none => trivial
    | none => trivial
  · rcases List.mem_cons.mp hi with rfl | hi
    · have h1 := h.1
      rw [hs] at h1
      cases s with
      | val d => exact ⟨d, rfl⟩
      | own ds => exact h1.elim
      | deal => exact h1.elim
    · exact h.2 i hi s hs
theorem novS_val {d : PV} : novS (some (some (.val d))) = True := propext Iff.rfl
theorem novS_none : novS (some none) = True := propext Iff.rfl
theorem novS_no : novS none = True := propext Iff.rfl
/-- a comprehension without tests -/
theorem lcP_map {Q : List PV → Prop} (f : PV → PV) (hl : ds.length ≤ sizeLine) (step : ∀ d ∈ ds, ∀ K1 : PV → Prop, K1 (f d) → g d ρ (fun ρ2 => te ρ2 K1 R) R) (h : Q (ds.map f)) : lcP g (fun _ => (pure true : M Bool)) te ρ ds [] Q R := by
  refine lcP_go (fun _ => true) f hl (fun d hd K1 K0 k1 _ => ?_) ?_
  · have e : (fun ρ2 => (fun _ => (pure true : M Bool)) ρ2 (fun b => if b = true then te ρ2 K1 R else K0) R) = fun ρ2 => te ρ2 K1 R := by
      funext ρ2
      show (if true = true then te ρ2 K1 R else K0) = _
      rw [if_pos rfl]
    rw [e]
    exact step d hd K1 (k1 rfl)
  · rw [List.filter_eq_self.mpr fun _ _ => rfl]
    exact h
/-- .. with a test -/
theorem lcP_sel {Q : List PV → Prop} (p : PV → Bool) (f : PV → PV) (hl : ds.length ≤ sizeLine) (step : ∀ d ∈ ds, ∀ (K1 : PV → Prop) (K0 : Prop), (p d = true → K1 (f d)) → (p d = false → K0) → g d ρ (fun ρ2 => tt ρ2 (fun b => if b = true then te ρ2 K1 R else K0) R) R) (h : Q ((ds.filter p).map f)) :
    lcP g tt te ρ ds [] Q R := lcP_go p f hl step h
/-- two clauses without tests -/
theorem lc2P_map {Q : List PV → Prop} (e : PV → List PV) (f : PV → PV → PV) (Good : PV → Rho → Prop) (hl : (ds.flatMap fun d => e d).length ≤ sizeLine)
    (step : ∀ d ∈ ds, ∀ K : List PV → Rho → Prop, (∀ ρw, Good d ρw → K (e d) ρw) → g d ρ (fun ρ2 => Nov ρ2 V1 ∧ ti1 ρ2 (fun es => K es (wipeR ρ2 V1)) R) R)
    (step1 : ∀ d ∈ ds, ∀ ρw, Good d ρw → ∀ x ∈ e d, ∀ K1 : PV → Prop, K1 (f d x) → g1 x ρw (fun ρ2 => te ρ2 K1 R) R)
    (h : Q (ds.flatMap fun d => (e d).map (f d))) : lc2P g (fun _ => (pure true : M Bool)) ti1 g1 (fun _ => (pure true : M Bool)) te V1 ρ ds [] Q R := by
  refine lc2P_go (fun _ => true) e (fun _ _ => true) f Good (by rw [List.filter_eq_self.mpr fun _ _ => rfl]; exact hl) (fun d hd K K0 k1 _ => ?_) (fun d hd _ ρw gd x hx K1 K0 k1 _ => ?_) ?_
  · have e0 : (fun ρ2 => (fun _ => (pure true : M Bool)) ρ2 (fun b => if b = true then Nov ρ2 V1 ∧ ti1 ρ2 (fun es => K es (wipeR ρ2 V1)) R else K0) R) = fun ρ2 => Nov ρ2 V1 ∧ ti1 ρ2 (fun es => K es (wipeR ρ2 V1)) R := by
      funext ρ2
      show (if true = true then _ else K0) = _
      rw [if_pos rfl]
    rw [e0]
    exact step d hd K (k1 rfl)
  · have e0 : (fun ρ2 => (fun _ => (pure true : M Bool)) ρ2 (fun b => if b = true then te ρ2 K1 R else K0) R) = fun ρ2 => te ρ2 K1 R := by
      funext ρ2
      show (if true = true then te ρ2 K1 R else K0) = _
      rw [if_pos rfl]
    rw [e0]
    exact step1 d hd ρw gd x hx K1 (k1 rfl)
  · have e1 : ∀ d, (e d).filter (fun _ => true) = e d := fun d => List.filter_eq_self.mpr fun _ _ => rfl
    rw [List.filter_eq_self.mpr fun _ _ => rfl]
    simp only [e1]
    exact h
theorem okD_int {j : Int} : okD (.int j) := rfl
theorem eqP_int {a b : Int} : eqP (.int a) (.int b) = decide (a = b) := by
  show (a == b) = decide (a = b)
  by_cases h : a = b
  · subst h; simp
  · simp [h]
theorem isi_run {T : String} {d : PV} {t : String} {Q : PV → Prop} (e : kindP d = some t) : isiM T d Q R = Q (.bl (t == T || (T == "int" && t == "bool"))) := by
  unfold isiM
  rw [e]
  rfl
theorem neg_int {j : Int} {Q : PV → Prop} : negX (pure (.int j)) Q R = Q (.int (-j)) := propext Iff.rfl
theorem min2_run {i j : Int} {Q : PV → Prop} : min2M [.int i, .int j] Q R = Q (.int (if j < i then j else i)) := propext Iff.rfl
theorem max2_run {i j : Int} {Q : PV → Prop} : max2M [.int i, .int j] Q R = Q (.int (if j > i then j else i)) := propext Iff.rfl
theorem andThen_if {c : Prop} [Decidable c] {a b : Fl} {ts : PTS} : andThen (if c then a else b) ts = if c then andThen a ts else andThen b ts := by split <;> rfl
end
def l3s := (And.intro (And.intro (And.intro (And.intro (And.intro (And.intro @min2_run (And.intro @max2_run @neg_int)) (And.intro @nov_nil (And.intro @nov_cons @novS_val))) (And.intro (And.intro @novS_none (And.intro @novS_no @eqP_int)) (And.intro (And.intro @okD_int @seqX_run) (And.intro @then_nx @then_rt)))) (And.intro (And.intro (And.intro @then_bk (And.intro @then_ct @setX_run)) (And.intro @setO_run (And.intro @setL_run @xOf_run))) (And.intro (And.intro @op2_run (And.intro @op2F_run @L3.bind_run)) (And.intro (And.intro @L3.pure_run @ifX_run) (And.intro @retX_run @retO_run))))) (And.intro (And.intro (And.intro (And.intro @exprX_run (And.intro @parX_run @parNX_run)) (And.intro @aVal_run (And.intro @aOwn_run @aDeal_run))) (And.intro (And.intro @aNil_run (And.intro @vCons_run @vNil_run)) (And.intro (And.intro @tupX_run @lstX_run) (And.intro @fit_run @andB_run)))) (And.intro (And.intro (And.intro @orB_run (And.intro @notB_run @andV_run)) (And.intro (And.intro @orV_run @notV_run) (And.intro @asB_run @asI_run))) (And.intro (And.intro @tr_int (And.intro @mod_run @div_run)) (And.intro (And.intro @mul_run @add_run) (And.intro @sub_run @shr_run)))))) (And.intro (And.intro (And.intro (And.intro (And.intro @bit_run (And.intro @cmp_run @end_rt)) (And.intro @end_nx (And.intro @setS_nil @setS_cons))) (And.intro (And.intro @rd_run (And.intro @var_run @own_run)) (And.intro (And.intro @deal_run @rdQ_val) (And.intro @rdQ_own @varQ_val)))) (And.intro (And.intro (And.intro @ownQ_own (And.intro @dealQ_deal @frz_run)) (And.intro (And.intro @forX_run @gN_run) (And.intro @appM_run @callM_run))) (And.intro (And.intro @seq_lst (And.intro @seq_tup @lst_lst)) (And.intro (And.intro @one_one @two_two) (And.intro @lcX_run @lc2X_run))))) (And.intro (And.intro (And.intro (And.intro @rng1_run (And.intro @rng2_run @len_lst)) (And.intro @len_tup (And.intro @ix_tup @ix_lst))) (And.intro (And.intro @unTup_run (And.intro @unCons_run @unNil_run)) (And.intro (And.intro @asgX_run @stM_run) (And.intro @storeM_run @augX_run)))) (And.intro (And.intro (And.intro @popM_run (And.intro @callKM_run @callK0M_run)) (And.intro (And.intro @eqM_run @neM_run) (And.intro @repr_run @tup_lst))) (And.intro (And.intro @tup_tup (And.intro @list_tup @list_lst)) (And.intro (And.intro @calm_run @any_draw) (And.intro @int_int @pdef_run)))))))
end L3
theorem L2.Room.u0 {k : Nat} {A : PySem.Around} (r : L2.Room k A) : A.units < PySem.cLine := by have := r.un; omega
namespace L3
open PySem PySem.Spec PyProof.Rows L2 LamX
section
variable {X : Cx} {W : Wsh}
def rEmp (K : PySem.W.Frag) (neg : Bool) : R2 := fun x y H Q => ∃ (a b : Addr) (xs : List V), x = .ref a ∧ y = .ref b ∧ SqL K H a xs ∧ SqL K H b [] ∧ Q (.bl (if neg = true then !xs.isEmpty else xs.isEmpty)) H
theorem op_eqE (hu : X.A.units < cLine) : OpR X (compareOp .Eq) (rEmp X.K false) := by
  intro pins s σ H x y v u Q I rx ry h
  obtain ⟨a, b, xs, rfl, rfl, h1, h2, q⟩ := h
  cases rx
  cases ry
  obtain ⟨i1, r1, p1, _⟩ := I.list h1
  obtain ⟨i2, r2, p2, _⟩ := I.list h2
  cases r2
  cases r1 with
  | nil =>
    refine SeqAt.eq_listAt (e := fun _ => true) p1.isList p2.isList rfl hu (fun j h _ => absurd h (by simp)) ⟨.bl true, H, I, rfl, ?_⟩
    simpa using q
  | cons _ _ =>
    refine SeqAt.eq_list_lengthsAt p1.isList p2.isList (by simp) hu ⟨.bl false, H, I, rfl, ?_⟩
    simpa using q
theorem op_neE (hu : X.A.units < cLine) : OpR X (compareOp .NotEq) (rEmp X.K true) := by
  intro pins s σ H x y v u Q I rx ry h
  obtain ⟨a, b, xs, rfl, rfl, h1, h2, q⟩ := h
  cases rx
  cases ry
  obtain ⟨i1, r1, p1, _⟩ := I.list h1
  obtain ⟨i2, r2, p2, _⟩ := I.list h2
  cases r2
  cases r1 with
  | nil =>
    refine SeqAt.RcNeAt.lists (e := fun _ => true) p1.isList p2.isList rfl hu (fun j h _ => absurd h (by simp)) X.prog X.w _ _ ⟨.bl false, H, I, rfl, ?_⟩
    simpa using q
  | cons _ _ =>
    refine SeqAt.RcNeAt.lists_lengths p1.isList p2.isList (by simp) hu X.prog X.w _ _ ⟨.bl true, H, I, rfl, ?_⟩
    simpa using q
def eqEM (x y : PV) : M PV := match y with
  | .lst [] => lstM x >>= fun xs => pure (.bl xs.isEmpty)
  | _ => failM
def neEM (x y : PV) : M PV := match y with
  | .lst [] => lstM x >>= fun xs => pure (.bl (!xs.isEmpty))
  | _ => failM
theorem RR.emp {c : Ct} {F H : Hp} {σ : L2.St} {ρ : Rho} {v : V} {xs : List PV} {x : PV} (E : ER X.K X.mg c F H σ ρ) (r : RR X.K X.mg F H v x) (hx : x = .lst xs ∨ x = .scr xs) : ∃ a vs, v = .ref a ∧ SqL X.K H a vs ∧ vs.isEmpty = xs.isEmpty := by
  rcases hx with rfl | rfl
  · obtain ⟨a, vs, e, h, ha⟩ := r.lst E.sub
    exact ⟨a, vs, e, SqL.of h, ha.emp⟩
  · obtain ⟨a, vs, e, h, ha⟩ := r.scr
    exact ⟨a, vs, e, E.sub.seq h, ha.emp⟩
theorem eqES : OpS X W (rEmp X.K false) eqEM := by
  intro c F H σ ρ x y v u Qp R Q E r1 r2 g k rs
  match y, g, r2 with
  | .lst [], g, r2 =>
    obtain ⟨xs, hx, g⟩ := lstM_inv g
    obtain ⟨a, vs, rfl, h1, e1⟩ := r1.emp E hx
    obtain ⟨b, ws, rfl, h2, hb⟩ := r2.lst E.sub
    cases hb
    refine ⟨a, b, vs, rfl, rfl, h1, SqL.of h2, ?_⟩
    rw [if_neg Bool.false_ne_true, e1]
    exact k.here g E (.bl _)
theorem neES : OpS X W (rEmp X.K true) neEM := by
  intro c F H σ ρ x y v u Qp R Q E r1 r2 g k rs
  match y, g, r2 with
  | .lst [], g, r2 =>
    obtain ⟨xs, hx, g⟩ := lstM_inv g
    obtain ⟨a, vs, rfl, h1, e1⟩ := r1.emp E hx
    obtain ⟨b, ws, rfl, h2, hb⟩ := r2.lst E.sub
    cases hb
    refine ⟨a, b, vs, rfl, rfl, h1, SqL.of h2, ?_⟩
    rw [if_pos rfl, e1]
    exact k.here g E (.bl _)
def eqTM : PV → PV → M PV
  | .str a, .str b => pure (.bl (decide (a = b)))
  | _, _ => failM
def neTM : PV → PV → M PV
  | .str a, .str b => pure (.bl (!decide (a = b)))
  | _, _ => failM
theorem str_inj {a b : Str} : decide (V.str a = V.str b) = decide (a = b) := by
  by_cases h : a = b
  · subst h; simp
  · rw [decide_eq_false h, decide_eq_false (fun e => h (by injection e))]
theorem eqTS : OpS X W rEq eqTM := by
  intro c F H σ ρ x y v u Qp R Q E r1 r2 g k rs
  cases x <;> cases y <;> first | exact g.elim | skip
  obtain rfl := r1.str
  obtain rfl := r2.str
  refine ⟨rfl, ?_⟩
  rw [str_inj]
  exact k.here g E (.bl _)
theorem neTS : OpS X W rNe neTM := by
  intro c F H σ ρ x y v u Qp R Q E r1 r2 g k rs
  cases x <;> cases y <;> first | exact g.elim | skip
  obtain rfl := r1.str
  obtain rfl := r2.str
  refine ⟨rfl, ?_⟩
  rw [str_inj]
  exact k.here g E (.bl _)
end
end L3
namespace Q15
open PySem PySem.Spec PyProof.Rows L2 LamX L3
abbrev p__law_any : PProm := anyP
def b_power_modulo : PTS := fun ρ =>
 seqX (setX 3 (xOf ρ (op2 modM ((pure (PV.int 1) : M PV)) (rdM ρ 2)))) (fun ρ =>
 seqX (setX 4 (xOf ρ (varM ρ 0))) (fun ρ =>
 seqX (setX 5 (xOf ρ (varM ρ 1))) (fun ρ =>
 seqX (whileP (fun ρ => (op2 (cmpM fun i j => decide (j < i)) (rdM ρ 5) ((pure (PV.int 0) : M PV)) >>= asB))
 (fun ρ => seqX (ifX (((op2 (bitM Builtin.bitAnd) (rdM ρ 5) ((pure (PV.int 1) : M PV))) >>= trM))
 (setX 3 (xOf ρ (op2 modM (op2 mulM (rdM ρ 3) (rdM ρ 4)) (rdM ρ 2))))
 ((pure (Fl.nx ρ) : M Fl))) (fun ρ =>
 seqX (setX 4 (xOf ρ (op2 modM (op2 mulM (rdM ρ 4) (rdM ρ 4)) (rdM ρ 2)))) (fun ρ =>
 setX 5 (xOf ρ (op2 shrM (rdM ρ 5) ((pure (PV.int 1) : M PV))))))) ρ) (fun ρ =>
 retX (varM ρ 3)))))
def p_power_modulo : PProm := pdef ["base", "exponent", "modulus", "found", "square", "left"] (b_power_modulo)
def b_inverse : PTS := fun ρ =>
 seqX (parNX [2, 3] (aVal ((pure (PV.int 1) : M PV)) (aVal ((pure (PV.int 0) : M PV)) (aNil))) ρ) (fun ρ =>
 seqX (parX [4, 5] (aVal (op2 modM (rdM ρ 0) (rdM ρ 1)) (aVal (varM ρ 1) (aNil))) ρ) (fun ρ =>
 seqX (whileP (fun ρ => (op2 (cmpM fun i j => decide (j < i)) (rdM ρ 5) ((pure (PV.int 0) : M PV)) >>= asB))
 (fun ρ => seqX (setX 6 (xOf ρ (op2 divM (rdM ρ 4) (rdM ρ 5)))) (fun ρ =>
 seqX (parX [4, 5] (aVal (varM ρ 5) (aVal (op2 subM (rdM ρ 4) (op2 mulM (rdM ρ 6) (rdM ρ 5))) (aNil))) ρ) (fun ρ =>
 parX [2, 3] (aVal (varM ρ 3) (aVal (op2 subM (rdM ρ 2) (op2 mulM (rdM ρ 6) (rdM ρ 3))) (aNil))) ρ))) ρ) (fun ρ =>
 retX (op2 modM (rdM ρ 2) (rdM ρ 1)))))
def p_inverse : PProm := pdef ["number", "modulus", "one", "other", "high", "low", "many"] (b_inverse)
def b_is_integer : PTS := fun ρ =>
 retX (andV (((rdM ρ 0) >>= isiM "int")) (notV (((rdM ρ 0) >>= isiM "bool"))))
def p_is_integer : PProm := pdef ["value"] (b_is_integer)
def b_is_number : PTS := fun ρ =>
 retX (andV (callM 1 p_is_integer (aVal (varM ρ 0) (aNil))) (op2 (cmpM fun i j => decide (j ≤ i)) (rdM ρ 0) ((pure (PV.int 0) : M PV))))
def p_is_number : PProm := pdef ["value"] (b_is_number)
def b_is_below : PTS := fun ρ =>
 retX (andV (callM 1 p_is_number (aVal (varM ρ 0) (aNil))) (op2 (cmpM fun i j => decide (i < j)) (rdM ρ 0) (rdM ρ 1)))
def p_is_below : PProm := pdef ["value", "limit"] (b_is_below)
def b_is_tuple : PTS := fun ρ =>
 retX (andV (((rdM ρ 0) >>= isiM "tuple")) (op2 eqM (((vCons (rdM ρ 0) (vNil)) >>= lenM)) (rdM ρ 1)))
def p_is_tuple : PProm := pdef ["value", "length"] (b_is_tuple)
def b_are_below : PTS := fun ρ =>
 retX (((vCons (lstX (lcX [2] (gN 2) (fun ρ => (pure true : M Bool)) (fun ρ => callM 2 p_is_below (aVal (varM ρ 2) (aVal (varM ρ 1) (aNil)))) (fun ρ => ((rdM ρ 0) >>= seqM)) ρ)) (vNil)) >>= allM'))
def p_are_below : PProm := pdef ["values", "limit", "value"] (b_are_below)
def b_is_ascending : PTS := fun ρ =>
 retX (((vCons (lstX (lcX [1] (gN 1) (fun ρ => (pure true : M Bool)) (fun ρ => op2 (cmpM fun i j => decide (i < j)) (op2 ixM (rdM ρ 0) (rdM ρ 1)) (op2 ixM (rdM ρ 0) (op2 addM (rdM ρ 1) ((pure (PV.int 1) : M PV))))) (fun ρ => ((vCons (op2 subM (((vCons (rdM ρ 0) (vNil)) >>= lenM)) ((pure (PV.int 1) : M PV))) (vNil)) >>= rng1M)) ρ)) (vNil)) >>= allM'))
def p_is_ascending : PProm := pdef ["values", "at"] (b_is_ascending)
def b_tuples_of : PTS := fun ρ =>
 seqX (setX 2 (xOf ρ (lstX (((vCons (tupX (vNil)) (vNil)) >>= fitM))))) (fun ρ =>
 seqX (forX (gN 3)
 (fun ρ => setL 2 (lc2X [4, 5] [5] (gN 4) (fun ρ => (pure true : M Bool)) (fun ρ => ((rdM ρ 0) >>= seqM)) (gN 5) (fun ρ => (pure true : M Bool)) (fun ρ => op2 addM (rdM ρ 4) (tupX (vCons (varM ρ 5) (vNil)))) (fun ρ => ((rdM ρ 2) >>= seqM)) ρ) ρ) (fun ρ => ((vCons (rdM ρ 1) (vNil)) >>= rng1M)) ρ) (fun ρ =>
 retX (varM ρ 2)))
def p_tuples_of : PProm := pdef ["things", "length", "found", "_", "row", "thing"] (b_tuples_of)
def b_tuples_below : PTS := fun ρ =>
 retX (callM 2 p_tuples_of (aVal (lstX (listR1 (rdM ρ 0))) (aVal (varM ρ 1) (aNil))))
def p_tuples_below : PProm := pdef ["limit", "length"] (b_tuples_below)
def b_subsets : PTS := fun ρ =>
 seqX (setX 1 (xOf ρ (lstX (((vCons (tupX (vNil)) (vNil)) >>= fitM))))) (fun ρ =>
 seqX (forX (gN 2)
 (fun ρ => setX 1 (xOf ρ (op2 addM (rdM ρ 1) (lstX (lcX [3] (gN 3) (fun ρ => (pure true : M Bool)) (fun ρ => op2 addM (rdM ρ 3) (tupX (vCons (varM ρ 2) (vNil)))) (fun ρ => ((rdM ρ 1) >>= seqM)) ρ))))) (fun ρ => ((varM ρ 0) >>= seqM)) ρ) (fun ρ =>
 retX (varM ρ 1)))
def p_subsets : PProm := pdef ["things", "found", "thing", "some"] (b_subsets)
def b_contained : PTS := fun ρ =>
 seqX (setX 1 (xOf ρ (op2 ixM (rdM ρ 0) ((pure (PV.int 1) : M PV))))) (fun ρ =>
 retX (((vCons (lstX (lcX [2] (gN 2) (fun ρ => (op2 neM (op2 ixM (rdM ρ 1) (rdM ρ 2)) ((pure (PV.int 0) : M PV)) >>= asB)) (fun ρ => varM ρ 2) (fun ρ => ((vCons (((vCons (rdM ρ 1) (vNil)) >>= lenM)) (vNil)) >>= rng1M)) ρ)) (vNil)) >>= tupM)))
def p_contained : PProm := pdef ["mixture", "counts", "i"] (b_contained)
def b_remainders : PTS := fun ρ =>
 seqX (asgX (unTup 2 (unCons (gN 3) (unCons (gN 4) (unNil)))) (xOf ρ (varM ρ 1))) (fun ρ =>
 seqX (setX 5 (xOf ρ (callM 3 p_power_modulo (aVal (callM 2 p_inverse (aVal (varM ρ 0) (aVal (varM ρ 2) (aNil)))) (aVal (varM ρ 3) (aVal (varM ρ 2) (aNil))))))) (fun ρ =>
 retX (((vCons (lstX (lcX [6] (gN 6) (fun ρ => (pure true : M Bool)) (fun ρ => op2 modM (op2 mulM (rdM ρ 6) (rdM ρ 5)) (rdM ρ 2)) (fun ρ => ((rdM ρ 4) >>= seqM)) ρ)) (vNil)) >>= tupM))))
def p_remainders : PProm := pdef ["k", "mixture", "modulus", "n", "counts", "scale", "count"] (b_remainders)
def b_is_case : PTS := fun ρ =>
 seqX (ifX (notB (((callM 2 p_is_tuple (aVal (varM ρ 2) (aVal ((pure (PV.int 2) : M PV)) (aNil)))) >>= asB)))
 (retX ((pure (PV.bl false) : M PV)))
 ((pure (Fl.nx ρ) : M Fl))) (fun ρ =>
 seqX (asgX (unTup 2 (unCons (gN 3) (unCons (gN 4) (unNil)))) (xOf ρ (varM ρ 2))) (fun ρ =>
 seqX (ifX (orB (notB (((((rdM ρ 3) >>= isiM "tuple")) >>= asB))) ((op2 eqM (((vCons (rdM ρ 3) (vNil)) >>= lenM)) ((pure (PV.int 0) : M PV)) >>= asB)))
 (retX ((pure (PV.bl false) : M PV)))
 ((pure (Fl.nx ρ) : M Fl))) (fun ρ =>
 seqX (ifX (orB (notB (((callM 2 p_are_below (aVal (varM ρ 3) (aVal (varM ρ 0) (aNil)))) >>= asB))) (notB (((callM 1 p_is_ascending (aVal (varM ρ 3) (aNil))) >>= asB))))
 (retX ((pure (PV.bl false) : M PV)))
 ((pure (Fl.nx ρ) : M Fl))) (fun ρ =>
 seqX (ifX (orB (notB (((callM 2 p_is_tuple (aVal (varM ρ 4) (aVal (varM ρ 0) (aNil)))) >>= asB))) (notB (((callM 2 p_are_below (aVal (varM ρ 4) (aVal (varM ρ 1) (aNil)))) >>= asB))))
 (retX ((pure (PV.bl false) : M PV)))
 ((pure (Fl.nx ρ) : M Fl))) (fun ρ =>
 seqX (ifX (((((vCons (lstX (lcX [5] (gN 5) (fun ρ => (op2 notinAM (rdM ρ 5) (rdM ρ 3) >>= asB)) (fun ρ => op2 neM (op2 ixM (rdM ρ 4) (rdM ρ 5)) ((pure (PV.int 0) : M PV))) (fun ρ => ((vCons (rdM ρ 0) (vNil)) >>= rng1M)) ρ)) (vNil)) >>= anyM')) >>= asB))
 (retX ((pure (PV.bl false) : M PV)))
 ((pure (Fl.nx ρ) : M Fl))) (fun ρ =>
 retX (op2 eqM (op2 modM (op2 subM (((vCons (rdM ρ 4) (vNil)) >>= sumM)) ((pure (PV.int 1) : M PV))) (rdM ρ 1)) ((pure (PV.int 0) : M PV)))))))))
def p_is_case : PProm := pdef ["ingredients", "modulus", "value", "some", "rests", "i"] (b_is_case)
def b_all_sets : PTS := fun ρ =>
 retX (sliceX (lstX (((vCons (callM 1 p_subsets (aVal (lstX (listR1 (rdM ρ 0))) (aNil))) (vNil)) >>= sortAM))) (partX ((pure (PV.int 1) : M PV))) ((pure none : M (Option Int))))
def p_all_sets : PProm := pdef ["ingredients"] (b_all_sets)
def b_rest_rows : PTS := fun ρ =>
 seqX (setO 3 (((vNil) >>= fitM)) ρ) (fun ρ =>
 seqX (forX (gN 4)
 (fun ρ => seqX (setO 5 (op2F repM (lstX (((vCons ((pure (PV.int 0) : M PV)) (vNil)) >>= fitM))) (rdM ρ 0)) ρ) (fun ρ =>
 seqX (forX (unTup 2 (unCons (gN 6) (unCons (gN 7) (unNil))))
 (fun ρ => storeM 5 (fun ρ => xOf ρ (varM ρ 7)) (fun ρ => op2 ixM (rdM ρ 2) (rdM ρ 6)) ρ) (fun ρ => ((varM ρ 4) >>= seqM >>= fun ds => pure (enumL ds))) ρ) (fun ρ =>
 seqX (storeM 5 (fun ρ => xOf ρ (op2 modM (op2 subM ((pure (PV.int 1) : M PV)) (((vCons (rdM ρ 4) (vNil)) >>= sumM))) (rdM ρ 1))) (fun ρ => op2 ixM (rdM ρ 2) (negX ((pure (PV.int 1) : M PV)))) ρ) (fun ρ =>
 exprX (appM 3 (fun ρ => xOf ρ (((vCons (rdM ρ 5) (vNil)) >>= tupM))) ρ))))) (fun ρ => ((callM 2 p_tuples_below (aVal (varM ρ 1) (aVal (op2 subM (((vCons (rdM ρ 2) (vNil)) >>= lenM)) ((pure (PV.int 1) : M PV))) (aNil)))) >>= seqM)) ρ) (fun ρ =>
 retO ρ 3))
def p_rest_rows : PProm := pdef ["ingredients", "modulus", "some", "rows", "free", "rests", "at", "rest"] (b_rest_rows)
def b_all_cases : PTS := fun ρ =>
 retX (((vCons (lstX (lc2X [2, 3] [3] (gN 2) (fun ρ => (pure true : M Bool)) (fun ρ => ((callM 3 p_rest_rows (aVal (varM ρ 0) (aVal (varM ρ 1) (aVal (varM ρ 2) (aNil))))) >>= seqM)) (gN 3) (fun ρ => (pure true : M Bool)) (fun ρ => tupX (vCons (varM ρ 2) (vCons (varM ρ 3) (vNil)))) (fun ρ => ((callM 1 p_all_sets (aVal (varM ρ 0) (aNil))) >>= seqM)) ρ)) (vNil)) >>= tupM))
def p_all_cases : PProm := pdef ["ingredients", "modulus", "some", "rests"] (b_all_cases)
def b_case_of : PTS := fun ρ =>
 retX (tupX (vCons (callM 1 p_contained (aVal (varM ρ 1) (aNil))) (vCons (callM 3 p_remainders (aVal (varM ρ 0) (aVal (varM ρ 1) (aVal (varM ρ 2) (aNil))))) (vNil))))
def p_case_of : PProm := pdef ["k", "mixture", "modulus"] (b_case_of)
def b_blend_cases : PTS := fun ρ =>
 seqX (setX 3 (xOf ρ (lstX (((lstX (lc2X [8, 7] [7] (gN 8) (fun ρ => (pure true : M Bool)) (fun ρ => ((op2 ixM (rdM ρ 8) ((pure (PV.int 0) : M PV))) >>= seqM)) (gN 7) (fun ρ => (pure true : M Bool)) (fun ρ => varM ρ 7) (fun ρ => ((rdM ρ 2) >>= seqM)) ρ)) >>= setSM))))) (fun ρ =>
 seqX (setX 4 (xOf ρ (callM 2 p_inverse (aVal (varM ρ 0) (aVal (varM ρ 1) (aNil)))))) (fun ρ =>
 seqX (setX 5 (xOf ρ (((vCons (op2 ixM (op2 ixM (rdM ρ 2) ((pure (PV.int 0) : M PV))) ((pure (PV.int 1) : M PV))) (vNil)) >>= lenM)))) (fun ρ =>
 seqX (setL 6 (lcX [7] (gN 7) (fun ρ => (pure true : M Bool)) (fun ρ => op2 modM (op2 mulM (((vCons (lstX (lcX [8] (gN 8) (fun ρ => (pure true : M Bool)) (fun ρ => op2 ixM (op2 ixM (rdM ρ 8) ((pure (PV.int 1) : M PV))) (rdM ρ 7)) (fun ρ => ((rdM ρ 2) >>= seqM)) ρ)) (vNil)) >>= sumM)) (rdM ρ 4)) (rdM ρ 1)) (fun ρ => ((vCons (rdM ρ 5) (vNil)) >>= rng1M)) ρ) ρ) (fun ρ =>
 retX (tupX (vCons (((vCons (rdM ρ 3) (vNil)) >>= tupM)) (vCons (((vCons (rdM ρ 6) (vNil)) >>= tupM)) (vNil))))))))
def p_blend_cases : PProm := pdef ["k", "modulus", "cases", "some", "scale", "many", "rests", "i", "case"] (b_blend_cases)
def b__law_of : PTS := fun ρ =>
 retX (op2 ixM (rdM ρ 1) (callM 2 p__law_any (aDeal ρ 0 (aVal (((vCons (rdM ρ 1) (vNil)) >>= lenM)) (aNil)))))
def p__law_of : PProm := pdef ["deal", "some"] (b__law_of)
def b__law_power : PTS := fun ρ =>
 seqX (setX 2 (xOf ρ ((pure (PV.int 1) : M PV)))) (fun ρ =>
 seqX (forX (gN 3)
 (fun ρ => setX 2 (xOf ρ (op2 mulM (rdM ρ 2) (rdM ρ 0)))) (fun ρ => ((vCons (rdM ρ 1) (vNil)) >>= rng1M)) ρ) (fun ρ =>
 retX (varM ρ 2)))
def p__law_power : PProm := pdef ["base", "many", "found", "turn"] (b__law_power)
def b__law_gcd : PTS := fun ρ =>
 seqX (whileP (fun ρ => (op2 (cmpM fun i j => decide (j < i)) (rdM ρ 1) ((pure (PV.int 0) : M PV)) >>= asB))
 (fun ρ => parX [0, 1] (aVal (varM ρ 1) (aVal (op2 modM (((vCons (rdM ρ 0) (vNil)) >>= intM)) (rdM ρ 1)) (aNil))) ρ) ρ) (fun ρ =>
 retX (varM ρ 0))
def p__law_gcd : PProm := pdef ["one", "other"] (b__law_gcd)
def b__law_modulus : PTS := fun ρ =>
 retX (callM 2 p__law_of (aDeal ρ 0 (aVal (lstX (lcX [3] (gN 3) (fun ρ => (op2 eqM (callM 2 p__law_gcd (aVal (varM ρ 3) (aVal (varM ρ 1) (aNil)))) ((pure (PV.int 1) : M PV)) >>= asB)) (fun ρ => varM ρ 3) (fun ρ => ((vCons ((pure (PV.int 1) : M PV)) (vCons (op2 addM (rdM ρ 2) ((pure (PV.int 1) : M PV))) (vNil))) >>= rng2M)) ρ)) (aNil))))
def p__law_modulus : PProm := pdef ["deal", "k", "top", "d"] (b__law_modulus)
def b__law_lowest : PTS := fun ρ =>
 seqX (setX 3 (xOf ρ (lstX (((vCons (rdM ρ 2) (vNil)) >>= listM))))) (fun ρ =>
 seqX (whileP (fun ρ => andB ((op2 (cmpM fun i j => decide (j < i)) (rdM ρ 1) ((pure (PV.int 0) : M PV)) >>= asB)) (((((vCons (lstX (lcX [4] (gN 4) (fun ρ => (pure true : M Bool)) (fun ρ => op2 eqM (op2 modM (((vCons (rdM ρ 4) (vNil)) >>= intM)) (rdM ρ 0)) ((pure (PV.int 0) : M PV))) (fun ρ => ((rdM ρ 3) >>= seqM)) ρ)) (vNil)) >>= allM')) >>= asB)))
 (fun ρ => parX [1, 3] (aVal (op2 subM (rdM ρ 1) ((pure (PV.int 1) : M PV))) (aVal (lstX (lcX [4] (gN 4) (fun ρ => (pure true : M Bool)) (fun ρ => op2 divM (rdM ρ 4) (rdM ρ 0)) (fun ρ => ((rdM ρ 3) >>= seqM)) ρ)) (aNil))) ρ) ρ) (fun ρ =>
 retX (tupX (vCons (varM ρ 1) (vCons (((vCons (rdM ρ 3) (vNil)) >>= tupM)) (vNil))))))
def p__law_lowest : PProm := pdef ["k", "n", "counts", "row", "count"] (b__law_lowest)
def b__law_split : PTS := fun ρ =>
 seqX (parX [4, 5] (aOwn (lcX [7] (gN 7) (fun ρ => (pure true : M Bool)) (fun ρ => (pure (PV.int 0) : M PV)) (fun ρ => ((vCons (rdM ρ 2) (vNil)) >>= rng1M)) ρ) (aVal (op2 subM (rdM ρ 1) (((vCons (rdM ρ 3) (vNil)) >>= lenM))) (aNil))) ρ) (fun ρ =>
 seqX (forX (unTup 2 (unCons (gN 6) (unCons (gN 7) (unNil))))
 (fun ρ => seqX (setX 8 (xOf ρ (ifX ((op2 eqM (rdM ρ 6) (op2 subM (((vCons (rdM ρ 3) (vNil)) >>= lenM)) ((pure (PV.int 1) : M PV))) >>= asB)) (varM ρ 5) (callM 2 p__law_any (aDeal ρ 0 (aVal (op2 addM (rdM ρ 5) ((pure (PV.int 1) : M PV))) (aNil))))))) (fun ρ =>
 seqX (ifX (andB ((op2 (cmpM fun i j => decide (i < j)) (rdM ρ 6) (op2 subM (((vCons (rdM ρ 3) (vNil)) >>= lenM)) ((pure (PV.int 1) : M PV))) >>= asB)) ((op2 eqM (callM 2 p__law_any (aDeal ρ 0 (aVal ((pure (PV.int 4) : M PV)) (aNil)))) ((pure (PV.int 0) : M PV)) >>= asB)))
 (setX 8 (xOf ρ (((vCons (rdM ρ 8) (vCons ((pure (PV.int 1) : M PV)) (vNil))) >>= min2M))))
 ((pure (Fl.nx ρ) : M Fl))) (fun ρ =>
 asgX (unTup 2 (unCons (stM 4 (fun ρ => rdM ρ 7)) (unCons (gN 5) (unNil)))) (xOf ρ (tupX (vCons (op2 addM ((pure (PV.int 1) : M PV)) (rdM ρ 8)) (vCons (op2 subM (rdM ρ 5) (rdM ρ 8)) (vNil)))))))) (fun ρ => ((varM ρ 3) >>= seqM >>= fun ds => pure (enumL ds))) ρ) (fun ρ =>
 retO ρ 4))
def p__law_split : PProm := pdef ["deal", "whole", "many", "some", "row", "left", "turn", "at", "take"] (b__law_split)
def b__law_some : PTS := fun ρ =>
 seqX (setL 2 (lcX [3] (gN 3) (fun ρ => (op2 (cmpM fun i j => decide (j < i)) (callM 2 p__law_any (aDeal ρ 0 (aVal ((pure (PV.int 4) : M PV)) (aNil)))) ((pure (PV.int 0) : M PV)) >>= asB)) (fun ρ => varM ρ 3) (fun ρ => ((vCons (rdM ρ 1) (vNil)) >>= rng1M)) ρ) ρ) (fun ρ =>
 retX (ifX ((op2 neEM (rdM ρ 2) (lstX (((vNil) >>= fitM))) >>= asB)) (varM ρ 2) (lstX (((vCons (callM 2 p__law_any (aDeal ρ 0 (aVal (varM ρ 1) (aNil)))) (vNil)) >>= fitM)))))
def p__law_some : PProm := pdef ["deal", "many", "some", "at"] (b__law_some)
def b__law_mixture : PTS := fun ρ =>
 seqX (parX [4, 5] (aVal (callM 2 p__law_some (aDeal ρ 0 (aVal (varM ρ 2) (aNil)))) (aVal (callM 2 p__law_any (aDeal ρ 0 (aVal (op2 addM (rdM ρ 3) ((pure (PV.int 1) : M PV))) (aNil)))) (aNil))) ρ) (fun ρ =>
 seqX (whileP (fun ρ => (op2 (cmpM fun i j => decide (i < j)) (callM 2 p__law_power (aVal (varM ρ 1) (aVal (varM ρ 5) (aNil)))) (((vCons (rdM ρ 4) (vNil)) >>= lenM)) >>= asB))
 (fun ρ => setX 5 (xOf ρ (op2 addM (rdM ρ 5) ((pure (PV.int 1) : M PV))))) ρ) (fun ρ =>
 retX (callM 3 p__law_lowest (aVal (varM ρ 1) (aVal (varM ρ 5) (aVal (callM 4 p__law_split (aDeal ρ 0 (aVal (callM 2 p__law_power (aVal (varM ρ 1) (aVal (varM ρ 5) (aNil)))) (aVal (varM ρ 2) (aVal (varM ρ 4) (aNil)))))) (aNil)))))))
def p__law_mixture : PProm := pdef ["deal", "k", "many", "deep", "some", "n"] (b__law_mixture)
def b__law_rest : PTS := fun ρ =>
 seqX (parNX [4, 5] (aVal ((pure (PV.int 1) : M PV)) (aVal ((pure (PV.int 0) : M PV)) (aNil))) ρ) (fun ρ =>
 seqX (forX (gN 6)
 (fun ρ => ifX ((op2 eqM (op2 modM (((vCons (op2 subM (op2 mulM (rdM ρ 6) (rdM ρ 0)) ((pure (PV.int 1) : M PV))) (vNil)) >>= intM)) (rdM ρ 3)) ((pure (PV.int 0) : M PV)) >>= asB))
 (setX 5 (xOf ρ (varM ρ 6)))
 ((pure (Fl.nx ρ) : M Fl))) (fun ρ => ((vCons (rdM ρ 3) (vNil)) >>= rng1M)) ρ) (fun ρ =>
 seqX (forX (gN 7)
 (fun ρ => setX 4 (xOf ρ (op2 modM (((vCons (op2 mulM (rdM ρ 4) (rdM ρ 5)) (vNil)) >>= intM)) (rdM ρ 3)))) (fun ρ => ((vCons (rdM ρ 1) (vNil)) >>= rng1M)) ρ) (fun ρ =>
 retX (op2 modM (((vCons (op2 mulM (rdM ρ 2) (rdM ρ 4)) (vNil)) >>= intM)) (rdM ρ 3)))))
def p__law_rest : PProm := pdef ["k", "n", "count", "d", "scale", "step", "rest", "turn"] (b__law_rest)
def b__law_case : PTS := fun ρ =>
 seqX (setX 3 (xOf ρ (((vCons (lstX (lcX [4, 5] (unTup 2 (unCons (gN 4) (unCons (gN 5) (unNil)))) (fun ρ => (op2 (cmpM fun i j => decide (j < i)) (rdM ρ 5) ((pure (PV.int 0) : M PV)) >>= asB)) (fun ρ => varM ρ 4) (fun ρ => ((vCons (op2 ixM (rdM ρ 1) ((pure (PV.int 1) : M PV))) (vNil)) >>= oneM >>= seqM >>= fun ds => pure (enumL ds))) ρ)) (vNil)) >>= tupM)))) (fun ρ =>
 retX (tupX (vCons (varM ρ 3) (vCons (((vCons (lstX (lcX [5] (gN 5) (fun ρ => (pure true : M Bool)) (fun ρ => callM 4 p__law_rest (aVal (varM ρ 0) (aVal (op2 ixM (rdM ρ 1) ((pure (PV.int 0) : M PV))) (aVal (varM ρ 5) (aVal (varM ρ 2) (aNil)))))) (fun ρ => ((op2 ixM (rdM ρ 1) ((pure (PV.int 1) : M PV))) >>= seqM)) ρ)) (vNil)) >>= tupM)) (vNil)))))
def p__law_case : PProm := pdef ["k", "mixture", "d", "some", "at", "count"] (b__law_case)
def b__law_sets : PTS := fun ρ =>
 seqX (setX 1 (xOf ρ (lstX (((vCons (tupX (vNil)) (vNil)) >>= fitM))))) (fun ρ =>
 seqX (forX (gN 2)
 (fun ρ => setX 1 (xOf ρ (op2 addM (rdM ρ 1) (lstX (lcX [3] (gN 3) (fun ρ => (pure true : M Bool)) (fun ρ => op2 addM (rdM ρ 3) (tupX (vCons (varM ρ 2) (vNil)))) (fun ρ => ((rdM ρ 1) >>= seqM)) ρ))))) (fun ρ => ((vCons (rdM ρ 0) (vNil)) >>= rng1M)) ρ) (fun ρ =>
 retX (lstX (((vCons (lstX (lcX [3] (gN 3) (fun ρ => (op2 neM (rdM ρ 3) (tupX (vNil)) >>= asB)) (fun ρ => varM ρ 3) (fun ρ => ((rdM ρ 1) >>= seqM)) ρ)) (vNil)) >>= sortAM)))))
def p__law_sets : PProm := pdef ["many", "rows", "at", "row"] (b__law_sets)
def b__law_cases : PTS := fun ρ =>
 seqX (setO 2 (((vNil) >>= fitM)) ρ) (fun ρ =>
 seqX (forX (gN 3)
 (fun ρ => seqX (setX 4 (xOf ρ (lstX (((vCons (lstX (((vNil) >>= fitM))) (vNil)) >>= fitM))))) (fun ρ =>
 seqX (forX (gN 5)
 (fun ρ => seqX (setX 6 (xOf ρ (lstX (((vNil) >>= fitM))))) (fun ρ =>
 seqX (forX (gN 7)
 (fun ρ => setX 6 (xOf ρ (op2 addM (rdM ρ 6) (lstX (lcX [11] (gN 11) (fun ρ => (pure true : M Bool)) (fun ρ => op2 addM (rdM ρ 7) (lstX (((vCons (varM ρ 11) (vNil)) >>= fitM)))) (fun ρ => ((vCons (rdM ρ 1) (vNil)) >>= rng1M)) ρ))))) (fun ρ => ((varM ρ 4) >>= seqM)) ρ) (fun ρ =>
 setX 4 (xOf ρ (varM ρ 6))))) (fun ρ => ((sliceX (rdM ρ 3) (partX ((pure (PV.int 1) : M PV))) ((pure none : M (Option Int)))) >>= seqM)) ρ) (fun ρ =>
 forX (gN 7)
 (fun ρ => seqX (parX [8, 9] (aOwn (lcX [5] (gN 5) (fun ρ => (pure true : M Bool)) (fun ρ => (pure (PV.int 0) : M PV)) (fun ρ => ((vCons (rdM ρ 0) (vNil)) >>= rng1M)) ρ) (aVal (op2 addM (rdM ρ 7) (lstX (((vCons (op2 modM (((vCons (op2 subM ((pure (PV.int 1) : M PV)) (((vCons (rdM ρ 7) (vNil)) >>= sumM))) (vNil)) >>= intM)) (rdM ρ 1)) (vNil)) >>= fitM)))) (aNil))) ρ) (fun ρ =>
 seqX (forX (unTup 2 (unCons (gN 10) (unCons (gN 5) (unNil))))
 (fun ρ => storeM 8 (fun ρ => xOf ρ (op2 ixM (rdM ρ 9) (rdM ρ 10))) (fun ρ => rdM ρ 5) ρ) (fun ρ => ((varM ρ 3) >>= seqM >>= fun ds => pure (enumL ds))) ρ) (fun ρ =>
 exprX (appM 2 (fun ρ => xOf ρ (tupX (vCons (varM ρ 3) (vCons (((vCons (rdM ρ 8) (vNil)) >>= tupM)) (vNil))))) ρ)))) (fun ρ => ((varM ρ 4) >>= seqM)) ρ))) (fun ρ => ((callM 1 p__law_sets (aVal (varM ρ 0) (aNil))) >>= seqM)) ρ) (fun ρ =>
 retX (lstX (((vCons (rdM ρ 2) (vNil)) >>= sortAM)))))
def p__law_cases : PProm := pdef ["many", "d", "found", "some", "rows", "at", "longer", "row", "full", "shown", "spot", "rest"] (b__law_cases)
def b__law_recipe (p__law_recipe : PProm) : PTS := fun ρ =>
 seqX (ifX (orB ((op2 eqM (rdM ρ 3) ((pure (PV.int 0) : M PV)) >>= asB)) ((op2 (cmpM fun i j => decide (i < j)) (callM 2 p__law_any (aDeal ρ 0 (aVal (op2 addM ((pure (PV.int 2) : M PV)) (rdM ρ 1)) (aNil)))) (op2 subM (rdM ρ 1) ((pure (PV.int 1) : M PV))) >>= asB)))
 (retX (callM 2 p__law_any (aDeal ρ 0 (aVal (varM ρ 2) (aNil)))))
 ((pure (Fl.nx ρ) : M Fl))) (fun ρ =>
 retX (((vCons (lstX (lcX [4] (gN 4) (fun ρ => (pure true : M Bool)) (fun ρ => callM 4 p__law_recipe (aDeal ρ 0 (aVal (varM ρ 1) (aVal (varM ρ 2) (aVal (op2 subM (rdM ρ 3) ((pure (PV.int 1) : M PV))) (aNil)))))) (fun ρ => ((vCons (rdM ρ 1) (vNil)) >>= rng1M)) ρ)) (vNil)) >>= tupM)))
def r__law_recipe (p__law_recipe : PProm) : PProm := pdef ["deal", "k", "many", "deep", "cup"] (b__law_recipe p__law_recipe)
def pRecipe : Nat → PProm
  | 0 => fun _ => failM
  | n + 1 => r__law_recipe (pRecipe n)
abbrev p__law_recipe : PProm := pRecipe 5
def b__law_stray : PTS := fun ρ =>
 seqX (ifX (((((rdM ρ 1) >>= isiM "str")) >>= asB))
 ((failM : M Fl))
 ((pure (Fl.nx ρ) : M Fl))) (fun ρ =>
 seqX (ifX (((((rdM ρ 1) >>= isiM "int")) >>= asB))
 (retX (callM 2 p__law_of (aDeal ρ 0 (aVal (lstX (((vCons (op2 addM (rdM ρ 1) ((pure (PV.int 1) : M PV))) (vCons (op2 subM (rdM ρ 1) ((pure (PV.int 1) : M PV))) (vCons (op2 subM ((pure (PV.int 0) : M PV)) (rdM ρ 1)) (vCons (op2 mulM (rdM ρ 1) ((pure (PV.int 2) : M PV))) (vCons (((vCons (rdM ρ 1) (vNil)) >>= strM)) (vCons ((pure PV.non : M PV)) (vCons (tupX (vCons (varM ρ 1) (vNil))) (vCons ((pure (PV.bl true) : M PV)) (vCons ((pure (PV.bl false) : M PV)) (vCons ((pure (PV.int 0) : M PV)) (vNil))))))))))) >>= fitM))) (aNil)))))
 ((pure (Fl.nx ρ) : M Fl))) (fun ρ =>
 seqX (ifX (((((rdM ρ 1) >>= isiM "tuple")) >>= asB))
 (retX (callM 2 p__law_of (aDeal ρ 0 (aVal (lstX (((vCons (lstX (((vCons (rdM ρ 1) (vNil)) >>= listM))) (vCons ((pure PV.non : M PV)) (vCons (tupX (vNil)) (vCons (op2 mulM (rdM ρ 1) ((pure (PV.int 2) : M PV))) (vCons (((vCons (rdM ρ 1) (vNil)) >>= reprM)) (vCons ((pure (PV.int 0) : M PV)) (vCons (tupX (vCons (varM ρ 1) (vNil))) (vCons (((rdM ρ 1) >>= revM)) (vCons ((pure PV.dic : M PV)) (vCons ((pure (PV.str "told") : M PV)) (vNil))))))))))) >>= fitM))) (aNil)))))
 ((pure (Fl.nx ρ) : M Fl))) (fun ρ =>
 retX (callM 2 p__law_of (aDeal ρ 0 (aVal (lstX (((vCons ((pure PV.non : M PV)) (vCons (tupX (vNil)) (vCons ((pure (PV.int 0) : M PV)) (vCons ((pure (PV.str "") : M PV)) (vCons (tupX (vCons (varM ρ 1) (vNil))) (vNil)))))) >>= fitM))) (aNil)))))))
def p__law_stray : PProm := pdef ["deal", "value"] (b__law_stray)
def b__law_spoil (p__law_spoil : PProm) : PTS := fun ρ =>
 seqX (ifX (orB (notB (((((rdM ρ 1) >>= isiM "tuple")) >>= asB))) (orB ((op2 eqM (((vCons (rdM ρ 1) (vNil)) >>= lenM)) ((pure (PV.int 0) : M PV)) >>= asB)) ((op2 eqM (callM 2 p__law_any (aDeal ρ 0 (aVal ((pure (PV.int 6) : M PV)) (aNil)))) ((pure (PV.int 0) : M PV)) >>= asB))))
 (retX (callM 2 p__law_stray (aDeal ρ 0 (aVal (varM ρ 1) (aNil)))))
 ((pure (Fl.nx ρ) : M Fl))) (fun ρ =>
 seqX (parX [2, 3] (aVal (callM 2 p__law_any (aDeal ρ 0 (aVal (((vCons (rdM ρ 1) (vNil)) >>= lenM)) (aNil)))) (aVal (callM 2 p__law_any (aDeal ρ 0 (aVal ((pure (PV.int 9) : M PV)) (aNil)))) (aNil))) ρ) (fun ρ =>
 seqX (ifX ((op2 eqM (rdM ρ 3) ((pure (PV.int 0) : M PV)) >>= asB))
 (retX (op2 addM (sliceX (rdM ρ 1) ((pure none : M (Option Int))) (partX (rdM ρ 2))) (sliceX (rdM ρ 1) (partX (op2 addM (rdM ρ 2) ((pure (PV.int 1) : M PV)))) ((pure none : M (Option Int))))))
 ((pure (Fl.nx ρ) : M Fl))) (fun ρ =>
 seqX (ifX ((op2 eqM (rdM ρ 3) ((pure (PV.int 1) : M PV)) >>= asB))
 (retX (op2 addM (sliceX (rdM ρ 1) ((pure none : M (Option Int))) (partX (op2 addM (rdM ρ 2) ((pure (PV.int 1) : M PV))))) (sliceX (rdM ρ 1) (partX (rdM ρ 2)) ((pure none : M (Option Int))))))
 ((pure (Fl.nx ρ) : M Fl))) (fun ρ =>
 seqX (ifX ((op2 eqM (rdM ρ 3) ((pure (PV.int 2) : M PV)) >>= asB))
 (retX (op2 addM (sliceX (rdM ρ 1) ((pure none : M (Option Int))) (partX (rdM ρ 2))) (((sliceX (rdM ρ 1) (partX (rdM ρ 2)) ((pure none : M (Option Int)))) >>= revM))))
 ((pure (Fl.nx ρ) : M Fl))) (fun ρ =>
 retX (op2 addM (op2 addM (sliceX (rdM ρ 1) ((pure none : M (Option Int))) (partX (rdM ρ 2))) (tupX (vCons (callM 2 p__law_spoil (aDeal ρ 0 (aVal (op2 ixM (rdM ρ 1) (rdM ρ 2)) (aNil)))) (vNil)))) (sliceX (rdM ρ 1) (partX (op2 addM (rdM ρ 2) ((pure (PV.int 1) : M PV)))) ((pure none : M (Option Int))))))))))
def r__law_spoil (p__law_spoil : PProm) : PProm := pdef ["deal", "value", "at", "kind"] (b__law_spoil p__law_spoil)
def pSpoil : Nat → PProm
  | 0 => fun _ => failM
  | n + 1 => r__law_spoil (pSpoil n)
abbrev p__law_spoil : PProm := pSpoil 5
def b__law_is_case : PTS := fun ρ =>
 seqX (ifX (orB (notB (((((rdM ρ 1) >>= isiM "tuple")) >>= asB))) ((op2 neM (((vCons (rdM ρ 1) (vNil)) >>= lenM)) ((pure (PV.int 2) : M PV)) >>= asB)))
 (retX ((pure (PV.bl false) : M PV)))
 ((pure (Fl.nx ρ) : M Fl))) (fun ρ =>
 seqX (forX (gN 2)
 (fun ρ => seqX (ifX (notB (((((rdM ρ 2) >>= isiM "tuple")) >>= asB)))
 (retX ((pure (PV.bl false) : M PV)))
 ((pure (Fl.nx ρ) : M Fl))) (fun ρ =>
 ifX ((op2 neEM (lstX (lcX [3] (gN 3) (fun ρ => orB (notB (((((rdM ρ 3) >>= isiM "int")) >>= asB))) (((((rdM ρ 3) >>= isiM "bool")) >>= asB))) (fun ρ => varM ρ 3) (fun ρ => ((rdM ρ 2) >>= seqM)) ρ)) (lstX (((vNil) >>= fitM))) >>= asB))
 (retX ((pure (PV.bl false) : M PV)))
 ((pure (Fl.nx ρ) : M Fl)))) (fun ρ => ((varM ρ 1) >>= seqM)) ρ) (fun ρ =>
 retX (op2 inAM (rdM ρ 1) (rdM ρ 0))))
def p__law_is_case : PProm := pdef ["cases", "value", "row", "one"] (b__law_is_case)
def b__law_blended : PTS := fun ρ =>
 seqX (setX 2 (xOf ρ (((vCons (lstX (lcX [8] (gN 8) (fun ρ => (pure true : M Bool)) (fun ρ => op2 ixM (rdM ρ 8) ((pure (PV.int 0) : M PV))) (fun ρ => ((rdM ρ 1) >>= seqM)) ρ)) (vNil)) >>= maxM)))) (fun ρ =>
 seqX (setO 3 (lcX [7] (gN 7) (fun ρ => (pure true : M Bool)) (fun ρ => (pure (PV.int 0) : M PV)) (fun ρ => ((op2 ixM (op2 ixM (rdM ρ 1) ((pure (PV.int 0) : M PV))) ((pure (PV.int 1) : M PV))) >>= seqM)) ρ) ρ) (fun ρ =>
 seqX (forX (unTup 2 (unCons (gN 4) (unCons (gN 5) (unNil))))
 (fun ρ => forX (unTup 2 (unCons (gN 6) (unCons (gN 7) (unNil))))
 (fun ρ => storeM 3 (fun ρ => xOf ρ (op2 addM (op2 ixM (rdM ρ 3) (rdM ρ 6)) (op2 mulM (rdM ρ 7) (callM 2 p__law_power (aVal (varM ρ 0) (aVal (op2 subM (rdM ρ 2) (rdM ρ 4)) (aNil))))))) (fun ρ => rdM ρ 6) ρ) (fun ρ => ((varM ρ 5) >>= seqM >>= fun ds => pure (enumL ds))) ρ) (fun ρ => ((varM ρ 1) >>= seqM)) ρ) (fun ρ =>
 frzX 3 (fun ρ => retX (callM 3 p__law_lowest (aVal (varM ρ 0) (aVal (op2 addM (rdM ρ 2) ((pure (PV.int 1) : M PV))) (aVal (varM ρ 3) (aNil)))))) ρ)))
def p__law_blended : PProm := pdef ["k", "cups", "n", "counts", "deep", "row", "at", "count", "cup"] (b__law_blended)
def b__law_walked (p__law_walked : PProm) : PTS := fun ρ =>
 seqX (ifX (notB (((((rdM ρ 3) >>= isiM "tuple")) >>= asB)))
 (seqX (setX 4 (xOf ρ (tupX (vCons ((pure (PV.int 0) : M PV)) (vCons (((vCons (lstX (lcX [10] (gN 10) (fun ρ => (pure true : M Bool)) (fun ρ => ifX ((op2 eqM (rdM ρ 10) (rdM ρ 3) >>= asB)) ((pure (PV.int 1) : M PV)) ((pure (PV.int 0) : M PV))) (fun ρ => ((vCons (rdM ρ 1) (vNil)) >>= rng1M)) ρ)) (vNil)) >>= tupM)) (vNil)))))) (fun ρ =>
 retX (tupX (vCons (varM ρ 4) (vCons (callM 3 p_case_of (aVal (varM ρ 0) (aVal (varM ρ 4) (aVal (varM ρ 2) (aNil))))) (vNil))))))
 ((pure (Fl.nx ρ) : M Fl))) (fun ρ =>
 seqX (parX [5, 6] (aOwn (((vNil) >>= fitM)) (aOwn (((vNil) >>= fitM)) (aNil))) ρ) (fun ρ =>
 seqX (forX (gN 7)
 (fun ρ => seqX (asgX (unTup 2 (unCons (gN 8) (unCons (gN 9) (unNil)))) (xOf ρ (callM 4 p__law_walked (aVal (varM ρ 0) (aVal (varM ρ 1) (aVal (varM ρ 2) (aVal (varM ρ 7) (aNil)))))))) (fun ρ =>
 seqX (exprX (appM 5 (fun ρ => xOf ρ (varM ρ 8)) ρ)) (fun ρ =>
 exprX (appM 6 (fun ρ => xOf ρ (varM ρ 9)) ρ)))) (fun ρ => ((varM ρ 3) >>= seqM)) ρ) (fun ρ =>
 frzX 6 (fun ρ => frzX 5 (fun ρ => retX (tupX (vCons (callM 2 p__law_blended (aVal (varM ρ 0) (aVal (varM ρ 5) (aNil)))) (vCons (callM 3 p_blend_cases (aVal (varM ρ 0) (aVal (varM ρ 2) (aVal (varM ρ 6) (aNil))))) (vNil))))) ρ) ρ)))
def r__law_walked (p__law_walked : PProm) : PProm := pdef ["k", "many", "d", "recipe", "pure", "cups", "cases", "part", "mixture", "case", "at"] (b__law_walked p__law_walked)
def pWalked : Nat → PProm
  | 0 => fun _ => failM
  | n + 1 => r__law_walked (pWalked n)
abbrev p__law_walked : PProm := pWalked 5
def b__law_sizes : PTS := fun ρ =>
 seqX (setX 2 (xOf ρ (callM 2 p__law_of (aDeal ρ 0 (aVal (lstX (((vCons ((pure (PV.int 1) : M PV)) (vCons ((pure (PV.int 2) : M PV)) (vCons ((pure (PV.int 2) : M PV)) (vCons ((pure (PV.int 2) : M PV)) (vCons ((pure (PV.int 3) : M PV)) (vCons ((pure (PV.int 3) : M PV)) (vCons ((pure (PV.int 4) : M PV)) (vNil)))))))) >>= fitM))) (aNil)))))) (fun ρ =>
 retX (tupX (vCons (varM ρ 2) (vCons (callM 3 p__law_modulus (aDeal ρ 0 (aVal (varM ρ 1) (aVal (op2 ixM (lstX (((vCons ((pure (PV.int 30) : M PV)) (vCons ((pure (PV.int 30) : M PV)) (vCons ((pure (PV.int 7) : M PV)) (vCons ((pure (PV.int 3) : M PV)) (vNil))))) >>= fitM))) (op2 subM (rdM ρ 2) ((pure (PV.int 1) : M PV)))) (aNil))))) (vNil)))))
def p__law_sizes : PProm := pdef ["deal", "k", "many"] (b__law_sizes)
def b_law : PTS := fun ρ =>
 seqX (drawX 1 (varM ρ 0) ((pure (PV.int 15) : M PV)) ρ) (fun ρ =>
 seqX (forX (gN 2)
 (fun ρ => seqX (setX 3 (xOf ρ (callM 2 p__law_of (aDeal ρ 1 (aVal (lstX (((vCons ((pure (PV.int 2) : M PV)) (vCons ((pure (PV.int 2) : M PV)) (vCons ((pure (PV.int 3) : M PV)) (vCons ((pure (PV.int 4) : M PV)) (vCons ((pure (PV.int 5) : M PV)) (vNil)))))) >>= fitM))) (aNil)))))) (fun ρ =>
 seqX (asgX (unTup 2 (unCons (gN 4) (unCons (gN 5) (unNil)))) (xOf ρ (callM 2 p__law_sizes (aDeal ρ 1 (aVal (varM ρ 3) (aNil)))))) (fun ρ =>
 seqX (setX 6 (xOf ρ (callM 2 p__law_cases (aVal (varM ρ 4) (aVal (varM ρ 5) (aNil)))))) (fun ρ =>
 seqX (ifX ((op2 neTM (((vCons (callM 2 p_all_cases (aVal (varM ρ 4) (aVal (varM ρ 5) (aNil)))) (vNil)) >>= reprM)) (((vCons (((vCons (rdM ρ 6) (vNil)) >>= tupM)) (vNil)) >>= reprM)) >>= asB))
 (retX ((pure (PV.bl false) : M PV)))
 ((pure (Fl.nx ρ) : M Fl))) (fun ρ =>
 seqX (forX (gN 7)
 (fun ρ => seqX (setX 8 (xOf ρ (callM 2 p__law_of (aDeal ρ 1 (aVal (varM ρ 6) (aNil)))))) (fun ρ =>
 seqX (forX (gN 9)
 (fun ρ => ifX ((op2 neTM (((vCons (callM 3 p_is_case (aVal (varM ρ 4) (aVal (varM ρ 5) (aVal (varM ρ 9) (aNil))))) (vNil)) >>= reprM)) (((vCons (callM 2 p__law_is_case (aVal (varM ρ 6) (aVal (varM ρ 9) (aNil)))) (vNil)) >>= reprM)) >>= asB))
 (retX ((pure (PV.bl false) : M PV)))
 ((pure (Fl.nx ρ) : M Fl))) (fun ρ => ((tupX (vCons (varM ρ 8) (vCons (callM 2 p__law_spoil (aDeal ρ 1 (aVal (varM ρ 8) (aNil)))) (vCons (callM 2 p__law_spoil (aDeal ρ 1 (aVal (callM 2 p__law_of (aDeal ρ 1 (aVal (varM ρ 6) (aNil)))) (aNil)))) (vNil))))) >>= seqM)) ρ) (fun ρ =>
 seqX (setX 10 (xOf ρ (((vCons (lstX (lcX [17] (gN 17) (fun ρ => (pure true : M Bool)) (fun ρ => op2 modM (((vCons (op2 addM (rdM ρ 17) (callM 2 p__law_any (aDeal ρ 1 (aVal ((pure (PV.int 2) : M PV)) (aNil))))) (vNil)) >>= intM)) (rdM ρ 5)) (fun ρ => ((op2 ixM (rdM ρ 8) ((pure (PV.int 1) : M PV))) >>= seqM)) ρ)) (vNil)) >>= tupM)))) (fun ρ =>
 seqX (setX 11 (xOf ρ (tupX (vCons (callM 2 p__law_of (aDeal ρ 1 (aVal (lstX (((vCons (op2 ixM (rdM ρ 8) ((pure (PV.int 0) : M PV))) (vCons (op2 ixM (rdM ρ 8) ((pure (PV.int 0) : M PV))) (vCons (((vCons (callM 2 p__law_some (aDeal ρ 1 (aVal (varM ρ 4) (aNil)))) (vNil)) >>= tupM)) (vNil)))) >>= fitM))) (aNil)))) (vCons (varM ρ 10) (vNil)))))) (fun ρ =>
 seqX (ifX ((op2 neTM (((vCons (callM 3 p_is_case (aVal (varM ρ 4) (aVal (varM ρ 5) (aVal (varM ρ 11) (aNil))))) (vNil)) >>= reprM)) (((vCons (callM 2 p__law_is_case (aVal (varM ρ 6) (aVal (varM ρ 11) (aNil)))) (vNil)) >>= reprM)) >>= asB))
 (retX ((pure (PV.bl false) : M PV)))
 ((pure (Fl.nx ρ) : M Fl))) (fun ρ =>
 seqX (setX 12 (xOf ρ (callM 4 p__law_mixture (aDeal ρ 1 (aVal (varM ρ 3) (aVal (varM ρ 4) (aVal ((pure (PV.int 6) : M PV)) (aNil)))))))) (fun ρ =>
 ifX ((op2 neTM (((vCons (callM 3 p_case_of (aVal (varM ρ 3) (aVal (varM ρ 12) (aVal (varM ρ 5) (aNil))))) (vNil)) >>= reprM)) (((vCons (callM 3 p__law_case (aVal (varM ρ 3) (aVal (varM ρ 12) (aVal (varM ρ 5) (aNil))))) (vNil)) >>= reprM)) >>= asB))
 (retX ((pure (PV.bl false) : M PV)))
 ((pure (Fl.nx ρ) : M Fl))))))))) (fun ρ => ((vCons ((pure (PV.int 4) : M PV)) (vNil)) >>= rng1M)) ρ) (fun ρ =>
 seqX (setL 13 (lcX [16] (gN 16) (fun ρ => (pure true : M Bool)) (fun ρ => callM 4 p__law_mixture (aDeal ρ 1 (aVal (varM ρ 3) (aVal (varM ρ 4) (aVal ((pure (PV.int 4) : M PV)) (aNil)))))) (fun ρ => ((vCons (rdM ρ 3) (vNil)) >>= rng1M)) ρ) ρ) (fun ρ =>
 seqX (setL 14 (lcX [16] (gN 16) (fun ρ => (pure true : M Bool)) (fun ρ => callM 3 p__law_case (aVal (varM ρ 3) (aVal (varM ρ 16) (aVal (varM ρ 5) (aNil))))) (fun ρ => ((rdM ρ 13) >>= seqM)) ρ) ρ) (fun ρ =>
 seqX (setX 15 (xOf ρ (((vCons (rdM ρ 14) (vNil)) >>= reprM)))) (fun ρ =>
 seqX (ifX (orB ((op2 neTM (((vCons (callM 3 p_blend_cases (aVal (varM ρ 3) (aVal (varM ρ 5) (aVal (varM ρ 14) (aNil))))) (vNil)) >>= reprM)) (((vCons (callM 3 p__law_case (aVal (varM ρ 3) (aVal (callM 2 p__law_blended (aVal (varM ρ 3) (aVal (varM ρ 13) (aNil)))) (aVal (varM ρ 5) (aNil))))) (vNil)) >>= reprM)) >>= asB)) ((op2 neTM (((vCons (rdM ρ 14) (vNil)) >>= reprM)) (rdM ρ 15) >>= asB)))
 (retX ((pure (PV.bl false) : M PV)))
 ((pure (Fl.nx ρ) : M Fl))) (fun ρ =>
 seqX (asgX (unTup 2 (unCons (gN 12) (unCons (gN 8) (unNil)))) (xOf ρ (callM 4 p__law_walked (aVal (varM ρ 3) (aVal (varM ρ 4) (aVal (varM ρ 5) (aVal (callM 4 p__law_recipe (aDeal ρ 1 (aVal (varM ρ 3) (aVal (varM ρ 4) (aVal (ifX ((op2 eqM (rdM ρ 3) ((pure (PV.int 2) : M PV)) >>= asB)) ((pure (PV.int 3) : M PV)) ((pure (PV.int 2) : M PV))) (aNil)))))) (aNil)))))))) (fun ρ =>
 ifX ((op2 neTM (((vCons (rdM ρ 8) (vNil)) >>= reprM)) (((vCons (callM 3 p__law_case (aVal (varM ρ 3) (aVal (varM ρ 12) (aVal (varM ρ 5) (aNil))))) (vNil)) >>= reprM)) >>= asB))
 (retX ((pure (PV.bl false) : M PV)))
 ((pure (Fl.nx ρ) : M Fl))))))))))))) (fun ρ => ((vCons ((pure (PV.int 2) : M PV)) (vNil)) >>= rng1M)) ρ) (fun ρ =>
 retX (op2 eqTM (((vCons (callK0M 3 3 [2, 0, 1] p_case_of (aVal (varM ρ 12) (aVal (varM ρ 5) (aVal (varM ρ 3) (aNil))))) (vNil)) >>= reprM)) (((vCons (rdM ρ 8) (vNil)) >>= reprM)))))
def p_law : PProm := pdef ["script", "deal", "turn", "k", "many", "d", "cases", "more", "case", "value", "rests", "near", "mixture", "cups", "shown", "kept", "cup", "rest"] (b_law)
end Q15
namespace Q15
open PySem PySem.Spec PyProof.Rows L2 LamX L3
abbrev I (i : Int) : Sl := .val (.int i)
theorem mul_cong {m a b c d : Int} (h1 : a % m = b % m) (h2 : c % m = d % m) : (a * c) % m = (b * d) % m := by rw [Int.mul_emod, h1, h2, ← Int.mul_emod]
theorem pow_cong {m a b : Int} (h : a % m = b % m) : ∀ n : Nat, a ^ n % m = b ^ n % m
  | 0 => by rw [Int.pow_zero, Int.pow_zero]
  | n + 1 => by
    rw [Int.pow_succ, Int.pow_succ]
    exact mul_cong (pow_cong h n) h
theorem and_one {l : Int} : (Builtin.bitAnd l 1 != 0) = decide (l % 2 = 1) := by
  rw [bitAnd_m1]
  by_cases h : l % 2 = 1
  · rw [h]; rfl
  · have : l % 2 = 0 := by omega
    rw [this]; rfl
theorem wid_small {i : Int} (h : i.natAbs < 2 ^ 200) : Wid i := Nat.lt_trans h (Nat.pow_lt_pow_right (by decide) (by decide))
theorem wid_lt {i m : Int} (h0 : 0 ≤ i) (h1 : i < m) (hm : m ≤ 2 ^ 200) : Wid i := wid_small (by omega)
theorem m_power_modulo {b e m : Int} {Q : PV → Prop} {R : RS} (h0 : 0 ≤ b) (h1 : b < 2 ^ 200) (he : 0 ≤ e) (hm : 0 < m) (hm2 : m ≤ 2 ^ 200) (h : Q (.int (b ^ e.toNat % m))) : p_power_modulo [I b, I e, I m] Q R := by
  unfold p_power_modulo b_power_modulo
  simp only [l3s, wipeR, List.map, List.length_cons, List.length_nil, List.replicate, List.cons_append, List.nil_append, List.getElem?_cons_zero, List.getElem?_cons_succ, List.set_cons_zero, List.set_cons_succ, Nat.reduceAdd, Nat.reduceLT, Nat.reduceSub, Nat.reduceEqDiff, true_and, and_true, Nat.zero_lt_succ]
  refine ⟨hm, ?_⟩
  refine whileP_go (fun n ρ => ∃ f s l : Int, ρ = [some (I b), some (I e), some (I m), some (I f), some (I s), some (I l)] ∧ 0 ≤ l ∧ l.toNat = n ∧ 0 ≤ f ∧ f < m ∧ 0 ≤ s ∧ s < 2 ^ 200 ∧ (f * s ^ l.toNat) % m = b ^ e.toNat % m) e.toNat ⟨_, _, _, rfl, he, rfl, Int.emod_nonneg _ (by omega), Int.emod_lt_of_pos _ hm, h0, h1, ?_⟩ ?_
  · rw [Int.mul_emod, Int.emod_emod, ← Int.mul_emod, Int.one_mul]
  rintro n ρ ⟨f, s, l, rfl, hl, rfl, f0, f1, s0, s1, hf⟩ K hK
  simp only [l3s, wipeR, List.map, List.length_cons, List.length_nil, List.replicate, List.cons_append, List.nil_append, List.getElem?_cons_zero, List.getElem?_cons_succ, List.set_cons_zero, List.set_cons_succ, Nat.reduceAdd, Nat.reduceLT, Nat.reduceSub, Nat.reduceEqDiff, true_and, and_true, Nat.zero_lt_succ]
  have half : l / 2 ^ (1 : Int).toNat = l / 2 := rfl
  have ss : s * s % m < 2 ^ 200 := Int.lt_of_lt_of_le (Int.emod_lt_of_pos _ hm) hm2
  have s2 : 0 ≤ s * s % m := Int.emod_nonneg _ (by omega)
  by_cases hp : 0 < l
  · rw [if_pos (by simpa using hp), and_one]
    have key : l.toNat = 2 * (l / 2).toNat + (l % 2).toNat := by omega
    have pw : ∀ g : Int, (g * (s * s % m) ^ (l / 2).toNat) % m = (g * s ^ (2 * (l / 2).toNat)) % m := fun g => by
      have e1 : s ^ (2 * (l / 2).toNat) = (s * s) ^ (l / 2).toNat := by rw [Int.pow_mul, Int.pow_succ, Int.pow_succ, Int.pow_zero, Int.one_mul]
      rw [e1]
      exact mul_cong rfl (pow_cong (Int.emod_emod _ _) _)
    by_cases ho : l % 2 = 1
    · rw [if_pos (by simpa using ho)]
      refine ⟨wid_lt f0 f1 hm2, wid_lt s0 s1 (Int.le_refl _), hm, wid_lt s0 s1 (Int.le_refl _), wid_lt s0 s1 (Int.le_refl _), hm, by decide, hK (l / 2).toNat _ (by omega) ⟨_, _, _, rfl, by omega, rfl, Int.emod_nonneg _ (by omega), Int.emod_lt_of_pos _ hm, s2, ss, ?_⟩⟩
      rw [half, pw, ← hf, key, ho]
      have e1 : s ^ (2 * (l / 2).toNat + (1 : Int).toNat) = s * s ^ (2 * (l / 2).toNat) := by
        show s ^ (2 * (l / 2).toNat + 1) = _
        rw [Int.pow_succ, Int.mul_comm]
      rw [e1, ← Int.mul_assoc]
      exact mul_cong (Int.emod_emod _ _) rfl
    · rw [if_neg (by simpa using ho)]
      refine ⟨wid_lt s0 s1 (Int.le_refl _), wid_lt s0 s1 (Int.le_refl _), hm, by decide, hK (l / 2).toNat _ (by omega) ⟨_, _, _, rfl, by omega, rfl, f0, f1, s2, ss, ?_⟩⟩
      rw [half, pw, ← hf, key]
      have : (l % 2).toNat = 0 := by omega
      rw [this, Nat.add_zero]
  · rw [if_neg (by simpa using hp)]
    have e0 : l.toNat = 0 := by omega
    rw [e0, Int.pow_zero, Int.mul_one, Int.emod_eq_of_lt f0 f1] at hf
    rw [hf]
    exact h
/-- the inverse, by the steps of the program -/
theorem m_inverse {k m u v : Int} {Q : PV → Prop} {R : RS} (hm : 0 < m) (hm2 : m ≤ 30) (hg : u * k + v * m = 1) (h : ∀ r, 0 ≤ r → r < m → (r * k) % m = 1 % m → Q (.int r)) : p_inverse [I k, I m] Q R := by
  unfold p_inverse b_inverse
  simp only [l3s, wipeR, List.map, List.length_cons, List.length_nil, List.replicate, List.cons_append, List.nil_append, List.getElem?_cons_zero, List.getElem?_cons_succ, List.set_cons_zero, List.set_cons_succ, Nat.reduceAdd, Nat.reduceLT, Nat.reduceSub, Nat.reduceEqDiff, true_and, and_true, Nat.zero_lt_succ]
  refine ⟨by decide, by decide, hm, by decide, ?_⟩
  have hh : k % m < m := Int.emod_lt_of_pos _ hm
  have h00 : 0 ≤ k % m := Int.emod_nonneg _ (by omega)
  have hk : m * (k / m) + k % m = k := Int.mul_ediv_add_emod k m
  refine whileP_go (fun n ρ => ∃ a b hi lo x, ρ = [some (I k), some (I m), some (I a), some (I b), some (I hi), some (I lo), x] ∧ 0 ≤ hi ∧ hi ≤ 30 ∧ 0 ≤ lo ∧ lo.toNat = n ∧ lo ≤ 30 ∧ (a * k) % m = hi % m ∧ (b * k) % m = lo % m ∧ (∃ u v, u * hi + v * lo = 1) ∧ a.natAbs ≤ 31 ^ (31 - n) ∧ b.natAbs ≤ 31 ^ (31 - n)) m.toNat ⟨1, 0, k % m, m, none, rfl, h00, by omega, by omega, rfl, hm2, ?_, ?_, ⟨u, v + u * (k / m), ?_⟩, ?_, ?_⟩ ?_
  · rw [Int.one_mul, Int.emod_emod]
  · simp
  · rw [← hg]
    have : u * k = u * (m * (k / m) + k % m) := by rw [hk]
    rw [this, Int.mul_add, Int.add_mul]
    have e1 : u * (m * (k / m)) = u * (k / m) * m := by rw [Int.mul_comm m, ← Int.mul_assoc]
    omega
  · exact Nat.one_le_pow _ _ (by decide)
  · exact Nat.zero_le _
  rintro n ρ ⟨a, b, hi, lo, x, rfl, h1, h2, h3, rfl, h4, h5, h6, ⟨c, d, h7⟩, h8, h9⟩ K hK
  simp only [l3s, wipeR, List.map, List.length_cons, List.length_nil, List.replicate, List.cons_append, List.nil_append, List.getElem?_cons_zero, List.getElem?_cons_succ, List.set_cons_zero, List.set_cons_succ, Nat.reduceAdd, Nat.reduceLT, Nat.reduceSub, Nat.reduceEqDiff, true_and, and_true, Nat.zero_lt_succ]
  by_cases hp : 0 < lo
  · rw [if_pos (by simpa using hp)]
    have q0 : 0 ≤ hi / lo := Int.ediv_nonneg h1 h3
    have q1 : hi / lo ≤ 30 := by
      have := Int.ediv_le_self lo h1
      omega
    have e : lo * (hi / lo) + hi % lo = hi := Int.mul_ediv_add_emod hi lo
    have r0 : 0 ≤ hi % lo := Int.emod_nonneg _ (by omega)
    have r1 : hi % lo < lo := Int.emod_lt_of_pos _ hp
    have er : hi - hi / lo * lo = hi % lo := by
      rw [Int.mul_comm] at e
      omega
    have big : (31 : Nat) ^ (31 - lo.toNat) ≤ 31 ^ 31 := Nat.pow_le_pow_right (by decide) (by omega)
    have step : 31 ^ (31 - lo.toNat) * 31 ≤ 31 ^ (31 - (hi % lo).toNat) := by
      rw [← Nat.pow_succ]
      exact Nat.pow_le_pow_right (by decide) (by omega)
    have pw : (31 : Nat) ^ 31 < 2 ^ 200 := by decide
    refine ⟨⟨hp, wid_small (by omega)⟩, wid_small (by omega), wid_small (by omega), by decide, wid_small (by omega), wid_small (by omega), by decide, ?_⟩
    rw [er]
    have nb : (hi / lo * b).natAbs ≤ 30 * 31 ^ (31 - lo.toNat) := by
      rw [Int.natAbs_mul]
      exact Nat.mul_le_mul (by omega) h9
    refine hK (hi % lo).toNat _ (by omega) ⟨b, a - hi / lo * b, lo, hi % lo, some (I (hi / lo)), rfl, h3, h4, r0, rfl, by omega, h6, ?_, ⟨c * (hi / lo) + d, c, ?_⟩, by omega, ?_⟩
    · have e1 : (a - hi / lo * b) * k = a * k - hi / lo * (b * k) := by rw [Int.sub_mul, Int.mul_assoc]
      have e2 : hi % lo = hi - hi / lo * lo := er.symm
      rw [e1, e2, Int.sub_emod, h5, mul_cong (m := m) (a := hi / lo) rfl h6, ← Int.sub_emod]
    · rw [Int.add_mul]
      have : c * hi = c * (lo * (hi / lo) + hi % lo) := by rw [e]
      rw [this, Int.mul_add] at h7
      have e1 : c * (lo * (hi / lo)) = c * (hi / lo) * lo := by rw [Int.mul_comm lo, ← Int.mul_assoc]
      omega
    · have := Int.natAbs_sub_le a (hi / lo * b)
      omega
  · rw [if_neg (by simpa using hp)]
    have l0 : lo = 0 := by omega
    subst l0
    have h7 : c * hi = 1 := by simpa using h7
    have hi1 : hi = 1 := Int.eq_one_of_dvd_one h1 ⟨c, by rw [Int.mul_comm]; exact h7.symm⟩
    subst hi1
    refine ⟨hm, h _ (Int.emod_nonneg _ (by omega)) (Int.emod_lt_of_pos _ hm) ?_⟩
    rw [← h5]
    exact mul_cong (Int.emod_emod _ _) rfl
end Q15
namespace Q15
open PySem PySem.Spec PyProof.Rows L2 LamX L3
section
variable {Q : PV → Prop} {R : RS}
def isInt : PV → Bool
  | .int _ => true
  | _ => false
def isTup : PV → Bool
  | .tup _ => true
  | _ => false
def numP : PV → Bool
  | .int i => decide (0 ≤ i)
  | _ => false
def belP (n : Int) : PV → Bool
  | .int i => decide (0 ≤ i) && decide (i < n)
  | _ => false
theorem m_is_integer {d : PV} (hk : (kindP d).isSome = true) (h : Q (.bl (isInt d))) : p_is_integer [.val d] Q R := by
  unfold p_is_integer b_is_integer
  simp only [l3s, wipeR, List.map, List.length_cons, List.length_nil, List.replicate, List.cons_append, List.nil_append, List.getElem?_cons_zero, List.getElem?_cons_succ, List.set_cons_zero, List.set_cons_succ, Nat.reduceAdd, Nat.reduceLT, Nat.reduceSub, Nat.reduceEqDiff, true_and, and_true, Nat.zero_lt_succ]
  obtain ⟨t, e⟩ := Option.isSome_iff_exists.mp hk
  rw [isi_run e]
  cases d <;> simp only [kindP, Option.some.injEq, reduceCtorEq] at e <;> subst e <;> (first | exact h | (rw [asB_run, if_pos (by decide), isi_run (by rfl)]; exact h) | (rw [asB_run, if_neg (by decide)]; exact h))
theorem m_is_number {d : PV} (hk : (kindP d).isSome = true) (h : Q (.bl (numP d))) : p_is_number [.val d] Q R := by
  unfold p_is_number b_is_number
  simp only [l3s, wipeR, List.map, List.length_cons, List.length_nil, List.replicate, List.cons_append, List.nil_append, List.getElem?_cons_zero, List.getElem?_cons_succ, List.set_cons_zero, List.set_cons_succ, Nat.reduceAdd, Nat.reduceLT, Nat.reduceSub, Nat.reduceEqDiff, true_and, and_true, Nat.zero_lt_succ]
  refine m_is_integer hk ?_
  cases d <;> first | exact h | (rw [asB_run, if_neg (by decide)]; exact h) | (rw [asB_run, if_pos (by rfl), cmp_run]; exact h)
theorem m_is_below {d : PV} {n : Int} (hk : (kindP d).isSome = true) (h : Q (.bl (belP n d))) : p_is_below [.val d, I n] Q R := by
  unfold p_is_below b_is_below
  simp only [l3s, wipeR, List.map, List.length_cons, List.length_nil, List.replicate, List.cons_append, List.nil_append, List.getElem?_cons_zero, List.getElem?_cons_succ, List.set_cons_zero, List.set_cons_succ, Nat.reduceAdd, Nat.reduceLT, Nat.reduceSub, Nat.reduceEqDiff, true_and, and_true, Nat.zero_lt_succ]
  refine m_is_number hk ?_
  cases d with
  | int i =>
    rw [asB_run]
    show if decide (0 ≤ i) = true then _ else _
    have h : Q (.bl (decide (0 ≤ i) && decide (i < n))) := h
    by_cases c : 0 ≤ i
    · rw [if_pos (by simpa using c), cmp_run]
      rw [decide_eq_true c, Bool.true_and] at h
      exact h
    · rw [if_neg (by simpa using c)]
      rw [decide_eq_false c, Bool.false_and] at h
      exact h
  | _ => simp only [asB_run, numP, Bool.false_eq_true, if_false]; exact h
theorem m_is_tuple {d : PV} {n : Nat} (hk : (kindP d).isSome = true) (h : Q (.bl (match d with | .tup xs => decide (xs.length = n) | _ => false))) : p_is_tuple [.val d, I n] Q R := by
  unfold p_is_tuple b_is_tuple
  simp only [l3s, wipeR, List.map, List.length_cons, List.length_nil, List.replicate, List.cons_append, List.nil_append, List.getElem?_cons_zero, List.getElem?_cons_succ, List.set_cons_zero, List.set_cons_succ, Nat.reduceAdd, Nat.reduceLT, Nat.reduceSub, Nat.reduceEqDiff, true_and, and_true, Nat.zero_lt_succ]
  obtain ⟨t, e⟩ := Option.isSome_iff_exists.mp hk
  rw [isi_run e]
  cases d with
  | tup xs =>
    cases e
    rw [asB_run, if_pos (by decide)]
    rw [len_tup]
    refine ⟨⟨okD_int, okD_int⟩, ?_⟩
    rw [eqP_int]
    have e : decide ((xs.length : Int) = (n : Int)) = decide (xs.length = n) := by
      by_cases c : xs.length = n
      · rw [decide_eq_true c, decide_eq_true (by omega)]
      · rw [decide_eq_false c, decide_eq_false (by omega)]
    rw [e]
    exact h
  | _ => simp only [kindP, Option.some.injEq, reduceCtorEq] at e <;> subst e <;> (rw [asB_run, if_neg (by decide)]; exact h)
theorem isi_tup {xs : List PV} : isiM "tuple" (.tup xs) Q R = Q (.bl true) := rfl
/-- all of these below -/
theorem m_are_below {ds : List PV} {d : PV} {n : Int} (hd : d = .tup ds ∨ d = .lst ds) (hl : ds.length ≤ sizeLine) (hk : ∀ x ∈ ds, (kindP x).isSome = true) (h : Q (.bl (ds.all (belP n)))) : p_are_below [.val d, I n] Q R := by
  unfold p_are_below b_are_below
  simp only [l3s, wipeR, List.map, List.length_cons, List.length_nil, List.replicate, List.cons_append, List.nil_append, List.getElem?_cons_zero, List.getElem?_cons_succ, List.set_cons_zero, List.set_cons_succ, Nat.reduceAdd, Nat.reduceLT, Nat.reduceSub, Nat.reduceEqDiff, true_and, and_true, Nat.zero_lt_succ]
  have go : lcP (gN 2) (fun ρ => (pure true : M Bool)) (fun ρ => callM 2 p_is_below (aVal (varM ρ 2) (aVal (varM ρ 1) aNil))) [some (.val d), some (I n), none] ds [] (fun xs => allM' [.lst xs] (fun d => Q d) R) noR := by
    refine lcP_map (fun x => .bl (belP n x)) hl (fun x hx K1 k1 => ?_) ?_
    · simp only [l3s, wipeR, List.map, List.length_cons, List.length_nil, List.replicate, List.cons_append, List.nil_append, List.getElem?_cons_zero, List.getElem?_cons_succ, List.set_cons_zero, List.set_cons_succ, Nat.reduceAdd, Nat.reduceLT, Nat.reduceSub, Nat.reduceEqDiff, true_and, and_true, Nat.zero_lt_succ]
      exact m_is_below (hk x hx) k1
    · have : ds.map (fun x => PV.bl (belP n x)) = (ds.map (belP n)).map PV.bl := by rw [List.map_map]; rfl
      rw [this]
      refine all_run ?_
      rw [List.all_map]
      exact h
  rcases hd with rfl | rfl <;> exact go
end
end Q15
namespace Q15
open PySem PySem.Spec PyProof.Rows L2 LamX L3
section
variable {Q : PV → Prop} {R : RS}
def iL (ns : List Int) : List PV := ns.map PV.int
theorem iL_len {ns : List Int} : (iL ns).length = ns.length := List.length_map ..
theorem iL_get {ns : List Int} {n : Nat} (h : n < ns.length) : (iL ns)[n]? = some (.int ns[n]) := by
  unfold iL
  rw [List.getElem?_map, List.getElem?_eq_getElem h]
  rfl
def ascB (ns : List Int) : Bool := (List.range (ns.length - 1)).all fun i => decide (ns.getD i 0 < ns.getD (i + 1) 0)
theorem getD_eq {ns : List Int} {n : Nat} (h : n < ns.length) : ns.getD n 0 = ns[n] := by rw [List.getD_eq_getElem?_getD, List.getElem?_eq_getElem h]; rfl
theorem m_is_ascending {ns : List Int} (h0 : 0 < ns.length) (hl : ns.length ≤ 1000) (h : Q (.bl (ascB ns))) : p_is_ascending [.val (.tup (iL ns))] Q R := by
  unfold p_is_ascending b_is_ascending
  simp only [l3s, wipeR, List.map, List.length_cons, List.length_nil, List.replicate, List.cons_append, List.nil_append, List.getElem?_cons_zero, List.getElem?_cons_succ, List.set_cons_zero, List.set_cons_succ, Nat.reduceAdd, Nat.reduceLT, Nat.reduceSub, Nat.reduceEqDiff, true_and, and_true, Nat.zero_lt_succ]
  rw [iL_len]
  refine ⟨⟨by omega, by omega⟩, ?_⟩
  have e : ((ns.length : Int) - 1).toNat = ns.length - 1 := by omega
  rw [e]
  have hs : sizeLine ≥ 1000 := by decide
  refine lcP_map (fun x => .bl (match x with | .int i => decide (ns.getD i.toNat 0 < ns.getD (i.toNat + 1) 0) | _ => false)) (by simp [rngL]; omega) (fun x hx K1 k1 => ?_) ?_
  · obtain ⟨i, hi, rfl⟩ := List.mem_map.mp hx
    have hi := List.mem_range.mp hi
    simp only [l3s, wipeR, List.map, List.length_cons, List.length_nil, List.replicate, List.cons_append, List.nil_append, List.getElem?_cons_zero, List.getElem?_cons_succ, List.set_cons_zero, List.set_cons_succ, Nat.reduceAdd, Nat.reduceLT, Nat.reduceSub, Nat.reduceEqDiff, true_and, and_true, Nat.zero_lt_succ]
    rw [Int.zero_add, show ((i : Int) + 1) = ((i + 1 : Nat) : Int) by omega, L3.atI_nat, L3.atI_nat, iL_get (by omega), iL_get (by omega)]
    refine ⟨_, rfl, _, rfl, ?_⟩
    simp only [l3s, wipeR, List.map, List.length_cons, List.length_nil, List.replicate, List.cons_append, List.nil_append, List.getElem?_cons_zero, List.getElem?_cons_succ, List.set_cons_zero, List.set_cons_succ, Nat.reduceAdd, Nat.reduceLT, Nat.reduceSub, Nat.reduceEqDiff, true_and, and_true, Nat.zero_lt_succ]
    rw [← getD_eq, ← getD_eq]
    simpa using k1
  · have : (rngL 0 (ns.length - 1)).map (fun x => PV.bl (match x with | .int i => decide (ns.getD i.toNat 0 < ns.getD (i.toNat + 1) 0) | _ => false)) = ((List.range (ns.length - 1)).map fun i => decide (ns.getD i 0 < ns.getD (i + 1) 0)).map PV.bl := by
      unfold rngL
      rw [List.map_map, List.map_map]
      refine List.map_congr_left fun i _ => ?_
      simp
    rw [this]
    refine all_run ?_
    rw [List.all_map]
    exact h
/-- all tuples of a length -/
def tupsV (ts : List PV) : Nat → List (List PV)
  | 0 => [[]]
  | n + 1 => (tupsV ts n).flatMap fun r => ts.map fun t => r ++ [t]
theorem tupsV_len (ts : List PV) : ∀ n, (tupsV ts n).length = ts.length ^ n
  | 0 => rfl
  | n + 1 => by
    unfold tupsV
    rw [List.length_flatMap]
    have e : ∀ l : List (List PV), (l.map fun a => (ts.map fun t => a ++ [t]).length).sum = l.length * ts.length := by
      intro l
      induction l with
      | nil => simp
      | cons a l ih => rw [List.map_cons, List.sum_cons, ih, List.length_map, List.length_cons, Nat.add_mul, Nat.one_mul, Nat.add_comm]
    rw [e, tupsV_len ts n, Nat.pow_succ]
theorem tupsV_each (ts : List PV) : ∀ n, ∀ r ∈ tupsV ts n, r.length = n
  | 0, r, h => by simp [tupsV] at h; rw [h]; rfl
  | n + 1, r, h => by
    obtain ⟨q, hq, h⟩ := List.mem_flatMap.mp h
    obtain ⟨t, _, rfl⟩ := List.mem_map.mp h
    rw [List.length_append, tupsV_each ts n q hq]
    rfl
theorem m_tuples_of {ts : List PV} {n : Nat} (hn : n ≤ 1000) (hz : ts.length ^ n ≤ sizeLine) (h1 : 1 ≤ ts.length) (h : Q (.lst ((tupsV ts n).map PV.tup))) : p_tuples_of [.val (.lst ts), I n] Q R := by
  unfold p_tuples_of b_tuples_of
  simp only [l3s, wipeR, List.map, List.length_cons, List.length_nil, List.replicate, List.cons_append, List.nil_append, List.getElem?_cons_zero, List.getElem?_cons_succ, List.set_cons_zero, List.set_cons_succ, Nat.reduceAdd, Nat.reduceLT, Nat.reduceSub, Nat.reduceEqDiff, true_and, and_true, Nat.zero_lt_succ]
  refine ⟨by decide, by decide, ⟨by omega, by omega⟩, ?_⟩
  refine forP_go (fun i ρ => ∃ x, ρ = [some (.val (.lst ts)), some (I n), some (.val (.lst ((tupsV ts i).map PV.tup))), x, none, none]) ⟨_, rfl⟩ ?_ ?_
  · rintro i d0 ρ hd ⟨x, rfl⟩ K hK
    simp only [l3s, wipeR, List.map, List.length_cons, List.length_nil, List.replicate, List.cons_append, List.nil_append, List.getElem?_cons_zero, List.getElem?_cons_succ, List.set_cons_zero, List.set_cons_succ, Nat.reduceAdd, Nat.reduceLT, Nat.reduceSub, Nat.reduceEqDiff, true_and, and_true, Nat.zero_lt_succ]
    have hlt : i < (rngL 0 (n : Int).toNat).length := (List.getElem?_eq_some_iff.mp hd).1
    have hi : i < n := by simpa [rngL] using hlt
    have hp : ts.length ^ (i + 1) ≤ sizeLine := Nat.le_trans (Nat.pow_le_pow_right h1 hi) hz
    have c1 : ((tupsV ts i).map PV.tup).flatMap (fun _ => ts) = (tupsV ts i).flatMap fun _ => ts := by rw [List.flatMap_map]
    refine lc2P_map (fun _ => ts) (fun d x => match d with | .tup r => .tup (r ++ [x]) | _ => .non) (fun d ρw => ρw = [some (.val (.lst ts)), some (I n), some (.val (.lst ((tupsV ts i).map PV.tup))), some (.val d0), some (.val d), none]) ?_ (fun d hd K k1 => ?_) (fun d hd ρw gd x hx K1 k1 => ?_) ?_
    · have e : ∀ l : List PV, (l.flatMap fun _ => ts).length = l.length * ts.length := by
        intro l
        induction l with
        | nil => simp
        | cons a l ih => rw [List.flatMap_cons, List.length_append, ih, List.length_cons, Nat.add_mul, Nat.one_mul, Nat.add_comm]
      rw [e, List.length_map, tupsV_len, ← Nat.pow_succ]
      exact hp
    · simp only [l3s, wipeR, List.map, List.length_cons, List.length_nil, List.replicate, List.cons_append, List.nil_append, List.getElem?_cons_zero, List.getElem?_cons_succ, List.set_cons_zero, List.set_cons_succ, Nat.reduceAdd, Nat.reduceLT, Nat.reduceSub, Nat.reduceEqDiff, true_and, and_true, Nat.zero_lt_succ]
      exact k1 _ rfl
    · subst gd
      obtain ⟨r, hr, rfl⟩ := List.mem_map.mp hd
      simp only [l3s, wipeR, List.map, List.length_cons, List.length_nil, List.replicate, List.cons_append, List.nil_append, List.getElem?_cons_zero, List.getElem?_cons_succ, List.set_cons_zero, List.set_cons_succ, Nat.reduceAdd, Nat.reduceLT, Nat.reduceSub, Nat.reduceEqDiff, true_and, and_true, Nat.zero_lt_succ]
      refine ⟨by decide, ?_, k1⟩
      have := tupsV_each ts i r hr
      show r.length + 1 ≤ sizeLine
      rw [this]
      exact Nat.le_trans (by omega) (show 1001 ≤ sizeLine by decide)
    · refine hK _ ⟨some (.val d0), ?_⟩
      have e : ((tupsV ts i).map PV.tup).flatMap (fun d => ts.map (fun x => match d with | .tup r => PV.tup (r ++ [x]) | _ => .non)) = (tupsV ts (i + 1)).map PV.tup := by
        show _ = ((tupsV ts i).flatMap fun r => ts.map fun t => r ++ [t]).map PV.tup
        rw [List.map_flatMap, List.flatMap_map]
        congr 1
        funext r
        rw [List.map_map]
        rfl
      rw [e]
  · rintro ρ ⟨x, rfl⟩
    simp only [l3s, wipeR, List.map, List.length_cons, List.length_nil, List.replicate, List.cons_append, List.nil_append, List.getElem?_cons_zero, List.getElem?_cons_succ, List.set_cons_zero, List.set_cons_succ, Nat.reduceAdd, Nat.reduceLT, Nat.reduceSub, Nat.reduceEqDiff, true_and, and_true, Nat.zero_lt_succ]
    have e : (rngL 0 (n : Int).toNat).length = n := by simp [rngL]
    rw [e]
    exact h
theorem m_tuples_below {m n : Nat} (hn : n ≤ 1000) (hm : 1 ≤ m) (hm2 : m ≤ 1000) (hz : m ^ n ≤ sizeLine) (h : Q (.lst ((tupsV (rgP 0 m) n).map PV.tup))) : p_tuples_below [I m, I n] Q R := by
  have l : (rgP 0 (m : Int)).length = m := by simp [rgP]
  unfold p_tuples_below b_tuples_below listR1
  simp only [l3s, wipeR, List.map, List.length_cons, List.length_nil, List.replicate, List.cons_append, List.nil_append, List.getElem?_cons_zero, List.getElem?_cons_succ, List.set_cons_zero, List.set_cons_succ, Nat.reduceAdd, Nat.reduceLT, Nat.reduceSub, Nat.reduceEqDiff, true_and, and_true, Nat.zero_lt_succ]
  exact ⟨⟨by omega, by omega, by omega, by omega, by omega⟩, m_tuples_of hn (by rw [l]; exact hz) (by rw [l]; exact hm) h⟩
/-- all subsets, as the program tells them -/
def subsV : List PV → List (List PV)
  | ts => ts.foldl (fun found t => found ++ found.map fun s => s ++ [t]) [[]]
theorem subsV_snoc (ts : List PV) (t : PV) : subsV (ts ++ [t]) = subsV ts ++ (subsV ts).map fun s => s ++ [t] := by simp [subsV]
theorem m_subsets {ts : List PV} (hl : ts.length ≤ 12) (h : Q (.lst ((subsV ts).map PV.tup))) : p_subsets [.val (.lst ts)] Q R := by
  have len : ∀ n, ((subsV (ts.take n)).length) ≤ 2 ^ n ∧ ∀ s ∈ subsV (ts.take n), s.length ≤ n := by
    intro n
    induction n with
    | zero => simp [subsV]
    | succ n ih =>
      by_cases hn : n < ts.length
      · have et : ts.take (n + 1) = ts.take n ++ [ts[n]] := by rw [List.take_succ, List.getElem?_eq_getElem hn]; rfl
        rw [et, subsV_snoc]
        refine ⟨by rw [List.length_append, List.length_map, Nat.pow_succ]; omega, fun s hs => ?_⟩
        rcases List.mem_append.mp hs with hs | hs
        · have := ih.2 s hs; omega
        · obtain ⟨q, hq, rfl⟩ := List.mem_map.mp hs
          have := ih.2 q hq
          rw [List.length_append]
          show q.length + 1 ≤ n + 1
          omega
      · rw [List.take_of_length_le (by omega)]
        rw [List.take_of_length_le (by omega)] at ih
        exact ⟨Nat.le_trans ih.1 (Nat.pow_le_pow_right (by decide) (by omega)), fun s hs => Nat.le_succ_of_le (ih.2 s hs)⟩
  have big : ∀ n, n ≤ 12 → (2 : Nat) ^ n ≤ 4096 := fun n hn => Nat.pow_le_pow_right (by decide) hn
  have z : 1000000 ≤ sizeLine := by decide
  unfold p_subsets b_subsets
  simp only [l3s, wipeR, List.map, List.length_cons, List.length_nil, List.replicate, List.cons_append, List.nil_append, List.getElem?_cons_zero, List.getElem?_cons_succ, List.set_cons_zero, List.set_cons_succ, Nat.reduceAdd, Nat.reduceLT, Nat.reduceSub, Nat.reduceEqDiff, true_and, and_true, Nat.zero_lt_succ]
  refine ⟨by decide, by decide, ?_⟩
  refine forP_go (fun i ρ => ∃ x, ρ = [some (.val (.lst ts)), some (.val (.lst ((subsV (ts.take i)).map PV.tup))), x, none]) ⟨none, rfl⟩ ?_ ?_
  · rintro i d0 ρ hd ⟨x, rfl⟩ K hK
    have hlt : i < ts.length := (List.getElem?_eq_some_iff.mp hd).1
    have et : ts.take (i + 1) = ts.take i ++ [d0] := by rw [List.take_succ, hd]; rfl
    have h1 := (len i).1
    have h2 := big i (by omega)
    simp only [l3s, wipeR, List.map, List.length_cons, List.length_nil, List.replicate, List.cons_append, List.nil_append, List.getElem?_cons_zero, List.getElem?_cons_succ, List.set_cons_zero, List.set_cons_succ, Nat.reduceAdd, Nat.reduceLT, Nat.reduceSub, Nat.reduceEqDiff, true_and, and_true, Nat.zero_lt_succ]
    refine lcP_map (fun s => match s with | .tup r => .tup (r ++ [d0]) | _ => .non) (by rw [List.length_map]; omega) (fun s hs K1 k1 => ?_) ?_
    · obtain ⟨r, hr, rfl⟩ := List.mem_map.mp hs
      have := (len i).2 r hr
      simp only [l3s, wipeR, List.map, List.length_cons, List.length_nil, List.replicate, List.cons_append, List.nil_append, List.getElem?_cons_zero, List.getElem?_cons_succ, List.set_cons_zero, List.set_cons_succ, Nat.reduceAdd, Nat.reduceLT, Nat.reduceSub, Nat.reduceEqDiff, true_and, and_true, Nat.zero_lt_succ]
      refine ⟨by decide, ?_, k1⟩
      show r.length + 1 ≤ sizeLine
      omega
    · have e : ((subsV (ts.take i)).map PV.tup).map (fun s => match s with | .tup r => PV.tup (r ++ [d0]) | _ => .non) = ((subsV (ts.take i)).map fun s => s ++ [d0]).map PV.tup := by rw [List.map_map, List.map_map]; rfl
      rw [e]
      refine ⟨by rw [List.length_map, List.length_map, List.length_map]; omega, hK _ ⟨some (.val d0), ?_⟩⟩
      rw [et, subsV_snoc, List.map_append]
  · rintro ρ ⟨x, rfl⟩
    rw [List.take_length]
    simp only [l3s, wipeR, List.map, List.length_cons, List.length_nil, List.replicate, List.cons_append, List.nil_append, List.getElem?_cons_zero, List.getElem?_cons_succ, List.set_cons_zero, List.set_cons_succ, Nat.reduceAdd, Nat.reduceLT, Nat.reduceSub, Nat.reduceEqDiff, true_and, and_true, Nat.zero_lt_succ]
    exact h
end
end Q15
namespace Q15
open PySem PySem.Spec PyProof.Rows L2 LamX L3
section
variable {Q : PV → Prop} {R : RS}
/-- which counts are not nought -/
def suppI (cs : List Int) : List Int := ((List.range cs.length).filter fun i => decide (cs.getD i 0 ≠ 0)).map Int.ofNat
abbrev mixP (n : Int) (cs : List Int) : PV := .tup [.int n, .tup (iL cs)]
theorem big1000 : 1000 ≤ sizeLine := by decide
theorem m_contained {n : Int} {cs : List Int} (hl : cs.length ≤ 1000) (h : Q (.tup (iL (suppI cs)))) : p_contained [.val (mixP n cs)] Q R := by
  have z := big1000
  unfold p_contained b_contained
  simp only [l3s, wipeR, List.map, List.length_cons, List.length_nil, List.replicate, List.cons_append, List.nil_append, List.getElem?_cons_zero, List.getElem?_cons_succ, List.set_cons_zero, List.set_cons_succ, Nat.reduceAdd, Nat.reduceLT, Nat.reduceSub, Nat.reduceEqDiff, true_and, and_true, Nat.zero_lt_succ]
  refine ⟨_, rfl, ?_⟩
  simp only [l3s, wipeR, List.map, List.length_cons, List.length_nil, List.replicate, List.cons_append, List.nil_append, List.getElem?_cons_zero, List.getElem?_cons_succ, List.set_cons_zero, List.set_cons_succ, Nat.reduceAdd, Nat.reduceLT, Nat.reduceSub, Nat.reduceEqDiff, true_and, and_true, Nat.zero_lt_succ]
  rw [iL_len]
  refine ⟨⟨by omega, by omega⟩, ?_⟩
  refine lcP_sel (fun d => match d with | .int i => decide (cs.getD i.toNat 0 ≠ 0) | _ => false) id (by simp [rngL]; omega) (fun d hd K1 K0 k1 k0 => ?_) ?_
  · obtain ⟨i, hi, rfl⟩ := List.mem_map.mp hd
    have hi : i < cs.length := by simpa using List.mem_range.mp hi
    simp only [l3s, wipeR, List.map, List.length_cons, List.length_nil, List.replicate, List.cons_append, List.nil_append, List.getElem?_cons_zero, List.getElem?_cons_succ, List.set_cons_zero, List.set_cons_succ, Nat.reduceAdd, Nat.reduceLT, Nat.reduceSub, Nat.reduceEqDiff, true_and, and_true, Nat.zero_lt_succ]
    rw [Int.zero_add, L3.atI_nat, iL_get hi]
    refine ⟨_, rfl, ?_⟩
    simp only [l3s, wipeR, List.map, List.length_cons, List.length_nil, List.replicate, List.cons_append, List.nil_append, List.getElem?_cons_zero, List.getElem?_cons_succ, List.set_cons_zero, List.set_cons_succ, Nat.reduceAdd, Nat.reduceLT, Nat.reduceSub, Nat.reduceEqDiff, true_and, and_true, Nat.zero_lt_succ]
    rw [Int.zero_add] at k1 k0
    have e : (!decide (cs[i] = 0)) = decide (cs.getD i 0 ≠ 0) := by rw [getD_eq hi]; simp
    rw [e]
    cases c : decide (cs.getD i 0 ≠ 0) with
    | true => rw [if_pos rfl]; exact ⟨⟨okD_int, okD_int⟩, k1 (by simpa using c)⟩
    | false => rw [if_neg Bool.false_ne_true]; exact ⟨⟨okD_int, okD_int⟩, k0 (by simpa using c)⟩
  · have e : ((rngL 0 ((cs.length : Nat) : Int).toNat).filter (fun d => match d with | .int i => decide (cs.getD i.toNat 0 ≠ 0) | _ => false)).map id = iL (suppI cs) := by
      unfold rngL suppI iL
      rw [List.filter_map, List.map_id, List.map_map, Int.toNat_natCast]
      have e1 : ((fun d : PV => match d with | .int i => decide (cs.getD i.toNat 0 ≠ 0) | _ => false) ∘ fun i : Nat => PV.int (0 + (i : Int))) = fun i => decide (cs.getD i 0 ≠ 0) := by
        funext i
        simp
      rw [e1]
      refine List.map_congr_left fun i _ => ?_
      simp
    rw [e]
    exact h
/-- an inverse of k -/
def Inv1 (k d r : Int) : Prop := 0 ≤ r ∧ r < d ∧ (r * k) % d = 1 % d
def restI (r d : Int) (n : Nat) (cs : List Int) : List Int := cs.map fun c => c * (r ^ n % d) % d
theorem m_remainders {k d u v : Int} {n : Nat} {cs : List Int} (hd : 0 < d) (hd2 : d ≤ 30) (hg : u * k + v * d = 1) (hl : cs.length ≤ 1000) (hc : ∀ c ∈ cs, Wid c) (h : ∀ r, Inv1 k d r → Q (.tup (iL (restI r d n cs)))) : p_remainders [I k, .val (mixP n cs), I d] Q R := by
  have z := big1000
  unfold p_remainders b_remainders
  simp only [l3s, wipeR, List.map, List.length_cons, List.length_nil, List.replicate, List.cons_append, List.nil_append, List.getElem?_cons_zero, List.getElem?_cons_succ, List.set_cons_zero, List.set_cons_succ, Nat.reduceAdd, Nat.reduceLT, Nat.reduceSub, Nat.reduceEqDiff, true_and, and_true, Nat.zero_lt_succ]
  refine m_inverse hd hd2 hg fun r r0 r1 r2 => ?_
  refine m_power_modulo r0 (Int.lt_of_lt_of_le r1 (by omega)) (by omega) hd (by omega) ?_
  try simp only [l3s, wipeR, List.map, List.length_cons, List.length_nil, List.replicate, List.cons_append, List.nil_append, List.getElem?_cons_zero, List.getElem?_cons_succ, List.set_cons_zero, List.set_cons_succ, Nat.reduceAdd, Nat.reduceLT, Nat.reduceSub, Nat.reduceEqDiff, true_and, and_true, Nat.zero_lt_succ]
  have s0 : 0 ≤ r ^ n % d := Int.emod_nonneg _ (by omega)
  have s1 : r ^ n % d < d := Int.emod_lt_of_pos _ hd
  refine lcP_map (fun x => match x with | .int c => .int (c * (r ^ n % d) % d) | _ => .non) (by rw [iL_len]; omega) (fun x hx K1 k1 => ?_) ?_
  · obtain ⟨c, hc1, rfl⟩ := List.mem_map.mp hx
    simp only [l3s, wipeR, List.map, List.length_cons, List.length_nil, List.replicate, List.cons_append, List.nil_append, List.getElem?_cons_zero, List.getElem?_cons_succ, List.set_cons_zero, List.set_cons_succ, Nat.reduceAdd, Nat.reduceLT, Nat.reduceSub, Nat.reduceEqDiff, true_and, and_true, Nat.zero_lt_succ]
    exact ⟨hc c hc1, wid_lt s0 s1 (by omega), hd, k1⟩
  · have e : (iL cs).map (fun x => match x with | .int c => PV.int (c * (r ^ n % d) % d) | _ => .non) = iL (restI r d n cs) := by
      unfold iL restI
      rw [List.map_map, List.map_map]
      rfl
    have e2 := h r ⟨r0, r1, r2⟩
    rw [← e] at e2
    exact e2
set_option maxHeartbeats 50000 in
theorem m_case_of {k d u v : Int} {n : Nat} {cs : List Int} (hd : 0 < d) (hd2 : d ≤ 30) (hg : u * k + v * d = 1) (hl : cs.length ≤ 1000) (hc : ∀ c ∈ cs, Wid c) (h : ∀ r, Inv1 k d r → Q (.tup [.tup (iL (suppI cs)), .tup (iL (restI r d n cs))])) : p_case_of [I k, .val (mixP n cs), I d] Q R := by
  unfold p_case_of b_case_of
  simp only [l3s, wipeR, List.map, List.length_cons, List.length_nil, List.replicate, List.cons_append, List.nil_append, List.getElem?_cons_zero, List.getElem?_cons_succ, List.set_cons_zero, List.set_cons_succ, Nat.reduceAdd, Nat.reduceLT, Nat.reduceSub, Nat.reduceEqDiff, true_and, and_true, Nat.zero_lt_succ]
  refine m_contained hl ?_
  refine m_remainders hd hd2 hg hl hc fun r hr => ?_
  exact ⟨Nat.le_trans (by decide) big1000, h r hr⟩
end
end Q15
namespace Q15
open PySem PySem.Spec PyProof.Rows L2 LamX L3 PySem.W
def encS (a : List Int) : PV := .tup (iL a)
def encC (p : List Int × List Int) : PV := .tup [encS p.1, encS p.2]
theorem toDs_iL (a : List Int) : toDs (iL a) = a.map PyData.int := by
  rw [toDs_map]
  unfold iL
  rw [List.map_map]
  exact List.map_congr_left fun x _ => by simp [toD]
theorem toD_encS (a : List Int) : toD (encS a) = .tuple (a.map PyData.int) := by
  show toD (.tup (iL a)) = _
  simp only [toD, toDs_iL]
theorem toD_encC (p : List Int × List Int) : toD (encC p) = .tuple [.tuple (p.1.map PyData.int), .tuple (p.2.map PyData.int)] := by
  show toD (.tup [encS p.1, encS p.2]) = _
  simp only [toD, toDs, toD_encS]
theorem eqvAll_ints : ∀ a b : List Int, PyData.eqvAll (a.map PyData.int) (b.map PyData.int) = decide (a = b)
  | [], [] => by simp [PyData.eqvAll]
  | [], _ :: _ => by simp [PyData.eqvAll]
  | _ :: _, [] => by simp [PyData.eqvAll]
  | x :: a, y :: b => by
    rw [List.map_cons, List.map_cons, PyData.eqvAll, eqvAll_ints a b]
    show ((x == y) && decide (a = b)) = decide (x :: a = y :: b)
    by_cases h : x = y <;> by_cases h2 : a = b <;> simp [h, h2]
theorem eqv_sets (a b : List Int) : PyData.eqv (.tuple (a.map PyData.int)) (.tuple (b.map PyData.int)) = decide (a = b) := by
  rw [PyData.eqv, eqvAll_ints]
theorem lt_sets (a b : List Int) : dataLt (.tuple (a.map PyData.int)) (.tuple (b.map PyData.int)) = decide (a < b) := by
  rw [dataLt_tuple]
  exact dataLt_ints a b
theorem al_sets (a b : List Int) : alike (.tuple (a.map PyData.int)) (.tuple (b.map PyData.int)) = true := by
  rw [alike]
  exact alike_ints a b
def leS (a b : List Int) : Bool := !decide (b < a)
def ltC (p q : List Int × List Int) : Bool := if p.1 = q.1 then decide (p.2 < q.2) else decide (p.1 < q.1)
def leC (p q : List Int × List Int) : Bool := !ltC q p
theorem leP_sets (a b : List Int) : leP (encS a) (encS b) = leS a b := by
  show (!dataLt (toD (encS b)) (toD (encS a))) = _
  rw [toD_encS, toD_encS, lt_sets]
  rfl
theorem leP_cases (p q : List Int × List Int) : leP (encC p) (encC q) = leC p q := by
  show (!dataLt (toD (encC q)) (toD (encC p))) = _
  rw [toD_encC, toD_encC, dataLt_pair (al_sets _ _) (al_sets _ _), eqv_sets, eqv_sets, lt_sets, lt_sets]
  unfold leC ltC
  by_cases h : q.1 = p.1
  · rw [if_pos (by simpa using h), if_pos h]
    by_cases h2 : q.2 = p.2
    · rw [if_pos (by simpa using h2), h2]
      simp [List.lt_irrefl]
    · rw [if_neg (by simpa using h2)]
  · rw [if_neg (by simpa using h), if_neg h]
theorem sort_sets (l : List (List Int)) : sortP (l.map encS) = (l.mergeSort leS).map encS := (List.map_mergeSort (r := leS) (s := leP) (f := encS) fun a _ b _ => (leP_sets a b).symm).symm
theorem sort_cases (l : List (List Int × List Int)) : sortP (l.map encC) = (l.mergeSort leC).map encC := (List.map_mergeSort (r := leC) (s := leP) (f := encC) fun a _ b _ => (leP_cases a b).symm).symm
theorem leS_eq {a b : List Int} : leS a b = true ↔ a ≤ b := by unfold leS; simp [List.not_lt]
theorem leS_trans {a b c : List Int} (h1 : leS a b = true) (h2 : leS b c = true) : leS a c = true := leS_eq.mpr (List.le_trans (leS_eq.mp h1) (leS_eq.mp h2))
theorem leS_total (a b : List Int) : (leS a b || leS b a) = true := by
  rcases List.le_total a b with h | h
  · rw [leS_eq.mpr h]; rfl
  · rw [leS_eq.mpr h, Bool.or_true]
theorem leS_anti {a b : List Int} (h1 : leS a b = true) (h2 : leS b a = true) : a = b := List.le_antisymm (leS_eq.mp h1) (leS_eq.mp h2)
theorem sort_is {l l' : List (List Int)} (p : l'.Perm l) (s : l'.Pairwise fun a b => leS a b = true) : l.mergeSort leS = l' := by
  have h1 : (l.mergeSort leS).Pairwise fun a b => leS a b = true := List.pairwise_mergeSort (le := leS) (fun _ _ _ => leS_trans) leS_total l
  exact List.Perm.eq_of_pairwise (le := fun a b => leS a b = true) (fun a b _ _ => leS_anti) h1 s ((List.mergeSort_perm _ _).trans p.symm)
theorem leC_iff {p q : List Int × List Int} : leC p q = true ↔ p.1 < q.1 ∨ (p.1 = q.1 ∧ p.2 ≤ q.2) := by
  unfold leC ltC
  by_cases h : q.1 = p.1
  · rw [if_pos h]
    constructor
    · intro h2; exact .inr ⟨h.symm, by simpa [List.not_lt] using h2⟩
    · rintro (h2 | ⟨_, h2⟩)
      · rw [h] at h2; exact absurd h2 (List.lt_irrefl _)
      · simpa [List.not_lt] using h2
  · rw [if_neg h]
    constructor
    · intro h2
      have h3 : p.1 ≤ q.1 := by simpa [List.not_lt] using h2
      rcases List.le_iff_lt_or_eq.mp h3 with h4 | h4
      · exact .inl h4
      · exact absurd h4.symm h
    · rintro (h2 | ⟨h2, _⟩)
      · simpa [List.not_lt] using List.le_of_lt h2
      · exact absurd h2.symm h
theorem leC_trans {p q r : List Int × List Int} (h1 : leC p q = true) (h2 : leC q r = true) : leC p r = true := by
  rw [leC_iff] at *
  rcases h1 with h1 | ⟨e1, h1⟩ <;> rcases h2 with h2 | ⟨e2, h2⟩
  · exact .inl (List.lt_trans h1 h2)
  · exact .inl (e2 ▸ h1)
  · exact .inl (e1 ▸ h2)
  · exact .inr ⟨e1.trans e2, List.le_trans h1 h2⟩
theorem leC_total (p q : List Int × List Int) : (leC p q || leC q p) = true := by
  have h : leC p q = true ∨ leC q p = true := by
    rw [leC_iff, leC_iff]
    rcases List.le_total p.1 q.1 with h | h
    · rcases List.le_iff_lt_or_eq.mp h with h | h
      · exact .inl (.inl h)
      · rcases List.le_total p.2 q.2 with h2 | h2
        · exact .inl (.inr ⟨h, h2⟩)
        · exact .inr (.inr ⟨h.symm, h2⟩)
    · rcases List.le_iff_lt_or_eq.mp h with h | h
      · exact .inr (.inl h)
      · rcases List.le_total p.2 q.2 with h2 | h2
        · exact .inl (.inr ⟨h.symm, h2⟩)
        · exact .inr (.inr ⟨h, h2⟩)
  rcases h with h | h <;> simp [h]
theorem leC_anti {p q : List Int × List Int} (h1 : leC p q = true) (h2 : leC q p = true) : p = q := by
  rw [leC_iff] at h1 h2
  rcases h1 with h1 | ⟨e1, h1⟩ <;> rcases h2 with h2 | ⟨e2, h2⟩
  · exact absurd (List.lt_trans h1 h2) (List.lt_irrefl _)
  · rw [e2] at h1; exact absurd h1 (List.lt_irrefl _)
  · rw [e1] at h2; exact absurd h2 (List.lt_irrefl _)
  · exact Prod.ext e1 (List.le_antisymm h1 h2)
theorem sortC_is {l l' : List (List Int × List Int)} (p : l'.Perm l) (s : l'.Pairwise fun a b => leC a b = true) : l.mergeSort leC = l' := by
  have h1 : (l.mergeSort leC).Pairwise fun a b => leC a b = true := List.pairwise_mergeSort (le := leC) (fun _ _ _ => leC_trans) leC_total l
  exact List.Perm.eq_of_pairwise (le := fun a b => leC a b = true) (fun a b _ _ => leC_anti) h1 s ((List.mergeSort_perm _ _).trans p.symm)
theorem canLay_ints : ∀ a : List Int, PyData.canLayAll0 (a.map PyData.int) = true
  | [] => rfl
  | x :: a => by rw [List.map_cons, PyData.canLayAll0, canLay_ints a]; rfl
/-- what may be sorted -/
theorem okSets {l : List (List Int)} (h : l.head? = some [] ∨ ∀ a ∈ l, a ≠ []) : OkSortP (l.map encS) := by
  have e : toDs (l.map encS) = l.map fun a => PyData.tuple (a.map PyData.int) := by
    rw [toDs_map, List.map_map]
    exact List.map_congr_left fun a _ => toD_encS a
  show OkSort (toDs (l.map encS))
  rw [e]
  refine ⟨?_, ?_, ?_, ?_⟩
  · intro d hd d' hd'
    obtain ⟨a, _, rfl⟩ := List.mem_map.mp hd
    obtain ⟨b, _, rfl⟩ := List.mem_map.mp hd'
    exact al_sets a b
  · rcases h with h | h
    · cases l with
      | nil => cases h
      | cons a l =>
        obtain rfl := Option.some.inj h
        exact .inr ⟨_, rfl, fun d hd => by
          obtain ⟨b, _, rfl⟩ := List.mem_map.mp hd
          exact ⟨_, rfl⟩⟩
    · refine .inl (.inl fun d hd => ?_)
      obtain ⟨a, ha, rfl⟩ := List.mem_map.mp hd
      cases a with
      | nil => exact absurd rfl (h _ ha)
      | cons x r => exact ⟨_, _, rfl⟩
  · have go : ∀ l : List (List Int), PyData.canLayAll0 (l.map fun a => PyData.tuple (a.map PyData.int)) = true := by
      intro l
      induction l with
      | nil => rfl
      | cons a l ih =>
        rw [List.map_cons, PyData.canLayAll0, ih, PyData.canLay0, canLay_ints]
        rfl
    exact go l
  · intro d hd
    obtain ⟨a, _, rfl⟩ := List.mem_map.mp hd
    rw [PyData.depth, depth_ints]
    decide
theorem okCases {l : List (List Int × List Int)} : OkSortP (l.map encC) := by
  have e : toDs (l.map encC) = l.map fun p => PyData.tuple [.tuple (p.1.map PyData.int), .tuple (p.2.map PyData.int)] := by
    rw [toDs_map, List.map_map]
    exact List.map_congr_left fun a _ => toD_encC a
  show OkSort (toDs (l.map encC))
  rw [e]
  refine ⟨?_, ?_, ?_, ?_⟩
  · intro d hd d' hd'
    obtain ⟨a, _, rfl⟩ := List.mem_map.mp hd
    obtain ⟨b, _, rfl⟩ := List.mem_map.mp hd'
    rw [alike]
    simp only [alikeAll, al_sets, Bool.and_self]
  · refine .inl (.inl fun d hd => ?_)
    obtain ⟨a, ha, rfl⟩ := List.mem_map.mp hd
    exact ⟨_, _, rfl⟩
  · have go : ∀ l : List (List Int × List Int), PyData.canLayAll0 (l.map fun p => PyData.tuple [.tuple (p.1.map PyData.int), .tuple (p.2.map PyData.int)]) = true := by
      intro l
      induction l with
      | nil => rfl
      | cons a l ih =>
        rw [List.map_cons, PyData.canLayAll0, ih]
        simp only [PyData.canLay0, PyData.canLayAll0, canLay_ints, Bool.and_self]
    exact go l
  · intro d hd
    obtain ⟨a, _, rfl⟩ := List.mem_map.mp hd
    simp only [PyData.depth, PyData.depthAll, depth_ints]
    decide
end Q15
namespace Q15
open PySem PySem.Spec PyProof.Rows L2 LamX L3 PySem.W
section
variable {Q : PV → Prop} {R : RS}
def subsI : Nat → List (List Int)
  | 0 => [[]]
  | n + 1 => subsI n ++ (subsI n).map fun s => s ++ [(n : Int)]
theorem rgP_succ (n : Nat) : rgP 0 ((n + 1 : Nat) : Int) = rgP 0 (n : Int) ++ [.int n] := by
  unfold rgP
  rw [show (((n + 1 : Nat) : Int) - 0).toNat = n + 1 by omega, show ((n : Int) - 0).toNat = n by omega, List.range_succ, List.map_append]
  simp
theorem subs_eq : ∀ n : Nat, subsV (rgP 0 (n : Int)) = (subsI n).map iL
  | 0 => rfl
  | n + 1 => by
    rw [rgP_succ, subsV_snoc, subs_eq n]
    show _ = (subsI n ++ (subsI n).map fun s => s ++ [(n : Int)]).map iL
    rw [List.map_append, List.map_map, List.map_map]
    congr 1
    refine List.map_congr_left fun s _ => ?_
    show iL s ++ [.int n] = iL (s ++ [(n : Int)])
    unfold iL
    rw [List.map_append]
    rfl
/-- the sets in order -/
def setsX : Nat → List (List Int)
  | 1 => [[0]]
  | 2 => [[0], [0, 1], [1]]
  | 3 => [[0], [0, 1], [0, 1, 2], [0, 2], [1], [1, 2], [2]]
  | 4 => [[0], [0, 1], [0, 1, 2], [0, 1, 2, 3], [0, 1, 3], [0, 2], [0, 2, 3], [0, 3], [1], [1, 2], [1, 2, 3], [1, 3], [2], [2, 3], [3]]
  | _ => []
theorem sets_sorted {n : Nat} (h : n ∈ [1, 2, 3, 4]) : (subsI n).mergeSort leS = [] :: setsX n := by
  simp only [List.mem_cons, List.not_mem_nil, or_false] at h
  rcases h with rfl | rfl | rfl | rfl <;> exact sort_is (List.isPerm_iff.mp (by decide +kernel)) (by decide +kernel)
theorem subsI_head (n : Nat) : (subsI n).head? = some [] := by
  induction n with
  | zero => rfl
  | succ n ih =>
    show (subsI n ++ _).head? = _
    rw [List.head?_append, ih]
    rfl
theorem m_all_sets {n : Nat} (hn : n ∈ [1, 2, 3, 4]) (h : Q (.lst ((setsX n).map encS))) : p_all_sets [I n] Q R := by
  have hs : 1 ≤ n ∧ n ≤ 4 := by
    simp only [List.mem_cons, List.not_mem_nil, or_false] at hn
    omega
  have l : (rgP 0 (n : Int)).length = n := by simp [rgP]
  unfold p_all_sets b_all_sets sliceX listR1 partX
  simp only [l3s, wipeR, List.map, List.length_cons, List.length_nil, List.replicate, List.cons_append, List.nil_append, List.getElem?_cons_zero, List.getElem?_cons_succ, List.set_cons_zero, List.set_cons_succ, Nat.reduceAdd, Nat.reduceLT, Nat.reduceSub, Nat.reduceEqDiff, true_and, and_true, Nat.zero_lt_succ]
  refine ⟨⟨by omega, by omega, by omega, by omega, by omega⟩, ?_⟩
  refine m_subsets (by rw [l]; omega) ?_
  have e : (subsV (rgP 0 (n : Int))).map PV.tup = (subsI n).map encS := by
    rw [subs_eq, List.map_map]
    rfl
  rw [e]
  refine .inr ⟨okSets (.inl (subsI_head n)), ?_⟩
  rw [sort_sets, sets_sorted hn]
  show Q (.lst (cutP ((encS []) :: (setsX n).map encS) (some 1) none))
  have e2 : cutP ((encS []) :: (setsX n).map encS) (some 1) none = (setsX n).map encS := by
    unfold cutP
    rw [HT.sIx_none, show (some (1 : Int)) = some ((1 : Nat) : Int) from rfl, HT.sIx_nat]
    rw [List.length_cons, Nat.min_eq_left (by omega)]
    show ((setsX n).map encS).take _ = _
    exact List.take_of_length_le (by simp)
  rw [e2]
  exact h
/-- all rows of ints of a length -/
def tupsI (ts : List Int) : Nat → List (List Int)
  | 0 => [[]]
  | n + 1 => (tupsI ts n).flatMap fun r => ts.map fun t => r ++ [t]
theorem tups_eq (ts : List Int) : ∀ n, tupsV (iL ts) n = (tupsI ts n).map iL
  | 0 => rfl
  | n + 1 => by
    show (tupsV (iL ts) n).flatMap _ = ((tupsI ts n).flatMap fun r => ts.map fun t => r ++ [t]).map iL
    rw [tups_eq ts n, List.map_flatMap, List.flatMap_map]
    congr 1
    funext r
    unfold iL
    rw [List.map_map, List.map_map]
    refine List.map_congr_left fun t _ => ?_
    simp
def upI (d : Nat) : List Int := (List.range d).map Int.ofNat
theorem rgP_up (d : Nat) : rgP 0 (d : Int) = iL (upI d) := by
  unfold rgP iL upI
  rw [List.map_map, show ((d : Int) - 0).toNat = d by omega]
  refine List.map_congr_left fun i _ => ?_
  show PV.int (0 + (i : Int)) = PV.int (i : Int)
  rw [Int.zero_add]
theorem tupsI_len (ts : List Int) (n : Nat) : ∀ r ∈ tupsI ts n, r.length = n := by
  intro r hr
  have h := tupsV_each (iL ts) n (iL r) (by rw [tups_eq]; exact List.mem_map.mpr ⟨r, hr, rfl⟩)
  rwa [iL_len] at h
def fillI (n : Nat) (some free : List Int) : Nat → List Int
  | 0 => List.replicate n 0
  | i + 1 => (fillI n some free i).set (some.getD i 0).toNat (free.getD i 0)
theorem fillI_len (n : Nat) (some free : List Int) : ∀ i, (fillI n some free i).length = n
  | 0 => List.length_replicate ..
  | i + 1 => by
    show (List.set _ _ _).length = n
    rw [List.length_set, fillI_len n some free i]
def rowI (n : Nat) (d : Int) (some free : List Int) : List Int := (fillI n some free free.length).set (some.getD (some.length - 1) 0).toNat ((1 - free.sum) % d)
theorem iL_set (l : List Int) (i : Nat) (x : Int) : (iL l).set i (.int x) = iL (l.set i x) := by
  unfold iL
  rw [List.map_set]
theorem ixN_ok {n : Nat} {j : Int} (h0 : 0 ≤ j) (h1 : j < n) : ixN n j = some j.toNat := by
  unfold ixN
  rw [if_pos h0, if_pos h1]
theorem m_rest_rows {n d : Nat} {sm : List Int} (hn : n ≤ 1000) (hd : 1 ≤ d) (hd2 : d ≤ 30) (h0 : 1 ≤ sm.length) (hl : sm.length ≤ 1000) (hs : ∀ x ∈ sm, 0 ≤ x ∧ x < n) (hz : d ^ (sm.length - 1) ≤ 100000)
    (h : Q (.lst ((tupsI (upI d) (sm.length - 1)).map fun f => encS (rowI n d sm f)))) : p_rest_rows [I n, I d, .val (encS sm)] Q R := by
  have z : 1000000 ≤ sizeLine := by decide
  have get : ∀ i, i < sm.length → (iL sm)[i]? = some (.int (sm.getD i 0)) ∧ 0 ≤ sm.getD i 0 ∧ sm.getD i 0 < n := fun i hi => by
    rw [getD_eq hi]
    exact ⟨iL_get hi, hs _ (List.getElem_mem hi)⟩
  unfold p_rest_rows b_rest_rows encS
  simp only [l3s, wipeR, List.map, List.length_cons, List.length_nil, List.replicate, List.cons_append, List.nil_append, List.getElem?_cons_zero, List.getElem?_cons_succ, List.set_cons_zero, List.set_cons_succ, Nat.reduceAdd, Nat.reduceLT, Nat.reduceSub, Nat.reduceEqDiff, true_and, and_true, Nat.zero_lt_succ]
  refine ⟨by decide, ?_⟩
  rw [iL_len, show ((sm.length : Int) - 1) = ((sm.length - 1 : Nat) : Int) by omega]
  refine m_tuples_below (by omega) hd (by omega) (by omega) ?_
  simp only [l3s, wipeR, List.map, List.length_cons, List.length_nil, List.replicate, List.cons_append, List.nil_append, List.getElem?_cons_zero, List.getElem?_cons_succ, List.set_cons_zero, List.set_cons_succ, Nat.reduceAdd, Nat.reduceLT, Nat.reduceSub, Nat.reduceEqDiff, true_and, and_true, Nat.zero_lt_succ]
  rw [rgP_up, tups_eq, List.map_map]
  refine forP_go (fun i ρ => ∃ a b c e, ρ = [some (I n), some (I d), some (.val (.tup (iL sm))), some (.own (((tupsI (upI d) (sm.length - 1)).take i).map fun f => encS (rowI n d sm f))), a, b, c, e]) ⟨none, none, none, none, rfl⟩ ?_ ?_
  · rintro i dd ρ hdd ⟨a, b, c, e, rfl⟩ K hK
    rw [List.getElem?_map] at hdd
    obtain ⟨free, hf, hdd⟩ := Option.map_eq_some_iff.mp hdd
    subst hdd
    have fl := tupsI_len _ _ free (List.mem_of_getElem? hf)
    show gN 4 (.tup (iL free)) _ _ _
    simp only [l3s, wipeR, List.map, List.length_cons, List.length_nil, List.replicate, List.cons_append, List.nil_append, List.getElem?_cons_zero, List.getElem?_cons_succ, List.set_cons_zero, List.set_cons_succ, Nat.reduceAdd, Nat.reduceLT, Nat.reduceSub, Nat.reduceEqDiff, true_and, and_true, Nat.zero_lt_succ]
    refine ⟨by omega, ⟨by omega, by omega, by show 1 * (n : Int).toNat ≤ sizeLine; omega⟩, ?_⟩
    have e0 : (List.replicate (n : Int).toNat [PV.int 0]).flatten = iL (fillI n sm free 0) := by
      have go : ∀ m : Nat, (List.replicate m [PV.int 0]).flatten = List.replicate m (PV.int 0) := by
        intro m
        induction m with
        | zero => rfl
        | succ m ih => rw [List.replicate_succ, List.flatten_cons, ih]; rfl
      show _ = iL (List.replicate n 0)
      unfold iL
      rw [Int.toNat_natCast, List.map_replicate, go]
    rw [e0]
    refine forP_go (fun j ρ => ∃ x y, ρ = [some (I n), some (I d), some (.val (.tup (iL sm))), some (.own (((tupsI (upI d) (sm.length - 1)).take i).map fun f => encS (rowI n d sm f))), some (.val (.tup (iL free))), some (.own (iL (fillI n sm free j))), x, y]) ⟨_, _, rfl⟩ ?_ ?_
    · rintro j dj ρ hdj ⟨x, y, rfl⟩ K2 hK2
      have hj : j < free.length := by
        have := (List.getElem?_eq_some_iff.mp hdj).1
        rwa [enumL_len, iL_len] at this
      obtain ⟨g1, g2, g3⟩ := get j (by omega)
      have ej := enumL_get (iL_get hj)
      rw [ej] at hdj
      obtain rfl := Option.some.inj hdj
      simp only [l3s, wipeR, List.map, List.length_cons, List.length_nil, List.replicate, List.cons_append, List.nil_append, List.getElem?_cons_zero, List.getElem?_cons_succ, List.set_cons_zero, List.set_cons_succ, Nat.reduceAdd, Nat.reduceLT, Nat.reduceSub, Nat.reduceEqDiff, true_and, and_true, Nat.zero_lt_succ]
      rw [L3.atI_nat, g1]
      refine ⟨_, rfl, ?_⟩
      show ∃ m, ixN (iL (fillI n sm free j)).length (sm.getD j 0) = some m ∧ _
      refine ⟨(sm.getD j 0).toNat, by rw [iL_len, fillI_len]; exact ixN_ok g2 g3, ?_⟩
      refine hK2 _ ⟨some (I j), some (.val (.int free[j])), ?_⟩
      rw [iL_set, ← getD_eq hj]
      rfl
    · rintro ρ ⟨x, y, rfl⟩
      rw [enumL_len, iL_len]
      simp only [l3s, wipeR, List.map, List.length_cons, List.length_nil, List.replicate, List.cons_append, List.nil_append, List.getElem?_cons_zero, List.getElem?_cons_succ, List.set_cons_zero, List.set_cons_succ, Nat.reduceAdd, Nat.reduceLT, Nat.reduceSub, Nat.reduceEqDiff, true_and, and_true, Nat.zero_lt_succ]
      refine sum_runT ?_
      simp only [l3s, wipeR, List.map, List.length_cons, List.length_nil, List.replicate, List.cons_append, List.nil_append, List.getElem?_cons_zero, List.getElem?_cons_succ, List.set_cons_zero, List.set_cons_succ, Nat.reduceAdd, Nat.reduceLT, Nat.reduceSub, Nat.reduceEqDiff, true_and, and_true, Nat.zero_lt_succ]
      refine ⟨by omega, ?_⟩
      obtain ⟨g1, g2, g3⟩ := get (sm.length - 1) (by omega)
      have ne : iL sm ≠ [] := by
        intro h
        have h := congrArg List.length h
        rw [iL_len, List.length_nil] at h
        omega
      have last : atI (iL sm) (-1) = some (.int (sm.getD (sm.length - 1) 0)) := by
        rw [L3.atI_last ne, ← List.getLast?_eq_some_getLast, List.getLast?_eq_getElem?, iL_len, g1]
      refine ⟨_, last, ?_⟩
      show ∃ m, ixN (iL (fillI n sm free free.length)).length (sm.getD (sm.length - 1) 0) = some m ∧ _
      refine ⟨(sm.getD (sm.length - 1) 0).toNat, by rw [iL_len, fillI_len]; exact ixN_ok g2 g3, ?_⟩
      rw [iL_set]
      simp only [l3s, wipeR, List.map, List.length_cons, List.length_nil, List.replicate, List.cons_append, List.nil_append, List.getElem?_cons_zero, List.getElem?_cons_succ, List.set_cons_zero, List.set_cons_succ, Nat.reduceAdd, Nat.reduceLT, Nat.reduceSub, Nat.reduceEqDiff, true_and, and_true, Nat.zero_lt_succ]
      have hi : i < (tupsI (upI d) (sm.length - 1)).length := (List.getElem?_eq_some_iff.mp hf).1
      have lt : (tupsI (upI d) (sm.length - 1)).length = d ^ (sm.length - 1) := by
        have q := tupsV_len (iL (upI d)) (sm.length - 1)
        rw [tups_eq, List.length_map, iL_len] at q
        rw [q]
        congr 1
        simp [upI]
      refine ⟨by rw [List.length_map, List.length_take]; omega, hK _ ⟨some (.val (.tup (iL free))), some (.own (iL (rowI n d sm free))), x, y, ?_⟩⟩
      rw [List.take_succ, hf, List.map_append]
      rfl
  · rintro ρ ⟨a, b, c, e, rfl⟩
    simp only [l3s, wipeR, List.map, List.length_cons, List.length_nil, List.replicate, List.cons_append, List.nil_append, List.getElem?_cons_zero, List.getElem?_cons_succ, List.set_cons_zero, List.set_cons_succ, Nat.reduceAdd, Nat.reduceLT, Nat.reduceSub, Nat.reduceEqDiff, true_and, and_true, Nat.zero_lt_succ]
    rw [List.length_map, List.take_length]
    exact h
end
end Q15
namespace Q15
open PySem PySem.Spec PyProof.Rows L2 LamX L3 PySem.W
section
variable {Q : PV → Prop} {R : RS}
def topD : Nat → Nat
  | 1 => 30
  | 2 => 30
  | 3 => 7
  | 4 => 3
  | _ => 0
/-- ingredients and moduli of which the law speaks -/
def Dom (n d : Nat) : Prop := n ∈ [1, 2, 3, 4] ∧ 1 ≤ d ∧ d ≤ topD n
theorem Dom.n {n d : Nat} (h : Dom n d) : 1 ≤ n ∧ n ≤ 4 := by
  have := h.1
  simp only [List.mem_cons, List.not_mem_nil, or_false] at this
  omega
theorem Dom.d {n d : Nat} (h : Dom n d) : 1 ≤ d ∧ d ≤ 30 := by
  have h1 := h.1
  have h2 := h.2.2
  simp only [List.mem_cons, List.not_mem_nil, or_false] at h1
  refine ⟨h.2.1, ?_⟩
  rcases h1 with rfl | rfl | rfl | rfl <;> simp only [topD] at h2 <;> omega
theorem sets_facts {n : Nat} (h : n ∈ [1, 2, 3, 4]) : ∀ s ∈ setsX n, 1 ≤ s.length ∧ s.length ≤ n ∧ ∀ x ∈ s, 0 ≤ x ∧ x < (n : Int) := by
  simp only [List.mem_cons, List.not_mem_nil, or_false] at h
  rcases h with rfl | rfl | rfl | rfl <;> decide
theorem Dom.pw {n d m : Nat} (h : Dom n d) (hm : m ≤ n - 1) : d ^ m ≤ 1000 := by
  have h1 := h.1
  have h2 := h.2.2
  have h3 := h.2.1
  simp only [List.mem_cons, List.not_mem_nil, or_false] at h1
  refine Nat.le_trans (Nat.pow_le_pow_right h3 hm) ?_
  rcases h1 with rfl | rfl | rfl | rfl
  · show d ^ 0 ≤ 1000
    simp
  · exact Nat.le_trans (Nat.pow_le_pow_left h2 1) (by decide)
  · exact Nat.le_trans (Nat.pow_le_pow_left h2 2) (by decide)
  · exact Nat.le_trans (Nat.pow_le_pow_left h2 3) (by decide)
def rowsI (n d : Nat) (s : List Int) : List (List Int) := (tupsI (upI d) (s.length - 1)).map fun f => rowI n d s f
def casesI (n d : Nat) : List (List Int × List Int) := (setsX n).flatMap fun s => (rowsI n d s).map fun r => (s, r)
theorem tupsI_length (d m : Nat) : (tupsI (upI d) m).length = d ^ m := by
  have q := tupsV_len (iL (upI d)) m
  rw [tups_eq, List.length_map, iL_len] at q
  rw [q]
  congr 1
  simp [upI]
def intOf : PV → Int
  | .int i => i
  | _ => 0
def decS : PV → List Int
  | .tup xs => xs.map intOf
  | _ => []
theorem dec_iL (s : List Int) : (iL s).map intOf = s := by
  unfold iL
  rw [List.map_map]
  exact (List.map_congr_left fun x _ => rfl).trans (List.map_id s)
theorem dec_encS (s : List Int) : decS (encS s) = s := dec_iL s
theorem m_all_cases {n d : Nat} (hd : Dom n d) (h : Q (.tup ((casesI n d).map encC))) : p_all_cases [I n, I d] Q R := by
  have ⟨n1, n2⟩ := hd.n
  have ⟨d1, d2⟩ := hd.d
  have z : 1000000 ≤ sizeLine := by decide
  unfold p_all_cases b_all_cases
  simp only [l3s, wipeR, List.map, List.length_cons, List.length_nil, List.replicate, List.cons_append, List.nil_append, List.getElem?_cons_zero, List.getElem?_cons_succ, List.set_cons_zero, List.set_cons_succ, Nat.reduceAdd, Nat.reduceLT, Nat.reduceSub, Nat.reduceEqDiff, true_and, and_true, Nat.zero_lt_succ]
  refine m_all_sets hd.1 ?_
  simp only [l3s, wipeR, List.map, List.length_cons, List.length_nil, List.replicate, List.cons_append, List.nil_append, List.getElem?_cons_zero, List.getElem?_cons_succ, List.set_cons_zero, List.set_cons_succ, Nat.reduceAdd, Nat.reduceLT, Nat.reduceSub, Nat.reduceEqDiff, true_and, and_true, Nat.zero_lt_succ]
  have hlen : (setsX n).length ≤ 15 := by
    have h1 := hd.1
    simp only [List.mem_cons, List.not_mem_nil, or_false] at h1
    rcases h1 with rfl | rfl | rfl | rfl <;> decide
  refine lc2P_map (fun s => (rowsI n d (decS s)).map encS) (fun s r => .tup [s, r]) (fun s ρw => ρw = [some (I n), some (I d), some (.val s), none]) ?_ (fun s hs K k1 => ?_) (fun s hs ρw gd x hx K1 k1 => ?_) ?_
  · have e : ∀ l : List (List Int), (∀ s ∈ l, s ∈ setsX n) → ((l.map encS).flatMap fun s => (rowsI n d (decS s)).map encS).length ≤ l.length * 1000 := by
      intro l
      induction l with
      | nil => intro _; simp
      | cons a l ih =>
        intro hl
        have h1 := ih fun s hs => hl s (List.mem_cons_of_mem _ hs)
        obtain ⟨f1, f2, f3⟩ := sets_facts hd.1 a (hl a List.mem_cons_self)
        have h2 := hd.pw (m := a.length - 1) (by omega)
        rw [List.map_cons, List.flatMap_cons, List.length_append, dec_encS, List.length_map]
        unfold rowsI
        rw [List.length_map, tupsI_length, List.length_cons]
        unfold rowsI at h1
        omega
    have := e _ fun s hs => hs
    omega
  · obtain ⟨s, hs1, rfl⟩ := List.mem_map.mp hs
    obtain ⟨f1, f2, f3⟩ := sets_facts hd.1 s hs1
    simp only [l3s, wipeR, List.map, List.length_cons, List.length_nil, List.replicate, List.cons_append, List.nil_append, List.getElem?_cons_zero, List.getElem?_cons_succ, List.set_cons_zero, List.set_cons_succ, Nat.reduceAdd, Nat.reduceLT, Nat.reduceSub, Nat.reduceEqDiff, true_and, and_true, Nat.zero_lt_succ]
    refine m_rest_rows (by omega) d1 d2 f1 (by omega) f3 (Nat.le_trans (hd.pw (by omega)) (by decide)) ?_
    simp only [l3s, wipeR, List.map, List.length_cons, List.length_nil, List.replicate, List.cons_append, List.nil_append, List.getElem?_cons_zero, List.getElem?_cons_succ, List.set_cons_zero, List.set_cons_succ, Nat.reduceAdd, Nat.reduceLT, Nat.reduceSub, Nat.reduceEqDiff, true_and, and_true, Nat.zero_lt_succ]
    have k2 := k1 _ rfl
    rw [dec_encS] at k2
    unfold rowsI at k2
    rw [List.map_map] at k2
    exact k2
  · subst gd
    simp only [l3s, wipeR, List.map, List.length_cons, List.length_nil, List.replicate, List.cons_append, List.nil_append, List.getElem?_cons_zero, List.getElem?_cons_succ, List.set_cons_zero, List.set_cons_succ, Nat.reduceAdd, Nat.reduceLT, Nat.reduceSub, Nat.reduceEqDiff, true_and, and_true, Nat.zero_lt_succ]
    exact ⟨by omega, k1⟩
  · have e : ((setsX n).map encS).flatMap (fun s => ((rowsI n d (decS s)).map encS).map fun r => PV.tup [s, r]) = (casesI n d).map encC := by
      unfold casesI
      rw [List.map_flatMap, List.flatMap_map]
      congr 1
      funext s
      rw [dec_encS, List.map_map, List.map_map]
      rfl
    rw [e]
    exact h
end
end Q15
namespace Q15
open PySem PySem.Spec PyProof.Rows L2 LamX L3 PySem.W
section
variable {Q : PV → Prop} {R : RS}
theorem m_of {xs : List PV} (h0 : 1 ≤ xs.length) (h1 : xs.length < 1073741824) (h : ∀ x ∈ xs, Q x) : p__law_of [.deal, .val (.lst xs)] Q R := by
  unfold p__law_of b__law_of
  simp only [l3s, wipeR, List.map, List.length_cons, List.length_nil, List.replicate, List.cons_append, List.nil_append, List.getElem?_cons_zero, List.getElem?_cons_succ, List.set_cons_zero, List.set_cons_succ, Nat.reduceAdd, Nat.reduceLT, Nat.reduceSub, Nat.reduceEqDiff, true_and, and_true, Nat.zero_lt_succ]
  refine ⟨⟨by omega, by omega⟩, fun v v0 v1 => ?_⟩
  rw [atI_int v0]
  have hv : v.toNat < xs.length := by omega
  exact ⟨_, List.getElem?_eq_getElem hv, h _ (List.getElem_mem hv)⟩
theorem pow_le5 {b : Int} (h0 : 0 ≤ b) (h1 : b ≤ 5) (i : Nat) : 0 ≤ b ^ i ∧ b ^ i ≤ 5 ^ i := by
  induction i with
  | zero => simp
  | succ i ih =>
    rw [Int.pow_succ, Int.pow_succ]
    exact ⟨Int.mul_nonneg ih.1 h0, Int.mul_le_mul ih.2 h1 h0 (by have := Int.pow_pos (n := 5) (m := i) (by decide); omega)⟩
theorem pow5 {i : Nat} (h : i ≤ 60) : (5 : Int) ^ i ≤ 2 ^ 199 := by
  have h1 : (5 : Nat) ^ i ≤ 5 ^ 60 := Nat.pow_le_pow_right (by decide) h
  have h2 : (5 : Nat) ^ 60 ≤ 2 ^ 199 := by decide
  have h3 : ((5 ^ i : Nat) : Int) ≤ ((2 ^ 199 : Nat) : Int) := by exact_mod_cast Nat.le_trans h1 h2
  simpa using h3
theorem m_power {b : Int} {m : Nat} (h0 : 0 ≤ b) (h1 : b ≤ 5) (hm : m ≤ 60) (h : Q (.int (b ^ m))) : p__law_power [I b, I m] Q R := by
  unfold p__law_power b__law_power
  simp only [l3s, wipeR, List.map, List.length_cons, List.length_nil, List.replicate, List.cons_append, List.nil_append, List.getElem?_cons_zero, List.getElem?_cons_succ, List.set_cons_zero, List.set_cons_succ, Nat.reduceAdd, Nat.reduceLT, Nat.reduceSub, Nat.reduceEqDiff, true_and, and_true, Nat.zero_lt_succ]
  refine ⟨⟨by omega, by omega⟩, ?_⟩
  have l : (rngL 0 (m : Int).toNat).length = m := by simp [rngL]
  refine forP_go (fun i ρ => ∃ x, ρ = [some (I b), some (I m), some (I (b ^ i)), x]) ⟨none, by rw [Int.pow_zero]⟩ ?_ ?_
  · rintro i d ρ hd ⟨x, rfl⟩ K hK
    have hi : i < m := l ▸ (List.getElem?_eq_some_iff.mp hd).1
    have p := pow_le5 h0 h1 i
    have q := pow5 (i := i) (by omega)
    simp only [l3s, wipeR, List.map, List.length_cons, List.length_nil, List.replicate, List.cons_append, List.nil_append, List.getElem?_cons_zero, List.getElem?_cons_succ, List.set_cons_zero, List.set_cons_succ, Nat.reduceAdd, Nat.reduceLT, Nat.reduceSub, Nat.reduceEqDiff, true_and, and_true, Nat.zero_lt_succ]
    refine ⟨wid_small (by omega), wid_small (by omega), hK _ ⟨some (.val d), ?_⟩⟩
    rw [Int.pow_succ]
  · rintro ρ ⟨x, rfl⟩
    rw [l]
    simp only [l3s, wipeR, List.map, List.length_cons, List.length_nil, List.replicate, List.cons_append, List.nil_append, List.getElem?_cons_zero, List.getElem?_cons_succ, List.set_cons_zero, List.set_cons_succ, Nat.reduceAdd, Nat.reduceLT, Nat.reduceSub, Nat.reduceEqDiff, true_and, and_true, Nat.zero_lt_succ]
    exact h
theorem m_gcd {a b : Nat} (h : Q (.int (Nat.gcd a b))) : p__law_gcd [I a, I b] Q R := by
  unfold p__law_gcd b__law_gcd
  simp only [l3s, wipeR, List.map, List.length_cons, List.length_nil, List.replicate, List.cons_append, List.nil_append, List.getElem?_cons_zero, List.getElem?_cons_succ, List.set_cons_zero, List.set_cons_succ, Nat.reduceAdd, Nat.reduceLT, Nat.reduceSub, Nat.reduceEqDiff, true_and, and_true, Nat.zero_lt_succ]
  refine whileP_go (fun n ρ => ∃ x y : Nat, ρ = [some (I x), some (I y)] ∧ y = n ∧ Nat.gcd x y = Nat.gcd a b) b ⟨a, b, rfl, rfl, rfl⟩ ?_
  rintro n ρ ⟨x, y, rfl, rfl, hg⟩ K hK
  simp only [l3s, wipeR, List.map, List.length_cons, List.length_nil, List.replicate, List.cons_append, List.nil_append, List.getElem?_cons_zero, List.getElem?_cons_succ, List.set_cons_zero, List.set_cons_succ, Nat.reduceAdd, Nat.reduceLT, Nat.reduceSub, Nat.reduceEqDiff, true_and, and_true, Nat.zero_lt_succ]
  by_cases hp : 0 < y
  · rw [if_pos (by simpa using hp)]
    refine ⟨by omega, by decide, hK (x % y) _ (Nat.mod_lt _ hp) ⟨y, x % y, rfl, rfl, ?_⟩⟩
    rw [← hg, Nat.gcd_comm y, ← Nat.gcd_rec, Nat.gcd_comm]
  · rw [if_neg (by simpa using hp)]
    have : y = 0 := by omega
    subst this
    rw [Nat.gcd_zero_right] at hg
    rw [hg]
    exact h
/-- bowls of which the law speaks -/
def Bowl (k : Nat) : Prop := k ∈ [2, 3, 4, 5]
theorem Bowl.le {k : Nat} (h : Bowl k) : 2 ≤ k ∧ k ≤ 5 := by
  have h : k ∈ [2, 3, 4, 5] := h
  simp only [List.mem_cons, List.not_mem_nil, or_false] at h
  omega
/-- k and d have nothing in common -/
def Cop (k d : Nat) : Prop := 1 ≤ d ∧ d ≤ 30 ∧ Nat.gcd d k = 1
theorem bez {k d : Nat} (hk : Bowl k) (h : Cop k d) : ∃ u v : Int, u * k + v * d = 1 := by
  have hb : ∀ k ∈ [2, 3, 4, 5], ∀ d ∈ List.range 31, Nat.gcd d k = 1 → ∃ u ∈ List.range 31, (u * k) % d = 1 % d := by decide +kernel
  obtain ⟨u, _, hu⟩ := hb k hk d (List.mem_range.mpr (by have := h.2.1; omega)) h.2.2
  have e1 : ((u * k : Nat) : Int) % d = (1 : Int) % d := by exact_mod_cast hu
  have e2 := Int.mul_ediv_add_emod ((u * k : Nat) : Int) d
  have e3 := Int.mul_ediv_add_emod (1 : Int) d
  refine ⟨u, 1 / (d : Int) - ((u * k : Nat) : Int) / d, ?_⟩
  rw [Int.sub_mul, Int.mul_comm (1 / (d : Int)), Int.mul_comm (((u * k : Nat) : Int) / d)]
  have e4 : ((u * k : Nat) : Int) = (u : Int) * k := by exact_mod_cast rfl
  rw [← e4]
  omega
theorem m_modulus {k top : Nat} (hk : Bowl k) (ht : 1 ≤ top) (ht2 : top ≤ 30) (h : ∀ d : Nat, d ≤ top → Cop k d → Q (.int d)) : p__law_modulus [.deal, I k, I top] Q R := by
  have ⟨k1, k2⟩ := hk.le
  have z : 1000000 ≤ sizeLine := by decide
  unfold p__law_modulus b__law_modulus
  simp only [l3s, wipeR, List.map, List.length_cons, List.length_nil, List.replicate, List.cons_append, List.nil_append, List.getElem?_cons_zero, List.getElem?_cons_succ, List.set_cons_zero, List.set_cons_succ, Nat.reduceAdd, Nat.reduceLT, Nat.reduceSub, Nat.reduceEqDiff, true_and, and_true, Nat.zero_lt_succ]
  refine ⟨⟨by omega, by omega, by omega, by omega⟩, ?_⟩
  have e : ((top : Int) + 1 - 1).toNat = top := by omega
  rw [e]
  refine lcP_sel (fun x => match x with | .int j => decide (Nat.gcd j.toNat k = 1) | _ => false) id (by simp [rngL]; omega) (fun x hx K1 K0 c1 c0 => ?_) ?_
  · obtain ⟨i, hi, rfl⟩ := List.mem_map.mp hx
    have hi := List.mem_range.mp hi
    rw [show (1 : Int) + (i : Int) = ((i + 1 : Nat) : Int) by omega] at c1 c0 ⊢
    simp only [l3s, wipeR, List.map, List.length_cons, List.length_nil, List.replicate, List.cons_append, List.nil_append, List.getElem?_cons_zero, List.getElem?_cons_succ, List.set_cons_zero, List.set_cons_succ, Nat.reduceAdd, Nat.reduceLT, Nat.reduceSub, Nat.reduceEqDiff, true_and, and_true, Nat.zero_lt_succ]
    refine m_gcd ?_
    refine ⟨⟨okD_int, okD_int⟩, ?_⟩
    simp only [l3s, wipeR, List.map, List.length_cons, List.length_nil, List.replicate, List.cons_append, List.nil_append, List.getElem?_cons_zero, List.getElem?_cons_succ, List.set_cons_zero, List.set_cons_succ, Nat.reduceAdd, Nat.reduceLT, Nat.reduceSub, Nat.reduceEqDiff, true_and, and_true, Nat.zero_lt_succ]
    have e2 : decide (((Nat.gcd (i + 1) k : Nat) : Int) = 1) = decide (Nat.gcd (i + 1) k = 1) := by
      by_cases c : Nat.gcd (i + 1) k = 1
      · rw [decide_eq_true c, decide_eq_true (by omega)]
      · rw [decide_eq_false c, decide_eq_false (by omega)]
    rw [e2]
    by_cases c : Nat.gcd (i + 1) k = 1
    · rw [if_pos (by simpa using c)]
      exact c1 (by simpa using c)
    · rw [if_neg (by simpa using c)]
      exact c0 (by simpa using c)
  · rw [List.map_id]
    have mem : ∀ x ∈ (rngL 1 top).filter (fun x => match x with | .int j => decide (Nat.gcd j.toNat k = 1) | _ => false), Q x := by
      intro x hx
      obtain ⟨h1, h2⟩ := List.mem_filter.mp hx
      obtain ⟨i, hi, rfl⟩ := List.mem_map.mp h1
      have hi := List.mem_range.mp hi
      rw [show (1 : Int) + (i : Int) = ((i + 1 : Nat) : Int) by omega] at h2 ⊢
      exact h (i + 1) (by omega) ⟨by omega, by omega, by simpa using h2⟩
    refine m_of ?_ ?_ mem
    · refine List.length_pos_iff.mpr (List.ne_nil_of_mem (a := PV.int 1) (List.mem_filter.mpr ⟨List.mem_map.mpr ⟨0, List.mem_range.mpr ht, rfl⟩, ?_⟩))
      show decide (Nat.gcd 1 k = 1) = true
      simp
    · have := List.length_filter_le (fun x : PV => match x with | .int j => decide (Nat.gcd j.toNat k = 1) | _ => false) (rngL 1 top)
      have l : (rngL 1 top).length = top := by simp [rngL]
      omega
/-- less counts at a lesser depth -/
def Less (k : Int) (n : Nat) (cs : List Int) (n' : Nat) (cs' : List Int) : Prop := ∃ m, n' + m = n ∧ cs = cs'.map fun c => c * k ^ m
theorem m_lowest {k : Int} {n : Nat} {cs : List Int} {d : PV} (hd : d = .lst (iL cs) ∨ d = .tup (iL cs)) (hk : 0 < k) (hk2 : k ≤ 5) (hl : cs.length ≤ 1000) (h : ∀ n' cs', Less k n cs n' cs' → Q (mixP n' cs')) : p__law_lowest [I k, I n, .val d] Q R := by
  have z : 1000000 ≤ sizeLine := by decide
  have go : (fun xs => whileP
    (fun ρ => andB (op2 (cmpM fun i j => decide (j < i)) (rdM ρ 1) (pure (PV.int 0)) >>= asB) (((vCons (lstX (lcX [4] (gN 4) (fun ρ => (pure true : M Bool)) (fun ρ => op2 eqM (op2 modM (((vCons (rdM ρ 4) (vNil)) >>= intM)) (rdM ρ 0)) ((pure (PV.int 0) : M PV))) (fun ρ => ((rdM ρ 3) >>= seqM)) ρ)) (vNil)) >>= allM') >>= asB))
    (fun ρ => parX [1, 3] (aVal (op2 subM (rdM ρ 1) ((pure (PV.int 1) : M PV))) (aVal (lstX (lcX [4] (gN 4) (fun ρ => (pure true : M Bool)) (fun ρ => op2 divM (rdM ρ 4) (rdM ρ 0)) (fun ρ => ((rdM ρ 3) >>= seqM)) ρ)) (aNil))) ρ)
    [some (I k), some (I n), some (.val d), some (.val (.lst xs)), none] (fun f => andThen f (fun ρ => retX (tupX (vCons (varM ρ 1) (vCons ((vCons (rdM ρ 3) vNil) >>= tupM) vNil)))) (fun f => endM f Q R) R) R) (iL cs) := by
    refine whileP_go (fun m ρ => ∃ n' cs', ρ = [some (I k), some (I (n' : Nat)), some (.val d), some (.val (.lst (iL cs'))), none] ∧ n' = m ∧ Less k n cs n' cs') n ⟨n, cs, rfl, rfl, 0, rfl, by simp⟩ ?_
    rintro m ρ ⟨n', cs', rfl, rfl, m, hm, hc⟩ K hK
    have hl' : cs'.length ≤ 1000 := by
      have := congrArg List.length hc
      rw [List.length_map] at this
      omega
    have stop : 2 ≤ sizeLine ∧ Q (PV.tup [PV.int n', PV.tup (iL cs')]) := ⟨by omega, h n' cs' ⟨m, hm, hc⟩⟩
    simp only [l3s, wipeR, List.map, List.length_cons, List.length_nil, List.replicate, List.cons_append, List.nil_append, List.getElem?_cons_zero, List.getElem?_cons_succ, List.set_cons_zero, List.set_cons_succ, Nat.reduceAdd, Nat.reduceLT, Nat.reduceSub, Nat.reduceEqDiff, true_and, and_true, Nat.zero_lt_succ]
    by_cases hp : 0 < n'
    · rw [if_pos (by simpa using hp)]
      refine lcP_map (fun x => .bl (decide (intOf x % k = 0))) (by rw [iL_len]; omega) (fun x hx K1 k1 => ?_) ?_
      · obtain ⟨c, hc1, rfl⟩ := List.mem_map.mp hx
        simp only [l3s, wipeR, List.map, List.length_cons, List.length_nil, List.replicate, List.cons_append, List.nil_append, List.getElem?_cons_zero, List.getElem?_cons_succ, List.set_cons_zero, List.set_cons_succ, Nat.reduceAdd, Nat.reduceLT, Nat.reduceSub, Nat.reduceEqDiff, true_and, and_true, Nat.zero_lt_succ]
        exact ⟨hk, ⟨okD_int, okD_int⟩, k1⟩
      · have e : (iL cs').map (fun x => PV.bl (decide (intOf x % k = 0))) = (cs'.map fun c => decide (c % k = 0)).map PV.bl := by
          unfold iL
          rw [List.map_map, List.map_map]
          rfl
        rw [e]
        refine all_run ?_
        simp only [l3s, wipeR, List.map, List.length_cons, List.length_nil, List.replicate, List.cons_append, List.nil_append, List.getElem?_cons_zero, List.getElem?_cons_succ, List.set_cons_zero, List.set_cons_succ, Nat.reduceAdd, Nat.reduceLT, Nat.reduceSub, Nat.reduceEqDiff, true_and, and_true, Nat.zero_lt_succ]
        cases a : (cs'.map fun c => decide (c % k = 0)).all id with
        | false =>
          rw [if_neg Bool.false_ne_true]
          exact stop
        | true =>
          rw [if_pos rfl]
          have dv : ∀ c ∈ cs', c % k = 0 := fun c hc => by
            rw [List.all_map, List.all_eq_true] at a
            exact of_decide_eq_true (a c hc)
          refine lcP_map (fun x => .int (intOf x / k)) (by rw [iL_len]; omega) (fun x hx K1 k1 => ?_) ?_
          · obtain ⟨c, hc1, rfl⟩ := List.mem_map.mp hx
            simp only [l3s, wipeR, List.map, List.length_cons, List.length_nil, List.replicate, List.cons_append, List.nil_append, List.getElem?_cons_zero, List.getElem?_cons_succ, List.set_cons_zero, List.set_cons_succ, Nat.reduceAdd, Nat.reduceLT, Nat.reduceSub, Nat.reduceEqDiff, true_and, and_true, Nat.zero_lt_succ]
            exact ⟨⟨hk, wid_small (by omega)⟩, k1⟩
          · refine ⟨by decide, hK (n' - 1) _ (by omega) ⟨n' - 1, cs'.map fun c => c / k, ?_, rfl, m + 1, by omega, ?_⟩⟩
            · have e1 : (n' : Int) - 1 = ((n' - 1 : Nat) : Int) := by omega
              have e2 : (iL cs').map (fun x => PV.int (intOf x / k)) = iL (cs'.map fun c => c / k) := by
                unfold iL
                rw [List.map_map, List.map_map]
                rfl
              rw [e1, e2]
            · rw [hc, List.map_map]
              refine List.map_congr_left fun c hcm => ?_
              show c * k ^ m = c / k * k ^ (m + 1)
              rw [Int.pow_succ, Int.mul_comm (k ^ m), ← Int.mul_assoc, Int.ediv_mul_cancel (Int.dvd_of_emod_eq_zero (dv c hcm))]
    · rw [if_neg (by simpa using hp), if_neg Bool.false_ne_true]
      exact stop
  unfold p__law_lowest b__law_lowest
  simp only [l3s, wipeR, List.map, List.length_cons, List.length_nil, List.replicate, List.cons_append, List.nil_append, List.getElem?_cons_zero, List.getElem?_cons_succ, List.set_cons_zero, List.set_cons_succ, Nat.reduceAdd, Nat.reduceLT, Nat.reduceSub, Nat.reduceEqDiff, true_and, and_true, Nat.zero_lt_succ]
  rcases hd with rfl | rfl <;> exact go
end
end Q15
namespace Q15
open PySem PySem.Spec PyProof.Rows L2 LamX L3 PySem.W
section
variable {Q : PV → Prop} {R : RS}
theorem eq_ints {a b : Nat} : decide ((a : Int) = (b : Int)) = decide (a = b) := by
  by_cases c : a = b
  · rw [decide_eq_true c, decide_eq_true (by omega)]
  · rw [decide_eq_false c, decide_eq_false (by omega)]
theorem okD_lst (a : List Int) : okD (.lst (iL a)) := by
  show SeqAt.shaped (toD (.lst (iL a))) = true
  simp only [toD, toDs_iL]
  unfold SeqAt.shaped
  simp only [PyData.canLay0, canLay_ints, PyData.depth, depth_ints]
  decide
theorem okD_encS (a : List Int) : okD (encS a) := by
  show SeqAt.shaped (toD (encS a)) = true
  rw [toD_encS]
  unfold SeqAt.shaped
  simp only [PyData.canLay0, canLay_ints, PyData.depth, depth_ints]
  decide
/-- some of the ingredients -/
theorem m_some {n : Nat} (h0 : 1 ≤ n) (h1 : n ≤ 1000) (h : ∀ sm : List Int, 1 ≤ sm.length → sm.length ≤ n → (∀ x ∈ sm, 0 ≤ x ∧ x < n) → Q (.lst (iL sm))) : p__law_some [.deal, I n] Q R := by
  have z : 1000000 ≤ sizeLine := by decide
  unfold p__law_some b__law_some
  simp only [l3s, wipeR, List.map, List.length_cons, List.length_nil, List.replicate, List.cons_append, List.nil_append, List.getElem?_cons_zero, List.getElem?_cons_succ, List.set_cons_zero, List.set_cons_succ, Nat.reduceAdd, Nat.reduceLT, Nat.reduceSub, Nat.reduceEqDiff, true_and, and_true, Nat.zero_lt_succ]
  refine ⟨⟨by omega, by omega⟩, ?_⟩
  have l : (rngL 0 (n : Int).toNat).length = n := by simp [rngL]
  refine lcP_inv (fun i acc => ∃ sm : List Int, acc = iL sm ∧ sm.length ≤ i ∧ ∀ x ∈ sm, 0 ≤ x ∧ x < n) ⟨[], rfl, Nat.le_refl _, fun _ h => by cases h⟩ ?_ ?_
  · rintro i d acc hd ⟨sm, rfl, hl, hs⟩ K hK
    have hi : i < n := l ▸ (List.getElem?_eq_some_iff.mp hd).1
    have ed : d = .int i := by
      unfold rngL at hd
      rw [List.getElem?_map, List.getElem?_range (by omega)] at hd
      simpa using hd.symm
    subst ed
    simp only [l3s, wipeR, List.map, List.length_cons, List.length_nil, List.replicate, List.cons_append, List.nil_append, List.getElem?_cons_zero, List.getElem?_cons_succ, List.set_cons_zero, List.set_cons_succ, Nat.reduceAdd, Nat.reduceLT, Nat.reduceSub, Nat.reduceEqDiff, true_and, and_true, Nat.zero_lt_succ]
    refine ⟨⟨by decide, by decide⟩, fun v v0 v1 => ?_⟩
    by_cases c : 0 < v
    · rw [if_pos (by simpa using c)]
      refine ⟨by rw [iL_len]; omega, hK _ ⟨sm ++ [(i : Int)], by unfold iL; rw [List.map_append]; rfl, by rw [List.length_append]; show sm.length + 1 ≤ i + 1; omega, fun x hx => ?_⟩⟩
      rcases List.mem_append.mp hx with hx | hx
      · exact hs x hx
      · rw [List.mem_singleton] at hx
        omega
    · rw [if_neg (by simpa using c)]
      exact hK _ ⟨sm, rfl, by omega, hs⟩
  · rintro acc ⟨sm, rfl, hl, hs⟩
    rw [l] at hl
    have ee : (!(iL sm).isEmpty) = decide (sm ≠ []) := by cases sm <;> rfl
    refine ⟨by decide, ?_⟩
    show if (!(iL sm).isEmpty) = true then _ else _
    rw [ee]
    by_cases c : sm = []
    · rw [if_neg (by simp [c])]
      refine ⟨⟨by omega, by omega⟩, fun v v0 v1 => ⟨by show 1 ≤ sizeLine; omega, ?_⟩⟩
      exact h [v] (Nat.le_refl _) h0 fun x hx => by rw [List.mem_singleton] at hx; omega
    · rw [if_pos (by simp [c])]
      exact h sm (List.length_pos_iff.mpr c) hl hs
/-- counts of a split -/
def Row (n : Nat) (w : Int) (r : List Int) : Prop := r.length = n ∧ ∀ c ∈ r, 0 ≤ c ∧ c ≤ w
theorem set_mem {l : List Int} {i : Nat} {x y : Int} (h : y ∈ l.set i x) : y ∈ l ∨ y = x := by
  rcases List.mem_or_eq_of_mem_set h with h | h
  · exact .inl h
  · exact .inr h
theorem m_split {w : Int} {n : Nat} {sm : List Int} (hn : n ≤ 1000) (h0 : 1 ≤ sm.length) (hl : sm.length ≤ 1000) (hw : (sm.length : Int) ≤ w) (hw2 : w < 1000000) (hs : ∀ x ∈ sm, 0 ≤ x ∧ x < n) (h : ∀ r, Row n w r → Q (.lst (iL r))) : p__law_split [.deal, .val (.int w), I n, .val (.lst (iL sm))] Q R := by
  have z : 1000000 ≤ sizeLine := by decide
  unfold p__law_split b__law_split
  simp only [l3s, wipeR, List.map, List.length_cons, List.length_nil, List.replicate, List.cons_append, List.nil_append, List.getElem?_cons_zero, List.getElem?_cons_succ, List.set_cons_zero, List.set_cons_succ, Nat.reduceAdd, Nat.reduceLT, Nat.reduceSub, Nat.reduceEqDiff, true_and, and_true, Nat.zero_lt_succ]
  rw [iL_len]
  refine ⟨⟨by omega, by omega⟩, ?_⟩
  have l : (rngL 0 (n : Int).toNat).length = n := by simp [rngL]
  refine lcP_map (fun _ => .int 0) (by omega) (fun x hx K1 k1 => ?_) ?_
  · simp only [l3s, wipeR, List.map, List.length_cons, List.length_nil, List.replicate, List.cons_append, List.nil_append, List.getElem?_cons_zero, List.getElem?_cons_succ, List.set_cons_zero, List.set_cons_succ, Nat.reduceAdd, Nat.reduceLT, Nat.reduceSub, Nat.reduceEqDiff, true_and, and_true, Nat.zero_lt_succ]
    exact k1
  have e0 : (rngL 0 (n : Int).toNat).map (fun _ => PV.int 0) = iL (List.replicate n 0) := by
    rw [List.map_const', l]
    unfold iL
    rw [List.map_replicate]
  rw [e0]
  refine ⟨by decide, ?_⟩
  refine forP_go (fun i ρ => ∃ r left x y u, ρ = [some .deal, some (.val (.int w)), some (I n), some (.val (.lst (iL sm))), some (.own (iL r)), some (.val (.int left)), x, y, u] ∧ Row n w r ∧ 0 ≤ left ∧ left ≤ w - sm.length) ⟨_, _, none, none, none, rfl, ⟨List.length_replicate .., fun c hc => by rw [List.eq_of_mem_replicate hc]; omega⟩, by omega, by omega⟩ ?_ ?_
  · rintro i d ρ hd ⟨r, left, x, y, u, rfl, hr, l0, l1⟩ K hK
    have hi : i < sm.length := by
      have := (List.getElem?_eq_some_iff.mp hd).1
      rwa [enumL_len, iL_len] at this
    rw [enumL_get (iL_get hi)] at hd
    obtain rfl := Option.some.inj hd
    have ⟨a0, a1⟩ := hs _ (List.getElem_mem hi)
    have fin : ∀ t : Int, 0 ≤ t → t ≤ left → 2 ≤ sizeLine ∧ ∃ m, ixN (iL r).length sm[i] = some m ∧ K [some .deal, some (.val (.int w)), some (I n), some (.val (.lst (iL sm))), some (.own ((iL r).set m (.int (1 + t)))), some (.val (.int (left - t))), some (.val (.int i)), some (.val (.int sm[i])), some (.val (.int t))] := fun t t0 t1 => by
      refine ⟨by omega, sm[i].toNat, by rw [iL_len, hr.1]; exact ixN_ok a0 a1, hK _ ⟨r.set sm[i].toNat (1 + t), left - t, _, _, _, by rw [iL_set], ⟨by rw [List.length_set, hr.1], fun c hc => ?_⟩, by omega, by omega⟩⟩
      rcases set_mem hc with hc | rfl
      · exact hr.2 c hc
      · omega
    simp only [l3s, wipeR, List.map, List.length_cons, List.length_nil, List.replicate, List.cons_append, List.nil_append, List.getElem?_cons_zero, List.getElem?_cons_succ, List.set_cons_zero, List.set_cons_succ, Nat.reduceAdd, Nat.reduceLT, Nat.reduceSub, Nat.reduceEqDiff, true_and, and_true, Nat.zero_lt_succ]
    rw [iL_len]
    refine ⟨⟨okD_int, okD_int⟩, ?_⟩
    by_cases c : (i : Int) = sm.length - 1
    · rw [if_pos (by simpa using c), if_neg (by simp; omega), if_neg Bool.false_ne_true]
      exact fin left l0 (Int.le_refl _)
    · rw [if_neg (by simpa using c)]
      refine ⟨⟨by omega, by omega⟩, fun v v0 v1 => ?_⟩
      rw [if_pos (by simp; omega)]
      refine ⟨⟨by decide, by decide⟩, fun v' _ _ => ⟨⟨okD_int, okD_int⟩, ?_⟩⟩
      by_cases c2 : v' = 0
      · rw [if_pos (by simpa using c2)]
        refine fin _ ?_ ?_ <;> split <;> omega
      · rw [if_neg (by simpa using c2)]
        exact fin v v0 (by omega)
  · rintro ρ ⟨r, left, x, y, u, rfl, hr, l0, l1⟩
    simp only [l3s, wipeR, List.map, List.length_cons, List.length_nil, List.replicate, List.cons_append, List.nil_append, List.getElem?_cons_zero, List.getElem?_cons_succ, List.set_cons_zero, List.set_cons_succ, Nat.reduceAdd, Nat.reduceLT, Nat.reduceSub, Nat.reduceEqDiff, true_and, and_true, Nat.zero_lt_succ]
    exact h r hr
end
end Q15
namespace Q15
open PySem PySem.Spec PyProof.Rows L2 LamX L3 PySem.W
section
variable {Q : PV → Prop} {R : RS}
/-- a mixture of many ingredients -/
def Mix (many n : Nat) (cs : List Int) : Prop := n ≤ 20 ∧ cs.length = many ∧ ∀ c ∈ cs, 0 ≤ c ∧ c < 2 ^ 100
theorem Mix.less {k : Int} {many n n' : Nat} {cs cs' : List Int} (hk : 0 < k) (h : Mix many n cs) (l : Less k n cs n' cs') : Mix many n' cs' := by
  obtain ⟨m, h1, rfl⟩ := l
  refine ⟨by have := h.1; omega, by have := h.2.1; rwa [List.length_map] at this, fun c hc => ?_⟩
  have ⟨g1, g2⟩ := h.2.2 _ (List.mem_map.mpr ⟨c, hc, rfl⟩)
  have p : 0 < k ^ m := Int.pow_pos hk
  refine ⟨Int.nonneg_of_mul_nonneg_left g1 p, ?_⟩
  have c0 : 0 ≤ c := Int.nonneg_of_mul_nonneg_left g1 p
  have : c * 1 ≤ c * k ^ m := Int.mul_le_mul_of_nonneg_left p c0
  omega
theorem m_mixture {k many deep : Nat} (hk : Bowl k) (hm : 1 ≤ many) (hm2 : many ≤ 4) (hd : deep ≤ 6) (h : ∀ n cs, Mix many n cs → n ≤ 6 → (∀ c ∈ cs, c < 2 ^ 20) → Q (mixP (n : Nat) cs)) : p__law_mixture [.deal, I k, I many, I deep] Q R := by
  have ⟨k1, k2⟩ := hk.le
  unfold p__law_mixture b__law_mixture
  simp only [l3s, wipeR, List.map, List.length_cons, List.length_nil, List.replicate, List.cons_append, List.nil_append, List.getElem?_cons_zero, List.getElem?_cons_succ, List.set_cons_zero, List.set_cons_succ, Nat.reduceAdd, Nat.reduceLT, Nat.reduceSub, Nat.reduceEqDiff, true_and, and_true, Nat.zero_lt_succ]
  refine m_some hm (by omega) fun sm s1 s2 s3 => ?_
  refine ⟨⟨by omega, by omega⟩, fun v v0 v1 => ⟨by decide, ?_⟩⟩
  refine whileP_go (fun m ρ => ∃ n : Nat, ρ = [some .deal, some (I k), some (I many), some (I deep), some (.val (.lst (iL sm))), some (I n)] ∧ 10 - n = m ∧ n ≤ 6) (10 - v.toNat) ⟨v.toNat, by rw [Int.toNat_of_nonneg v0], rfl, by omega⟩ ?_
  rintro m ρ ⟨n, rfl, rfl, hn⟩ K hK
  have pk := pow_le5 (b := (k : Int)) (by omega) (by omega) n
  have p5 : (5 : Int) ^ n ≤ 5 ^ 6 := by
    have h1 : (5 : Nat) ^ n ≤ 5 ^ 6 := Nat.pow_le_pow_right (by decide) hn
    have h2 : ((5 ^ n : Nat) : Int) ≤ ((5 ^ 6 : Nat) : Int) := by exact_mod_cast h1
    simpa using h2
  simp only [l3s, wipeR, List.map, List.length_cons, List.length_nil, List.replicate, List.cons_append, List.nil_append, List.getElem?_cons_zero, List.getElem?_cons_succ, List.set_cons_zero, List.set_cons_succ, Nat.reduceAdd, Nat.reduceLT, Nat.reduceSub, Nat.reduceEqDiff, true_and, and_true, Nat.zero_lt_succ]
  refine m_power (by omega) (by omega) (by omega) ?_
  rw [iL_len, cmp_run, asB_run]
  by_cases c : (k : Int) ^ n < sm.length
  · rw [if_pos (by simpa using c)]
    have n1 : n < 2 := by
      rcases Nat.lt_or_ge n 2 with h | h
      · exact h
      · exfalso
        have h1 : (2 : Nat) ^ 2 ≤ k ^ n := Nat.le_trans (Nat.pow_le_pow_right (by decide) h) (Nat.pow_le_pow_left k1 n)
        have h2 : (4 : Int) ≤ ((k ^ n : Nat) : Int) := by exact_mod_cast h1
        have h3 : ((k ^ n : Nat) : Int) = (k : Int) ^ n := by simp
        omega
    exact hK (10 - (n + 1)) _ (by omega) ⟨n + 1, rfl, rfl, by omega⟩
  · rw [if_neg (by simpa using c)]
    refine m_power (by omega) (by omega) (by omega) ?_
    refine m_split (by omega) s1 (by omega) (by omega) (by omega) s3 fun r hr => ?_
    refine m_lowest (.inl rfl) (by omega) (by omega) (by have := hr.1; omega) fun n' cs' hl => ?_
    have mx := Mix.less (k := (k : Int)) (by omega) ⟨by omega, hr.1, fun c hc => by have := hr.2 c hc; omega⟩ hl
    refine h n' cs' mx ?_ fun c hc => ?_
    · obtain ⟨m, h1, _⟩ := hl
      omega
    · obtain ⟨m, h1, e⟩ := hl
      have g := (hr.2 (c * (k : Int) ^ m) (by rw [e]; exact List.mem_map.mpr ⟨c, hc, rfl⟩)).2
      have c0 := (mx.2.2 c hc).1
      have p : 0 < (k : Int) ^ m := Int.pow_pos (by omega)
      have : c * 1 ≤ c * (k : Int) ^ m := Int.mul_le_mul_of_nonneg_left p c0
      omega
theorem inv_one {k d r s : Int} (hr : Inv1 k d r) (hs : Inv1 k d s) : r = s := by
  have h : r % d = s % d := by
    have h1 : (r * (s * k)) % d = (r * 1) % d := mul_cong rfl hs.2.2
    have h2 : (s * (r * k)) % d = (s * 1) % d := mul_cong rfl hr.2.2
    have e : r * (s * k) = s * (r * k) := by rw [← Int.mul_assoc, Int.mul_comm r s, Int.mul_assoc]
    rw [Int.mul_one] at h1 h2
    rw [← h1, ← h2, e]
  rw [Int.emod_eq_of_lt hr.1 hr.2.1, Int.emod_eq_of_lt hs.1 hs.2.1] at h
  exact h
theorem one_zero {a d : Int} (hd : 0 < d) : (a - 1) % d = 0 ↔ a % d = 1 % d := by
  rw [Int.emod_eq_emod_iff_emod_sub_eq_zero]
theorem m_rest {k d n : Nat} {c : Int} (hk : Bowl k) (hc : Cop k d) (hn : n ≤ 60) (c0 : 0 ≤ c) (c1 : c < 2 ^ 100) (h : ∀ r, Inv1 k d r → Q (.int (c * (r ^ n % d) % d))) : p__law_rest [I k, I n, .val (.int c), I d] Q R := by
  have ⟨k1, k2⟩ := hk.le
  have ⟨d1, d2, _⟩ := hc
  obtain ⟨u, v, huv⟩ := bez hk hc
  have d0 : (0 : Int) < d := by omega
  have ex : Inv1 k d (u % d) := ⟨Int.emod_nonneg _ (by omega), Int.emod_lt_of_pos _ d0, by
    rw [mul_cong (Int.emod_emod _ _) rfl, ← huv]
    simp⟩
  unfold p__law_rest b__law_rest
  simp only [l3s, wipeR, List.map, List.length_cons, List.length_nil, List.replicate, List.cons_append, List.nil_append, List.getElem?_cons_zero, List.getElem?_cons_succ, List.set_cons_zero, List.set_cons_succ, Nat.reduceAdd, Nat.reduceLT, Nat.reduceSub, Nat.reduceEqDiff, true_and, and_true, Nat.zero_lt_succ]
  refine ⟨by decide, by decide, ⟨by omega, by omega⟩, ?_⟩
  have l : (rngL 0 (d : Int).toNat).length = d := by simp [rngL]
  refine forP_go (fun i ρ => ∃ s x, ρ = [some (I k), some (I n), some (.val (.int c)), some (I d), some (I 1), some (I s), x, none] ∧ (u % d < i → Inv1 k d s)) ⟨0, none, rfl, fun h => by have := ex.1; omega⟩ ?_ ?_
  · rintro i x ρ hx ⟨s, y, rfl, hs⟩ K hK
    have hi : i < d := l ▸ (List.getElem?_eq_some_iff.mp hx).1
    have ed : x = .int i := by
      unfold rngL at hx
      rw [List.getElem?_map, List.getElem?_range (by omega)] at hx
      simpa using hx.symm
    subst ed
    simp only [l3s, wipeR, List.map, List.length_cons, List.length_nil, List.replicate, List.cons_append, List.nil_append, List.getElem?_cons_zero, List.getElem?_cons_succ, List.set_cons_zero, List.set_cons_succ, Nat.reduceAdd, Nat.reduceLT, Nat.reduceSub, Nat.reduceEqDiff, true_and, and_true, Nat.zero_lt_succ]
    refine ⟨wid_small (by omega), wid_small (by omega), d0, ⟨okD_int, okD_int⟩, ?_⟩
    by_cases q : ((i : Int) * k - 1) % d = 0
    · rw [if_pos (by simpa using q)]
      exact hK _ ⟨i, some (I i), rfl, fun _ => ⟨by omega, by omega, (one_zero d0).mp q⟩⟩
    · rw [if_neg (by simpa using q)]
      refine hK _ ⟨s, some (I i), rfl, fun hlt => hs ?_⟩
      have ne : u % d ≠ i := fun e => q ((one_zero d0).mpr (e ▸ ex.2.2))
      omega
  · rintro ρ ⟨s, y, rfl, hs⟩
    rw [l] at hs
    have hs := hs ex.2.1
    simp only [l3s, wipeR, List.map, List.length_cons, List.length_nil, List.replicate, List.cons_append, List.nil_append, List.getElem?_cons_zero, List.getElem?_cons_succ, List.set_cons_zero, List.set_cons_succ, Nat.reduceAdd, Nat.reduceLT, Nat.reduceSub, Nat.reduceEqDiff, true_and, and_true, Nat.zero_lt_succ]
    refine ⟨⟨by omega, by omega⟩, ?_⟩
    have l2 : (rngL 0 (n : Int).toNat).length = n := by simp [rngL]
    refine forP_go (fun i ρ => ∃ t y2, ρ = [some (I k), some (I n), some (.val (.int c)), some (I d), some (I t), some (I s), y, y2] ∧ 0 ≤ t ∧ t ≤ 30 ∧ t % d = s ^ i % d) ⟨1, none, rfl, by decide, by decide, by rw [Int.pow_zero]⟩ ?_ ?_
    · rintro i x ρ hx ⟨t, y2, rfl, t0, t1, t2⟩ K hK
      simp only [l3s, wipeR, List.map, List.length_cons, List.length_nil, List.replicate, List.cons_append, List.nil_append, List.getElem?_cons_zero, List.getElem?_cons_succ, List.set_cons_zero, List.set_cons_succ, Nat.reduceAdd, Nat.reduceLT, Nat.reduceSub, Nat.reduceEqDiff, true_and, and_true, Nat.zero_lt_succ]
      have s0 := hs.1
      have s1 := hs.2.1
      refine ⟨wid_small (by omega), wid_small (by omega), d0, hK _ ⟨_, some (.val x), rfl, Int.emod_nonneg _ (by omega), ?_, ?_⟩⟩
      · have := Int.emod_lt_of_pos (t * s) d0
        omega
      · rw [Int.emod_emod, Int.pow_succ]
        exact mul_cong t2 rfl
    · rintro ρ ⟨t, y2, rfl, t0, t1, t2⟩
      rw [l2] at t2
      simp only [l3s, wipeR, List.map, List.length_cons, List.length_nil, List.replicate, List.cons_append, List.nil_append, List.getElem?_cons_zero, List.getElem?_cons_succ, List.set_cons_zero, List.set_cons_succ, Nat.reduceAdd, Nat.reduceLT, Nat.reduceSub, Nat.reduceEqDiff, true_and, and_true, Nat.zero_lt_succ]
      refine ⟨wid_small (by omega), wid_small (by omega), d0, ?_⟩
      have e : c * t % d = c * (s ^ n % d) % d := mul_cong rfl (t2.trans (Int.emod_emod _ _).symm)
      rw [e]
      exact h s hs
end
end Q15
namespace Q15
open PySem PySem.Spec PyProof.Rows L2 LamX L3 PySem.W
section
variable {Q : PV → Prop} {R : RS}
theorem enum_range (cs : List Int) : enumL (iL cs) = (List.range cs.length).map fun i => PV.tup [.int (i : Nat), .int (cs.getD i 0)] := by
  apply List.ext_getElem?
  intro i
  by_cases hi : i < cs.length
  · rw [enumL_get (iL_get hi), List.getElem?_map, List.getElem?_range hi]
    show _ = some (PV.tup [.int (i : Nat), .int (cs.getD i 0)])
    rw [getD_eq hi]
  · rw [List.getElem?_eq_none (by rw [enumL_len, iL_len]; omega), List.getElem?_eq_none (by rw [List.length_map, List.length_range]; omega)]
theorem m_case {k d n many : Nat} {cs : List Int} (hk : Bowl k) (hc : Cop k d) (hm : Mix many n cs) (hmany : many ≤ 100) (h : ∀ r, Inv1 k d r → Q (encC (suppI cs, restI r d n cs))) : p__law_case [I k, .val (mixP n cs), I d] Q R := by
  have z : 1000000 ≤ sizeLine := by decide
  have hl := hm.2.1
  have d0 : (0 : Int) < d := by have := hc.1; omega
  obtain ⟨u, v, huv⟩ := bez hk hc
  have ex : Inv1 k d (u % d) := ⟨Int.emod_nonneg _ (by omega), Int.emod_lt_of_pos _ d0, by
    rw [mul_cong (Int.emod_emod _ _) rfl, ← huv]
    simp⟩
  unfold p__law_case b__law_case
  simp only [l3s, wipeR, List.map, List.length_cons, List.length_nil, List.replicate, List.cons_append, List.nil_append, List.getElem?_cons_zero, List.getElem?_cons_succ, List.set_cons_zero, List.set_cons_succ, Nat.reduceAdd, Nat.reduceLT, Nat.reduceSub, Nat.reduceEqDiff, true_and, and_true, Nat.zero_lt_succ]
  refine ⟨_, rfl, ?_⟩
  simp only [l3s, wipeR, List.map, List.length_cons, List.length_nil, List.replicate, List.cons_append, List.nil_append, List.getElem?_cons_zero, List.getElem?_cons_succ, List.set_cons_zero, List.set_cons_succ, Nat.reduceAdd, Nat.reduceLT, Nat.reduceSub, Nat.reduceEqDiff, true_and, and_true, Nat.zero_lt_succ]
  rw [enum_range]
  refine lcP_sel (fun x => match x with | .tup [_, .int c] => decide (0 < c) | _ => false) (fun x => match x with | .tup [i, _] => i | _ => .non) (by rw [List.length_map, List.length_range]; omega) (fun x hx K1 K0 k1 k0 => ?_) ?_
  · obtain ⟨i, hi, rfl⟩ := List.mem_map.mp hx
    simp only [l3s, wipeR, List.map, List.length_cons, List.length_nil, List.replicate, List.cons_append, List.nil_append, List.getElem?_cons_zero, List.getElem?_cons_succ, List.set_cons_zero, List.set_cons_succ, Nat.reduceAdd, Nat.reduceLT, Nat.reduceSub, Nat.reduceEqDiff, true_and, and_true, Nat.zero_lt_succ]
    by_cases c : 0 < cs.getD i 0
    · rw [if_pos (by simpa using c)]
      exact k1 (by simpa using c)
    · rw [if_neg (by simpa using c)]
      exact k0 (by simpa using c)
  have e : (((List.range cs.length).map fun i => PV.tup [.int (i : Nat), .int (cs.getD i 0)]).filter (fun x => match x with | .tup [_, .int c] => decide (0 < c) | _ => false)).map (fun x => match x with | .tup [i, _] => i | _ => .non) = iL (suppI cs) := by
    unfold suppI iL
    rw [List.filter_map, List.map_map, List.map_map]
    have e1 : (List.range cs.length).filter ((fun x : PV => match x with | .tup [_, .int c] => decide (0 < c) | _ => false) ∘ fun i => PV.tup [.int (i : Nat), .int (cs.getD i 0)]) = (List.range cs.length).filter fun i => decide (cs.getD i 0 ≠ 0) := by
      apply List.filter_congr
      intro i hi
      have hi := List.mem_range.mp hi
      have c0 := (hm.2.2 _ (List.getElem_mem hi)).1
      show decide (0 < cs.getD i 0) = decide (cs.getD i 0 ≠ 0)
      rw [getD_eq hi]
      by_cases c : cs[i] = 0
      · simp [c]
      · rw [decide_eq_true (by omega), decide_eq_true c]
    rw [e1]
    refine List.map_congr_left fun i _ => ?_
    rfl
  rw [e]
  refine ⟨_, rfl, ?_⟩
  try simp only [l3s, wipeR, List.map, List.length_cons, List.length_nil, List.replicate, List.cons_append, List.nil_append, List.getElem?_cons_zero, List.getElem?_cons_succ, List.set_cons_zero, List.set_cons_succ, Nat.reduceAdd, Nat.reduceLT, Nat.reduceSub, Nat.reduceEqDiff, true_and, and_true, Nat.zero_lt_succ]
  refine lcP_map (fun x => .int (intOf x * ((u % d) ^ n % d) % d)) (by rw [iL_len]; omega) (fun x hx K1 k1 => ?_) ?_
  · obtain ⟨c, hc1, rfl⟩ := List.mem_map.mp hx
    have ⟨c0, c1⟩ := hm.2.2 c hc1
    simp only [l3s, wipeR, List.map, List.length_cons, List.length_nil, List.replicate, List.cons_append, List.nil_append, List.getElem?_cons_zero, List.getElem?_cons_succ, List.set_cons_zero, List.set_cons_succ, Nat.reduceAdd, Nat.reduceLT, Nat.reduceSub, Nat.reduceEqDiff, true_and, and_true, Nat.zero_lt_succ]
    refine ⟨_, rfl, ?_⟩
    refine m_rest hk hc (by have := hm.1; omega) c0 c1 fun r hr => ?_
    rw [inv_one hr ex]
    exact k1
  · have e2 : (iL cs).map (fun x => PV.int (intOf x * ((u % d) ^ n % d) % d)) = iL (restI (u % d) d n cs) := by
      unfold iL restI
      rw [List.map_map, List.map_map]
      rfl
    rw [e2]
    exact ⟨by omega, h _ ex⟩
theorem sets_law {n : Nat} (h : n ∈ [1, 2, 3, 4]) : ((subsI n).filter fun s => decide (s ≠ [])).mergeSort leS = setsX n := by
  simp only [List.mem_cons, List.not_mem_nil, or_false] at h
  rcases h with rfl | rfl | rfl | rfl <;> exact sort_is (List.isPerm_iff.mp (by decide +kernel)) (by decide +kernel)
theorem eqP_empty (a : List Int) : eqP (encS a) (.tup []) = decide (a = []) := by
  show PyData.eqv (toD (encS a)) (toD (encS [])) = _
  rw [toD_encS, toD_encS, eqv_sets]
theorem m_sets {n : Nat} (hn : n ∈ [1, 2, 3, 4]) (h : Q (.lst ((setsX n).map encS))) : p__law_sets [I n] Q R := by
  have z : 1000000 ≤ sizeLine := by decide
  have hs : 1 ≤ n ∧ n ≤ 4 := by
    simp only [List.mem_cons, List.not_mem_nil, or_false] at hn
    omega
  have sz : ∀ i, i ≤ 4 → (subsI i).length ≤ 16 ∧ ∀ s ∈ subsI i, s.length ≤ 4 := by
    intro i hi
    have : i ∈ [0, 1, 2, 3, 4] := by simp; omega
    revert this
    revert i
    decide
  unfold p__law_sets b__law_sets
  simp only [l3s, wipeR, List.map, List.length_cons, List.length_nil, List.replicate, List.cons_append, List.nil_append, List.getElem?_cons_zero, List.getElem?_cons_succ, List.set_cons_zero, List.set_cons_succ, Nat.reduceAdd, Nat.reduceLT, Nat.reduceSub, Nat.reduceEqDiff, true_and, and_true, Nat.zero_lt_succ]
  refine ⟨by omega, by omega, ⟨by omega, by omega⟩, ?_⟩
  have l : (rngL 0 (n : Int).toNat).length = n := by simp [rngL]
  refine forP_go (fun i ρ => ∃ x, ρ = [some (I n), some (.val (.lst ((subsI i).map encS))), x, none]) ⟨none, rfl⟩ ?_ ?_
  · rintro i x ρ hx ⟨y, rfl⟩ K hK
    have hi : i < n := l ▸ (List.getElem?_eq_some_iff.mp hx).1
    have ed : x = .int i := by
      unfold rngL at hx
      rw [List.getElem?_map, List.getElem?_range (by omega)] at hx
      simpa using hx.symm
    subst ed
    have ⟨z1, z2⟩ := sz i (by omega)
    simp only [l3s, wipeR, List.map, List.length_cons, List.length_nil, List.replicate, List.cons_append, List.nil_append, List.getElem?_cons_zero, List.getElem?_cons_succ, List.set_cons_zero, List.set_cons_succ, Nat.reduceAdd, Nat.reduceLT, Nat.reduceSub, Nat.reduceEqDiff, true_and, and_true, Nat.zero_lt_succ]
    refine lcP_map (fun s => .tup ((match s with | .tup xs => xs | _ => []) ++ [.int i])) (by rw [List.length_map]; omega) (fun s hs K1 k1 => ?_) ?_
    · obtain ⟨a, ha, rfl⟩ := List.mem_map.mp hs
      have := z2 a ha
      unfold encS
      simp only [l3s, wipeR, List.map, List.length_cons, List.length_nil, List.replicate, List.cons_append, List.nil_append, List.getElem?_cons_zero, List.getElem?_cons_succ, List.set_cons_zero, List.set_cons_succ, Nat.reduceAdd, Nat.reduceLT, Nat.reduceSub, Nat.reduceEqDiff, true_and, and_true, Nat.zero_lt_succ]
      refine ⟨by omega, ?_, k1⟩
      rw [iL_len]
      show a.length + 1 ≤ sizeLine
      omega
    · have e : ((subsI i).map encS).map (fun s => PV.tup ((match s with | .tup xs => xs | _ => []) ++ [.int i])) = ((subsI i).map fun s => s ++ [(i : Int)]).map encS := by
        rw [List.map_map, List.map_map]
        refine List.map_congr_left fun s _ => ?_
        show PV.tup (iL s ++ [.int i]) = PV.tup (iL (s ++ [(i : Int)]))
        unfold iL
        rw [List.map_append]
        rfl
      rw [e]
      refine ⟨by rw [List.length_map, List.length_map, List.length_map]; omega, hK _ ⟨some (I i), ?_⟩⟩
      rw [← List.map_append]
      rfl
  · rintro ρ ⟨y, rfl⟩
    rw [l]
    have ⟨z1, z2⟩ := sz n hs.2
    simp only [l3s, wipeR, List.map, List.length_cons, List.length_nil, List.replicate, List.cons_append, List.nil_append, List.getElem?_cons_zero, List.getElem?_cons_succ, List.set_cons_zero, List.set_cons_succ, Nat.reduceAdd, Nat.reduceLT, Nat.reduceSub, Nat.reduceEqDiff, true_and, and_true, Nat.zero_lt_succ]
    refine lcP_sel (fun x => decide (decS x ≠ [])) id (by rw [List.length_map]; omega) (fun x hx K1 K0 k1 k0 => ?_) ?_
    · obtain ⟨a, ha, rfl⟩ := List.mem_map.mp hx
      rw [dec_encS] at k1 k0
      simp only [l3s, wipeR, List.map, List.length_cons, List.length_nil, List.replicate, List.cons_append, List.nil_append, List.getElem?_cons_zero, List.getElem?_cons_succ, List.set_cons_zero, List.set_cons_succ, Nat.reduceAdd, Nat.reduceLT, Nat.reduceSub, Nat.reduceEqDiff, true_and, and_true, Nat.zero_lt_succ]
      refine ⟨by omega, ⟨okD_encS a, okD_encS []⟩, ?_⟩
      rw [eqP_empty]
      by_cases c : a = []
      · rw [if_neg (by simp [c])]
        exact k0 (by simp [c])
      · rw [if_pos (by simp [c])]
        exact k1 (by simp [c])
    · rw [List.map_id]
      have e : ((subsI n).map encS).filter (fun x => decide (decS x ≠ [])) = ((subsI n).filter fun s => decide (s ≠ [])).map encS := by
        rw [List.filter_map]
        congr 1
        apply List.filter_congr
        intro s _
        show decide (decS (encS s) ≠ []) = _
        rw [dec_encS]
      rw [e]
      refine .inr ⟨okSets (.inr fun a ha => by simpa using (List.mem_filter.mp ha).2), ?_⟩
      rw [sort_sets, sets_law hn]
      exact h
end
end Q15
namespace Q15
open PySem PySem.Spec PyProof.Rows L2 LamX L3 PySem.W
def chainC : List (List Int × List Int) → Bool
  | p :: q :: l => leC p q && chainC (q :: l)
  | _ => true
theorem chain_all : ∀ (l : List (List Int × List Int)) (p : List Int × List Int), chainC (p :: l) = true → ∀ q ∈ l, leC p q = true
  | [], _, _, q, h => by cases h
  | r :: l, p, h, q, hq => by
    simp only [chainC, Bool.and_eq_true] at h
    rcases List.mem_cons.mp hq with rfl | hq
    · exact h.1
    · exact leC_trans h.1 (chain_all l r h.2 q hq)
theorem chain_pw : ∀ l : List (List Int × List Int), chainC l = true → l.Pairwise fun a b => leC a b = true
  | [], _ => .nil
  | [p], _ => List.pairwise_singleton _ _
  | p :: q :: l, h => by
    refine List.pairwise_cons.mpr ⟨chain_all _ _ h, chain_pw (q :: l) ?_⟩
    simp only [chainC, Bool.and_eq_true] at h
    exact h.2
theorem cases_chain : ∀ n ∈ [1, 2, 3, 4], ∀ d ∈ List.range 31, 1 ≤ d → d ≤ topD n → chainC (casesI n d) = true := by decide +kernel
theorem cases_sorted {n d : Nat} (h : Dom n d) : (casesI n d).mergeSort leC = casesI n d :=
  sortC_is (List.Perm.refl _) (chain_pw _ (cases_chain n h.1 d (List.mem_range.mpr (by have := h.d; omega)) h.2.1 h.2.2))
theorem fill_app (n : Nat) (sm free : List Int) (v : Int) : ∀ i, i ≤ free.length → fillI n sm (free ++ [v]) i = fillI n sm free i
  | 0, _ => rfl
  | i + 1, h => by
    show (fillI n sm (free ++ [v]) i).set _ _ = (fillI n sm free i).set _ _
    rw [fill_app n sm free v i (by omega)]
    congr 1
    rw [List.getD_eq_getElem?_getD, List.getD_eq_getElem?_getD, List.getElem?_append_left (by omega)]
theorem fill_row {n : Nat} {d : Int} {sm free : List Int} (h : sm.length = free.length + 1) : fillI n sm (free ++ [(1 - free.sum) % d]) sm.length = rowI n d sm free := by
  rw [h]
  show (fillI n sm (free ++ [(1 - free.sum) % d]) free.length).set (sm.getD free.length 0).toNat ((free ++ [(1 - free.sum) % d]).getD free.length 0) = _
  unfold rowI
  rw [fill_app _ _ _ _ _ (Nat.le_refl _), h]
  congr 1
  rw [List.getD_eq_getElem?_getD, List.getElem?_append_right (Nat.le_refl _), Nat.sub_self]
  rfl
section
variable {Q : PV → Prop} {R : RS}
def encL (a : List Int) : PV := .lst (iL a)
theorem cut1 (xs : List PV) (h : 1 ≤ xs.length) : cutP xs (some 1) none = xs.drop 1 := by
  unfold cutP
  rw [HT.sIx_none, show (some (1 : Int)) = some ((1 : Nat) : Int) from rfl, HT.sIx_nat, Nat.min_eq_left h]
  exact List.take_of_length_le (by rw [List.length_drop]; omega)
theorem slice1 {xs : List PV} {ρ : Rho} {i : Nat} (e : ρ[i]? = some (some (.val (.tup xs)))) (hl : 1 ≤ xs.length) (h : Q (.tup (xs.drop 1))) : sliceX (rdM ρ i) (partX (pure (PV.int 1))) (pure none) Q R := by
  unfold sliceX partX
  simp only [l3s, wipeR, List.map, List.length_cons, List.length_nil, List.replicate, List.cons_append, List.nil_append, List.getElem?_cons_zero, List.getElem?_cons_succ, List.set_cons_zero, List.set_cons_succ, Nat.reduceAdd, Nat.reduceLT, Nat.reduceSub, Nat.reduceEqDiff, true_and, and_true, Nat.zero_lt_succ]
  rw [e]
  show Q (.tup (cutP xs (some 1) none))
  rw [cut1 xs hl]
  exact h
theorem add_lst {a b : List PV} {Q : PV → Prop} : addM (.lst a) (.lst b) Q R = (a.length + b.length ≤ sizeLine ∧ Q (.lst (a ++ b))) := propext Iff.rfl
theorem fm_len {α β γ : Type} (ts : List β) (f : α → β → γ) : ∀ l : List α, (l.flatMap fun r => ts.map (f r)).length = l.length * ts.length
  | [] => by simp
  | a :: l => by rw [List.flatMap_cons, List.length_append, fm_len ts f l, List.length_map, List.length_cons, Nat.add_mul, Nat.one_mul, Nat.add_comm]
theorem fm_take {α β : Type} (f : α → List β) {l : List α} {i : Nat} {a : α} (h : l[i]? = some a) : (l.take (i + 1)).flatMap f = (l.take i).flatMap f ++ f a := by
  rw [List.take_succ, h, List.flatMap_append]
  simp
theorem nov_map {c : Option PV} : novS (some (c.map Sl.val)) = True := by
  cases c <;> rfl
theorem fm_le {α β : Type} (f : α → List β) (B : Nat) : ∀ l : List α, (∀ a ∈ l, (f a).length ≤ B) → (l.flatMap f).length ≤ l.length * B
  | [], _ => by simp
  | a :: l, h => by
    have h1 := fm_le f B l fun x hx => h x (List.mem_cons_of_mem _ hx)
    have h2 := h a List.mem_cons_self
    rw [List.flatMap_cons, List.length_append, List.length_cons, Nat.add_mul, Nat.one_mul]
    omega
theorem m_cases {n d : Nat} (hd : Dom n d) (h : Q (.lst ((casesI n d).map encC))) : p__law_cases [I n, I d] Q R := by
  have ⟨n1, n2⟩ := hd.n
  have ⟨d1, d2⟩ := hd.d
  have z : 1000000 ≤ sizeLine := by decide
  unfold p__law_cases b__law_cases
  simp only [l3s, wipeR, List.map, List.length_cons, List.length_nil, List.replicate, List.cons_append, List.nil_append, List.getElem?_cons_zero, List.getElem?_cons_succ, List.set_cons_zero, List.set_cons_succ, Nat.reduceAdd, Nat.reduceLT, Nat.reduceSub, Nat.reduceEqDiff, true_and, and_true, Nat.zero_lt_succ]
  refine ⟨by omega, ?_⟩
  refine m_sets hd.1 ?_
  simp only [l3s, wipeR, List.map, List.length_cons, List.length_nil, List.replicate, List.cons_append, List.nil_append, List.getElem?_cons_zero, List.getElem?_cons_succ, List.set_cons_zero, List.set_cons_succ, Nat.reduceAdd, Nat.reduceLT, Nat.reduceSub, Nat.reduceEqDiff, true_and, and_true, Nat.zero_lt_succ]
  refine forP_go (fun i ρ => ∃ a b, ∃ c : Option PV, ∃ e f g u v, ρ = [some (I n), some (I d), some (.own ((((setsX n).take i).flatMap fun s => (rowsI n d s).map fun r => (s, r)).map encC)), a, b, c.map Sl.val, e, f, g, u, v, none]) ⟨none, none, none, none, none, none, none, none, rfl⟩ ?_ ?_
  · rintro i x ρ hx ⟨a, b, c, e, f, g, u, v, rfl⟩ K hK
    rw [List.getElem?_map] at hx
    obtain ⟨sm, hsm, hx⟩ := Option.map_eq_some_iff.mp hx
    subst hx
    obtain ⟨f1, f2, f3⟩ := sets_facts hd.1 sm (List.mem_of_getElem? hsm)
    have pwn := hd.pw (m := sm.length - 1) (by omega)
    simp only [l3s, wipeR, List.map, List.length_cons, List.length_nil, List.replicate, List.cons_append, List.nil_append, List.getElem?_cons_zero, List.getElem?_cons_succ, List.set_cons_zero, List.set_cons_succ, Nat.reduceAdd, Nat.reduceLT, Nat.reduceSub, Nat.reduceEqDiff, true_and, and_true, Nat.zero_lt_succ]
    refine ⟨by omega, by omega, ?_⟩
    refine slice1 rfl (by rw [iL_len]; exact f1) ?_
    simp only [l3s, wipeR, List.map, List.length_cons, List.length_nil, List.replicate, List.cons_append, List.nil_append, List.getElem?_cons_zero, List.getElem?_cons_succ, List.set_cons_zero, List.set_cons_succ, Nat.reduceAdd, Nat.reduceLT, Nat.reduceSub, Nat.reduceEqDiff, true_and, and_true, Nat.zero_lt_succ]
    have ed : (iL sm).drop 1 = iL (sm.drop 1) := by unfold iL; rw [List.map_drop]
    rw [ed]
    have bnd : ∀ j, j ≤ sm.length - 1 → d ^ j ≤ 1000 := fun j hj => Nat.le_trans (Nat.pow_le_pow_right d1 hj) pwn
    have e0 : PV.lst [PV.lst []] = .lst ((tupsI (upI d) 0).map encL) := rfl
    rw [e0]
    refine forP_go (fun j ρ => ∃ c : Option PV, ∃ e f g u v, ρ = [some (I n), some (I d), some (.own ((((setsX n).take i).flatMap fun s => (rowsI n d s).map fun r => (s, r)).map encC)), some (.val (encS sm)), some (.val (.lst ((tupsI (upI d) j).map encL))), c.map Sl.val, e, f, g, u, v, none]) ⟨c, e, f, g, u, v, rfl⟩ ?_ ?_
    · rintro j x ρ hx ⟨c, e, f, g, u, v, rfl⟩ K2 hK2
      have hj : j < sm.length - 1 := by
        have := (List.getElem?_eq_some_iff.mp hx).1
        rwa [iL_len, List.length_drop] at this
      have b1 := bnd j (by omega)
      have b2 := bnd (j + 1) (by omega)
      simp only [l3s, wipeR, List.map, List.length_cons, List.length_nil, List.replicate, List.cons_append, List.nil_append, List.getElem?_cons_zero, List.getElem?_cons_succ, List.set_cons_zero, List.set_cons_succ, Nat.reduceAdd, Nat.reduceLT, Nat.reduceSub, Nat.reduceEqDiff, true_and, and_true, Nat.zero_lt_succ]
      refine ⟨by omega, ?_⟩
      refine forP_go (fun t ρ => ∃ f, ρ = [some (I n), some (I d), some (.own ((((setsX n).take i).flatMap fun s => (rowsI n d s).map fun r => (s, r)).map encC)), some (.val (encS sm)), some (.val (.lst ((tupsI (upI d) j).map encL))), some (.val x), some (.val (.lst ((((tupsI (upI d) j).take t).flatMap fun r => (upI d).map fun y => r ++ [y]).map encL))), f, g, u, v, none]) ⟨f, rfl⟩ ?_ ?_
      · rintro t y ρ hy ⟨f, rfl⟩ K3 hK3
        rw [List.getElem?_map] at hy
        obtain ⟨r, hr, hy⟩ := Option.map_eq_some_iff.mp hy
        subst hy
        have hrl := tupsI_len _ _ r (List.mem_of_getElem? hr)
        have ht : t < d ^ j := by rw [← tupsI_length]; exact (List.getElem?_eq_some_iff.mp hr).1
        simp only [l3s, wipeR, List.map, List.length_cons, List.length_nil, List.replicate, List.cons_append, List.nil_append, List.getElem?_cons_zero, List.getElem?_cons_succ, List.set_cons_zero, List.set_cons_succ, Nat.reduceAdd, Nat.reduceLT, Nat.reduceSub, Nat.reduceEqDiff, true_and, and_true, Nat.zero_lt_succ]
        refine ⟨⟨by omega, by omega⟩, ?_⟩
        have l : (rngL 0 (d : Int).toNat).length = d := by simp [rngL]
        refine lcP_map (fun z => .lst (iL r ++ [z])) (by omega) (fun z hz K1 k1 => ?_) ?_
        · obtain ⟨q, hq, rfl⟩ := List.mem_map.mp hz
          unfold encL
          simp only [l3s, wipeR, List.map, List.length_cons, List.length_nil, List.replicate, List.cons_append, List.nil_append, List.getElem?_cons_zero, List.getElem?_cons_succ, List.set_cons_zero, List.set_cons_succ, Nat.reduceAdd, Nat.reduceLT, Nat.reduceSub, Nat.reduceEqDiff, true_and, and_true, Nat.zero_lt_succ]
          refine ⟨by omega, ?_⟩
          rw [add_lst]
          refine ⟨?_, k1⟩
          rw [iL_len]
          show r.length + 1 ≤ sizeLine
          omega
        · have e1 : (rngL 0 (d : Int).toNat).map (fun z => PV.lst (iL r ++ [z])) = ((upI d).map fun y => r ++ [y]).map encL := by
            unfold rngL upI
            rw [List.map_map, List.map_map, List.map_map, Int.toNat_natCast]
            refine List.map_congr_left fun q _ => ?_
            show PV.lst (iL r ++ [.int (0 + (q : Int))]) = PV.lst (iL (r ++ [(q : Int)]))
            rw [Int.zero_add]
            unfold iL
            rw [List.map_append]
            rfl
          rw [e1, add_lst]
          have lu : (upI d).length = d := by simp [upI]
          refine ⟨?_, hK3 _ ⟨some (.val (.lst (iL r))), ?_⟩⟩
          · rw [List.length_map, List.length_map, List.length_map, fm_len, List.length_take, lu, tupsI_length]
            have : min t (d ^ j) * d ≤ d ^ j * d := Nat.mul_le_mul_right _ (Nat.min_le_right _ _)
            rw [Nat.pow_succ] at b2
            omega
          · rw [fm_take _ hr, List.map_append]
            rfl
      · rintro ρ ⟨f, rfl⟩
        rw [List.length_map, List.take_length]
        simp only [l3s, wipeR, List.map, List.length_cons, List.length_nil, List.replicate, List.cons_append, List.nil_append, List.getElem?_cons_zero, List.getElem?_cons_succ, List.set_cons_zero, List.set_cons_succ, Nat.reduceAdd, Nat.reduceLT, Nat.reduceSub, Nat.reduceEqDiff, true_and, and_true, Nat.zero_lt_succ]
        exact hK2 _ ⟨some x, _, _, _, _, _, rfl⟩
    · rintro ρ ⟨c, e, f, g, u, v, rfl⟩
      rw [iL_len, List.length_drop]
      simp only [l3s, wipeR, List.map, List.length_cons, List.length_nil, List.replicate, List.cons_append, List.nil_append, List.getElem?_cons_zero, List.getElem?_cons_succ, List.set_cons_zero, List.set_cons_succ, Nat.reduceAdd, Nat.reduceLT, Nat.reduceSub, Nat.reduceEqDiff, true_and, and_true, Nat.zero_lt_succ]
      refine forP_go (fun t ρ => ∃ c : Option PV, ∃ e f g u v, ρ = [some (I n), some (I d), some (.own (((((setsX n).take i).flatMap fun s => (rowsI n d s).map fun r => (s, r)) ++ ((rowsI n d sm).take t).map fun r => (sm, r)).map encC)), some (.val (encS sm)), some (.val (.lst ((tupsI (upI d) (sm.length - 1)).map encL))), c.map Sl.val, e, f, g, u, v, none]) ⟨c, e, f, g, u, v, by simp⟩ ?_ ?_
      · rintro t y ρ hy ⟨c, e, f, g, u, v, rfl⟩ K3 hK3
        rw [List.getElem?_map] at hy
        obtain ⟨r, hr, hy⟩ := Option.map_eq_some_iff.mp hy
        subst hy
        have hrl := tupsI_len _ _ r (List.mem_of_getElem? hr)
        unfold encL
        simp only [l3s, wipeR, List.map, List.length_cons, List.length_nil, List.replicate, List.cons_append, List.nil_append, List.getElem?_cons_zero, List.getElem?_cons_succ, List.set_cons_zero, List.set_cons_succ, Nat.reduceAdd, Nat.reduceLT, Nat.reduceSub, Nat.reduceEqDiff, true_and, and_true, Nat.zero_lt_succ]
        simp only [nov_map, true_and]
        refine ⟨⟨by omega, by omega⟩, ?_⟩
        have l : (rngL 0 (n : Int).toNat).length = n := by simp [rngL]
        refine lcP_map (fun _ => .int 0) (by omega) (fun z hz K1 k1 => ?_) ?_
        · simp only [l3s, wipeR, List.map, List.length_cons, List.length_nil, List.replicate, List.cons_append, List.nil_append, List.getElem?_cons_zero, List.getElem?_cons_succ, List.set_cons_zero, List.set_cons_succ, Nat.reduceAdd, Nat.reduceLT, Nat.reduceSub, Nat.reduceEqDiff, true_and, and_true, Nat.zero_lt_succ]
          exact k1
        have e3 : (rngL 0 (n : Int).toNat).map (fun _ => PV.int 0) = iL (fillI n sm (r ++ [(1 - r.sum) % d]) 0) := by
          rw [List.map_const', l]
          show _ = iL (List.replicate n 0)
          unfold iL
          rw [List.map_replicate]
        rw [e3]
        refine sum_run ?_
        simp only [l3s, wipeR, List.map, List.length_cons, List.length_nil, List.replicate, List.cons_append, List.nil_append, List.getElem?_cons_zero, List.getElem?_cons_succ, List.set_cons_zero, List.set_cons_succ, Nat.reduceAdd, Nat.reduceLT, Nat.reduceSub, Nat.reduceEqDiff, true_and, and_true, Nat.zero_lt_succ]
        refine ⟨by omega, by omega, ?_⟩
        rw [add_lst, iL_len]
        refine ⟨by show r.length + 1 ≤ sizeLine; omega, by decide, ?_⟩
        have e4 : iL r ++ [PV.int ((1 - r.sum) % d)] = iL (r ++ [(1 - r.sum) % d]) := by
          unfold iL
          rw [List.map_append]
          rfl
        rw [e4]
        have hsl : (r ++ [(1 - r.sum) % (d : Int)]).length = sm.length := by
          rw [List.length_append, hrl]
          show sm.length - 1 + 1 = sm.length
          omega
        refine forP_go (fun q ρ => ∃ c : Option PV, ∃ v, ρ = [some (I n), some (I d), some (.own (((((setsX n).take i).flatMap fun s => (rowsI n d s).map fun r => (s, r)) ++ ((rowsI n d sm).take t).map fun r => (sm, r)).map encC)), some (.val (encS sm)), some (.val (.lst ((tupsI (upI d) (sm.length - 1)).map encL))), c.map Sl.val, e, some (.val (.lst (iL r))), some (.own (iL (fillI n sm (r ++ [(1 - r.sum) % d]) q))), some (.val (.lst (iL (r ++ [(1 - r.sum) % d])))), v, none]) ⟨c, v, rfl⟩ ?_ ?_
        · rintro q y ρ hy2 ⟨c, v, rfl⟩ K4 hK4
          have hq : q < sm.length := by
            have := (List.getElem?_eq_some_iff.mp hy2).1
            rwa [enumL_len, iL_len] at this
          rw [enumL_get (iL_get hq)] at hy2
          obtain rfl := Option.some.inj hy2
          have ⟨a0, a1⟩ := f3 _ (List.getElem_mem hq)
          simp only [l3s, wipeR, List.map, List.length_cons, List.length_nil, List.replicate, List.cons_append, List.nil_append, List.getElem?_cons_zero, List.getElem?_cons_succ, List.set_cons_zero, List.set_cons_succ, Nat.reduceAdd, Nat.reduceLT, Nat.reduceSub, Nat.reduceEqDiff, true_and, and_true, Nat.zero_lt_succ]
          rw [L3.atI_nat, iL_get (by omega)]
          refine ⟨_, rfl, ?_⟩
          show ∃ m, ixN (iL (fillI n sm (r ++ [(1 - r.sum) % d]) q)).length sm[q] = some m ∧ _
          refine ⟨sm[q].toNat, by rw [iL_len, fillI_len]; exact ixN_ok a0 a1, hK4 _ ⟨some (.int sm[q]), some (.val (.int q)), ?_⟩⟩
          rw [iL_set, ← getD_eq hq, ← getD_eq (by omega)]
          rfl
        · rintro ρ ⟨c, v, rfl⟩
          rw [enumL_len, iL_len, fill_row (by omega)]
          simp only [l3s, wipeR, List.map, List.length_cons, List.length_nil, List.replicate, List.cons_append, List.nil_append, List.getElem?_cons_zero, List.getElem?_cons_succ, List.set_cons_zero, List.set_cons_succ, Nat.reduceAdd, Nat.reduceLT, Nat.reduceSub, Nat.reduceEqDiff, true_and, and_true, Nat.zero_lt_succ]
          refine ⟨by omega, ?_, hK3 _ ⟨c, e, some (.val (.lst (iL r))), some (.own (iL (rowI n d sm r))), some (.val (.lst (iL (r ++ [(1 - r.sum) % d])))), v, ?_⟩⟩
          · have q1 : (((setsX n).take i).flatMap fun s => (rowsI n d s).map fun r => (s, r)).length ≤ ((setsX n).take i).length * 1000 := fm_le _ 1000 _ fun s hs => by
              have ⟨g1, g2, _⟩ := sets_facts hd.1 s (List.mem_of_mem_take hs)
              unfold rowsI
              rw [List.length_map, List.length_map, tupsI_length]
              exact hd.pw (by omega)
            have q2 : ((setsX n).take i).length ≤ 15 := by
              have h1 := hd.1
              simp only [List.mem_cons, List.not_mem_nil, or_false] at h1
              have : (setsX n).length ≤ 15 := by rcases h1 with rfl | rfl | rfl | rfl <;> decide
              rw [List.length_take]
              omega
            have q3 : ((rowsI n d sm).take t).length ≤ 1000 := by
              rw [List.length_take]
              unfold rowsI
              rw [List.length_map, tupsI_length]
              omega
            simp only [List.length_append, List.length_map]
            omega
          · have ht : (rowsI n d sm)[t]? = some (rowI n d sm r) := by
              unfold rowsI
              rw [List.getElem?_map, hr]
              rfl
            simp only [List.take_succ, ht, List.map_append, Option.toList, List.map, List.append_assoc]
            rfl
      · rintro ρ ⟨c, e, f, g, u, v, rfl⟩
        refine hK _ ⟨some (.val (encS sm)), some (.val (.lst ((tupsI (upI d) (sm.length - 1)).map encL))), c, e, f, g, u, v, ?_⟩
        have tk : (rowsI n d sm).take ((tupsI (upI d) (sm.length - 1)).map encL).length = rowsI n d sm := by
          refine List.take_of_length_le ?_
          unfold rowsI
          rw [List.length_map, List.length_map]
          exact Nat.le_refl _
        rw [tk, fm_take _ hsm]
  · rintro ρ ⟨a, b, c, e, f, g, u, v, rfl⟩
    simp only [l3s, wipeR, List.map, List.length_cons, List.length_nil, List.replicate, List.cons_append, List.nil_append, List.getElem?_cons_zero, List.getElem?_cons_succ, List.set_cons_zero, List.set_cons_succ, Nat.reduceAdd, Nat.reduceLT, Nat.reduceSub, Nat.reduceEqDiff, true_and, and_true, Nat.zero_lt_succ]
    rw [List.length_map, List.take_length]
    refine .inr ⟨okCases, ?_⟩
    rw [sort_cases]
    have := cases_sorted hd
    unfold casesI at this h
    rw [this]
    exact h
end
end Q15
namespace Q15
open PySem PySem.Spec PyProof.Rows L2 LamX L3 PySem.W
section
variable {Q : PV → Prop} {R : RS}
/-- the case of a mixture, r being the inverse -/
def caseI (r d : Int) (m : Nat × List Int) : List Int × List Int := (suppI m.2, restI r d m.1 m.2)
def blendR (r d : Int) (many : Nat) (ms : List (Nat × List Int)) : List Int := (List.range many).map fun i => (ms.map fun m => (restI r d m.1 m.2).getD i 0).sum * r % d
theorem suppI_len (cs : List Int) : (suppI cs).length ≤ cs.length := by
  unfold suppI
  rw [List.length_map]
  exact Nat.le_trans (List.length_filter_le _ _) (by rw [List.length_range]; exact Nat.le_refl _)
theorem restI_len {r d : Int} {n : Nat} {cs : List Int} : (restI r d n cs).length = cs.length := List.length_map ..
theorem m_blend_cases {k d many : Nat} {r : Int} {ms : List (Nat × List Int)} (hk : Bowl k) (hc : Cop k d) (hr : Inv1 k d r) (h0 : 1 ≤ ms.length) (h1 : ms.length ≤ 5) (hm1 : many ≤ 4) (hm : ∀ m ∈ ms, Mix many m.1 m.2)
    (h : ∀ S : List Int, S.Pairwise (· < ·) → (∀ x, x ∈ S ↔ ∃ m ∈ ms, x ∈ suppI m.2) → Q (encC (S, blendR r d many ms))) : p_blend_cases [I k, I d, .val (.lst (ms.map fun m => encC (caseI r d m)))] Q R := by
  have z : 1000000 ≤ sizeLine := by decide
  have ⟨d1, d2, _⟩ := hc
  have d0 : (0 : Int) < d := by omega
  obtain ⟨u, v, huv⟩ := bez hk hc
  have sl : ∀ m ∈ ms, (suppI m.2).length ≤ 4 := fun m h => by
    have := suppI_len m.2
    have := (hm m h).2.1
    omega
  have ul : (ms.flatMap fun m => suppI m.2).length ≤ ms.length * 4 := fm_le _ 4 _ sl
  have r0 := hr.1
  have r1 := hr.2.1
  unfold p_blend_cases b_blend_cases
  simp only [l3s, wipeR, List.map, List.length_cons, List.length_nil, List.replicate, List.cons_append, List.nil_append, List.getElem?_cons_zero, List.getElem?_cons_succ, List.set_cons_zero, List.set_cons_succ, Nat.reduceAdd, Nat.reduceLT, Nat.reduceSub, Nat.reduceEqDiff, true_and, and_true, Nat.zero_lt_succ]
  refine lc2P_map (fun c => match c with | .tup (.tup xs :: _) => xs | _ => []) (fun _ x => x) (fun c ρw => ρw = [some (I k), some (I d), some (.val (.lst (ms.map fun m => encC (caseI r d m)))), none, none, none, none, none, some (.val c)]) ?_ (fun c hc K k1 => ?_) (fun c hc ρw gd x hx K1 k1 => ?_) ?_
  · have e : ((ms.map fun m => encC (caseI r d m)).flatMap fun c => match c with | .tup (.tup xs :: _) => xs | _ => []).length = (ms.flatMap fun m => suppI m.2).length := by
      rw [List.flatMap_map, List.length_flatMap, List.length_flatMap]
      congr 1
      refine List.map_congr_left fun m _ => ?_
      show (iL (suppI m.2)).length = _
      exact iL_len
    rw [e]
    omega
  · obtain ⟨m, hm1, rfl⟩ := List.mem_map.mp hc
    unfold encC encS
    simp only [l3s, wipeR, List.map, List.length_cons, List.length_nil, List.replicate, List.cons_append, List.nil_append, List.getElem?_cons_zero, List.getElem?_cons_succ, List.set_cons_zero, List.set_cons_succ, Nat.reduceAdd, Nat.reduceLT, Nat.reduceSub, Nat.reduceEqDiff, true_and, and_true, Nat.zero_lt_succ]
    exact ⟨_, rfl, k1 _ rfl⟩
  · subst gd
    simp only [l3s, wipeR, List.map, List.length_cons, List.length_nil, List.replicate, List.cons_append, List.nil_append, List.getElem?_cons_zero, List.getElem?_cons_succ, List.set_cons_zero, List.set_cons_succ, Nat.reduceAdd, Nat.reduceLT, Nat.reduceSub, Nat.reduceEqDiff, true_and, and_true, Nat.zero_lt_succ]
    exact k1
  · have e : ((ms.map fun m => encC (caseI r d m)).flatMap fun c => (match c with | .tup (.tup xs :: _) => xs | _ => []).map fun x => x) = (ms.flatMap fun m => suppI m.2).map PV.int := by
      rw [List.flatMap_map, List.map_flatMap]
      congr 1
      funext m
      show (iL (suppI m.2)).map _ = _
      rw [List.map_id']
      rfl
    rw [e]
    refine ⟨_, rfl, by omega, fun S hS hx => ?_⟩
    refine m_inverse d0 (by omega) huv fun r' a1 a2 a3 => ?_
    obtain rfl := inv_one ⟨a1, a2, a3⟩ hr
    have h2 := h S hS fun x => by rw [hx x, List.mem_flatMap]
    have base : ∀ i : Nat, i < many → ∀ m ∈ ms, (iL (restI r' d m.1 m.2))[i]? = some (.int ((restI r' d m.1 m.2).getD i 0)) ∧ 0 ≤ (restI r' d m.1 m.2).getD i 0 ∧ (restI r' d m.1 m.2).getD i 0 < 30 := fun i hi m hmm => by
      have hl : i < (restI r' d m.1 m.2).length := by rw [restI_len, (hm m hmm).2.1]; exact hi
      rw [getD_eq hl]
      refine ⟨iL_get hl, ?_⟩
      obtain ⟨c, _, e⟩ := List.mem_map.mp (List.getElem_mem hl)
      rw [← e]
      have g1 := Int.emod_nonneg (c * (r' ^ m.1 % d)) (show (d : Int) ≠ 0 by omega)
      have g2 := Int.emod_lt_of_pos (c * (r' ^ m.1 % d)) d0
      omega
    have sb : ∀ (i : Nat), i < many → ∀ l : List (Nat × List Int), (∀ m ∈ l, m ∈ ms) → 0 ≤ (l.map fun m => (restI r' d m.1 m.2).getD i 0).sum ∧ (l.map fun m => (restI r' d m.1 m.2).getD i 0).sum ≤ 30 * l.length := fun i hi l => by
      induction l with
      | nil => intro _; simp
      | cons a l ih =>
        intro hl
        have g1 := ih fun m hm => hl m (List.mem_cons_of_mem _ hm)
        have g2 := (base i hi a (hl a List.mem_cons_self)).2
        rw [List.map_cons, List.sum_cons, List.length_cons]
        omega
    have hms : ∃ m0 rest, ms = m0 :: rest := by
      cases ms with
      | nil => simp at h0
      | cons a b => exact ⟨a, b, rfl⟩
    obtain ⟨m0, rest, hms⟩ := hms
    refine ⟨encC (caseI r' d m0), by rw [hms, atI_int (by decide)]; rfl, ?_⟩
    have hmany : m0.2.length = many := (hm m0 (by rw [hms]; exact List.mem_cons_self)).2.1
    unfold encC encS caseI
    simp only [l3s, wipeR, List.map, List.length_cons, List.length_nil, List.replicate, List.cons_append, List.nil_append, List.getElem?_cons_zero, List.getElem?_cons_succ, List.set_cons_zero, List.set_cons_succ, Nat.reduceAdd, Nat.reduceLT, Nat.reduceSub, Nat.reduceEqDiff, true_and, and_true, Nat.zero_lt_succ]
    refine ⟨_, rfl, ?_⟩
    simp only [l3s, wipeR, List.map, List.length_cons, List.length_nil, List.replicate, List.cons_append, List.nil_append, List.getElem?_cons_zero, List.getElem?_cons_succ, List.set_cons_zero, List.set_cons_succ, Nat.reduceAdd, Nat.reduceLT, Nat.reduceSub, Nat.reduceEqDiff, true_and, and_true, Nat.zero_lt_succ]
    rw [iL_len, restI_len, hmany]
    refine ⟨⟨by omega, by omega⟩, ?_⟩
    refine lcP_map (fun x => .int ((ms.map fun m => (restI r' d m.1 m.2).getD (intOf x).toNat 0).sum * r' % d)) (by simp [rngL]; omega) (fun x hx2 K1 k1 => ?_) ?_
    · obtain ⟨i, hi, rfl⟩ := List.mem_map.mp hx2
      have hi : i < many := by simpa using List.mem_range.mp hi
      rw [Int.zero_add] at k1 ⊢
      simp only [l3s, wipeR, List.map, List.length_cons, List.length_nil, List.replicate, List.cons_append, List.nil_append, List.getElem?_cons_zero, List.getElem?_cons_succ, List.set_cons_zero, List.set_cons_succ, Nat.reduceAdd, Nat.reduceLT, Nat.reduceSub, Nat.reduceEqDiff, true_and, and_true, Nat.zero_lt_succ]
      refine lcP_map (fun c => match c with | .tup [_, .tup xs] => xs.getD i .non | _ => .non) (by rw [List.length_map]; omega) (fun c hc2 K2 k2 => ?_) ?_
      · obtain ⟨m, hm2, rfl⟩ := List.mem_map.mp hc2
        have ⟨g1, _, _⟩ := base i hi m hm2
        simp only [l3s, wipeR, List.map, List.length_cons, List.length_nil, List.replicate, List.cons_append, List.nil_append, List.getElem?_cons_zero, List.getElem?_cons_succ, List.set_cons_zero, List.set_cons_succ, Nat.reduceAdd, Nat.reduceLT, Nat.reduceSub, Nat.reduceEqDiff, true_and, and_true, Nat.zero_lt_succ]
        refine ⟨_, rfl, ?_⟩
        simp only [l3s, wipeR, List.map, List.length_cons, List.length_nil, List.replicate, List.cons_append, List.nil_append, List.getElem?_cons_zero, List.getElem?_cons_succ, List.set_cons_zero, List.set_cons_succ, Nat.reduceAdd, Nat.reduceLT, Nat.reduceSub, Nat.reduceEqDiff, true_and, and_true, Nat.zero_lt_succ]
        rw [L3.atI_nat]
        refine ⟨_, g1, ?_⟩
        have e5 : (iL (restI r' d m.1 m.2)).getD i .non = .int ((restI r' d m.1 m.2).getD i 0) := by
          rw [List.getD_eq_getElem?_getD, g1]
          rfl
        have k3 : K2 ((iL (restI r' d m.1 m.2)).getD i .non) := k2
        rwa [e5] at k3
      · have e6 : (ms.map fun m => PV.tup [.tup (iL (suppI m.2)), .tup (iL (restI r' d m.1 m.2))]).map (fun c => match c with | .tup [_, .tup xs] => xs.getD i .non | _ => .non) = (ms.map fun m => (restI r' d m.1 m.2).getD i 0).map PV.int := by
          rw [List.map_map, List.map_map]
          refine List.map_congr_left fun m hm2 => ?_
          show (iL (restI r' d m.1 m.2)).getD i .non = .int ((restI r' d m.1 m.2).getD i 0)
          rw [List.getD_eq_getElem?_getD, (base i hi m hm2).1]
          rfl
        rw [e6]
        refine sum_run ?_
        have ⟨g1, g2⟩ := sb i hi ms fun _ h => h
        simp only [l3s, wipeR, List.map, List.length_cons, List.length_nil, List.replicate, List.cons_append, List.nil_append, List.getElem?_cons_zero, List.getElem?_cons_succ, List.set_cons_zero, List.set_cons_succ, Nat.reduceAdd, Nat.reduceLT, Nat.reduceSub, Nat.reduceEqDiff, true_and, and_true, Nat.zero_lt_succ]
        exact ⟨wid_small (by omega), wid_small (by omega), d0, k1⟩
    · have e7 : (rngL 0 (many : Int).toNat).map (fun x => PV.int ((ms.map fun m => (restI r' d m.1 m.2).getD (intOf x).toNat 0).sum * r' % d)) = iL (blendR r' d many ms) := by
        unfold rngL blendR iL
        rw [List.map_map, List.map_map, Int.toNat_natCast]
        refine List.map_congr_left fun i _ => ?_
        show PV.int ((ms.map fun m => (restI r' d m.1 m.2).getD (0 + (i : Int)).toNat 0).sum * r' % d) = _
        rw [Int.zero_add, Int.toNat_natCast]
        rfl
      rw [e7]
      exact ⟨by omega, h2⟩
end
end Q15
namespace Q15
open PySem PySem.Spec PyProof.Rows L2 LamX L3 PySem.W
/-- the counts of one cup, at the depth n -/
def upCs (k : Int) (n : Nat) (m : Nat × List Int) : List Int := m.2.map fun c => c * k ^ (n - m.1)
def sumCs (k : Int) (n many : Nat) (ms : List (Nat × List Int)) : List Int := (List.range many).map fun i => (ms.map fun m => m.2.getD i 0 * k ^ (n - m.1)).sum
section
variable {Q : PV → Prop} {R : RS}
theorem sumCs_len {k : Int} {n many : Nat} {ms : List (Nat × List Int)} : (sumCs k n many ms).length = many := by simp [sumCs]
theorem sumCs_get {k : Int} {n many i : Nat} {ms : List (Nat × List Int)} (h : i < many) : (sumCs k n many ms).getD i 0 = (ms.map fun m => m.2.getD i 0 * k ^ (n - m.1)).sum := by
  rw [getD_eq (by rw [sumCs_len]; exact h)]
  simp [sumCs]
/-- the counts of a blend: the first cups wholly, of the next one the first places -/
def partCs (k : Int) (n many : Nat) (ms : List (Nat × List Int)) (m : Nat × List Int) (j : Nat) : List Int := (List.range many).map fun i => (ms.map fun m => m.2.getD i 0 * k ^ (n - m.1)).sum + if i < j then m.2.getD i 0 * k ^ (n - m.1) else 0
theorem partCs_len {k : Int} {n many j : Nat} {ms : List (Nat × List Int)} {m : Nat × List Int} : (partCs k n many ms m j).length = many := by simp [partCs]
theorem partCs_0 {k : Int} {n many : Nat} {ms : List (Nat × List Int)} {m : Nat × List Int} : partCs k n many ms m 0 = sumCs k n many ms := by
  unfold partCs sumCs
  exact List.map_congr_left fun i _ => by simp
theorem partCs_all {k : Int} {n many : Nat} {ms : List (Nat × List Int)} {m : Nat × List Int} : partCs k n many ms m many = sumCs k n many (ms ++ [m]) := by
  unfold partCs sumCs
  refine List.map_congr_left fun i hi => ?_
  rw [if_pos (List.mem_range.mp hi), List.map_append, List.sum_append]
  simp
theorem partCs_set {k : Int} {n many j : Nat} {ms : List (Nat × List Int)} {m : Nat × List Int} (hj : j < many) : (partCs k n many ms m j).set j ((partCs k n many ms m j).getD j 0 + m.2.getD j 0 * k ^ (n - m.1)) = partCs k n many ms m (j + 1) := by
  apply List.ext_getElem?
  intro i
  rw [List.getElem?_set]
  by_cases hi : i < many
  · by_cases e : j = i
    · subst e
      rw [if_pos rfl, if_pos (by rw [partCs_len]; exact hj), getD_eq (by rw [partCs_len]; exact hj)]
      simp [partCs, hj]
    · rw [if_neg e]
      have c : (i < j) ↔ (i < j + 1) := by omega
      simp [partCs, hi, c]
  · rw [if_neg (by omega), List.getElem?_eq_none (by rw [partCs_len]; omega), List.getElem?_eq_none (by rw [partCs_len]; omega)]
theorem m_blended {k many : Nat} {ms : List (Nat × List Int)} (hk : Bowl k) (h0 : 1 ≤ ms.length) (h1 : ms.length ≤ 5) (hm1 : many ≤ 4) {N : Nat} (hN : N ≤ 19) (hm : ∀ m ∈ ms, m.1 ≤ N ∧ m.2.length = many ∧ ∀ c ∈ m.2, 0 ≤ c ∧ c < 2 ^ 100)
    (h : ∀ n n' cs', n ≤ N → (∀ m ∈ ms, m.1 ≤ n) → Less k (n + 1) (sumCs k n many ms) n' cs' → Q (mixP (n' : Nat) cs')) : p__law_blended [I k, .val (.lst (ms.map fun m => mixP (m.1 : Nat) m.2))] Q R := by
  have ⟨k1, k2⟩ := hk.le
  have z : 1000000 ≤ sizeLine := by decide
  have hms : ∃ m0 rest, ms = m0 :: rest := by
    cases ms with
    | nil => simp at h0
    | cons a b => exact ⟨a, b, rfl⟩
  obtain ⟨m0, rest, hms⟩ := hms
  have h00 := hm m0 (by rw [hms]; exact List.mem_cons_self)
  unfold p__law_blended b__law_blended
  simp only [l3s, wipeR, List.map, List.length_cons, List.length_nil, List.replicate, List.cons_append, List.nil_append, List.getElem?_cons_zero, List.getElem?_cons_succ, List.set_cons_zero, List.set_cons_succ, Nat.reduceAdd, Nat.reduceLT, Nat.reduceSub, Nat.reduceEqDiff, true_and, and_true, Nat.zero_lt_succ]
  refine lcP_map (fun c => match c with | .tup (x :: _) => x | _ => .non) (by rw [List.length_map]; omega) (fun c hc K1 k1 => ?_) ?_
  · obtain ⟨m, hm2, rfl⟩ := List.mem_map.mp hc
    simp only [l3s, wipeR, List.map, List.length_cons, List.length_nil, List.replicate, List.cons_append, List.nil_append, List.getElem?_cons_zero, List.getElem?_cons_succ, List.set_cons_zero, List.set_cons_succ, Nat.reduceAdd, Nat.reduceLT, Nat.reduceSub, Nat.reduceEqDiff, true_and, and_true, Nat.zero_lt_succ]
    exact ⟨_, rfl, k1⟩
  have e : (ms.map fun m => mixP (m.1 : Nat) m.2).map (fun c => match c with | .tup (x :: _) => x | _ => .non) = (ms.map fun m => (m.1 : Int)).map PV.int := by
    rw [List.map_map, List.map_map]
    rfl
  rw [e]
  refine ⟨_, rfl, by simp; omega, fun x hx hmax => ?_⟩
  obtain ⟨mx, hmx, rfl⟩ := List.mem_map.mp hx
  have hn7 := (hm mx hmx).1
  have hmax : ∀ m ∈ ms, m.1 ≤ mx.1 := fun m hm2 => by
    have := hmax _ (List.mem_map.mpr ⟨m, hm2, rfl⟩)
    omega
  refine ⟨mixP (m0.1 : Nat) m0.2, by rw [hms, atI_int (by decide)]; rfl, ?_⟩
  simp only [l3s, wipeR, List.map, List.length_cons, List.length_nil, List.replicate, List.cons_append, List.nil_append, List.getElem?_cons_zero, List.getElem?_cons_succ, List.set_cons_zero, List.set_cons_succ, Nat.reduceAdd, Nat.reduceLT, Nat.reduceSub, Nat.reduceEqDiff, true_and, and_true, Nat.zero_lt_succ]
  refine ⟨_, rfl, ?_⟩
  simp only [l3s, wipeR, List.map, List.length_cons, List.length_nil, List.replicate, List.cons_append, List.nil_append, List.getElem?_cons_zero, List.getElem?_cons_succ, List.set_cons_zero, List.set_cons_succ, Nat.reduceAdd, Nat.reduceLT, Nat.reduceSub, Nat.reduceEqDiff, true_and, and_true, Nat.zero_lt_succ]
  refine lcP_map (fun _ => .int 0) (by rw [iL_len, h00.2.1]; omega) (fun x hx K1 k1 => ?_) ?_
  · simp only [l3s, wipeR, List.map, List.length_cons, List.length_nil, List.replicate, List.cons_append, List.nil_append, List.getElem?_cons_zero, List.getElem?_cons_succ, List.set_cons_zero, List.set_cons_succ, Nat.reduceAdd, Nat.reduceLT, Nat.reduceSub, Nat.reduceEqDiff, true_and, and_true, Nat.zero_lt_succ]
    exact k1
  have e2 : (iL m0.2).map (fun _ => PV.int 0) = iL (sumCs k mx.1 many []) := by
    rw [List.map_const', iL_len, h00.2.1]
    unfold sumCs iL
    simp [List.map_const']
  rw [e2]
  refine forP_go (fun i ρ => ∃ a b, ∃ c e : Option PV, ρ = [some (I k), some (.val (.lst (ms.map fun m => mixP (m.1 : Nat) m.2))), some (I mx.1), some (.own (iL (sumCs k mx.1 many (ms.take i)))), a, b, c.map Sl.val, e.map Sl.val, none]) ⟨none, none, none, none, rfl⟩ ?_ ?_
  · rintro i x ρ hx ⟨a, b, c, e, rfl⟩ K hK
    rw [List.getElem?_map] at hx
    obtain ⟨m, hm2, hx⟩ := Option.map_eq_some_iff.mp hx
    subst hx
    have hmm := List.mem_of_getElem? hm2
    have ⟨g1, g2, g3⟩ := hm m hmm
    have g4 := hmax m hmm
    simp only [l3s, wipeR, List.map, List.length_cons, List.length_nil, List.replicate, List.cons_append, List.nil_append, List.getElem?_cons_zero, List.getElem?_cons_succ, List.set_cons_zero, List.set_cons_succ, Nat.reduceAdd, Nat.reduceLT, Nat.reduceSub, Nat.reduceEqDiff, true_and, and_true, Nat.zero_lt_succ]
    refine forP_go (fun j ρ => ∃ b, ∃ c e : Option PV, ρ = [some (I k), some (.val (.lst (ms.map fun m => mixP (m.1 : Nat) m.2))), some (I mx.1), some (.own (iL (partCs k mx.1 many (ms.take i) m j))), some (I m.1), b, c.map Sl.val, e.map Sl.val, none]) ⟨_, c, e, by rw [partCs_0]⟩ ?_ ?_
    · rintro j y ρ hy ⟨b, c, e, rfl⟩ K2 hK2
      have hj : j < m.2.length := by
        have := (List.getElem?_eq_some_iff.mp hy).1
        rwa [enumL_len, iL_len] at this
      rw [enumL_get (iL_get hj)] at hy
      obtain rfl := Option.some.inj hy
      have ⟨c0, c1⟩ := g3 _ (List.getElem_mem hj)
      have pk := pow_le5 (b := (k : Int)) (by omega) (by omega) (mx.1 - m.1)
      have p5 := pow5 (i := mx.1 - m.1) (by omega)
      simp only [l3s, wipeR, List.map, List.length_cons, List.length_nil, List.replicate, List.cons_append, List.nil_append, List.getElem?_cons_zero, List.getElem?_cons_succ, List.set_cons_zero, List.set_cons_succ, Nat.reduceAdd, Nat.reduceLT, Nat.reduceSub, Nat.reduceEqDiff, true_and, and_true, Nat.zero_lt_succ]
      rw [L3.atI_nat, iL_get (by rw [partCs_len]; omega)]
      refine ⟨_, rfl, ?_⟩
      rw [show (mx.1 : Int) - m.1 = ((mx.1 - m.1 : Nat) : Int) by omega]
      refine m_power (by omega) (by omega) (by omega) ?_
      simp only [l3s, wipeR, List.map, List.length_cons, List.length_nil, List.replicate, List.cons_append, List.nil_append, List.getElem?_cons_zero, List.getElem?_cons_succ, List.set_cons_zero, List.set_cons_succ, Nat.reduceAdd, Nat.reduceLT, Nat.reduceSub, Nat.reduceEqDiff, true_and, and_true, Nat.zero_lt_succ]
      refine ⟨wid_small (by omega), wid_small (by omega), ?_⟩
      show ∃ q, ixN _ _ = some q ∧ _
      refine ⟨(j : Int).toNat, ixN_ok (by omega) (by rw [iL_len, partCs_len]; omega), hK2 _ ⟨b, some (I j |> fun s => match s with | .val d => d | _ => .non), some (.int m.2[j]), ?_⟩⟩
      rw [Int.toNat_natCast, iL_set, ← getD_eq (by rw [partCs_len]; omega), ← getD_eq hj, partCs_set (by omega)]
      rfl
    · rintro ρ ⟨b, c, e, rfl⟩
      rw [enumL_len, iL_len, g2, partCs_all]
      have tk : ms.take i ++ [m] = ms.take (i + 1) := by rw [List.take_succ, hm2]; rfl
      rw [tk]
      simp only [l3s, wipeR, List.map, List.length_cons, List.length_nil, List.replicate, List.cons_append, List.nil_append, List.getElem?_cons_zero, List.getElem?_cons_succ, List.set_cons_zero, List.set_cons_succ, Nat.reduceAdd, Nat.reduceLT, Nat.reduceSub, Nat.reduceEqDiff, true_and, and_true, Nat.zero_lt_succ]
      exact hK _ ⟨_, _, c, e, rfl⟩
  · rintro ρ ⟨a, b, c, e, rfl⟩
    rw [List.length_map, List.take_length]
    simp only [l3s, wipeR, List.map, List.length_cons, List.length_nil, List.replicate, List.cons_append, List.nil_append, List.getElem?_cons_zero, List.getElem?_cons_succ, List.set_cons_zero, List.set_cons_succ, Nat.reduceAdd, Nat.reduceLT, Nat.reduceSub, Nat.reduceEqDiff, true_and, and_true, Nat.zero_lt_succ]
    refine m_lowest (.inl rfl) (by omega) (by omega) (by rw [sumCs_len]; omega) fun n' cs' hl => ?_
    exact h mx.1 n' cs' hn7 hmax hl
end
end Q15
namespace Q15
open PySem PySem.Spec PyProof.Rows L2 LamX L3 PySem.W
theorem asc_eq : ∀ {a b : List Int}, a.Pairwise (· < ·) → b.Pairwise (· < ·) → (∀ x, x ∈ a ↔ x ∈ b) → a = b
  | [], [], _, _, _ => rfl
  | [], y :: b, _, _, h => by have := (h y).mpr List.mem_cons_self; cases this
  | x :: a, [], _, _, h => by have := (h x).mp List.mem_cons_self; cases this
  | x :: a, y :: b, ha, hb, h => by
    have ⟨a1, a2⟩ := List.pairwise_cons.mp ha
    have ⟨b1, b2⟩ := List.pairwise_cons.mp hb
    have e : x = y := by
      rcases List.mem_cons.mp ((h x).mp List.mem_cons_self) with e | e
      · exact e
      · rcases List.mem_cons.mp ((h y).mpr List.mem_cons_self) with e2 | e2
        · exact e2.symm
        · have := a1 y e2
          have := b1 x e
          omega
    subst e
    rw [asc_eq a2 b2 fun z => ?_]
    constructor
    · intro hz
      rcases List.mem_cons.mp ((h z).mp (List.mem_cons_of_mem _ hz)) with e | e
      · subst e; have := a1 _ hz; omega
      · exact e
    · intro hz
      rcases List.mem_cons.mp ((h z).mpr (List.mem_cons_of_mem _ hz)) with e | e
      · subst e; have := b1 _ hz; omega
      · exact e
theorem suppI_asc (cs : List Int) : (suppI cs).Pairwise (· < ·) := by
  unfold suppI
  rw [List.pairwise_map]
  have h : (List.range cs.length).Pairwise (· < ·) := List.pairwise_lt_range
  exact (h.filter _).imp fun h => by
    show Int.ofNat _ < Int.ofNat _
    exact Int.ofNat_lt.mpr h
theorem suppI_mem {cs : List Int} {x : Int} : x ∈ suppI cs ↔ ∃ i : Nat, i < cs.length ∧ x = i ∧ cs.getD i 0 ≠ 0 := by
  unfold suppI
  rw [List.mem_map]
  constructor
  · rintro ⟨i, hi, rfl⟩
    obtain ⟨h1, h2⟩ := List.mem_filter.mp hi
    exact ⟨i, List.mem_range.mp h1, rfl, of_decide_eq_true h2⟩
  · rintro ⟨i, hi, rfl, h⟩
    exact ⟨i, List.mem_filter.mpr ⟨List.mem_range.mpr hi, decide_eq_true h⟩, rfl⟩
theorem sum_cong {α : Type} {d : Int} {f g : α → Int} : ∀ l : List α, (∀ m ∈ l, f m % d = g m % d) → (l.map f).sum % d = (l.map g).sum % d
  | [], _ => rfl
  | a :: l, h => by
    rw [List.map_cons, List.map_cons, List.sum_cons, List.sum_cons, Int.add_emod, h a List.mem_cons_self, sum_cong l fun m hm => h m (List.mem_cons_of_mem _ hm), ← Int.add_emod]
theorem sum_mul {α : Type} {f : α → Int} {c : Int} : ∀ l : List α, (l.map f).sum * c = (l.map fun m => f m * c).sum
  | [] => by simp
  | a :: l => by rw [List.map_cons, List.map_cons, List.sum_cons, List.sum_cons, Int.add_mul, sum_mul l]
theorem inv_pow {k d r : Int} (hr : Inv1 k d r) (a : Nat) : (k ^ a * r ^ a) % d = 1 % d := by
  rw [← Int.mul_pow, Int.mul_comm k r, pow_cong hr.2.2, Int.one_pow]
theorem sum_pos_iff {α : Type} {f : α → Int} : ∀ l : List α, (∀ m ∈ l, 0 ≤ f m) → (0 ≤ (l.map f).sum ∧ ((l.map f).sum ≠ 0 ↔ ∃ m ∈ l, f m ≠ 0))
  | [], _ => by simp
  | a :: l, h => by
    have ⟨i1, i2⟩ := sum_pos_iff l fun m hm => h m (List.mem_cons_of_mem _ hm)
    have h0 := h a List.mem_cons_self
    rw [List.map_cons, List.sum_cons]
    refine ⟨by omega, ?_⟩
    constructor
    · intro hn
      by_cases c : f a = 0
      · obtain ⟨m, hm, h2⟩ := i2.mp (by omega)
        exact ⟨m, List.mem_cons_of_mem _ hm, h2⟩
      · exact ⟨a, List.mem_cons_self, c⟩
    · rintro ⟨m, hm, h2⟩
      rcases List.mem_cons.mp hm with rfl | hm
      · omega
      · have := i2.mpr ⟨m, hm, h2⟩
        omega
theorem blend_same {k d r : Int} {n n' many : Nat} {ms : List (Nat × List Int)} {cs' : List Int} (hk : 0 < k) (hd : 0 < d) (hr : Inv1 k d r) (hm : ∀ m ∈ ms, m.1 ≤ n ∧ m.2.length = many ∧ ∀ c ∈ m.2, 0 ≤ c) (hl : Less k (n + 1) (sumCs k n many ms) n' cs') :
    restI r d n' cs' = blendR r d many ms ∧ (∀ x, x ∈ suppI cs' ↔ ∃ m ∈ ms, x ∈ suppI m.2) := by
  obtain ⟨q, hq, hc⟩ := hl
  have len : cs'.length = many := by
    have := congrArg List.length hc
    rw [sumCs_len, List.length_map] at this
    exact this.symm
  have at_ : ∀ i, i < many → (ms.map fun m => m.2.getD i 0 * k ^ (n - m.1)).sum = cs'.getD i 0 * k ^ q := fun i hi => by
    rw [← sumCs_get hi, hc, getD_eq (by rw [List.length_map, len]; exact hi), List.getElem_map, getD_eq (by rw [len]; exact hi)]
  have nn : ∀ i, i < many → ∀ m ∈ ms, 0 ≤ m.2.getD i 0 := fun i hi m hm2 => by
    have ⟨g1, g2, g3⟩ := hm m hm2
    rw [getD_eq (by omega)]
    exact g3 _ (List.getElem_mem _)
  refine ⟨?_, fun x => ?_⟩
  · apply List.ext_getElem
    · rw [restI_len, len]
      simp [blendR]
    · intro i h1 h2
      rw [restI_len, len] at h1
      have e1 : (restI r d n' cs')[i] = cs'.getD i 0 * (r ^ n' % d) % d := by
        rw [getD_eq (by rw [len]; exact h1)]
        simp [restI]
      have e2 : (blendR r d many ms)[i] = (ms.map fun m => (restI r d m.1 m.2).getD i 0).sum * r % d := by simp [blendR]
      rw [e1, e2]
      have s1 : cs'.getD i 0 * (r ^ n' % d) % d = cs'.getD i 0 * r ^ n' % d := mul_cong rfl (Int.emod_emod _ _)
      have s2 : cs'.getD i 0 * r ^ n' % d = (ms.map fun m => m.2.getD i 0 * k ^ (n - m.1)).sum * r ^ (n + 1) % d := by
        rw [at_ i h1, ← hq, Nat.add_comm n' q, Int.pow_add]
        have : cs'.getD i 0 * k ^ q * (r ^ q * r ^ n') = k ^ q * r ^ q * (cs'.getD i 0 * r ^ n') := by
          rw [Int.mul_assoc, Int.mul_comm (cs'.getD i 0), Int.mul_assoc, Int.mul_assoc, Int.mul_assoc, Int.mul_comm (r ^ n')]
        rw [this, mul_cong (inv_pow hr q) rfl, Int.one_mul]
      have s3 : (ms.map fun m => m.2.getD i 0 * k ^ (n - m.1)).sum * r ^ (n + 1) % d = (ms.map fun m => (restI r d m.1 m.2).getD i 0).sum * r % d := by
        rw [sum_mul, sum_mul]
        refine sum_cong ms fun m hm2 => ?_
        have ⟨g1, g2, g3⟩ := hm m hm2
        have e3 : (restI r d m.1 m.2).getD i 0 = m.2.getD i 0 * (r ^ m.1 % d) % d := by
          rw [getD_eq (by rw [restI_len]; omega), getD_eq (by omega)]
          simp [restI]
        rw [e3]
        have e4 : n + 1 = (n - m.1) + (m.1 + 1) := by omega
        rw [e4, Int.pow_add, Int.pow_succ]
        have e5 : m.2.getD i 0 * k ^ (n - m.1) * (r ^ (n - m.1) * (r ^ m.1 * r)) = k ^ (n - m.1) * r ^ (n - m.1) * (m.2.getD i 0 * r ^ m.1 * r) := by
          ac_rfl
        rw [e5, mul_cong (inv_pow hr _) rfl, Int.one_mul]
        exact (mul_cong ((Int.emod_emod _ _).trans (mul_cong rfl (Int.emod_emod _ _))) rfl).symm
      rw [s1, s2, s3]
  · rw [suppI_mem]
    have kp : ∀ a : Nat, k ^ a ≠ 0 := fun a => by have := Int.pow_pos (n := k) (m := a) hk; omega
    constructor
    · rintro ⟨i, hi, rfl, h⟩
      rw [len] at hi
      have p := sum_pos_iff (f := fun m : Nat × List Int => m.2.getD i 0 * k ^ (n - m.1)) ms fun m hm2 => Int.mul_nonneg (nn i hi m hm2) (Int.le_of_lt (Int.pow_pos hk))
      have h3 : (ms.map fun m => m.2.getD i 0 * k ^ (n - m.1)).sum ≠ 0 := by
        rw [at_ i hi]
        exact Int.mul_ne_zero h (kp q)
      obtain ⟨m, hm2, h4⟩ := p.2.mp h3
      exact ⟨m, hm2, suppI_mem.mpr ⟨i, by rw [(hm m hm2).2.1]; exact hi, rfl, fun e => h4 (by rw [e, Int.zero_mul])⟩⟩
    · rintro ⟨m, hm2, h⟩
      obtain ⟨i, hi, rfl, h5⟩ := suppI_mem.mp h
      rw [(hm m hm2).2.1] at hi
      refine ⟨i, by rw [len]; exact hi, rfl, fun e => ?_⟩
      have p := sum_pos_iff (f := fun m : Nat × List Int => m.2.getD i 0 * k ^ (n - m.1)) ms fun m hm2 => Int.mul_nonneg (nn i hi m hm2) (Int.le_of_lt (Int.pow_pos hk))
      have h3 := p.2.mpr ⟨m, hm2, Int.mul_ne_zero h5 (kp _)⟩
      rw [at_ i hi, e, Int.zero_mul] at h3
      exact h3 rfl
end Q15
namespace Q15
open PySem PySem.Spec PyProof.Rows L2 LamX L3 PySem.W
/-- a recipe of at most this depth -/
def RecP (k many : Nat) : Nat → PV → Prop
  | 0, d => ∃ i : Nat, d = .int i ∧ i < many
  | n + 1, d => (∃ i : Nat, d = .int i ∧ i < many) ∨ ∃ xs, d = .tup xs ∧ xs.length = k ∧ ∀ x ∈ xs, RecP k many n x
theorem RecP.leaf {k many i : Nat} (h : i < many) : ∀ n, RecP k many n (.int i)
  | 0 => ⟨i, rfl, h⟩
  | _ + 1 => .inl ⟨i, rfl, h⟩
section
variable {R : RS}
theorem m_recipe {k many : Nat} (hk : Bowl k) (hm : 1 ≤ many) (hm2 : many ≤ 4) : ∀ (n deep : Nat) {Q : PV → Prop} {R : RS}, deep < n → deep ≤ 10 → (∀ x, RecP k many deep x → Q x) → pRecipe n [.deal, I k, I many, I deep] Q R
  | 0, deep, Q, R, h, _, _ => absurd h (Nat.not_lt_zero _)
  | n + 1, deep, Q, R, h, h10, hq => by
    have ⟨k1, k2⟩ := hk.le
    have z : 1000000 ≤ sizeLine := by decide
    have leaf : (1 ≤ (many : Int) ∧ (many : Int) < 1073741824) ∧ ∀ v : Int, 0 ≤ v → v < many → Q (.int v) := ⟨⟨by omega, by omega⟩, fun v v0 v1 => by
      have := hq (.int (v.toNat : Nat)) (RecP.leaf (by omega) deep)
      rwa [Int.toNat_of_nonneg v0] at this⟩
    show r__law_recipe (pRecipe n) _ Q R
    unfold r__law_recipe b__law_recipe
    simp only [l3s, wipeR, List.map, List.length_cons, List.length_nil, List.replicate, List.cons_append, List.nil_append, List.getElem?_cons_zero, List.getElem?_cons_succ, List.set_cons_zero, List.set_cons_succ, Nat.reduceAdd, Nat.reduceLT, Nat.reduceSub, Nat.reduceEqDiff, true_and, and_true, Nat.zero_lt_succ]
    refine ⟨⟨okD_int, okD_int⟩, ?_⟩
    by_cases c : deep = 0
    · rw [if_pos (by simp [c]), if_pos trivial]
      exact leaf
    · rw [if_neg (by simp; omega)]
      refine ⟨⟨by omega, by omega⟩, fun v v0 v1 => ?_⟩
      by_cases c2 : v < (k : Int) - 1
      · rw [if_pos (by simpa using c2)]
        exact leaf
      · rw [if_neg (by simpa using c2)]
        refine ⟨⟨by omega, by omega⟩, ?_⟩
        have l : (rngL 0 (k : Int).toNat).length = k := by simp [rngL]
        refine lcP_inv (fun i acc => acc.length = i ∧ ∀ x ∈ acc, RecP k many (deep - 1) x) ⟨rfl, fun _ h => by cases h⟩ ?_ ?_
        · rintro i x acc hx ⟨ha, hb⟩ K hK
          have hi : i < k := l ▸ (List.getElem?_eq_some_iff.mp hx).1
          simp only [l3s, wipeR, List.map, List.length_cons, List.length_nil, List.replicate, List.cons_append, List.nil_append, List.getElem?_cons_zero, List.getElem?_cons_succ, List.set_cons_zero, List.set_cons_succ, Nat.reduceAdd, Nat.reduceLT, Nat.reduceSub, Nat.reduceEqDiff, true_and, and_true, Nat.zero_lt_succ]
          rw [show (deep : Int) - 1 = ((deep - 1 : Nat) : Int) by omega]
          refine m_recipe hk hm hm2 n (deep - 1) (by omega) (by omega) fun y hy => ⟨by omega, hK _ ⟨by rw [List.length_append, ha]; rfl, fun z hz => ?_⟩⟩
          rcases List.mem_append.mp hz with hz | hz
          · exact hb z hz
          · rw [List.mem_singleton] at hz
            rw [hz]
            exact hy
        · rintro acc ⟨ha, hb⟩
          refine hq _ ?_
          obtain ⟨m, rfl⟩ : ∃ m, deep = m + 1 := ⟨deep - 1, by omega⟩
          exact .inr ⟨acc, rfl, by rw [ha, l], hb⟩
theorem one_lt_pow (n : Nat) : (1 : Int) < 2 ^ (20 * (n + 1)) := by
  have h : (2 : Nat) ^ 1 ≤ 2 ^ (20 * (n + 1)) := Nat.pow_le_pow_right (by decide) (by omega)
  have h2 : ((2 ^ 1 : Nat) : Int) ≤ ((2 ^ (20 * (n + 1)) : Nat) : Int) := by exact_mod_cast h
  have h3 : ((2 ^ (20 * (n + 1)) : Nat) : Int) = 2 ^ (20 * (n + 1)) := by simp
  omega
theorem sum_le {α : Type} {f : α → Int} {B : Int} : ∀ l : List α, (∀ m ∈ l, f m ≤ B) → (l.map f).sum ≤ l.length * B
  | [], _ => by simp
  | a :: l, h => by
    have h1 := sum_le l fun m hm => h m (List.mem_cons_of_mem _ hm)
    have h2 := h a List.mem_cons_self
    rw [List.map_cons, List.sum_cons, List.length_cons]
    have : ((l.length + 1 : Nat) : Int) * B = l.length * B + B := by rw [Int.natCast_add, Int.add_mul]; simp
    omega
/-- a mixture and its case -/
def MC (k d many n : Nat) (r : Int) (Q : PV → Prop) : Prop := ∀ n' cs, n' ≤ n → Mix many n' cs → (∀ c ∈ cs, c < 2 ^ (20 * (n + 1))) → Q (.tup [mixP (n' : Nat) cs, encC (caseI r d (n', cs))])
theorem m_walked {k many d : Nat} {r : Int} (hk : Bowl k) (hc : Cop k d) (hr : Inv1 k d r) (hm : 1 ≤ many) (hm2 : many ≤ 4) : ∀ (n : Nat) (t : PV) {Q : PV → Prop} {R : RS}, n ≤ 4 → RecP k many n t → MC k d many n r Q → pWalked (n + 1) [I k, I many, I d, .val t] Q R := by
  have ⟨k1, k2⟩ := hk.le
  have ⟨d1, d2, _⟩ := hc
  have d0 : (0 : Int) < d := by omega
  have z : 1000000 ≤ sizeLine := by decide
  obtain ⟨u, v, huv⟩ := bez hk hc
  have leaf : ∀ (n i : Nat) {Q : PV → Prop} {R : RS}, i < many → MC k d many n r Q → pWalked (n + 1) [I k, I many, I d, I i] Q R := by
    intro n i Q R hi hq
    show r__law_walked (pWalked n) _ Q R
    unfold r__law_walked b__law_walked
    simp only [l3s, wipeR, List.map, List.length_cons, List.length_nil, List.replicate, List.cons_append, List.nil_append, List.getElem?_cons_zero, List.getElem?_cons_succ, List.set_cons_zero, List.set_cons_succ, Nat.reduceAdd, Nat.reduceLT, Nat.reduceSub, Nat.reduceEqDiff, true_and, and_true, Nat.zero_lt_succ]
    rw [isi_run (t := "int") rfl]
    simp only [l3s, wipeR, List.map, List.length_cons, List.length_nil, List.replicate, List.cons_append, List.nil_append, List.getElem?_cons_zero, List.getElem?_cons_succ, List.set_cons_zero, List.set_cons_succ, Nat.reduceAdd, Nat.reduceLT, Nat.reduceSub, Nat.reduceEqDiff, true_and, and_true, Nat.zero_lt_succ]
    rw [if_pos (by decide)]
    refine ⟨⟨by omega, by omega⟩, ?_⟩
    have l : (rngL 0 (many : Int).toNat).length = many := by simp [rngL]
    refine lcP_map (fun x => .int (if intOf x = i then 1 else 0)) (by omega) (fun x hx K1 k1 => ?_) ?_
    · obtain ⟨j, hj, rfl⟩ := List.mem_map.mp hx
      simp only [l3s, wipeR, List.map, List.length_cons, List.length_nil, List.replicate, List.cons_append, List.nil_append, List.getElem?_cons_zero, List.getElem?_cons_succ, List.set_cons_zero, List.set_cons_succ, Nat.reduceAdd, Nat.reduceLT, Nat.reduceSub, Nat.reduceEqDiff, true_and, and_true, Nat.zero_lt_succ]
      refine ⟨⟨okD_int, okD_int⟩, ?_⟩
      have k1 : K1 (.int (if (0 + (j : Int)) = i then 1 else 0)) := k1
      by_cases c : 0 + (j : Int) = i
      · rw [if_pos (by simpa using c)]
        rwa [if_pos c] at k1
      · rw [if_neg (by simpa using c)]
        rwa [if_neg c] at k1
    · have e : (rngL 0 (many : Int).toNat).map (fun x => PV.int (if intOf x = i then 1 else 0)) = iL ((List.range many).map fun j : Nat => if (j : Int) = i then (1 : Int) else 0) := by
        unfold rngL iL
        rw [List.map_map, List.map_map, Int.toNat_natCast]
        refine List.map_congr_left fun j _ => ?_
        show PV.int (if (0 + (j : Int)) = i then 1 else 0) = PV.int (if (j : Int) = i then 1 else 0)
        rw [Int.zero_add]
      rw [e]
      have mx : Mix many 0 ((List.range many).map fun j : Nat => if (j : Int) = i then (1 : Int) else 0) := ⟨by omega, by simp, fun c hc => by
        obtain ⟨j, _, rfl⟩ := List.mem_map.mp hc
        split <;> omega⟩
      refine ⟨by omega, ?_⟩
      refine m_case_of (n := 0) d0 (by omega) huv (by simp; omega) (fun c hc => by have := mx.2.2 c hc; exact wid_small (by omega)) fun r' hr' => ⟨by omega, ?_⟩
      obtain rfl := inv_one hr' hr
      refine hq 0 _ (Nat.zero_le _) mx fun c hc => ?_
      obtain ⟨j, _, rfl⟩ := List.mem_map.mp hc
      have : (1 : Int) < 2 ^ (20 * (n + 1)) := one_lt_pow n
      split <;> omega
  intro n
  induction n with
  | zero =>
    rintro t Q R hn ⟨i, rfl, hi⟩ hq
    exact leaf 0 i hi hq
  | succ n ih =>
    rintro t Q R hn ht hq
    rcases ht with ⟨i, rfl, hi⟩ | ⟨xs, rfl, hxs, hx⟩
    · exact leaf (n + 1) i hi hq
    · show r__law_walked (pWalked (n + 1)) _ Q R
      unfold r__law_walked b__law_walked
      simp only [l3s, wipeR, List.map, List.length_cons, List.length_nil, List.replicate, List.cons_append, List.nil_append, List.getElem?_cons_zero, List.getElem?_cons_succ, List.set_cons_zero, List.set_cons_succ, Nat.reduceAdd, Nat.reduceLT, Nat.reduceSub, Nat.reduceEqDiff, true_and, and_true, Nat.zero_lt_succ]
      rw [isi_tup]
      simp only [l3s, wipeR, List.map, List.length_cons, List.length_nil, List.replicate, List.cons_append, List.nil_append, List.getElem?_cons_zero, List.getElem?_cons_succ, List.set_cons_zero, List.set_cons_succ, Nat.reduceAdd, Nat.reduceLT, Nat.reduceSub, Nat.reduceEqDiff, true_and, and_true, Nat.zero_lt_succ]
      rw [if_neg (by decide)]
      refine ⟨by omega, by omega, by decide, ?_⟩
      refine forP_go (fun i ρ => ∃ a b c, ∃ ms : List (Nat × List Int), ρ = [some (I k), some (I many), some (I d), some (.val (.tup xs)), none, some (.own (ms.map fun m => mixP (m.1 : Nat) m.2)), some (.own (ms.map fun m => encC (caseI r d m))), a, b, c, none] ∧ ms.length = i ∧ ∀ m ∈ ms, m.1 ≤ n ∧ Mix many m.1 m.2 ∧ ∀ c ∈ m.2, c < 2 ^ (20 * (n + 1))) ⟨none, none, none, [], rfl, rfl, fun _ h => by cases h⟩ ?_ ?_
      · rintro i x ρ hx2 ⟨a, b, c, ms, rfl, hl, hms⟩ K hK
        have hi : i < xs.length := (List.getElem?_eq_some_iff.mp hx2).1
        simp only [l3s, wipeR, List.map, List.length_cons, List.length_nil, List.replicate, List.cons_append, List.nil_append, List.getElem?_cons_zero, List.getElem?_cons_succ, List.set_cons_zero, List.set_cons_succ, Nat.reduceAdd, Nat.reduceLT, Nat.reduceSub, Nat.reduceEqDiff, true_and, and_true, Nat.zero_lt_succ]
        refine ih x (by omega) (hx x (List.mem_of_getElem? hx2)) fun n' cs hn' hm' hb' => ?_
        simp only [l3s, wipeR, List.map, List.length_cons, List.length_nil, List.replicate, List.cons_append, List.nil_append, List.getElem?_cons_zero, List.getElem?_cons_succ, List.set_cons_zero, List.set_cons_succ, Nat.reduceAdd, Nat.reduceLT, Nat.reduceSub, Nat.reduceEqDiff, true_and, and_true, Nat.zero_lt_succ]
        simp only [List.length_map]
        refine ⟨by omega, by omega, hK _ ⟨some (.val x), some (.val (mixP (n' : Nat) cs)), some (.val (encC (caseI r d (n', cs)))), ms ++ [(n', cs)], by rw [List.map_append, List.map_append]; rfl, by rw [List.length_append, hl]; rfl, fun m hm3 => ?_⟩⟩
        rcases List.mem_append.mp hm3 with hm3 | hm3
        · exact hms m hm3
        · rw [List.mem_singleton] at hm3
          subst hm3
          exact ⟨hn', hm', hb'⟩
      · rintro ρ ⟨a, b, c, ms, rfl, hl, hms⟩
        simp only [l3s, wipeR, List.map, List.length_cons, List.length_nil, List.replicate, List.cons_append, List.nil_append, List.getElem?_cons_zero, List.getElem?_cons_succ, List.set_cons_zero, List.set_cons_succ, Nat.reduceAdd, Nat.reduceLT, Nat.reduceSub, Nat.reduceEqDiff, true_and, and_true, Nat.zero_lt_succ]
        refine m_blended hk (by omega) (by omega) hm2 (N := n) (by omega) (fun m hm3 => ⟨(hms m hm3).1, (hms m hm3).2.1.2.1, (hms m hm3).2.1.2.2⟩) fun n2 n' cs' hn2 hmax hless => ?_
        refine m_blend_cases hk hc hr (by omega) (by omega) hm2 (fun m hm3 => (hms m hm3).2.1) fun S hS hmem => ⟨by omega, ?_⟩
        have kp : (0 : Int) < k := by omega
        have ⟨e1, e2⟩ := blend_same kp d0 hr (fun m hm3 => ⟨hmax m hm3, (hms m hm3).2.1.2.1, fun c hc => ((hms m hm3).2.1.2.2 c hc).1⟩) hless
        have e3 : S = suppI cs' := asc_eq hS (suppI_asc _) fun x => (hmem x).trans (e2 x).symm
        have e4 : (S, blendR r d many ms) = caseI r d (n', cs') := by rw [e3, ← e1]; rfl
        rw [e4]
        have bound : ∀ c ∈ sumCs k n2 many ms, 0 ≤ c ∧ c < 2 ^ (20 * (n + 1 + 1)) := fun c hc => by
          obtain ⟨i, hi, rfl⟩ := List.mem_map.mp hc
          have hi := List.mem_range.mp hi
          have B0 := one_lt_pow n
          have BB : (2 : Int) ^ (20 * (n + 1 + 1)) = 2 ^ (20 * (n + 1)) * 1048576 := by
            rw [show 20 * (n + 1 + 1) = 20 * (n + 1) + 20 by omega, Int.pow_add]
            rfl
          have term : ∀ m ∈ ms, 0 ≤ m.2.getD i 0 * (k : Int) ^ (n2 - m.1) ∧ m.2.getD i 0 * (k : Int) ^ (n2 - m.1) ≤ 2 ^ (20 * (n + 1)) * 625 := fun m hm3 => by
            have ⟨g1, g2, g3⟩ := hms m hm3
            have hi2 : i < m.2.length := by rw [g2.2.1]; exact hi
            rw [getD_eq hi2]
            have c1 := (g2.2.2 _ (List.getElem_mem hi2)).1
            have c2 := g3 _ (List.getElem_mem hi2)
            have ⟨p1, p2⟩ := pow_le5 (b := (k : Int)) (by omega) (by omega) (n2 - m.1)
            have p3 : (5 : Int) ^ (n2 - m.1) ≤ 625 := by
              have h1 : (5 : Nat) ^ (n2 - m.1) ≤ 5 ^ 4 := Nat.pow_le_pow_right (by decide) (by omega)
              have h2 : ((5 ^ (n2 - m.1) : Nat) : Int) ≤ ((5 ^ 4 : Nat) : Int) := by exact_mod_cast h1
              simpa using h2
            exact ⟨Int.mul_nonneg c1 p1, Int.mul_le_mul (by omega) (by omega) p1 (by omega)⟩
          have s1 := (sum_pos_iff (f := fun m : Nat × List Int => m.2.getD i 0 * (k : Int) ^ (n2 - m.1)) ms fun m hm3 => (term m hm3).1).1
          have s2 := sum_le (f := fun m : Nat × List Int => m.2.getD i 0 * (k : Int) ^ (n2 - m.1)) ms fun m hm3 => (term m hm3).2
          refine ⟨s1, Int.lt_of_le_of_lt s2 ?_⟩
          rw [BB]
          have s3 : (ms.length : Int) * (2 ^ (20 * (n + 1)) * 625) ≤ 5 * (2 ^ (20 * (n + 1)) * 625) := Int.mul_le_mul_of_nonneg_right (by omega) (by omega)
          omega
        have lt100 : (2 : Int) ^ (20 * (n + 1 + 1)) ≤ 2 ^ 100 := by
          have h : (2 : Nat) ^ (20 * (n + 1 + 1)) ≤ 2 ^ 100 := Nat.pow_le_pow_right (by decide) (by omega)
          exact_mod_cast h
        have big : Mix many (n2 + 1) (sumCs k n2 many ms) := ⟨by omega, sumCs_len, fun c hc => by have := bound c hc; omega⟩
        have hless2 := hless
        obtain ⟨q, hq1, hq2⟩ := hless2
        refine hq n' cs' (by omega) (Mix.less kp big hless) fun c hc => ?_
        have b1 := bound (c * (k : Int) ^ q) (by rw [hq2]; exact List.mem_map.mpr ⟨c, hc, rfl⟩)
        have c0 := ((Mix.less kp big hless).2.2 c hc).1
        have p : 0 < (k : Int) ^ q := Int.pow_pos kp
        have : c * 1 ≤ c * (k : Int) ^ q := Int.mul_le_mul_of_nonneg_left p c0
        omega
end
end Q15
namespace Q15
open PySem PySem.Spec PyProof.Rows L2 LamX L3 PySem.W
def goodT (n d : Nat) (S T : List Int) : Bool := ((List.range n).all fun i => decide ((i : Int) ∈ S) || decide (T.getD i 0 = 0)) && decide ((T.sum - 1) % (d : Int) = 0)
theorem good_rows : ∀ n ∈ [1, 2, 3, 4], ∀ d ∈ List.range 31, 1 ≤ d → d ≤ topD n → ∀ S ∈ setsX n, ∀ T ∈ tupsI (upI d) n, goodT n d S T = true → T ∈ rowsI n d S := by decide +kernel
theorem rows_good : ∀ n ∈ [1, 2, 3, 4], ∀ d ∈ List.range 31, 1 ≤ d → d ≤ topD n → ∀ S ∈ setsX n, ∀ T ∈ rowsI n d S, T.length = n ∧ (∀ x ∈ T, 0 ≤ x ∧ x < (d : Int)) ∧ goodT n d S T = true := by decide +kernel
end Q15
namespace Q15
open PySem PySem.Spec PyProof.Rows L2 LamX L3 PySem.W
def kd (v : PV) : Prop := (kindP v).isSome = true
/-- a value of which the functions may be asked -/
def Pl1 (v : PV) : Prop := kd v ∧ ∀ xs, v = .tup xs → xs.length ≤ 1000 ∧ ∀ x ∈ xs, kd x
def Pl2 (v : PV) : Prop := kd v ∧ ∀ xs, v = .tup xs → xs.length ≤ 1000 ∧ ∀ x ∈ xs, Pl1 x
def restOk (n d : Nat) (S : List Int) : PV → Bool
  | .tup ys => decide (ys.length = n) && ys.all (belP d) && goodT n d S (ys.map intOf)
  | _ => false
def setOk (n : Nat) : PV → Bool
  | .tup xs => decide (xs.length ≠ 0) && xs.all (belP n) && ascB (xs.map intOf)
  | _ => false
def caseOk (n d : Nat) : PV → Bool
  | .tup [a, b] => setOk n a && restOk n d (decS a) b
  | _ => false
theorem bel_ints {n : Int} {xs : List PV} (h : xs.all (belP n) = true) : xs = iL (xs.map intOf) ∧ ∀ x ∈ xs.map intOf, 0 ≤ x ∧ x < n := by
  induction xs with
  | nil => exact ⟨rfl, fun _ h => by cases h⟩
  | cons a xs ih =>
    rw [List.all_cons, Bool.and_eq_true] at h
    obtain ⟨i1, i2⟩ := ih h.2
    cases a with
    | int i =>
      have hb : (decide (0 ≤ i) && decide (i < n)) = true := h.1
      rw [Bool.and_eq_true] at hb
      refine ⟨?_, fun x hx => ?_⟩
      · show PV.int i :: xs = PV.int i :: iL (xs.map intOf)
        rw [← i1]
      · rcases List.mem_cons.mp hx with rfl | hx
        · exact ⟨of_decide_eq_true hb.1, of_decide_eq_true hb.2⟩
        · exact i2 x hx
    | _ => exact absurd h.1 (by simp [belP])
section
variable {Q : PV → Prop} {R : RS}
def tupN (n : Nat) : PV → Bool
  | .tup xs => decide (xs.length = n)
  | _ => false
theorem m_is_tupN {v : PV} {n : Nat} (hk : kd v) (h : Q (.bl (tupN n v))) : p_is_tuple [.val v, I n] Q R := by
  refine m_is_tuple hk ?_
  cases v <;> exact h
theorem isi_tupV {v : PV} (hk : kd v) : isiM "tuple" v Q R = Q (.bl (isTup v)) := by
  obtain ⟨t, e⟩ := Option.isSome_iff_exists.mp hk
  rw [isi_run e]
  cases v <;> simp only [kindP, Option.some.injEq, reduceCtorEq] at e <;> subst e <;> rfl
theorem any_mem (S : List Int) (i : Int) : ((iL S).any fun z => eqP z (.int i)) = decide (i ∈ S) := by
  induction S with
  | nil => rfl
  | cons a S ih =>
    show (eqP (.int a) (.int i) || (iL S).any fun z => eqP z (.int i)) = _
    rw [ih, eqP_int]
    by_cases c : a = i
    · subst c; simp
    · have : ¬ i = a := fun e => c e.symm
      by_cases c2 : i ∈ S <;> simp [c, c2, this]
theorem flat_iL (S : List Int) : (iL S).all flatP = true := by
  induction S with
  | nil => rfl
  | cons a S ih =>
    show (flatP (.int a) && (iL S).all flatP) = true
    rw [ih]
    rfl
theorem notin_run {S : List Int} {i : Int} {Q : PV → Prop} (h : Q (.bl (!decide (i ∈ S)))) : notinAM (.int i) (.tup (iL S)) Q R := by
  refine ⟨⟨rfl, flat_iL S⟩, ?_⟩
  rw [any_mem]
  exact h
theorem m_is_case {n d : Nat} {v : PV} (hd : Dom n d) (hv : Pl2 v) (h : Q (.bl (caseOk n d v))) : p_is_case [I n, I d, .val v] Q R := by
  have ⟨n1, n2⟩ := hd.n
  have ⟨d1, d2⟩ := hd.d
  have z : 1000000 ≤ sizeLine := by decide
  unfold p_is_case b_is_case
  simp only [l3s, wipeR, List.map, List.length_cons, List.length_nil, List.replicate, List.cons_append, List.nil_append, List.getElem?_cons_zero, List.getElem?_cons_succ, List.set_cons_zero, List.set_cons_succ, Nat.reduceAdd, Nat.reduceLT, Nat.reduceSub, Nat.reduceEqDiff, true_and, and_true, Nat.zero_lt_succ]
  refine m_is_tupN (n := 2) hv.1 ?_
  rw [asB_run]
  by_cases hp : ∃ a b, v = .tup [a, b]
  · obtain ⟨a, b, rfl⟩ := hp
    obtain ⟨_, hv2⟩ := hv.2 _ rfl
    have ha := hv2 a (by simp)
    have hb := hv2 b (by simp)
    have e0 : tupN 2 (.tup [a, b]) = true := rfl
    rw [e0, if_neg (by decide)]
    simp only [l3s, wipeR, List.map, List.length_cons, List.length_nil, List.replicate, List.cons_append, List.nil_append, List.getElem?_cons_zero, List.getElem?_cons_succ, List.set_cons_zero, List.set_cons_succ, Nat.reduceAdd, Nat.reduceLT, Nat.reduceSub, Nat.reduceEqDiff, true_and, and_true, Nat.zero_lt_succ]
    simp only [if_true]
    rw [isi_tupV ha.1, asB_run]
    by_cases ta : ∃ xs, a = .tup xs
    · obtain ⟨xs, rfl⟩ := ta
      have ⟨hx1, hx2⟩ := ha.2 xs rfl
      have e1 : isTup (.tup xs) = true := rfl
      rw [e1, if_neg (by decide), len_tup]
      refine ⟨⟨okD_int, okD_int⟩, ?_⟩
      by_cases c0 : xs.length = 0
      · rw [eqP_int, if_pos (by simp [c0])]
        have : caseOk n d (.tup [.tup xs, b]) = false := by
          show (decide (xs.length ≠ 0) && xs.all (belP n) && ascB (xs.map intOf) && _) = false
          rw [decide_eq_false (by simp [c0])]
          rfl
        rwa [this] at h
      · rw [eqP_int, if_neg (by simpa using c0)]
        refine m_are_below (.inl rfl) (by omega) hx2 ?_
        rw [asB_run]
        cases c1 : xs.all (belP n) with
        | false =>
          rw [if_pos (by decide)]
          have : caseOk n d (.tup [.tup xs, b]) = false := by
            show (decide (xs.length ≠ 0) && xs.all (belP n) && ascB (xs.map intOf) && _) = false
            rw [c1, Bool.and_false]
            rfl
          rwa [this] at h
        | true =>
          rw [if_neg (by decide)]
          obtain ⟨ex, hS⟩ := bel_ints c1
          have lS : (xs.map intOf).length = xs.length := List.length_map ..
          have asc : p_is_ascending [.val (.tup xs)] = p_is_ascending [.val (.tup (iL (xs.map intOf)))] := by rw [← ex]
          rw [asc]
          refine m_is_ascending (by omega) (by omega) ?_
          rw [asB_run]
          have eset : setOk n (.tup xs) = ascB (xs.map intOf) := by
            show (decide (xs.length ≠ 0) && xs.all (belP n) && ascB (xs.map intOf)) = _
            rw [decide_eq_true c0, c1]
            rfl
          have ecase : caseOk n d (.tup [.tup xs, b]) = (ascB (xs.map intOf) && restOk n d (xs.map intOf) b) := by
            show (setOk n (.tup xs) && _) = _
            rw [eset]
            rfl
          rw [ecase] at h
          cases c2 : ascB (xs.map intOf) with
          | false =>
            rw [if_pos (by decide)]
            rwa [c2] at h
          | true =>
            rw [c2, Bool.true_and] at h
            rw [if_neg (by decide)]
            refine m_is_tupN hb.1 ?_
            rw [asB_run]
            by_cases tb : ∃ ys, b = .tup ys ∧ ys.length = n
            · obtain ⟨ys, rfl, hyn⟩ := tb
              have ⟨hy1, hy2⟩ := hb.2 ys rfl
              have e2 : tupN n (.tup ys) = true := decide_eq_true hyn
              rw [e2, if_neg (by decide)]
              refine m_are_below (.inl rfl) (by omega) hy2 ?_
              rw [asB_run]
              have erest : restOk n d (xs.map intOf) (.tup ys) = (ys.all (belP d) && goodT n d (xs.map intOf) (ys.map intOf)) := by
                show (decide (ys.length = n) && _ && _) = _
                rw [decide_eq_true hyn, Bool.true_and]
              rw [erest] at h
              cases c3 : ys.all (belP d) with
              | false =>
                rw [if_pos (by decide)]
                rwa [c3] at h
              | true =>
                rw [c3, Bool.true_and] at h
                rw [if_neg (by decide)]
                obtain ⟨ey, hT⟩ := bel_ints c3
                have lT : (ys.map intOf).length = n := by rw [List.length_map]; exact hyn
                generalize hS0 : xs.map intOf = S at *
                generalize hT0 : ys.map intOf = T at *
                subst ex ey
                refine ⟨⟨by omega, by omega⟩, ?_⟩
                have l : (rngL 0 (n : Int).toNat).length = n := by simp [rngL]
                refine lcP_sel (fun x => !decide (intOf x ∈ S)) (fun x => .bl (!decide (T.getD (intOf x).toNat 0 = 0))) (by omega) (fun x hx K1 K0 k1 k0 => ?_) ?_
                · obtain ⟨i, hi, rfl⟩ := List.mem_map.mp hx
                  have hi : i < n := by simpa using List.mem_range.mp hi
                  rw [Int.zero_add] at k1 k0 ⊢
                  simp only [l3s, wipeR, List.map, List.length_cons, List.length_nil, List.replicate, List.cons_append, List.nil_append, List.getElem?_cons_zero, List.getElem?_cons_succ, List.set_cons_zero, List.set_cons_succ, Nat.reduceAdd, Nat.reduceLT, Nat.reduceSub, Nat.reduceEqDiff, true_and, and_true, Nat.zero_lt_succ]
                  refine notin_run ?_
                  rw [asB_run]
                  cases c4 : !decide ((i : Int) ∈ S) with
                  | true =>
                    rw [if_pos rfl, L3.atI_nat, iL_get (by omega)]
                    refine ⟨_, rfl, ⟨okD_int, okD_int⟩, ?_⟩
                    rw [eqP_int, ← getD_eq (by omega)]
                    exact k1 c4
                  | false =>
                    rw [if_neg Bool.false_ne_true]
                    exact k0 c4
                · have e5 : ((rngL 0 (n : Int).toNat).filter fun x => !decide (intOf x ∈ S)).map (fun x => PV.bl (!decide (T.getD (intOf x).toNat 0 = 0))) = (((List.range n).filter fun i : Nat => !decide ((i : Int) ∈ S)).map fun i : Nat => !decide (T.getD i 0 = 0)).map PV.bl := by
                    unfold rngL
                    rw [List.filter_map, List.map_map, List.map_map, Int.toNat_natCast]
                    have e6 : ((fun x => !decide (intOf x ∈ S)) ∘ fun i : Nat => PV.int (0 + (i : Int))) = fun i : Nat => !decide ((i : Int) ∈ S) := by
                      funext i
                      show (!decide (0 + (i : Int) ∈ S)) = _
                      rw [Int.zero_add]
                    rw [e6]
                    refine List.map_congr_left fun i _ => ?_
                    show PV.bl (!decide (T.getD (0 + (i : Int)).toNat 0 = 0)) = PV.bl (!decide (T.getD i 0 = 0))
                    rw [Int.zero_add, Int.toNat_natCast]
                  rw [e5]
                  refine any_run ?_
                  rw [asB_run]
                  have e7 : ((((List.range n).filter fun i : Nat => !decide ((i : Int) ∈ S)).map fun i : Nat => !decide (T.getD i 0 = 0)).any id) = !((List.range n).all fun i : Nat => decide ((i : Int) ∈ S) || decide (T.getD i 0 = 0)) := by
                    generalize List.range n = L
                    induction L with
                    | nil => rfl
                    | cons a L ih =>
                      rw [List.all_cons, List.filter_cons]
                      by_cases q : (a : Int) ∈ S
                      · rw [if_neg (by simp [q]), ih]
                        simp [q]
                      · rw [if_pos (by simp [q]), List.map_cons, List.any_cons, ih]
                        simp [q]
                  rw [e7]
                  unfold goodT at h
                  cases c5 : (List.range n).all fun i : Nat => decide ((i : Int) ∈ S) || decide (T.getD i 0 = 0) with
                  | false =>
                    rw [if_pos (by decide)]
                    rwa [c5] at h
                  | true =>
                    rw [c5, Bool.true_and] at h
                    rw [if_neg (by decide)]
                    refine sum_runT ?_
                    simp only [l3s, wipeR, List.map, List.length_cons, List.length_nil, List.replicate, List.cons_append, List.nil_append, List.getElem?_cons_zero, List.getElem?_cons_succ, List.set_cons_zero, List.set_cons_succ, Nat.reduceAdd, Nat.reduceLT, Nat.reduceSub, Nat.reduceEqDiff, true_and, and_true, Nat.zero_lt_succ]
                    exact ⟨by omega, ⟨okD_int, okD_int⟩, h⟩
            · have e2 : tupN n b = false := by
                cases b with
                | tup ys => exact decide_eq_false fun e => tb ⟨ys, rfl, e⟩
                | _ => rfl
              rw [e2, if_pos (by decide)]
              have e3 : restOk n d (xs.map intOf) b = false := by
                cases b with
                | tup ys =>
                  show (decide (ys.length = n) && _ && _) = false
                  rw [decide_eq_false fun e => tb ⟨ys, rfl, e⟩]
                  rfl
                | _ => rfl
              rwa [e3] at h
    · have e1 : isTup a = false := by
        cases a <;> first | rfl | exact absurd ⟨_, rfl⟩ ta
      rw [e1, if_pos (by decide)]
      have : caseOk n d (.tup [a, b]) = false := by
        cases a <;> first | rfl | exact absurd ⟨_, rfl⟩ ta
      rwa [this] at h
  · have e0 : tupN 2 v = false := by
      cases v with
      | tup xs =>
        refine decide_eq_false fun hl => hp ?_
        match xs, hl with
        | [a, b], _ => exact ⟨a, b, rfl⟩
      | _ => rfl
    have e1 : caseOk n d v = false := by
      cases v with
      | tup xs =>
        match xs with
        | [] => rfl
        | [_] => rfl
        | [a, b] => exact absurd ⟨a, b, rfl⟩ hp
        | _ :: _ :: _ :: _ => rfl
      | _ => rfl
    rw [e1] at h
    rw [e0]
    exact h
end
end Q15
namespace Q15
open PySem PySem.Spec PyProof.Rows L2 LamX L3 PySem.W
theorem ascB_cons {a b : Int} {l : List Int} : ascB (a :: b :: l) = (decide (a < b) && ascB (b :: l)) := by
  unfold ascB
  show ((List.range (l.length + 1)).all _) = _
  rw [List.range_succ_eq_map, List.all_cons, List.all_map]
  rfl
theorem asc_pw : ∀ {l : List Int}, ascB l = true → l.Pairwise (· < ·)
  | [], _ => .nil
  | [a], _ => List.pairwise_singleton _ _
  | a :: b :: l, h => by
    rw [ascB_cons, Bool.and_eq_true] at h
    have h1 := of_decide_eq_true h.1
    have h2 := asc_pw h.2
    refine List.pairwise_cons.mpr ⟨fun x hx => ?_, h2⟩
    rcases List.mem_cons.mp hx with rfl | hx
    · exact h1
    · have := (List.pairwise_cons.mp h2).1 x hx
      omega
theorem sub_mem : ∀ (n : Nat) (S : List Int), S.Pairwise (· < ·) → (∀ x ∈ S, 0 ≤ x ∧ x < n) → S ∈ subsI n
  | 0, S, _, h => by
    cases S with
    | nil => exact List.mem_cons_self
    | cons a S => have := h a List.mem_cons_self; omega
  | n + 1, S, hp, h => by
    rcases List.eq_nil_or_concat S with rfl | ⟨S', x, rfl⟩
    · exact List.mem_append_left _ (sub_mem n [] .nil fun _ h => by cases h)
    · rw [List.concat_eq_append] at hp h ⊢
      have ⟨p1, _, p3⟩ := List.pairwise_append.mp hp
      have hx := h x (by simp)
      have lt : ∀ y ∈ S', y < x := fun y hy => p3 y hy x (by simp)
      have low : ∀ y ∈ S', 0 ≤ y := fun y hy => (h y (List.mem_append_left _ hy)).1
      by_cases c : x = n
      · subst c
        refine List.mem_append_right _ (List.mem_map.mpr ⟨S', sub_mem n S' p1 fun y hy => ⟨low y hy, lt y hy⟩, rfl⟩)
      · refine List.mem_append_left _ (sub_mem n _ hp fun y hy => ⟨(h y hy).1, ?_⟩)
        rcases List.mem_append.mp hy with hy | hy
        · have := lt y hy
          omega
        · rw [List.mem_singleton] at hy
          omega
theorem set_mem_x {n : Nat} (hn : n ∈ [1, 2, 3, 4]) {S : List Int} (h0 : S ≠ []) (hp : ascB S = true) (h : ∀ x ∈ S, 0 ≤ x ∧ x < (n : Int)) : S ∈ setsX n := by
  have h1 := sub_mem n S (asc_pw hp) h
  have h2 : S ∈ (subsI n).mergeSort leS := (List.mergeSort_perm _ _).mem_iff.mpr h1
  rw [sets_sorted hn] at h2
  rcases List.mem_cons.mp h2 with h3 | h3
  · exact absurd h3 h0
  · exact h3
theorem mem_tups (d : Nat) : ∀ (n : Nat) (T : List Int), T.length = n → (∀ x ∈ T, 0 ≤ x ∧ x < (d : Int)) → T ∈ tupsI (upI d) n
  | 0, T, h, _ => by
    rw [List.length_eq_zero_iff.mp h]
    exact List.mem_cons_self
  | n + 1, T, h, hx => by
    rcases List.eq_nil_or_concat T with rfl | ⟨T', x, rfl⟩
    · cases h
    · rw [List.concat_eq_append] at h hx ⊢
      rw [List.length_append] at h
      have hx2 := hx x (by simp)
      refine List.mem_flatMap.mpr ⟨T', mem_tups d n T' (by simpa using h) fun y hy => hx y (List.mem_append_left _ hy), List.mem_map.mpr ⟨x, ?_, rfl⟩⟩
      exact List.mem_map.mpr ⟨x.toNat, List.mem_range.mpr (by omega), Int.toNat_of_nonneg hx2.1⟩
theorem bel_of {n : Int} {S : List Int} (h : ∀ x ∈ S, 0 ≤ x ∧ x < n) : (iL S).all (belP n) = true := by
  unfold iL
  rw [List.all_map, List.all_eq_true]
  intro x hx
  have := h x hx
  show (decide (0 ≤ x) && decide (x < n)) = true
  simp [this.1, this.2]
theorem sets_asc {n : Nat} (h : n ∈ [1, 2, 3, 4]) : ∀ s ∈ setsX n, ascB s = true := by
  simp only [List.mem_cons, List.not_mem_nil, or_false] at h
  rcases h with rfl | rfl | rfl | rfl <;> decide
theorem caseOk_iff {n d : Nat} (hd : Dom n d) (S T : List Int) : caseOk n d (encC (S, T)) = decide ((S, T) ∈ casesI n d) := by
  have hn := hd.1
  have hd30 : d ∈ List.range 31 := List.mem_range.mpr (by have := hd.d; omega)
  have e : caseOk n d (encC (S, T)) = ((decide ((iL S).length ≠ 0) && (iL S).all (belP n) && ascB ((iL S).map intOf)) && (decide ((iL T).length = n) && (iL T).all (belP d) && goodT n d (decS (encS S)) ((iL T).map intOf))) := rfl
  rw [e, dec_iL, dec_iL, dec_encS, iL_len, iL_len]
  by_cases c : (S, T) ∈ casesI n d
  · rw [decide_eq_true c]
    obtain ⟨S', hS, h⟩ := List.mem_flatMap.mp c
    obtain ⟨T', hT, e⟩ := List.mem_map.mp h
    have e1 : S' = S := congrArg Prod.fst e
    have e2 : T' = T := congrArg Prod.snd e
    subst e1 e2
    obtain ⟨f1, f2, f3⟩ := sets_facts hn S' hS
    obtain ⟨g1, g2, g3⟩ := rows_good n hn d hd30 hd.2.1 hd.2.2 S' hS T' hT
    rw [bel_of f3, bel_of g2, g3, sets_asc hn S' hS, decide_eq_true g1, decide_eq_true (by omega)]
    rfl
  · rw [decide_eq_false c]
    cases q : ((decide (S.length ≠ 0) && (iL S).all (belP n) && ascB S) && (decide (T.length = n) && (iL T).all (belP d) && goodT n d S T)) with
    | false => rfl
    | true =>
      exfalso
      simp only [Bool.and_eq_true, decide_eq_true_eq] at q
      obtain ⟨⟨⟨q1, q2⟩, q3⟩, ⟨q4, q5⟩, q6⟩ := q
      have b1 := (bel_ints q2).2
      have b2 := (bel_ints q5).2
      rw [dec_iL] at b1 b2
      have hS := set_mem_x hn (by intro h; rw [h] at q1; exact q1 rfl) q3 b1
      have hT := good_rows n hn d hd30 hd.2.1 hd.2.2 S hS T (mem_tups d n T q4 b2) q6
      exact c (List.mem_flatMap.mpr ⟨S, hS, List.mem_map.mpr ⟨T, hT, rfl⟩⟩)
theorem eqP_cases (p q : List Int × List Int) : eqP (encC p) (encC q) = decide (p = q) := by
  show PyData.eqv (toD (encC p)) (toD (encC q)) = _
  rw [toD_encC, toD_encC]
  simp only [PyData.eqv, PyData.eqvAll, eqvAll_ints, Bool.and_true]
  obtain ⟨a, b⟩ := p
  obtain ⟨a', b'⟩ := q
  by_cases h1 : a = a' <;> by_cases h2 : b = b' <;> simp [h1, h2]
end Q15
namespace Q15
open PySem PySem.Spec PyProof.Rows L2 LamX L3 PySem.W
section
variable {Q : PV → Prop} {R : RS}
def intB : PV → Bool
  | .int _ => true
  | .bl _ => true
  | _ => false
def bolB : PV → Bool
  | .bl _ => true
  | _ => false
theorem isi_intV {v : PV} (hk : kd v) : isiM "int" v Q R = Q (.bl (intB v)) := by
  obtain ⟨t, e⟩ := Option.isSome_iff_exists.mp hk
  rw [isi_run e]
  cases v <;> simp only [kindP, Option.some.injEq, reduceCtorEq] at e <;> subst e <;> rfl
theorem isi_boolV {v : PV} (hk : kd v) : isiM "bool" v Q R = Q (.bl (bolB v)) := by
  obtain ⟨t, e⟩ := Option.isSome_iff_exists.mp hk
  rw [isi_run e]
  cases v <;> simp only [kindP, Option.some.injEq, reduceCtorEq] at e <;> subst e <;> rfl
/-- a row of ints -/
def rowInts : PV → Bool
  | .tup xs => xs.all isInt
  | _ => false
theorem caseOk_rows {n d : Nat} {a b : PV} (h : (rowInts a && rowInts b) = false) : caseOk n d (.tup [a, b]) = false := by
  have ia : ∀ {m : Int} {xs : List PV}, xs.all (belP m) = true → xs.all isInt = true := fun {m xs} h => by
    rw [List.all_eq_true] at h ⊢
    intro x hx
    have := h x hx
    cases x <;> first | rfl | simp [belP] at this
  cases q : caseOk n d (.tup [a, b]) with
  | false => rfl
  | true =>
    exfalso
    have q : (setOk n a && restOk n d (decS a) b) = true := q
    rw [Bool.and_eq_true] at q
    cases a with
    | tup xs =>
      cases b with
      | tup ys =>
        have q1 : (decide (xs.length ≠ 0) && xs.all (belP n) && ascB (xs.map intOf)) = true := q.1
        have q2 : (decide (ys.length = n) && ys.all (belP d) && goodT n d _ (ys.map intOf)) = true := q.2
        rw [Bool.and_eq_true, Bool.and_eq_true] at q1 q2
        have h : (xs.all isInt && ys.all isInt) = false := h
        rw [ia q1.1.2, ia q2.1.2] at h
        cases h
      | _ => cases q.2
    | _ => cases q.1
theorem ints_of {xs : List PV} (h : xs.all isInt = true) : xs = iL (xs.map intOf) := by
  induction xs with
  | nil => rfl
  | cons a xs ih =>
    rw [List.all_cons, Bool.and_eq_true] at h
    cases a with
    | int i => show PV.int i :: xs = PV.int i :: iL (xs.map intOf); rw [← ih h.2]
    | _ => cases h.1
theorem okD_encC (p : List Int × List Int) : okD (encC p) := by
  show SeqAt.shaped (toD (encC p)) = true
  rw [toD_encC]
  unfold SeqAt.shaped
  simp only [PyData.canLay0, PyData.canLayAll0, canLay_ints, PyData.depth, PyData.depthAll, depth_ints]
  decide
theorem okD_cases (l : List (List Int × List Int)) : okD (.lst (l.map encC)) := by
  show SeqAt.shaped (toD (.lst (l.map encC))) = true
  have e : toD (.lst (l.map encC)) = .list (l.map fun p => PyData.tuple [.tuple (p.1.map PyData.int), .tuple (p.2.map PyData.int)]) := by
    simp only [toD, toDs_map, List.map_map]
    congr 1
    exact List.map_congr_left fun a _ => toD_encC a
  rw [e]
  have g : ∀ l : List (List Int × List Int), PyData.canLayAll0 (l.map fun p => PyData.tuple [.tuple (p.1.map PyData.int), .tuple (p.2.map PyData.int)]) = true ∧ PyData.depthAll (l.map fun p => PyData.tuple [.tuple (p.1.map PyData.int), .tuple (p.2.map PyData.int)]) ≤ 2 := by
    intro l
    induction l with
    | nil => exact ⟨rfl, by decide⟩
    | cons a l ih =>
      rw [List.map_cons]
      refine ⟨?_, ?_⟩
      · simp only [PyData.canLayAll0, PyData.canLay0, canLay_ints, ih.1, Bool.and_self]
      · simp only [PyData.depthAll, PyData.depth, depth_ints]
        have := ih.2
        omega
  have ⟨g1, g2⟩ := g l
  unfold SeqAt.shaped
  simp only [PyData.canLay0, g1, PyData.depth, Bool.true_and, decide_eq_true_eq]
  exact decide_eq_true (by omega)
theorem any_cases (l : List (List Int × List Int)) (p : List Int × List Int) : ((l.map encC).any fun z => eqP z (encC p)) = decide (p ∈ l) := by
  induction l with
  | nil => rfl
  | cons a l ih =>
    rw [List.map_cons, List.any_cons, ih, eqP_cases]
    by_cases c : a = p
    · subst c; simp
    · have : ¬ p = a := fun e => c e.symm
      by_cases c2 : p ∈ l <;> simp [c, c2, this]
theorem in_run {x : PV} {ys : List PV} {Q : PV → Prop} (h1 : okD x) (h2 : okD (.lst ys)) (h : Q (.bl (ys.any fun z => eqP z x))) : inAM x (.lst ys) Q R := ⟨⟨h1, h2⟩, h⟩
theorem m_law_is_case {n d : Nat} {v : PV} (hd : Dom n d) (hv : Pl2 v) (h : Q (.bl (caseOk n d v))) : p__law_is_case [.val (.lst ((casesI n d).map encC)), .val v] Q R := by
  have z : 1000000 ≤ sizeLine := by decide
  unfold p__law_is_case b__law_is_case
  simp only [l3s, wipeR, List.map, List.length_cons, List.length_nil, List.replicate, List.cons_append, List.nil_append, List.getElem?_cons_zero, List.getElem?_cons_succ, List.set_cons_zero, List.set_cons_succ, Nat.reduceAdd, Nat.reduceLT, Nat.reduceSub, Nat.reduceEqDiff, true_and, and_true, Nat.zero_lt_succ]
  simp only [if_true]
  rw [isi_tupV hv.1, asB_run]
  by_cases tv : ∃ a b, v = .tup [a, b]
  · obtain ⟨a, b, rfl⟩ := tv
    obtain ⟨_, hv2⟩ := hv.2 _ rfl
    have hx : ∀ x ∈ [a, b], Pl1 x := hv2
    have e1 : isTup (.tup [a, b]) = true := rfl
    rw [e1, if_neg (by decide), len_tup]
    refine ⟨⟨okD_int, okD_int⟩, ?_⟩
    rw [eqP_int, if_neg (by simp)]
    simp only [l3s, wipeR, List.map, List.length_cons, List.length_nil, List.replicate, List.cons_append, List.nil_append, List.getElem?_cons_zero, List.getElem?_cons_succ, List.set_cons_zero, List.set_cons_succ, Nat.reduceAdd, Nat.reduceLT, Nat.reduceSub, Nat.reduceEqDiff, true_and, and_true, Nat.zero_lt_succ]
    refine forP_go (fun i ρ => (∃ x, ρ = [some (.val (.lst ((casesI n d).map encC))), some (.val (.tup [a, b])), x, none]) ∧ ∀ x ∈ [a, b].take i, rowInts x = true) ⟨⟨none, rfl⟩, fun _ h => by cases h⟩ ?_ ?_
    · rintro i x ρ hxi ⟨⟨y, rfl⟩, hb⟩ K hK
      have hmem := List.mem_of_getElem? hxi
      have hp := hx x hmem
      have bad : rowInts x = false → Q (.bl false) := fun hr => by
        have : (rowInts a && rowInts b) = false := by
          rcases List.mem_cons.mp hmem with rfl | hm
          · rw [hr]; rfl
          · rw [List.mem_singleton] at hm
            subst hm
            rw [hr, Bool.and_false]
        rwa [caseOk_rows this] at h
      simp only [l3s, wipeR, List.map, List.length_cons, List.length_nil, List.replicate, List.cons_append, List.nil_append, List.getElem?_cons_zero, List.getElem?_cons_succ, List.set_cons_zero, List.set_cons_succ, Nat.reduceAdd, Nat.reduceLT, Nat.reduceSub, Nat.reduceEqDiff, true_and, and_true, Nat.zero_lt_succ]
      rw [isi_tupV hp.1, asB_run]
      by_cases tx : ∃ ys, x = .tup ys
      · obtain ⟨ys, rfl⟩ := tx
        obtain ⟨hy1, hy2⟩ := hp.2 ys rfl
        have e2 : isTup (.tup ys) = true := rfl
        rw [e2, if_neg (by decide)]
        simp only [l3s, wipeR, List.map, List.length_cons, List.length_nil, List.replicate, List.cons_append, List.nil_append, List.getElem?_cons_zero, List.getElem?_cons_succ, List.set_cons_zero, List.set_cons_succ, Nat.reduceAdd, Nat.reduceLT, Nat.reduceSub, Nat.reduceEqDiff, true_and, and_true, Nat.zero_lt_succ]
        refine lcP_sel (fun o => !isInt o) id (by omega) (fun o ho K1 K0 k1 k0 => ?_) ?_
        · simp only [l3s, wipeR, List.map, List.length_cons, List.length_nil, List.replicate, List.cons_append, List.nil_append, List.getElem?_cons_zero, List.getElem?_cons_succ, List.set_cons_zero, List.set_cons_succ, Nat.reduceAdd, Nat.reduceLT, Nat.reduceSub, Nat.reduceEqDiff, true_and, and_true, Nat.zero_lt_succ]
          simp only [if_true]
          rw [isi_intV (hy2 o ho), asB_run]
          cases o with
          | int i =>
            rw [if_neg (show ¬ (!intB (.int i)) = true from Bool.false_ne_true), isi_boolV (v := .int i) rfl, asB_run, if_neg (show ¬ bolB (.int i) = true from Bool.false_ne_true)]
            exact k0 rfl
          | bl x =>
            rw [if_neg (show ¬ (!intB (.bl x)) = true from Bool.false_ne_true), isi_boolV (v := .bl x) rfl, asB_run, if_pos (show bolB (.bl x) = true from rfl)]
            exact k1 rfl
          | _ =>
            rw [if_pos (by rfl)]
            exact k1 rfl
        · rw [List.map_id]
          refine ⟨by omega, ?_⟩
          show if (!(ys.filter fun o => !isInt o).isEmpty) = true then _ else _
          have e3 : (ys.filter fun o => !isInt o).isEmpty = ys.all isInt := by
            clear hy1 hy2 hp hmem hxi bad e2
            induction ys with
            | nil => rfl
            | cons o ys ih =>
              rw [List.all_cons, List.filter_cons]
              cases q : isInt o with
              | true => rw [if_neg (by simp), ih, Bool.true_and]
              | false => simp
          rw [e3]
          cases q : ys.all isInt with
          | true =>
            rw [if_neg (by decide)]
            refine hK _ ⟨⟨_, rfl⟩, fun w hw => ?_⟩
            rw [List.take_succ, hxi] at hw
            rcases List.mem_append.mp hw with hw | hw
            · exact hb w hw
            · have : w = .tup ys := by simpa using hw
              rw [this]
              exact q
          | false =>
            rw [if_pos (by decide)]
            exact bad q
      · have e2 : isTup x = false := by
          cases x <;> first | rfl | exact absurd ⟨_, rfl⟩ tx
        rw [e2, if_pos (by decide)]
        exact bad (by cases x <;> first | rfl | exact absurd ⟨_, rfl⟩ tx)
    · rintro ρ ⟨⟨y, rfl⟩, hb⟩
      have ra := hb a (by simp)
      have rb := hb b (by simp)
      cases a with
      | tup xs =>
        cases b with
        | tup ys =>
          have ex := ints_of (show xs.all isInt = true from ra)
          have ey := ints_of (show ys.all isInt = true from rb)
          generalize xs.map intOf = S at ex
          generalize ys.map intOf = T at ey
          subst ex ey
          have h2 : Q (.bl (caseOk n d (encC (S, T)))) := h
          rw [caseOk_iff hd] at h2
          simp only [l3s, wipeR, List.map, List.length_cons, List.length_nil, List.replicate, List.cons_append, List.nil_append, List.getElem?_cons_zero, List.getElem?_cons_succ, List.set_cons_zero, List.set_cons_succ, Nat.reduceAdd, Nat.reduceLT, Nat.reduceSub, Nat.reduceEqDiff, true_and, and_true, Nat.zero_lt_succ]
          refine in_run (x := encC (S, T)) (okD_encC _) (okD_cases _) ?_
          rw [any_cases]
          exact h2
        | _ => cases rb
      | _ => cases ra
  · have e0 : caseOk n d v = false := by
      cases v with
      | tup xs =>
        match xs with
        | [] => rfl
        | [_] => rfl
        | [a, b] => exact absurd ⟨a, b, rfl⟩ tv
        | _ :: _ :: _ :: _ => rfl
      | _ => rfl
    rw [e0] at h
    by_cases t : ∃ xs, v = .tup xs
    · obtain ⟨xs, rfl⟩ := t
      have e1 : isTup (.tup xs) = true := rfl
      rw [e1, if_neg (by decide), len_tup]
      refine ⟨⟨okD_int, okD_int⟩, ?_⟩
      have hl : xs.length ≠ 2 := fun hl => by
        match xs, hl with
        | [a, b], _ => exact tv ⟨a, b, rfl⟩
      rw [eqP_int, if_pos (by simp; omega)]
      exact h
    · have e1 : isTup v = false := by
        cases v <;> first | rfl | exact absurd ⟨_, rfl⟩ t
      rw [e1, if_pos (by decide)]
      exact h
end
end Q15
namespace Q15
open PySem PySem.Spec PyProof.Rows L2 LamX L3 PySem.W
section
variable {Q : PV → Prop} {R : RS}
theorem m_sizes {k : Nat} (hk : Bowl k) (h : ∀ n d : Nat, Dom n d → Cop k d → Q (.tup [.int n, .int d])) : p__law_sizes [.deal, I k] Q R := by
  have z : 1000000 ≤ sizeLine := by decide
  unfold p__law_sizes b__law_sizes
  simp only [l3s, wipeR, List.map, List.length_cons, List.length_nil, List.replicate, List.cons_append, List.nil_append, List.getElem?_cons_zero, List.getElem?_cons_succ, List.set_cons_zero, List.set_cons_succ, Nat.reduceAdd, Nat.reduceLT, Nat.reduceSub, Nat.reduceEqDiff, true_and, and_true, Nat.zero_lt_succ]
  refine ⟨by omega, m_of (by decide) (by decide) fun x hx => ?_⟩
  have hn : ∃ n : Nat, x = .int n ∧ n ∈ [1, 2, 3, 4] := by
    simp only [List.mem_cons, List.not_mem_nil, or_false] at hx
    rcases hx with rfl | rfl | rfl | rfl | rfl | rfl | rfl
    · exact ⟨1, rfl, by decide⟩
    · exact ⟨2, rfl, by decide⟩
    · exact ⟨2, rfl, by decide⟩
    · exact ⟨2, rfl, by decide⟩
    · exact ⟨3, rfl, by decide⟩
    · exact ⟨3, rfl, by decide⟩
    · exact ⟨4, rfl, by decide⟩
  obtain ⟨n, rfl, hn⟩ := hn
  have h4 : 1 ≤ n ∧ n ≤ 4 := by
    simp only [List.mem_cons, List.not_mem_nil, or_false] at hn
    omega
  simp only [l3s, wipeR, List.map, List.length_cons, List.length_nil, List.replicate, List.cons_append, List.nil_append, List.getElem?_cons_zero, List.getElem?_cons_succ, List.set_cons_zero, List.set_cons_succ, Nat.reduceAdd, Nat.reduceLT, Nat.reduceSub, Nat.reduceEqDiff, true_and, and_true, Nat.zero_lt_succ]
  refine ⟨by omega, ?_⟩
  rw [show (n : Int) - 1 = ((n - 1 : Nat) : Int) by omega, L3.atI_nat]
  have e : [PV.int 30, PV.int 30, PV.int 7, PV.int 3][n - 1]? = some (.int (topD n)) := by
    simp only [List.mem_cons, List.not_mem_nil, or_false] at hn
    rcases hn with rfl | rfl | rfl | rfl <;> rfl
  refine ⟨_, e, ?_⟩
  have ht : 1 ≤ topD n ∧ topD n ≤ 30 := by
    simp only [List.mem_cons, List.not_mem_nil, or_false] at hn
    rcases hn with rfl | rfl | rfl | rfl <;> decide
  refine m_modulus hk ht.1 ht.2 fun d hd hc => ⟨by omega, h n d ⟨hn, hc.1, hd⟩ hc⟩
end
end Q15
namespace L3
open PySem PySem.Spec PyProof.Rows L2
mutual
/-- how many things a datum is made of -/
def nodes : PyData → Nat
  | .tuple ds => 1 + nodesAll ds
  | .list ds => 1 + nodesAll ds
  | _ => 1
def nodesAll : List PyData → Nat
  | [] => 0
  | d :: ds => nodes d + nodesAll ds
end
mutual
/-- integers that aren't great, and tuples of such -/
def slim : PyData → Bool
  | .int i => decide (i.natAbs < 10 ^ 12)
  | .tuple ds => slimAll ds
  | .list ds => slimAll ds
  | _ => false
def slimAll : List PyData → Bool
  | [] => true
  | d :: ds => slim d && slimAll ds
end
theorem slimAll_of {ds : List PyData} (h : ∀ d ∈ ds, slim d = true) : slimAll ds = true := by
  induction ds with
  | nil => rfl
  | cons d ds ih =>
    simp only [slimAll, Bool.and_eq_true]
    exact ⟨h d List.mem_cons_self, ih fun e he => h e (List.mem_cons_of_mem _ he)⟩
theorem small_log {i : Int} (h : i.natAbs < 10 ^ 12) : i.natAbs.log2 < 40 := log_lt (b := 40) (Nat.lt_trans h (by decide)) (by decide)
mutual
theorem slim_weight : ∀ d : PyData, slim d = true → d.weight + 1 ≤ 42 * nodes d
  | .int i, h => by
    have h1 := small_log (by simpa [slim] using h : i.natAbs < 10 ^ 12)
    simp only [PyData.weight, nodes]
    split <;> omega
  | .tuple ds, h => by
    have := slimAll_weight ds (by simpa [slim] using h)
    simp only [PyData.weight, nodes]
    omega
  | .none, h => by simp [slim] at h
  | .bool _, h => by simp [slim] at h
  | .str _, h => by simp [slim] at h
  | .list ds, h => by
    have := slimAll_weight ds (by simpa [slim] using h)
    simp only [PyData.weight, nodes]
    omega
  | .dict _, h => by simp [slim] at h
theorem slimAll_weight : ∀ ds : List PyData, slimAll ds = true → PyData.weightAll ds ≤ 42 * nodesAll ds
  | [], _ => by simp [PyData.weightAll, nodesAll]
  | d :: ds, h => by
    simp only [slimAll, Bool.and_eq_true] at h
    have h1 := slim_weight d h.1
    have h2 := slimAll_weight ds h.2
    simp only [PyData.weightAll, nodesAll]
    omega
end
mutual
theorem slim_parts : ∀ d : PyData, slim d = true → d.showable = true ∧ d.hasDict = false ∧ d.leavesShort 20 = true
  | .int i, h => by
    have h0 : i.natAbs < 10 ^ 12 := by simpa [slim] using h
    have h1 := small_log h0
    refine ⟨by simp only [PyData.showable, decide_eq_true_eq]; omega, rfl, ?_⟩
    simp only [PyData.leavesShort, decide_eq_true_eq]
    exact Nat.le_trans (PyData.shown_int_le h0) (by decide)
  | .tuple ds, h => by
    obtain ⟨a, b, c⟩ := slimAll_parts ds (by simpa [slim] using h)
    exact ⟨by simpa [PyData.showable] using a, by simpa [PyData.hasDict] using b, by simpa [PyData.leavesShort] using c⟩
  | .none, h => by simp [slim] at h
  | .bool _, h => by simp [slim] at h
  | .str _, h => by simp [slim] at h
  | .list ds, h => by
    obtain ⟨a, b, c⟩ := slimAll_parts ds (by simpa [slim] using h)
    exact ⟨by simpa [PyData.showable] using a, by simpa [PyData.hasDict] using b, by simpa [PyData.leavesShort] using c⟩
  | .dict _, h => by simp [slim] at h
theorem slimAll_parts : ∀ ds : List PyData, slimAll ds = true → PyData.showableAll ds = true ∧ PyData.hasDictAll ds = false ∧ PyData.leavesShortAll 20 ds = true
  | [], _ => ⟨rfl, rfl, rfl⟩
  | d :: ds, h => by
    simp only [slimAll, Bool.and_eq_true] at h
    obtain ⟨a, b, c⟩ := slim_parts d h.1
    obtain ⟨a2, b2, c2⟩ := slimAll_parts ds h.2
    exact ⟨by simp [PyData.showableAll, a, a2], by simp [PyData.hasDictAll, b, b2], by simp [PyData.leavesShortAll, c, c2]⟩
end
/-- what can be shown -/
theorem show_slim {d : PyData} (h : slim d = true) (hd : d.depth ≤ 40) (hn : nodes d ≤ 10000) : ShowOk d := by
  obtain ⟨a, b, c⟩ := slim_parts d h
  refine ⟨a, b, hd, ?_⟩
  have h1 := PyData.shown_le 20 (by decide) d c
  have h2 := slim_weight d h
  rw [sizeLine_eq]
  omega
theorem slim_ints {l : List Int} (h : ∀ z ∈ l, z.natAbs < 10 ^ 12) : slim (.tuple (l.map PyData.int)) = true := by
  simp only [slim]
  refine slimAll_of fun d hd => ?_
  obtain ⟨z, hz, rfl⟩ := List.mem_map.mp hd
  simp only [slim, decide_eq_true_eq]
  exact h z hz
theorem nodes_ints : ∀ l : List Int, nodesAll (l.map PyData.int) = l.length
  | [] => rfl
  | z :: l => by simp [nodesAll, nodes, nodes_ints l]; omega
theorem depth_intsT (l : List Int) : (PyData.tuple (l.map PyData.int)).depth ≤ 1 := by
  rw [PyData.depth, PySem.W.depth_ints]
  decide
theorem show_ints {l : List Int} (h : ∀ z ∈ l, z.natAbs < 10 ^ 12) (hl : l.length ≤ 9000) : ShowOk (.tuple (l.map PyData.int)) :=
  show_slim (slim_ints h) (Nat.le_trans (depth_intsT l) (by decide)) (by simp only [nodes, nodes_ints]; omega)
end L3
namespace Q15
open PySem PySem.Spec PyProof.Rows L2 LamX L3 PySem.W
section
variable {Q : PV → Prop} {R : RS}
theorem m_stray_int {i : Int} (h0 : i.natAbs < 10 ^ 9) (h : ∀ x, Pl1 x → Q x) : p__law_stray [.deal, I i] Q R := by
  have z : 1000000 ≤ sizeLine := by decide
  unfold p__law_stray b__law_stray
  simp only [l3s, wipeR, List.map, List.length_cons, List.length_nil, List.replicate, List.cons_append, List.nil_append, List.getElem?_cons_zero, List.getElem?_cons_succ, List.set_cons_zero, List.set_cons_succ, Nat.reduceAdd, Nat.reduceLT, Nat.reduceSub, Nat.reduceEqDiff, true_and, and_true, Nat.zero_lt_succ]
  rw [isi_run (t := "int") rfl, asB_run, if_neg (by decide)]
  rw [isi_run (t := "int") rfl, asB_run, if_pos (by decide)]
  refine ⟨wid_small (by omega), wid_small (by omega), ?_⟩
  refine ⟨log_lt (b := 1920) (Nat.lt_trans h0 (Nat.lt_of_lt_of_le (by decide : 10 ^ 9 < 2 ^ 30) (Nat.pow_le_pow_right (by decide) (by decide)))) (by decide), by omega, by omega, m_of (by simp) (by simp) fun x hx => h x ?_⟩
  simp only [List.mem_cons, List.not_mem_nil, or_false] at hx
  rcases hx with rfl | rfl | rfl | rfl | rfl | rfl | rfl | rfl | rfl | rfl <;> refine ⟨rfl, fun xs e => ?_⟩ <;> first
    | (cases e; exact ⟨by simp, fun x hx => by rw [List.mem_singleton] at hx; subst hx; rfl⟩)
    | cases e
/-- kind known; the items of a tuple are P -/
def PlP (P : PV → Prop) (v : PV) : Prop := kd v ∧ ∀ xs, v = .tup xs → xs.length ≤ 1000 ∧ ∀ x ∈ xs, P x
theorem m_stray_tup {P : PV → Prop} {xs : List PV} (h1 : xs ≠ []) (h2 : xs.length ≤ 20) (hx : ∀ x ∈ xs, P x) (hv : P (.tup xs)) (ok : okS (.tup xs)) (h : ∀ x, PlP P x → Q x) : p__law_stray [.deal, .val (.tup xs)] Q R := by
  have z : 1000000 ≤ sizeLine := by decide
  unfold p__law_stray b__law_stray
  simp only [l3s, wipeR, List.map, List.length_cons, List.length_nil, List.replicate, List.cons_append, List.nil_append, List.getElem?_cons_zero, List.getElem?_cons_succ, List.set_cons_zero, List.set_cons_succ, Nat.reduceAdd, Nat.reduceLT, Nat.reduceSub, Nat.reduceEqDiff, true_and, and_true, Nat.zero_lt_succ]
  rw [isi_run (t := "tuple") rfl, asB_run, if_neg (by decide)]
  rw [isi_run (t := "tuple") rfl, asB_run, if_neg (by decide)]
  rw [isi_run (t := "tuple") rfl, asB_run, if_pos (by decide)]
  refine ⟨by omega, h1, by omega, by omega, by omega, ok, by omega, by omega, ?_⟩
  refine m_of (by simp) (by simp) fun x hx2 => h x ?_
  have two : (List.replicate (2 : Int).toNat xs).flatten = xs ++ xs := by
    show (List.replicate 2 xs).flatten = _
    simp [List.replicate]
  simp only [List.mem_cons, List.not_mem_nil, or_false] at hx2
  rcases hx2 with rfl | rfl | rfl | rfl | rfl | rfl | rfl | rfl | rfl | rfl <;> refine ⟨rfl, fun ys e => ?_⟩
  · cases e
  · cases e
  · cases e
    exact ⟨by simp, fun _ h => by cases h⟩
  · rw [two] at e
    cases e
    exact ⟨by rw [List.length_append]; omega, fun y hy => by rcases List.mem_append.mp hy with hy | hy <;> exact hx y hy⟩
  · cases e
  · cases e
  · cases e
    exact ⟨by simp, fun y hy => by rw [List.mem_singleton] at hy; subst hy; exact hv⟩
  · cases e
    exact ⟨by rw [List.length_reverse]; omega, fun y hy => hx y (List.mem_reverse.mp hy)⟩
  · cases e
  · cases e
end
end Q15
namespace Q15
open PySem PySem.Spec PyProof.Rows L2 LamX L3 PySem.W
theorem cut_to {xs : List PV} {n : Nat} (h : n ≤ xs.length) : cutP xs none (some (n : Int)) = xs.take n := by
  unfold cutP
  rw [HT.sIx_none, HT.sIx_nat, Nat.min_eq_left h]
  simp
theorem cut_from {xs : List PV} {n : Nat} (h : n ≤ xs.length) : cutP xs (some (n : Int)) none = xs.drop n := by
  unfold cutP
  rw [HT.sIx_none, HT.sIx_nat, Nat.min_eq_left h]
  exact List.take_of_length_le (by rw [List.length_drop]; omega)
section
variable {Q : PV → Prop} {R : RS}
theorem slice_run {a : M PV} {l h : M (Option Int)} : sliceX a l h Q R = a (fun d => l (fun l => h (fun h => sliceM d l h Q R) R) R) R := propext Iff.rfl
theorem part_run {a : M PV} {Q : Option Int → Prop} : partX a Q R = a (fun d => asI d (fun i => Q (some i)) R) R := propext Iff.rfl
theorem slice_tup {xs : List PV} {l h : Option Int} : sliceM (.tup xs) l h Q R = Q (.tup (cutP xs l h)) := propext Iff.rfl
theorem add_tup {a b : List PV} : addM (.tup a) (.tup b) Q R = (a.length + b.length ≤ sizeLine ∧ Q (.tup (a ++ b))) := propext Iff.rfl
theorem rev_tup {a : List PV} : revM (.tup a) Q R = Q (.tup a.reverse) := propext Iff.rfl
theorem m_spoil_tup {P : PV → Prop} {pS : PProm} {xs : List PV} (h1 : xs ≠ []) (h2 : xs.length ≤ 20) (hx : ∀ x ∈ xs, P x) (hv : P (.tup xs)) (ok : okS (.tup xs))
    (rec : ∀ x ∈ xs, ∀ {Q : PV → Prop} {R : RS}, (∀ y, P y → Q y) → pS [.deal, .val x] Q R) (h : ∀ x, PlP P x → Q x) : r__law_spoil pS [.deal, .val (.tup xs)] Q R := by
  have z : 1000000 ≤ sizeLine := by decide
  have l0 : 0 < xs.length := List.length_pos_iff.mpr h1
  unfold r__law_spoil b__law_spoil
  simp only [l3s, wipeR, List.map, List.length_cons, List.length_nil, List.replicate, List.cons_append, List.nil_append, List.getElem?_cons_zero, List.getElem?_cons_succ, List.set_cons_zero, List.set_cons_succ, Nat.reduceAdd, Nat.reduceLT, Nat.reduceSub, Nat.reduceEqDiff, true_and, and_true, Nat.zero_lt_succ]
  simp only [if_true]
  rw [isi_run (t := "tuple") rfl, asB_run, if_neg (by decide)]
  refine ⟨⟨okD_int, okD_int⟩, ?_⟩
  rw [if_neg (by simp; omega)]
  refine ⟨⟨by decide, by decide⟩, fun v v0 v1 => ⟨⟨okD_int, okD_int⟩, ?_⟩⟩
  have fin : ∀ ys : List PV, ys.length ≤ 1000 → (∀ y ∈ ys, P y) → Q (.tup ys) := fun ys g1 g2 => h _ ⟨rfl, fun zs e => by cases e; exact ⟨g1, g2⟩⟩
  have tk : ∀ n, ∀ y ∈ xs.take n, P y := fun n y hy => hx y (List.mem_of_mem_take hy)
  have dr : ∀ n, ∀ y ∈ xs.drop n, P y := fun n y hy => hx y (List.mem_of_mem_drop hy)
  have lt : ∀ n, (xs.take n).length ≤ 20 := fun n => by rw [List.length_take]; omega
  have ld : ∀ n, (xs.drop n).length ≤ 20 := fun n => by rw [List.length_drop]; omega
  by_cases c : v = 0
  · rw [if_pos (by simpa using c)]
    exact m_stray_tup h1 h2 hx hv ok h
  · rw [if_neg (by simpa using c)]
    refine ⟨⟨by omega, by omega⟩, fun a a0 a1 => ⟨⟨by decide, by decide⟩, fun q q0 q1 => ⟨by decide, ⟨okD_int, okD_int⟩, ?_⟩⟩⟩
    obtain ⟨n, rfl⟩ := Int.eq_ofNat_of_zero_le a0
    have hn : n < xs.length := by omega
    have e1 : (n : Int) + 1 = ((n + 1 : Nat) : Int) := by omega
    by_cases c0 : q = 0
    · rw [if_pos (by simpa using c0)]
      simp only [slice_run, part_run, L3.pure_run, rd_run, rdQ_val, asI_run, slice_tup, op2_run, add_run, List.getElem?_cons_zero, List.getElem?_cons_succ]
      rw [e1, cut_to (by omega), cut_from (by omega), add_tup]
      have g1 := lt n
      have g2 := ld (n + 1)
      exact ⟨by omega, fin _ (by rw [List.length_append]; omega) fun y hy => by
        rcases List.mem_append.mp hy with hy | hy
        · exact tk _ y hy
        · exact dr _ y hy⟩
    · rw [if_neg (by simpa using c0)]
      refine ⟨⟨okD_int, okD_int⟩, ?_⟩
      by_cases c1 : q = 1
      · rw [if_pos (by simpa using c1)]
        simp only [slice_run, part_run, L3.pure_run, rd_run, rdQ_val, asI_run, slice_tup, op2_run, add_run, List.getElem?_cons_zero, List.getElem?_cons_succ]
        rw [e1, cut_to (by omega), cut_from (by omega), add_tup]
        have g1 := lt (n + 1)
        have g2 := ld n
        exact ⟨by omega, fin _ (by rw [List.length_append]; omega) fun y hy => by
          rcases List.mem_append.mp hy with hy | hy
          · exact tk _ y hy
          · exact dr _ y hy⟩
      · rw [if_neg (by simpa using c1)]
        refine ⟨⟨okD_int, okD_int⟩, ?_⟩
        by_cases c2 : q = 2
        · rw [if_pos (by simpa using c2)]
          simp only [slice_run, part_run, L3.pure_run, rd_run, rdQ_val, asI_run, slice_tup, op2_run, add_run, rev_tup, List.getElem?_cons_zero, List.getElem?_cons_succ]
          rw [cut_to (by omega), cut_from (by omega), add_tup]
          have g1 := lt n
          have g2 := ld n
          exact ⟨by rw [List.length_reverse]; omega, fin _ (by rw [List.length_append, List.length_reverse]; omega) fun y hy => by
            rcases List.mem_append.mp hy with hy | hy
            · exact tk _ y hy
            · exact dr _ y (List.mem_reverse.mp hy)⟩
        · rw [if_neg (by simpa using c2)]
          simp only [slice_run, part_run, L3.pure_run, rd_run, rdQ_val, asI_run, slice_tup, op2_run, add_run, List.getElem?_cons_zero, List.getElem?_cons_succ]
          rw [e1, cut_to (by omega), cut_from (by omega)]
          have gy := List.getElem_mem hn
          refine ⟨xs[n], by rw [L3.atI_nat]; exact List.getElem?_eq_getElem hn, rec _ gy fun y hy => ⟨by omega, ?_⟩⟩
          have g1 := lt n
          have g2 := ld (n + 1)
          rw [add_tup]
          refine ⟨by simp only [List.length_cons, List.length_nil]; omega, ?_⟩
          rw [add_tup]
          refine ⟨by simp only [List.length_append, List.length_cons, List.length_nil]; omega, fin _ (by simp only [List.length_append, List.length_cons, List.length_nil]; omega) fun w hw => ?_⟩
          rcases List.mem_append.mp hw with hw | hw
          · rcases List.mem_append.mp hw with hw | hw
            · exact tk _ w hw
            · rw [List.mem_singleton] at hw
              rw [hw]
              exact hy
          · exact dr _ w hw
end
end Q15
namespace Q15
open PySem PySem.Spec PyProof.Rows L2 LamX L3 PySem.W
def Sm (a : List Int) : Prop := a ≠ [] ∧ a.length ≤ 20 ∧ ∀ z ∈ a, z.natAbs < 10 ^ 9
theorem slim_set {a : List Int} (h : Sm a) : L3.slim (toD (encS a)) = true := by
  rw [toD_encS]
  exact L3.slim_ints fun z hz => Nat.lt_trans (h.2.2 z hz) (by decide)
theorem okS_set {a : List Int} (h : Sm a) : okS (encS a) := by
  refine ⟨?_, ?_⟩
  · rw [toD_encS]
    simp only [PyData.canLay0, canLay_ints]
  · rw [toD_encS]
    exact L3.show_ints (fun z hz => Nat.lt_trans (h.2.2 z hz) (by decide)) (by have := h.2.1; omega)
theorem okS_case {p : List Int × List Int} (h1 : Sm p.1) (h2 : Sm p.2) : okS (encC p) := by
  refine ⟨?_, ?_⟩
  · rw [toD_encC]
    simp only [PyData.canLay0, PyData.canLayAll0, canLay_ints, Bool.and_self]
  · refine L3.show_slim ?_ ?_ ?_
    · rw [toD_encC]
      have a := slim_set h1
      have b := slim_set h2
      rw [toD_encS] at a b
      simp only [L3.slim, L3.slimAll, Bool.and_true, Bool.and_eq_true]
      simp only [L3.slim] at a b
      exact ⟨a, b⟩
    · rw [toD_encC]
      simp only [PyData.depth, PyData.depthAll, PySem.W.depth_ints]
      decide
    · rw [toD_encC]
      simp only [L3.nodes, L3.nodesAll, L3.nodes_ints]
      have := h1.2.1
      have := h2.2.1
      omega
section
variable {Q : PV → Prop} {R : RS}
theorem m_spoil_int {i : Int} {n : Nat} (h0 : i.natAbs < 10 ^ 9) (h : ∀ x, Pl1 x → Q x) : pSpoil (n + 1) [.deal, I i] Q R := by
  show r__law_spoil (pSpoil n) _ Q R
  unfold r__law_spoil b__law_spoil
  simp only [l3s, wipeR, List.map, List.length_cons, List.length_nil, List.replicate, List.cons_append, List.nil_append, List.getElem?_cons_zero, List.getElem?_cons_succ, List.set_cons_zero, List.set_cons_succ, Nat.reduceAdd, Nat.reduceLT, Nat.reduceSub, Nat.reduceEqDiff, true_and, and_true, Nat.zero_lt_succ]
  simp only [if_true]
  rw [isi_run (t := "int") rfl, asB_run, if_pos (by decide)]
  exact m_stray_int h0 h
theorem m_spoil_set {a : List Int} {n : Nat} (ha : Sm a) (h : ∀ x, Pl1 x → Q x) : pSpoil (n + 2) [.deal, .val (encS a)] Q R := by
  show r__law_spoil (pSpoil (n + 1)) _ Q R
  refine m_spoil_tup (P := kd) (fun e => ha.1 (by have := congrArg List.length e; rw [iL_len] at this; exact List.length_eq_zero_iff.mp this)) (by rw [iL_len]; exact ha.2.1) (fun x hx => ?_) rfl (okS_set ha) (fun x hx Q R hq => ?_) h
  · obtain ⟨z, _, rfl⟩ := List.mem_map.mp hx
    rfl
  · obtain ⟨z, hz, rfl⟩ := List.mem_map.mp hx
    exact m_spoil_int (ha.2.2 z hz) fun y hy => hq y hy.1
theorem pl1_set (a : List Int) (h : a.length ≤ 20) : Pl1 (encS a) := ⟨rfl, fun xs e => by
  cases e
  exact ⟨by rw [iL_len]; omega, fun x hx => by
    obtain ⟨z, _, rfl⟩ := List.mem_map.mp hx
    rfl⟩⟩
theorem pl1_case (p : List Int × List Int) : Pl1 (encC p) := ⟨rfl, fun xs e => by
  cases e
  exact ⟨by simp, fun x hx => by
    simp only [List.mem_cons, List.not_mem_nil, or_false] at hx
    rcases hx with rfl | rfl <;> rfl⟩⟩
theorem pl2_case {p : List Int × List Int} (h1 : p.1.length ≤ 20) (h2 : p.2.length ≤ 20) : Pl2 (encC p) := ⟨rfl, fun xs e => by
  cases e
  exact ⟨by simp, fun x hx => by
    simp only [List.mem_cons, List.not_mem_nil, or_false] at hx
    rcases hx with rfl | rfl
    · exact pl1_set _ h1
    · exact pl1_set _ h2⟩⟩
theorem m_spoil_case {p : List Int × List Int} {n : Nat} (h1 : Sm p.1) (h2 : Sm p.2) (h : ∀ x, Pl2 x → Q x) : pSpoil (n + 3) [.deal, .val (encC p)] Q R := by
  show r__law_spoil (pSpoil (n + 2)) _ Q R
  have two : ∀ x ∈ [encS p.1, encS p.2], ∃ a, Sm a ∧ x = encS a := fun x hx => by
    simp only [List.mem_cons, List.not_mem_nil, or_false] at hx
    rcases hx with rfl | rfl
    · exact ⟨_, h1, rfl⟩
    · exact ⟨_, h2, rfl⟩
  refine m_spoil_tup (P := Pl1) (by simp) (by simp) (fun x hx => ?_) (pl1_case p) (okS_case h1 h2) (fun x hx Q R hq => ?_) h
  · obtain ⟨a, ha, rfl⟩ := two x hx
    exact pl1_set a ha.2.1
  · obtain ⟨a, ha, rfl⟩ := two x hx
    exact m_spoil_set ha hq
end
end Q15
namespace Q15
open PySem PySem.Spec PyProof.Rows L2 LamX L3 PySem.W
section
variable {Q : PV → Prop} {R : RS}
def Sn (a : List Int) : Prop := a.length ≤ 20 ∧ ∀ z ∈ a, z.natAbs < 10 ^ 9
theorem Sn.slim {a : List Int} (h : Sn a) : L3.slim (.tuple (a.map PyData.int)) = true := L3.slim_ints fun z hz => Nat.lt_trans (h.2 z hz) (by decide)
abbrev caseD (p : List Int × List Int) : PyData := .tuple [.tuple (p.1.map PyData.int), .tuple (p.2.map PyData.int)]
theorem caseD_ok {p : List Int × List Int} (h1 : Sn p.1) (h2 : Sn p.2) : L3.slim (caseD p) = true ∧ L3.nodes (caseD p) ≤ 43 ∧ (caseD p).depth ≤ 2 ∧ PyData.canLay0 (caseD p) = true := by
  refine ⟨?_, ?_, ?_, ?_⟩
  · simp only [L3.slim, L3.slimAll, Bool.and_true, Bool.and_eq_true]
    have a := h1.slim
    have b := h2.slim
    simp only [L3.slim] at a b
    exact ⟨a, b⟩
  · simp only [L3.nodes, L3.nodesAll, L3.nodes_ints]
    have := h1.1
    have := h2.1
    omega
  · simp only [PyData.depth, PyData.depthAll, PySem.W.depth_ints]
    decide
  · simp only [PyData.canLay0, PyData.canLayAll0, canLay_ints, Bool.and_self]
theorem casesD_ok : ∀ {l : List (List Int × List Int)}, (∀ p ∈ l, Sn p.1 ∧ Sn p.2) → L3.slimAll (l.map caseD) = true ∧ L3.nodesAll (l.map caseD) ≤ 43 * l.length ∧ PyData.depthAll (l.map caseD) ≤ 3 ∧ PyData.canLayAll0 (l.map caseD) = true
  | [], _ => ⟨rfl, by simp [L3.nodesAll], by simp [PyData.depthAll], by simp [PyData.canLayAll0]⟩
  | p :: l, h => by
    obtain ⟨a, b, c, d⟩ := casesD_ok fun q hq => h q (List.mem_cons_of_mem _ hq)
    obtain ⟨a1, b1, c1, d1⟩ := caseD_ok (h p List.mem_cons_self).1 (h p List.mem_cons_self).2
    simp only [List.map_cons, List.length_cons]
    refine ⟨?_, ?_, ?_, ?_⟩
    · simp only [L3.slimAll, a1, a, Bool.and_self]
    · simp only [L3.nodesAll]
      omega
    · simp only [PyData.depthAll]
      omega
    · simp only [PyData.canLayAll0, d1, d, Bool.and_self]
theorem toDs_cases (l : List (List Int × List Int)) : toDs (l.map encC) = l.map caseD := by
  rw [toDs_map, List.map_map]
  exact List.map_congr_left fun a _ => toD_encC a
theorem okS_tupC {l : List (List Int × List Int)} (h : ∀ p ∈ l, Sn p.1 ∧ Sn p.2) (hl : l.length ≤ 200) : okS (.tup (l.map encC)) := by
  obtain ⟨a, b, c, d⟩ := casesD_ok h
  have e : toD (.tup (l.map encC)) = .tuple (l.map caseD) := by simp only [toD, toDs_cases]
  unfold okS
  rw [e]
  refine ⟨by simp only [PyData.canLay0, d], L3.show_slim (by simp only [L3.slim, a]) (by simp only [PyData.depth]; omega) (by simp only [L3.nodes]; omega)⟩
theorem okS_lstC {l : List (List Int × List Int)} (h : ∀ p ∈ l, Sn p.1 ∧ Sn p.2) (hl : l.length ≤ 200) : okS (.lst (l.map encC)) := by
  obtain ⟨a, b, c, d⟩ := casesD_ok h
  have e : toD (.lst (l.map encC)) = .list (l.map caseD) := by simp only [toD, toDs_cases]
  unfold okS
  rw [e]
  refine ⟨by simp only [PyData.canLay0, d], L3.show_slim (by simp only [L3.slim, a]) (by simp only [PyData.depth]; omega) (by simp only [L3.nodes]; omega)⟩
theorem okS_one {p : List Int × List Int} (h1 : Sn p.1) (h2 : Sn p.2) : okS (encC p) := by
  obtain ⟨a, b, c, d⟩ := caseD_ok h1 h2
  unfold okS
  rw [toD_encC]
  exact ⟨d, L3.show_slim a (Nat.le_trans c (by decide)) (Nat.le_trans b (by decide))⟩
theorem okS_bl {b : Bool} : okS (.bl b) := by
  cases b <;> exact ⟨rfl, ⟨rfl, rfl, by decide, by decide⟩⟩
theorem ne_same {d e : PV} (h : d = e) (k : Q (.bl false)) : neTM (.str (shP d)) (.str (shP e)) Q R := by
  subst h
  show Q (.bl (!decide (shP d = shP d)))
  simpa using k
/-- what all cases are made of -/
theorem cases_small : ∀ n ∈ [1, 2, 3, 4], ∀ d ∈ List.range 31, 1 ≤ d → d ≤ topD n → ((casesI n d).all fun p => decide (p.1 ≠ []) && decide (p.1.length ≤ 4) && decide (p.2.length = n) && (p.1 ++ p.2).all fun z => decide (0 ≤ z ∧ z < 31)) = true ∧ (casesI n d).length ≤ 100 ∧ 1 ≤ (casesI n d).length := by decide +kernel
theorem cases_len {n d : Nat} (h : Dom n d) : (casesI n d).length ≤ 100 ∧ 1 ≤ (casesI n d).length := (cases_small n h.1 d (List.mem_range.mpr (by have := h.d; omega)) h.2.1 h.2.2).2
theorem case_small {n d : Nat} (h : Dom n d) {p : List Int × List Int} (hp : p ∈ casesI n d) : p.1 ≠ [] ∧ p.1.length ≤ 4 ∧ p.2.length = n ∧ (∀ z ∈ p.1, 0 ≤ z ∧ z < 31) ∧ ∀ z ∈ p.2, 0 ≤ z ∧ z < 31 := by
  have q := List.all_eq_true.mp (cases_small n h.1 d (List.mem_range.mpr (by have := h.d; omega)) h.2.1 h.2.2).1 p hp
  simp only [Bool.and_eq_true, decide_eq_true_eq, List.all_eq_true, List.mem_append] at q
  exact ⟨q.1.1.1, q.1.1.2, q.1.2, fun z hz => q.2 z (.inl hz), fun z hz => q.2 z (.inr hz)⟩
theorem case_sm {n d : Nat} (h : Dom n d) {p : List Int × List Int} (hp : p ∈ casesI n d) : Sm p.1 ∧ Sm p.2 := by
  obtain ⟨a, b, c, e, f⟩ := case_small h hp
  have hn := h.n
  exact ⟨⟨a, by omega, fun z hz => by have := e z hz; omega⟩, fun z => by rw [z] at c; simp at c; omega, by omega, fun z hz => by have := f z hz; omega⟩
theorem Sm.sn {a : List Int} (h : Sm a) : Sn a := ⟨h.2.1, h.2.2⟩
theorem caseI_sn {k d n' many : Nat} {r : Int} {cs : List Int} (hc : Cop k d) (hm : Mix many n' cs) (h4 : many ≤ 4) : Sn (caseI r d (n', cs)).1 ∧ Sn (caseI r d (n', cs)).2 := by
  refine ⟨⟨?_, fun z hz => ?_⟩, ⟨?_, fun z hz => ?_⟩⟩
  · show (suppI cs).length ≤ 20
    have := suppI_len cs; have := hm.2.1; omega
  · obtain ⟨i, hi, rfl, _⟩ := suppI_mem.mp hz
    have hi : i < cs.length := hi
    have := hm.2.1
    omega
  · show (restI r d n' cs).length ≤ 20
    rw [restI_len]; have := hm.2.1; omega
  · obtain ⟨c, _, rfl⟩ := List.mem_map.mp hz
    have d0 : (0 : Int) < d := by have := hc.1; omega
    have g1 := Int.emod_nonneg (c * (r ^ n' % d)) (show (d : Int) ≠ 0 by omega)
    have g2 := Int.emod_lt_of_pos (c * (r ^ n' % d)) d0
    have := hc.2.1
    show (c * (r ^ n' % d) % d).natAbs < 10 ^ 9
    omega
theorem okS_of {k d n' many : Nat} {r : Int} {cs : List Int} (hc : Cop k d) (hm : Mix many n' cs) (h4 : many ≤ 4) : okS (encC (caseI r d (n', cs))) := okS_one (caseI_sn hc hm h4).1 (caseI_sn hc hm h4).2
theorem ex_inv {k d : Nat} (hk : Bowl k) (hc : Cop k d) : ∃ r : Int, Inv1 k d r := by
  obtain ⟨u, v, huv⟩ := bez hk hc
  have d0 : (0 : Int) < d := by have := hc.1; omega
  exact ⟨u % d, Int.emod_nonneg _ (by omega), Int.emod_lt_of_pos _ d0, by
    rw [mul_cong (Int.emod_emod _ _) rfl, ← huv]
    simp⟩
theorem draw_run {i : Nat} {a b : M PV} {ρ : Rho} {Q : Fl → Prop} : drawX i a b ρ Q R = a (fun d => b (fun s => drawM ρ i d s (fun ρ => Q (.nx ρ)) R) R) R := propext Iff.rfl
/-- what is known behind a turn -/
def Turn (k d case mix : Option Sl) : Prop := ∃ (k' d' n' : Nat) (r : Int) (cs : List Int) (many : Nat), k = some (I k') ∧ d = some (I d') ∧ case = some (.val (encC (caseI r d' (n', cs)))) ∧ mix = some (.val (mixP (n' : Nat) cs)) ∧ Bowl k' ∧ Cop k' d' ∧ Inv1 k' d' r ∧ Mix many n' cs ∧ many ≤ 4
end
end Q15
namespace Q15
open PySem PySem.Spec PyProof.Rows L2 LamX L3 PySem.W
section
variable {Q : PV → Prop} {R : RS}
theorem bowl_of {x : PV} (hx2 : x ∈ [PV.int 2, .int 2, .int 3, .int 4, .int 5]) : ∃ k : Nat, x = .int k ∧ Bowl k := by
  simp only [List.mem_cons, List.not_mem_nil, or_false] at hx2
  rcases hx2 with rfl | rfl | rfl | rfl | rfl
  · exact ⟨2, rfl, show 2 ∈ [2, 3, 4, 5] by decide⟩
  · exact ⟨2, rfl, show 2 ∈ [2, 3, 4, 5] by decide⟩
  · exact ⟨3, rfl, show 3 ∈ [2, 3, 4, 5] by decide⟩
  · exact ⟨4, rfl, show 4 ∈ [2, 3, 4, 5] by decide⟩
  · exact ⟨5, rfl, show 5 ∈ [2, 3, 4, 5] by decide⟩
theorem RecP.mono {k many : Nat} : ∀ {n : Nat} {v : PV}, RecP k many n v → RecP k many (n + 1) v
  | 0, _, h => .inl h
  | n + 1, _, h => by
    rcases h with h | ⟨xs, e, hl, hx⟩
    · exact .inl h
    · exact .inr ⟨xs, e, hl, fun x hx2 => RecP.mono (hx x hx2)⟩
/-- drawn mixtures, blended -/
theorem blend_mix {k n N : Nat} {ms : List (Nat × List Int)} (k1 : 2 ≤ k) (k2 : k ≤ 5) (hN : N ≤ 6) (hl : ms.length ≤ 5) (hms : ∀ m ∈ ms, Mix n m.1 m.2 ∧ m.1 ≤ 6 ∧ ∀ c ∈ m.2, c < 2 ^ 20) : Mix n (N + 1) (sumCs k N n ms) := by
  refine ⟨by omega, sumCs_len, fun c hc => ?_⟩
  obtain ⟨i, hi, rfl⟩ := List.mem_map.mp hc
  have hi := List.mem_range.mp hi
  have term : ∀ m ∈ ms, 0 ≤ m.2.getD i 0 * (k : Int) ^ (N - m.1) ∧ m.2.getD i 0 * (k : Int) ^ (N - m.1) ≤ 2 ^ 20 * 15625 := fun m hm3 => by
    have ⟨g1, g2, g3⟩ := hms m hm3
    have hi2 : i < m.2.length := by rw [g1.2.1]; exact hi
    rw [getD_eq hi2]
    have c1 := (g1.2.2 _ (List.getElem_mem hi2)).1
    have c2 := g3 _ (List.getElem_mem hi2)
    have ⟨p1, p2⟩ := pow_le5 (b := (k : Int)) (by omega) (by omega) (N - m.1)
    have p3 : (5 : Int) ^ (N - m.1) ≤ 15625 := by
      have h1 : (5 : Nat) ^ (N - m.1) ≤ 5 ^ 6 := Nat.pow_le_pow_right (by decide) (by omega)
      have h2 : ((5 ^ (N - m.1) : Nat) : Int) ≤ ((5 ^ 6 : Nat) : Int) := by exact_mod_cast h1
      simpa using h2
    exact ⟨Int.mul_nonneg c1 p1, Int.mul_le_mul (by omega) (by omega) p1 (by omega)⟩
  have s1 := (sum_pos_iff (f := fun m : Nat × List Int => m.2.getD i 0 * (k : Int) ^ (N - m.1)) ms fun m hm3 => (term m hm3).1).1
  have s2 := sum_le (f := fun m : Nat × List Int => m.2.getD i 0 * (k : Int) ^ (N - m.1)) ms fun m hm3 => (term m hm3).2
  refine ⟨s1, Int.lt_of_le_of_lt s2 ?_⟩
  omega
theorem less_same {k : Int} {n : Nat} {cs : List Int} : Less k n cs n cs := ⟨0, rfl, by simp⟩
theorem m_law {ns : List Int} (hl : ns.length ≤ 63) (h : Q (.bl true)) : p_law [.val (.scr (ns.map PV.int))] Q R := by
  have z : 1000000 ≤ sizeLine := by decide
  unfold p_law b_law
  simp only [l3s, wipeR, List.map, List.length_cons, List.length_nil, List.replicate, List.cons_append, List.nil_append, List.getElem?_cons_zero, List.getElem?_cons_succ, List.set_cons_zero, List.set_cons_succ, Nat.reduceAdd, Nat.reduceLT, Nat.reduceSub, Nat.reduceEqDiff, true_and, and_true, Nat.zero_lt_succ]
  rw [draw_run]
  simp only [l3s, wipeR, List.map, List.length_cons, List.length_nil, List.replicate, List.cons_append, List.nil_append, List.getElem?_cons_zero, List.getElem?_cons_succ, List.set_cons_zero, List.set_cons_succ, Nat.reduceAdd, Nat.reduceLT, Nat.reduceSub, Nat.reduceEqDiff, true_and, and_true, Nat.zero_lt_succ]
  refine ⟨⟨by simp, rfl, ns, rfl, hl⟩, by decide, ?_⟩
  simp only [l3s, wipeR, List.map, List.length_cons, List.length_nil, List.replicate, List.cons_append, List.nil_append, List.getElem?_cons_zero, List.getElem?_cons_succ, List.set_cons_zero, List.set_cons_succ, Nat.reduceAdd, Nat.reduceLT, Nat.reduceSub, Nat.reduceEqDiff, true_and, and_true, Nat.zero_lt_succ]
  refine ⟨by decide, ?_⟩
  refine forP_go (fun i ρ => ∃ s2 s3 s4 s5 s6 s7 s8 s9 s10 s11 s12 s13 s14 s15, ρ = [some (.val (.scr (ns.map PV.int))), some .deal, s2, s3, s4, s5, s6, s7, s8, s9, s10, s11, s12, s13, s14, s15, none, none] ∧ (1 ≤ i → Turn s3 s5 s8 s12)) ⟨none, none, none, none, none, none, none, none, none, none, none, none, none, none, rfl, fun h => absurd h (by decide)⟩ ?_ ?_
  · rintro i x ρ hx ⟨s2, s3, s4, s5, s6, s7, s8, s9, s10, s11, s12, s13, s14, s15, rfl, -⟩ K hK
    simp only [l3s, wipeR, List.map, List.length_cons, List.length_nil, List.replicate, List.cons_append, List.nil_append, List.getElem?_cons_zero, List.getElem?_cons_succ, List.set_cons_zero, List.set_cons_succ, Nat.reduceAdd, Nat.reduceLT, Nat.reduceSub, Nat.reduceEqDiff, true_and, and_true, Nat.zero_lt_succ]
    refine ⟨by omega, m_of (by simp) (by simp) fun x hx2 => ?_⟩
    obtain ⟨k, rfl, hk⟩ := bowl_of hx2
    refine m_sizes hk fun n d hd hc => ?_
    have ⟨n1, n2⟩ := hd.n
    have ⟨k1, k2⟩ := hk.le
    have ⟨d1, d2⟩ := hd.d
    have d0 : (0 : Int) < d := by omega
    have ⟨cl1, cl2⟩ := cases_len hd
    obtain ⟨u, v, huv⟩ := bez hk hc
    obtain ⟨r, hr⟩ := ex_inv hk hc
    simp only [l3s, wipeR, List.map, List.length_cons, List.length_nil, List.replicate, List.cons_append, List.nil_append, List.getElem?_cons_zero, List.getElem?_cons_succ, List.set_cons_zero, List.set_cons_succ, Nat.reduceAdd, Nat.reduceLT, Nat.reduceSub, Nat.reduceEqDiff, true_and, and_true, Nat.zero_lt_succ]
    refine m_cases hd ?_
    refine m_all_cases hd ?_
    have ok := okS_tupC (l := casesI n d) (fun p hp => ⟨(case_sm hd hp).1.sn, (case_sm hd hp).2.sn⟩) (by omega)
    simp only [l3s, wipeR, List.map, List.length_cons, List.length_nil, List.replicate, List.cons_append, List.nil_append, List.getElem?_cons_zero, List.getElem?_cons_succ, List.set_cons_zero, List.set_cons_succ, Nat.reduceAdd, Nat.reduceLT, Nat.reduceSub, Nat.reduceEqDiff, true_and, and_true, Nat.zero_lt_succ]
    refine ⟨ok, ok, ne_same rfl ?_⟩
    rw [asB_run, if_neg Bool.false_ne_true]
    refine ⟨by decide, ?_⟩
    refine forP_go (fun j ρ => ∃ s7 s8 s9 s10 s11 s12, ρ = [some (.val (.scr (ns.map PV.int))), some .deal, some (.val x), some (I k), some (I n), some (I d), some (.val (.lst ((casesI n d).map encC))), s7, s8, s9, s10, s11, s12, s13, s14, s15, none, none]) ⟨_, _, _, _, _, _, rfl⟩ ?_ ?_
    · rintro j y ρ hy ⟨s7, s8, s9, s10, s11, s12, rfl⟩ K2 hK2
      simp only [l3s, wipeR, List.map, List.length_cons, List.length_nil, List.replicate, List.cons_append, List.nil_append, List.getElem?_cons_zero, List.getElem?_cons_succ, List.set_cons_zero, List.set_cons_succ, Nat.reduceAdd, Nat.reduceLT, Nat.reduceSub, Nat.reduceEqDiff, true_and, and_true, Nat.zero_lt_succ]
      refine m_of (by simp; omega) (by simp; omega) fun v hv => ?_
      obtain ⟨p, hp, rfl⟩ := List.mem_map.mp hv
      have ⟨sm1, sm2⟩ := case_sm hd hp
      refine m_spoil_case (n := 2) sm1 sm2 fun v1 hv1 => ?_
      refine m_of (by simp; omega) (by simp; omega) fun v hv => ?_
      obtain ⟨p2, hp2, rfl⟩ := List.mem_map.mp hv
      have ⟨sm21, sm22⟩ := case_sm hd hp2
      refine m_spoil_case (n := 2) sm21 sm22 fun v2 hv2 => ?_
      refine ⟨by omega, ?_⟩
      have hp3 : ∀ w ∈ [encC p, v1, v2], Pl2 w := fun w hw => by
        simp only [List.mem_cons, List.not_mem_nil, or_false] at hw
        rcases hw with rfl | rfl | rfl
        · exact pl2_case sm1.2.1 sm2.2.1
        · exact hv1
        · exact hv2
      refine forP_go (fun j ρ => ∃ s9, ρ = [some (.val (.scr (ns.map PV.int))), some .deal, some (.val x), some (I k), some (I n), some (I d), some (.val (.lst ((casesI n d).map encC))), some (.val y), some (.val (encC p)), s9, s10, s11, s12, s13, s14, s15, none, none]) ⟨_, rfl⟩ ?_ ?_
      · rintro j3 w ρ hw ⟨s9, rfl⟩ K3 hK3
        have pw := hp3 w (List.mem_of_getElem? hw)
        simp only [l3s, wipeR, List.map, List.length_cons, List.length_nil, List.replicate, List.cons_append, List.nil_append, List.getElem?_cons_zero, List.getElem?_cons_succ, List.set_cons_zero, List.set_cons_succ, Nat.reduceAdd, Nat.reduceLT, Nat.reduceSub, Nat.reduceEqDiff, true_and, and_true, Nat.zero_lt_succ]
        refine m_is_case hd pw ?_
        refine ⟨okS_bl, m_law_is_case hd pw ⟨okS_bl, ne_same rfl ?_⟩⟩
        rw [asB_run, if_neg Bool.false_ne_true]
        exact hK3 _ ⟨_, rfl⟩
      · rintro ρ ⟨s9, rfl⟩
        simp only [l3s, wipeR, List.map, List.length_cons, List.length_nil, List.replicate, List.cons_append, List.nil_append, List.getElem?_cons_zero, List.getElem?_cons_succ, List.set_cons_zero, List.set_cons_succ, Nat.reduceAdd, Nat.reduceLT, Nat.reduceSub, Nat.reduceEqDiff, true_and, and_true, Nat.zero_lt_succ]
        refine ⟨encS p.2, rfl, ?_⟩
        have ⟨_, _, p2l, _, p2z⟩ := case_small hd hp
        show lcP _ _ _ _ (iL p.2) [] _ noR
        refine lcP_inv (fun i acc => ∃ T : List Int, acc = iL T ∧ T.length = i ∧ ∀ z ∈ T, 0 ≤ z ∧ z < (d : Int)) ⟨[], rfl, rfl, fun _ h => by cases h⟩ ?_ ?_
        · rintro i2 w acc hw ⟨T, rfl, hT, hz⟩ K4 hK4
          obtain ⟨q, hq, rfl⟩ := List.mem_map.mp (List.mem_of_getElem? hw)
          have hi2 : i2 < (iL p.2).length := (List.getElem?_eq_some_iff.mp hw).1
          rw [iL_len] at hi2
          simp only [l3s, wipeR, List.map, List.length_cons, List.length_nil, List.replicate, List.cons_append, List.nil_append, List.getElem?_cons_zero, List.getElem?_cons_succ, List.set_cons_zero, List.set_cons_succ, Nat.reduceAdd, Nat.reduceLT, Nat.reduceSub, Nat.reduceEqDiff, true_and, and_true, Nat.zero_lt_succ]
          simp only [if_true]
          refine ⟨⟨by decide, by decide⟩, fun e e0 e1 => ?_⟩
          refine ⟨d0, by rw [iL_len]; omega, hK4 _ ⟨T ++ [(q + e) % d], by simp [iL], by simp [hT], fun z hz2 => ?_⟩⟩
          rcases List.mem_append.mp hz2 with hz2 | hz2
          · exact hz z hz2
          · rw [List.mem_singleton] at hz2
            subst hz2
            exact ⟨Int.emod_nonneg _ (by omega), Int.emod_lt_of_pos _ d0⟩
        · rintro acc ⟨T, rfl, hT, hz⟩
          rw [iL_len, p2l] at hT
          refine ⟨encS p.1, rfl, encS p.1, rfl, ?_⟩
          refine m_some n1 (by omega) fun sm s1 s2 s3 => ?_
          refine ⟨by omega, m_of (by simp) (by simp) fun w hw => ?_⟩
          have hw2 : ∃ S : List Int, w = encS S ∧ S.length ≤ 20 := by
            simp only [List.mem_cons, List.not_mem_nil, or_false] at hw
            rcases hw with rfl | rfl | rfl
            · exact ⟨_, rfl, sm1.2.1⟩
            · exact ⟨_, rfl, sm1.2.1⟩
            · exact ⟨sm, rfl, by omega⟩
          obtain ⟨S, rfl, hS⟩ := hw2
          refine ⟨by omega, ?_⟩
          have pw : Pl2 (encC (S, T)) := pl2_case hS (by show T.length ≤ 20; omega)
          refine m_is_case (v := encC (S, T)) hd pw ?_
          refine ⟨okS_bl, m_law_is_case (v := encC (S, T)) hd pw ⟨okS_bl, ne_same rfl ?_⟩⟩
          rw [asB_run, if_neg Bool.false_ne_true]
          refine m_mixture (deep := 6) hk n1 n2 (by omega) fun n' cs hm h6 hb => ?_
          refine m_case_of d0 (by omega) huv (by have := hm.2.1; omega) (fun c hc2 => by have := hm.2.2 c hc2; exact wid_small (by omega)) fun r1 hr1 => ?_
          obtain rfl := inv_one hr1 hr
          refine ⟨okS_of hc hm n2, m_case hk hc hm (by omega) fun r2 hr2 => ?_⟩
          obtain rfl := inv_one hr2 hr1
          refine ⟨okS_of hc hm n2, ne_same rfl ?_⟩
          rw [asB_run, if_neg Bool.false_ne_true]
          exact hK2 _ ⟨_, _, _, _, _, _, rfl⟩
    · rintro ρ ⟨s7, s8, s9, s10, s11, s12, rfl⟩
      simp only [l3s, wipeR, List.map, List.length_cons, List.length_nil, List.replicate, List.cons_append, List.nil_append, List.getElem?_cons_zero, List.getElem?_cons_succ, List.set_cons_zero, List.set_cons_succ, Nat.reduceAdd, Nat.reduceLT, Nat.reduceSub, Nat.reduceEqDiff, true_and, and_true, Nat.zero_lt_succ]
      refine ⟨⟨by omega, by omega⟩, ?_⟩
      have lk : (rngL 0 (k : Int).toNat).length = k := by simp [rngL]
      refine lcP_inv (fun i acc => ∃ ms : List (Nat × List Int), acc = ms.map (fun m => mixP (m.1 : Nat) m.2) ∧ ms.length = i ∧ ∀ m ∈ ms, Mix n m.1 m.2 ∧ m.1 ≤ 6 ∧ ∀ c ∈ m.2, c < 2 ^ 20) ⟨[], rfl, rfl, fun _ h => by cases h⟩ ?_ ?_
      · rintro i2 w acc hw ⟨ms, rfl, hl2, hms⟩ K4 hK4
        have hi2 : i2 < k := lk ▸ (List.getElem?_eq_some_iff.mp hw).1
        simp only [l3s, wipeR, List.map, List.length_cons, List.length_nil, List.replicate, List.cons_append, List.nil_append, List.getElem?_cons_zero, List.getElem?_cons_succ, List.set_cons_zero, List.set_cons_succ, Nat.reduceAdd, Nat.reduceLT, Nat.reduceSub, Nat.reduceEqDiff, true_and, and_true, Nat.zero_lt_succ]
        simp only [if_true]
        refine m_mixture (deep := 4) hk n1 n2 (by omega) fun n' cs hm h6 hb => ?_
        refine ⟨by rw [List.length_map]; omega, hK4 _ ⟨ms ++ [(n', cs)], by rw [List.map_append]; rfl, by rw [List.length_append, hl2]; rfl, fun m hm3 => ?_⟩⟩
        rcases List.mem_append.mp hm3 with hm3 | hm3
        · exact hms m hm3
        · rw [List.mem_singleton] at hm3
          subst hm3
          exact ⟨hm, h6, hb⟩
      · rintro acc ⟨ms, rfl, hl2, hms⟩
        rw [lk] at hl2
        refine lcP_inv (fun i acc => acc = (ms.take i).map fun m => encC (caseI r d m)) (by simp) ?_ ?_
        · rintro i2 w acc hw rfl K4 hK4
          rw [List.getElem?_map] at hw
          have hi2 : i2 < ms.length := by
            rcases Nat.lt_or_ge i2 ms.length with q | q
            · exact q
            · rw [List.getElem?_eq_none q] at hw
              cases hw
          rw [List.getElem?_eq_getElem hi2] at hw
          cases hw
          have ⟨hm, h6, hb⟩ := hms _ (List.getElem_mem hi2)
          simp only [l3s, wipeR, List.map, List.length_cons, List.length_nil, List.replicate, List.cons_append, List.nil_append, List.getElem?_cons_zero, List.getElem?_cons_succ, List.set_cons_zero, List.set_cons_succ, Nat.reduceAdd, Nat.reduceLT, Nat.reduceSub, Nat.reduceEqDiff, true_and, and_true, Nat.zero_lt_succ]
          simp only [if_true]
          refine m_case hk hc hm (by omega) fun r2 hr2 => ?_
          obtain rfl := inv_one hr2 hr
          refine ⟨by rw [List.length_map, List.length_take]; omega, hK4 _ ?_⟩
          rw [List.take_succ, List.getElem?_eq_getElem hi2, List.map_append]
          rfl
        · rintro acc rfl
          rw [List.length_map, List.take_length]
          have okl : okS (.lst (ms.map fun m => encC (caseI r d m))) := by
            have := okS_lstC (l := ms.map (caseI r d)) (fun q hq => by
              obtain ⟨m, hm, rfl⟩ := List.mem_map.mp hq
              exact caseI_sn hc (hms m hm).1 n2) (by rw [List.length_map]; omega)
            rwa [List.map_map] at this
          have kp : (0 : Int) < k := by omega
          refine ⟨okl, m_blend_cases hk hc hr (by omega) (by omega) n2 (fun m hm => (hms m hm).1) fun S hS hmem => ?_⟩
          have same : ∀ N n' cs', (∀ m ∈ ms, m.1 ≤ N) → Less k (N + 1) (sumCs k N n ms) n' cs' → (S, blendR r d n ms) = caseI r d (n', cs') := fun N n' cs' hN hless => by
            have ⟨e1, e2⟩ := blend_same kp d0 hr (fun m hm3 => ⟨hN m hm3, (hms m hm3).1.2.1, fun c hc => ((hms m hm3).1.2.2 c hc).1⟩) hless
            have e3 : S = suppI cs' := asc_eq hS (suppI_asc _) fun x => (hmem x).trans (e2 x).symm
            rw [e3, ← e1]
            rfl
          have e6 := same 6 7 _ (fun m hm => (hms m hm).2.1) less_same
          have mx6 := blend_mix k1 k2 (Nat.le_refl 6) (by omega) hms
          refine ⟨by rw [e6]; exact okS_of hc mx6 n2, ?_⟩
          refine m_blended hk (by omega) (by omega) n2 (N := 6) (by omega) (fun m hm3 => ⟨(hms m hm3).2.1, (hms m hm3).1.2.1, (hms m hm3).1.2.2⟩) fun N n' cs' hN hmax hless => ?_
          have mx := Mix.less kp (blend_mix k1 k2 hN (by omega) hms) hless
          refine m_case hk hc mx (by omega) fun r2 hr2 => ?_
          obtain rfl := inv_one hr2 hr
          have ee : encC (S, blendR r2 d n ms) = encC (suppI cs', restI r2 d n' cs') := congrArg encC (same N n' cs' hmax hless)
          have oo : okS (encC (suppI cs', restI r2 d n' cs')) := okS_of hc mx n2
          refine ⟨oo, ?_⟩

          refine ne_same ee ?_
          rw [asB_run, if_neg Bool.false_ne_true]
          refine ⟨okl, ne_same rfl ?_⟩
          rw [asB_run, if_neg Bool.false_ne_true]
          refine ⟨⟨okD_int, okD_int⟩, ?_⟩
          have go : ∀ (deep : Nat) (QQ : PV → Prop), deep ≤ 3 → (∀ n3 cs3, Mix n n3 cs3 → QQ (.tup [mixP (n3 : Nat) cs3, encC (caseI r2 d (n3, cs3))])) → p__law_recipe [.deal, I k, I n, I deep] (fun t => p__law_walked [I k, I n, I d, .val t] QQ R) R := fun deep QQ hdp hq => by
            refine m_recipe hk n1 n2 5 deep (by omega) (by omega) fun t ht => ?_
            have ht4 : RecP k n 4 t := by
              have m1 := fun {a : Nat} (q : RecP k n a t) => RecP.mono q
              match deep, hdp, ht with
              | 0, _, ht => exact (m1 (m1 (m1 (m1 ht))))
              | 1, _, ht => exact (m1 (m1 (m1 ht)))
              | 2, _, ht => exact (m1 (m1 ht))
              | 3, _, ht => exact (m1 ht)
            exact m_walked hk hc hr n1 n2 4 t (by omega) ht4 fun n3 cs3 _ hm3 _ => hq n3 cs3 hm3
          split
          refine go 3 _ (by decide) ?_
          rotate_left
          refine go 2 _ (by decide) ?_
          all_goals
            intro n3 cs3 hm3
            simp only [l3s, wipeR, List.map, List.length_cons, List.length_nil, List.replicate, List.cons_append, List.nil_append, List.getElem?_cons_zero, List.getElem?_cons_succ, List.set_cons_zero, List.set_cons_succ, Nat.reduceAdd, Nat.reduceLT, Nat.reduceSub, Nat.reduceEqDiff, true_and, and_true, Nat.zero_lt_succ]
            refine ⟨okS_of hc hm3 n2, m_case hk hc hm3 (by omega) fun r3 hr3 => ?_⟩
            obtain rfl := inv_one hr3 hr2
            refine ⟨okS_of hc hm3 n2, ne_same rfl ?_⟩
            rw [asB_run, if_neg Bool.false_ne_true]
            exact hK _ ⟨_, _, _, _, _, _, _, _, _, _, _, _, _, _, rfl, fun _ => ⟨k, d, n3, _, cs3, n, rfl, rfl, rfl, rfl, hk, hc, hr3, hm3, n2⟩⟩
  · rintro ρ ⟨s2, s3, s4, s5, s6, s7, s8, s9, s10, s11, s12, s13, s14, s15, rfl, ht⟩
    obtain ⟨k, d, n', r, cs, many, rfl, rfl, rfl, rfl, hk, hc, hr, hm, h4⟩ := ht (by decide)
    obtain ⟨u, v, huv⟩ := bez hk hc
    simp only [l3s, wipeR, List.map, List.length_cons, List.length_nil, List.replicate, List.cons_append, List.nil_append, List.getElem?_cons_zero, List.getElem?_cons_succ, List.set_cons_zero, List.set_cons_succ, Nat.reduceAdd, Nat.reduceLT, Nat.reduceSub, Nat.reduceEqDiff, true_and, and_true, Nat.zero_lt_succ]
    refine ⟨rfl, ?_⟩
    show p_case_of [I k, .val (mixP (n' : Nat) cs), I d] _ _
    have d0 : (0 : Int) < d := by have := hc.1; omega
    refine m_case_of d0 (by have := hc.2.1; omega) huv (by have := hm.2.1; omega) (fun c hc2 => by have := hm.2.2 c hc2; exact wid_small (by omega)) fun r' hr' => ?_
    obtain rfl := inv_one hr' hr
    have ok := okS_of (r := r') hc hm h4
    refine ⟨ok, ok, ?_⟩
    show Q (.bl (decide (shP _ = shP _)))
    have e : decide (shP (PV.tup [.tup (iL (suppI cs)), .tup (iL (restI r' d n' cs))]) = shP (encC (caseI r' d (n', cs)))) = true := decide_eq_true rfl
    rw [e]
    exact h
end
end Q15
namespace L2
open PySem PySem.Spec PyProof.Rows LamX
/-- what the caller tracks ahead of the law: the tables of code objects, and perhaps the script, locked -/
structure Ahead (tabs : List (Addr × Addr)) (Kf : PySem.W.Frag) (scr : Addr) (ns : List Int) (H : Hp) (h : Heap) : Prop where
  tab : ∀ p ∈ tabs, H p.2 = some (.tbl #[])
  only : ∀ b, H b = none ∨ b ∈ tabs.map (·.2) ∨ ∃ o xs, H b = some (.frz o (.lst xs))
  seq : SqL Kf H scr (ns.map V.int)
  dom : ∀ b, H b ≠ none → b = scr ∨ b ∈ tabs.map (·.2)
  loose : H scr ≠ none → Kf.lookup scr = none
section
variable {Pg : Program} {wd : World} {Kf : PySem.W.Frag} {gl bl : Str → Option Value} {lev : Nat} {at' scr : Addr} {tabs : List (Addr × Addr)} {fdat : FuncData} {nm : Str} {prom : Sp} {st : Shared} {vs : List Value} {ns : List Int} {XX : CXT}
theorem ahead_go {H : Hp} (KX : Kf.In st.heap) (gns : st.heap.Ns mainGlobals gl) (bns : st.heap.Ns builtinsNs bl) (bbo : ∀ x : Str, x ≠ "__name__" → bl x = bootBuiltins x) (nol : st.heap.NoLimit) (gens : st.gens = #[])
    (tT : ∀ p ∈ tabs, st.heap.get? p.2 = some { cls := .none, data := .fields #[] }) (nT : ∀ p ∈ tabs, Kf.lookup p.2 = none) (cT : ∀ p ∈ tabs, PySem.W.CodeHd st.heap p.1 p.2)
    (bmain : ∃ (bm : Addr) (ob : Obj), gl "__builtins__" = some (.ref bm) ∧ bm ≠ builtinsNs ∧ st.heap.get? bm = some ob ∧ ob.cls = .type "module" ∧ ob.dict = some builtinsNs ∧ ob.data = .plain)
    (scrO : st.heap.get? scr = some { cls := .type "list", data := .seq vs.toArray }) (rm : Room lev callerA) (W : Ahead tabs Kf scr ns H st.heap) (hok : HOk Pg wd H st.heap)
    (F : ∀ ground : Heap, Kf.In ground → ground.Ns mainGlobals gl → (∀ p ∈ tabs, TabB ground gl p.1 p.2) → FnG Pg wd Kf gl ground XX lev at' fdat [nm] prom) (bnd : ∀ (s : Shared) (u : Value), BindsTo s fdat ⟨[u], []⟩ [(nm, u)])
    (said : prom [.ref scr] H (fun v _ => v = .bl true) fun _ _ _ => False) (noX : ∀ e s', XX [] H st (fun _ _ _ => False) e s' → False) :
    codeAny (model Pg wd) callerA (.call (.ref at') ⟨[.ref scr], []⟩) (fun r s' => r = .ok (.ret (.bool true)) ∧ OldK st.heap s'.heap ∧ s'.os = st.os ∧ AllBare s'.gens) st := by
  have tabAt : ∀ b, b ∈ tabs.map (·.2) → st.heap.get? b = some { cls := .none, data := .fields #[] } := fun b hb => by
    obtain ⟨p, hp, rfl⟩ := List.mem_map.mp hb
    exact tT p hp
  -- what is neither a list nor an empty table is not tracked
  have plain : ∀ {b : Addr} {o : Obj}, st.heap.get? b = some o → (∀ ys n, o.data ≠ .seq ys n) → o.data ≠ .fields #[] → H b = none := fun {b o} e h1 h2 => by
    apply Classical.byContradiction
    intro hb
    rcases W.dom b hb with z | z
    · subst z
      rw [scrO] at e
      obtain rfl := Option.some.inj e
      exact h1 _ _ rfl
    · rw [tabAt b z] at e
      obtain rfl := Option.some.inj e
      exact h2 rfl
  have dicts : ∀ {b : Addr} {o : Obj} {es : Array DictEntry} {n : Nat}, st.heap.get? b = some o → o.data = .dict es n → H b = none := fun {b o es n} e d =>
    plain e (fun ys m z => by rw [d] at z; cases z) fun z => by rw [d] at z; cases z
  have keepNs : ∀ {b : Addr} {m : Str → Option Value}, st.heap.Ns b m → (hidT st.heap H).Ns b m := fun {b m} ⟨o, es, n, e, d, r⟩ => ⟨o, es, n, hidT_get e (dicts e d), d, r⟩
  have KG : Kf.In (hidT st.heap H) := fun b o e => hidT_get (KX b o e) (by
    apply Classical.byContradiction
    intro hb
    rcases W.dom b hb with z | z
    · subst z
      rw [W.loose hb] at e
      cases e
    · obtain ⟨p, hp, rfl⟩ := List.mem_map.mp z
      rw [nT p hp] at e
      cases e)
  have MG : L2.Mod Kf gl (hidT st.heap H) := by
    obtain ⟨mc, n1, n2⟩ := nol
    exact ⟨KG, keepNs gns, ⟨bl, keepNs bns, bbo⟩, ⟨mc, keepNs n1, n2⟩⟩
  have TB : ∀ p ∈ tabs, TabB (hidT st.heap H) gl p.1 p.2 := fun p hp => by
    have notG : mainGlobals ≠ p.2 := fun z => by
      obtain ⟨o, es, n, e, d, _⟩ := gns
      rw [z, tT p hp] at e
      obtain rfl := Option.some.inj e
      cases d
    refine ⟨?_, ?_, notG⟩
    · obtain ⟨o, us, f1, f2, f3, f4, f5, f6, f7, e1, r1, r2, r3, r4, r5, r6, r7, r8, r9⟩ := cT p hp
      refine ⟨o, us, f1, f2, f3, f4, f5, f6, f7, hidT_get e1 (plain e1 (fun ys n z => ?_) fun z => ?_), r1, r2, r3, r4, r5, r6, r7, r8, r9⟩
      · rw [r2] at z; cases z
      · rw [r2] at z
        cases z
        simp at r3
    · obtain ⟨bm, ob, b1, b2, b3, b4, b5, b6⟩ := bmain
      refine ⟨bm, ob, b1, b2, fun q => ?_, fun q => ?_, hidT_get b3 (plain b3 (fun ys n z => ?_) fun z => ?_), b4, b5, b6⟩
      · obtain ⟨o, es, n, e, d, _⟩ := gns
        rw [q, e] at b3
        obtain rfl := Option.some.inj b3
        rw [d] at b6; cases b6
      · rw [q, tT p hp] at b3
        obtain rfl := Option.some.inj b3
        cases b6
      · rw [b6] at z; cases z
      · rw [b6] at z; cases z
  have e0 : Env0 Pg wd Kf gl (hidT st.heap H) callerA [] st H :=
    ⟨rfl, MG, fun b o e => of_hidT e, Nat.le_of_eq (hidT_size _ _), trivial, fun b hb => absurd (show b ∈ ([] : List Addr) from hb) (by simp), hok, .of_eq gens⟩
  refine codeAny_mono ((F _ KG (keepNs gns) TB).run callerA [] st H ⟨[.ref scr], []⟩ [.ref scr] [.ref scr] _ _ rfl rm e0 (bnd st (.ref scr)) (.cons rfl .nil) said) fun res s' out => ?_
  match res, out with
  | .error err, out => exact (noX err s' out).elim
  | .ok .next, out => exact out.elim
  | .ok .brk, out => exact out.elim
  | .ok .cont, out => exact out.elim
  | .ok (.ret u), out =>
    obtain ⟨v, H', os, bare, un, hok', rv, q⟩ := out
    obtain rfl : v = .bl true := q
    obtain rfl : u = Value.bool true := rv
    have old : ∀ b o, b ∉ tabs.map (·.2) → st.heap.get? b = some o → s'.heap.get? b = some o := fun b o nb e => by
      rcases W.only b with z | z | ⟨ob, xs, z⟩
      · exact un.keep b o e z (fun y => absurd (show b ∈ ([] : List Addr) from y) (by simp)) (by simp)
      · exact absurd z nb
      · obtain ⟨e1, _⟩ := hok b _ z
        obtain ⟨e2, _⟩ := hok' b _ (un.frzs b ob _ z)
        rw [e] at e1
        rw [Option.some.inj e1]
        exact e2
    have grown : ∀ p ∈ tabs, ∃ more : Array Value, s'.heap.get? p.2 = some { cls := .none, data := .fields more } := fun p hp => by
      obtain ⟨more, z⟩ := un.tbls p.2 #[] (W.tab p hp)
      exact ⟨_, hok' p.2 _ z⟩
    refine ⟨rfl, ⟨fun b o e => ?_, fun b o e => ?_⟩, os, bare⟩
    · by_cases hb : b ∈ tabs.map (·.2)
      · obtain ⟨p, hp, rfl⟩ := List.mem_map.mp hb
        obtain ⟨more, hm⟩ := grown p hp
        rw [tT p hp] at e
        obtain rfl := Option.some.inj e
        exact .inr (.inl ⟨((cT p hp).tab (tT p hp)).isCodeTable, rfl, #[], more, rfl, by rw [Array.empty_append]; exact hm⟩)
      · exact .inl (old b o hb e)
    · by_cases hb : b ∈ tabs.map (·.2)
      · obtain ⟨p, hp, rfl⟩ := List.mem_map.mp hb
        obtain ⟨more, hm⟩ := grown p hp
        exact ⟨_, hm⟩
      · exact ⟨o, old b o hb e⟩
/-- what the caller tracks: there is such an abstract heap -/
theorem ahead_any {Pg : Program} {wd : World} (KX : Kf.In st.heap) (tT : ∀ p ∈ tabs, st.heap.get? p.2 = some { cls := .none, data := .fields #[] })
    (scrO : st.heap.get? scr = some { cls := .type "list", data := .seq vs.toArray }) (hi : IntsAre vs ns) (hl : ns.length ≤ sizeLine) : ∃ H : Hp, Ahead tabs Kf scr ns H st.heap ∧ HOk Pg wd H st.heap := by
  have tabAt : ∀ b, b ∈ tabs.map (·.2) → st.heap.get? b = some { cls := .none, data := .fields #[] } := fun b hb => by
    obtain ⟨p, hp, rfl⟩ := List.mem_map.mp hb
    exact tT p hp
  have notT : scr ∉ tabs.map (·.2) := fun z => by
    have e := tabAt scr z
    rw [scrO] at e
    cases congrArg Obj.data (Option.some.inj e)
  have mem : ∀ p ∈ tabs, p.2 ∈ tabs.map (·.2) := fun p hp => List.mem_map.mpr ⟨p, hp, rfl⟩
  have rv := vals_ints hi
  cases hk : Kf.lookup scr with
  | some o =>
    have e := KX scr o hk
    rw [scrO] at e
    obtain rfl := Option.some.inj e
    refine ⟨fun b => if b ∈ tabs.map (·.2) then some (.tbl #[]) else none, ⟨fun p hp => if_pos (mem p hp), fun b => ?_, .inr ⟨_, vs.toArray, _, hk, rfl, rfl, rfl, by rw [List.size_toArray, hi.length]; exact hl, by simpa using rv⟩, fun b z => ?_, fun z => absurd (if_neg notT) z⟩, fun b u z => ?_⟩
    · by_cases hb : b ∈ tabs.map (·.2)
      · exact .inr (.inl hb)
      · exact .inl (if_neg hb)
    · by_cases hb : b ∈ tabs.map (·.2)
      · exact .inr hb
      · exact absurd (if_neg hb) z
    · by_cases hb : b ∈ tabs.map (·.2)
      · obtain rfl := Option.some.inj ((if_pos hb).symm.trans z)
        exact tabAt b hb
      · cases (if_neg hb).symm.trans z
  | none =>
    refine ⟨fun b => if b = scr then some (.frz { cls := .type "list", data := .seq vs.toArray } (.lst (ns.map V.int))) else if b ∈ tabs.map (·.2) then some (.tbl #[]) else none,
      ⟨fun p hp => (if_neg (show ¬ p.2 = scr from fun z => notT (z ▸ mem p hp))).trans (if_pos (mem p hp)), fun b => ?_, .inl (.inr ⟨{ cls := .type "list", data := .seq vs.toArray }, if_pos rfl⟩), fun b z => ?_, fun _ => hk⟩, fun b u z => ?_⟩
    · by_cases h1 : b = scr
      · exact .inr (.inr ⟨_, _, if_pos h1⟩)
      · by_cases h2 : b ∈ tabs.map (·.2)
        · exact .inr (.inl h2)
        · exact .inl ((if_neg h1).trans (if_neg h2))
    · by_cases h1 : b = scr
      · exact .inl h1
      · by_cases h2 : b ∈ tabs.map (·.2)
        · exact .inr h2
        · exact absurd ((if_neg h1).trans (if_neg h2)) z
    · by_cases h1 : b = scr
      · obtain rfl := Option.some.inj ((if_pos h1).symm.trans z)
        subst h1
        exact ⟨scrO, by rw [List.length_map]; exact hl, vs, _, rv, scrO⟩
      · have z2 := (if_neg h1).symm.trans z
        by_cases h2 : b ∈ tabs.map (·.2)
        · obtain rfl := Option.some.inj ((if_pos h2).symm.trans z2)
          exact tabAt b h2
        · cases (if_neg h2).symm.trans z2
end
/-- what must be known of the law's promise at the head's heap h -/
def LawAtG (l : PySem.W.OpenLaw) (wd : World) (Kf : PySem.W.Frag) (XX : CXT) (lev n : Nat) (nm : Str) (gl : Str → Option Value) (at' : Addr) (h : Heap) : Prop :=
  ∃ (fdat : FuncData) (tabs : List (Addr × Addr)) (prom : Sp), (∀ p ∈ tabs, h.get? p.2 = some { cls := .none, data := .fields #[] }) ∧ (∀ p ∈ tabs, Kf.lookup p.2 = none) ∧ (∀ p ∈ tabs, PySem.W.CodeHd h p.1 p.2) ∧
    (∀ (s : Shared) (u : Value), BindsTo s fdat ⟨[u], []⟩ [(nm, u)]) ∧
    (∀ (H : Hp) (scr : Addr) (ns : List Int), ns.length ≤ n → (∀ z ∈ ns, Builtin.Int.intBits z ≤ 1048576) → (∀ p ∈ tabs, H p.2 = some (.tbl #[])) → SqL Kf H scr (ns.map V.int) → prom [.ref scr] H (fun v _ => v = .bl true) fun _ _ _ => False) ∧
    ∀ ground : Heap, Kf.In ground → ground.Ns mainGlobals gl → (∀ p ∈ tabs, TabB ground gl p.1 p.2) → FnG l.prog wd Kf gl ground XX lev at' fdat [nm] prom
theorem walk_ofG {l : PySem.W.OpenLaw} {n lev : Nat} {q : Program} {loose : List Str} {XP : (Str → Option Value) → Heap → Prop} {YP : World → Heap → Prop} {d : DefRec} {Kf : Params → PySem.W.Frag} {XX : World → CXT} {nm : Str}
    (hn : l.most = some n) (hn2 : n ≤ sizeLine) (hdf : d.params.defaults = []) (rm : Room lev callerA) (hY : ∀ (w : World) (h : Heap), YP w h → (Kf w.params).In h)
    (F : ∀ (w : World) (gl : Str → Option Value) (at' : Addr) (h : Heap), YP w h → (Kf w.params).In h → h.Ns mainGlobals gl → gl d.name = some (.ref at') → LawAtG l w (Kf w.params) (XX w) lev n nm gl at' h)
    (noX : ∀ (w : World) (H : Hp) (s : Shared) (e : Value) (s' : Shared), XX w [] H s (fun _ _ _ => False) e s' → False) :
    PySem.W.WalkO q loose XP YP l.row.toRowW d [] (fun f vs => PySem.call f vs) := by
  refine Att.attach_callB hn hdf fun w s₀ s₁ mg mb fa o pm cd doc a vs ns G Y ho hd hcd hmg hobj hints hlen hbits hg => ?_
  have KX := hY w _ Y
  obtain ⟨fdat, tabs, prom, tT, nT, cT, bnd, said, F1⟩ := F w mg fa _ Y KX G.T.g hmg
  obtain ⟨H, W, hok⟩ := ahead_any (Pg := l.prog) (wd := w) (ns := ns) KX tT hobj hints (Nat.le_trans hlen hn2)
  exact ahead_go KX G.T.g G.T.b G.T.builtins G.T.nolimit hg tT nT cT G.T.bmain hobj rm W hok F1 bnd (said H a ns hlen hbits W.tab W.seq) fun e s' => noX w H s₁ e s'
end L2
namespace L2
open PySem PySem.Spec PyProof.Rows LamX
/-- the def at fa has the code object c with the table P, which is empty -/
def OwnTab2 (K : PySem.W.Frag) (fa : Addr) (h : Heap) : Prop := ∀ (c P : Addr) (o : Obj) (fd : FuncData) (e : Value) (dd : Option Addr) (vs : Array Value) (sl : Array (Option Value)), K.lookup fa = some o → o.data = .func fd → fd.code = .ref c → K.lookup c = some ⟨e, dd, .fields vs, sl⟩ → vs[11]? = some (.ref P) →
  PySem.W.CodeHd h c P ∧ h.get? P = some { cls := .none, data := .fields #[] }
theorem walk_ofGT {l : PySem.W.OpenLaw} {n lev : Nat} {q : Program} {loose : List Str} {XP : (Str → Option Value) → Heap → Prop} {YP : World → Heap → Prop} {d : DefRec} {Kf : Params → PySem.W.Frag} {XX : World → CXT} {nm : Str}
    (hn : l.most = some n) (hn2 : n ≤ sizeLine) (hdf : d.params.defaults = []) (rm : Room lev callerA) (hrec : ((recsOf q).any fun e => e.name == d.name) = true) (hY : ∀ (w : World) (h : Heap), YP w h → (Kf w.params).In h)
    (F : ∀ (w : World) (gl : Str → Option Value) (at' : Addr) (h : Heap), YP w h → (Kf w.params).In h → h.Ns mainGlobals gl → gl d.name = some (.ref at') → OwnTab2 (Kf w.params) at' h → LawAtG l w (Kf w.params) (XX w) lev n nm gl at' h)
    (noX : ∀ (w : World) (H : Hp) (s : Shared) (e : Value) (s' : Shared), XX w [] H s (fun _ _ _ => False) e s' → False) :
    PySem.W.WalkO q loose XP YP l.row.toRowW d [] (fun f vs => PySem.call f vs) := by
  refine Att.attach_callB hn hdf fun w s₀ s₁ mg mb fa o pm cd doc a vs ns G Y ho hd hcd hmg hobj hints hlen hbits hg => ?_
  have KX := hY w _ Y
  have own : OwnTab2 (Kf w.params) fa s₁.heap := fun c P o1 fd1 e dd vs1 sl k1 k2 k3 k4 k5 => by
    obtain ⟨dL, inR, same⟩ := List.any_eq_true.mp hrec
    obtain ⟨a', o', fd', c', P', h1, h2, h3, h4, h5, h6⟩ := G.T.tab dL inR
    rw [beq_iff_eq.mp same, hmg] at h1
    obtain rfl := Value.ref.inj (Option.some.inj h1)
    obtain rfl := Option.some.inj ((KX _ _ k1).symm.trans h2)
    obtain rfl := Data.func.inj (k2.symm.trans h3)
    obtain rfl := Value.ref.inj (k3.symm.trans h4)
    have h6' := h6
    obtain ⟨⟨oc, vc, e1, _, e3, e4⟩, hP⟩ := h6'
    obtain rfl := Option.some.inj ((KX _ _ k4).symm.trans e1)
    obtain rfl := Data.fields.inj e3
    obtain rfl := Value.ref.inj (Option.some.inj (k5.symm.trans e4))
    exact ⟨PySem.W.CodeHd.of h5 h6, hP⟩
  obtain ⟨fdat, tabs, prom, tT, nT, cT, bnd, said, F1⟩ := F w mg fa _ Y KX G.T.g hmg own
  obtain ⟨H, W, hok⟩ := ahead_any (Pg := l.prog) (wd := w) (ns := ns) KX tT hobj hints (Nat.le_trans hlen hn2)
  exact ahead_go KX G.T.g G.T.b G.T.builtins G.T.nolimit hg tT nT cT G.T.bmain hobj rm W hok F1 bnd (said H a ns hlen hbits W.tab W.seq) fun e s' => noX w H s₁ e s'
/-- an own error class nm with an __init__ (the statement st), its base M: what the top has written of it -/
structure EFactsG (K : PySem.W.Frag) (st : Stmt) (nm q : Str) (M C f1 : Addr) : Prop where
  aC : PySem.W.nsIn K mainGlobals nm = some (some (.ref C))
  xL : ∃ nm q N bs sn sub ab col dd k0 k1 k2 k3 k5, K.lookup C = some (excClassObj nm q C N bs [.ref M, .type "ValueError", .type "Exception", .type "BaseException", .type "object"] true sn sub ab col dd k0 k1 k2 k3 k5 "ValueError.__new__")
  sa : PySem.W.findIn K (.ref C) "__setattr__" = some (some (.builtin "object.__setattr__"))
  ga : PySem.W.findIn K (.ref C) "__getattribute__" = some (some (.builtin "BaseException.__getattribute__"))
  gg : PySem.W.findIn K (.ref C) "__getattr__" = some none
  na : PySem.W.findIn K (.ref C) "at" = some none
  a1 : PySem.W.findIn K (.ref C) "__init__" = some (some (.ref f1))
  t1 : PySem.W.typeIn K (.ref f1) = some (.type "function")
  l1 : ∃ oc od kV dc pm an cd ct sl, K.lookup f1 = some ⟨oc, od, .func (PySem.W.fnOf "__init__" q (defArgs st) (defBody st) (defScope st) .none kV dc pm an cd ct), sl⟩ ∧ PySem.W.codeIn K cd q = true
  k1 : PySem.W.keepIn K (.ref f1) = true
  kC : PySem.W.keepIn K (.ref C) = true
  eC : PySem.W.subIn K (.ref C) (.type "BaseException") = some true
  tC : PySem.W.typeIn K (.ref C) = some (.type "type")
  hC : PySem.W.hasDictIn K C = true
  cC : PySem.W.findIn K (.ref C) "__class__" = some (some (.builtin "object.__class__"))
  mC : PySem.W.mroIn K C (.type "object") = some true
  cn : PySem.W.specialIn K (.builtin "object.__class__") "__get__" = some (some (.builtin "getset_descriptor.__get__"))
  ct : PySem.W.takesIn K (.builtin "object.__class__") = some true
theorem mkEG {K : PySem.W.Frag} {st : Stmt} {nm q : Str} {M C f1 : Addr} {m1 m2 : Str} {N : Addr} {bs : List Value} {sn : List Str} {sub : List Value} {ab : Bool} {col : Option Bool} {dd : Option Addr} {k0 k1 k2 k3 k5 : Option Value}
    {oc kV dc pm cd ct : Value} {od an : Option Addr} {sl : Array (Option Value)} (aC : PySem.W.nsIn K mainGlobals nm = some (some (.ref C)))
    (xL : K.lookup C = some (excClassObj m1 m2 C N bs [.ref M, .type "ValueError", .type "Exception", .type "BaseException", .type "object"] true sn sub ab col dd k0 k1 k2 k3 k5 "ValueError.__new__"))
    (sa : PySem.W.findIn K (.ref C) "__setattr__" = some (some (.builtin "object.__setattr__"))) (ga : PySem.W.findIn K (.ref C) "__getattribute__" = some (some (.builtin "BaseException.__getattribute__")))
    (gg : PySem.W.findIn K (.ref C) "__getattr__" = some none) (na : PySem.W.findIn K (.ref C) "at" = some none) (a1 : PySem.W.findIn K (.ref C) "__init__" = some (some (.ref f1))) (t1 : PySem.W.typeIn K (.ref f1) = some (.type "function"))
    (l1 : K.lookup f1 = some ⟨oc, od, .func (PySem.W.fnOf "__init__" q (defArgs st) (defBody st) (defScope st) .none kV dc pm an cd ct), sl⟩) (c1 : PySem.W.codeIn K cd q = true)
    (kf : PySem.W.keepIn K (.ref f1) = true) (kC : PySem.W.keepIn K (.ref C) = true) (eC : PySem.W.subIn K (.ref C) (.type "BaseException") = some true) (tC : PySem.W.typeIn K (.ref C) = some (.type "type")) (hC : PySem.W.hasDictIn K C = true)
    (cC : PySem.W.findIn K (.ref C) "__class__" = some (some (.builtin "object.__class__"))) (mC : PySem.W.mroIn K C (.type "object") = some true)
    (hn : PySem.W.specialIn K (.builtin "object.__class__") "__get__" = some (some (.builtin "getset_descriptor.__get__"))) (ht : PySem.W.takesIn K (.builtin "object.__class__") = some true) : EFactsG K st nm q M C f1 :=
  ⟨aC, ⟨_, _, _, _, _, _, _, _, _, _, _, _, _, _, xL⟩, sa, ga, gg, na, a1, t1, ⟨_, _, _, _, _, _, _, _, _, l1, c1⟩, kf, kC, eC, tC, hC, cC, mC, hn, ht⟩
section
variable {K : PySem.W.Frag} {st : Stmt} {nm q : Str} {M C f1 : Addr}
theorem EFactsG.ox (F : EFactsG K st nm q M C f1) : OexC K C := by
  obtain ⟨m1, m2, N, bs, sn, sub, ab, col, dd, k0, k1, k2, k3, k5, e⟩ := F.xL
  exact ⟨⟨m1, m2, N, bs, _, sn, sub, ab, col, dd, k0, k1, k2, k3, k5, e, by rfl⟩, F.sa, F.eC, F.tC, F.kC⟩
theorem EFactsG.xc (F : EFactsG K st nm q M C f1) : ExcC K C := ⟨F.ga, F.gg, F.eC, F.hC, F.cC, F.cn, F.ct, F.mC⟩
theorem EFactsG.xf (F : EFactsG K st nm q M C f1) : XfC K C := ⟨F.ga, F.gg, F.eC, F.hC⟩
theorem EFactsG.fn (F : EFactsG K st nm q M C f1) : ∃ fd, Fun K "__init__" q st f1 fd := by
  obtain ⟨oc, od, kV, dc, pm, an, cd, ct, sl, l, c⟩ := F.l1
  exact ⟨_, fun_mk l c F.k1⟩
end
end L2
namespace L2
open PySem PySem.Spec PyProof.Rows LamX
/-- the tables of all defs that the text q writes -/
def AllTab (q : Program) (K : PySem.W.Frag) (gl : Str → Option Value) (h : Heap) : Prop := ∀ (x : Str) (fa : Addr), ((recsOf q).any fun e => e.name == x) = true → gl x = some (.ref fa) → OwnTab2 K fa h
theorem walk_ofGA {l : PySem.W.OpenLaw} {n lev : Nat} {q : Program} {loose : List Str} {XP : (Str → Option Value) → Heap → Prop} {YP : World → Heap → Prop} {d : DefRec} {Kf : Params → PySem.W.Frag} {XX : World → CXT} {nm : Str}
    (hn : l.most = some n) (hn2 : n ≤ sizeLine) (hdf : d.params.defaults = []) (rm : Room lev callerA) (hY : ∀ (w : World) (h : Heap), YP w h → (Kf w.params).In h)
    (F : ∀ (w : World) (gl : Str → Option Value) (at' : Addr) (h : Heap), YP w h → (Kf w.params).In h → h.Ns mainGlobals gl → gl d.name = some (.ref at') → AllTab q (Kf w.params) gl h → LawAtG l w (Kf w.params) (XX w) lev n nm gl at' h)
    (noX : ∀ (w : World) (H : Hp) (s : Shared) (e : Value) (s' : Shared), XX w [] H s (fun _ _ _ => False) e s' → False) :
    PySem.W.WalkO q loose XP YP l.row.toRowW d [] (fun f vs => PySem.call f vs) := by
  refine Att.attach_callB hn hdf fun w s₀ s₁ mg mb fa o pm cd doc a vs ns G Y ho hd hcd hmg hobj hints hlen hbits hg => ?_
  have KX := hY w _ Y
  have own : AllTab q (Kf w.params) mg s₁.heap := fun x fx hrec gx c P o1 fd1 e dd vs1 sl k1 k2 k3 k4 k5 => by
    obtain ⟨dL, inR, same⟩ := List.any_eq_true.mp hrec
    obtain ⟨a', o', fd', c', P', h1, h2, h3, h4, h5, h6⟩ := G.T.tab dL inR
    rw [beq_iff_eq.mp same, gx] at h1
    obtain rfl := Value.ref.inj (Option.some.inj h1)
    obtain rfl := Option.some.inj ((KX _ _ k1).symm.trans h2)
    obtain rfl := Data.func.inj (k2.symm.trans h3)
    obtain rfl := Value.ref.inj (k3.symm.trans h4)
    have h6' := h6
    obtain ⟨⟨oc, vc, e1, _, e3, e4⟩, hP⟩ := h6'
    obtain rfl := Option.some.inj ((KX _ _ k4).symm.trans e1)
    obtain rfl := Data.fields.inj e3
    obtain rfl := Value.ref.inj (Option.some.inj (k5.symm.trans e4))
    exact ⟨PySem.W.CodeHd.of h5 h6, hP⟩
  obtain ⟨fdat, tabs, prom, tT, nT, cT, bnd, said, F1⟩ := F w mg fa _ Y KX G.T.g hmg own
  obtain ⟨H, W, hok⟩ := ahead_any (Pg := l.prog) (wd := w) (ns := ns) KX tT hobj hints (Nat.le_trans hlen hn2)
  exact ahead_go KX G.T.g G.T.b G.T.builtins G.T.nolimit hg tT nT cT G.T.bmain hobj rm W hok F1 bnd (said H a ns hlen hbits W.tab W.seq) fun e s' => noX w H s₁ e s'
end L2
namespace L3
open PySem PySem.Spec PyProof.Rows L2 LamX
/-- all but the tables -/
def noT (H : Hp) : Hp := fun b => match H b with
  | some (.tbl _) => none
  | o => o
theorem noT_some {H : Hp} {b : Addr} {o : HO} (h : noT H b = some o) : H b = some o ∧ ∀ ps, o ≠ .tbl ps := by
  unfold noT at h
  split at h
  · cases h
  · rename_i n
    exact ⟨h, fun ps e => n ps (e ▸ h)⟩
theorem noT_of {H : Hp} {b : Addr} {o : HO} (h : H b = some o) (n : ∀ ps, o ≠ .tbl ps) : noT H b = some o := by
  unfold noT
  rw [h]
  cases o <;> first | rfl | exact absurd rfl (n _)
def spLaw3 (K : PySem.W.Frag) (T : List (Addr × Str)) : Sp := fun vs H Q _ => ∃ (a : Addr) (ns : List Int), vs = [.ref a] ∧ SqL K H a (ns.map V.int) ∧ ns.length ≤ 63 ∧ Tabs T H ∧ ∀ H', Q (.bl true) H'
section
variable {P : Program} {w : World} {K : PySem.W.Frag} {mg : Str → Option Value} {base : Heap} {lev : Nat} {T : List (Addr × Str)} {nm : Str} {st : Stmt}
theorem law_ok {N : List Str} {f : Addr} {fd : FuncData} {ts : PTS} (F : Fun K nm nm st f fd) (sc : FnScope N ["script"] (defScope st)) (hN : 1 ≤ N.length)
    (m : ∀ ns : List Int, ns.length ≤ 63 → ∀ (Q : PV → Prop) (R : RS), Q (.bl true) → pdef N ts [.val (.scr (ns.map PV.int))] Q R)
    (body : ∀ (cv : Value) (A : Around) (outer : List PySem.Env) (s : Shared) (H : Hp) (E : XK), A.guards = some [] → Room lev (A.deeper (envOfC nm (defScope st) s.heap.objs.size f cv)) →
      PPSs (cxOf (L2.CX P w) P w K mg base N nm (defScope st) f cv A outer s H E) ⟨fun cls d _ H => E cls d H, T, true⟩ (defBody st) ts) :
    FnG P w K mg base (L2.CX P w) (lev + 1) f fd ["script"] (spLaw3 K T) := by
  obtain ⟨_, _, _, _, _, _, cv, _, _, rfl, look, hcd⟩ := F.ex
  refine fnG_of look hcd sc (fun vs H Q E ⟨_, _, h, _⟩ => by rw [h]; rfl) fun ar fr s H vs Q E hg hr hsp => ⟨_, body cv ar fr s H E hg hr, ?_⟩
  obtain ⟨a, ns, rfl, sq, hl, tb, k⟩ := hsp
  have sq' : SqL K (noT H) a (ns.map V.int) := by
    rcases sq with (h | ⟨o, h⟩) | h
    · exact .inl (.inl (noT_of h fun ps e => nomatch e))
    · exact .inl (.inr ⟨o, noT_of h fun ps e => nomatch e⟩)
    · exact .inr h
  have wd : Wd (Ct.at (noT H) H none T) none (noT H) H := ⟨fun b o e => (noT_some e).1, fun b ps e => (noT_some e).2 ps rfl, fun b o e _ _ => e, (fun p q e => nomatch e), .inl rfl, fun b o e => .inl e, tb, (fun p hp => absurd hp List.not_mem_nil), (fun p hp => absurd hp List.not_mem_nil), List.nodup_nil⟩
  have pr : Paired (SAr K mg none (noT H)) [.ref a] [.val (.scr (ns.map PV.int))] := .cons (show Rp K mg (noT H) (.ref a) (.scr (ns.map PV.int)) from .scr sq' (rpAll_int ns)) .nil
  have q := m ns hl (fun d => d = .bl true) noR rfl
  refine ⟨Ct.at (noT H) H none T, noT H, _, _, noR, paired_start (N := N) wd pr (by simpa using hN), q, fun fl qf => ?_, rfl, fun _ => rfl, fun nm d rd => rd.elim⟩
  have ret : ∀ d, d = PV.bl true → ∀ (v : V) (H' F' : Hp), Rp K mg F' v d → Q v H' := fun d e v H' F' r => by
    subst e
    cases r
    exact k H'
  cases fl with
  | nx ρ' => exact nomatch (show PV.non = .bl true from qf)
  | bk ρ' => exact qf.elim
  | ct ρ' => exact qf.elim
  | rt d => exact fun v H' F' w' s' r' => ret d qf v H' F' r'
end
theorem noX_CX {P : Program} {w : World} {H : Hp} {s : Shared} {e : Value} {s' : Shared} (h : L2.CX P w [] H s (fun _ _ _ => False) e s') : False := by
  obtain ⟨a, B, H', cls, d, _, _, _, _, _, _, _, hE⟩ := h
  exact hE
/-- a def of the text, found -/
theorem ff_mk {K : PySem.W.Frag} {mg : Str → Option Value} {nm : Str} {st : Stmt} {f : Addr} {fd : FuncData} (F : Fun K nm nm st f fd) (e : mg nm = some (.ref f)) : FF K mg nm st := ⟨f, fd, F, e⟩
/-- a def whose promise is never asked -/
theorem up_zero {P : Program} {w : World} {K : PySem.W.Frag} {mg : Str → Option Value} {base : Heap} {T : List (Addr × Str)} {lev : Nat} {nm : Str} {ps : List Str} {st : Stmt} (A : FF K mg nm st)
    (hb : ∀ (kV doc pm : Value) (an : Option Addr) (cdv ct : Value) (us : List Value), us.length = ps.length → bindArgs (PySem.W.fnOf nm nm (defArgs st) (defBody st) (defScope st) .none kV doc pm an cdv ct) ⟨us, []⟩ = pure (ps.zip us)) :
    UP P w K mg base T lev nm ps st (fun _ => failM) := by
  obtain ⟨f, fd, F, g⟩ := A
  exact ⟨f, fd, ⟨fun vs H Q E ⟨_, _, _, _, _, _, h, _⟩ => h, fun ar fr s H given us vs Q E _ _ _ _ _ ⟨_, _, _, _, _, _, _, _, q, _⟩ => q.elim⟩, F, g, F.binds hb⟩
end L3
namespace Q15
open PySem PySem.Spec PyProof.Rows L2 LamX L3
abbrev topN (i : Nat) : Stmt := PySem.Challenge.pw_mixlabels_k15_cases_and_their_blends.main.body.getD i (.Pass ⟨0, 0, 0, 0⟩)
abbrev s_power_modulo : Stmt := topN 1
abbrev s_inverse : Stmt := topN 2
abbrev s_is_integer : Stmt := topN 4
abbrev s_is_number : Stmt := topN 5
abbrev s_is_below : Stmt := topN 6
abbrev s_is_tuple : Stmt := topN 7
abbrev s_are_below : Stmt := topN 8
abbrev s_is_ascending : Stmt := topN 9
abbrev s_tuples_of : Stmt := topN 10
abbrev s_tuples_below : Stmt := topN 11
abbrev s_subsets : Stmt := topN 12
abbrev s_contained : Stmt := topN 14
abbrev s_remainders : Stmt := topN 15
abbrev s_is_case : Stmt := topN 17
abbrev s_all_cases : Stmt := topN 18
abbrev s_all_sets : Stmt := topN 19
abbrev s_rest_rows : Stmt := topN 20
abbrev s_case_of : Stmt := topN 21
abbrev s_blend_cases : Stmt := topN 22
abbrev s__law_draw : Stmt := topN 24
abbrev s__law_any : Stmt := topN 25
abbrev s__law_of : Stmt := topN 26
abbrev s__law_power : Stmt := topN 27
abbrev s__law_gcd : Stmt := topN 28
abbrev s__law_modulus : Stmt := topN 29
abbrev s__law_lowest : Stmt := topN 30
abbrev s__law_split : Stmt := topN 31
abbrev s__law_some : Stmt := topN 32
abbrev s__law_mixture : Stmt := topN 33
abbrev s__law_rest : Stmt := topN 34
abbrev s__law_case : Stmt := topN 35
abbrev s__law_sets : Stmt := topN 36
abbrev s__law_cases : Stmt := topN 37
abbrev s__law_recipe : Stmt := topN 38
abbrev s__law_stray : Stmt := topN 39
abbrev s__law_spoil : Stmt := topN 40
abbrev s__law_is_case : Stmt := topN 41
abbrev s__law_blended : Stmt := topN 42
abbrev s__law_walked : Stmt := topN 43
abbrev s__law_sizes : Stmt := topN 44
abbrev s_law : Stmt := topN 45
end Q15
namespace Q15
open PySem PySem.Spec PyProof.Rows L2
section
variable {P : Program} {w : World} {K : PySem.W.Frag} {mg : Str → Option Value} {base : Heap}
theorem ok_any {f : Addr} {fd : FuncData} (F : Fun K "_law_any" "_law_any" s__law_any f fd) (zi : mg "int" = none) : FnOk P w K mg base CX0 1 f fd ["deal", "bound"] spAny := by
  have sc : FnScope ["deal", "bound", "rest"] ["deal", "bound"] (defScope s__law_any) := ⟨rfl, rfl, rfl, by decide +kernel, rfl, by decide +kernel, by decide +kernel⟩
  refine F.ok sc (fun vs H Q E ⟨_, _, _, _, _, e, _⟩ => by rw [e]; rfl) (fun cv A outer s H vs Q E hr ⟨p, q, cs, bl, bound, e, D, b1, b2, k⟩ => ?_)
  subst e
  have hu := hr.units
  refine ⟨_, pss_cons (ps_while PassesOwn.never (PW.pt (pw_and (pt_cmpR (op_neD hu) (pe_ix ix_list (pv 0) pe_int (fun _ _ => rfl)) (pe_lst pa_nil) (nomark _))
        (pw_and1 (pt_cmpR op_eq (pe_ix ix_list (pe_ix ix_list (pv 0) pe_int (fun _ _ => rfl)) (pe_un un_neg pe_int) (fun _ _ => rfl)) pe_int (nomark _)))))
      (pss_one (ps_expr (pe_bm0 PySem.F.plainAttrs_list PySem.F.slot_list_pop PySem.F.type_list_pop mt_pop (pe_ix ix_list (pv 0) pe_int (fun _ _ => rfl))))))
    (pss_cons (ps_if (pt_cmpR (op_neD hu) (pe_ix ix_list (pv 0) pe_int (fun _ _ => rfl)) (pe_lst pa_nil) (nomark _))
      (pss_cons (ps_set (i := 2) sc.nd rfl (Or.inl rfl) (pe_callTy call_int1 rfl zi (by decide +kernel) (pa_cons (pe_bm0 PySem.F.plainAttrs_list PySem.F.slot_list_pop PySem.F.type_list_pop mt_pop (pe_ix ix_list (pv 0) pe_int (fun _ _ => rfl))) pa_nil)))
      (pss_cons (ps_expr (pe_bm PySem.F.plainAttrs_list PySem.F.slot_list_append PySem.F.type_list_append mt_append (pe_ix ix_list (pv 0) pe_int (fun _ _ => rfl)) (pa_cons (pe_op op_fdiv (pv 2) (pv 1)) pa_nil)))
      (pss_one (ps_ret (pe_op op_mod (pv 2) (pv 1)))))) pss_nil)
    (pss_cons (ps_asg (pe_op op_mod (pe_callTy call_int1 rfl zi (by decide +kernel) (pa_cons (pe_op op_add (pe_op op_mul (pe_ix ix_list (pv 0) pe_int (fun _ _ => rfl)) pe_int) pe_int) pa_nil)) pe_int) (pg_sub (pv 0) pe_int set_list))
    (pss_one (ps_ret (pe_op op_mod (pe_callTy call_int1 rfl zi (by decide +kernel) (pa_cons (pe_op op_fdiv (pe_ix ix_list (pv 0) pe_int (fun _ _ => rfl)) pe_int) pa_nil)) (pv 1)))))), ?_⟩
  -- the zeros ahead are thrown away
  refine ⟨fun m σ H' => ∃ (cs' : List Int) (v : Option V), m = cs'.length ∧ σ = [some (.ref p), some (.int bound), v] ∧ Deal H' p q cs' bl ∧ Keep p q H H', ⟨_, cs, none, rfl, rfl, D, Keep.refl H⟩, ?_⟩
  rintro m σ H1 ⟨cs1, v, rfl, rfl, D1, k1⟩
  refine ⟨_, rfl, p, _, 0, _, rfl, rfl, SqL.of D1.hp, rfl, ?_⟩
  refine ⟨by show 0 ≤ sizeLine; exact Nat.zero_le _, fun l nl => ?_⟩
  have sl := same_new (o := .lst []) nl
  refine ne_nil_reads (sl _ _ D1.hq) upd_same ⟨_, rfl, ?_⟩
  have D2 := D1.same sl
  have k2 : Keep p q H (upd H1 l (.lst [])) := k1.trans (Keep.of sl)
  generalize upd H1 l (.lst []) = H2 at D2 k2 ⊢
  -- behind the loop
  rcases snoc_cases cs1 with rfl | ⟨ini, z, rfl⟩
  · refine iteF ?_
    refine iteF ?_
    refine ⟨_, rfl, p, _, 0, _, rfl, rfl, SqL.of D2.hp, rfl, ?_⟩
    refine ⟨by show 0 ≤ sizeLine; exact Nat.zero_le _, fun l2 nl2 => ?_⟩
    have sl2 := same_new (o := .lst []) nl2
    refine ne_nil_reads (sl2 _ _ D2.hq) upd_same ⟨_, rfl, ?_⟩
    have D3 := D2.same sl2
    have k3 : Keep p q H (upd H2 l2 (.lst [])) := k2.trans (Keep.of sl2)
    generalize upd H2 l2 (.lst []) = H3 at D3 k3 ⊢
    refine iteF ?_
    have b0 := D3.b0
    have b3 := D3.b1
    refine ⟨_, rfl, p, _, 1, _, rfl, rfl, SqL.of D3.hp, rfl, _, _, rfl, rfl, .inl ⟨by omega, by omega⟩, _, _, rfl, rfl, .inl ⟨_, rfl, _, _, rfl, rfl, (by show (0 : Int) < 2147483647; decide), _, rfl, p, _, 1, 1, rfl, rfl, D3.hp, rfl, ?_⟩⟩
    have m1 := Int.emod_nonneg (bl * 40693 + 71) (show (2147483647 : Int) ≠ 0 by decide)
    have m2 := Int.emod_lt_of_pos (bl * 40693 + 71) (show (0 : Int) < 2147483647 by decide)
    refine ⟨_, rfl, p, [.ref q, .int ((bl * 40693 + 71) % 2147483647)], 1, _, rfl, rfl, SqL.of upd_same, rfl, _, _, rfl, rfl, ⟨by decide, by decide⟩, .inl ⟨_, rfl, _, rfl, _, _, rfl, rfl, (by show (0 : Int) < bound; omega), ?_⟩⟩
    exact k _ _ [] ((bl * 40693 + 71) % 2147483647) (Int.emod_nonneg _ (by omega)) (Int.emod_lt_of_pos _ (by omega)) ⟨upd_same, by rw [upd_ne D3.ne.symm]; exact D3.hq, fun c hc => by simp at hc, m1, m2, by simp⟩ (k3.trans keep_p)
  · have ne : (!(ini ++ [z]).isEmpty) = true := by cases ini <;> rfl
    rw [ne]
    refine iteT ?_
    refine ⟨_, rfl, p, _, 0, _, rfl, rfl, SqL.of D2.hp, rfl, _, rfl, q, _, -1, .int z, rfl, rfl, SqL.of D2.hq, atI_snoc, rfl, _, rfl, ?_⟩
    refine ite2 (fun c => ?_) (fun c => ?_)
    · refine ⟨fun σ' H' => ∃ (cs' : List Int) (v : Option V), cs'.length < (ini ++ [z]).length ∧ σ' = [some (.ref p), some (.int bound), v] ∧ Deal H' p q cs' bl ∧ Keep p q H H', fun σ' H' ⟨cs', v, hl, e, d, kk⟩ => ⟨_, hl, cs', v, rfl, e, d, kk⟩, ?_⟩
      refine ⟨_, rfl, p, _, 0, _, rfl, rfl, SqL.of D2.hp, rfl, .inl ⟨rfl, _, SqL.of D2.hq⟩, q, _, .int z, rfl, rfl, D2.hq, last_snoc, ?_⟩
      rw [drop_snoc]
      exact ⟨ini, v, by simp, rfl, D2.setq (fun c hc => D2.nn c (List.mem_append_left _ hc)) (by have := D2.ln; simp at this; omega), k2.trans keep_q⟩
    · skip
      refine ⟨_, rfl, p, _, 0, _, rfl, rfl, SqL.of D2.hp, rfl, ?_⟩
      refine ⟨by show 0 ≤ sizeLine; exact Nat.zero_le _, fun l2 nl2 => ?_⟩
      have sl2 := same_new (o := .lst []) nl2
      refine ne_nil_reads (sl2 _ _ D2.hq) upd_same ⟨_, rfl, ?_⟩
      have D3 := D2.same sl2
      have k3 : Keep p q H (upd H2 l2 (.lst [])) := k2.trans (Keep.of sl2)
      generalize upd H2 l2 (.lst []) = H3 at D3 k3 ⊢
      rw [ne]
      refine iteT ?_
      refine ⟨_, rfl, p, _, 0, _, rfl, rfl, SqL.of D3.hp, rfl, .inl ⟨rfl, _, SqL.of D3.hq⟩, q, _, .int z, rfl, rfl, D3.hq, last_snoc, .inl ⟨_, rfl, ?_⟩⟩
      rw [drop_snoc]
      have D4 : Deal (upd H3 q (.lst (ini.map V.int))) p q ini bl := D3.setq (fun c hc => D3.nn c (List.mem_append_left _ hc)) (by have := D3.ln; simp at this; omega)
      have k4 : Keep p q H (upd H3 q (.lst (ini.map V.int))) := k3.trans keep_q
      have hl := D3.ln
      have hz := D3.nn z (by simp)
      generalize upd H3 q (.lst (ini.map V.int)) = H4 at D4 k4 ⊢
      refine ⟨_, rfl, p, _, 0, _, rfl, rfl, SqL.of D4.hp, rfl, .inl ⟨rfl, _, SqL.of D4.hq⟩, _, rfl, _, rfl, _, _, rfl, rfl, ⟨by show (0 : Int) < bound; omega, b2⟩, q, _, _, rfl, rfl, D4.hq, small1000 (by rw [List.length_map]; simp at hl; omega), ?_⟩
      have e5 : ini.map V.int ++ [V.int (z / bound)] = (ini ++ [z / bound]).map V.int := by simp
      refine ⟨_, rfl, _, rfl, _, _, rfl, rfl, (by show (0 : Int) < bound; omega), ?_⟩
      refine k _ _ (ini ++ [z / bound]) bl (Int.emod_nonneg _ (by omega)) (Int.emod_lt_of_pos _ (by omega)) ?_ (k4.trans keep_q)
      dsimp only
      rw [e5]
      refine D4.setq (fun c hc => ?_) (by simp at hl ⊢; omega)
      rcases List.mem_append.mp hc with h | h
      · exact D4.nn c h
      · obtain rfl : c = z / bound := by simpa using h
        exact Int.ediv_nonneg hz (by omega)
theorem ok_draw {f : Addr} {fd : FuncData} (F : Fun K "_law_draw" "_law_draw" s__law_draw f fd) (za : mg "abs" = none) (zi : mg "int" = none) : FnOk P w K mg base CX0 1 f fd ["script", "salt"] (spDraw K) := by
  have sc : FnScope ["script", "salt", "cells", "blend", "cell"] ["script", "salt"] (defScope s__law_draw) := ⟨rfl, rfl, rfl, by decide +kernel, rfl, by decide +kernel, by decide +kernel⟩
  refine F.ok sc (fun vs H Q E ⟨_, _, _, e, _⟩ => by rw [e]; rfl) (fun cv A outer s H vs Q E hr ⟨a, salt, ns, e, hs, hn, s0, s1, k⟩ => ?_)
  subst e
  refine ⟨_, pss_cons (ps_setLc (i := 2) (own := [("cell", 4)]) rfl sc.nd rfl rfl rfl (pi_list (pe_slice sl_list (pv 0) po_none (po_some pe_int)))
      (blkOk_by (N := ["script", "salt", "cells", "blend", "cell"]) (sc := defScope s__law_draw) (by decide +kernel)) (fun _ _ _ _ _ => pg_name (i := 4) sc.nd rfl (Or.inl rfl)) (fun _ _ _ _ _ => pts_nil)
      (fun _ _ _ _ _ => pe_callB call_abs rfl za (by decide +kernel) (pa_cons (pe_callTy call_int1 rfl zi (by decide +kernel) (pa_cons (pv 4) pa_nil)) pa_nil)))
    (pss_cons (ps_set (i := 3) sc.nd rfl (Or.inl rfl) (pe_op op_add pe_int (pe_op op_mul pe_int (pv 1))))
    (pss_cons (ps_for PassesOwn.never rfl (pi_list (pv 2)) (pg_name (i := 4) sc.nd rfl (Or.inl rfl))
      (pss_one (ps_set (i := 3) sc.nd rfl (Or.inl rfl) (pe_op op_mod (pe_callTy call_int1 rfl zi (by decide +kernel) (pa_cons (pe_op op_add (pe_op op_add (pe_op op_mul (pv 3) pe_int) (pe_op op_mod (pv 4) pe_int)) pe_int) pa_nil)) pe_int))))
    (pss_one (ps_ret (pe_lst (pa_cons (pe_revL (pe_lc (own := [("cell", 4)]) rfl sc.nd (pi_list (pv 2)) (blkOk_by (N := ["script", "salt", "cells", "blend", "cell"]) (sc := defScope s__law_draw) (by decide +kernel))
      (fun _ _ _ _ _ => pg_name (i := 4) sc.nd rfl (Or.inl rfl)) (fun _ _ _ _ _ => pts_one (pt_cmpR op_ge (pv 4) (pe_op op_pow pe_int pe_int) (nomark _))) (fun _ _ _ _ _ => pv 4))) (pa_cons (pv 3) pa_nil))))))), ?_⟩
  obtain ⟨ms, em, hm⟩ := cut_ints ns none (some 48)
  have hms : ms.length ≤ 63 := by omega
  refine ⟨_, rfl, 48, rfl, a, _, rfl, hs, fun p np => ?_⟩
  rw [em]
  have S1 := same_new (o := .lst (ms.map V.int)) np
  have hp : upd H p (.lst (ms.map V.int)) p = some (.lst (ms.map V.int)) := upd_same
  generalize upd H p (.lst (ms.map V.int)) = H1 at S1 hp
  refine ⟨p, rfl, ⟨_, SqL.of hp⟩, fun D nD => ?_⟩
  refine lc_list (xs := ms.map V.int) (fun i H' => Same H1 H' ∧ H' D = some (.lst (((ms.take i).map absI).map V.int))) ⟨same_new nD, upd_same⟩ (fun i H' _ ⟨s2, _⟩ => SqL.of (s2 _ _ hp)) ?_ ?_
  · rintro i x H2 hx ⟨s2, hD⟩
    obtain ⟨n, en, rfl⟩ : ∃ n, ms[i]? = some n ∧ V.int n = x := by simpa using hx
    refine ⟨rfl, ?_⟩
    unfold tYes
    dsimp only
    refine iteT ?_
    refine ⟨_, rfl, .inl ⟨_, rfl, n, rfl, ?_⟩⟩
    rw [abs_nat]
    refine ⟨_, hD, small1000 (by simp; omega), ?_, ?_⟩
    · intro b o e
      rw [upd_ne (show b ≠ D from ne_of_none e nD)]
      exact s2 b o e
    · rw [upd_same, take_snoc en]
      simp [absI]
  · rintro H2 ⟨s2, hD⟩
    have hl : (ms.map V.int).length = ms.length := by simp
    rw [hl, List.take_length] at hD
    have as0 : ∀ x ∈ ms.map absI, (0 : Int) ≤ x := by
      intro x hx
      obtain ⟨y, _, rfl⟩ := List.mem_map.mp hx
      unfold absI
      omega
    have asl : (ms.map absI).length ≤ 63 := by simpa using hms
    have S2 := Same.trans S1 s2
    clear hs hp s2 hl hm em
    have nD : H D = none := by
      cases h : H D with
      | none => rfl
      | some o => exact absurd (S1 _ _ h) (by rw [nD]; simp)
    generalize ms.map absI = as at hD as0 asl
    refine ⟨_, rfl, _, _, rfl, rfl, .inr ⟨by omega, by omega⟩, _, _, rfl, rfl, ?_⟩
    refine ⟨_, rfl, D, rfl, ⟨_, SqL.of hD⟩, ?_⟩
    refine for_list (fun i σ H' => ∃ (bl : Int) (v : Option V), σ = [some (.ref a), some (.int salt), some (.ref D), some (.int bl), v] ∧ 0 ≤ bl ∧ bl < 2147483647 ∧ H' = H2) ⟨7919 + 104729 * salt, none, rfl, by omega, by omega, rfl⟩ (fun i σ H' _ ⟨_, _, _, _, _, e⟩ => by rw [e]; exact SqL.of hD) ?_ ?_
    · rintro i x σ H' hx ⟨bl, v, rfl, b0, b1, rfl⟩
      obtain ⟨n, en, rfl⟩ : ∃ n, as[i]? = some n ∧ V.int n = x := by simpa using hx
      refine ⟨_, rfl, _, _, rfl, rfl, .inl ⟨by omega, by omega⟩, _, rfl, _, _, rfl, rfl, (by show (0 : Int) < 2147483549; decide), _, _, rfl, rfl, _, _, rfl, rfl, .inl ⟨_, rfl, _, _, rfl, rfl, (by show (0 : Int) < 2147483647; decide), ?_⟩⟩
      exact ⟨_, _, rfl, Int.emod_nonneg _ (by decide), Int.emod_lt_of_pos _ (by decide), rfl⟩
    · rintro σ H' ⟨bl, v, rfl, b0, b1, rfl⟩
      refine ⟨_, rfl, D, rfl, ⟨_, SqL.of hD⟩, fun L nL => ?_⟩
      refine lc_list (xs := as.map V.int) (fun i H3 => Same H' H3 ∧ ∃ cs : List Int, H3 L = some (.lst (cs.map V.int)) ∧ cs.length ≤ i ∧ ∀ c ∈ cs, 0 ≤ c) ⟨same_new nL, [], upd_same, by simp, by simp⟩ (fun i H3 _ ⟨s2, _⟩ => SqL.of (s2 _ _ hD)) ?_ ?_
      · rintro i x H3 hx ⟨s2, cs, hL, hc, c0⟩
        have hx' := hx
        obtain ⟨n, en, rfl⟩ : ∃ n, as[i]? = some n ∧ V.int n = x := by simpa using hx'
        have n0 : 0 ≤ n := as0 n (List.mem_of_getElem? en)
        have hi : i < as.length := (List.getElem?_eq_some_iff.mp en).1
        refine ⟨rfl, _, rfl, _, _, rfl, rfl, ⟨by decide, by decide, by decide⟩, _, _, rfl, rfl, _, rfl, ?_⟩
        refine ite2 (fun c => ?_) (fun c => ?_)
        · refine ⟨_, rfl, _, hL, small1000 (by simp; omega), ?_, cs ++ [n], ?_, by simp; omega, fun c hc => ?_⟩
          · intro b o e
            rw [upd_ne (show b ≠ L from ne_of_none e nL)]
            exact s2 b o e
          · rw [upd_same]
            simp
          · rcases List.mem_append.mp hc with h | h
            · exact c0 c h
            · obtain rfl : c = n := by simpa using h
              exact n0
        · exact ⟨s2, cs, hL, by omega, c0⟩
      · rintro H3 ⟨s2, cs, hL, hc, c0⟩
        refine ⟨L, _, rfl, SqL.of hL, fun q nq => ?_⟩
        refine ⟨_, rfl, by show 2 ≤ sizeLine; decide, fun pp npp => ?_⟩
        have S3 := Same.trans S2 s2
        have S4 := Same.trans S3 (same_new (o := .lst (cs.map V.int).reverse) nq)
        have S5 := Same.trans S4 (same_new (o := .lst [.ref q, .int bl]) npp)
        have none_of : ∀ {A B : Hp} {b : Addr}, Same A B → B b = none → A b = none := fun {A B b} s h => by
          cases e : A b with
          | none => rfl
          | some o => rw [s _ _ e] at h; cases h
        have hne : q ≠ pp := fun e => by rw [← e, upd_same] at npp; cases npp
        refine k pp q cs.reverse bl _ S5 (none_of S4 npp) (none_of S3 nq) ⟨upd_same, ?_, fun c hc => c0 c (by simpa using hc), b0, b1, ?_⟩
        · rw [upd_ne hne, upd_same, List.map_reverse]
        · simp at hc ⊢
          omega
end
end Q15
namespace Q15
open PySem PySem.Spec PyProof.Rows L2 LamX L3
section
variable {P : Program} {w : World} {K : PySem.W.Frag} {mg : Str → Option Value} {base : Heap} {T : List (Addr × Str)}
theorem o_power_modulo (A : FF K mg "power_modulo" s_power_modulo) : UP P w K mg base T (1 + 1) "power_modulo" ["base", "exponent", "modulus"] s_power_modulo p_power_modulo := by
  have sc : FnScope ["base", "exponent", "modulus", "found", "square", "left"] ["base", "exponent", "modulus"] (defScope s_power_modulo) := ⟨rfl, rfl, rfl, by decide +kernel, rfl, by decide +kernel, by decide +kernel⟩
  refine up_of (N := ["base", "exponent", "modulus", "found", "square", "left"]) (ts := b_power_modulo) A sc (by decide) (fun _ _ _ _ _ _ us hl => match us, hl with | [_, _, _], _ => rfl) fun f cv A outer s H E hg hr => ?_
  have tk : Takes (cxOf (L2.CX P w) P w K mg base ["base", "exponent", "modulus", "found", "square", "left"] "power_modulo" (defScope s_power_modulo) f cv A outer s H E) (fun cls d _ H => E cls d H) := takes_of rfl rfl rfl rfl
  exact (L3.pss_cons (pps_set (i := 3) sc.nd rfl (by first | exact Or.inl rfl | exact Or.inr rfl) (PPE.x (pp_op op_mod modS (PPE.r pp_int) (pr_var (pv 2)))))
 (L3.pss_cons (pps_set (i := 4) sc.nd rfl (by first | exact Or.inl rfl | exact Or.inr rfl) (PPE.x (pp_var (pv 0))))
 (L3.pss_cons (pps_set (i := 5) sc.nd rfl (by first | exact Or.inl rfl | exact Or.inr rfl) (PPE.x (pp_var (pv 1))))
 (L3.pss_cons (pps_while (passes_of rfl) (pt_cmp op_gt cmpS (pr_var (pv 5)) (PPE.r pp_int) (nomark _))
 (L3.pss_cons (pps_if (pt_tr (PPE.r (pp_op op_and bitS (pr_var (pv 5)) (PPE.r pp_int))))
 (L3.pss_one (pps_set (i := 3) sc.nd rfl (by first | exact Or.inl rfl | exact Or.inr rfl) (PPE.x (pp_op op_mod modS (PPE.r (pp_op opMul mulS (pr_var (pv 3)) (pr_var (pv 4)))) (pr_var (pv 2))))))
 L3.pss_nil)
 (L3.pss_cons (pps_set (i := 4) sc.nd rfl (by first | exact Or.inl rfl | exact Or.inr rfl) (PPE.x (pp_op op_mod modS (PPE.r (pp_op opMul mulS (pr_var (pv 4)) (pr_var (pv 4)))) (pr_var (pv 2)))))
 (L3.pss_one (pps_set (i := 5) sc.nd rfl (by first | exact Or.inl rfl | exact Or.inr rfl) (PPE.x (pp_op op_shr shrS (pr_var (pv 5)) (PPE.r pp_int))))))))
 (L3.pss_one (pps_ret (pp_var (pv 3))))))))
theorem o_inverse (A : FF K mg "inverse" s_inverse) : UP P w K mg base T (1 + 1) "inverse" ["number", "modulus"] s_inverse p_inverse := by
  have sc : FnScope ["number", "modulus", "one", "other", "high", "low", "many"] ["number", "modulus"] (defScope s_inverse) := ⟨rfl, rfl, rfl, by decide +kernel, rfl, by decide +kernel, by decide +kernel⟩
  refine up_of (N := ["number", "modulus", "one", "other", "high", "low", "many"]) (ts := b_inverse) A sc (by decide) (fun _ _ _ _ _ _ us hl => match us, hl with | [_, _], _ => rfl) fun f cv A outer s H E hg hr => ?_
  have tk : Takes (cxOf (L2.CX P w) P w K mg base ["number", "modulus", "one", "other", "high", "low", "many"] "inverse" (defScope s_inverse) f cv A outer s H E) (fun cls d _ H => E cls d H) := takes_of rfl rfl rfl rfl
  exact (L3.pss_cons (pps_parN (is := [2, 3]) rfl (by decide) (pgs_cons (pg_name (i := 2) sc.nd rfl (by first | exact Or.inl rfl | exact Or.inr rfl)) (pgs_cons (pg_name (i := 3) sc.nd rfl (by first | exact Or.inl rfl | exact Or.inr rfl)) pgs_nil)) (pks_val pp_int (pks_val pp_int pks_nil)) rfl)
 (L3.pss_cons (pps_par (i := 4) (j := 5) rfl sc.nd rfl rfl (by decide) rfl rfl (pks_val (pp_op op_mod modS (pr_var (pv 0)) (pr_var (pv 1))) (pks_val (pp_var (pv 1)) pks_nil)) (by rfl))
 (L3.pss_cons (pps_while (passes_of rfl) (pt_cmp op_gt cmpS (pr_var (pv 5)) (PPE.r pp_int) (nomark _))
 (L3.pss_cons (pps_set (i := 6) sc.nd rfl (by first | exact Or.inl rfl | exact Or.inr rfl) (PPE.x (pp_op op_fdivA divS (pr_var (pv 4)) (pr_var (pv 5)))))
 (L3.pss_cons (pps_par (i := 4) (j := 5) rfl sc.nd rfl rfl (by decide) rfl rfl (pks_val (pp_var (pv 5)) (pks_val (pp_op op_sub subS (pr_var (pv 4)) (PPE.r (pp_op opMul mulS (pr_var (pv 6)) (pr_var (pv 5))))) pks_nil)) (by rfl))
 (L3.pss_one (pps_par (i := 2) (j := 3) rfl sc.nd rfl rfl (by decide) rfl rfl (pks_val (pp_var (pv 3)) (pks_val (pp_op op_sub subS (pr_var (pv 2)) (PPE.r (pp_op opMul mulS (pr_var (pv 6)) (pr_var (pv 3))))) pks_nil)) (by rfl))))))
 (L3.pss_one (pps_ret (pp_op op_mod modS (pr_var (pv 2)) (pr_var (pv 1))))))))
theorem o_is_integer (A : FF K mg "is_integer" s_is_integer) (z_bool : mg "bool" = none) (z_int : mg "int" = none) (z_isinstance : mg "isinstance" = none) : UP P w K mg base T (1 + 1) "is_integer" ["value"] s_is_integer p_is_integer := by
  have sc : FnScope ["value"] ["value"] (defScope s_is_integer) := ⟨rfl, rfl, rfl, by decide +kernel, rfl, by decide +kernel, by decide +kernel⟩
  refine up_of (N := ["value"]) (ts := b_is_integer) A sc (by decide) (fun _ _ _ _ _ _ us hl => match us, hl with | [_], _ => rfl) fun f cv A outer s H E hg hr => ?_
  have tk : Takes (cxOf (L2.CX P w) P w K mg base ["value"] "is_integer" (defScope s_is_integer) f cv A outer s H E) (fun cls d _ H => E cls d H) := takes_of rfl rfl rfl rfl
  exact (L3.pss_one (pps_ret (pp_and (pp_isi (T := "int") (by decide) (pr_var (pv 0)) rfl z_isinstance rfl z_int (by decide +kernel) (by decide) (by decide)) (pp_one (pp_not (pp_isi (T := "bool") (by decide) (pr_var (pv 0)) rfl z_isinstance rfl z_bool (by decide +kernel) (by decide) (by decide)))))))
theorem o_is_number (A : FF K mg "is_number" s_is_number) (U_is_integer : UP P w K mg base T 2 "is_integer" ["value"] s_is_integer p_is_integer) : UP P w K mg base T (2 + 1) "is_number" ["value"] s_is_number p_is_number := by
  have sc : FnScope ["value"] ["value"] (defScope s_is_number) := ⟨rfl, rfl, rfl, by decide +kernel, rfl, by decide +kernel, by decide +kernel⟩
  refine up_of (N := ["value"]) (ts := b_is_number) A sc (by decide) (fun _ _ _ _ _ _ us hl => match us, hl with | [_], _ => rfl) fun f cv A outer s H E hg hr => ?_
  have tk : Takes (cxOf (L2.CX P w) P w K mg base ["value"] "is_number" (defScope s_is_number) f cv A outer s H E) (fun cls d _ H => E cls d H) := takes_of rfl rfl rfl rfl
  exact (L3.pss_one (pps_ret (pp_and (pp_u U_is_integer tk hg (hr.mono (by decide)) rfl (psa_val (pp_var (pv 0)) psa_nil)) (pp_one (pp_cmp op_ge cmpS (pr_var (pv 0)) (PPE.r pp_int) (nomark _))))))
theorem o_is_below (A : FF K mg "is_below" s_is_below) (U_is_number : UP P w K mg base T 3 "is_number" ["value"] s_is_number p_is_number) : UP P w K mg base T (3 + 1) "is_below" ["value", "limit"] s_is_below p_is_below := by
  have sc : FnScope ["value", "limit"] ["value", "limit"] (defScope s_is_below) := ⟨rfl, rfl, rfl, by decide +kernel, rfl, by decide +kernel, by decide +kernel⟩
  refine up_of (N := ["value", "limit"]) (ts := b_is_below) A sc (by decide) (fun _ _ _ _ _ _ us hl => match us, hl with | [_, _], _ => rfl) fun f cv A outer s H E hg hr => ?_
  have tk : Takes (cxOf (L2.CX P w) P w K mg base ["value", "limit"] "is_below" (defScope s_is_below) f cv A outer s H E) (fun cls d _ H => E cls d H) := takes_of rfl rfl rfl rfl
  exact (L3.pss_one (pps_ret (pp_and (pp_u U_is_number tk hg (hr.mono (by decide)) rfl (psa_val (pp_var (pv 0)) psa_nil)) (pp_one (pp_cmp op_lt cmpS (pr_var (pv 0)) (pr_var (pv 1)) (nomark _))))))
theorem o_is_tuple (A : FF K mg "is_tuple" s_is_tuple) (z_isinstance : mg "isinstance" = none) (z_len : mg "len" = none) (z_tuple : mg "tuple" = none) : UP P w K mg base T (1 + 1) "is_tuple" ["value", "length"] s_is_tuple p_is_tuple := by
  have sc : FnScope ["value", "length"] ["value", "length"] (defScope s_is_tuple) := ⟨rfl, rfl, rfl, by decide +kernel, rfl, by decide +kernel, by decide +kernel⟩
  refine up_of (N := ["value", "length"]) (ts := b_is_tuple) A sc (by decide) (fun _ _ _ _ _ _ us hl => match us, hl with | [_, _], _ => rfl) fun f cv A outer s H E hg hr => ?_
  have tk : Takes (cxOf (L2.CX P w) P w K mg base ["value", "length"] "is_tuple" (defScope s_is_tuple) f cv A outer s H E) (fun cls d _ H => E cls d H) := takes_of rfl rfl rfl rfl
  exact (L3.pss_one (pps_ret (pp_and (pp_isi (T := "tuple") (by decide) (pr_var (pv 0)) rfl z_isinstance rfl z_tuple (by decide +kernel) (by decide) (by decide)) (pp_one (pp_cmp (op_eqD hr.u64) eqS (PPE.r (pp_callB call_len lenS rfl z_len PySem.boot_len (par_cons (pr_var (pv 0)) par_nil))) (pr_var (pv 1)) (nomark _))))))
theorem o_are_below (A : FF K mg "are_below" s_are_below) (U_is_below : UP P w K mg base T 4 "is_below" ["value", "limit"] s_is_below p_is_below) (z_all : mg "all" = none) : UP P w K mg base T (4 + 1) "are_below" ["values", "limit"] s_are_below p_are_below := by
  have sc : FnScope ["values", "limit", "value"] ["values", "limit"] (defScope s_are_below) := ⟨rfl, rfl, rfl, by decide +kernel, rfl, by decide +kernel, by decide +kernel⟩
  refine up_of (N := ["values", "limit", "value"]) (ts := b_are_below) A sc (by decide) (fun _ _ _ _ _ _ us hl => match us, hl with | [_, _], _ => rfl) fun f cv A outer s H E hg hr => ?_
  have tk : Takes (cxOf (L2.CX P w) P w K mg base ["values", "limit", "value"] "are_below" (defScope s_are_below) f cv A outer s H E) (fun cls d _ H => E cls d H) := takes_of rfl rfl rfl rfl
  exact (L3.pss_one (pps_ret (pp_callB (cr_all rfl) allS rfl z_all (by decide +kernel) (par_cons (PPE.r (PF.pp (pf_lc (own := [("value", 2)]) rfl sc.nd (pir_seq (pr_var (pv 0))) (blkOk_by (N := ["values", "limit", "value"]) (sc := defScope s_are_below) (by decide +kernel)) (fun _ _ _ _ _ => (g_nm 2 sc.nd)) (fun _ _ _ _ _ => ppts_nil) (fun _ _ _ _ _ => (pp_u U_is_below LamX.takes0 hg (hr.mono (by decide)) rfl (psa_val (pp_var (pv 2)) (psa_val (pp_var (pv 1)) psa_nil)))) (by decide)))) par_nil))))
theorem o_is_ascending (A : FF K mg "is_ascending" s_is_ascending) (z_all : mg "all" = none) (z_len : mg "len" = none) (z_range : mg "range" = none) : UP P w K mg base T (1 + 1) "is_ascending" ["values"] s_is_ascending p_is_ascending := by
  have sc : FnScope ["values", "at"] ["values"] (defScope s_is_ascending) := ⟨rfl, rfl, rfl, by decide +kernel, rfl, by decide +kernel, by decide +kernel⟩
  refine up_of (N := ["values", "at"]) (ts := b_is_ascending) A sc (by decide) (fun _ _ _ _ _ _ us hl => match us, hl with | [_], _ => rfl) fun f cv A outer s H E hg hr => ?_
  have tk : Takes (cxOf (L2.CX P w) P w K mg base ["values", "at"] "is_ascending" (defScope s_is_ascending) f cv A outer s H E) (fun cls d _ H => E cls d H) := takes_of rfl rfl rfl rfl
  exact (L3.pss_one (pps_ret (pp_callB (cr_all rfl) allS rfl z_all (by decide +kernel) (par_cons (PPE.r (PF.pp (pf_lc (own := [("at", 1)]) rfl sc.nd (PPI.r (ppi_range1 rfl z_range (par_cons (PPE.r (pp_op op_sub subS (PPE.r (pp_callB call_len lenS rfl z_len PySem.boot_len (par_cons (pr_var (pv 0)) par_nil))) (PPE.r pp_int))) par_nil))) (blkOk_by (N := ["values", "at"]) (sc := defScope s_is_ascending) (by decide +kernel)) (fun _ _ _ _ _ => (g_nm 1 sc.nd)) (fun _ _ _ _ _ => ppts_nil) (fun _ _ _ _ _ => (pp_cmp op_lt cmpS (PPE.r (pp_ix (pr_var (pv 0)) (pr_var (pv 1)))) (PPE.r (pp_ix (pr_var (pv 0)) (PPE.r (pp_op opAdd addS (pr_var (pv 1)) (PPE.r pp_int))))) (nomark _))) (by decide)))) par_nil))))
theorem o_tuples_of (A : FF K mg "tuples_of" s_tuples_of) (z_range : mg "range" = none) : UP P w K mg base T (1 + 1) "tuples_of" ["things", "length"] s_tuples_of p_tuples_of := by
  have sc : FnScope ["things", "length", "found", "_", "row", "thing"] ["things", "length"] (defScope s_tuples_of) := ⟨rfl, rfl, rfl, by decide +kernel, rfl, by decide +kernel, by decide +kernel⟩
  refine up_of (N := ["things", "length", "found", "_", "row", "thing"]) (ts := b_tuples_of) A sc (by decide) (fun _ _ _ _ _ _ us hl => match us, hl with | [_, _], _ => rfl) fun f cv A outer s H E hg hr => ?_
  have tk : Takes (cxOf (L2.CX P w) P w K mg base ["things", "length", "found", "_", "row", "thing"] "tuples_of" (defScope s_tuples_of) f cv A outer s H E) (fun cls d _ H => E cls d H) := takes_of rfl rfl rfl rfl
  exact (L3.pss_cons (pps_set (i := 2) sc.nd rfl (by first | exact Or.inl rfl | exact Or.inr rfl) (PPE.x (PF.pp (pf_lst (ppa_cons (pp_tup ppa_nil) ppa_nil)))))
 (L3.pss_cons (pps_for (passes_of rfl) rfl (ppi_range1 rfl z_range (par_cons (pr_var (pv 1)) par_nil)) (g_nm 3 sc.nd)
 (L3.pss_one (pps_setLc2V (i := 2) (own := [("row", 4), ("thing", 5)]) (V1 := [5]) rfl sc.nd rfl rfl (sw_true rfl rfl rfl (by decide +kernel)) (pir_seq (pr_var (pv 2))) (blkOk_by (N := ["things", "length", "found", "_", "row", "thing"]) (sc := defScope s_tuples_of) (by decide +kernel)) (by decide) (fun _ _ _ _ _ => (g_nm 4 sc.nd)) (fun _ _ _ _ _ => ppts_nil) (fun _ _ _ _ _ => (pir_seq (pr_var (pv 0)))) (fun _ _ _ _ _ => (g_nm 5 sc.nd)) (fun _ _ _ _ _ => ppts_nil) (fun _ _ _ _ _ => (pp_op opAdd addS (pr_var (pv 4)) (PPE.r (pp_tup (ppa_cons (pp_var (pv 5)) ppa_nil))))) (by decide) (by decide))))
 (L3.pss_one (pps_ret (pp_var (pv 2))))))
theorem o_tuples_below (A : FF K mg "tuples_below" s_tuples_below) (U_tuples_of : UP P w K mg base T 2 "tuples_of" ["things", "length"] s_tuples_of p_tuples_of) (z_list : mg "list" = none) (z_range : mg "range" = none) : UP P w K mg base T (2 + 1) "tuples_below" ["limit", "length"] s_tuples_below p_tuples_below := by
  have sc : FnScope ["limit", "length"] ["limit", "length"] (defScope s_tuples_below) := ⟨rfl, rfl, rfl, by decide +kernel, rfl, by decide +kernel, by decide +kernel⟩
  refine up_of (N := ["limit", "length"]) (ts := b_tuples_below) A sc (by decide) (fun _ _ _ _ _ _ us hl => match us, hl with | [_, _], _ => rfl) fun f cv A outer s H E hg hr => ?_
  have tk : Takes (cxOf (L2.CX P w) P w K mg base ["limit", "length"] "tuples_below" (defScope s_tuples_below) f cv A outer s H E) (fun cls d _ H => E cls d H) := takes_of rfl rfl rfl rfl
  exact (L3.pss_one (pps_ret (pp_u U_tuples_of tk hg (hr.mono (by decide)) rfl (psa_val (PF.pp (pf_listR1 rfl rfl z_list rfl z_range (pr_var (pv 0)))) (psa_val (pp_var (pv 1)) psa_nil)))))
theorem o_subsets (A : FF K mg "subsets" s_subsets) : UP P w K mg base T (1 + 1) "subsets" ["things"] s_subsets p_subsets := by
  have sc : FnScope ["things", "found", "thing", "some"] ["things"] (defScope s_subsets) := ⟨rfl, rfl, rfl, by decide +kernel, rfl, by decide +kernel, by decide +kernel⟩
  refine up_of (N := ["things", "found", "thing", "some"]) (ts := b_subsets) A sc (by decide) (fun _ _ _ _ _ _ us hl => match us, hl with | [_], _ => rfl) fun f cv A outer s H E hg hr => ?_
  have tk : Takes (cxOf (L2.CX P w) P w K mg base ["things", "found", "thing", "some"] "subsets" (defScope s_subsets) f cv A outer s H E) (fun cls d _ H => E cls d H) := takes_of rfl rfl rfl rfl
  exact (L3.pss_cons (pps_set (i := 1) sc.nd rfl (by first | exact Or.inl rfl | exact Or.inr rfl) (PPE.x (PF.pp (pf_lst (ppa_cons (pp_tup ppa_nil) ppa_nil)))))
 (L3.pss_cons (pps_for (passes_of rfl) rfl (ppi_seq (pp_var (pv 0))) (g_nm 2 sc.nd)
 (L3.pss_one (pps_set (i := 1) sc.nd rfl (by first | exact Or.inl rfl | exact Or.inr rfl) (PPE.x (pp_op opAdd addS (pr_var (pv 1)) (PPE.r (PF.pp (pf_lc (own := [("some", 3)]) rfl sc.nd (pir_seq (pr_var (pv 1))) (blkOk_by (N := ["things", "found", "thing", "some"]) (sc := defScope s_subsets) (by decide +kernel)) (fun _ _ _ _ _ => (g_nm 3 sc.nd)) (fun _ _ _ _ _ => ppts_nil) (fun _ _ _ _ _ => (pp_op opAdd addS (pr_var (pv 3)) (PPE.r (pp_tup (ppa_cons (pp_var (pv 2)) ppa_nil))))) (by decide)))))))))
 (L3.pss_one (pps_ret (pp_var (pv 1))))))
theorem o_contained (A : FF K mg "contained" s_contained) (z_len : mg "len" = none) (z_range : mg "range" = none) (z_tuple : mg "tuple" = none) : UP P w K mg base T (1 + 1) "contained" ["mixture"] s_contained p_contained := by
  have sc : FnScope ["mixture", "counts", "i"] ["mixture"] (defScope s_contained) := ⟨rfl, rfl, rfl, by decide +kernel, rfl, by decide +kernel, by decide +kernel⟩
  refine up_of (N := ["mixture", "counts", "i"]) (ts := b_contained) A sc (by decide) (fun _ _ _ _ _ _ us hl => match us, hl with | [_], _ => rfl) fun f cv A outer s H E hg hr => ?_
  have tk : Takes (cxOf (L2.CX P w) P w K mg base ["mixture", "counts", "i"] "contained" (defScope s_contained) f cv A outer s H E) (fun cls d _ H => E cls d H) := takes_of rfl rfl rfl rfl
  exact (L3.pss_cons (pps_set (i := 1) sc.nd rfl (by first | exact Or.inl rfl | exact Or.inr rfl) (PPE.x (pp_ix (pr_var (pv 0)) (PPE.r pp_int))))
 (L3.pss_one (pps_ret (pp_callTy call_tuple_of tupS rfl z_tuple (by decide +kernel) (par_cons (PPE.r (PF.pp (pf_lc (own := [("i", 2)]) rfl sc.nd (PPI.r (ppi_range1 rfl z_range (par_cons (PPE.r (pp_callB call_len lenS rfl z_len PySem.boot_len (par_cons (pr_var (pv 1)) par_nil))) par_nil))) (blkOk_by (N := ["mixture", "counts", "i"]) (sc := defScope s_contained) (by decide +kernel)) (fun _ _ _ _ _ => (g_nm 2 sc.nd)) (fun _ _ _ _ _ => (ppts_one (pt_cmp (op_neD hr.u64) neS (PPE.r (pp_ix (pr_var (pv 1)) (pr_var (pv 2)))) (PPE.r pp_int) (nomark _)))) (fun _ _ _ _ _ => (pp_var (pv 2))) (by decide)))) par_nil)))))
end
end Q15
namespace Q15
open PySem PySem.Spec PyProof.Rows L2 LamX L3
section
variable {P : Program} {w : World} {K : PySem.W.Frag} {mg : Str → Option Value} {base : Heap} {T : List (Addr × Str)}
theorem o_remainders (A : FF K mg "remainders" s_remainders) (U_power_modulo : UP P w K mg base T 2 "power_modulo" ["base", "exponent", "modulus"] s_power_modulo p_power_modulo) (U_inverse : UP P w K mg base T 2 "inverse" ["number", "modulus"] s_inverse p_inverse) (z_tuple : mg "tuple" = none) : UP P w K mg base T (2 + 1) "remainders" ["k", "mixture", "modulus"] s_remainders p_remainders := by
  have sc : FnScope ["k", "mixture", "modulus", "n", "counts", "scale", "count"] ["k", "mixture", "modulus"] (defScope s_remainders) := ⟨rfl, rfl, rfl, by decide +kernel, rfl, by decide +kernel, by decide +kernel⟩
  refine up_of (N := ["k", "mixture", "modulus", "n", "counts", "scale", "count"]) (ts := b_remainders) A sc (by decide) (fun _ _ _ _ _ _ us hl => match us, hl with | [_, _, _], _ => rfl) fun f cv A outer s H E hg hr => ?_
  have tk : Takes (cxOf (L2.CX P w) P w K mg base ["k", "mixture", "modulus", "n", "counts", "scale", "count"] "remainders" (defScope s_remainders) f cv A outer s H E) (fun cls d _ H => E cls d H) := takes_of rfl rfl rfl rfl
  exact (L3.pss_cons (pps_asg (PPE.x (pp_var (pv 1))) (ppg_tup rfl (ppgs_cons (g_nm 3 sc.nd) (ppgs_cons (g_nm 4 sc.nd) ppgs_nil))))
 (L3.pss_cons (pps_set (i := 5) sc.nd rfl (by first | exact Or.inl rfl | exact Or.inr rfl) (PPE.x (pp_u U_power_modulo tk hg (hr.mono (by decide)) rfl (psa_val (pp_u U_inverse tk hg (hr.mono (by decide)) rfl (psa_val (pp_var (pv 0)) (psa_val (pp_var (pv 2)) psa_nil))) (psa_val (pp_var (pv 3)) (psa_val (pp_var (pv 2)) psa_nil))))))
 (L3.pss_one (pps_ret (pp_callTy call_tuple_of tupS rfl z_tuple (by decide +kernel) (par_cons (PPE.r (PF.pp (pf_lc (own := [("count", 6)]) rfl sc.nd (pir_seq (pr_var (pv 4))) (blkOk_by (N := ["k", "mixture", "modulus", "n", "counts", "scale", "count"]) (sc := defScope s_remainders) (by decide +kernel)) (fun _ _ _ _ _ => (g_nm 6 sc.nd)) (fun _ _ _ _ _ => ppts_nil) (fun _ _ _ _ _ => (pp_op op_mod modS (PPE.r (pp_op opMul mulS (pr_var (pv 6)) (pr_var (pv 5)))) (pr_var (pv 2)))) (by decide)))) par_nil))))))
theorem o_is_case (A : FF K mg "is_case" s_is_case) (U_is_tuple : UP P w K mg base T 2 "is_tuple" ["value", "length"] s_is_tuple p_is_tuple) (U_are_below : UP P w K mg base T 5 "are_below" ["values", "limit"] s_are_below p_are_below) (U_is_ascending : UP P w K mg base T 2 "is_ascending" ["values"] s_is_ascending p_is_ascending) (z_any : mg "any" = none) (z_isinstance : mg "isinstance" = none) (z_len : mg "len" = none) (z_range : mg "range" = none) (z_sum : mg "sum" = none) (z_tuple : mg "tuple" = none) : UP P w K mg base T (5 + 1) "is_case" ["ingredients", "modulus", "value"] s_is_case p_is_case := by
  have sc : FnScope ["ingredients", "modulus", "value", "some", "rests", "i"] ["ingredients", "modulus", "value"] (defScope s_is_case) := ⟨rfl, rfl, rfl, by decide +kernel, rfl, by decide +kernel, by decide +kernel⟩
  refine up_of (N := ["ingredients", "modulus", "value", "some", "rests", "i"]) (ts := b_is_case) A sc (by decide) (fun _ _ _ _ _ _ us hl => match us, hl with | [_, _, _], _ => rfl) fun f cv A outer s H E hg hr => ?_
  have tk : Takes (cxOf (L2.CX P w) P w K mg base ["ingredients", "modulus", "value", "some", "rests", "i"] "is_case" (defScope s_is_case) f cv A outer s H E) (fun cls d _ H => E cls d H) := takes_of rfl rfl rfl rfl
  exact (L3.pss_cons (pps_if (L3.pt_not (pt_v (pp_u U_is_tuple tk hg (hr.mono (by decide)) rfl (psa_val (pp_var (pv 2)) (psa_val pp_int psa_nil)))))
 (L3.pss_one (pps_ret pp_bl))
 L3.pss_nil)
 (L3.pss_cons (pps_asg (PPE.x (pp_var (pv 2))) (ppg_tup rfl (ppgs_cons (g_nm 3 sc.nd) (ppgs_cons (g_nm 4 sc.nd) ppgs_nil))))
 (L3.pss_cons (pps_if (PW.pt (L3.pw_or (L3.pt_not (pt_v (pp_isi (T := "tuple") (by decide) (pr_var (pv 3)) rfl z_isinstance rfl z_tuple (by decide +kernel) (by decide) (by decide)))) (L3.pw_or1 (pt_cmp (op_eqD hr.u64) eqS (PPE.r (pp_callB call_len lenS rfl z_len PySem.boot_len (par_cons (pr_var (pv 3)) par_nil))) (PPE.r pp_int) (nomark _)))))
 (L3.pss_one (pps_ret pp_bl))
 L3.pss_nil)
 (L3.pss_cons (pps_if (PW.pt (L3.pw_or (L3.pt_not (pt_v (pp_u U_are_below tk hg (hr.mono (by decide)) rfl (psa_val (pp_var (pv 3)) (psa_val (pp_var (pv 0)) psa_nil))))) (L3.pw_or1 (L3.pt_not (pt_v (pp_u U_is_ascending tk hg (hr.mono (by decide)) rfl (psa_val (pp_var (pv 3)) psa_nil)))))))
 (L3.pss_one (pps_ret pp_bl))
 L3.pss_nil)
 (L3.pss_cons (pps_if (PW.pt (L3.pw_or (L3.pt_not (pt_v (pp_u U_is_tuple tk hg (hr.mono (by decide)) rfl (psa_val (pp_var (pv 4)) (psa_val (pp_var (pv 0)) psa_nil))))) (L3.pw_or1 (L3.pt_not (pt_v (pp_u U_are_below tk hg (hr.mono (by decide)) rfl (psa_val (pp_var (pv 4)) (psa_val (pp_var (pv 1)) psa_nil))))))))
 (L3.pss_one (pps_ret pp_bl))
 L3.pss_nil)
 (L3.pss_cons (pps_if (pt_v (pp_callB (cr_any rfl) anyS rfl z_any (by decide +kernel) (par_cons (PPE.r (PF.pp (pf_lc (own := [("i", 5)]) rfl sc.nd (PPI.r (ppi_range1 rfl z_range (par_cons (pr_var (pv 0)) par_nil))) (blkOk_by (N := ["ingredients", "modulus", "value", "some", "rests", "i"]) (sc := defScope s_is_case) (by decide +kernel)) (fun _ _ _ _ _ => (g_nm 5 sc.nd)) (fun _ _ _ _ _ => (ppts_one (pt_cmp (op_notinA hr.u65) notinAS (pr_var (pv 5)) (pr_var (pv 3)) (by rfl)))) (fun _ _ _ _ _ => (pp_cmp (op_neD hr.u64) neS (PPE.r (pp_ix (pr_var (pv 4)) (pr_var (pv 5)))) (PPE.r pp_int) (nomark _))) (by decide)))) par_nil)))
 (L3.pss_one (pps_ret pp_bl))
 L3.pss_nil)
 (L3.pss_one (pps_ret (pp_cmp (op_eqD hr.u64) eqS (PPE.r (pp_op op_mod modS (PPE.r (pp_op op_sub subS (PPE.r (pp_callB (cr_sumA rfl) sumS rfl z_sum (by decide +kernel) (par_cons (pr_var (pv 4)) par_nil))) (PPE.r pp_int))) (pr_var (pv 1)))) (PPE.r pp_int) (nomark _))))))))))
theorem o_all_sets (A : FF K mg "all_sets" s_all_sets) (U_subsets : UP P w K mg base T 2 "subsets" ["things"] s_subsets p_subsets) (z_list : mg "list" = none) (z_range : mg "range" = none) (z_sorted : mg "sorted" = none) : UP P w K mg base T (2 + 1) "all_sets" ["ingredients"] s_all_sets p_all_sets := by
  have sc : FnScope ["ingredients"] ["ingredients"] (defScope s_all_sets) := ⟨rfl, rfl, rfl, by decide +kernel, rfl, by decide +kernel, by decide +kernel⟩
  refine up_of (N := ["ingredients"]) (ts := b_all_sets) A sc (by decide) (fun _ _ _ _ _ _ us hl => match us, hl with | [_], _ => rfl) fun f cv A outer s H E hg hr => ?_
  have tk : Takes (cxOf (L2.CX P w) P w K mg base ["ingredients"] "all_sets" (defScope s_all_sets) f cv A outer s H E) (fun cls d _ H => E cls d H) := takes_of rfl rfl rfl rfl
  exact (L3.pss_one (pps_ret (pp_slice (PPE.r (PF.pp (pf_callB (id := "sorted") (call_sortA hr) sortAF rfl z_sorted (by decide +kernel) (par_cons (PPE.r (pp_u U_subsets tk hg (hr.mono (by decide)) rfl (psa_val (PF.pp (pf_listR1 rfl rfl z_list rfl z_range (pr_var (pv 0)))) psa_nil))) par_nil)))) (ppo_some (PPE.r pp_int)) ppo_none)))
theorem o_rest_rows (A : FF K mg "rest_rows" s_rest_rows) (U_tuples_below : UP P w K mg base T 3 "tuples_below" ["limit", "length"] s_tuples_below p_tuples_below) (z_enumerate : mg "enumerate" = none) (z_len : mg "len" = none) (z_sum : mg "sum" = none) (z_tuple : mg "tuple" = none) : UP P w K mg base T (3 + 1) "rest_rows" ["ingredients", "modulus", "some"] s_rest_rows p_rest_rows := by
  have sc : FnScope ["ingredients", "modulus", "some", "rows", "free", "rests", "at", "rest"] ["ingredients", "modulus", "some"] (defScope s_rest_rows) := ⟨rfl, rfl, rfl, by decide +kernel, rfl, by decide +kernel, by decide +kernel⟩
  refine up_of (N := ["ingredients", "modulus", "some", "rows", "free", "rests", "at", "rest"]) (ts := b_rest_rows) A sc (by decide) (fun _ _ _ _ _ _ us hl => match us, hl with | [_, _, _], _ => rfl) fun f cv A outer s H E hg hr => ?_
  have tk : Takes (cxOf (L2.CX P w) P w K mg base ["ingredients", "modulus", "some", "rows", "free", "rests", "at", "rest"] "rest_rows" (defScope s_rest_rows) f cv A outer s H E) (fun cls d _ H => E cls d H) := takes_of rfl rfl rfl rfl
  exact (L3.pss_cons (pps_setO (i := 3) sc.nd rfl (by first | exact Or.inl rfl | exact Or.inr rfl) (pf_lst ppa_nil))
 (L3.pss_cons (pps_for (passes_of rfl) rfl (ppi_seq (pp_u U_tuples_below tk hg (hr.mono (by decide)) rfl (psa_val (pp_var (pv 1)) (psa_val (pp_op op_sub subS (PPE.r (pp_callB call_len lenS rfl z_len PySem.boot_len (par_cons (pr_var (pv 2)) par_nil))) (PPE.r pp_int)) psa_nil)))) (g_nm 4 sc.nd)
 (L3.pss_cons (pps_setO (i := 5) sc.nd rfl (by first | exact Or.inl rfl | exact Or.inr rfl) (pf_rep (PPE.r (PF.pp (pf_lst (ppa_cons pp_int ppa_nil)))) (pr_var (pv 0))))
 (L3.pss_cons (pps_for (passes_of rfl) rfl (ppi_enum rfl z_enumerate (pp_var (pv 4))) (ppg_tup rfl (ppgs_cons (g_nm 6 sc.nd) (ppgs_cons (g_nm 7 sc.nd) ppgs_nil)))
 (L3.pss_one (pps_store (pv 5) (PPE.r (pp_ix (pr_var (pv 2)) (pr_var (pv 6)))) (PPE.x (pp_var (pv 7))))))
 (L3.pss_cons (pps_store (pv 5) (PPE.r (pp_ix (pr_var (pv 2)) (PPE.r (pp_neg (PPE.r pp_int))))) (PPE.x (pp_op op_mod modS (PPE.r (pp_op op_sub subS (PPE.r pp_int) (PPE.r (pp_callB (cr_sumA rfl) sumS rfl z_sum (by decide +kernel) (par_cons (pr_var (pv 4)) par_nil))))) (pr_var (pv 1)))))
 (L3.pss_one (pps_expr (px_append (pv 3) (PPE.x (pp_callTy call_tuple_of tupS rfl z_tuple (by decide +kernel) (par_cons (pr_var (pv 5)) par_nil))))))))))
 (L3.pss_one (pps_retO (pv 3)))))
theorem o_all_cases (A : FF K mg "all_cases" s_all_cases) (U_all_sets : UP P w K mg base T 3 "all_sets" ["ingredients"] s_all_sets p_all_sets) (U_rest_rows : UP P w K mg base T 4 "rest_rows" ["ingredients", "modulus", "some"] s_rest_rows p_rest_rows) (z_tuple : mg "tuple" = none) : UP P w K mg base T (4 + 1) "all_cases" ["ingredients", "modulus"] s_all_cases p_all_cases := by
  have sc : FnScope ["ingredients", "modulus", "some", "rests"] ["ingredients", "modulus"] (defScope s_all_cases) := ⟨rfl, rfl, rfl, by decide +kernel, rfl, by decide +kernel, by decide +kernel⟩
  refine up_of (N := ["ingredients", "modulus", "some", "rests"]) (ts := b_all_cases) A sc (by decide) (fun _ _ _ _ _ _ us hl => match us, hl with | [_, _], _ => rfl) fun f cv A outer s H E hg hr => ?_
  have tk : Takes (cxOf (L2.CX P w) P w K mg base ["ingredients", "modulus", "some", "rests"] "all_cases" (defScope s_all_cases) f cv A outer s H E) (fun cls d _ H => E cls d H) := takes_of rfl rfl rfl rfl
  exact (L3.pss_one (pps_ret (pp_callTy call_tuple_of tupS rfl z_tuple (by decide +kernel) (par_cons (PPE.r (PF.pp (pf_lc2 (own := [("some", 2), ("rests", 3)]) (V1 := [3]) rfl sc.nd (pir_seq (PPE.r (pp_u U_all_sets tk hg (hr.mono (by decide)) rfl (psa_val (pp_var (pv 0)) psa_nil)))) (blkOk_by (N := ["ingredients", "modulus", "some", "rests"]) (sc := defScope s_all_cases) (by decide +kernel)) (by decide) (fun _ _ _ _ _ => (g_nm 2 sc.nd)) (fun _ _ _ _ _ => ppts_nil) (fun _ _ _ _ _ => (pir_seq (PPE.r (pp_u U_rest_rows LamX.takes0 hg (hr.mono (by decide)) rfl (psa_val (pp_var (pv 0)) (psa_val (pp_var (pv 1)) (psa_val (pp_var (pv 2)) psa_nil))))))) (fun _ _ _ _ _ => (g_nm 3 sc.nd)) (fun _ _ _ _ _ => ppts_nil) (fun _ _ _ _ _ => (pp_tup (ppa_cons (pp_var (pv 2)) (ppa_cons (pp_var (pv 3)) ppa_nil)))) (by decide) (by decide)))) par_nil))))
theorem o_case_of (A : FF K mg "case_of" s_case_of) (U_contained : UP P w K mg base T 2 "contained" ["mixture"] s_contained p_contained) (U_remainders : UP P w K mg base T 3 "remainders" ["k", "mixture", "modulus"] s_remainders p_remainders) : UP P w K mg base T (3 + 1) "case_of" ["k", "mixture", "modulus"] s_case_of p_case_of := by
  have sc : FnScope ["k", "mixture", "modulus"] ["k", "mixture", "modulus"] (defScope s_case_of) := ⟨rfl, rfl, rfl, by decide +kernel, rfl, by decide +kernel, by decide +kernel⟩
  refine up_of (N := ["k", "mixture", "modulus"]) (ts := b_case_of) A sc (by decide) (fun _ _ _ _ _ _ us hl => match us, hl with | [_, _, _], _ => rfl) fun f cv A outer s H E hg hr => ?_
  have tk : Takes (cxOf (L2.CX P w) P w K mg base ["k", "mixture", "modulus"] "case_of" (defScope s_case_of) f cv A outer s H E) (fun cls d _ H => E cls d H) := takes_of rfl rfl rfl rfl
  exact (L3.pss_one (pps_ret (pp_tup (ppa_cons (pp_u U_contained tk hg (hr.mono (by decide)) rfl (psa_val (pp_var (pv 1)) psa_nil)) (ppa_cons (pp_u U_remainders tk hg (hr.mono (by decide)) rfl (psa_val (pp_var (pv 0)) (psa_val (pp_var (pv 1)) (psa_val (pp_var (pv 2)) psa_nil)))) ppa_nil)))))
theorem o_blend_cases (A : FF K mg "blend_cases" s_blend_cases) (U_inverse : UP P w K mg base T 2 "inverse" ["number", "modulus"] s_inverse p_inverse) (z_len : mg "len" = none) (z_range : mg "range" = none) (z_set : mg "set" = none) (z_sorted : mg "sorted" = none) (z_sum : mg "sum" = none) (z_tuple : mg "tuple" = none) : UP P w K mg base T (2 + 1) "blend_cases" ["k", "modulus", "cases"] s_blend_cases p_blend_cases := by
  have sc : FnScope ["k", "modulus", "cases", "some", "scale", "many", "rests", "i", "case"] ["k", "modulus", "cases"] (defScope s_blend_cases) := ⟨rfl, rfl, rfl, by decide +kernel, rfl, by decide +kernel, by decide +kernel⟩
  refine up_of (N := ["k", "modulus", "cases", "some", "scale", "many", "rests", "i", "case"]) (ts := b_blend_cases) A sc (by decide) (fun _ _ _ _ _ _ us hl => match us, hl with | [_, _, _], _ => rfl) fun f cv A outer s H E hg hr => ?_
  have tk : Takes (cxOf (L2.CX P w) P w K mg base ["k", "modulus", "cases", "some", "scale", "many", "rests", "i", "case"] "blend_cases" (defScope s_blend_cases) f cv A outer s H E) (fun cls d _ H => E cls d H) := takes_of rfl rfl rfl rfl
  exact (L3.pss_cons (pps_set (i := 3) sc.nd rfl (by first | exact Or.inl rfl | exact Or.inr rfl) (PPE.x (PF.pp (pf_sortSet rfl rfl z_sorted rfl z_set (PPE.r (PF.pp (pf_lc2 (own := [("case", 8), ("i", 7)]) (V1 := [7]) rfl sc.nd (pir_seq (pr_var (pv 2))) (blkOk_by (N := ["k", "modulus", "cases", "some", "scale", "many", "rests", "i", "case"]) (sc := defScope s_blend_cases) (by decide +kernel)) (by decide) (fun _ _ _ _ _ => (g_nm 8 sc.nd)) (fun _ _ _ _ _ => ppts_nil) (fun _ _ _ _ _ => (pir_seq (PPE.r (pp_ix (pr_var (pv 8)) (PPE.r pp_int))))) (fun _ _ _ _ _ => (g_nm 7 sc.nd)) (fun _ _ _ _ _ => ppts_nil) (fun _ _ _ _ _ => (pp_var (pv 7))) (by decide) (by decide))))))))
 (L3.pss_cons (pps_set (i := 4) sc.nd rfl (by first | exact Or.inl rfl | exact Or.inr rfl) (PPE.x (pp_u U_inverse tk hg (hr.mono (by decide)) rfl (psa_val (pp_var (pv 0)) (psa_val (pp_var (pv 1)) psa_nil)))))
 (L3.pss_cons (pps_set (i := 5) sc.nd rfl (by first | exact Or.inl rfl | exact Or.inr rfl) (PPE.x (pp_callB call_len lenS rfl z_len PySem.boot_len (par_cons (PPE.r (pp_ix (PPE.r (pp_ix (pr_var (pv 2)) (PPE.r pp_int))) (PPE.r pp_int))) par_nil))))
 (L3.pss_cons (pps_setLcV (i := 6) (own := [("i", 7)]) rfl sc.nd rfl rfl (sw_true rfl rfl rfl (by decide +kernel)) (PPI.r (ppi_range1 rfl z_range (par_cons (pr_var (pv 5)) par_nil))) (blkOk_by (N := ["k", "modulus", "cases", "some", "scale", "many", "rests", "i", "case"]) (sc := defScope s_blend_cases) (by decide +kernel)) (fun _ _ _ _ _ => (g_nm 7 sc.nd)) (fun _ _ _ _ _ => ppts_nil) (fun _ _ _ _ _ => (pp_op op_mod modS (PPE.r (pp_op opMul mulS (PPE.r (pp_callB (cr_sumA rfl) sumS rfl z_sum (by decide +kernel) (par_cons (PPE.r (PF.pp (pf_lc (own := [("case", 8)]) rfl sc.nd (pir_seq (pr_var (pv 2))) (blkOk_by (by rfl)) (fun _ _ _ _ _ => (g_nm 8 sc.nd)) (fun _ _ _ _ _ => ppts_nil) (fun _ _ _ _ _ => (pp_ix (PPE.r (pp_ix (pr_var (pv 8)) (PPE.r pp_int))) (pr_var (pv 7)))) (by decide)))) par_nil))) (pr_var (pv 4)))) (pr_var (pv 1)))) (by decide))
 (L3.pss_one (pps_ret (pp_tup (ppa_cons (pp_callTy call_tuple_of tupS rfl z_tuple (by decide +kernel) (par_cons (pr_var (pv 3)) par_nil)) (ppa_cons (pp_callTy call_tuple_of tupS rfl z_tuple (by decide +kernel) (par_cons (pr_var (pv 6)) par_nil)) ppa_nil)))))))))
theorem o__law_of (A : FF K mg "_law_of" s__law_of) (U__law_any : UP P w K mg base T 1 "_law_any" ["deal", "bound"] s__law_any p__law_any) (z_len : mg "len" = none) : UP P w K mg base T (1 + 1) "_law_of" ["deal", "some"] s__law_of p__law_of := by
  have sc : FnScope ["deal", "some"] ["deal", "some"] (defScope s__law_of) := ⟨rfl, rfl, rfl, by decide +kernel, rfl, by decide +kernel, by decide +kernel⟩
  refine up_of (N := ["deal", "some"]) (ts := b__law_of) A sc (by decide) (fun _ _ _ _ _ _ us hl => match us, hl with | [_, _], _ => rfl) fun f cv A outer s H E hg hr => ?_
  have tk : Takes (cxOf (L2.CX P w) P w K mg base ["deal", "some"] "_law_of" (defScope s__law_of) f cv A outer s H E) (fun cls d _ H => E cls d H) := takes_of rfl rfl rfl rfl
  exact (L3.pss_one (pps_ret (pp_ix (pr_var (pv 1)) (PPE.r (pp_u U__law_any tk hg (hr.mono (by decide)) rfl (psa_deal (pv 0) (psa_val (pp_callB call_len lenS rfl z_len PySem.boot_len (par_cons (pr_var (pv 1)) par_nil)) psa_nil)))))))
theorem o__law_power (A : FF K mg "_law_power" s__law_power) (z_range : mg "range" = none) : UP P w K mg base T (1 + 1) "_law_power" ["base", "many"] s__law_power p__law_power := by
  have sc : FnScope ["base", "many", "found", "turn"] ["base", "many"] (defScope s__law_power) := ⟨rfl, rfl, rfl, by decide +kernel, rfl, by decide +kernel, by decide +kernel⟩
  refine up_of (N := ["base", "many", "found", "turn"]) (ts := b__law_power) A sc (by decide) (fun _ _ _ _ _ _ us hl => match us, hl with | [_, _], _ => rfl) fun f cv A outer s H E hg hr => ?_
  have tk : Takes (cxOf (L2.CX P w) P w K mg base ["base", "many", "found", "turn"] "_law_power" (defScope s__law_power) f cv A outer s H E) (fun cls d _ H => E cls d H) := takes_of rfl rfl rfl rfl
  exact (L3.pss_cons (pps_set (i := 2) sc.nd rfl (by first | exact Or.inl rfl | exact Or.inr rfl) (PPE.x pp_int))
 (L3.pss_cons (pps_for (passes_of rfl) rfl (ppi_range1 rfl z_range (par_cons (pr_var (pv 1)) par_nil)) (g_nm 3 sc.nd)
 (L3.pss_one (pps_set (i := 2) sc.nd rfl (by first | exact Or.inl rfl | exact Or.inr rfl) (PPE.x (pp_op opMul mulS (pr_var (pv 2)) (pr_var (pv 0)))))))
 (L3.pss_one (pps_ret (pp_var (pv 2))))))
theorem o__law_gcd (A : FF K mg "_law_gcd" s__law_gcd) (z_int : mg "int" = none) : UP P w K mg base T (1 + 1) "_law_gcd" ["one", "other"] s__law_gcd p__law_gcd := by
  have sc : FnScope ["one", "other"] ["one", "other"] (defScope s__law_gcd) := ⟨rfl, rfl, rfl, by decide +kernel, rfl, by decide +kernel, by decide +kernel⟩
  refine up_of (N := ["one", "other"]) (ts := b__law_gcd) A sc (by decide) (fun _ _ _ _ _ _ us hl => match us, hl with | [_, _], _ => rfl) fun f cv A outer s H E hg hr => ?_
  have tk : Takes (cxOf (L2.CX P w) P w K mg base ["one", "other"] "_law_gcd" (defScope s__law_gcd) f cv A outer s H E) (fun cls d _ H => E cls d H) := takes_of rfl rfl rfl rfl
  exact (L3.pss_cons (pps_while (passes_of rfl) (pt_cmp op_gt cmpS (pr_var (pv 1)) (PPE.r pp_int) (nomark _))
 (L3.pss_one (pps_par (i := 0) (j := 1) rfl sc.nd rfl rfl (by decide) rfl rfl (pks_val (pp_var (pv 1)) (pks_val (pp_op op_mod modS (PPE.r (pp_callTy call_int1 intS rfl z_int (by decide +kernel) (par_cons (pr_var (pv 0)) par_nil))) (pr_var (pv 1))) pks_nil)) (by rfl))))
 (L3.pss_one (pps_ret (pp_var (pv 0)))))
theorem o__law_modulus (A : FF K mg "_law_modulus" s__law_modulus) (U__law_of : UP P w K mg base T 2 "_law_of" ["deal", "some"] s__law_of p__law_of) (U__law_gcd : UP P w K mg base T 2 "_law_gcd" ["one", "other"] s__law_gcd p__law_gcd) (z_range : mg "range" = none) : UP P w K mg base T (2 + 1) "_law_modulus" ["deal", "k", "top"] s__law_modulus p__law_modulus := by
  have sc : FnScope ["deal", "k", "top", "d"] ["deal", "k", "top"] (defScope s__law_modulus) := ⟨rfl, rfl, rfl, by decide +kernel, rfl, by decide +kernel, by decide +kernel⟩
  refine up_of (N := ["deal", "k", "top", "d"]) (ts := b__law_modulus) A sc (by decide) (fun _ _ _ _ _ _ us hl => match us, hl with | [_, _, _], _ => rfl) fun f cv A outer s H E hg hr => ?_
  have tk : Takes (cxOf (L2.CX P w) P w K mg base ["deal", "k", "top", "d"] "_law_modulus" (defScope s__law_modulus) f cv A outer s H E) (fun cls d _ H => E cls d H) := takes_of rfl rfl rfl rfl
  exact (L3.pss_one (pps_ret (pp_u U__law_of tk hg (hr.mono (by decide)) rfl (psa_deal (pv 0) (psa_val (PF.pp (pf_lc (own := [("d", 3)]) rfl sc.nd (PPI.r (ppi_range2 rfl z_range (par_cons (PPE.r pp_int) (par_cons (PPE.r (pp_op opAdd addS (pr_var (pv 2)) (PPE.r pp_int))) par_nil)))) (blkOk_by (N := ["deal", "k", "top", "d"]) (sc := defScope s__law_modulus) (by decide +kernel)) (fun _ _ _ _ _ => (g_nm 3 sc.nd)) (fun _ _ _ _ _ => (ppts_one (pt_cmp (op_eqD hr.u64) eqS (PPE.r (pp_u U__law_gcd LamX.takes0 hg (hr.mono (by decide)) rfl (psa_val (pp_var (pv 3)) (psa_val (pp_var (pv 1)) psa_nil)))) (PPE.r pp_int) (nomark _)))) (fun _ _ _ _ _ => (pp_var (pv 3))) (by decide))) psa_nil)))))
theorem o__law_lowest (A : FF K mg "_law_lowest" s__law_lowest) (z_all : mg "all" = none) (z_int : mg "int" = none) (z_list : mg "list" = none) (z_tuple : mg "tuple" = none) : UP P w K mg base T (1 + 1) "_law_lowest" ["k", "n", "counts"] s__law_lowest p__law_lowest := by
  have sc : FnScope ["k", "n", "counts", "row", "count"] ["k", "n", "counts"] (defScope s__law_lowest) := ⟨rfl, rfl, rfl, by decide +kernel, rfl, by decide +kernel, by decide +kernel⟩
  refine up_of (N := ["k", "n", "counts", "row", "count"]) (ts := b__law_lowest) A sc (by decide) (fun _ _ _ _ _ _ us hl => match us, hl with | [_, _, _], _ => rfl) fun f cv A outer s H E hg hr => ?_
  have tk : Takes (cxOf (L2.CX P w) P w K mg base ["k", "n", "counts", "row", "count"] "_law_lowest" (defScope s__law_lowest) f cv A outer s H E) (fun cls d _ H => E cls d H) := takes_of rfl rfl rfl rfl
  exact (L3.pss_cons (pps_set (i := 3) sc.nd rfl (by first | exact Or.inl rfl | exact Or.inr rfl) (PPE.x (PF.pp (pf_callTy call_list_of listF rfl z_list (by decide +kernel) (par_cons (pr_var (pv 2)) par_nil)))))
 (L3.pss_cons (pps_while (passes_of rfl) (PW.pt (L3.pw_and (pt_cmp op_gt cmpS (pr_var (pv 1)) (PPE.r pp_int) (nomark _)) (L3.pw_and1 (pt_v (pp_callB (cr_all rfl) allS rfl z_all (by decide +kernel) (par_cons (PPE.r (PF.pp (pf_lc (own := [("count", 4)]) rfl sc.nd (pir_seq (pr_var (pv 3))) (blkOk_by (N := ["k", "n", "counts", "row", "count"]) (sc := defScope s__law_lowest) (by decide +kernel)) (fun _ _ _ _ _ => (g_nm 4 sc.nd)) (fun _ _ _ _ _ => ppts_nil) (fun _ _ _ _ _ => (pp_cmp (op_eqD hr.u64) eqS (PPE.r (pp_op op_mod modS (PPE.r (pp_callTy call_int1 intS rfl z_int (by decide +kernel) (par_cons (pr_var (pv 4)) par_nil))) (pr_var (pv 0)))) (PPE.r pp_int) (nomark _))) (by decide)))) par_nil))))))
 (L3.pss_one (pps_par (i := 1) (j := 3) rfl sc.nd rfl rfl (by decide) rfl rfl (pks_val (pp_op op_sub subS (pr_var (pv 1)) (PPE.r pp_int)) (pks_val (PF.pp (pf_lc (own := [("count", 4)]) rfl sc.nd (pir_seq (pr_var (pv 3))) (blkOk_by (N := ["k", "n", "counts", "row", "count"]) (sc := defScope s__law_lowest) (by decide +kernel)) (fun _ _ _ _ _ => (g_nm 4 sc.nd)) (fun _ _ _ _ _ => ppts_nil) (fun _ _ _ _ _ => (pp_op op_fdivA divS (pr_var (pv 4)) (pr_var (pv 0)))) (by decide))) pks_nil)) (by rfl))))
 (L3.pss_one (pps_ret (pp_tup (ppa_cons (pp_var (pv 1)) (ppa_cons (pp_callTy call_tuple_of tupS rfl z_tuple (by decide +kernel) (par_cons (pr_var (pv 3)) par_nil)) ppa_nil)))))))
end
end Q15
namespace Q15
open PySem PySem.Spec PyProof.Rows L2 LamX L3
section
variable {P : Program} {w : World} {K : PySem.W.Frag} {mg : Str → Option Value} {base : Heap} {T : List (Addr × Str)}
theorem o__law_split (A : FF K mg "_law_split" s__law_split) (U__law_any : UP P w K mg base T 1 "_law_any" ["deal", "bound"] s__law_any p__law_any) (z_enumerate : mg "enumerate" = none) (z_len : mg "len" = none) (z_min : mg "min" = none) (z_range : mg "range" = none) : UP P w K mg base T (1 + 1) "_law_split" ["deal", "whole", "many", "some"] s__law_split p__law_split := by
  have sc : FnScope ["deal", "whole", "many", "some", "row", "left", "turn", "at", "take"] ["deal", "whole", "many", "some"] (defScope s__law_split) := ⟨rfl, rfl, rfl, by decide +kernel, rfl, by decide +kernel, by decide +kernel⟩
  refine up_of (N := ["deal", "whole", "many", "some", "row", "left", "turn", "at", "take"]) (ts := b__law_split) A sc (by decide) (fun _ _ _ _ _ _ us hl => match us, hl with | [_, _, _, _], _ => rfl) fun f cv A outer s H E hg hr => ?_
  have tk : Takes (cxOf (L2.CX P w) P w K mg base ["deal", "whole", "many", "some", "row", "left", "turn", "at", "take"] "_law_split" (defScope s__law_split) f cv A outer s H E) (fun cls d _ H => E cls d H) := takes_of rfl rfl rfl rfl
  exact (L3.pss_cons (pps_par (i := 4) (j := 5) rfl sc.nd rfl rfl (by decide) rfl rfl (pks_own (pf_lc (own := [("at", 7)]) rfl sc.nd (PPI.r (ppi_range1 rfl z_range (par_cons (pr_var (pv 2)) par_nil))) (blkOk_by (N := ["deal", "whole", "many", "some", "row", "left", "turn", "at", "take"]) (sc := defScope s__law_split) (by decide +kernel)) (fun _ _ _ _ _ => (g_nm 7 sc.nd)) (fun _ _ _ _ _ => ppts_nil) (fun _ _ _ _ _ => pp_int) (by decide)) (pks_val (pp_op op_sub subS (pr_var (pv 1)) (PPE.r (pp_callB call_len lenS rfl z_len PySem.boot_len (par_cons (pr_var (pv 3)) par_nil)))) pks_nil)) (by rfl))
 (L3.pss_cons (pps_for (passes_of rfl) rfl (ppi_enum rfl z_enumerate (pp_var (pv 3))) (ppg_tup rfl (ppgs_cons (g_nm 6 sc.nd) (ppgs_cons (g_nm 7 sc.nd) ppgs_nil)))
 (L3.pss_cons (pps_set (i := 8) sc.nd rfl (by first | exact Or.inl rfl | exact Or.inr rfl) (PPE.x (pp_if (pt_cmp (op_eqD hr.u64) eqS (pr_var (pv 6)) (PPE.r (pp_op op_sub subS (PPE.r (pp_callB call_len lenS rfl z_len PySem.boot_len (par_cons (pr_var (pv 3)) par_nil))) (PPE.r pp_int))) (nomark _)) (pp_var (pv 5)) (pp_u U__law_any tk hg (hr.mono (by decide)) rfl (psa_deal (pv 0) (psa_val (pp_op opAdd addS (pr_var (pv 5)) (PPE.r pp_int)) psa_nil))))))
 (L3.pss_cons (pps_if (PW.pt (L3.pw_and (pt_cmp op_lt cmpS (pr_var (pv 6)) (PPE.r (pp_op op_sub subS (PPE.r (pp_callB call_len lenS rfl z_len PySem.boot_len (par_cons (pr_var (pv 3)) par_nil))) (PPE.r pp_int))) (nomark _)) (L3.pw_and1 (pt_cmp (op_eqD hr.u64) eqS (PPE.r (pp_u U__law_any tk hg (hr.mono (by decide)) rfl (psa_deal (pv 0) (psa_val pp_int psa_nil)))) (PPE.r pp_int) (nomark _)))))
 (L3.pss_one (pps_set (i := 8) sc.nd rfl (by first | exact Or.inl rfl | exact Or.inr rfl) (PPE.x (pp_callB (call_min2 rfl) min2S rfl z_min (by decide +kernel) (par_cons (pr_var (pv 8)) (par_cons (PPE.r pp_int) par_nil))))))
 L3.pss_nil)
 (L3.pss_one (pps_asg (PPE.x (pp_tup (ppa_cons (pp_op opAdd addS (PPE.r pp_int) (pr_var (pv 8))) (ppa_cons (pp_op op_sub subS (pr_var (pv 5)) (pr_var (pv 8))) ppa_nil)))) (ppg_tup rfl (ppgs_cons (ppg_store (pv 4) (fun _ => (pr_var (pv 7)))) (ppgs_cons (g_nm 5 sc.nd) ppgs_nil))))))))
 (L3.pss_one (pps_retO (pv 4)))))
theorem o__law_some (A : FF K mg "_law_some" s__law_some) (U__law_any : UP P w K mg base T 1 "_law_any" ["deal", "bound"] s__law_any p__law_any) (z_range : mg "range" = none) : UP P w K mg base T (1 + 1) "_law_some" ["deal", "many"] s__law_some p__law_some := by
  have sc : FnScope ["deal", "many", "some", "at"] ["deal", "many"] (defScope s__law_some) := ⟨rfl, rfl, rfl, by decide +kernel, rfl, by decide +kernel, by decide +kernel⟩
  refine up_of (N := ["deal", "many", "some", "at"]) (ts := b__law_some) A sc (by decide) (fun _ _ _ _ _ _ us hl => match us, hl with | [_, _], _ => rfl) fun f cv A outer s H E hg hr => ?_
  have tk : Takes (cxOf (L2.CX P w) P w K mg base ["deal", "many", "some", "at"] "_law_some" (defScope s__law_some) f cv A outer s H E) (fun cls d _ H => E cls d H) := takes_of rfl rfl rfl rfl
  exact (L3.pss_cons (pps_setLcV (i := 2) (own := [("at", 3)]) rfl sc.nd rfl rfl (sw_true rfl rfl rfl (by decide +kernel)) (PPI.r (ppi_range1 rfl z_range (par_cons (pr_var (pv 1)) par_nil))) (blkOk_by (N := ["deal", "many", "some", "at"]) (sc := defScope s__law_some) (by decide +kernel)) (fun _ _ _ _ _ => (g_nm 3 sc.nd)) (fun _ _ _ _ _ => (ppts_one (pt_cmp op_gt cmpS (PPE.r (pp_u U__law_any LamX.takes0 hg (hr.mono (by decide)) rfl (psa_deal (pv 0) (psa_val pp_int psa_nil)))) (PPE.r pp_int) (nomark _)))) (fun _ _ _ _ _ => (pp_var (pv 3))) (by decide))
 (L3.pss_one (pps_ret (pp_if (pt_cmp (op_neE hr.u0) neES (pr_var (pv 2)) (PPE.r (PF.pp (pf_lst ppa_nil))) (nomark _)) (pp_var (pv 2)) (PF.pp (pf_lst (ppa_cons (pp_u U__law_any tk hg (hr.mono (by decide)) rfl (psa_deal (pv 0) (psa_val (pp_var (pv 1)) psa_nil))) ppa_nil)))))))
theorem o__law_mixture (A : FF K mg "_law_mixture" s__law_mixture) (U__law_any : UP P w K mg base T 1 "_law_any" ["deal", "bound"] s__law_any p__law_any) (U__law_power : UP P w K mg base T 2 "_law_power" ["base", "many"] s__law_power p__law_power) (U__law_lowest : UP P w K mg base T 2 "_law_lowest" ["k", "n", "counts"] s__law_lowest p__law_lowest) (U__law_split : UP P w K mg base T 2 "_law_split" ["deal", "whole", "many", "some"] s__law_split p__law_split) (U__law_some : UP P w K mg base T 2 "_law_some" ["deal", "many"] s__law_some p__law_some) (z_len : mg "len" = none) : UP P w K mg base T (2 + 1) "_law_mixture" ["deal", "k", "many", "deep"] s__law_mixture p__law_mixture := by
  have sc : FnScope ["deal", "k", "many", "deep", "some", "n"] ["deal", "k", "many", "deep"] (defScope s__law_mixture) := ⟨rfl, rfl, rfl, by decide +kernel, rfl, by decide +kernel, by decide +kernel⟩
  refine up_of (N := ["deal", "k", "many", "deep", "some", "n"]) (ts := b__law_mixture) A sc (by decide) (fun _ _ _ _ _ _ us hl => match us, hl with | [_, _, _, _], _ => rfl) fun f cv A outer s H E hg hr => ?_
  have tk : Takes (cxOf (L2.CX P w) P w K mg base ["deal", "k", "many", "deep", "some", "n"] "_law_mixture" (defScope s__law_mixture) f cv A outer s H E) (fun cls d _ H => E cls d H) := takes_of rfl rfl rfl rfl
  exact (L3.pss_cons (pps_par (i := 4) (j := 5) rfl sc.nd rfl rfl (by decide) rfl rfl (pks_val (pp_u U__law_some tk hg (hr.mono (by decide)) rfl (psa_deal (pv 0) (psa_val (pp_var (pv 2)) psa_nil))) (pks_val (pp_u U__law_any tk hg (hr.mono (by decide)) rfl (psa_deal (pv 0) (psa_val (pp_op opAdd addS (pr_var (pv 3)) (PPE.r pp_int)) psa_nil))) pks_nil)) (by rfl))
 (L3.pss_cons (pps_while (passes_of rfl) (pt_cmp op_lt cmpS (PPE.r (pp_u U__law_power tk hg (hr.mono (by decide)) rfl (psa_val (pp_var (pv 1)) (psa_val (pp_var (pv 5)) psa_nil)))) (PPE.r (pp_callB call_len lenS rfl z_len PySem.boot_len (par_cons (pr_var (pv 4)) par_nil))) (nomark _))
 (L3.pss_one (pps_set (i := 5) sc.nd rfl (by first | exact Or.inl rfl | exact Or.inr rfl) (PPE.x (pp_op opAdd addS (pr_var (pv 5)) (PPE.r pp_int))))))
 (L3.pss_one (pps_ret (pp_u U__law_lowest tk hg (hr.mono (by decide)) rfl (psa_val (pp_var (pv 1)) (psa_val (pp_var (pv 5)) (psa_val (pp_u U__law_split tk hg (hr.mono (by decide)) rfl (psa_deal (pv 0) (psa_val (pp_u U__law_power tk hg (hr.mono (by decide)) rfl (psa_val (pp_var (pv 1)) (psa_val (pp_var (pv 5)) psa_nil))) (psa_val (pp_var (pv 2)) (psa_val (pp_var (pv 4)) psa_nil))))) psa_nil))))))))
theorem o__law_rest (A : FF K mg "_law_rest" s__law_rest) (z_int : mg "int" = none) (z_range : mg "range" = none) : UP P w K mg base T (1 + 1) "_law_rest" ["k", "n", "count", "d"] s__law_rest p__law_rest := by
  have sc : FnScope ["k", "n", "count", "d", "scale", "step", "rest", "turn"] ["k", "n", "count", "d"] (defScope s__law_rest) := ⟨rfl, rfl, rfl, by decide +kernel, rfl, by decide +kernel, by decide +kernel⟩
  refine up_of (N := ["k", "n", "count", "d", "scale", "step", "rest", "turn"]) (ts := b__law_rest) A sc (by decide) (fun _ _ _ _ _ _ us hl => match us, hl with | [_, _, _, _], _ => rfl) fun f cv A outer s H E hg hr => ?_
  have tk : Takes (cxOf (L2.CX P w) P w K mg base ["k", "n", "count", "d", "scale", "step", "rest", "turn"] "_law_rest" (defScope s__law_rest) f cv A outer s H E) (fun cls d _ H => E cls d H) := takes_of rfl rfl rfl rfl
  exact (L3.pss_cons (pps_parN (is := [4, 5]) rfl (by decide) (pgs_cons (pg_name (i := 4) sc.nd rfl (by first | exact Or.inl rfl | exact Or.inr rfl)) (pgs_cons (pg_name (i := 5) sc.nd rfl (by first | exact Or.inl rfl | exact Or.inr rfl)) pgs_nil)) (pks_val pp_int (pks_val pp_int pks_nil)) rfl)
 (L3.pss_cons (pps_for (passes_of rfl) rfl (ppi_range1 rfl z_range (par_cons (pr_var (pv 3)) par_nil)) (g_nm 6 sc.nd)
 (L3.pss_one (pps_if (pt_cmp (op_eqD hr.u64) eqS (PPE.r (pp_op op_mod modS (PPE.r (pp_callTy call_int1 intS rfl z_int (by decide +kernel) (par_cons (PPE.r (pp_op op_sub subS (PPE.r (pp_op opMul mulS (pr_var (pv 6)) (pr_var (pv 0)))) (PPE.r pp_int))) par_nil))) (pr_var (pv 3)))) (PPE.r pp_int) (nomark _))
 (L3.pss_one (pps_set (i := 5) sc.nd rfl (by first | exact Or.inl rfl | exact Or.inr rfl) (PPE.x (pp_var (pv 6)))))
 L3.pss_nil)))
 (L3.pss_cons (pps_for (passes_of rfl) rfl (ppi_range1 rfl z_range (par_cons (pr_var (pv 1)) par_nil)) (g_nm 7 sc.nd)
 (L3.pss_one (pps_set (i := 4) sc.nd rfl (by first | exact Or.inl rfl | exact Or.inr rfl) (PPE.x (pp_op op_mod modS (PPE.r (pp_callTy call_int1 intS rfl z_int (by decide +kernel) (par_cons (PPE.r (pp_op opMul mulS (pr_var (pv 4)) (pr_var (pv 5)))) par_nil))) (pr_var (pv 3)))))))
 (L3.pss_one (pps_ret (pp_op op_mod modS (PPE.r (pp_callTy call_int1 intS rfl z_int (by decide +kernel) (par_cons (PPE.r (pp_op opMul mulS (pr_var (pv 2)) (pr_var (pv 4)))) par_nil))) (pr_var (pv 3))))))))
theorem o__law_case (A : FF K mg "_law_case" s__law_case) (U__law_rest : UP P w K mg base T 2 "_law_rest" ["k", "n", "count", "d"] s__law_rest p__law_rest) (z_enumerate : mg "enumerate" = none) (z_tuple : mg "tuple" = none) : UP P w K mg base T (2 + 1) "_law_case" ["k", "mixture", "d"] s__law_case p__law_case := by
  have sc : FnScope ["k", "mixture", "d", "some", "at", "count"] ["k", "mixture", "d"] (defScope s__law_case) := ⟨rfl, rfl, rfl, by decide +kernel, rfl, by decide +kernel, by decide +kernel⟩
  refine up_of (N := ["k", "mixture", "d", "some", "at", "count"]) (ts := b__law_case) A sc (by decide) (fun _ _ _ _ _ _ us hl => match us, hl with | [_, _, _], _ => rfl) fun f cv A outer s H E hg hr => ?_
  have tk : Takes (cxOf (L2.CX P w) P w K mg base ["k", "mixture", "d", "some", "at", "count"] "_law_case" (defScope s__law_case) f cv A outer s H E) (fun cls d _ H => E cls d H) := takes_of rfl rfl rfl rfl
  exact (L3.pss_cons (pps_set (i := 3) sc.nd rfl (by first | exact Or.inl rfl | exact Or.inr rfl) (PPE.x (pp_callTy call_tuple_of tupS rfl z_tuple (by decide +kernel) (par_cons (PPE.r (PF.pp (pf_lc (own := [("at", 4), ("count", 5)]) rfl sc.nd (pir_enum rfl z_enumerate (par_cons (PPE.r (pp_ix (pr_var (pv 1)) (PPE.r pp_int))) par_nil)) (blkOk_by (N := ["k", "mixture", "d", "some", "at", "count"]) (sc := defScope s__law_case) (by decide +kernel)) (fun _ _ _ _ _ => (ppg_tup rfl (ppgs_cons (g_nm 4 sc.nd) (ppgs_cons (g_nm 5 sc.nd) ppgs_nil)))) (fun _ _ _ _ _ => (ppts_one (pt_cmp op_gt cmpS (pr_var (pv 5)) (PPE.r pp_int) (nomark _)))) (fun _ _ _ _ _ => (pp_var (pv 4))) (by decide)))) par_nil))))
 (L3.pss_one (pps_ret (pp_tup (ppa_cons (pp_var (pv 3)) (ppa_cons (pp_callTy call_tuple_of tupS rfl z_tuple (by decide +kernel) (par_cons (PPE.r (PF.pp (pf_lc (own := [("count", 5)]) rfl sc.nd (pir_seq (PPE.r (pp_ix (pr_var (pv 1)) (PPE.r pp_int)))) (blkOk_by (N := ["k", "mixture", "d", "some", "at", "count"]) (sc := defScope s__law_case) (by decide +kernel)) (fun _ _ _ _ _ => (g_nm 5 sc.nd)) (fun _ _ _ _ _ => ppts_nil) (fun _ _ _ _ _ => (pp_u U__law_rest LamX.takes0 hg (hr.mono (by decide)) rfl (psa_val (pp_var (pv 0)) (psa_val (pp_ix (pr_var (pv 1)) (PPE.r pp_int)) (psa_val (pp_var (pv 5)) (psa_val (pp_var (pv 2)) psa_nil)))))) (by decide)))) par_nil)) ppa_nil))))))
theorem o__law_sets (A : FF K mg "_law_sets" s__law_sets) (z_range : mg "range" = none) (z_sorted : mg "sorted" = none) : UP P w K mg base T (1 + 1) "_law_sets" ["many"] s__law_sets p__law_sets := by
  have sc : FnScope ["many", "rows", "at", "row"] ["many"] (defScope s__law_sets) := ⟨rfl, rfl, rfl, by decide +kernel, rfl, by decide +kernel, by decide +kernel⟩
  refine up_of (N := ["many", "rows", "at", "row"]) (ts := b__law_sets) A sc (by decide) (fun _ _ _ _ _ _ us hl => match us, hl with | [_], _ => rfl) fun f cv A outer s H E hg hr => ?_
  have tk : Takes (cxOf (L2.CX P w) P w K mg base ["many", "rows", "at", "row"] "_law_sets" (defScope s__law_sets) f cv A outer s H E) (fun cls d _ H => E cls d H) := takes_of rfl rfl rfl rfl
  exact (L3.pss_cons (pps_set (i := 1) sc.nd rfl (by first | exact Or.inl rfl | exact Or.inr rfl) (PPE.x (PF.pp (pf_lst (ppa_cons (pp_tup ppa_nil) ppa_nil)))))
 (L3.pss_cons (pps_for (passes_of rfl) rfl (ppi_range1 rfl z_range (par_cons (pr_var (pv 0)) par_nil)) (g_nm 2 sc.nd)
 (L3.pss_one (pps_set (i := 1) sc.nd rfl (by first | exact Or.inl rfl | exact Or.inr rfl) (PPE.x (pp_op opAdd addS (pr_var (pv 1)) (PPE.r (PF.pp (pf_lc (own := [("row", 3)]) rfl sc.nd (pir_seq (pr_var (pv 1))) (blkOk_by (N := ["many", "rows", "at", "row"]) (sc := defScope s__law_sets) (by decide +kernel)) (fun _ _ _ _ _ => (g_nm 3 sc.nd)) (fun _ _ _ _ _ => ppts_nil) (fun _ _ _ _ _ => (pp_op opAdd addS (pr_var (pv 3)) (PPE.r (pp_tup (ppa_cons (pp_var (pv 2)) ppa_nil))))) (by decide)))))))))
 (L3.pss_one (pps_ret (PF.pp (pf_callB (id := "sorted") (call_sortA hr) sortAF rfl z_sorted (by decide +kernel) (par_cons (PPE.r (PF.pp (pf_lc (own := [("row", 3)]) rfl sc.nd (pir_seq (pr_var (pv 1))) (blkOk_by (N := ["many", "rows", "at", "row"]) (sc := defScope s__law_sets) (by decide +kernel)) (fun _ _ _ _ _ => (g_nm 3 sc.nd)) (fun _ _ _ _ _ => (ppts_one (pt_cmp (op_neD hr.u64) neS (pr_var (pv 3)) (PPE.r (pp_tup ppa_nil)) (nomark _)))) (fun _ _ _ _ _ => (pp_var (pv 3))) (by decide)))) par_nil)))))))
theorem o__law_cases (A : FF K mg "_law_cases" s__law_cases) (U__law_sets : UP P w K mg base T 2 "_law_sets" ["many"] s__law_sets p__law_sets) (z_enumerate : mg "enumerate" = none) (z_int : mg "int" = none) (z_range : mg "range" = none) (z_sorted : mg "sorted" = none) (z_sum : mg "sum" = none) (z_tuple : mg "tuple" = none) : UP P w K mg base T (2 + 1) "_law_cases" ["many", "d"] s__law_cases p__law_cases := by
  have sc : FnScope ["many", "d", "found", "some", "rows", "at", "longer", "row", "full", "shown", "spot", "rest"] ["many", "d"] (defScope s__law_cases) := ⟨rfl, rfl, rfl, by decide +kernel, rfl, by decide +kernel, by decide +kernel⟩
  refine up_of (N := ["many", "d", "found", "some", "rows", "at", "longer", "row", "full", "shown", "spot", "rest"]) (ts := b__law_cases) A sc (by decide) (fun _ _ _ _ _ _ us hl => match us, hl with | [_, _], _ => rfl) fun f cv A outer s H E hg hr => ?_
  have tk : Takes (cxOf (L2.CX P w) P w K mg base ["many", "d", "found", "some", "rows", "at", "longer", "row", "full", "shown", "spot", "rest"] "_law_cases" (defScope s__law_cases) f cv A outer s H E) (fun cls d _ H => E cls d H) := takes_of rfl rfl rfl rfl
  exact (L3.pss_cons (pps_setO (i := 2) sc.nd rfl (by first | exact Or.inl rfl | exact Or.inr rfl) (pf_lst ppa_nil))
 (L3.pss_cons (pps_for (passes_of rfl) rfl (ppi_seq (pp_u U__law_sets tk hg (hr.mono (by decide)) rfl (psa_val (pp_var (pv 0)) psa_nil))) (g_nm 3 sc.nd)
 (L3.pss_cons (pps_set (i := 4) sc.nd rfl (by first | exact Or.inl rfl | exact Or.inr rfl) (PPE.x (PF.pp (pf_lst (ppa_cons (PF.pp (pf_lst ppa_nil)) ppa_nil)))))
 (L3.pss_cons (pps_for (passes_of rfl) rfl (ppi_seq (pp_slice (pr_var (pv 3)) (ppo_some (PPE.r pp_int)) ppo_none)) (g_nm 5 sc.nd)
 (L3.pss_cons (pps_set (i := 6) sc.nd rfl (by first | exact Or.inl rfl | exact Or.inr rfl) (PPE.x (PF.pp (pf_lst ppa_nil))))
 (L3.pss_cons (pps_for (passes_of rfl) rfl (ppi_seq (pp_var (pv 4))) (g_nm 7 sc.nd)
 (L3.pss_one (pps_set (i := 6) sc.nd rfl (by first | exact Or.inl rfl | exact Or.inr rfl) (PPE.x (pp_op opAdd addS (pr_var (pv 6)) (PPE.r (PF.pp (pf_lc (own := [("rest", 11)]) rfl sc.nd (PPI.r (ppi_range1 rfl z_range (par_cons (pr_var (pv 1)) par_nil))) (blkOk_by (N := ["many", "d", "found", "some", "rows", "at", "longer", "row", "full", "shown", "spot", "rest"]) (sc := defScope s__law_cases) (by decide +kernel)) (fun _ _ _ _ _ => (g_nm 11 sc.nd)) (fun _ _ _ _ _ => ppts_nil) (fun _ _ _ _ _ => (pp_op opAdd addS (pr_var (pv 7)) (PPE.r (PF.pp (pf_lst (ppa_cons (pp_var (pv 11)) ppa_nil)))))) (by decide)))))))))
 (L3.pss_one (pps_set (i := 4) sc.nd rfl (by first | exact Or.inl rfl | exact Or.inr rfl) (PPE.x (pp_var (pv 6))))))))
 (L3.pss_one (pps_for (passes_of rfl) rfl (ppi_seq (pp_var (pv 4))) (g_nm 7 sc.nd)
 (L3.pss_cons (pps_par (i := 8) (j := 9) rfl sc.nd rfl rfl (by decide) rfl rfl (pks_own (pf_lc (own := [("at", 5)]) rfl sc.nd (PPI.r (ppi_range1 rfl z_range (par_cons (pr_var (pv 0)) par_nil))) (blkOk_by (N := ["many", "d", "found", "some", "rows", "at", "longer", "row", "full", "shown", "spot", "rest"]) (sc := defScope s__law_cases) (by decide +kernel)) (fun _ _ _ _ _ => (g_nm 5 sc.nd)) (fun _ _ _ _ _ => ppts_nil) (fun _ _ _ _ _ => pp_int) (by decide)) (pks_val (pp_op opAdd addS (pr_var (pv 7)) (PPE.r (PF.pp (pf_lst (ppa_cons (pp_op op_mod modS (PPE.r (pp_callTy call_int1 intS rfl z_int (by decide +kernel) (par_cons (PPE.r (pp_op op_sub subS (PPE.r pp_int) (PPE.r (pp_callB (cr_sumA rfl) sumS rfl z_sum (by decide +kernel) (par_cons (pr_var (pv 7)) par_nil))))) par_nil))) (pr_var (pv 1))) ppa_nil))))) pks_nil)) (by rfl))
 (L3.pss_cons (pps_for (passes_of rfl) rfl (ppi_enum rfl z_enumerate (pp_var (pv 3))) (ppg_tup rfl (ppgs_cons (g_nm 10 sc.nd) (ppgs_cons (g_nm 5 sc.nd) ppgs_nil)))
 (L3.pss_one (pps_store (pv 8) (pr_var (pv 5)) (PPE.x (pp_ix (pr_var (pv 9)) (pr_var (pv 10)))))))
 (L3.pss_one (pps_expr (px_append (pv 2) (PPE.x (pp_tup (ppa_cons (pp_var (pv 3)) (ppa_cons (pp_callTy call_tuple_of tupS rfl z_tuple (by decide +kernel) (par_cons (pr_var (pv 8)) par_nil)) ppa_nil))))))))))))))
 (L3.pss_one (pps_ret (PF.pp (pf_callB (id := "sorted") (call_sortA hr) sortAF rfl z_sorted (by decide +kernel) (par_cons (pr_var (pv 2)) par_nil)))))))
theorem o__law_recipe (A : FF K mg "_law_recipe" s__law_recipe) (U__law_any : UP P w K mg base T 1 "_law_any" ["deal", "bound"] s__law_any p__law_any) {ln : Nat} {p__law_recipe : PProm} (hln : 1 ≤ ln) (U__law_recipe : UP P w K mg base T ln "_law_recipe" ["deal", "k", "many", "deep"] s__law_recipe p__law_recipe) (z_range : mg "range" = none) (z_tuple : mg "tuple" = none) : UP P w K mg base T (ln + 1) "_law_recipe" ["deal", "k", "many", "deep"] s__law_recipe (r__law_recipe p__law_recipe) := by
  have sc : FnScope ["deal", "k", "many", "deep", "cup"] ["deal", "k", "many", "deep"] (defScope s__law_recipe) := ⟨rfl, rfl, rfl, by decide +kernel, rfl, by decide +kernel, by decide +kernel⟩
  refine up_of (N := ["deal", "k", "many", "deep", "cup"]) (ts := b__law_recipe p__law_recipe) A sc (by decide) (fun _ _ _ _ _ _ us hl => match us, hl with | [_, _, _, _], _ => rfl) fun f cv A outer s H E hg hr => ?_
  have tk : Takes (cxOf (L2.CX P w) P w K mg base ["deal", "k", "many", "deep", "cup"] "_law_recipe" (defScope s__law_recipe) f cv A outer s H E) (fun cls d _ H => E cls d H) := takes_of rfl rfl rfl rfl
  exact (L3.pss_cons (pps_if (PW.pt (L3.pw_or (pt_cmp (op_eqD hr.u64) eqS (pr_var (pv 3)) (PPE.r pp_int) (nomark _)) (L3.pw_or1 (pt_cmp op_lt cmpS (PPE.r (pp_u U__law_any tk hg (hr.mono (Nat.le_trans (by decide) hln)) rfl (psa_deal (pv 0) (psa_val (pp_op opAdd addS (PPE.r pp_int) (pr_var (pv 1))) psa_nil)))) (PPE.r (pp_op op_sub subS (pr_var (pv 1)) (PPE.r pp_int))) (nomark _)))))
 (L3.pss_one (pps_ret (pp_u U__law_any tk hg (hr.mono (Nat.le_trans (by decide) hln)) rfl (psa_deal (pv 0) (psa_val (pp_var (pv 2)) psa_nil)))))
 L3.pss_nil)
 (L3.pss_one (pps_ret (pp_callTy call_tuple_of tupS rfl z_tuple (by decide +kernel) (par_cons (PPE.r (PF.pp (pf_lc (own := [("cup", 4)]) rfl sc.nd (PPI.r (ppi_range1 rfl z_range (par_cons (pr_var (pv 1)) par_nil))) (blkOk_by (N := ["deal", "k", "many", "deep", "cup"]) (sc := defScope s__law_recipe) (by decide +kernel)) (fun _ _ _ _ _ => (g_nm 4 sc.nd)) (fun _ _ _ _ _ => ppts_nil) (fun _ _ _ _ _ => (pp_u U__law_recipe LamX.takes0 hg hr rfl (psa_deal (pv 0) (psa_val (pp_var (pv 1)) (psa_val (pp_var (pv 2)) (psa_val (pp_op op_sub subS (pr_var (pv 3)) (PPE.r pp_int)) psa_nil)))))) (by decide)))) par_nil)))))
theorem o__law_stray (A : FF K mg "_law_stray" s__law_stray) (U__law_of : UP P w K mg base T 2 "_law_of" ["deal", "some"] s__law_of p__law_of) (z_int : mg "int" = none) (z_isinstance : mg "isinstance" = none) (z_list : mg "list" = none) (z_repr : mg "repr" = none) (z_str : mg "str" = none) (z_tuple : mg "tuple" = none) : UP P w K mg base T (2 + 1) "_law_stray" ["deal", "value"] s__law_stray p__law_stray := by
  have sc : FnScope ["deal", "value"] ["deal", "value"] (defScope s__law_stray) := ⟨rfl, rfl, rfl, by decide +kernel, rfl, by decide +kernel, by decide +kernel⟩
  refine up_of (N := ["deal", "value"]) (ts := b__law_stray) A sc (by decide) (fun _ _ _ _ _ _ us hl => match us, hl with | [_, _], _ => rfl) fun f cv A outer s H E hg hr => ?_
  have tk : Takes (cxOf (L2.CX P w) P w K mg base ["deal", "value"] "_law_stray" (defScope s__law_stray) f cv A outer s H E) (fun cls d _ H => E cls d H) := takes_of rfl rfl rfl rfl
  exact (L3.pss_cons (pps_if (pt_v (pp_isi (T := "str") (by decide) (pr_var (pv 1)) rfl z_isinstance rfl z_str (by decide +kernel) (by decide) (by decide)))
 L3.pss_never
 L3.pss_nil)
 (L3.pss_cons (pps_if (pt_v (pp_isi (T := "int") (by decide) (pr_var (pv 1)) rfl z_isinstance rfl z_int (by decide +kernel) (by decide) (by decide)))
 (L3.pss_one (pps_ret (pp_u U__law_of tk hg (hr.mono (by decide)) rfl (psa_deal (pv 0) (psa_val (PF.pp (pf_lst (ppa_cons (pp_op opAdd addS (pr_var (pv 1)) (PPE.r pp_int)) (ppa_cons (pp_op op_sub subS (pr_var (pv 1)) (PPE.r pp_int)) (ppa_cons (pp_op op_sub subS (PPE.r pp_int) (pr_var (pv 1))) (ppa_cons (pp_op opMul mulS (pr_var (pv 1)) (PPE.r pp_int)) (ppa_cons (pp_callTy call_strA strS rfl z_str (by decide +kernel) (par_cons (pr_var (pv 1)) par_nil)) (ppa_cons pp_non (ppa_cons (pp_tup (ppa_cons (pp_var (pv 1)) ppa_nil)) (ppa_cons pp_bl (ppa_cons pp_bl (ppa_cons pp_int ppa_nil)))))))))))) psa_nil)))))
 L3.pss_nil)
 (L3.pss_cons (pps_if (pt_v (pp_isi (T := "tuple") (by decide) (pr_var (pv 1)) rfl z_isinstance rfl z_tuple (by decide +kernel) (by decide) (by decide)))
 (L3.pss_one (pps_ret (pp_u U__law_of tk hg (hr.mono (by decide)) rfl (psa_deal (pv 0) (psa_val (PF.pp (pf_lst (ppa_cons (PF.pp (pf_callTy call_list_of listF rfl z_list (by decide +kernel) (par_cons (pr_var (pv 1)) par_nil))) (ppa_cons pp_non (ppa_cons (pp_tup ppa_nil) (ppa_cons (pp_op opMul mulS (pr_var (pv 1)) (PPE.r pp_int)) (ppa_cons (pp_callB (call_show hg hr.u64) reprS rfl z_repr (by decide +kernel) (par_cons (pr_var (pv 1)) par_nil)) (ppa_cons pp_int (ppa_cons (pp_tup (ppa_cons (pp_var (pv 1)) ppa_nil)) (ppa_cons (pp_rev (pr_var (pv 1))) (ppa_cons pp_dict0 (ppa_cons pp_str ppa_nil)))))))))))) psa_nil)))))
 L3.pss_nil)
 (L3.pss_one (pps_ret (pp_u U__law_of tk hg (hr.mono (by decide)) rfl (psa_deal (pv 0) (psa_val (PF.pp (pf_lst (ppa_cons pp_non (ppa_cons (pp_tup ppa_nil) (ppa_cons pp_int (ppa_cons pp_str (ppa_cons (pp_tup (ppa_cons (pp_var (pv 1)) ppa_nil)) ppa_nil))))))) psa_nil))))))))
theorem o__law_spoil (A : FF K mg "_law_spoil" s__law_spoil) (U__law_any : UP P w K mg base T 1 "_law_any" ["deal", "bound"] s__law_any p__law_any) (U__law_stray : UP P w K mg base T 3 "_law_stray" ["deal", "value"] s__law_stray p__law_stray) {ln : Nat} {p__law_spoil : PProm} (hln : 3 ≤ ln) (U__law_spoil : UP P w K mg base T ln "_law_spoil" ["deal", "value"] s__law_spoil p__law_spoil) (z_isinstance : mg "isinstance" = none) (z_len : mg "len" = none) (z_tuple : mg "tuple" = none) : UP P w K mg base T (ln + 1) "_law_spoil" ["deal", "value"] s__law_spoil (r__law_spoil p__law_spoil) := by
  have sc : FnScope ["deal", "value", "at", "kind"] ["deal", "value"] (defScope s__law_spoil) := ⟨rfl, rfl, rfl, by decide +kernel, rfl, by decide +kernel, by decide +kernel⟩
  refine up_of (N := ["deal", "value", "at", "kind"]) (ts := b__law_spoil p__law_spoil) A sc (by decide) (fun _ _ _ _ _ _ us hl => match us, hl with | [_, _], _ => rfl) fun f cv A outer s H E hg hr => ?_
  have tk : Takes (cxOf (L2.CX P w) P w K mg base ["deal", "value", "at", "kind"] "_law_spoil" (defScope s__law_spoil) f cv A outer s H E) (fun cls d _ H => E cls d H) := takes_of rfl rfl rfl rfl
  exact (L3.pss_cons (pps_if (PW.pt (L3.pw_or (L3.pt_not (pt_v (pp_isi (T := "tuple") (by decide) (pr_var (pv 1)) rfl z_isinstance rfl z_tuple (by decide +kernel) (by decide) (by decide)))) (L3.pw_or (pt_cmp (op_eqD hr.u64) eqS (PPE.r (pp_callB call_len lenS rfl z_len PySem.boot_len (par_cons (pr_var (pv 1)) par_nil))) (PPE.r pp_int) (nomark _)) (L3.pw_or1 (pt_cmp (op_eqD hr.u64) eqS (PPE.r (pp_u U__law_any tk hg (hr.mono (Nat.le_trans (by decide) hln)) rfl (psa_deal (pv 0) (psa_val pp_int psa_nil)))) (PPE.r pp_int) (nomark _))))))
 (L3.pss_one (pps_ret (pp_u U__law_stray tk hg (hr.mono (Nat.le_trans (by decide) hln)) rfl (psa_deal (pv 0) (psa_val (pp_var (pv 1)) psa_nil)))))
 L3.pss_nil)
 (L3.pss_cons (pps_par (i := 2) (j := 3) rfl sc.nd rfl rfl (by decide) rfl rfl (pks_val (pp_u U__law_any tk hg (hr.mono (Nat.le_trans (by decide) hln)) rfl (psa_deal (pv 0) (psa_val (pp_callB call_len lenS rfl z_len PySem.boot_len (par_cons (pr_var (pv 1)) par_nil)) psa_nil))) (pks_val (pp_u U__law_any tk hg (hr.mono (Nat.le_trans (by decide) hln)) rfl (psa_deal (pv 0) (psa_val pp_int psa_nil))) pks_nil)) (by rfl))
 (L3.pss_cons (pps_if (pt_cmp (op_eqD hr.u64) eqS (pr_var (pv 3)) (PPE.r pp_int) (nomark _))
 (L3.pss_one (pps_ret (pp_op opAdd addS (PPE.r (pp_slice (pr_var (pv 1)) ppo_none (ppo_some (pr_var (pv 2))))) (PPE.r (pp_slice (pr_var (pv 1)) (ppo_some (PPE.r (pp_op opAdd addS (pr_var (pv 2)) (PPE.r pp_int)))) ppo_none)))))
 L3.pss_nil)
 (L3.pss_cons (pps_if (pt_cmp (op_eqD hr.u64) eqS (pr_var (pv 3)) (PPE.r pp_int) (nomark _))
 (L3.pss_one (pps_ret (pp_op opAdd addS (PPE.r (pp_slice (pr_var (pv 1)) ppo_none (ppo_some (PPE.r (pp_op opAdd addS (pr_var (pv 2)) (PPE.r pp_int)))))) (PPE.r (pp_slice (pr_var (pv 1)) (ppo_some (pr_var (pv 2))) ppo_none)))))
 L3.pss_nil)
 (L3.pss_cons (pps_if (pt_cmp (op_eqD hr.u64) eqS (pr_var (pv 3)) (PPE.r pp_int) (nomark _))
 (L3.pss_one (pps_ret (pp_op opAdd addS (PPE.r (pp_slice (pr_var (pv 1)) ppo_none (ppo_some (pr_var (pv 2))))) (PPE.r (pp_rev (PPE.r (pp_slice (pr_var (pv 1)) (ppo_some (pr_var (pv 2))) ppo_none)))))))
 L3.pss_nil)
 (L3.pss_one (pps_ret (pp_op opAdd addS (PPE.r (pp_op opAdd addS (PPE.r (pp_slice (pr_var (pv 1)) ppo_none (ppo_some (pr_var (pv 2))))) (PPE.r (pp_tup (ppa_cons (pp_u U__law_spoil tk hg hr rfl (psa_deal (pv 0) (psa_val (pp_ix (pr_var (pv 1)) (pr_var (pv 2))) psa_nil))) ppa_nil))))) (PPE.r (pp_slice (pr_var (pv 1)) (ppo_some (PPE.r (pp_op opAdd addS (pr_var (pv 2)) (PPE.r pp_int)))) ppo_none))))))))))
theorem o__law_is_case (A : FF K mg "_law_is_case" s__law_is_case) (z_bool : mg "bool" = none) (z_int : mg "int" = none) (z_isinstance : mg "isinstance" = none) (z_len : mg "len" = none) (z_tuple : mg "tuple" = none) : UP P w K mg base T (1 + 1) "_law_is_case" ["cases", "value"] s__law_is_case p__law_is_case := by
  have sc : FnScope ["cases", "value", "row", "one"] ["cases", "value"] (defScope s__law_is_case) := ⟨rfl, rfl, rfl, by decide +kernel, rfl, by decide +kernel, by decide +kernel⟩
  refine up_of (N := ["cases", "value", "row", "one"]) (ts := b__law_is_case) A sc (by decide) (fun _ _ _ _ _ _ us hl => match us, hl with | [_, _], _ => rfl) fun f cv A outer s H E hg hr => ?_
  have tk : Takes (cxOf (L2.CX P w) P w K mg base ["cases", "value", "row", "one"] "_law_is_case" (defScope s__law_is_case) f cv A outer s H E) (fun cls d _ H => E cls d H) := takes_of rfl rfl rfl rfl
  exact (L3.pss_cons (pps_if (PW.pt (L3.pw_or (L3.pt_not (pt_v (pp_isi (T := "tuple") (by decide) (pr_var (pv 1)) rfl z_isinstance rfl z_tuple (by decide +kernel) (by decide) (by decide)))) (L3.pw_or1 (pt_cmp (op_neD hr.u64) neS (PPE.r (pp_callB call_len lenS rfl z_len PySem.boot_len (par_cons (pr_var (pv 1)) par_nil))) (PPE.r pp_int) (nomark _)))))
 (L3.pss_one (pps_ret pp_bl))
 L3.pss_nil)
 (L3.pss_cons (pps_for (passes_of rfl) rfl (ppi_seq (pp_var (pv 1))) (g_nm 2 sc.nd)
 (L3.pss_cons (pps_if (L3.pt_not (pt_v (pp_isi (T := "tuple") (by decide) (pr_var (pv 2)) rfl z_isinstance rfl z_tuple (by decide +kernel) (by decide) (by decide))))
 (L3.pss_one (pps_ret pp_bl))
 L3.pss_nil)
 (L3.pss_one (pps_if (pt_cmp (op_neE hr.u0) neES (PPE.r (PF.pp (pf_lc (own := [("one", 3)]) rfl sc.nd (pir_seq (pr_var (pv 2))) (blkOk_by (N := ["cases", "value", "row", "one"]) (sc := defScope s__law_is_case) (by decide +kernel)) (fun _ _ _ _ _ => (g_nm 3 sc.nd)) (fun _ _ _ _ _ => (ppts_one (PW.pt (L3.pw_or (L3.pt_not (pt_v (pp_isi (T := "int") (by decide) (pr_var (pv 3)) rfl z_isinstance rfl z_int (by decide +kernel) (by decide) (by decide)))) (L3.pw_or1 (pt_v (pp_isi (T := "bool") (by decide) (pr_var (pv 3)) rfl z_isinstance rfl z_bool (by decide +kernel) (by decide) (by decide)))))))) (fun _ _ _ _ _ => (pp_var (pv 3))) (by decide)))) (PPE.r (PF.pp (pf_lst ppa_nil))) (nomark _))
 (L3.pss_one (pps_ret pp_bl))
 L3.pss_nil))))
 (L3.pss_one (pps_ret (pp_cmp (op_inA hr.u65) inAS (pr_var (pv 1)) (pr_var (pv 0)) (by rfl))))))
theorem o__law_blended (A : FF K mg "_law_blended" s__law_blended) (U__law_power : UP P w K mg base T 2 "_law_power" ["base", "many"] s__law_power p__law_power) (U__law_lowest : UP P w K mg base T 2 "_law_lowest" ["k", "n", "counts"] s__law_lowest p__law_lowest) (z_enumerate : mg "enumerate" = none) (z_max : mg "max" = none) : UP P w K mg base T (2 + 1) "_law_blended" ["k", "cups"] s__law_blended p__law_blended := by
  have sc : FnScope ["k", "cups", "n", "counts", "deep", "row", "at", "count", "cup"] ["k", "cups"] (defScope s__law_blended) := ⟨rfl, rfl, rfl, by decide +kernel, rfl, by decide +kernel, by decide +kernel⟩
  refine up_of (N := ["k", "cups", "n", "counts", "deep", "row", "at", "count", "cup"]) (ts := b__law_blended) A sc (by decide) (fun _ _ _ _ _ _ us hl => match us, hl with | [_, _], _ => rfl) fun f cv A outer s H E hg hr => ?_
  have tk : Takes (cxOf (L2.CX P w) P w K mg base ["k", "cups", "n", "counts", "deep", "row", "at", "count", "cup"] "_law_blended" (defScope s__law_blended) f cv A outer s H E) (fun cls d _ H => E cls d H) := takes_of rfl rfl rfl rfl
  exact (L3.pss_cons (pps_set (i := 2) sc.nd rfl (by first | exact Or.inl rfl | exact Or.inr rfl) (PPE.x (pp_callB (cr_max rfl) maxS rfl z_max (by decide +kernel) (par_cons (PPE.r (PF.pp (pf_lc (own := [("cup", 8)]) rfl sc.nd (pir_seq (pr_var (pv 1))) (blkOk_by (N := ["k", "cups", "n", "counts", "deep", "row", "at", "count", "cup"]) (sc := defScope s__law_blended) (by decide +kernel)) (fun _ _ _ _ _ => (g_nm 8 sc.nd)) (fun _ _ _ _ _ => ppts_nil) (fun _ _ _ _ _ => (pp_ix (pr_var (pv 8)) (PPE.r pp_int))) (by decide)))) par_nil))))
 (L3.pss_cons (pps_setLc (i := 3) (own := [("count", 7)]) rfl sc.nd rfl rfl (sw_true rfl rfl rfl (by decide +kernel)) (pir_seq (PPE.r (pp_ix (PPE.r (pp_ix (pr_var (pv 1)) (PPE.r pp_int))) (PPE.r pp_int)))) (blkOk_by (N := ["k", "cups", "n", "counts", "deep", "row", "at", "count", "cup"]) (sc := defScope s__law_blended) (by decide +kernel)) (fun _ _ _ _ _ => (g_nm 7 sc.nd)) (fun _ _ _ _ _ => ppts_nil) (fun _ _ _ _ _ => pp_int) (by decide))
 (L3.pss_cons (pps_for (passes_of rfl) rfl (ppi_seq (pp_var (pv 1))) (ppg_tup rfl (ppgs_cons (g_nm 4 sc.nd) (ppgs_cons (g_nm 5 sc.nd) ppgs_nil)))
 (L3.pss_one (pps_for (passes_of rfl) rfl (ppi_enum rfl z_enumerate (pp_var (pv 5))) (ppg_tup rfl (ppgs_cons (g_nm 6 sc.nd) (ppgs_cons (g_nm 7 sc.nd) ppgs_nil)))
 (L3.pss_one (pps_store (pv 3) (pr_var (pv 6)) (PPE.x (pp_op opAdd addS (PPE.r (pp_ix (pr_var (pv 3)) (pr_var (pv 6)))) (PPE.r (pp_op opMul mulS (pr_var (pv 7)) (PPE.r (pp_u U__law_power tk hg (hr.mono (by decide)) rfl (psa_val (pp_var (pv 0)) (psa_val (pp_op op_sub subS (pr_var (pv 2)) (pr_var (pv 4))) psa_nil)))))))))))))
 (L3.pss_one (pps_frz 3 (pps_ret (pp_u U__law_lowest tk hg (hr.mono (by decide)) rfl (psa_val (pp_var (pv 0)) (psa_val (pp_op opAdd addS (pr_var (pv 2)) (PPE.r pp_int)) (psa_val (pp_var (pv 3)) psa_nil))))))))))
end
end Q15
namespace Q15
open PySem PySem.Spec PyProof.Rows L2 LamX L3
section
variable {P : Program} {w : World} {K : PySem.W.Frag} {mg : Str → Option Value} {base : Heap} {T : List (Addr × Str)}
theorem o__law_walked (A : FF K mg "_law_walked" s__law_walked) (U_case_of : UP P w K mg base T 4 "case_of" ["k", "mixture", "modulus"] s_case_of p_case_of) (U_blend_cases : UP P w K mg base T 3 "blend_cases" ["k", "modulus", "cases"] s_blend_cases p_blend_cases) (U__law_blended : UP P w K mg base T 3 "_law_blended" ["k", "cups"] s__law_blended p__law_blended) {ln : Nat} {p__law_walked : PProm} (hln : 4 ≤ ln) (U__law_walked : UP P w K mg base T ln "_law_walked" ["k", "many", "d", "recipe"] s__law_walked p__law_walked) (z_isinstance : mg "isinstance" = none) (z_range : mg "range" = none) (z_tuple : mg "tuple" = none) : UP P w K mg base T (ln + 1) "_law_walked" ["k", "many", "d", "recipe"] s__law_walked (r__law_walked p__law_walked) := by
  have sc : FnScope ["k", "many", "d", "recipe", "pure", "cups", "cases", "part", "mixture", "case", "at"] ["k", "many", "d", "recipe"] (defScope s__law_walked) := ⟨rfl, rfl, rfl, by decide +kernel, rfl, by decide +kernel, by decide +kernel⟩
  refine up_of (N := ["k", "many", "d", "recipe", "pure", "cups", "cases", "part", "mixture", "case", "at"]) (ts := b__law_walked p__law_walked) A sc (by decide) (fun _ _ _ _ _ _ us hl => match us, hl with | [_, _, _, _], _ => rfl) fun f cv A outer s H E hg hr => ?_
  have tk : Takes (cxOf (L2.CX P w) P w K mg base ["k", "many", "d", "recipe", "pure", "cups", "cases", "part", "mixture", "case", "at"] "_law_walked" (defScope s__law_walked) f cv A outer s H E) (fun cls d _ H => E cls d H) := takes_of rfl rfl rfl rfl
  exact (L3.pss_cons (pps_if (L3.pt_not (pt_v (pp_isi (T := "tuple") (by decide) (pr_var (pv 3)) rfl z_isinstance rfl z_tuple (by decide +kernel) (by decide) (by decide))))
 (L3.pss_cons (pps_set (i := 4) sc.nd rfl (by first | exact Or.inl rfl | exact Or.inr rfl) (PPE.x (pp_tup (ppa_cons pp_int (ppa_cons (pp_callTy call_tuple_of tupS rfl z_tuple (by decide +kernel) (par_cons (PPE.r (PF.pp (pf_lc (own := [("at", 10)]) rfl sc.nd (PPI.r (ppi_range1 rfl z_range (par_cons (pr_var (pv 1)) par_nil))) (blkOk_by (N := ["k", "many", "d", "recipe", "pure", "cups", "cases", "part", "mixture", "case", "at"]) (sc := defScope s__law_walked) (by decide +kernel)) (fun _ _ _ _ _ => (g_nm 10 sc.nd)) (fun _ _ _ _ _ => ppts_nil) (fun _ _ _ _ _ => (pp_if (pt_cmp (op_eqD hr.u64) eqS (pr_var (pv 10)) (pr_var (pv 3)) (nomark _)) pp_int pp_int)) (by decide)))) par_nil)) ppa_nil)))))
 (L3.pss_one (pps_ret (pp_tup (ppa_cons (pp_var (pv 4)) (ppa_cons (pp_u U_case_of tk hg (hr.mono (Nat.le_trans (by decide) hln)) rfl (psa_val (pp_var (pv 0)) (psa_val (pp_var (pv 4)) (psa_val (pp_var (pv 2)) psa_nil)))) ppa_nil))))))
 L3.pss_nil)
 (L3.pss_cons (pps_par (i := 5) (j := 6) rfl sc.nd rfl rfl (by decide) rfl rfl (pks_own (pf_lst ppa_nil) (pks_own (pf_lst ppa_nil) pks_nil)) (by rfl))
 (L3.pss_cons (pps_for (passes_of rfl) rfl (ppi_seq (pp_var (pv 3))) (g_nm 7 sc.nd)
 (L3.pss_cons (pps_asg (PPE.x (pp_u U__law_walked tk hg hr rfl (psa_val (pp_var (pv 0)) (psa_val (pp_var (pv 1)) (psa_val (pp_var (pv 2)) (psa_val (pp_var (pv 7)) psa_nil)))))) (ppg_tup rfl (ppgs_cons (g_nm 8 sc.nd) (ppgs_cons (g_nm 9 sc.nd) ppgs_nil))))
 (L3.pss_cons (pps_expr (px_append (pv 5) (PPE.x (pp_var (pv 8)))))
 (L3.pss_one (pps_expr (px_append (pv 6) (PPE.x (pp_var (pv 9)))))))))
 (L3.pss_one (pps_frz 6 (pps_frz 5 (pps_ret (pp_tup (ppa_cons (pp_u U__law_blended tk hg (hr.mono (Nat.le_trans (by decide) hln)) rfl (psa_val (pp_var (pv 0)) (psa_val (pp_var (pv 5)) psa_nil))) (ppa_cons (pp_u U_blend_cases tk hg (hr.mono (Nat.le_trans (by decide) hln)) rfl (psa_val (pp_var (pv 0)) (psa_val (pp_var (pv 2)) (psa_val (pp_var (pv 6)) psa_nil)))) ppa_nil))))))))))
theorem o__law_sizes (A : FF K mg "_law_sizes" s__law_sizes) (U__law_of : UP P w K mg base T 2 "_law_of" ["deal", "some"] s__law_of p__law_of) (U__law_modulus : UP P w K mg base T 3 "_law_modulus" ["deal", "k", "top"] s__law_modulus p__law_modulus) : UP P w K mg base T (3 + 1) "_law_sizes" ["deal", "k"] s__law_sizes p__law_sizes := by
  have sc : FnScope ["deal", "k", "many"] ["deal", "k"] (defScope s__law_sizes) := ⟨rfl, rfl, rfl, by decide +kernel, rfl, by decide +kernel, by decide +kernel⟩
  refine up_of (N := ["deal", "k", "many"]) (ts := b__law_sizes) A sc (by decide) (fun _ _ _ _ _ _ us hl => match us, hl with | [_, _], _ => rfl) fun f cv A outer s H E hg hr => ?_
  have tk : Takes (cxOf (L2.CX P w) P w K mg base ["deal", "k", "many"] "_law_sizes" (defScope s__law_sizes) f cv A outer s H E) (fun cls d _ H => E cls d H) := takes_of rfl rfl rfl rfl
  exact (L3.pss_cons (pps_set (i := 2) sc.nd rfl (by first | exact Or.inl rfl | exact Or.inr rfl) (PPE.x (pp_u U__law_of tk hg (hr.mono (by decide)) rfl (psa_deal (pv 0) (psa_val (PF.pp (pf_lst (ppa_cons pp_int (ppa_cons pp_int (ppa_cons pp_int (ppa_cons pp_int (ppa_cons pp_int (ppa_cons pp_int (ppa_cons pp_int ppa_nil))))))))) psa_nil)))))
 (L3.pss_one (pps_ret (pp_tup (ppa_cons (pp_var (pv 2)) (ppa_cons (pp_u U__law_modulus tk hg (hr.mono (by decide)) rfl (psa_deal (pv 0) (psa_val (pp_var (pv 1)) (psa_val (pp_ix (PPE.r (PF.pp (pf_lst (ppa_cons pp_int (ppa_cons pp_int (ppa_cons pp_int (ppa_cons pp_int ppa_nil))))))) (PPE.r (pp_op op_sub subS (pr_var (pv 2)) (PPE.r pp_int)))) psa_nil)))) ppa_nil))))))
end
end Q15
namespace Q15
open PySem PySem.Spec PyProof.Rows L2 LamX L3
section
variable {P : Program} {w : World} {K : PySem.W.Frag} {mg : Str → Option Value} {base : Heap} {T : List (Addr × Str)}
theorem o_law {f fD : Addr} {fd fdD : FuncData} (F : Fun K "law" "law" s_law f fd) (D_draw : FnOk P w K mg base CX0 1 fD fdD ["script", "salt"] (spDraw K)) (d_g : mg "_law_draw" = some (.ref fD)) (d_k : PySem.W.keepIn K (.ref fD) = true) (d_b : Binds K fdD ["script", "salt"] []) (U_is_case : UP P w K mg base T 6 "is_case" ["ingredients", "modulus", "value"] s_is_case p_is_case) (U_all_cases : UP P w K mg base T 5 "all_cases" ["ingredients", "modulus"] s_all_cases p_all_cases) (U_case_of : UP P w K mg base T 4 "case_of" ["k", "mixture", "modulus"] s_case_of p_case_of) (U_blend_cases : UP P w K mg base T 3 "blend_cases" ["k", "modulus", "cases"] s_blend_cases p_blend_cases) (U__law_any : UP P w K mg base T 1 "_law_any" ["deal", "bound"] s__law_any p__law_any) (U__law_of : UP P w K mg base T 2 "_law_of" ["deal", "some"] s__law_of p__law_of) (U__law_some : UP P w K mg base T 2 "_law_some" ["deal", "many"] s__law_some p__law_some) (U__law_mixture : UP P w K mg base T 3 "_law_mixture" ["deal", "k", "many", "deep"] s__law_mixture p__law_mixture) (U__law_case : UP P w K mg base T 3 "_law_case" ["k", "mixture", "d"] s__law_case p__law_case) (U__law_cases : UP P w K mg base T 3 "_law_cases" ["many", "d"] s__law_cases p__law_cases) (U__law_recipe : UP P w K mg base T 7 "_law_recipe" ["deal", "k", "many", "deep"] s__law_recipe p__law_recipe) (U__law_spoil : UP P w K mg base T 9 "_law_spoil" ["deal", "value"] s__law_spoil p__law_spoil) (U__law_is_case : UP P w K mg base T 2 "_law_is_case" ["cases", "value"] s__law_is_case p__law_is_case) (U__law_blended : UP P w K mg base T 3 "_law_blended" ["k", "cups"] s__law_blended p__law_blended) (U__law_walked : UP P w K mg base T 10 "_law_walked" ["k", "many", "d", "recipe"] s__law_walked p__law_walked) (U__law_sizes : UP P w K mg base T 4 "_law_sizes" ["deal", "k"] s__law_sizes p__law_sizes) (z_int : mg "int" = none) (z_range : mg "range" = none) (z_repr : mg "repr" = none) (z_tuple : mg "tuple" = none) :
    FnG P w K mg base (L2.CX P w) (10 + 1) f fd ["script"] (spLaw3 K T) := by
  have sc : FnScope ["script", "deal", "turn", "k", "many", "d", "cases", "more", "case", "value", "rests", "near", "mixture", "cups", "shown", "kept", "cup", "rest"] ["script"] (defScope s_law) := ⟨rfl, rfl, rfl, by decide +kernel, rfl, by decide +kernel, by decide +kernel⟩
  refine law_ok (N := ["script", "deal", "turn", "k", "many", "d", "cases", "more", "case", "value", "rests", "near", "mixture", "cups", "shown", "kept", "cup", "rest"]) (ts := b_law) F sc (by decide) (fun ns hl Q R h => m_law hl h) fun cv A outer s H E hg hr => ?_
  have tk : Takes (cxOf (L2.CX P w) P w K mg base ["script", "deal", "turn", "k", "many", "d", "cases", "more", "case", "value", "rests", "near", "mixture", "cups", "shown", "kept", "cup", "rest"] "law" (defScope s_law) f cv A outer s H E) (fun cls d _ H => E cls d H) := takes_of rfl rfl rfl rfl
  have htop : (⟨fun cls d _ H => E cls d H, T, true⟩ : Wsh).top = true := rfl
  exact (L3.pss_cons (pps_draw (i := 1) D_draw htop (hr.mono (by decide)) rfl d_g d_k d_b pass0X (pp_var (pv 0)) pp_int sc.nd rfl (by first | exact Or.inl rfl | exact Or.inr rfl))
 (L3.pss_cons (pps_for (passes_of rfl) rfl (ppi_range1 rfl z_range (par_cons (PPE.r pp_int) par_nil)) (g_nm 2 sc.nd)
 (L3.pss_cons (pps_set (i := 3) sc.nd rfl (by first | exact Or.inl rfl | exact Or.inr rfl) (PPE.x (pp_u U__law_of tk hg (hr.mono (by decide)) rfl (psa_deal (pv 1) (psa_val (PF.pp (pf_lst (ppa_cons pp_int (ppa_cons pp_int (ppa_cons pp_int (ppa_cons pp_int (ppa_cons pp_int ppa_nil))))))) psa_nil)))))
 (L3.pss_cons (pps_asg (PPE.x (pp_u U__law_sizes tk hg (hr.mono (by decide)) rfl (psa_deal (pv 1) (psa_val (pp_var (pv 3)) psa_nil)))) (ppg_tup rfl (ppgs_cons (g_nm 4 sc.nd) (ppgs_cons (g_nm 5 sc.nd) ppgs_nil))))
 (L3.pss_cons (pps_set (i := 6) sc.nd rfl (by first | exact Or.inl rfl | exact Or.inr rfl) (PPE.x (pp_u U__law_cases tk hg (hr.mono (by decide)) rfl (psa_val (pp_var (pv 4)) (psa_val (pp_var (pv 5)) psa_nil)))))
 (L3.pss_cons (pps_if (pt_cmp op_ne neTS (PPE.r (pp_callB (call_show hg hr.u64) reprS rfl z_repr (by decide +kernel) (par_cons (PPE.r (pp_u U_all_cases tk hg (hr.mono (by decide)) rfl (psa_val (pp_var (pv 4)) (psa_val (pp_var (pv 5)) psa_nil)))) par_nil))) (PPE.r (pp_callB (call_show hg hr.u64) reprS rfl z_repr (by decide +kernel) (par_cons (PPE.r (pp_callTy call_tuple_of tupS rfl z_tuple (by decide +kernel) (par_cons (pr_var (pv 6)) par_nil))) par_nil))) (nomark _))
 (L3.pss_one (pps_ret pp_bl))
 L3.pss_nil)
 (L3.pss_cons (pps_for (passes_of rfl) rfl (ppi_range1 rfl z_range (par_cons (PPE.r pp_int) par_nil)) (g_nm 7 sc.nd)
 (L3.pss_cons (pps_set (i := 8) sc.nd rfl (by first | exact Or.inl rfl | exact Or.inr rfl) (PPE.x (pp_u U__law_of tk hg (hr.mono (by decide)) rfl (psa_deal (pv 1) (psa_val (pp_var (pv 6)) psa_nil)))))
 (L3.pss_cons (pps_for (passes_of rfl) rfl (ppi_seq (pp_tup (ppa_cons (pp_var (pv 8)) (ppa_cons (pp_u U__law_spoil tk hg (hr.mono (by decide)) rfl (psa_deal (pv 1) (psa_val (pp_var (pv 8)) psa_nil))) (ppa_cons (pp_u U__law_spoil tk hg (hr.mono (by decide)) rfl (psa_deal (pv 1) (psa_val (pp_u U__law_of tk hg (hr.mono (by decide)) rfl (psa_deal (pv 1) (psa_val (pp_var (pv 6)) psa_nil))) psa_nil))) ppa_nil))))) (g_nm 9 sc.nd)
 (L3.pss_one (pps_if (pt_cmp op_ne neTS (PPE.r (pp_callB (call_show hg hr.u64) reprS rfl z_repr (by decide +kernel) (par_cons (PPE.r (pp_u U_is_case tk hg (hr.mono (by decide)) rfl (psa_val (pp_var (pv 4)) (psa_val (pp_var (pv 5)) (psa_val (pp_var (pv 9)) psa_nil))))) par_nil))) (PPE.r (pp_callB (call_show hg hr.u64) reprS rfl z_repr (by decide +kernel) (par_cons (PPE.r (pp_u U__law_is_case tk hg (hr.mono (by decide)) rfl (psa_val (pp_var (pv 6)) (psa_val (pp_var (pv 9)) psa_nil)))) par_nil))) (nomark _))
 (L3.pss_one (pps_ret pp_bl))
 L3.pss_nil)))
 (L3.pss_cons (pps_set (i := 10) sc.nd rfl (by first | exact Or.inl rfl | exact Or.inr rfl) (PPE.x (pp_callTy call_tuple_of tupS rfl z_tuple (by decide +kernel) (par_cons (PPE.r (PF.pp (pf_lc (own := [("rest", 17)]) rfl sc.nd (pir_seq (PPE.r (pp_ix (pr_var (pv 8)) (PPE.r pp_int)))) (blkOk_by (N := ["script", "deal", "turn", "k", "many", "d", "cases", "more", "case", "value", "rests", "near", "mixture", "cups", "shown", "kept", "cup", "rest"]) (sc := defScope s_law) (by decide +kernel)) (fun _ _ _ _ _ => (g_nm 17 sc.nd)) (fun _ _ _ _ _ => ppts_nil) (fun _ _ _ _ _ => (pp_op op_mod modS (PPE.r (pp_callTy call_int1 intS rfl z_int (by decide +kernel) (par_cons (PPE.r (pp_op opAdd addS (pr_var (pv 17)) (PPE.r (pp_u U__law_any LamX.takes0 hg (hr.mono (by decide)) rfl (psa_deal (pv 1) (psa_val pp_int psa_nil)))))) par_nil))) (pr_var (pv 5)))) (by decide)))) par_nil))))
 (L3.pss_cons (pps_set (i := 11) sc.nd rfl (by first | exact Or.inl rfl | exact Or.inr rfl) (PPE.x (pp_tup (ppa_cons (pp_u U__law_of tk hg (hr.mono (by decide)) rfl (psa_deal (pv 1) (psa_val (PF.pp (pf_lst (ppa_cons (pp_ix (pr_var (pv 8)) (PPE.r pp_int)) (ppa_cons (pp_ix (pr_var (pv 8)) (PPE.r pp_int)) (ppa_cons (pp_callTy call_tuple_of tupS rfl z_tuple (by decide +kernel) (par_cons (PPE.r (pp_u U__law_some tk hg (hr.mono (by decide)) rfl (psa_deal (pv 1) (psa_val (pp_var (pv 4)) psa_nil)))) par_nil)) ppa_nil))))) psa_nil))) (ppa_cons (pp_var (pv 10)) ppa_nil)))))
 (L3.pss_cons (pps_if (pt_cmp op_ne neTS (PPE.r (pp_callB (call_show hg hr.u64) reprS rfl z_repr (by decide +kernel) (par_cons (PPE.r (pp_u U_is_case tk hg (hr.mono (by decide)) rfl (psa_val (pp_var (pv 4)) (psa_val (pp_var (pv 5)) (psa_val (pp_var (pv 11)) psa_nil))))) par_nil))) (PPE.r (pp_callB (call_show hg hr.u64) reprS rfl z_repr (by decide +kernel) (par_cons (PPE.r (pp_u U__law_is_case tk hg (hr.mono (by decide)) rfl (psa_val (pp_var (pv 6)) (psa_val (pp_var (pv 11)) psa_nil)))) par_nil))) (nomark _))
 (L3.pss_one (pps_ret pp_bl))
 L3.pss_nil)
 (L3.pss_cons (pps_set (i := 12) sc.nd rfl (by first | exact Or.inl rfl | exact Or.inr rfl) (PPE.x (pp_u U__law_mixture tk hg (hr.mono (by decide)) rfl (psa_deal (pv 1) (psa_val (pp_var (pv 3)) (psa_val (pp_var (pv 4)) (psa_val pp_int psa_nil)))))))
 (L3.pss_one (pps_if (pt_cmp op_ne neTS (PPE.r (pp_callB (call_show hg hr.u64) reprS rfl z_repr (by decide +kernel) (par_cons (PPE.r (pp_u U_case_of tk hg (hr.mono (by decide)) rfl (psa_val (pp_var (pv 3)) (psa_val (pp_var (pv 12)) (psa_val (pp_var (pv 5)) psa_nil))))) par_nil))) (PPE.r (pp_callB (call_show hg hr.u64) reprS rfl z_repr (by decide +kernel) (par_cons (PPE.r (pp_u U__law_case tk hg (hr.mono (by decide)) rfl (psa_val (pp_var (pv 3)) (psa_val (pp_var (pv 12)) (psa_val (pp_var (pv 5)) psa_nil))))) par_nil))) (nomark _))
 (L3.pss_one (pps_ret pp_bl))
 L3.pss_nil)))))))))
 (L3.pss_cons (pps_setLcV (i := 13) (own := [("cup", 16)]) rfl sc.nd rfl rfl (sw_true rfl rfl rfl (by decide +kernel)) (PPI.r (ppi_range1 rfl z_range (par_cons (pr_var (pv 3)) par_nil))) (blkOk_by (N := ["script", "deal", "turn", "k", "many", "d", "cases", "more", "case", "value", "rests", "near", "mixture", "cups", "shown", "kept", "cup", "rest"]) (sc := defScope s_law) (by decide +kernel)) (fun _ _ _ _ _ => (g_nm 16 sc.nd)) (fun _ _ _ _ _ => ppts_nil) (fun _ _ _ _ _ => (pp_u U__law_mixture LamX.takes0 hg (hr.mono (by decide)) rfl (psa_deal (pv 1) (psa_val (pp_var (pv 3)) (psa_val (pp_var (pv 4)) (psa_val pp_int psa_nil)))))) (by decide))
 (L3.pss_cons (pps_setLcV (i := 14) (own := [("cup", 16)]) rfl sc.nd rfl rfl (sw_true rfl rfl rfl (by decide +kernel)) (pir_seq (pr_var (pv 13))) (blkOk_by (N := ["script", "deal", "turn", "k", "many", "d", "cases", "more", "case", "value", "rests", "near", "mixture", "cups", "shown", "kept", "cup", "rest"]) (sc := defScope s_law) (by decide +kernel)) (fun _ _ _ _ _ => (g_nm 16 sc.nd)) (fun _ _ _ _ _ => ppts_nil) (fun _ _ _ _ _ => (pp_u U__law_case LamX.takes0 hg (hr.mono (by decide)) rfl (psa_val (pp_var (pv 3)) (psa_val (pp_var (pv 16)) (psa_val (pp_var (pv 5)) psa_nil))))) (by decide))
 (L3.pss_cons (pps_set (i := 15) sc.nd rfl (by first | exact Or.inl rfl | exact Or.inr rfl) (PPE.x (pp_callB (call_show hg hr.u64) reprS rfl z_repr (by decide +kernel) (par_cons (pr_var (pv 14)) par_nil))))
 (L3.pss_cons (pps_if (PW.pt (L3.pw_or (pt_cmp op_ne neTS (PPE.r (pp_callB (call_show hg hr.u64) reprS rfl z_repr (by decide +kernel) (par_cons (PPE.r (pp_u U_blend_cases tk hg (hr.mono (by decide)) rfl (psa_val (pp_var (pv 3)) (psa_val (pp_var (pv 5)) (psa_val (pp_var (pv 14)) psa_nil))))) par_nil))) (PPE.r (pp_callB (call_show hg hr.u64) reprS rfl z_repr (by decide +kernel) (par_cons (PPE.r (pp_u U__law_case tk hg (hr.mono (by decide)) rfl (psa_val (pp_var (pv 3)) (psa_val (pp_u U__law_blended tk hg (hr.mono (by decide)) rfl (psa_val (pp_var (pv 3)) (psa_val (pp_var (pv 13)) psa_nil))) (psa_val (pp_var (pv 5)) psa_nil))))) par_nil))) (nomark _)) (L3.pw_or1 (pt_cmp op_ne neTS (PPE.r (pp_callB (call_show hg hr.u64) reprS rfl z_repr (by decide +kernel) (par_cons (pr_var (pv 14)) par_nil))) (pr_var (pv 15)) (nomark _)))))
 (L3.pss_one (pps_ret pp_bl))
 L3.pss_nil)
 (L3.pss_cons (pps_asg (PPE.x (pp_u U__law_walked tk hg (hr.mono (by decide)) rfl (psa_val (pp_var (pv 3)) (psa_val (pp_var (pv 4)) (psa_val (pp_var (pv 5)) (psa_val (pp_u U__law_recipe tk hg (hr.mono (by decide)) rfl (psa_deal (pv 1) (psa_val (pp_var (pv 3)) (psa_val (pp_var (pv 4)) (psa_val (pp_if (pt_cmp (op_eqD hr.u64) eqS (pr_var (pv 3)) (PPE.r pp_int) (nomark _)) pp_int pp_int) psa_nil))))) psa_nil)))))) (ppg_tup rfl (ppgs_cons (g_nm 12 sc.nd) (ppgs_cons (g_nm 8 sc.nd) ppgs_nil))))
 (L3.pss_one (pps_if (pt_cmp op_ne neTS (PPE.r (pp_callB (call_show hg hr.u64) reprS rfl z_repr (by decide +kernel) (par_cons (pr_var (pv 8)) par_nil))) (PPE.r (pp_callB (call_show hg hr.u64) reprS rfl z_repr (by decide +kernel) (par_cons (PPE.r (pp_u U__law_case tk hg (hr.mono (by decide)) rfl (psa_val (pp_var (pv 3)) (psa_val (pp_var (pv 12)) (psa_val (pp_var (pv 5)) psa_nil))))) par_nil))) (nomark _))
 (L3.pss_one (pps_ret pp_bl))
 L3.pss_nil)))))))))))))
 (L3.pss_one (pps_ret (pp_cmp op_eq eqTS (PPE.r (pp_callB (call_show hg hr.u64) reprS rfl z_repr (by decide +kernel) (par_cons (PPE.r (pp_uK0 (ks := ["mixture", "modulus", "k"]) [2, 0, 1] U_case_of tk hg (hr.mono (by decide)) rfl (by decide) (fun _ _ _ _ _ _ us ws h1 h2 => match us, ws, h1, h2 with | [], [_, _, _], _, _ => rfl) (psk_val (pp_var (pv 12)) (psk_val (pp_var (pv 5)) (psk_val (pp_var (pv 3)) psk_nil))))) par_nil))) (PPE.r (pp_callB (call_show hg hr.u64) reprS rfl z_repr (by decide +kernel) (par_cons (pr_var (pv 8)) par_nil))) (nomark _))))))
end
theorem all_mk {l : PySem.W.OpenLaw} {w : World} {K : PySem.W.Frag} {h : Heap} {mg : Str → Option Value} {fa f00 f01 f02 f03 f04 f05 f06 f07 f08 f09 f10 f11 f12 f13 f14 f15 f16 f17 f18 f19 f20 f21 f22 f23 f24 f25 f26 f27 f28 f29 f30 f31 f32 f33 f34 f35 f36 f37 f38 f39 f40 : Addr}  (KX : K.In h) (GN : h.Ns mainGlobals mg) (hfa : mg "law" = some (.ref fa))
    {od00 an00 : Option Addr} {sl00 : Array (Option Value)} {oc00 kV00 dc00 pm00 cd00 ct00 : Value}
    {od01 an01 : Option Addr} {sl01 : Array (Option Value)} {oc01 kV01 dc01 pm01 cd01 ct01 : Value}
    {od02 an02 : Option Addr} {sl02 : Array (Option Value)} {oc02 kV02 dc02 pm02 cd02 ct02 : Value}
    {od03 an03 : Option Addr} {sl03 : Array (Option Value)} {oc03 kV03 dc03 pm03 cd03 ct03 : Value}
    {od04 an04 : Option Addr} {sl04 : Array (Option Value)} {oc04 kV04 dc04 pm04 cd04 ct04 : Value}
    {od05 an05 : Option Addr} {sl05 : Array (Option Value)} {oc05 kV05 dc05 pm05 cd05 ct05 : Value}
    {od06 an06 : Option Addr} {sl06 : Array (Option Value)} {oc06 kV06 dc06 pm06 cd06 ct06 : Value}
    {od07 an07 : Option Addr} {sl07 : Array (Option Value)} {oc07 kV07 dc07 pm07 cd07 ct07 : Value}
    {od08 an08 : Option Addr} {sl08 : Array (Option Value)} {oc08 kV08 dc08 pm08 cd08 ct08 : Value}
    {od09 an09 : Option Addr} {sl09 : Array (Option Value)} {oc09 kV09 dc09 pm09 cd09 ct09 : Value}
    {od10 an10 : Option Addr} {sl10 : Array (Option Value)} {oc10 kV10 dc10 pm10 cd10 ct10 : Value}
    {od11 an11 : Option Addr} {sl11 : Array (Option Value)} {oc11 kV11 dc11 pm11 cd11 ct11 : Value}
    {od12 an12 : Option Addr} {sl12 : Array (Option Value)} {oc12 kV12 dc12 pm12 cd12 ct12 : Value}
    {od13 an13 : Option Addr} {sl13 : Array (Option Value)} {oc13 kV13 dc13 pm13 cd13 ct13 : Value}
    {od14 an14 : Option Addr} {sl14 : Array (Option Value)} {oc14 kV14 dc14 pm14 cd14 ct14 : Value}
    {od15 an15 : Option Addr} {sl15 : Array (Option Value)} {oc15 kV15 dc15 pm15 cd15 ct15 : Value}
    {od16 an16 : Option Addr} {sl16 : Array (Option Value)} {oc16 kV16 dc16 pm16 cd16 ct16 : Value}
    {od17 an17 : Option Addr} {sl17 : Array (Option Value)} {oc17 kV17 dc17 pm17 cd17 ct17 : Value}
    {od18 an18 : Option Addr} {sl18 : Array (Option Value)} {oc18 kV18 dc18 pm18 cd18 ct18 : Value}
    {od19 an19 : Option Addr} {sl19 : Array (Option Value)} {oc19 kV19 dc19 pm19 cd19 ct19 : Value}
    {od20 an20 : Option Addr} {sl20 : Array (Option Value)} {oc20 kV20 dc20 pm20 cd20 ct20 : Value}
    {od21 an21 : Option Addr} {sl21 : Array (Option Value)} {oc21 kV21 dc21 pm21 cd21 ct21 : Value}
    {od22 an22 : Option Addr} {sl22 : Array (Option Value)} {oc22 kV22 dc22 pm22 cd22 ct22 : Value}
    {od23 an23 : Option Addr} {sl23 : Array (Option Value)} {oc23 kV23 dc23 pm23 cd23 ct23 : Value}
    {od24 an24 : Option Addr} {sl24 : Array (Option Value)} {oc24 kV24 dc24 pm24 cd24 ct24 : Value}
    {od25 an25 : Option Addr} {sl25 : Array (Option Value)} {oc25 kV25 dc25 pm25 cd25 ct25 : Value}
    {od26 an26 : Option Addr} {sl26 : Array (Option Value)} {oc26 kV26 dc26 pm26 cd26 ct26 : Value}
    {od27 an27 : Option Addr} {sl27 : Array (Option Value)} {oc27 kV27 dc27 pm27 cd27 ct27 : Value}
    {od28 an28 : Option Addr} {sl28 : Array (Option Value)} {oc28 kV28 dc28 pm28 cd28 ct28 : Value}
    {od29 an29 : Option Addr} {sl29 : Array (Option Value)} {oc29 kV29 dc29 pm29 cd29 ct29 : Value}
    {od30 an30 : Option Addr} {sl30 : Array (Option Value)} {oc30 kV30 dc30 pm30 cd30 ct30 : Value}
    {od31 an31 : Option Addr} {sl31 : Array (Option Value)} {oc31 kV31 dc31 pm31 cd31 ct31 : Value}
    {od32 an32 : Option Addr} {sl32 : Array (Option Value)} {oc32 kV32 dc32 pm32 cd32 ct32 : Value}
    {od33 an33 : Option Addr} {sl33 : Array (Option Value)} {oc33 kV33 dc33 pm33 cd33 ct33 : Value}
    {od34 an34 : Option Addr} {sl34 : Array (Option Value)} {oc34 kV34 dc34 pm34 cd34 ct34 : Value}
    {od35 an35 : Option Addr} {sl35 : Array (Option Value)} {oc35 kV35 dc35 pm35 cd35 ct35 : Value}
    {od36 an36 : Option Addr} {sl36 : Array (Option Value)} {oc36 kV36 dc36 pm36 cd36 ct36 : Value}
    {od37 an37 : Option Addr} {sl37 : Array (Option Value)} {oc37 kV37 dc37 pm37 cd37 ct37 : Value}
    {od38 an38 : Option Addr} {sl38 : Array (Option Value)} {oc38 kV38 dc38 pm38 cd38 ct38 : Value}
    {od39 an39 : Option Addr} {sl39 : Array (Option Value)} {oc39 kV39 dc39 pm39 cd39 ct39 : Value}
    {od40 an40 : Option Addr} {sl40 : Array (Option Value)} {oc40 kV40 dc40 pm40 cd40 ct40 : Value}
    (a00 : PySem.W.nsIn K mainGlobals "_law_draw" = some (some (.ref f00)))
    (l00 : K.lookup f00 = some ⟨oc00, od00, .func (PySem.W.fnOf "_law_draw" "_law_draw" (defArgs s__law_draw) (defBody s__law_draw) (defScope s__law_draw) .none kV00 dc00 pm00 an00 cd00 ct00), sl00⟩)
    (d00 : PySem.W.codeIn K cd00 "_law_draw" = true)
    (k00 : PySem.W.keepIn K (.ref f00) = true)
    (a01 : PySem.W.nsIn K mainGlobals "_law_any" = some (some (.ref f01)))
    (l01 : K.lookup f01 = some ⟨oc01, od01, .func (PySem.W.fnOf "_law_any" "_law_any" (defArgs s__law_any) (defBody s__law_any) (defScope s__law_any) .none kV01 dc01 pm01 an01 cd01 ct01), sl01⟩)
    (d01 : PySem.W.codeIn K cd01 "_law_any" = true)
    (k01 : PySem.W.keepIn K (.ref f01) = true)
    (a02 : PySem.W.nsIn K mainGlobals "power_modulo" = some (some (.ref f02)))
    (l02 : K.lookup f02 = some ⟨oc02, od02, .func (PySem.W.fnOf "power_modulo" "power_modulo" (defArgs s_power_modulo) (defBody s_power_modulo) (defScope s_power_modulo) .none kV02 dc02 pm02 an02 cd02 ct02), sl02⟩)
    (d02 : PySem.W.codeIn K cd02 "power_modulo" = true)
    (k02 : PySem.W.keepIn K (.ref f02) = true)
    (a03 : PySem.W.nsIn K mainGlobals "inverse" = some (some (.ref f03)))
    (l03 : K.lookup f03 = some ⟨oc03, od03, .func (PySem.W.fnOf "inverse" "inverse" (defArgs s_inverse) (defBody s_inverse) (defScope s_inverse) .none kV03 dc03 pm03 an03 cd03 ct03), sl03⟩)
    (d03 : PySem.W.codeIn K cd03 "inverse" = true)
    (k03 : PySem.W.keepIn K (.ref f03) = true)
    (a04 : PySem.W.nsIn K mainGlobals "is_integer" = some (some (.ref f04)))
    (l04 : K.lookup f04 = some ⟨oc04, od04, .func (PySem.W.fnOf "is_integer" "is_integer" (defArgs s_is_integer) (defBody s_is_integer) (defScope s_is_integer) .none kV04 dc04 pm04 an04 cd04 ct04), sl04⟩)
    (d04 : PySem.W.codeIn K cd04 "is_integer" = true)
    (k04 : PySem.W.keepIn K (.ref f04) = true)
    (a05 : PySem.W.nsIn K mainGlobals "is_number" = some (some (.ref f05)))
    (l05 : K.lookup f05 = some ⟨oc05, od05, .func (PySem.W.fnOf "is_number" "is_number" (defArgs s_is_number) (defBody s_is_number) (defScope s_is_number) .none kV05 dc05 pm05 an05 cd05 ct05), sl05⟩)
    (d05 : PySem.W.codeIn K cd05 "is_number" = true)
    (k05 : PySem.W.keepIn K (.ref f05) = true)
    (a06 : PySem.W.nsIn K mainGlobals "is_below" = some (some (.ref f06)))
    (l06 : K.lookup f06 = some ⟨oc06, od06, .func (PySem.W.fnOf "is_below" "is_below" (defArgs s_is_below) (defBody s_is_below) (defScope s_is_below) .none kV06 dc06 pm06 an06 cd06 ct06), sl06⟩)
    (d06 : PySem.W.codeIn K cd06 "is_below" = true)
    (k06 : PySem.W.keepIn K (.ref f06) = true)
    (a07 : PySem.W.nsIn K mainGlobals "is_tuple" = some (some (.ref f07)))
    (l07 : K.lookup f07 = some ⟨oc07, od07, .func (PySem.W.fnOf "is_tuple" "is_tuple" (defArgs s_is_tuple) (defBody s_is_tuple) (defScope s_is_tuple) .none kV07 dc07 pm07 an07 cd07 ct07), sl07⟩)
    (d07 : PySem.W.codeIn K cd07 "is_tuple" = true)
    (k07 : PySem.W.keepIn K (.ref f07) = true)
    (a08 : PySem.W.nsIn K mainGlobals "are_below" = some (some (.ref f08)))
    (l08 : K.lookup f08 = some ⟨oc08, od08, .func (PySem.W.fnOf "are_below" "are_below" (defArgs s_are_below) (defBody s_are_below) (defScope s_are_below) .none kV08 dc08 pm08 an08 cd08 ct08), sl08⟩)
    (d08 : PySem.W.codeIn K cd08 "are_below" = true)
    (k08 : PySem.W.keepIn K (.ref f08) = true)
    (a09 : PySem.W.nsIn K mainGlobals "is_ascending" = some (some (.ref f09)))
    (l09 : K.lookup f09 = some ⟨oc09, od09, .func (PySem.W.fnOf "is_ascending" "is_ascending" (defArgs s_is_ascending) (defBody s_is_ascending) (defScope s_is_ascending) .none kV09 dc09 pm09 an09 cd09 ct09), sl09⟩)
    (d09 : PySem.W.codeIn K cd09 "is_ascending" = true)
    (k09 : PySem.W.keepIn K (.ref f09) = true)
    (a10 : PySem.W.nsIn K mainGlobals "tuples_of" = some (some (.ref f10)))
    (l10 : K.lookup f10 = some ⟨oc10, od10, .func (PySem.W.fnOf "tuples_of" "tuples_of" (defArgs s_tuples_of) (defBody s_tuples_of) (defScope s_tuples_of) .none kV10 dc10 pm10 an10 cd10 ct10), sl10⟩)
    (d10 : PySem.W.codeIn K cd10 "tuples_of" = true)
    (k10 : PySem.W.keepIn K (.ref f10) = true)
    (a11 : PySem.W.nsIn K mainGlobals "tuples_below" = some (some (.ref f11)))
    (l11 : K.lookup f11 = some ⟨oc11, od11, .func (PySem.W.fnOf "tuples_below" "tuples_below" (defArgs s_tuples_below) (defBody s_tuples_below) (defScope s_tuples_below) .none kV11 dc11 pm11 an11 cd11 ct11), sl11⟩)
    (d11 : PySem.W.codeIn K cd11 "tuples_below" = true)
    (k11 : PySem.W.keepIn K (.ref f11) = true)
    (a12 : PySem.W.nsIn K mainGlobals "subsets" = some (some (.ref f12)))
    (l12 : K.lookup f12 = some ⟨oc12, od12, .func (PySem.W.fnOf "subsets" "subsets" (defArgs s_subsets) (defBody s_subsets) (defScope s_subsets) .none kV12 dc12 pm12 an12 cd12 ct12), sl12⟩)
    (d12 : PySem.W.codeIn K cd12 "subsets" = true)
    (k12 : PySem.W.keepIn K (.ref f12) = true)
    (a13 : PySem.W.nsIn K mainGlobals "contained" = some (some (.ref f13)))
    (l13 : K.lookup f13 = some ⟨oc13, od13, .func (PySem.W.fnOf "contained" "contained" (defArgs s_contained) (defBody s_contained) (defScope s_contained) .none kV13 dc13 pm13 an13 cd13 ct13), sl13⟩)
    (d13 : PySem.W.codeIn K cd13 "contained" = true)
    (k13 : PySem.W.keepIn K (.ref f13) = true)
    (a14 : PySem.W.nsIn K mainGlobals "remainders" = some (some (.ref f14)))
    (l14 : K.lookup f14 = some ⟨oc14, od14, .func (PySem.W.fnOf "remainders" "remainders" (defArgs s_remainders) (defBody s_remainders) (defScope s_remainders) .none kV14 dc14 pm14 an14 cd14 ct14), sl14⟩)
    (d14 : PySem.W.codeIn K cd14 "remainders" = true)
    (k14 : PySem.W.keepIn K (.ref f14) = true)
    (a15 : PySem.W.nsIn K mainGlobals "is_case" = some (some (.ref f15)))
    (l15 : K.lookup f15 = some ⟨oc15, od15, .func (PySem.W.fnOf "is_case" "is_case" (defArgs s_is_case) (defBody s_is_case) (defScope s_is_case) .none kV15 dc15 pm15 an15 cd15 ct15), sl15⟩)
    (d15 : PySem.W.codeIn K cd15 "is_case" = true)
    (k15 : PySem.W.keepIn K (.ref f15) = true)
    (a16 : PySem.W.nsIn K mainGlobals "all_sets" = some (some (.ref f16)))
    (l16 : K.lookup f16 = some ⟨oc16, od16, .func (PySem.W.fnOf "all_sets" "all_sets" (defArgs s_all_sets) (defBody s_all_sets) (defScope s_all_sets) .none kV16 dc16 pm16 an16 cd16 ct16), sl16⟩)
    (d16 : PySem.W.codeIn K cd16 "all_sets" = true)
    (k16 : PySem.W.keepIn K (.ref f16) = true)
    (a17 : PySem.W.nsIn K mainGlobals "rest_rows" = some (some (.ref f17)))
    (l17 : K.lookup f17 = some ⟨oc17, od17, .func (PySem.W.fnOf "rest_rows" "rest_rows" (defArgs s_rest_rows) (defBody s_rest_rows) (defScope s_rest_rows) .none kV17 dc17 pm17 an17 cd17 ct17), sl17⟩)
    (d17 : PySem.W.codeIn K cd17 "rest_rows" = true)
    (k17 : PySem.W.keepIn K (.ref f17) = true)
    (a18 : PySem.W.nsIn K mainGlobals "all_cases" = some (some (.ref f18)))
    (l18 : K.lookup f18 = some ⟨oc18, od18, .func (PySem.W.fnOf "all_cases" "all_cases" (defArgs s_all_cases) (defBody s_all_cases) (defScope s_all_cases) .none kV18 dc18 pm18 an18 cd18 ct18), sl18⟩)
    (d18 : PySem.W.codeIn K cd18 "all_cases" = true)
    (k18 : PySem.W.keepIn K (.ref f18) = true)
    (a19 : PySem.W.nsIn K mainGlobals "case_of" = some (some (.ref f19)))
    (l19 : K.lookup f19 = some ⟨oc19, od19, .func (PySem.W.fnOf "case_of" "case_of" (defArgs s_case_of) (defBody s_case_of) (defScope s_case_of) .none kV19 dc19 pm19 an19 cd19 ct19), sl19⟩)
    (d19 : PySem.W.codeIn K cd19 "case_of" = true)
    (k19 : PySem.W.keepIn K (.ref f19) = true)
    (a20 : PySem.W.nsIn K mainGlobals "blend_cases" = some (some (.ref f20)))
    (l20 : K.lookup f20 = some ⟨oc20, od20, .func (PySem.W.fnOf "blend_cases" "blend_cases" (defArgs s_blend_cases) (defBody s_blend_cases) (defScope s_blend_cases) .none kV20 dc20 pm20 an20 cd20 ct20), sl20⟩)
    (d20 : PySem.W.codeIn K cd20 "blend_cases" = true)
    (k20 : PySem.W.keepIn K (.ref f20) = true)
    (a21 : PySem.W.nsIn K mainGlobals "_law_of" = some (some (.ref f21)))
    (l21 : K.lookup f21 = some ⟨oc21, od21, .func (PySem.W.fnOf "_law_of" "_law_of" (defArgs s__law_of) (defBody s__law_of) (defScope s__law_of) .none kV21 dc21 pm21 an21 cd21 ct21), sl21⟩)
    (d21 : PySem.W.codeIn K cd21 "_law_of" = true)
    (k21 : PySem.W.keepIn K (.ref f21) = true)
    (a22 : PySem.W.nsIn K mainGlobals "_law_power" = some (some (.ref f22)))
    (l22 : K.lookup f22 = some ⟨oc22, od22, .func (PySem.W.fnOf "_law_power" "_law_power" (defArgs s__law_power) (defBody s__law_power) (defScope s__law_power) .none kV22 dc22 pm22 an22 cd22 ct22), sl22⟩)
    (d22 : PySem.W.codeIn K cd22 "_law_power" = true)
    (k22 : PySem.W.keepIn K (.ref f22) = true)
    (a23 : PySem.W.nsIn K mainGlobals "_law_gcd" = some (some (.ref f23)))
    (l23 : K.lookup f23 = some ⟨oc23, od23, .func (PySem.W.fnOf "_law_gcd" "_law_gcd" (defArgs s__law_gcd) (defBody s__law_gcd) (defScope s__law_gcd) .none kV23 dc23 pm23 an23 cd23 ct23), sl23⟩)
    (d23 : PySem.W.codeIn K cd23 "_law_gcd" = true)
    (k23 : PySem.W.keepIn K (.ref f23) = true)
    (a24 : PySem.W.nsIn K mainGlobals "_law_modulus" = some (some (.ref f24)))
    (l24 : K.lookup f24 = some ⟨oc24, od24, .func (PySem.W.fnOf "_law_modulus" "_law_modulus" (defArgs s__law_modulus) (defBody s__law_modulus) (defScope s__law_modulus) .none kV24 dc24 pm24 an24 cd24 ct24), sl24⟩)
    (d24 : PySem.W.codeIn K cd24 "_law_modulus" = true)
    (k24 : PySem.W.keepIn K (.ref f24) = true)
    (a25 : PySem.W.nsIn K mainGlobals "_law_lowest" = some (some (.ref f25)))
    (l25 : K.lookup f25 = some ⟨oc25, od25, .func (PySem.W.fnOf "_law_lowest" "_law_lowest" (defArgs s__law_lowest) (defBody s__law_lowest) (defScope s__law_lowest) .none kV25 dc25 pm25 an25 cd25 ct25), sl25⟩)
    (d25 : PySem.W.codeIn K cd25 "_law_lowest" = true)
    (k25 : PySem.W.keepIn K (.ref f25) = true)
    (a26 : PySem.W.nsIn K mainGlobals "_law_split" = some (some (.ref f26)))
    (l26 : K.lookup f26 = some ⟨oc26, od26, .func (PySem.W.fnOf "_law_split" "_law_split" (defArgs s__law_split) (defBody s__law_split) (defScope s__law_split) .none kV26 dc26 pm26 an26 cd26 ct26), sl26⟩)
    (d26 : PySem.W.codeIn K cd26 "_law_split" = true)
    (k26 : PySem.W.keepIn K (.ref f26) = true)
    (a27 : PySem.W.nsIn K mainGlobals "_law_some" = some (some (.ref f27)))
    (l27 : K.lookup f27 = some ⟨oc27, od27, .func (PySem.W.fnOf "_law_some" "_law_some" (defArgs s__law_some) (defBody s__law_some) (defScope s__law_some) .none kV27 dc27 pm27 an27 cd27 ct27), sl27⟩)
    (d27 : PySem.W.codeIn K cd27 "_law_some" = true)
    (k27 : PySem.W.keepIn K (.ref f27) = true)
    (a28 : PySem.W.nsIn K mainGlobals "_law_mixture" = some (some (.ref f28)))
    (l28 : K.lookup f28 = some ⟨oc28, od28, .func (PySem.W.fnOf "_law_mixture" "_law_mixture" (defArgs s__law_mixture) (defBody s__law_mixture) (defScope s__law_mixture) .none kV28 dc28 pm28 an28 cd28 ct28), sl28⟩)
    (d28 : PySem.W.codeIn K cd28 "_law_mixture" = true)
    (k28 : PySem.W.keepIn K (.ref f28) = true)
    (a29 : PySem.W.nsIn K mainGlobals "_law_rest" = some (some (.ref f29)))
    (l29 : K.lookup f29 = some ⟨oc29, od29, .func (PySem.W.fnOf "_law_rest" "_law_rest" (defArgs s__law_rest) (defBody s__law_rest) (defScope s__law_rest) .none kV29 dc29 pm29 an29 cd29 ct29), sl29⟩)
    (d29 : PySem.W.codeIn K cd29 "_law_rest" = true)
    (k29 : PySem.W.keepIn K (.ref f29) = true)
    (a30 : PySem.W.nsIn K mainGlobals "_law_case" = some (some (.ref f30)))
    (l30 : K.lookup f30 = some ⟨oc30, od30, .func (PySem.W.fnOf "_law_case" "_law_case" (defArgs s__law_case) (defBody s__law_case) (defScope s__law_case) .none kV30 dc30 pm30 an30 cd30 ct30), sl30⟩)
    (d30 : PySem.W.codeIn K cd30 "_law_case" = true)
    (k30 : PySem.W.keepIn K (.ref f30) = true)
    (a31 : PySem.W.nsIn K mainGlobals "_law_sets" = some (some (.ref f31)))
    (l31 : K.lookup f31 = some ⟨oc31, od31, .func (PySem.W.fnOf "_law_sets" "_law_sets" (defArgs s__law_sets) (defBody s__law_sets) (defScope s__law_sets) .none kV31 dc31 pm31 an31 cd31 ct31), sl31⟩)
    (d31 : PySem.W.codeIn K cd31 "_law_sets" = true)
    (k31 : PySem.W.keepIn K (.ref f31) = true)
    (a32 : PySem.W.nsIn K mainGlobals "_law_cases" = some (some (.ref f32)))
    (l32 : K.lookup f32 = some ⟨oc32, od32, .func (PySem.W.fnOf "_law_cases" "_law_cases" (defArgs s__law_cases) (defBody s__law_cases) (defScope s__law_cases) .none kV32 dc32 pm32 an32 cd32 ct32), sl32⟩)
    (d32 : PySem.W.codeIn K cd32 "_law_cases" = true)
    (k32 : PySem.W.keepIn K (.ref f32) = true)
    (a33 : PySem.W.nsIn K mainGlobals "_law_recipe" = some (some (.ref f33)))
    (l33 : K.lookup f33 = some ⟨oc33, od33, .func (PySem.W.fnOf "_law_recipe" "_law_recipe" (defArgs s__law_recipe) (defBody s__law_recipe) (defScope s__law_recipe) .none kV33 dc33 pm33 an33 cd33 ct33), sl33⟩)
    (d33 : PySem.W.codeIn K cd33 "_law_recipe" = true)
    (k33 : PySem.W.keepIn K (.ref f33) = true)
    (a34 : PySem.W.nsIn K mainGlobals "_law_stray" = some (some (.ref f34)))
    (l34 : K.lookup f34 = some ⟨oc34, od34, .func (PySem.W.fnOf "_law_stray" "_law_stray" (defArgs s__law_stray) (defBody s__law_stray) (defScope s__law_stray) .none kV34 dc34 pm34 an34 cd34 ct34), sl34⟩)
    (d34 : PySem.W.codeIn K cd34 "_law_stray" = true)
    (k34 : PySem.W.keepIn K (.ref f34) = true)
    (a35 : PySem.W.nsIn K mainGlobals "_law_spoil" = some (some (.ref f35)))
    (l35 : K.lookup f35 = some ⟨oc35, od35, .func (PySem.W.fnOf "_law_spoil" "_law_spoil" (defArgs s__law_spoil) (defBody s__law_spoil) (defScope s__law_spoil) .none kV35 dc35 pm35 an35 cd35 ct35), sl35⟩)
    (d35 : PySem.W.codeIn K cd35 "_law_spoil" = true)
    (k35 : PySem.W.keepIn K (.ref f35) = true)
    (a36 : PySem.W.nsIn K mainGlobals "_law_is_case" = some (some (.ref f36)))
    (l36 : K.lookup f36 = some ⟨oc36, od36, .func (PySem.W.fnOf "_law_is_case" "_law_is_case" (defArgs s__law_is_case) (defBody s__law_is_case) (defScope s__law_is_case) .none kV36 dc36 pm36 an36 cd36 ct36), sl36⟩)
    (d36 : PySem.W.codeIn K cd36 "_law_is_case" = true)
    (k36 : PySem.W.keepIn K (.ref f36) = true)
    (a37 : PySem.W.nsIn K mainGlobals "_law_blended" = some (some (.ref f37)))
    (l37 : K.lookup f37 = some ⟨oc37, od37, .func (PySem.W.fnOf "_law_blended" "_law_blended" (defArgs s__law_blended) (defBody s__law_blended) (defScope s__law_blended) .none kV37 dc37 pm37 an37 cd37 ct37), sl37⟩)
    (d37 : PySem.W.codeIn K cd37 "_law_blended" = true)
    (k37 : PySem.W.keepIn K (.ref f37) = true)
    (a38 : PySem.W.nsIn K mainGlobals "_law_walked" = some (some (.ref f38)))
    (l38 : K.lookup f38 = some ⟨oc38, od38, .func (PySem.W.fnOf "_law_walked" "_law_walked" (defArgs s__law_walked) (defBody s__law_walked) (defScope s__law_walked) .none kV38 dc38 pm38 an38 cd38 ct38), sl38⟩)
    (d38 : PySem.W.codeIn K cd38 "_law_walked" = true)
    (k38 : PySem.W.keepIn K (.ref f38) = true)
    (a39 : PySem.W.nsIn K mainGlobals "_law_sizes" = some (some (.ref f39)))
    (l39 : K.lookup f39 = some ⟨oc39, od39, .func (PySem.W.fnOf "_law_sizes" "_law_sizes" (defArgs s__law_sizes) (defBody s__law_sizes) (defScope s__law_sizes) .none kV39 dc39 pm39 an39 cd39 ct39), sl39⟩)
    (d39 : PySem.W.codeIn K cd39 "_law_sizes" = true)
    (k39 : PySem.W.keepIn K (.ref f39) = true)
    (a40 : PySem.W.nsIn K mainGlobals "law" = some (some (.ref f40)))
    (l40 : K.lookup f40 = some ⟨oc40, od40, .func (PySem.W.fnOf "law" "law" (defArgs s_law) (defBody s_law) (defScope s_law) .none kV40 dc40 pm40 an40 cd40 ct40), sl40⟩)
    (d40 : PySem.W.codeIn K cd40 "law" = true)
    (k40 : PySem.W.keepIn K (.ref f40) = true)
    (z_abs : PySem.W.nsIn K mainGlobals "abs" = some none)
    (z_all : PySem.W.nsIn K mainGlobals "all" = some none)
    (z_any : PySem.W.nsIn K mainGlobals "any" = some none)
    (z_bool : PySem.W.nsIn K mainGlobals "bool" = some none)
    (z_enumerate : PySem.W.nsIn K mainGlobals "enumerate" = some none)
    (z_int : PySem.W.nsIn K mainGlobals "int" = some none)
    (z_isinstance : PySem.W.nsIn K mainGlobals "isinstance" = some none)
    (z_len : PySem.W.nsIn K mainGlobals "len" = some none)
    (z_list : PySem.W.nsIn K mainGlobals "list" = some none)
    (z_max : PySem.W.nsIn K mainGlobals "max" = some none)
    (z_min : PySem.W.nsIn K mainGlobals "min" = some none)
    (z_range : PySem.W.nsIn K mainGlobals "range" = some none)
    (z_repr : PySem.W.nsIn K mainGlobals "repr" = some none)
    (z_set : PySem.W.nsIn K mainGlobals "set" = some none)
    (z_sorted : PySem.W.nsIn K mainGlobals "sorted" = some none)
    (z_str : PySem.W.nsIn K mainGlobals "str" = some none)
    (z_sum : PySem.W.nsIn K mainGlobals "sum" = some none)
    (z_tuple : PySem.W.nsIn K mainGlobals "tuple" = some none) :
    LawAtG l w K (L2.CX l.prog w) 12 63 "script" mg fa h := by
  have e := hfa.symm.trans (PySem.W.mg_of KX GN a40)
  cases e
  have g := fun {x : Str} {v : Value} (e : PySem.W.nsIn K mainGlobals x = some (some v)) => PySem.W.mg_of KX GN e
  have z := fun {x : Str} (e : PySem.W.nsIn K mainGlobals x = some none) => PySem.W.mg_none_of KX GN e
  have F00 := fun_mk (st := s__law_draw) l00 d00 k00
  have F01 := fun_mk (st := s__law_any) l01 d01 k01
  have F02 := fun_mk (st := s_power_modulo) l02 d02 k02
  have A_power_modulo : FF K mg "power_modulo" s_power_modulo := ff_mk F02 (g a02)
  have F03 := fun_mk (st := s_inverse) l03 d03 k03
  have A_inverse : FF K mg "inverse" s_inverse := ff_mk F03 (g a03)
  have F04 := fun_mk (st := s_is_integer) l04 d04 k04
  have A_is_integer : FF K mg "is_integer" s_is_integer := ff_mk F04 (g a04)
  have F05 := fun_mk (st := s_is_number) l05 d05 k05
  have A_is_number : FF K mg "is_number" s_is_number := ff_mk F05 (g a05)
  have F06 := fun_mk (st := s_is_below) l06 d06 k06
  have A_is_below : FF K mg "is_below" s_is_below := ff_mk F06 (g a06)
  have F07 := fun_mk (st := s_is_tuple) l07 d07 k07
  have A_is_tuple : FF K mg "is_tuple" s_is_tuple := ff_mk F07 (g a07)
  have F08 := fun_mk (st := s_are_below) l08 d08 k08
  have A_are_below : FF K mg "are_below" s_are_below := ff_mk F08 (g a08)
  have F09 := fun_mk (st := s_is_ascending) l09 d09 k09
  have A_is_ascending : FF K mg "is_ascending" s_is_ascending := ff_mk F09 (g a09)
  have F10 := fun_mk (st := s_tuples_of) l10 d10 k10
  have A_tuples_of : FF K mg "tuples_of" s_tuples_of := ff_mk F10 (g a10)
  have F11 := fun_mk (st := s_tuples_below) l11 d11 k11
  have A_tuples_below : FF K mg "tuples_below" s_tuples_below := ff_mk F11 (g a11)
  have F12 := fun_mk (st := s_subsets) l12 d12 k12
  have A_subsets : FF K mg "subsets" s_subsets := ff_mk F12 (g a12)
  have F13 := fun_mk (st := s_contained) l13 d13 k13
  have A_contained : FF K mg "contained" s_contained := ff_mk F13 (g a13)
  have F14 := fun_mk (st := s_remainders) l14 d14 k14
  have A_remainders : FF K mg "remainders" s_remainders := ff_mk F14 (g a14)
  have F15 := fun_mk (st := s_is_case) l15 d15 k15
  have A_is_case : FF K mg "is_case" s_is_case := ff_mk F15 (g a15)
  have F16 := fun_mk (st := s_all_sets) l16 d16 k16
  have A_all_sets : FF K mg "all_sets" s_all_sets := ff_mk F16 (g a16)
  have F17 := fun_mk (st := s_rest_rows) l17 d17 k17
  have A_rest_rows : FF K mg "rest_rows" s_rest_rows := ff_mk F17 (g a17)
  have F18 := fun_mk (st := s_all_cases) l18 d18 k18
  have A_all_cases : FF K mg "all_cases" s_all_cases := ff_mk F18 (g a18)
  have F19 := fun_mk (st := s_case_of) l19 d19 k19
  have A_case_of : FF K mg "case_of" s_case_of := ff_mk F19 (g a19)
  have F20 := fun_mk (st := s_blend_cases) l20 d20 k20
  have A_blend_cases : FF K mg "blend_cases" s_blend_cases := ff_mk F20 (g a20)
  have F21 := fun_mk (st := s__law_of) l21 d21 k21
  have A__law_of : FF K mg "_law_of" s__law_of := ff_mk F21 (g a21)
  have F22 := fun_mk (st := s__law_power) l22 d22 k22
  have A__law_power : FF K mg "_law_power" s__law_power := ff_mk F22 (g a22)
  have F23 := fun_mk (st := s__law_gcd) l23 d23 k23
  have A__law_gcd : FF K mg "_law_gcd" s__law_gcd := ff_mk F23 (g a23)
  have F24 := fun_mk (st := s__law_modulus) l24 d24 k24
  have A__law_modulus : FF K mg "_law_modulus" s__law_modulus := ff_mk F24 (g a24)
  have F25 := fun_mk (st := s__law_lowest) l25 d25 k25
  have A__law_lowest : FF K mg "_law_lowest" s__law_lowest := ff_mk F25 (g a25)
  have F26 := fun_mk (st := s__law_split) l26 d26 k26
  have A__law_split : FF K mg "_law_split" s__law_split := ff_mk F26 (g a26)
  have F27 := fun_mk (st := s__law_some) l27 d27 k27
  have A__law_some : FF K mg "_law_some" s__law_some := ff_mk F27 (g a27)
  have F28 := fun_mk (st := s__law_mixture) l28 d28 k28
  have A__law_mixture : FF K mg "_law_mixture" s__law_mixture := ff_mk F28 (g a28)
  have F29 := fun_mk (st := s__law_rest) l29 d29 k29
  have A__law_rest : FF K mg "_law_rest" s__law_rest := ff_mk F29 (g a29)
  have F30 := fun_mk (st := s__law_case) l30 d30 k30
  have A__law_case : FF K mg "_law_case" s__law_case := ff_mk F30 (g a30)
  have F31 := fun_mk (st := s__law_sets) l31 d31 k31
  have A__law_sets : FF K mg "_law_sets" s__law_sets := ff_mk F31 (g a31)
  have F32 := fun_mk (st := s__law_cases) l32 d32 k32
  have A__law_cases : FF K mg "_law_cases" s__law_cases := ff_mk F32 (g a32)
  have F33 := fun_mk (st := s__law_recipe) l33 d33 k33
  have A__law_recipe : FF K mg "_law_recipe" s__law_recipe := ff_mk F33 (g a33)
  have F34 := fun_mk (st := s__law_stray) l34 d34 k34
  have A__law_stray : FF K mg "_law_stray" s__law_stray := ff_mk F34 (g a34)
  have F35 := fun_mk (st := s__law_spoil) l35 d35 k35
  have A__law_spoil : FF K mg "_law_spoil" s__law_spoil := ff_mk F35 (g a35)
  have F36 := fun_mk (st := s__law_is_case) l36 d36 k36
  have A__law_is_case : FF K mg "_law_is_case" s__law_is_case := ff_mk F36 (g a36)
  have F37 := fun_mk (st := s__law_blended) l37 d37 k37
  have A__law_blended : FF K mg "_law_blended" s__law_blended := ff_mk F37 (g a37)
  have F38 := fun_mk (st := s__law_walked) l38 d38 k38
  have A__law_walked : FF K mg "_law_walked" s__law_walked := ff_mk F38 (g a38)
  have F39 := fun_mk (st := s__law_sizes) l39 d39 k39
  have A__law_sizes : FF K mg "_law_sizes" s__law_sizes := ff_mk F39 (g a39)
  have F40 := fun_mk (st := s_law) l40 d40 k40
  have b00 := F00.binds (ps := ["script", "salt"]) (fun _ _ _ _ _ _ us hl => match us, hl with | [_, _], _ => rfl)
  have b01 := F01.binds (ps := ["deal", "bound"]) (fun _ _ _ _ _ _ us hl => match us, hl with | [_, _], _ => rfl)
  refine ⟨PySem.W.fnOf "law" "law" (defArgs s_law) (defBody s_law) (defScope s_law) .none kV40 dc40 pm40 an40 cd40 ct40, [], spLaw3 K [], (fun p hp => absurd hp List.not_mem_nil), (fun p hp => absurd hp List.not_mem_nil), (fun p hp => absurd hp List.not_mem_nil), fun s v => .of_eq rfl, fun H scr ns hl _ _ hS => ⟨scr, ns, rfl, hS, hl, (fun p hp => absurd hp List.not_mem_nil), fun _ => rfl⟩, fun base _ _ _ => ?_⟩
  have D := ok_draw (P := l.prog) (w := w) (base := base) F00 (z z_abs) (z z_int)
  have U__law_any : UP l.prog w K mg base [] 1 "_law_any" ["deal", "bound"] s__law_any p__law_any := ⟨_, _, any_ok (ok_any (P := l.prog) (w := w) (base := base) F01 (z z_int)), F01, g a01, b01⟩
  have U_power_modulo := o_power_modulo (P := l.prog) (w := w) (base := base) (T := []) A_power_modulo
  have U_inverse := o_inverse (P := l.prog) (w := w) (base := base) (T := []) A_inverse
  have U_is_integer := o_is_integer (P := l.prog) (w := w) (base := base) (T := []) A_is_integer (z z_bool) (z z_int) (z z_isinstance)
  have U_is_number := o_is_number (P := l.prog) (w := w) (base := base) (T := []) A_is_number U_is_integer
  have U_is_below := o_is_below (P := l.prog) (w := w) (base := base) (T := []) A_is_below U_is_number
  have U_is_tuple := o_is_tuple (P := l.prog) (w := w) (base := base) (T := []) A_is_tuple (z z_isinstance) (z z_len) (z z_tuple)
  have U_are_below := o_are_below (P := l.prog) (w := w) (base := base) (T := []) A_are_below U_is_below (z z_all)
  have U_is_ascending := o_is_ascending (P := l.prog) (w := w) (base := base) (T := []) A_is_ascending (z z_all) (z z_len) (z z_range)
  have U_tuples_of := o_tuples_of (P := l.prog) (w := w) (base := base) (T := []) A_tuples_of (z z_range)
  have U_tuples_below := o_tuples_below (P := l.prog) (w := w) (base := base) (T := []) A_tuples_below U_tuples_of (z z_list) (z z_range)
  have U_subsets := o_subsets (P := l.prog) (w := w) (base := base) (T := []) A_subsets
  have U_contained := o_contained (P := l.prog) (w := w) (base := base) (T := []) A_contained (z z_len) (z z_range) (z z_tuple)
  have U_remainders := o_remainders (P := l.prog) (w := w) (base := base) (T := []) A_remainders U_power_modulo U_inverse (z z_tuple)
  have U_is_case := o_is_case (P := l.prog) (w := w) (base := base) (T := []) A_is_case U_is_tuple U_are_below U_is_ascending (z z_any) (z z_isinstance) (z z_len) (z z_range) (z z_sum) (z z_tuple)
  have U_all_sets := o_all_sets (P := l.prog) (w := w) (base := base) (T := []) A_all_sets U_subsets (z z_list) (z z_range) (z z_sorted)
  have U_rest_rows := o_rest_rows (P := l.prog) (w := w) (base := base) (T := []) A_rest_rows U_tuples_below (z z_enumerate) (z z_len) (z z_sum) (z z_tuple)
  have U_all_cases := o_all_cases (P := l.prog) (w := w) (base := base) (T := []) A_all_cases U_all_sets U_rest_rows (z z_tuple)
  have U_case_of := o_case_of (P := l.prog) (w := w) (base := base) (T := []) A_case_of U_contained U_remainders
  have U_blend_cases := o_blend_cases (P := l.prog) (w := w) (base := base) (T := []) A_blend_cases U_inverse (z z_len) (z z_range) (z z_set) (z z_sorted) (z z_sum) (z z_tuple)
  have U__law_of := o__law_of (P := l.prog) (w := w) (base := base) (T := []) A__law_of U__law_any (z z_len)
  have U__law_power := o__law_power (P := l.prog) (w := w) (base := base) (T := []) A__law_power (z z_range)
  have U__law_gcd := o__law_gcd (P := l.prog) (w := w) (base := base) (T := []) A__law_gcd (z z_int)
  have U__law_modulus := o__law_modulus (P := l.prog) (w := w) (base := base) (T := []) A__law_modulus U__law_of U__law_gcd (z z_range)
  have U__law_lowest := o__law_lowest (P := l.prog) (w := w) (base := base) (T := []) A__law_lowest (z z_all) (z z_int) (z z_list) (z z_tuple)
  have U__law_split := o__law_split (P := l.prog) (w := w) (base := base) (T := []) A__law_split U__law_any (z z_enumerate) (z z_len) (z z_min) (z z_range)
  have U__law_some := o__law_some (P := l.prog) (w := w) (base := base) (T := []) A__law_some U__law_any (z z_range)
  have U__law_mixture := o__law_mixture (P := l.prog) (w := w) (base := base) (T := []) A__law_mixture U__law_any U__law_power U__law_lowest U__law_split U__law_some (z z_len)
  have U__law_rest := o__law_rest (P := l.prog) (w := w) (base := base) (T := []) A__law_rest (z z_int) (z z_range)
  have U__law_case := o__law_case (P := l.prog) (w := w) (base := base) (T := []) A__law_case U__law_rest (z z_enumerate) (z z_tuple)
  have U__law_sets := o__law_sets (P := l.prog) (w := w) (base := base) (T := []) A__law_sets (z z_range) (z z_sorted)
  have U__law_cases := o__law_cases (P := l.prog) (w := w) (base := base) (T := []) A__law_cases U__law_sets (z z_enumerate) (z z_int) (z z_range) (z z_sorted) (z z_sum) (z z_tuple)
  have R__law_recipe : ∀ n, UP l.prog w K mg base [] (1 + n) "_law_recipe" ["deal", "k", "many", "deep"] s__law_recipe (pRecipe n) := fun n => by
    induction n with
    | zero => exact up_zero A__law_recipe (fun _ _ _ _ _ _ us hl => match us, hl with | [_, _, _, _], _ => rfl)
    | succ n ih => exact o__law_recipe (P := l.prog) (w := w) (base := base) (T := []) A__law_recipe U__law_any (Nat.le_add_right 1 n) ih (z z_range) (z z_tuple)
  have U__law_recipe : UP l.prog w K mg base [] 7 "_law_recipe" ["deal", "k", "many", "deep"] s__law_recipe p__law_recipe := (R__law_recipe 5).mono (by decide)
  have U__law_stray := o__law_stray (P := l.prog) (w := w) (base := base) (T := []) A__law_stray U__law_of (z z_int) (z z_isinstance) (z z_list) (z z_repr) (z z_str) (z z_tuple)
  have R__law_spoil : ∀ n, UP l.prog w K mg base [] (3 + n) "_law_spoil" ["deal", "value"] s__law_spoil (pSpoil n) := fun n => by
    induction n with
    | zero => exact up_zero A__law_spoil (fun _ _ _ _ _ _ us hl => match us, hl with | [_, _], _ => rfl)
    | succ n ih => exact o__law_spoil (P := l.prog) (w := w) (base := base) (T := []) A__law_spoil U__law_any U__law_stray (Nat.le_add_right 3 n) ih (z z_isinstance) (z z_len) (z z_tuple)
  have U__law_spoil : UP l.prog w K mg base [] 9 "_law_spoil" ["deal", "value"] s__law_spoil p__law_spoil := (R__law_spoil 5).mono (by decide)
  have U__law_is_case := o__law_is_case (P := l.prog) (w := w) (base := base) (T := []) A__law_is_case (z z_bool) (z z_int) (z z_isinstance) (z z_len) (z z_tuple)
  have U__law_blended := o__law_blended (P := l.prog) (w := w) (base := base) (T := []) A__law_blended U__law_power U__law_lowest (z z_enumerate) (z z_max)
  have R__law_walked : ∀ n, UP l.prog w K mg base [] (4 + n) "_law_walked" ["k", "many", "d", "recipe"] s__law_walked (pWalked n) := fun n => by
    induction n with
    | zero => exact up_zero A__law_walked (fun _ _ _ _ _ _ us hl => match us, hl with | [_, _, _, _], _ => rfl)
    | succ n ih => exact o__law_walked (P := l.prog) (w := w) (base := base) (T := []) A__law_walked U_case_of U_blend_cases U__law_blended (Nat.le_add_right 4 n) ih (z z_isinstance) (z z_range) (z z_tuple)
  have U__law_walked : UP l.prog w K mg base [] 10 "_law_walked" ["k", "many", "d", "recipe"] s__law_walked p__law_walked := (R__law_walked 5).mono (by decide)
  have U__law_sizes := o__law_sizes (P := l.prog) (w := w) (base := base) (T := []) A__law_sizes U__law_of U__law_modulus
  exact (o_law F40 D (g a00) k00 b00 U_is_case U_all_cases U_case_of U_blend_cases U__law_any U__law_of U__law_some U__law_mixture U__law_case U__law_cases U__law_recipe U__law_spoil U__law_is_case U__law_blended U__law_walked U__law_sizes (z z_int) (z z_range) (z z_repr) (z z_tuple)).mono (by decide)
end Q15
open PySem PySem.W PyProof.Rows
open_top hd for PySem.Challenge.rw_mixlabels_k15_cases_and_their_blends
set_option maxRecDepth 100000 in
set_option maxHeartbeats 0 in
theorem PySem.Challenge.cw_mixlabels_k15_cases_and_their_blends_holds : PySem.Challenge.rw_mixlabels_k15_cases_and_their_blends.Holds :=
  hd (by
  k_fill
  refine L2.walk_ofG (l := PySem.Challenge.rw_mixlabels_k15_cases_and_their_blends) (n := 63) (lev := 12) (nm := "script") (XX := fun w => L2.CX PySem.Challenge.rw_mixlabels_k15_cases_and_their_blends.prog w) rfl (by decide) rfl ⟨rfl, by decide, by decide⟩ (fun w h Y => PySem.W.kIn_of Y) ?F (fun _ _ _ _ _ z => L3.noX_CX z)
  case F =>
    intro w mg fa h Y KX G hmg
    refine' Q15.all_mk KX G hmg ?a00 ?l00 ?d00 ?k00 ?a01 ?l01 ?d01 ?k01 ?a02 ?l02 ?d02 ?k02 ?a03 ?l03 ?d03 ?k03 ?a04 ?l04 ?d04 ?k04 ?a05 ?l05 ?d05 ?k05 ?a06 ?l06 ?d06 ?k06 ?a07 ?l07 ?d07 ?k07 ?a08 ?l08 ?d08 ?k08 ?a09 ?l09 ?d09 ?k09 ?a10 ?l10 ?d10 ?k10 ?a11 ?l11 ?d11 ?k11 ?a12 ?l12 ?d12 ?k12 ?a13 ?l13 ?d13 ?k13 ?a14 ?l14 ?d14 ?k14 ?a15 ?l15 ?d15 ?k15 ?a16 ?l16 ?d16 ?k16 ?a17 ?l17 ?d17 ?k17 ?a18 ?l18 ?d18 ?k18 ?a19 ?l19 ?d19 ?k19 ?a20 ?l20 ?d20 ?k20 ?a21 ?l21 ?d21 ?k21 ?a22 ?l22 ?d22 ?k22 ?a23 ?l23 ?d23 ?k23 ?a24 ?l24 ?d24 ?k24 ?a25 ?l25 ?d25 ?k25 ?a26 ?l26 ?d26 ?k26 ?a27 ?l27 ?d27 ?k27 ?a28 ?l28 ?d28 ?k28 ?a29 ?l29 ?d29 ?k29 ?a30 ?l30 ?d30 ?k30 ?a31 ?l31 ?d31 ?k31 ?a32 ?l32 ?d32 ?k32 ?a33 ?l33 ?d33 ?k33 ?a34 ?l34 ?d34 ?k34 ?a35 ?l35 ?d35 ?k35 ?a36 ?l36 ?d36 ?k36 ?a37 ?l37 ?d37 ?k37 ?a38 ?l38 ?d38 ?k38 ?a39 ?l39 ?d39 ?k39 ?a40 ?l40 ?d40 ?k40 ?z_abs ?z_all ?z_any ?z_bool ?z_enumerate ?z_int ?z_isinstance ?z_len ?z_list ?z_max ?z_min ?z_range ?z_repr ?z_set ?z_sorted ?z_str ?z_sum ?z_tuple
    (case a00 => k_is)
    (case l00 => k_is)
    (case d00 => k_is)
    (case k00 => k_is)
    (case a01 => k_is)
    (case l01 => k_is)
    (case d01 => k_is)
    (case k01 => k_is)
    (case a02 => k_is)
    (case l02 => k_is)
    (case d02 => k_is)
    (case k02 => k_is)
    (case a03 => k_is)
    (case l03 => k_is)
    (case d03 => k_is)
    (case k03 => k_is)
    (case a04 => k_is)
    (case l04 => k_is)
    (case d04 => k_is)
    (case k04 => k_is)
    (case a05 => k_is)
    (case l05 => k_is)
    (case d05 => k_is)
    (case k05 => k_is)
    (case a06 => k_is)
    (case l06 => k_is)
    (case d06 => k_is)
    (case k06 => k_is)
    (case a07 => k_is)
    (case l07 => k_is)
    (case d07 => k_is)
    (case k07 => k_is)
    (case a08 => k_is)
    (case l08 => k_is)
    (case d08 => k_is)
    (case k08 => k_is)
    (case a09 => k_is)
    (case l09 => k_is)
    (case d09 => k_is)
    (case k09 => k_is)
    (case a10 => k_is)
    (case l10 => k_is)
    (case d10 => k_is)
    (case k10 => k_is)
    (case a11 => k_is)
    (case l11 => k_is)
    (case d11 => k_is)
    (case k11 => k_is)
    (case a12 => k_is)
    (case l12 => k_is)
    (case d12 => k_is)
    (case k12 => k_is)
    (case a13 => k_is)
    (case l13 => k_is)
    (case d13 => k_is)
    (case k13 => k_is)
    (case a14 => k_is)
    (case l14 => k_is)
    (case d14 => k_is)
    (case k14 => k_is)
    (case a15 => k_is)
    (case l15 => k_is)
    (case d15 => k_is)
    (case k15 => k_is)
    (case a16 => k_is)
    (case l16 => k_is)
    (case d16 => k_is)
    (case k16 => k_is)
    (case a17 => k_is)
    (case l17 => k_is)
    (case d17 => k_is)
    (case k17 => k_is)
    (case a18 => k_is)
    (case l18 => k_is)
    (case d18 => k_is)
    (case k18 => k_is)
    (case a19 => k_is)
    (case l19 => k_is)
    (case d19 => k_is)
    (case k19 => k_is)
    (case a20 => k_is)
    (case l20 => k_is)
    (case d20 => k_is)
    (case k20 => k_is)
    (case a21 => k_is)
    (case l21 => k_is)
    (case d21 => k_is)
    (case k21 => k_is)
    (case a22 => k_is)
    (case l22 => k_is)
    (case d22 => k_is)
    (case k22 => k_is)
    (case a23 => k_is)
    (case l23 => k_is)
    (case d23 => k_is)
    (case k23 => k_is)
    (case a24 => k_is)
    (case l24 => k_is)
    (case d24 => k_is)
    (case k24 => k_is)
    (case a25 => k_is)
    (case l25 => k_is)
    (case d25 => k_is)
    (case k25 => k_is)
    (case a26 => k_is)
    (case l26 => k_is)
    (case d26 => k_is)
    (case k26 => k_is)
    (case a27 => k_is)
    (case l27 => k_is)
    (case d27 => k_is)
    (case k27 => k_is)
    (case a28 => k_is)
    (case l28 => k_is)
    (case d28 => k_is)
    (case k28 => k_is)
    (case a29 => k_is)
    (case l29 => k_is)
    (case d29 => k_is)
    (case k29 => k_is)
    (case a30 => k_is)
    (case l30 => k_is)
    (case d30 => k_is)
    (case k30 => k_is)
    (case a31 => k_is)
    (case l31 => k_is)
    (case d31 => k_is)
    (case k31 => k_is)
    (case a32 => k_is)
    (case l32 => k_is)
    (case d32 => k_is)
    (case k32 => k_is)
    (case a33 => k_is)
    (case l33 => k_is)
    (case d33 => k_is)
    (case k33 => k_is)
    (case a34 => k_is)
    (case l34 => k_is)
    (case d34 => k_is)
    (case k34 => k_is)
    (case a35 => k_is)
    (case l35 => k_is)
    (case d35 => k_is)
    (case k35 => k_is)
    (case a36 => k_is)
    (case l36 => k_is)
    (case d36 => k_is)
    (case k36 => k_is)
    (case a37 => k_is)
    (case l37 => k_is)
    (case d37 => k_is)
    (case k37 => k_is)
    (case a38 => k_is)
    (case l38 => k_is)
    (case d38 => k_is)
    (case k38 => k_is)
    (case a39 => k_is)
    (case l39 => k_is)
    (case d39 => k_is)
    (case k39 => k_is)
    (case a40 => k_is)
    (case l40 => k_is)
    (case d40 => k_is)
    (case k40 => k_is)
    (case z_abs => k_is)
    (case z_all => k_is)
    (case z_any => k_is)
    (case z_bool => k_is)
    (case z_enumerate => k_is)
    (case z_int => k_is)
    (case z_isinstance => k_is)
    (case z_len => k_is)
    (case z_list => k_is)
    (case z_max => k_is)
    (case z_min => k_is)
    (case z_range => k_is)
    (case z_repr => k_is)
    (case z_set => k_is)
    (case z_sorted => k_is)
    (case z_str => k_is)
    (case z_sum => k_is)
    (case z_tuple => k_is))
