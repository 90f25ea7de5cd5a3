import PyProof.Rows.All
import Wide.All
import OpenK.AllK
import Wide.FinOn
import PyProof.EqAt
import PyProof.EqKinds
import PyProof.TupleCall
import HandS.ForMost
import HandS.ForExc
import HandS.Conv
import HandS.IsInst
import HandS.MakeKwOnly
import HandS.TupMul
import HandS.TupAny
import HandS.Wide
import HandS.ExcInit
import HandS.ExcField
import HandS.ExcIs
import HandS.Evl
import HandS.OwnIter
import HandS.ExcCtx
import HandS.HotCalls
import HandS.ExcInitHot
import HandS.RevRange
import HandS.Style
import PyProof.ListRange
import KE.DataMinMax
import HandS.SortKw
import HandS.SetFor
import HandS.Strs
import HandS.Deep
import PyProof.Rows.SetFrom
import KE.GoesMore
import PyProof.EnumMake
import PyProof.Draws
import HandS.IterNext
import PyProof.TupleIter
import PyProof.WalksMore
import HandS.Zip
import HandS.TryOnly
import PyProof.ListOps
import KE.GoesEnum
import HandS.More
import HandS.DictComp
import PyProof.Rows.SortShellAny
import HandS.Lambda
import HandS.EndTab
import HandS.HeadWalk
import OpenK.KMeth
import KE.KOpsOwn
import PyProof.SumAny
import HandS.Defaults
import HandS.ExcOwn
import HandS.Comp
import HandS.Head0
import HandS.Head1
import HandS.Head2
import HandS.HeadEnd
import HandS.HeadHook1
import HandS.HeadHook2
import KE.KNestM
import PySem.Challenge.RW_retinue_k05_orders_run_and_unwound
set_option Elab.async false
set_option linter.all false
set_option maxRecDepth 100000
set_option maxHeartbeats 4000000
/-! Rules of our own, for every law of this program: len of an instance by its own __len__; a def of the top known by its promise. -/
namespace Rt
open PySem PySem.Spec PyProof.Rows L2

/-! ### a def of the top, known by its promise -/
structure DefOk (P : Program) (w : World) (K : PySem.W.Frag) (mg : Str → Option Value) (base : Heap) (CX : CXT) (k : Nat) (x : Str) (ps : List Str) (sp : Sp) : Prop where
  ex : ∃ (f : Addr) (fd : FuncData), mg x = some (.ref f) ∧ PySem.W.keepIn K (.ref f) = true ∧ FnOk P w K mg base CX k f fd ps sp ∧ Binds K fd ps []
section
variable {X : Cx} {CX : CXT} {k j : Nat} {x : Str} {ps : List Str} {sp : Sp} {E : XK} {p pos : Pos} {e : Expr} {es : List Expr} {t : TA}
theorem DefOk.mono {P : Program} {w : World} {K : PySem.W.Frag} {mg : Str → Option Value} {base : Heap} (D : DefOk P w K mg base CX j x ps sp) (h : j ≤ k) : DefOk P w K mg base CX k x ps sp := by
  obtain ⟨f, fd, a, b, c, d⟩ := D.ex
  exact ⟨f, fd, a, b, c.mono h, d⟩
theorem pe_callD (D : DefOk X.prog X.w X.K X.mg X.base CX k x ps sp) (hr : Room k X.A) (hx : Passes CX X E) (ha : PA X (e :: es) t) (hg : Gl X x := by rfl) (hdb : (x == ("__debug__" : Str)) = false := by decide)
    (he : starEach (e :: es) X.env = (false, eval e X.env) :: starEach es X.env := by rfl) (hpl : (backTo pos (starEach es X.env)).any (·.1) = false := by rfl) : PE X (.Call (.Name x p) (e :: es) [] pos) (tCall sp [] E t) := by
  obtain ⟨f, fd, a, b, c, d⟩ := D.ex
  exact pe_call c hr hg a b d .nil hx ha hdb he hpl
theorem pe_callDS {E : L2.St → XK} (D : DefOk X.prog X.w X.K X.mg X.base CX k x ps sp) (hr : Room k X.A) (hx : ∀ σ : L2.St, PassesAt CX X σ (E σ)) (ha : PA X (e :: es) t) (hg : Gl X x := by rfl) (hdb : (x == ("__debug__" : Str)) = false := by decide)
    (he : starEach (e :: es) X.env = (false, eval e X.env) :: starEach es X.env := by rfl) (hpl : (backTo pos (starEach es X.env)).any (·.1) = false := by rfl) : PE X (.Call (.Name x p) (e :: es) [] pos) (tCallS sp E t) := by
  obtain ⟨f, fd, a, b, c, d⟩ := D.ex
  exact pe_callS c hr hg a b d hx ha hdb he hpl
end

/-! ### len of an instance whose class has __len__ -/
/-- the def at f is the __len__ of the class at C -/
structure LenC (K : PySem.W.Frag) (C f : Addr) : Prop where
  ln : PySem.W.findIn K (.ref C) "__len__" = some (some (.ref f))
  lnF : PySem.W.isFn K (.ref f) = true
section
variable {X : Cx} {CX : CXT} {k : Nat} {f C : Addr} {fd : FuncData} {ps : List Str} {sp : Sp} {E : XK}
theorem run_fn' {pins : List (Addr × Obj)} {σ : L2.St} {H : Hp} {s : Shared} {Q : VK} {us : List Value} {vs : List V} {A1 : Around} (F : FnOk X.prog X.w X.K X.mg X.base CX k f fd ps sp) (hr : Room k A1) (hA : A1.frames = X.A.frames) (hb : Binds X.K fd ps []) (hx : Passes CX X E)
    (I : Inv X pins σ H s) (r : Vals vs us) (h : sp vs H Q E) : wpAny (model X.prog X.w) A1 (call (.ref f) us) (EP X pins σ Q) X.xe s := by
  have hl : us.length = ps.length := by rw [← r.length]; exact F.len _ _ _ _ h
  have e0 : Env0 X.prog X.w X.K X.mg X.base A1 X.stack s H := by
    have e := I.env0
    exact ⟨by rw [hA]; exact e.frames, e.mod, e.bs, e.bsz, e.funs, e.frf, e.hok, e.bare⟩
  refine wpAny_call (codeAny_mono (F.run A1 X.stack s H ⟨us, []⟩ us vs Q E hr e0 (by have := hb s us I.kIn (by simpa using hl); simpa using this) r h) fun r s' hq => ?_)
  cases r with
  | error e => exact hx pins σ H s e s' I hq
  | ok fl =>
    cases fl with
    | ret u => exact I.after hq
    | next => exact False.elim hq
    | brk => exact False.elim hq
    | cont => exact False.elim hq
def rLenO (C : Addr) (sp : Sp) (E : XK) : List V → Hp → VK → Prop := fun xs H Q => ∃ (a dx : Addr) (fs : List (Str × V)), xs = [.ref a] ∧ H a = some (.ins C dx fs) ∧ sp [.ref a] H (fun v H' => ∃ n : Int, v = .int n ∧ 0 ≤ n ∧ n < 2 ^ 63 ∧ Q (.int n) H') E
theorem call_lenO (c : LenC X.K C f) (F : FnOk X.prog X.w X.K X.mg X.base CX k f fd ps sp) (hr : Room (k + 1) X.A) (hb : Binds X.K fd ps []) (hx : Passes CX X E) : CallR X (.builtin "len") (rLenO C sp E) := by
  intro pins s σ H xs us Q I r h
  obtain ⟨a, dx, fs, rfl, ha, hsp⟩ := h
  obtain ⟨u, rfl, rx⟩ := vals1 r
  cases rx
  obtain ⟨mA, J, _⟩ := ins_get I.hok ha
  obtain ⟨od, J, _⟩ := J.look
  have hK := I.kIn
  refine Calls.call_function_entry PySem.kind_len PySem.plain_len PySem.entry_len (PySem.args_len1 _) ?_
  unfold Builtin.«len»
  refine wpAny_bind (m := oneArg "len" _) (wpAny_pure ?_)
  have fin : wpAny (model X.prog X.w) X.A.in1 (call (.ref f) [.ref a]) (EP X pins σ (fun v H' => ∃ n : Int, v = .int n ∧ 0 ≤ n ∧ n < 2 ^ 63 ∧ Q (.int n) H')) X.xe s := run_fn' F hr.in1 rfl hb hx I (us := [.ref a]) (vs := [V.ref a]) (.cons rfl .nil) hsp
  refine wpAny_bind (m := callSpecial? (.ref a) (Str.ofString "__len__")) ?_
  unfold callSpecial?
  refine wpAny_bind (wpAny_bind (J.type.here ((PySem.W.looks_findIn hK c.ln).here ?_)))
  refine wpAny_holding (wpAny_bind ((PySem.W.bind_fn hK _ (beq_iff_eq.mp c.lnF)).here ?_))
  refine wpAny_bind (wpAny_mono fin (fun v s' hv => ?_) fun _ _ z => z)
  obtain ⟨y, H', I', rv, n, rfl, h0, h1, q⟩ := hv
  obtain ⟨t, rfl⟩ := rv
  refine wpAny_pure ?_
  refine wpAny_bind (wpAny_holding (wpAny_pure ?_))
  refine wpAny_bind (wpAny_letGo ?_)
  show wpAny _ _ (if n < 0 then _ else _) _ _ _
  rw [if_neg (by omega)]
  refine wpAny_bind (wpAny_pure ?_)
  show wpAny _ _ (if n ≥ 2 ^ 63 then _ else _) _ _ _
  rw [if_neg (by omega)]
  refine wpAny_bind (wpAny_mkInt (wpAny_pure ⟨_, rfl, V.int n, H', I'.tok _, ⟨_, rfl⟩, ?_⟩))
  exact q
end

/-! ### C(e, ..) of an own exception class, raised where nothing is handled: its context is None -/
/-- the heap with the arguments' tuple and the bare exception of class C behind it -/
def born (hp : Heap) (C : Addr) (us : List Value) : Heap := (hp.push (PySem.W.kdv_tup us)).push (PySem.HandSPX.excO C hp.objs.size)
/-- where that exception stands -/
def bornAt (hp : Heap) : Addr := hp.objs.size + 1
theorem born_old {hp : Heap} {C : Addr} {us : List Value} {b : Addr} {o : Obj} (h : hp.get? b = some o) : (born hp C us).get? b = some o := by
  unfold born; exact Heap.get?_push_of_some _ (Heap.get?_push_of_some _ h)
theorem born_new {hp : Heap} {C : Addr} {us : List Value} : (born hp C us).get? (bornAt hp) = some (PySem.HandSPX.excO C hp.objs.size) := by
  unfold born bornAt; heap_get
section
variable {X : Cx} {pins : List (Addr × Obj)} {σ : L2.St} {H : Hp} {hp : Heap} {g : Array GenState} {dr : Drawn} {tk : Nat} {os : OsState} {C : Addr} {us : List Value}
theorem born_free (I : L2.Inv X pins σ H ⟨hp, g, dr, tk, os⟩) : H (bornAt hp) = none := I.hok.fresh (Nat.le_succ _)
theorem born_inv (I : L2.Inv X pins σ H ⟨hp, g, dr, tk, os⟩) : L2.Inv X pins σ (upd H (bornAt hp) (exo (bornAt hp) C none)) ⟨born hp C us, g, dr, tk, os⟩ := by
  refine I.laid (a := bornAt hp) (o := exo (bornAt hp) C none) (t' := tk) (h' := born hp C us) ?_ ?_ ?_
  · intro b o h; exact born_old h
  · exact Nat.le_succ _
  · exact exo_ok born_new
end
section
variable {X : Cx} {x : Str} {e : Expr} {es : List Expr} {ta : TA} {p pos : Pos} {C fI : Addr} {k : Nat} {fd : FuncData} {ps : List Str} {sp : Sp} {CX : CXT}
/-- calling the class with values us: the exception is made by its own __init__ -/
theorem oexN_call (T : OexC X.K C) (iC : PySem.W.findIn X.K (.ref C) "__init__" = some (some (.ref fI))) (tI : PySem.W.typeIn X.K (.ref fI) = some (.type "function")) (FI : FnOk X.prog X.w X.K X.mg X.base CX k fI fd ps sp) (room : Room (k + 1) X.A) (bI : L2.Binds X.K fd ps [])
    (px : L2.Passes CX X (fun _ _ _ => False)) {pins : List (Addr × Obj)} {σ : L2.St} {H : Hp} {s : Shared} {us : List Value} {vs : List V} {Q : XK} (I : L2.Inv X pins σ H s) (rv : L2.Vals vs us) (few : vs.length ≤ 1000)
    (want : ∀ a, H a = none → sp (.ref a :: vs) (upd H a (exo a C none))
      (fun v G => v = .non ∧ ∃ (d : Addr) (fs : List (Str × V)), G a = some (exo a C (some d)) ∧ G d = some (exd d fs) ∧ H d = none ∧ Q (.ref C) (some d) (upd (del G a) d (.xd fs))) (fun _ _ _ => False)) :
    wpAny (model X.prog X.w) X.A (call (.ref C) us) (L2N.MkP X pins σ Q) X.xe s := by
  cases s with
  | mk hp g dr tk os =>
  have here := want (bornAt hp) (born_free I)
  have J : L2.Inv X pins σ (upd H (bornAt hp) (exo (bornAt hp) C none)) ⟨born hp C us, g, dr, tk, os⟩ := born_inv I
  have rv1 : L2.Vals (V.ref (bornAt hp) :: vs) (Value.ref (bornAt hp) :: us) := .cons rfl rv
  have nargs : (Value.ref (bornAt hp) :: us).length = ps.length := rv1.length.symm.trans (FI.len _ _ _ _ here)
  have nus : us.length ≤ sizeLine := by have z := rv.length; have y := sizeLine_eq; omega
  have bnd := bI ⟨born hp C us, g, dr, tk, os⟩ (Value.ref (bornAt hp) :: us) J.kIn (by simpa using nargs)
  simp only [List.append_nil] at bnd
  obtain ⟨_, _, _, _, bm, _, _, _, _, _, _, _, _, _, _, atC, bases⟩ := T.cls
  have init := FI.run (X.A.under (.builtin "type.__call__" ⟨.ref C :: us, []⟩)) X.stack _ _ ⟨Value.ref (bornAt hp) :: us, []⟩ _ _ _ (fun _ _ _ => False) (room.make C us []) (J.env0.make C us []) bnd rv1 here
  refine wpAny_call (PySem.HandSPX.call_own F.excBase_ValueError (fun Y => PySem.HandSPX.refsVE_contains Y bm bases) (I.kIn _ _ atC) (PySem.W.looks_findIn I.kIn iC) (fun self => PySem.W.bind_fn I.kIn self tI) nus (codeAny_mono init ?_))
  intro res s2 got
  match res, got with
  | .error er, got => exact px pins σ _ _ er s2 J got
  | .ok (.ret u), got =>
    obtain ⟨v, G, osG, bareG, unG, hokG, ru, isN, d, fs, atE, atD, dNew, fin⟩ := got
    subst isN
    cases s2 with
    | mk h2 g2 d2 t2 o2 =>
    obtain ⟨_, B, K2, keepB, goneB, objE, noE⟩ := mk_end0 (d2 := d2) (t2 := t2) I (Nat.le_succ _) (fun b o h => born_old h) unG hokG osG bareG atE atD dNew
    refine ⟨ru, bornAt hp, _, _, ⟨B, g2, d2, t2, o2⟩, _, .ref C, some d, rfl, K2, keepB, goneB, objE, ⟨rfl, rfl, ?_⟩, rfl, rfl, noE, rfl, bareG, raises_own T.exC T.tyC, fin⟩
    intro fields is
    cases is; rfl
  | .ok .next, got => exact got.elim
  | .ok .brk, got => exact got.elim
  | .ok .cont, got => exact got.elim
theorem pmk_oexN (T : OexC X.K C) (iC : PySem.W.findIn X.K (.ref C) "__init__" = some (some (.ref fI))) (tI : PySem.W.typeIn X.K (.ref fI) = some (.type "function")) (FI : FnOk X.prog X.w X.K X.mg X.base CX k fI fd ps sp) (room : Room (k + 1) X.A) (bI : L2.Binds X.K fd ps [])
    (px : L2.Passes CX X (fun _ _ _ => False)) (hg : Gl X x) (hm : X.mg x = some (.ref C)) (ha : PA X (e :: es) ta) (hdb : (x == ("__debug__" : Str)) = false := by decide)
    (st : starEach (e :: es) X.env = (false, eval e X.env) :: starEach es X.env := by rfl) (pl : (backTo pos (starEach es X.env)).any (·.1) = false := by rfl) : L2N.PMk X (.Call (.Name x p) (e :: es) [] pos) (tMkO C sp [] ta) := by
  intro pins s σ H Q I h
  have step := ha.run pos pins s σ H _ I h
  refine wpAny_Call_Name_kw (ld_glob I hg hm (PySem.W.callWith_K (h₀ := X.base) I.ok.mod.kin T.kC (thn step fun us s1 got => ?_) st pl) hdb)
  obtain ⟨vs, H1, I1, rv, few, want⟩ := got
  simp only [List.append_nil] at want
  exact ⟨I1.kIn, oexN_call T iC tI FI room bI px I1 rv few want⟩
end
end Rt
set_option Elab.async false
set_option linter.all false
set_option maxRecDepth 100000
set_option maxHeartbeats 4000000
/-! Readings step by step: one lemma a construct, its conclusion the construct's reading. -/
namespace Rt
open PySem PySem.Spec L2
open PyProof.Rows (envOfC)
abbrev St0 := L2.St

/-! ### heaps that grow -/
theorem _root_.L2.Same.new {H : Hp} {p : Addr} {o : HO} (h : H p = none) : Same H (upd H p o) := fun a u e => by
  rw [upd_ne (ne_of_none e h)]; exact e
theorem _root_.L2.Same.newS {H H' : Hp} {p : Addr} {o : HO} (s : Same H H') (h : H' p = none) : Same H (upd H' p o) := s.trans (Same.new h)
theorem _root_.L2.Same.mut {H H' : Hp} {p : Addr} {o : HO} (s : Same H H') (h : H p = none) : Same H (upd H' p o) := fun a u e => by
  rw [upd_ne (ne_of_none e h)]; exact s a u e
theorem _root_.L2.Same.tup {K : PySem.W.Frag} {H H' : Hp} {a : Addr} {xs : List V} (e : Same H H') (h : SqT K H a xs) : SqT K H' a xs := by
  rcases h with (h | ⟨o, h⟩) | h
  · exact .inl (.inl (e _ _ h))
  · exact .inl (.inr ⟨o, e _ _ h⟩)
  · exact .inr h

section
variable {σ : L2.St} {H : Hp} {D : Ends} {Q : VK} {QT : Bool → Hp → Prop} {QA : List V → Hp → Prop} {QS : L2.St → Hp → Prop} {ta tb tc te : TE} {t u : TS} {tt uu : TT} {QO : Option Int → Hp → Prop} {v x y : V} {r r' : R2} {i : Nat} {K : PySem.W.Frag} {aa : TA}
theorem g_seq (h : t { D with nx := u D } σ H) : tSeq t u D σ H := h
theorem g_next (h : D.nx σ H) : tNext D σ H := h
theorem g_asg {g : TG} (h : te σ H fun x H1 => g x σ H1 D.nx) : tAsg te g D σ H := h
theorem g_name (h : QS (σ.set i (some v)) H) : gName i v σ H QS := h
theorem g_drop (h : te σ H fun _ H1 => D.nx σ H1) : tDrop te D σ H := h
theorem g_ret (h : te σ H D.rt) : tRet te D σ H := h
theorem g_retN (h : D.rt .non H) : tRetN D σ H := h
theorem g_brk (h : D.bk σ H) : tBreak D σ H := h
theorem g_ct (h : D.ct σ H) : tCont D σ H := h
theorem g_if (h : tt σ H fun b H1 => if b = true then t D σ H1 else u D σ H1) : tIfS tt t u D σ H := h
theorem g_var (e : σ[i]? = some (some v)) (h : Q v H) : tVar i σ H Q := ⟨v, e, h⟩
theorem g_c (h : Q v H) : tC v σ H Q := h
theorem g_op (h : ta σ H fun x H1 => tb σ H1 fun y H2 => r x y H2 Q) : tOp r ta tb σ H Q := h
theorem g_un {f : V → Hp → VK → Prop} (h : ta σ H fun x H1 => f x H1 Q) : tUn f ta σ H Q := h
theorem g_I0 {g : Int → Int → V} {a b : Int} (h : Q (g a b) H) : rI0 g (.int a) (.int b) H Q := ⟨a, b, rfl, rfl, h⟩
theorem g_I {C : Int → Int → Prop} {g : Int → Int → V} {a b : Int} (c : C a b) (h : Q (g a b) H) : rI C g (.int a) (.int b) H Q := ⟨a, b, rfl, rfl, c, h⟩
theorem g_U {g : Int → V} {a : Int} (h : Q (g a) H) : rU g (.int a) H Q := ⟨a, rfl, h⟩
theorem dec_I {a b : Int} : decide (V.int a = V.int b) = decide (a = b) := by
  by_cases h : a = b
  · subst h; rw [decide_eq_true rfl, decide_eq_true rfl]
  · rw [decide_eq_false h, decide_eq_false (fun z => h (by injection z))]
theorem dec_B {a b : Bool} : decide (V.bl a = V.bl b) = decide (a = b) := by
  by_cases h : a = b
  · subst h; rw [decide_eq_true rfl, decide_eq_true rfl]
  · rw [decide_eq_false h, decide_eq_false (fun z => h (by injection z))]
theorem g_eqI {a b : Int} (h : Q (.bl (decide (a = b))) H) : rEq (.int a) (.int b) H Q := ⟨rfl, by rw [dec_I]; exact h⟩
theorem g_neI {a b : Int} (h : Q (.bl (!decide (a = b))) H) : rNe (.int a) (.int b) H Q := ⟨rfl, by rw [dec_I]; exact h⟩
theorem g_eqB {a b : Bool} (h : Q (.bl (decide (a = b))) H) : rEq (.bl a) (.bl b) H Q := ⟨rfl, by rw [dec_B]; exact h⟩
theorem g_neB {a b : Bool} (h : Q (.bl (!decide (a = b))) H) : rNe (.bl a) (.bl b) H Q := ⟨rfl, by rw [dec_B]; exact h⟩
theorem g_test (h : te σ H fun x H' => ∃ k, x = .bl k ∧ QT k H') : tTest te σ H QT := h
theorem g_tB (h : te σ H fun x H' => ∃ k, x = .bl k ∧ QT k H') : tB te σ H QT := h
theorem g_bl {b : Bool} {R : Bool → Prop} (h : R b) : ∃ k, V.bl b = .bl k ∧ R k := ⟨b, rfl, h⟩
theorem g_and (h : tt σ H fun c H1 => if c = true then uu σ H1 QT else QT false H1) : tAnd tt uu σ H QT := h
theorem g_or (h : tt σ H fun c H1 => if c = true then QT true H1 else uu σ H1 QT) : tOr tt uu σ H QT := h
theorem g_not (h : tt σ H fun c H1 => QT (!c) H1) : tNot tt σ H QT := h
theorem g_andV (h : ta σ H fun x H1 => ∃ c, x = .bl c ∧ if c = true then tb σ H1 Q else Q (.bl false) H1) : tAndV ta tb σ H Q := h
theorem g_orV (h : ta σ H fun x H1 => ∃ c, x = .bl c ∧ if c = true then Q (.bl true) H1 else tb σ H1 Q) : tOrV ta tb σ H Q := h
theorem g_notV (h : ta σ H fun x H1 => ∃ c, x = .bl c ∧ Q (.bl (!c)) H1) : tNotV ta σ H Q := h
theorem g_ifE (h : tt σ H fun c H1 => if c = true then ta σ H1 Q else tb σ H1 Q) : tIf tt ta tb σ H Q := h
theorem g_nil (h : QA [] H) : tNil σ H QA := h
theorem g_cons (h : te σ H fun x H1 => aa σ H1 fun xs H2 => QA (x :: xs) H2) : tCons te aa σ H QA := h
def NewL (xs : List V) (H : Hp) (Q : VK) : Prop := xs.length ≤ sizeLine ∧ ∀ p, H p = none → Q (.ref p) (upd H p (.lst xs))
def NewT (xs : List V) (H : Hp) (Q : VK) : Prop := xs.length ≤ sizeLine ∧ ∀ p, H p = none → Q (.ref p) (upd H p (.tup xs))
theorem g_lst (h : aa σ H fun xs H1 => NewL xs H1 Q) : tLst aa σ H Q := h
theorem g_tup (h : aa σ H fun xs H1 => NewT xs H1 Q) : tTup aa σ H Q := h
theorem newL {xs : List V} (h : ∀ p H', H p = none → Same H H' → H' p = some (.lst xs) → Q (.ref p) H') (sz : xs.length ≤ sizeLine := by first | decide | (simp only [List.length_cons, List.length_nil]; decide)) : NewL xs H Q := ⟨sz, fun p np => h p _ np (Same.new np) upd_same⟩
theorem newT {xs : List V} (h : ∀ p H', H p = none → Same H H' → H' p = some (.tup xs) → Q (.ref p) H') (sz : xs.length ≤ sizeLine := by first | decide | (simp only [List.length_cons, List.length_nil]; decide)) : NewT xs H Q := ⟨sz, fun p np => h p _ np (Same.new np) upd_same⟩
theorem g_part (h : te σ H fun x H1 => ∃ i, x = .int i ∧ QO (some i) H1) : tPart te σ H QO := h
theorem g_nopart (h : QO none H) : tNoPart σ H QO := h
theorem g_cb {f : List V → Hp → VK → Prop} (h : aa σ H fun vs H1 => f vs H1 Q) : tCB f aa σ H Q := h
theorem g_call {sp : Sp} {E : XK} (h : aa σ H fun vs H1 => sp vs H1 Q E) : tCall sp [] E aa σ H Q := by
  have e : (fun vs H1 => sp (vs ++ []) H1 Q E) = fun vs H1 => sp vs H1 Q E := by funext vs H1; rw [List.append_nil]
  show aa σ H fun vs H1 => sp (vs ++ []) H1 Q E
  rw [e]; exact h
theorem g_callS {sp : Sp} {E : L2.St → XK} (h : aa σ H fun vs H1 => sp vs H1 Q (E σ)) : tCallS sp E aa σ H Q := h
theorem g_fld {f : Str} (h : ta σ H fun x H1 => ∃ a C dx fs v, x = .ref a ∧ H1 a = some (.ins C dx fs) ∧ Cls K C ∧ NoAttr K C f ∧ fs.lookup f = some v ∧ Q v H1) : tFld K ta f σ H Q := h
theorem g_bm {T : String} {f : V → List V → Hp → VK → Prop} (h : ta σ H fun x H1 => tyV K T x H1 ∧ aa σ H1 fun xs H2 => f x xs H2 Q) : tBM K T f ta aa σ H Q := h
theorem g_isN (h : Q (.bl (decide (x = .non))) H) : (fun x y H Q => y = .non ∧ Q (.bl (decide (x = .non))) H : R2) x .non H Q := ⟨rfl, h⟩
theorem g_rng1 {a b : Nat} {R : It → Hp → Prop} {n : Int} (h1 : -(2 ^ 62) ≤ n) (h2 : n < 2 ^ 62) (h : R (Itr 0 n.toNat) H) : ∃ j : Int, [V.int n] = [V.int j] ∧ -(2 ^ 62) ≤ j ∧ j < 2 ^ 62 ∧ R (Itr 0 j.toNat) H := ⟨n, rfl, h1, h2, h⟩
theorem g_chain {r r' : R2} (h : ta σ H fun x H1 => tb σ H1 fun y H2 => r x y H2 fun z H3 => ∃ k, z = .bl k ∧ (if k = true then tc σ H3 fun w' H4 => r' y w' H4 Q else Q (.bl false) H3)) : tChain r r' ta tb tc σ H Q := h
theorem g_int {n : Int} {R : Int → Prop} {S : Bool → Prop} (h : R n) : (∃ i, [V.int n] = [V.int i] ∧ R i) ∨ ∃ k, [V.int n] = [V.bl k] ∧ S k := .inl ⟨n, rfl, h⟩
theorem g_itt {c : Bool} {A B : Prop} (e : c = true) (h : A) : if c = true then A else B := by rw [if_pos e]; exact h
theorem g_iff {c : Bool} {A B : Prop} (e : c = false) (h : B) : if c = true then A else B := by rw [e]; exact h
theorem g_ite {c : Bool} {A B : Prop} (h1 : c = true → A) (h2 : c = false → B) : if c = true then A else B := by
  cases e : c with
  | true => exact h1 e
  | false => exact h2 e
theorem g_isi {t n : String} {b : Bool} (ty : TyX K H x (.type t)) (kb : kitB t n = some b) (h : Q (.bl b) H) : rIsi K [x, .ty n] H Q := ⟨x, .ty n, _, _, b, rfl, .ty n, ty, kit_ty kb, h⟩
theorem g_len {ys : List V} {a : Addr} {R : Int → Prop} {G : Addr → List V → Prop} (hs : G a ys) (h : R (ys.length : Int)) : ∃ p zs, [V.ref a] = [V.ref p] ∧ G p zs ∧ R (zs.length : Int) := ⟨a, ys, rfl, hs, h⟩
theorem g_aug {ti : TIp} {z : V} (e : σ[i]? = some (some z)) (h : te σ H fun y H1 => ti z y H1 fun z H2 => D.nx (σ.set i (some z)) H2) : tAug i te ti D σ H := ⟨z, e, h⟩
theorem g_ipI {f : Int → Int → Int} {a b : Int} (h : Q (.int (f a b)) H) : ipI f (.int a) (.int b) H Q := ⟨a, b, rfl, rfl, h⟩
theorem g_sl {f : V → Option Int → Option Int → Hp → VK → Prop} {tl th : TO} (h : te σ H fun x H1 => tl σ H1 fun l H2 => th σ H2 fun u H3 => f x l u H3 Q) : tSl f te tl th σ H Q := h
end
theorem g_for {σ : L2.St} {H : Hp} {D : Ends} {wi : TI} {g : TG} {tb : TS} (h : wi σ H fun J H1 => ∃ W : Nat → Nat → L2.St → Hp → Prop, (∃ m, W 0 m σ H1) ∧ ∀ i m σ H, W i m σ H →
    (J.stop i H ∧ D.nx σ H) ∨ (J.go i H ∧ ∃ N : L2.St → Hp → Prop, (∀ σ' H', N σ' H' → ∃ m', m' < m ∧ W (i + 1) m' σ' H') ∧ ∀ x H', J.yld i H x H' → g x σ H' fun σ2 H2 => tb { D with nx := N, ct := N, bk := D.nx } σ2 H2)) : tFor wi g tb D σ H := h
theorem g_rg1 {σ : L2.St} {H : Hp} {aa : TA} {R : It → Hp → Prop} (h : aa σ H fun vs H1 => ∃ j : Int, vs = [.int j] ∧ -(2 ^ 62) ≤ j ∧ j < 2 ^ 62 ∧ R (Itr 0 j.toNat) H1) : iRng1 aa σ H R := h
theorem g_rg2 {σ : L2.St} {H : Hp} {aa : TA} {R : It → Hp → Prop} (h : aa σ H fun vs H1 => ∃ i j : Int, vs = [.int i, .int j] ∧ (-(2 ^ 62) ≤ i ∧ i < 2 ^ 62 ∧ -(2 ^ 62) ≤ j ∧ j < 2 ^ 62) ∧ R (Itr i (j - i).toNat) H1) : iRng2 aa σ H R := h
theorem g_il {σ : L2.St} {H : Hp} {K : PySem.W.Frag} {tl : TE} {R : It → Hp → Prop} (h : tl σ H fun x H1 => ∃ a, x = .ref a ∧ (∃ xs, SqL K H1 a xs) ∧ R (Itl K a) H1) : iList K tl σ H R := h
theorem g_it {σ : L2.St} {H : Hp} {K : PySem.W.Frag} {tl : TE} {R : It → Hp → Prop} (h : tl σ H fun x H1 => ∃ a, x = .ref a ∧ (∃ xs, SqT K H1 a xs) ∧ R (Itt K a) H1) : iTup K tl σ H R := h
theorem g_lc {σ : L2.St} {H : Hp} {wi : TI} {g : TG} {tt : TT} {te : TE} {vs : List Nat} {Q : VK} (h : wi σ H fun J H1 => ∀ D, H1 D = none → ∃ W : Nat → Nat → Hp → Prop, (∃ m, W 0 m (upd H1 D (.lst []))) ∧ ∀ i m H, W i m H →
    (J.stop i H ∧ Q (.ref D) H) ∨ (J.go i H ∧ ∃ Nx : Hp → Prop, (∀ H', Nx H' → ∃ m', m' < m ∧ W (i + 1) m' H') ∧ ∀ x H', J.yld i H x H' → g x (wipe σ vs) H' fun σ2 H2 => wipe σ2 vs = wipe σ vs ∧ tt σ2 H2 fun b H3 =>
      if b = true then te σ2 H3 fun y H4 => ∃ acc, H4 D = some (.lst acc) ∧ acc.length < sizeLine ∧ Nx (upd H4 D (.lst (acc ++ [y]))) else Nx H3)) : tLc wi g tt te vs σ H Q := h
theorem g_yes {σ : L2.St} {H : Hp} {QT : Bool → Hp → Prop} (h : QT true H) : tYes σ H QT := h
theorem g_ixL {K : PySem.W.Frag} {H : Hp} {p : Addr} {xs : List V} {i : Int} {v : V} {Q : VK} (hs : SqL K H p xs) (ha : atI xs i = some v) (h : Q v H) : rIxL K (.ref p) (.int i) H Q := ⟨p, xs, i, v, rfl, rfl, hs, ha, h⟩
theorem g_ixT {K : PySem.W.Frag} {H : Hp} {p : Addr} {xs : List V} {i : Int} {v : V} {Q : VK} (hs : SqT K H p xs) (ha : atI xs i = some v) (h : Q v H) : rIxT K (.ref p) (.int i) H Q := ⟨p, xs, i, v, rfl, rfl, hs, ha, h⟩
theorem g_app {H : Hp} {l : Addr} {xs : List V} {y : V} {Q : VK} (h : H l = some (.lst xs)) (sz : xs.length < sizeLine) (q : Q .non (upd H l (.lst (xs ++ [y])))) : rAppend (.ref l) [y] H Q := ⟨l, xs, y, rfl, rfl, h, sz, q⟩
theorem ty_l {K : PySem.W.Frag} {H : Hp} {l : Addr} {xs : List V} (h : H l = some (.lst xs)) : tyV K "list" (.ref l) H := .inl ⟨rfl, _, SqL.of h⟩
theorem map_app {ds : List Int} {d : Int} : ds.map V.int ++ [V.int d] = (ds ++ [d]).map V.int := by rw [List.map_append]; rfl
theorem g_nn {R : Prop} (h : R) : V.non = V.non ∧ R := ⟨rfl, h⟩
theorem g_ifset {D : Ends} {σ : L2.St} {H : Hp} {te : TE} {i : Nat} {b : Bool} (x old : V) (ho : σ[i]? = some (some old)) (ht : ∀ Q : VK, Q x H → te σ H Q) (h : D.nx (σ.set i (some (if b = true then x else old))) H) : if b = true then tAsg te (gName i) D σ H else tNext D σ H := by
  cases b with
  | true => rw [if_pos rfl]; exact ht _ h
  | false =>
    rw [if_neg Bool.false_ne_true]
    rw [if_neg Bool.false_ne_true] at h
    have e : σ.set i (some old) = σ := by
      obtain ⟨hi, e⟩ := List.getElem?_eq_some_iff.mp ho
      rw [← e]; exact List.set_getElem_self hi
    rw [e] at h; exact h
theorem ite_int {b : Bool} {m n : Int} : (if b = true then V.int m else V.int n) = V.int (if b = true then m else n) := by cases b <;> rfl
theorem g_oi {n : Int} {R : Int → Prop} (h : R n) : ∃ i, V.int n = .int i ∧ R i := ⟨n, rfl, h⟩
theorem g_cat {H : Hp} {Q : VK} {l b : Addr} {xs zs : List Int} (h1 : H l = some (.lst (xs.map V.int))) (h2 : H b = some (.lst (zs.map V.int))) (sz : xs.length + zs.length ≤ 100000)
    (h : ∀ p H', H p = none → Same H H' → H' p = some (.lst ((xs ++ zs).map V.int)) → Q (.ref p) H') : rCat (.ref l) (.ref b) H Q :=
  ⟨l, b, _, _, rfl, rfl, h1, h2, by rw [List.length_map, List.length_map]; rw [sizeLine_eq]; omega, fun p np => h p _ np (L2.Same.new np) (by rw [upd_same, List.map_append])⟩
/-! ### items -/
theorem at_int {ss : List Int} {o : Nat} (h : o < ss.length) : atI (ss.map V.int) (o : Int) = some (.int (ss.getD o 0)) := by
  refine atI_nat ?_
  rw [List.getElem?_map, List.getElem?_eq_getElem h, List.getD_eq_getElem?_getD, List.getElem?_eq_getElem h]; rfl

theorem getD_app {l : List Int} {v : Int} {i : Nat} : (l ++ [v]).getD i 0 = if i < l.length then l.getD i 0 else if i = l.length then v else 0 := by
  rw [List.getD_eq_getElem?_getD]
  by_cases h : i < l.length
  · rw [List.getElem?_append_left h, if_pos h, List.getD_eq_getElem?_getD]
  · rw [if_neg h, List.getElem?_append_right (by omega)]
    by_cases h2 : i = l.length
    · subst h2; simp
    · rw [if_neg h2, List.getElem?_eq_none (by simp; omega)]; rfl
theorem sl1000 {n : Nat} (h : n ≤ 100000) : n ≤ sizeLine := by rw [sizeLine_eq]; omega
theorem slt1000 {n : Nat} (h : n ≤ 100000) : n < sizeLine := by rw [sizeLine_eq]; omega
/-! ### exceptions whose context is None, short -/
theorem takes_ofN {X : Cx} {E : XK} (hs : X.stack = X.env :: X.outer) (hf : X.env.frame = some X.env.locals) (hex : X.ex = []) {E₁ : Value → Shared → Prop}
    (hx : X.xe = fun e s' => wpAny (model X.prog X.w) X.A (leaving X.env e) (fun _ s'' => L2N.CX X.prog X.w X.outer X.H_0 X.s_0 E e s'') E₁ s') : L2N.Takes X (fun cls d _ H => E cls d H) := L2N.takes_of hs hf hex hx
theorem passes_callN {X : Cx} {E : XK} (tk : L2N.Takes X (fun cls d _ H => E cls d H)) : L2.Passes (L2N.CX X.prog X.w) X E := L2N.passes_call tk (fun _ _ _ _ h => h)
theorem passN {X : Cx} : L2.Passes (L2N.CX X.prog X.w) X E0 := fun _ _ _ _ _ _ _ h => by
  obtain ⟨_, _, _, _, _, _, _, _, _, _, _, _, z⟩ := h
  exact z.elim
theorem takes0N {X : Cx} : L2N.Takes X (fun _ _ _ _ => False) := fun _ _ x => by
  obtain ⟨_, _, _, _, _, _, _, _, _, _, _, _, _, _, _, _, z⟩ := x
  exact z.elim
theorem pass0S {X : Cx} {σ : L2.St} {E : XK} : PassesAt CX0 X σ E := fun _ _ _ _ _ _ h => h.elim
theorem passes_ofN {X : Cx} {K : Value → Shared → Prop} {E₁ : Value → Shared → Prop} (hx : X.xe = fun e s' => wpAny (model X.prog X.w) X.A (leaving X.env e) (fun _ s'' => K e s'') E₁ s') : PassesOwn (model X.prog X.w) X.A X.env X.xe := passes_of hx
/-- as Fun.ok, for a def that may raise; the context of what is raised is None -/
theorem okN {P : Program} {w : World} {K : PySem.W.Frag} {mg : Str → Option Value} {base : Heap} {x qual : Str} {st : Stmt} {f : Addr} {fd : FuncData} {N ps : List Str} {k : Nat} {sp : Sp} (F : Fun K x qual st f fd) (S : FnScope N ps (defScope st)) (len : ∀ vs H Q E, sp vs H Q E → vs.length = ps.length)
    (hbody : ∀ (cdv : Value) (A : Around) (outer : List Env) (s : Shared) (H : Hp) (vs : List V) (Q : VK) (E : XK), Room k (A.deeper (envOfC qual (defScope st) s.heap.objs.size f cdv)) → sp vs H Q E →
      ∃ t, PSs (cxOf (L2N.CX P w) P w K mg base N qual (defScope st) f cdv A outer s H E) (defBody st) t ∧ t { nx := fun _ H' => Q .non H', rt := Q } (L2.start N vs) H) : FnOk P w K mg base (L2N.CX P w) (k + 1) f fd ps sp := by
  obtain ⟨oc, od, kV, doc, pm, an, cdv, ct, osl, rfl, lk, hcd⟩ := F.ex
  exact fn_of lk hcd S len fun A outer s H vs Q E hr hsp => hbody cdv A outer s H vs Q E hr hsp
/-- .. called within an except suite; nothing leaves it -/
theorem okH {P : Program} {w : World} {K : PySem.W.Frag} {mg : Str → Option Value} {base : Heap} {x qual : Str} {st : Stmt} {f : Addr} {fd : FuncData} {N ps : List Str} {k : Nat} {sp : Sp} (F : Fun K x qual st f fd) (S : FnScope N ps (defScope st)) (len : ∀ vs H Q E, sp vs H Q E → vs.length = ps.length)
    (hbody : ∀ (cdv : Value) (A : Around) (outer : List Env) (s : Shared) (H : Hp) (vs : List V) (Q : VK) (E : XK) (p : Addr × Obj), L2H.Hot1 A p → L2H.RoomH k (A.deeper (envOfC qual (defScope st) s.heap.objs.size f cdv)) → sp vs H Q E →
      ∃ t, PSs (L2H.cxH CX0 P w K mg base N qual (defScope st) f cdv A outer s H E p) (defBody st) t ∧ t { nx := fun _ H' => Q .non H', rt := Q } (L2.start N vs) H) : L2H.FnH P w K mg base CX0 (k + 1) f fd ps sp := by
  obtain ⟨oc, od, kV, doc, pm, an, cdv, ct, osl, rfl, lk, hcd⟩ := F.ex
  exact L2H.fn_ofH lk hcd S len fun A outer s H vs Q E p hot hr hsp => hbody cdv A outer s H vs Q E p hot hr hsp
structure DefOkH (P : Program) (w : World) (K : PySem.W.Frag) (mg : Str → Option Value) (base : Heap) (CX : CXT) (k : Nat) (x : Str) (ps : List Str) (sp : Sp) : Prop where
  ex : ∃ (f : Addr) (fd : FuncData), mg x = some (.ref f) ∧ PySem.W.keepIn K (.ref f) = true ∧ L2H.FnH P w K mg base CX k f fd ps sp ∧ L2.Binds K fd ps []
theorem pe_callHD {X : Cx} {CX : CXT} {k : Nat} {x : Str} {ps : List Str} {sp : Sp} {E : L2.St → XK} {p pos : Pos} {e : Expr} {es : List Expr} {t : TA} (D : DefOkH X.prog X.w X.K X.mg X.base CX k x ps sp) (hr : L2H.RoomH k X.A) (hc : L2H.HotC X) (hx : ∀ σ : L2.St, PassesAt CX X σ (E σ)) (ha : PA X (e :: es) t) (hg : Gl X x := by rfl) (hdb : (x == ("__debug__" : Str)) = false := by decide)
    (he : starEach (e :: es) X.env = (false, eval e X.env) :: starEach es X.env := by rfl) (hpl : (backTo pos (starEach es X.env)).any (·.1) = false := by rfl) : PE X (.Call (.Name x p) (e :: es) [] pos) (tCallS sp E t) := by
  obtain ⟨f, fd, a, b, c, d⟩ := D.ex
  exact L2H.pe_callH c hr hc hg a b d hx ha hdb he hpl
theorem hotC_of {X : Cx} {a : Addr} {oe : Obj} {cls : Value} {d : Option Addr} {pn : List (Addr × Obj)} (hz : L2N.Zn cls d oe) (hf : ∃ vs, oe.data = .fields vs) : L2H.HotC (X.suite a ((a, oe) :: pn)) := by
  obtain ⟨vs, e⟩ := hf
  exact ⟨(a, oe), ⟨rfl, vs, e, hz.2.2 vs e⟩, List.mem_cons_self⟩

/-! ### own exceptions with one field; len, making of an instance: by what is known of the def -/
def spExc1 (K : PySem.W.Frag) (C : Addr) (fld : Str) : Sp := fun vs H Q _ => ∃ (a : Addr) (v : V), vs = [.ref a, v] ∧ H a = some (exo a C none) ∧ OexC K C ∧ PySem.W.findIn K (.ref C) fld = some none ∧
  ∀ dx : Addr, H dx = none → dx ≠ a → Q .non (upd (upd H dx (exd dx [(fld, v)])) a (exo a C (some dx)))
structure ExcDef (P : Program) (w : World) (K : PySem.W.Frag) (mg : Str → Option Value) (base : Heap) (x : Str) (C : Addr) (fld : Str) : Prop where
  ex : ∃ (fI : Addr) (fd : FuncData), OexC K C ∧ PySem.W.findIn K (.ref C) "__init__" = some (some (.ref fI)) ∧ PySem.W.typeIn K (.ref fI) = some (.type "function") ∧ FnOk P w K mg base CX0 1 fI fd ["self", fld] (spExc1 K C fld) ∧ L2.Binds K fd ["self", fld] [] ∧ mg x = some (.ref C) ∧ PySem.W.findIn K (.ref C) fld = some none
theorem pmk_D {X : Cx} {x : Str} {e : Expr} {es : List Expr} {ta : TA} {p pos : Pos} {C : Addr} {fld : Str} (D : ExcDef X.prog X.w X.K X.mg X.base x C fld) (hr : Room 2 X.A) (ha : PA X (e :: es) ta) (hg : Gl X x := by rfl)
    (hdb : (x == ("__debug__" : Str)) = false := by decide) (he : starEach (e :: es) X.env = (false, eval e X.env) :: starEach es X.env := by rfl) (hpl : (backTo pos (starEach es X.env)).any (·.1) = false := by rfl) :
    L2N.PMk X (.Call (.Name x p) (e :: es) [] pos) (tMkO C (spExc1 X.K C fld) [] ta) := by
  obtain ⟨fI, fd, T, iC, tI, F, b, m, no⟩ := D.ex
  exact pmk_oexN T iC tI F hr b pass0 hg m ha hdb he hpl
def MkO (C : Addr) (sp : Sp) (vs : List V) (H1 : Hp) (Q : XK) : Prop := vs.length ≤ 1000 ∧ ∀ a, H1 a = none → sp (.ref a :: (vs ++ [])) (upd H1 a (exo a C none))
  (fun v H2 => v = .non ∧ ∃ (d : Addr) (fs : List (Str × V)), H2 a = some (exo a C (some d)) ∧ H2 d = some (exd d fs) ∧ H1 d = none ∧ Q (.ref C) (some d) (upd (del H2 a) d (.xd fs))) (fun _ _ _ => False)
theorem g_mko {C : Addr} {sp : Sp} {aa : TA} {σ : L2.St} {H : Hp} {Q : XK} (h : aa σ H fun vs H1 => MkO C sp vs H1 Q) : tMkO C sp [] aa σ H Q := h
theorem mk1 {K : PySem.W.Frag} {C : Addr} {fld : Str} {v : V} {H : Hp} {Q : XK} (T : OexC K C) (no : PySem.W.findIn K (.ref C) fld = some none)
    (h : ∀ d H', H d = none → Same H H' → H' d = some (.xd [(fld, v)]) → Q (.ref C) (some d) H') : MkO C (spExc1 K C fld) [v] H Q := by
  refine ⟨by simp, fun a na => ⟨a, v, rfl, upd_same, T, no, fun dx hdx ne => ⟨rfl, dx, [(fld, v)], upd_same, ?_, ?_, ?_⟩⟩⟩
  · rw [upd_ne ne, upd_same]
  · rw [upd_ne ne] at hdx; exact hdx
  · rw [upd_ne ne] at hdx
    refine h dx _ hdx (fun b o hb => ?_) upd_same
    have nb : b ≠ dx := ne_of_none hb hdx
    have na' : b ≠ a := ne_of_none hb na
    rw [upd_ne nb, del_ne na', upd_ne na', upd_ne nb, upd_ne na']
    exact hb
structure LenD (P : Program) (w : World) (K : PySem.W.Frag) (mg : Str → Option Value) (base : Heap) (C : Addr) (sp : Sp) : Prop where
  ex : ∃ (f : Addr) (fd : FuncData), LenC K C f ∧ FnOk P w K mg base CX0 1 f fd ["self"] sp ∧ L2.Binds K fd ["self"] []
theorem call_lenD {X : Cx} {C : Addr} {sp : Sp} (D : LenD X.prog X.w X.K X.mg X.base C sp) (hr : Room 2 X.A) : CallR X (.builtin "len") (rLenO C sp E0) := by
  obtain ⟨f, fd, a, b, c⟩ := D.ex
  exact call_lenO a b hr c pass0
structure CtorD (P : Program) (w : World) (K : PySem.W.Frag) (mg : Str → Option Value) (base : Heap) (CX : CXT) (k : Nat) (x : Str) (C : Addr) (n : Nat) (ks : List Str) (gV : List V → List V → List V) (sp : Sp) : Prop where
  ex : ∃ (f : Addr) (fd : FuncData) (ps : List Str) (g : List Value → List Value → List Value), mg x = some (.ref C) ∧ Mk K C f ∧ FnOk P w K mg base CX k f fd ps sp ∧ KBn K fd ps (n + 1) ks g gV
theorem pe_makeD {X : Cx} {CX : CXT} {k n : Nat} {C : Addr} {ks : List Str} {sp : Sp} {E : XK} {x : Str} {p pos : Pos} {e : Expr} {es : List Expr} {kws : List Keyword} {t tk : TA} {gV : List V → List V → List V}
    (D : CtorD X.prog X.w X.K X.mg X.base CX k x C n ks gV sp) (hr : Room (k + 1) X.A) (hx : L2.Passes CX X E) (ha : PA X (e :: es) t) (hkw : PK X kws tk) (hg : Gl X x := by rfl)
    (hall : (backToKw pos (keywordEach kws X.env)).all (·.1.isSome) = true := by rfl) (hks : (backToKw pos (keywordEach kws X.env)).filterMap (·.1) = ks := by rfl) (hdb : (x == ("__debug__" : Str)) = false := by decide)
    (he : starEach (e :: es) X.env = (false, eval e X.env) :: starEach es X.env := by rfl) (hpl : ((backTo pos (starEach (e :: es) X.env)).any (·.1) || (backToKw pos (keywordEach kws X.env)).any (·.1.isNone)) = false := by rfl) :
    PE X (.Call (.Name x p) (e :: es) kws pos) (tMakeK C n ks.length sp gV E t tk) := by
  obtain ⟨f, fd, ps, g, m, M, F, b⟩ := D.ex
  exact pe_makeK M F hr hg m b hx ha hkw hall hks hdb he hpl
def NewRg (a b : Int) (H : Hp) (Q : VK) : Prop := RgOk a b ∧ ∀ q, H q = none → Q (.ref q) (upd H q (.lst (rgV a b)))
theorem g_lrg {te : L2.St → Hp → (Int → Int → Hp → Prop) → Prop} {σ : L2.St} {H : Hp} {Q : VK} (h : te σ H fun a b H1 => NewRg a b H1 Q) : tLstRg te σ H Q := h
theorem g_tr1 {ta : TE} {σ : L2.St} {H : Hp} {Q : Int → Int → Hp → Prop} (h : ta σ H fun x H1 => ∃ n, x = .int n ∧ Q 0 n H1) : tRg1 ta σ H Q := h
theorem g_tr2 {ta tb : TE} {σ : L2.St} {H : Hp} {Q : Int → Int → Hp → Prop} (h : ta σ H fun x H1 => tb σ H1 fun y H2 => ∃ i j, x = .int i ∧ y = .int j ∧ Q i j H2) : tRg2 ta tb σ H Q := h
theorem g_oi2 {n m : Int} {R : Int → Int → Prop} (h : R n m) : ∃ i j, V.int n = .int i ∧ V.int m = .int j ∧ R i j := ⟨n, m, rfl, rfl, h⟩
theorem newRg {a b : Nat} {H : Hp} {Q : VK} (h0 : a ≤ 100000) (h1 : b ≤ 100000) (h : ∀ p H', H p = none → Same H H' → H' p = some (.lst ((List.range (b - a)).map fun i => V.int ((a + i : Nat) : Int))) → Q (.ref p) H') : NewRg (a : Int) (b : Int) H Q := by
  refine ⟨RgOk.of_le (by omega) (by omega) (by omega) (by omega), fun q nq => h q _ nq (L2.Same.new nq) ?_⟩
  rw [upd_same]
  unfold rgV
  rw [show ((b : Int) - (a : Int)).toNat = b - a by omega]
  have e : (fun i : Nat => V.int ((a : Int) + (i : Int))) = fun i : Nat => V.int ((a + i : Nat) : Int) := by funext i; rw [Int.natCast_add]
  rw [e]
def MakeK (C : Addr) (sp : Sp) (n m : Nat) (gV : List V → List V → List V) (E : XK) (vs zs : List V) (H2 : Hp) (Q : VK) : Prop := vs.length = n ∧ zs.length = m ∧ ∀ x dx, H2 x = none → H2 dx = none → dx ≠ x →
  sp (gV (.ref x :: vs) zs) (upd (upd H2 dx (.own x)) x (.ins C dx [])) (fun v H3 => v = .non ∧ Q (.ref x) H3) E
theorem g_mk {C : Addr} {n m : Nat} {sp : Sp} {gV : List V → List V → List V} {E : XK} {t tk : TA} {σ : L2.St} {H : Hp} {Q : VK} (h : t σ H fun vs H1 => tk σ H1 fun zs H2 => MakeK C sp n m gV E vs zs H2 Q) : tMakeK C n m sp gV E t tk σ H Q := h
theorem pmk_u {t : L2.St → Hp → XK → Prop} {W : WX} {D : Ends} {σ : L2.St} {H : Hp} (h : t σ H fun cls d H' => W cls d σ H') : (fun (_ : Ends) σ H => t σ H fun cls d H' => W cls d σ H') D σ H := h
theorem g_sfld {K : PySem.W.Frag} {ta tv : TE} {f : Str} {D : Ends} {σ : L2.St} {H : Hp} (h : tv σ H fun y H1 => ta σ H1 fun x H2 => ∃ a C dx fs, x = .ref a ∧ H2 a = some (.ins C dx fs) ∧ Cls K C ∧ NoAttr K C f ∧ fs.length < 1000 ∧ D.nx σ (upd H2 a (.ins C dx (putF f y fs)))) : sFld K ta tv f D σ H := h
theorem g_ost {K : PySem.W.Frag} {f : Str} {to te : TE} {D : Ends} {σ : L2.St} {H : Hp} (h : te σ H fun y H1 => to σ H1 fun x H2 => ∃ a C : Addr, x = .ref a ∧ OexC K C ∧ PySem.W.findIn K (.ref C) f = some none ∧
  ((H2 a = some (exo a C none) ∧ ∀ dx, H2 dx = none → dx ≠ a → D.nx σ (upd (upd H2 dx (exd dx [(f, y)])) a (exo a C (some dx)))) ∨
    ∃ (dx : Addr) (fs : List (Str × V)), H2 a = some (exo a C (some dx)) ∧ H2 dx = some (exd dx fs) ∧ fs.length ≤ 900 ∧ D.nx σ (upd H2 dx (exd dx ((f, y) :: fs))))) : tOst K f to te D σ H := h

/-! ### the rules with the written part named (within a comprehension it must not hang on the block) -/
section
variable {X : Cx} (K : PySem.W.Frag)
theorem ix_tupK (h : X.K = K := by rfl) : IxR X (rIxT K) := by subst h; exact ix_tup
theorem ix_listK (h : X.K = K := by rfl) : IxR X (rIxL K) := by subst h; exact ix_list
theorem ix_seqK (h : X.K = K := by rfl) : IxR X (rIx K) := by subst h; exact ix_seq
theorem sl_listK (h : X.K = K := by rfl) : SlR X (rSlL K) := by subst h; exact sl_list
theorem sl_tupK (h : X.K = K := by rfl) : SlR X (rSlA K) := by subst h; exact sl_tupA
theorem cr_sumK (hc : X.calm = true) (h : X.K = K := by rfl) : CallR X (.builtin "sum") (rSum K) := by subst h; exact cr_sum hc
theorem call_isiQ (h : X.K = K := by rfl) : CallR X (.builtin "isinstance") (rIsi K) := by subst h; exact call_isi
def rLenQ (K : PySem.W.Frag) : List V → Hp → VK → Prop := fun xs H Q => ∃ p ys, xs = [.ref p] ∧ (SqL K H p ys ∨ SqT K H p ys) ∧ Q (.int ys.length) H
def rListO (K : PySem.W.Frag) : List V → Hp → VK → Prop := fun xs H Q => ∃ p ys, xs = [.ref p] ∧ (SqL K H p ys ∨ SqT K H p ys) ∧ ∀ l, H l = none → Q (.ref l) (upd H l (.lst ys))
def rTupO (K : PySem.W.Frag) : List V → Hp → VK → Prop := fun xs H Q => ∃ p ys, xs = [.ref p] ∧ ((SqL K H p ys ∧ ∀ l, H l = none → Q (.ref l) (upd H l (.tup ys))) ∨ (SqT K H p ys ∧ Q (.ref p) H))
theorem call_lenK (h : X.K = K := by rfl) : CallR X (.builtin "len") (rLenQ K) := by subst h; exact call_len_seq
theorem call_listK (h : X.K = K := by rfl) : CallR X (.type "list") (rListO K) := by subst h; exact call_list_of
theorem call_tupleK (h : X.K = K := by rfl) : CallR X (.type "tuple") (rTupO K) := by subst h; exact call_tuple_of
theorem op_repTK (h : X.K = K := by rfl) : OpR X (binaryOp .Mult) (rRepT K) := by subst h; exact op_repT
theorem op_catTK (h : X.K = K := by rfl) : OpR X (binaryOp .Add) (rCatT K) := by subst h; exact op_catT
theorem op_eqDK (hu : X.A.units + 64 < cLine) (h : X.K = K := by rfl) : OpR X (compareOp .Eq) (rEqD K) := by subst h; exact op_eqD hu
theorem op_neDK (hu : X.A.units + 64 < cLine) (h : X.K = K := by rfl) : OpR X (compareOp .NotEq) (rNeD K) := by subst h; exact op_neD hu
variable {e o l : Expr} {te ta tv tl : TE} {f : Str} {pos pos' apos cpos : Pos} {tg : Expr} {es : List Expr} {t : TA} {T id : String} {r : V → List V → Hp → VK → Prop} {name : Str} {value : Expr}
theorem pe_fldK (he : PE X e ta) (hb : attributeBase e f X.env (eval e X.env) = eval e X.env) (h : X.K = K := by rfl) : PE X (.Attribute e f pos) (tFld K ta f) := by subst h; exact pe_fld he hb
theorem pi_listK (hl : PE X l tl) (h : X.K = K := by rfl) : PI X tg l (iList K tl) := by subst h; exact pi_list hl
theorem pi_tupK (hl : PE X l tl) (h : X.K = K := by rfl) : PI X tg l (iTup K tl) := by subst h; exact pi_tup hl
theorem ps_fldK (ha : PE X o ta) (hv : PE X value tv) (hs : swapsWith value (some (.Attribute o f pos')) pos.line X.env = pure false) (h : X.K = K := by rfl) : PS X (.Assign [.Attribute o f pos'] value pos) (sFld K ta tv f) := by subst h; exact ps_fld ha hv hs
theorem ps_ostK (ho : PE X o ta) (he : PE X e te) (hs : swapsWith e (some (.Attribute o f pos')) pos.line X.env = pure false := by rfl) (h : X.K = K := by rfl) : PS X (.Assign [.Attribute o f pos'] e pos) (tOst K f ta te) := by subst h; exact ps_ost ho he hs
theorem pe_appK {e : Expr} (ho : PE X o ta) (ha : PA X (e :: es) t) (h : X.K = K := by rfl)
    (hbase : attributeBase o "append" X.env (eval o X.env) = eval o X.env := by rfl)
    (hfew : ((backTo cpos (starEach (e :: es) X.env)).all (fun x => !x.1) && (backToKw cpos (keywordEach [] X.env)).all (fun x => x.1.isSome)
      && decide ((e :: es).length + ([] : List Keyword).length + (if ([] : List Keyword).isEmpty then 0 else 1) < 30)) = true := by rfl)
    (hline : (apos.endLine == cpos.line) = true := by rfl) (hs : starEach (e :: es) X.env = (false, eval e X.env) :: starEach es X.env := by rfl) (hplain : (backTo cpos (starEach es X.env)).any (·.1) = false := by rfl) :
    PE X (.Call (.Attribute o "append" apos) (e :: es) [] cpos) (tBM K "list" rAppend ta t) := by
  subst h; exact pe_bm PySem.F.plainAttrs_list PySem.F.slot_list_append PySem.F.type_list_append mt_append ho ha hbase hfew hline hs hplain
end
theorem g_xf {a : Addr} {cls : Value} {d : Option Addr} {C : Addr} {f : Str} {te : TE} {σ : L2.St} {H : Hp} {Q : VK} (h : te σ H fun x H1 => x = .ref a ∧ cls = .ref C ∧ ∃ (dd : Addr) (fs : List (Str × V)) (v : V), d = some dd ∧ H1 dd = some (.xd fs) ∧ fs.lookup f = some v ∧ Q v H1) : tXf a cls d C f te σ H Q := h
theorem g_lo {K : PySem.W.Frag} {H : Hp} {p : Addr} {ys : List V} {Q : VK} (hs : SqL K H p ys ∨ SqT K H p ys) (h : ∀ l H', H l = none → Same H H' → H' l = some (.lst ys) → Q (.ref l) H') : rListO K [.ref p] H Q := ⟨p, ys, rfl, hs, fun l nl => h l _ nl (L2.Same.new nl) upd_same⟩
theorem g_tt {A B : Prop} (h : A) : if true = true then A else B := by rw [if_pos rfl]; exact h
theorem g_ff {A B : Prop} (h : B) : if false = true then A else B := by rw [if_neg Bool.false_ne_true]; exact h
theorem g_nt {A B : Prop} (h : B) : if (!true) = true then A else B := g_ff h
theorem g_nf {A B : Prop} (h : A) : if (!false) = true then A else B := g_tt h
theorem g_drn {a : Addr} {A B : Prop} (h : B) : if decide (V.ref a = V.non) = true then A else B := g_ff h
theorem g_din {a : Int} {A B : Prop} (h : B) : if decide (V.int a = V.non) = true then A else B := g_ff h
theorem g_dnn {A B : Prop} (h : A) : if decide (V.non = V.non) = true then A else B := g_tt h
theorem g_nrn {a : Addr} {A B : Prop} (h : A) : if (!decide (V.ref a = V.non)) = true then A else B := g_tt h
theorem g_nin {a : Int} {A B : Prop} (h : A) : if (!decide (V.int a = V.non)) = true then A else B := g_tt h
theorem g_nnn {A B : Prop} (h : B) : if (!decide (V.non = V.non)) = true then A else B := g_ff h
end Rt
set_option Elab.async false
set_option linter.all false
set_option maxRecDepth 100000
set_option maxHeartbeats 4000000
/-! The mathematics: runs, trains, reaches over plain lists. -/
namespace Rt
open PySem PySem.Spec L2
theorem tw_all {α : Type} {q : α → Bool} : ∀ {l : List α}, (∀ x ∈ l, q x = true) → l.takeWhile q = l
  | [], _ => rfl
  | a :: l, h => by
    rw [List.takeWhile_cons, if_pos (h a List.mem_cons_self), tw_all fun x hx => h x (List.mem_cons_of_mem _ hx)]
theorem tw_stop {α : Type} {q : α → Bool} : ∀ {l : List α} {i : Nat} {x : α}, (∀ y ∈ l.take i, q y = true) → l[i]? = some x → q x = false → l.takeWhile q = l.take i
  | [], i, x, _, h, _ => by simp at h
  | a :: l, 0, x, _, h, hq => by
    have e : a = x := Option.some.inj h
    subst e
    rw [List.takeWhile_cons, if_neg (by rw [hq]; exact Bool.false_ne_true)]; rfl
  | a :: l, i + 1, x, ha, h, hq => by
    rw [List.takeWhile_cons, if_pos (ha a (by rw [List.take_succ_cons]; exact List.mem_cons_self)), List.take_succ_cons,
      tw_stop (l := l) (i := i) (x := x) (fun y hy => ha y (by rw [List.take_succ_cons]; exact List.mem_cons_of_mem _ hy)) h hq]
theorem take_more {α : Type} : ∀ {l : List α} {i : Nat} {x : α}, l[i]? = some x → l.take (i + 1) = l.take i ++ [x]
  | [], i, x, h => by simp at h
  | a :: l, 0, x, h => by
    have e : a = x := Option.some.inj h
    subst e
    rfl
  | a :: l, i + 1, x, h => by
    have ih := take_more (l := l) (i := i) (x := x) h
    show a :: l.take (i + 1) = a :: l.take i ++ [x]
    rw [ih]; rfl
/-- the run after the place p, among n places -/
def run (r : Bool) (n p : Nat) : List Nat := (List.range (n - (p + 1))).map (fun i => p + 1 + i) ++ (if r = true then List.range p else [])
theorem run_at {r : Bool} {n p i : Nat} (hp : p < n) (hi : i + 1 < n) : (run r n p)[i]? = if p + 1 + i < n then some (p + 1 + i) else if r = true then some (p + 1 + i - n) else none := by
  unfold run
  by_cases h : p + 1 + i < n
  · rw [if_pos h, List.getElem?_append_left (by rw [List.length_map, List.length_range]; omega), List.getElem?_map, List.getElem?_range (by omega)]; rfl
  · rw [if_neg h, List.getElem?_append_right (by rw [List.length_map, List.length_range]; omega), List.length_map, List.length_range]
    cases r with
    | true =>
      rw [if_pos rfl, if_pos rfl, List.getElem?_range (by omega)]
      congr 1; omega
    | false => simp
theorem run_len {r : Bool} {n p : Nat} (hp : p < n) : (run r n p).length = if r = true then n - 1 else n - (p + 1) := by
  unfold run
  cases r with
  | true => rw [if_pos rfl, if_pos rfl, List.length_append, List.length_map, List.length_range, List.length_range]; omega
  | false => simp
theorem run_lt {r : Bool} {n p : Nat} (hp : p < n) : ∀ o ∈ run r n p, o < n := by
  intro o ho
  unfold run at ho
  rcases List.mem_append.mp ho with h | h
  · obtain ⟨i, hi, rfl⟩ := List.mem_map.mp h
    have := List.mem_range.mp hi; omega
  · cases r with
    | true => rw [if_pos rfl] at h; have := List.mem_range.mp h; omega
    | false => simp at h
abbrev nI (l : List Nat) : List V := l.map fun (k : Nat) => V.int (k : Int)
abbrev iI (l : List Nat) : List Int := l.map fun (k : Nat) => (k : Int)
theorem nI_eq (l : List Nat) : nI l = (iI l).map V.int := by unfold nI iI; rw [List.map_map]; rfl
def wk (ss : List Int) (p : Nat) : Nat → Bool := fun o => decide (ss.getD o 0 < ss.getD p 0)
/-- the train of the bead at p -/
def trn (r : Bool) (ss : List Int) (p : Nat) : List Nat := (run r ss.length p).takeWhile (wk ss p)
def stp (r : Bool) (ss : List Int) (p : Nat) : Option Nat := (run r ss.length p)[(trn r ss p).length]?
def oV : Option Nat → V
  | none => .non
  | some o => .int (o : Int)
def rch (r : Bool) (ss ls : List Int) (p : Nat) : Int := ls.getD p 0 + ((trn r ss p).map fun o => ls.getD o 0).sum
theorem trn_lt {r : Bool} {ss : List Int} {p : Nat} (hp : p < ss.length) : ∀ o ∈ trn r ss p, o < ss.length := fun o ho => run_lt hp o ((List.takeWhile_sublist _).subset ho)
theorem trn_len {r : Bool} {ss : List Int} {p : Nat} : (trn r ss p).length ≤ (run r ss.length p).length := (List.takeWhile_sublist _).length_le
theorem run_le {r : Bool} {n p : Nat} (hp : p < n) : (run r n p).length < n := by
  rw [run_len hp]; split <;> omega
theorem sum_app (l : List Int) (x : Int) : (l ++ [x]).sum = l.sum + x := by
  rw [List.sum_append, List.sum_cons, List.sum_nil]; omega
theorem sum_le {l : List Int} {b : Int} (h : ∀ x ∈ l, x ≤ b) : l.sum ≤ b * l.length := by
  induction l with
  | nil => simp
  | cons a l ih =>
    have h1 := h a List.mem_cons_self
    have h2 := ih fun x hx => h x (List.mem_cons_of_mem _ hx)
    rw [List.sum_cons, List.length_cons, Int.natCast_add, Int.mul_add]
    omega
theorem sum_ge {l : List Int} (h : ∀ x ∈ l, 0 ≤ x) : 0 ≤ l.sum := by
  induction l with
  | nil => simp
  | cons a l ih =>
    have h1 := h a List.mem_cons_self
    have h2 := ih fun x hx => h x (List.mem_cons_of_mem _ hx)
    rw [List.sum_cons]; omega
theorem getD_mem {l : List Int} {i : Nat} (h : i < l.length) : l.getD i 0 ∈ l := by
  rw [List.getD_eq_getElem?_getD, List.getElem?_eq_getElem h]
  exact List.getElem_mem h
theorem ext_getD {l m : List Int} (hl : l.length = m.length) (h : ∀ i, i < l.length → l.getD i 0 = m.getD i 0) : l = m := by
  refine List.ext_getElem hl fun i h1 h2 => ?_
  have := h i h1
  rw [List.getD_eq_getElem?_getD, List.getD_eq_getElem?_getD, List.getElem?_eq_getElem h1, List.getElem?_eq_getElem h2] at this
  exact this

/-! ### the walk of a law along a run -/
structure Wkd (r : Bool) (ss : List Int) (p i : Nat) : Prop where
  all : ∀ y ∈ (run r ss.length p).take i, wk ss p y = true
  le : i ≤ (run r ss.length p).length
theorem Wkd.zero {r : Bool} {ss : List Int} {p : Nat} : Wkd r ss p 0 := ⟨fun y h => by simp at h, Nat.zero_le _⟩
theorem Wkd.more {r : Bool} {ss : List Int} {p i o : Nat} (w : Wkd r ss p i) (ho : (run r ss.length p)[i]? = some o) (hw : wk ss p o = true) : Wkd r ss p (i + 1) := by
  refine ⟨fun y h => ?_, (List.getElem?_eq_some_iff.mp ho).1⟩
  rw [take_more ho] at h
  rcases List.mem_append.mp h with z | z
  · exact w.all y z
  · have e : y = o := by simpa using z
    subst e; exact hw
theorem Wkd.full {r : Bool} {ss : List Int} {p i : Nat} (w : Wkd r ss p i) (h : (run r ss.length p).length ≤ i) : trn r ss p = (run r ss.length p).take i ∧ stp r ss p = none := by
  have e : (run r ss.length p).take i = run r ss.length p := List.take_of_length_le h
  have t : trn r ss p = run r ss.length p := tw_all fun x hx => w.all x (by rw [e]; exact hx)
  refine ⟨t.trans e.symm, ?_⟩
  unfold stp
  rw [t, List.getElem?_eq_none (Nat.le_refl _)]
theorem Wkd.stop {r : Bool} {ss : List Int} {p i o : Nat} (w : Wkd r ss p i) (ho : (run r ss.length p)[i]? = some o) (hw : wk ss p o = false) : trn r ss p = (run r ss.length p).take i ∧ stp r ss p = some o := by
  have t : trn r ss p = (run r ss.length p).take i := tw_stop w.all ho hw
  refine ⟨t, ?_⟩
  unfold stp
  rw [t, List.length_take, Nat.min_eq_left w.le, ho]
theorem sum_more {r : Bool} {n p i o : Nat} {ls : List Int} (ho : (run r n p)[i]? = some o) : (((run r n p).take (i + 1)).map fun o => ls.getD o 0).sum = (((run r n p).take i).map fun o => ls.getD o 0).sum + ls.getD o 0 := by
  rw [take_more ho, List.map_append]
  exact sum_app _ _
theorem wk_eq {ss : List Int} {p o : Nat} : wk ss p o = decide (ss.getD o 0 < ss.getD p 0) := rfl
theorem wk_f {ss : List Int} {p o : Nat} (h : decide (ss.getD p 0 ≤ ss.getD o 0) = true) : wk ss p o = false := by
  have := of_decide_eq_true h; rw [wk_eq]; exact decide_eq_false (by omega)
theorem wk_t {ss : List Int} {p o : Nat} (h : decide (ss.getD p 0 ≤ ss.getD o 0) = false) : wk ss p o = true := by
  have := of_decide_eq_false h; rw [wk_eq]; exact decide_eq_true (by omega)
/-! ### lists of ints -/
theorem at_toNat {zs : List Int} {f : Int} (h0 : 0 ≤ f) (h1 : f < (zs.length : Int)) : atI (zs.map V.int) f = some (.int (zs.getD f.toNat 0)) := by
  have e : f = ((f.toNat : Nat) : Int) := by omega
  rw [e]
  have := at_int (ss := zs) (o := f.toNat) (by omega)
  rw [Int.toNat_natCast]
  exact this
theorem rep_flat {α : Type} (x : α) : ∀ k : Nat, (List.replicate k [x]).flatten = List.replicate k x
  | 0 => rfl
  | k + 1 => by rw [List.replicate_succ, List.flatten_cons, rep_flat x k, List.replicate_succ]; rfl
theorem cut1 (xs : List V) (h : 0 < xs.length) : cutV xs (some 1) none = xs.drop 1 := by
  unfold cutV
  have e1 : HT.sIx xs.length 0 (some 1) = 1 := by
    unfold HT.sIx; simp; omega
  have e2 : HT.sIx xs.length xs.length none = xs.length := by
    unfold HT.sIx; rfl
  rw [e1, e2]
  exact List.take_of_length_le (by rw [List.length_drop]; omega)
structure Dr (ns ds : List Int) : Prop where
  len : ds.length = ns.length
  at_ : ∀ i, i < ns.length → 0 ≤ ds.getD i 0 ∧ ds.getD i 0 < ns.getD i 0
theorem getD_drop1 (ds : List Int) (i : Nat) : (ds.drop 1).getD i 0 = ds.getD (i + 1) 0 := by
  rw [List.getD_eq_getElem?_getD, List.getD_eq_getElem?_getD, List.getElem?_drop, Nat.add_comm]
theorem Dr.tail {m : Int} {ms ds : List Int} (h : Dr (m :: ms) ds) : Dr ms (ds.drop 1) := by
  refine ⟨by rw [List.length_drop, h.len]; rfl, fun i hi => ?_⟩
  rw [getD_drop1]
  have := h.at_ (i + 1) (by rw [List.length_cons]; omega)
  exact this
theorem getD_map {l : List Int} {g : Int → Int} {i : Nat} (h : i < l.length) : (l.map g).getD i 0 = g (l.getD i 0) := by
  rw [List.getD_eq_getElem?_getD, List.getElem?_map, List.getElem?_eq_getElem h, List.getD_eq_getElem?_getD, List.getElem?_eq_getElem h]; rfl
theorem getD_rep {n : Nat} {x : Int} {i : Nat} (h : i < n) : (List.replicate n x).getD i 0 = x := by
  rw [List.getD_eq_getElem?_getD, List.getElem?_replicate, if_pos h]; rfl
theorem mem_getD {l : List Int} {x : Int} (h : x ∈ l) : ∃ i, i < l.length ∧ l.getD i 0 = x := by
  obtain ⟨i, hi, e⟩ := List.mem_iff_getElem.mp h
  exact ⟨i, hi, by rw [List.getD_eq_getElem?_getD, List.getElem?_eq_getElem hi]; exact e⟩

theorem g_rep1 {H : Hp} {Q : VK} {l : Addr} {x : Int} {k : Nat} (h1 : H l = some (.lst [V.int x])) (sz : k ≤ 100000)
    (h : ∀ p H', H p = none → Same H H' → H' p = some (.lst ((List.replicate k x).map V.int)) → Q (.ref p) H') : rRep (.ref l) (.int (k : Int)) H Q :=
  ⟨l, (k : Int), [V.int x], rfl, rfl, h1, by omega, by omega, by rw [Int.toNat_natCast, sizeLine_eq, List.length_singleton]; omega, fun p np => h p _ np (L2.Same.new np) (by rw [upd_same, Int.toNat_natCast, rep_flat, List.map_replicate])⟩
theorem g_sl1 {K : PySem.W.Frag} {H : Hp} {Q : VK} {l : Addr} {xs : List Int} (h1 : SqL K H l (xs.map V.int)) (h0 : 0 < xs.length)
    (h : ∀ p H', H p = none → Same H H' → H' p = some (.lst ((xs.drop 1).map V.int)) → Q (.ref p) H') : rSlL K (.ref l) (some 1) none H Q :=
  ⟨l, _, rfl, h1, fun p np => h p _ np (L2.Same.new np) (by rw [upd_same, cut1 _ (by rw [List.length_map]; exact h0), List.map_drop])⟩
/-! ### comprehensions over ints -/
theorem lc_ints {K : PySem.W.Frag} {a : Addr} {xs : List Int} {g : TG} {te : TE} {vs : List Nat} {σ : L2.St} {H1 : Hp} {D : Addr} {Qd : Hp → Prop} (f : Int → Int) (hs : SqL K H1 a (xs.map V.int)) (hD : H1 D = none) (sz : xs.length ≤ 100000)
    (turn : ∀ (i : Nat) (x : Int) (H' : Hp), xs[i]? = some x → Same H1 H' → ∀ Q : VK, (∀ H2, Same H' H2 → Q (.int (f x)) H2) → g (.int x) (wipe σ vs) H' fun σ2 H2 => wipe σ2 vs = wipe σ vs ∧ te σ2 H2 Q)
    (done : ∀ H', Same H1 H' → H' D = some (.lst ((xs.map f).map V.int)) → Qd H') :
    ∃ W : Nat → Nat → Hp → Prop, (∃ m, W 0 m (upd H1 D (.lst []))) ∧ ∀ i m H, W i m H →
      ((Itl K a).stop i H ∧ Qd H) ∨ ((Itl K a).go i H ∧ ∃ Nx : Hp → Prop, (∀ H', Nx H' → ∃ m', m' < m ∧ W (i + 1) m' H') ∧ ∀ x H', (Itl K a).yld i H x H' → g x (wipe σ vs) H' fun σ2 H2 => wipe σ2 vs = wipe σ vs ∧ tYes σ2 H2 fun b H3 =>
        if b = true then te σ2 H3 fun y H4 => ∃ acc, H4 D = some (.lst acc) ∧ acc.length < sizeLine ∧ Nx (upd H4 D (.lst (acc ++ [y]))) else Nx H3) := by
  refine lc_list (xs := xs.map V.int) (fun i H' => Same H1 H' ∧ H' D = some (.lst (((xs.take i).map f).map V.int))) ⟨Same.new hD, upd_same⟩ (fun i H' _ h => h.1.seq hs) ?_ ?_
  · rintro i y H' hi ⟨S1, hd⟩
    obtain ⟨x, hx, rfl⟩ : ∃ x, xs[i]? = some x ∧ y = V.int x := by
      rw [List.getElem?_map] at hi
      cases e : xs[i]? with
      | none => rw [e] at hi; cases hi
      | some x => rw [e] at hi; exact ⟨x, rfl, (Option.some.inj hi).symm⟩
    have hil : i < xs.length := (List.getElem?_eq_some_iff.mp hx).1
    refine turn i x H' hx S1 _ fun H2 S2 => ⟨_, S2 _ _ hd, ?_, (S1.trans S2).mut hD, ?_⟩
    · rw [List.length_map, List.length_map, List.length_take]; exact slt1000 (by omega)
    · rw [upd_same, take_more hx, List.map_append, List.map_append]; rfl
  · rintro H' ⟨S1, hd⟩
    rw [List.length_map, List.take_length] at hd
    exact done H' S1 hd
theorem lc_rangeI {lo : Int} {n : Nat} {g : TG} {te : TE} {vs : List Nat} {σ : L2.St} {H1 : Hp} {D : Addr} {Qd : Hp → Prop} (f : Nat → Int) (hD : H1 D = none) (sz : n ≤ 100000)
    (turn : ∀ (i : Nat) (H' : Hp), i < n → Same H1 H' → ∀ Q : VK, (∀ H2, Same H' H2 → Q (.int (f i)) H2) → g (.int (lo + i)) (wipe σ vs) H' fun σ2 H2 => wipe σ2 vs = wipe σ vs ∧ te σ2 H2 Q)
    (done : ∀ H', Same H1 H' → H' D = some (.lst (((List.range n).map f).map V.int)) → Qd H') :
    ∃ W : Nat → Nat → Hp → Prop, (∃ m, W 0 m (upd H1 D (.lst []))) ∧ ∀ i m H, W i m H →
      ((Itr lo n).stop i H ∧ Qd H) ∨ ((Itr lo n).go i H ∧ ∃ Nx : Hp → Prop, (∀ H', Nx H' → ∃ m', m' < m ∧ W (i + 1) m' H') ∧ ∀ x H', (Itr lo n).yld i H x H' → g x (wipe σ vs) H' fun σ2 H2 => wipe σ2 vs = wipe σ vs ∧ tYes σ2 H2 fun b H3 =>
        if b = true then te σ2 H3 fun y H4 => ∃ acc, H4 D = some (.lst acc) ∧ acc.length < sizeLine ∧ Nx (upd H4 D (.lst (acc ++ [y]))) else Nx H3) := by
  refine lc_range (fun i H' => Same H1 H' ∧ H' D = some (.lst (((List.range i).map f).map V.int))) ⟨Same.new hD, upd_same⟩ ?_ ?_
  · rintro i H' hi ⟨S1, hd⟩
    refine turn i H' hi S1 _ fun H2 S2 => ⟨_, S2 _ _ hd, ?_, (S1.trans S2).mut hD, ?_⟩
    · rw [List.length_map, List.length_map, List.length_range]; exact slt1000 (by omega)
    · rw [upd_same, List.range_succ, List.map_append, List.map_append]; rfl
  · rintro H' ⟨S1, hd⟩
    exact done H' S1 hd
/-! ### data -/
theorem canI : ∀ xs : List Int, PyData.canLayAll0 (xs.map PyData.int) = true
  | [] => rfl
  | x :: xs => by simp [PyData.canLayAll0, PyData.canLay0, canI xs]
theorem depI : ∀ xs : List Int, PyData.depthAll (xs.map PyData.int) = 0
  | [] => rfl
  | x :: xs => by simp [PyData.depthAll, PyData.depth, depI xs]
theorem dpI {K : PySem.W.Frag} {H : Hp} : ∀ xs : List Int, DpAll K H (xs.map V.int) (xs.map PyData.int)
  | [] => .nil
  | x :: xs => .cons (.int x) (dpI xs)
/-- [xs, ys] == [xs, ys] -/
theorem g_eq2 {K : PySem.W.Frag} {H : Hp} {Q : VK} {a b a1 a2 b1 b2 : Addr} {xs ys : List Int} (ha : SqL K H a [.ref a1, .ref a2]) (hb : SqL K H b [.ref b1, .ref b2]) (h1 : SqL K H a1 (xs.map V.int)) (h2 : SqL K H a2 (ys.map V.int)) (h3 : SqL K H b1 (xs.map V.int)) (h4 : SqL K H b2 (ys.map V.int))
    (q : Q (.bl true) H) : rEqD K (.ref a) (.ref b) H Q := by
  have can : PyData.canLay0 (.list [.list (xs.map PyData.int), .list (ys.map PyData.int)]) = true := by simp [PyData.canLay0, PyData.canLayAll0, canI]
  have sh : SeqAt.shaped (.list [.list (xs.map PyData.int), .list (ys.map PyData.int)]) = true := by
    unfold SeqAt.shaped
    rw [can]
    simp [PyData.depth, PyData.depthAll, depI]
  exact ⟨_, _, .lst ha (.cons (.lst h1 (dpI xs)) (.cons (.lst h2 (dpI ys)) .nil)), .lst hb (.cons (.lst h3 (dpI xs)) (.cons (.lst h4 (dpI ys)) .nil)), sh, sh, by rw [SeqAt.eqv_refl _ can]; exact q⟩
end Rt
set_option Elab.async false
set_option linter.all false
set_option maxRecDepth 100000
set_option maxHeartbeats 4000000
/-! The mathematics of sweeping a row: one bead woken until it is still, from the last place to the first. -/
namespace Rt
open PySem PySem.Spec L2
theorem tw_congr {α : Type} {q r : α → Bool} : ∀ {l : List α}, (∀ x ∈ l, q x = r x) → l.takeWhile q = l.takeWhile r
  | [], _ => rfl
  | a :: l, h => by
    rw [List.takeWhile_cons, List.takeWhile_cons, h a List.mem_cons_self, tw_congr fun x hx => h x (List.mem_cons_of_mem _ hx)]
theorem tw_mono {α : Type} {q r : α → Bool} : ∀ {l : List α}, (∀ x ∈ l, q x = true → r x = true) → (l.takeWhile q).length ≤ (l.takeWhile r).length
  | [], _ => Nat.le_refl _
  | a :: l, h => by
    rw [List.takeWhile_cons, List.takeWhile_cons]
    by_cases c : q a = true
    · rw [if_pos c, if_pos (h a List.mem_cons_self c), List.length_cons, List.length_cons]
      exact Nat.succ_le_succ (tw_mono fun x hx => h x (List.mem_cons_of_mem _ hx))
    · rw [if_neg c]; exact Nat.zero_le _
theorem tw_take {α : Type} {q : α → Bool} : ∀ {l : List α}, l.takeWhile q = l.take (l.takeWhile q).length
  | [] => rfl
  | a :: l => by
    rw [List.takeWhile_cons]
    by_cases c : q a = true
    · rw [if_pos c, List.length_cons, List.take_succ_cons, ← tw_take]
    · rw [if_neg c]; rfl
theorem tw_ge {α : Type} {q : α → Bool} : ∀ {l : List α} {k : Nat}, k ≤ l.length → (∀ x ∈ l.take k, q x = true) → k ≤ (l.takeWhile q).length
  | _, 0, _, _ => Nat.zero_le _
  | [], k + 1, h, _ => by simp at h
  | a :: l, k + 1, h, ha => by
    rw [List.takeWhile_cons, if_pos (ha a (by rw [List.take_succ_cons]; exact List.mem_cons_self)), List.length_cons]
    exact Nat.succ_le_succ (tw_ge (by simpa using h) fun x hx => ha x (by rw [List.take_succ_cons]; exact List.mem_cons_of_mem _ hx))
/-- where the longest beginning ends, the test fails -/
theorem tw_next {α : Type} {q : α → Bool} : ∀ {l : List α} {x : α}, l[(l.takeWhile q).length]? = some x → q x = false
  | [], x, h => by simp at h
  | a :: l, x, h => by
    rw [List.takeWhile_cons] at h
    by_cases c : q a = true
    · rw [if_pos c, List.length_cons, List.getElem?_cons_succ] at h
      exact tw_next h
    · rw [if_neg c] at h
      have e : a = x := Option.some.inj h
      subst e
      cases e2 : q a with
      | true => exact absurd e2 c
      | false => rfl
theorem tw_mem {α : Type} {q : α → Bool} : ∀ {l : List α} {x : α}, x ∈ l.takeWhile q → q x = true
  | [], x, h => by cases h
  | a :: l, x, h => by
    rw [List.takeWhile_cons] at h
    by_cases c : q a = true
    · rw [if_pos c] at h
      rcases List.mem_cons.mp h with z | z
      · rw [z]; exact c
      · exact tw_mem z
    · rw [if_neg c] at h; cases h
def sm (ls : List Int) (l : List Nat) : Int := (l.map fun o => ls.getD o 0).sum
theorem sm_app (ls : List Int) (a b : List Nat) : sm ls (a ++ b) = sm ls a + sm ls b := by unfold sm; rw [List.map_append, List.sum_append]
theorem sm_cons (ls : List Int) (a : Nat) (b : List Nat) : sm ls (a :: b) = ls.getD a 0 + sm ls b := by unfold sm; rw [List.map_cons, List.sum_cons]
theorem sm_nn {ls : List Int} {n : Nat} (hp : ∀ o, o < n → 1 ≤ ls.getD o 0) : ∀ l : List Nat, (∀ o ∈ l, o < n) → 0 ≤ sm ls l
  | [], _ => by unfold sm; simp
  | a :: l, h => by
    rw [sm_cons]
    have h1 := hp a (h a List.mem_cons_self)
    have h2 := sm_nn hp l fun o ho => h o (List.mem_cons_of_mem _ ho)
    omega
theorem sm_pos {ls : List Int} {n : Nat} (hp : ∀ o, o < n → 1 ≤ ls.getD o 0) : ∀ l : List Nat, (∀ o ∈ l, o < n) → l ≠ [] → 1 ≤ sm ls l
  | [], _, h => absurd rfl h
  | a :: l, h, _ => by
    rw [sm_cons]
    have h1 := hp a (h a List.mem_cons_self)
    have h2 := sm_nn hp l fun o ho => h o (List.mem_cons_of_mem _ ho)
    omega
theorem take_split {α : Type} {l : List α} {k m : Nat} (h : k ≤ m) : l.take m = l.take k ++ (l.drop k).take (m - k) := by
  rw [← List.take_append_drop k (l.take m), List.take_take, Nat.min_eq_left h, List.drop_take]
/-- the run of a row, short -/
abbrev rn (n p : Nat) : List Nat := run false n p
theorem rn_at {n p i : Nat} (h : p + 1 + i < n) : (rn n p)[i]? = some (p + 1 + i) := by
  have := run_at (r := false) (n := n) (p := p) (i := i) (by omega) (by omega)
  rw [if_pos h] at this; exact this
theorem rn_len {n p : Nat} (h : p < n) : (rn n p).length = n - (p + 1) := by
  have := run_len (r := false) h; rw [if_neg Bool.false_ne_true] at this; exact this
theorem rn_ge {n p : Nat} : ∀ o ∈ rn n p, p < o := by
  intro o ho
  unfold rn run at ho
  rw [if_neg Bool.false_ne_true, List.append_nil] at ho
  obtain ⟨i, _, rfl⟩ := List.mem_map.mp ho
  omega
theorem rn_drop {n p i : Nat} (h : p + 1 + i < n) : (rn n p).drop (i + 1) = rn n (p + 1 + i) := by
  refine List.ext_getElem? fun k => ?_
  rw [List.getElem?_drop]
  by_cases c : p + 1 + i + 1 + k < n
  · rw [rn_at (show p + 1 + (i + 1 + k) < n by omega), rn_at c]; congr 1; omega
  · rw [List.getElem?_eq_none (by rw [rn_len (by omega)]; omega), List.getElem?_eq_none (by rw [rn_len h]; omega)]
theorem getD_set {l : List Int} {p o : Nat} {v : Int} (hp : p < l.length) : (l.set p v).getD o 0 = if o = p then v else l.getD o 0 := by
  rw [List.getD_eq_getElem?_getD, List.getElem?_set]
  by_cases h : p = o
  · subst h; rw [if_pos rfl, if_pos hp, if_pos rfl]; rfl
  · rw [if_neg h, if_neg (fun z => h z.symm), List.getD_eq_getElem?_getD]
/-- the train of the bead at p, were its strength s -/
def tk (ss : List Int) (p : Nat) (s : Int) : List Nat := (rn ss.length p).takeWhile fun o => decide (ss.getD o 0 < s)
theorem tk_self (ss : List Int) (p : Nat) : trn false ss p = tk ss p (ss.getD p 0) := rfl
theorem tk_set {ss : List Int} {p : Nat} {v s : Int} (hp : p < ss.length) : tk (ss.set p v) p s = tk ss p s := by
  unfold tk
  rw [List.length_set]
  refine tw_congr fun o ho => ?_
  have := rn_ge o ho
  rw [getD_set hp, if_neg (by omega)]
def W (ss ls : List Int) (p : Nat) (s : Int) : Int := ls.getD p 0 + sm ls (tk ss p s)
theorem W_self (ss ls : List Int) (p : Nat) : rch false ss ls p = W ss ls p (ss.getD p 0) := rfl
theorem W_set {ss ls : List Int} {p : Nat} {v s : Int} (hp : p < ss.length) : W (ss.set p v) ls p s = W ss ls p s := by unfold W; rw [tk_set hp]
theorem W_new {ss ls : List Int} {p : Nat} {v : Int} (hp : p < ss.length) : rch false (ss.set p v) ls p = W ss ls p v := by
  rw [W_self, W_set hp, getD_set hp, if_pos rfl]
theorem tk_take (ss : List Int) (p : Nat) (s : Int) : tk ss p s = (rn ss.length p).take (tk ss p s).length := tw_take
theorem tk_le (ss : List Int) (p : Nat) (s : Int) : (tk ss p s).length ≤ (rn ss.length p).length := (List.takeWhile_sublist _).length_le
theorem tk_mono {ss : List Int} {p : Nat} {s s' : Int} (h : s ≤ s') : (tk ss p s).length ≤ (tk ss p s').length := by
  refine tw_mono fun x _ hx => ?_
  have := of_decide_eq_true hx
  exact decide_eq_true (by omega)
theorem tk_same {ss : List Int} {p : Nat} {s s' : Int} (h : (tk ss p s).length = (tk ss p s').length) : tk ss p s = tk ss p s' := by
  rw [tk_take ss p s, tk_take ss p s', h]
structure Pos' (ss ls : List Int) : Prop where
  len : ls.length = ss.length
  pos : ∀ o, o < ss.length → 1 ≤ ls.getD o 0
theorem Pos'.set {ss ls : List Int} {p : Nat} {v : Int} (h : Pos' ss ls) : Pos' (ss.set p v) ls := ⟨by rw [List.length_set]; exact h.len, by rw [List.length_set]; exact h.pos⟩
theorem W_pos {ss ls : List Int} (h : Pos' ss ls) {p : Nat} (hp : p < ss.length) (s : Int) : 1 ≤ W ss ls p s := by
  have h1 := h.pos p hp
  have h2 := sm_nn (n := ss.length) h.pos (tk ss p s) fun o ho => run_lt hp o ((List.takeWhile_sublist _).subset ho)
  unfold W; omega
def Rest (ss ls : List Int) (p : Nat) : Prop := ∀ o, p ≤ o → o < ss.length → rch false ss ls o = ss.getD o 0
/-- what lies before p makes no difference to the reach of p -/
theorem rch_local {ss ss' ls : List Int} {p : Nat} (hl : ss.length = ss'.length) (h : ∀ o, p ≤ o → ss.getD o 0 = ss'.getD o 0) : rch false ss ls p = rch false ss' ls p := by
  rw [W_self, W_self]
  unfold W tk
  rw [hl, h p (Nat.le_refl _)]
  congr 2
  refine tw_congr fun o ho => ?_
  rw [h o (Nat.le_of_lt (rn_ge o ho))]
theorem Rest.set {ss ls : List Int} {p q : Nat} {v : Int} (h : Rest ss ls p) (hq : q < p) (hp : q < ss.length) : Rest (ss.set q v) ls p := by
  intro o ho hol
  rw [List.length_set] at hol
  rw [getD_set hp, if_neg (by omega), ← h o ho hol]
  refine rch_local (by rw [List.length_set]) fun z hz => ?_
  rw [getD_set hp, if_neg (by omega)]
/-- lowered beside beads at rest: its train stays -/
theorem lowered {ss ls : List Int} {p : Nat} (P : Pos' ss ls) (hp : p < ss.length) (R : Rest ss ls (p + 1)) (hlow : rch false ss ls p < ss.getD p 0) : tk ss p (rch false ss ls p) = tk ss p (ss.getD p 0) := by
  refine tk_same (Nat.le_antisymm (tk_mono (by omega)) ?_)
  refine tw_ge (tk_le _ _ _) fun o ho => ?_
  rw [← tk_take] at ho
  obtain ⟨i, hi, ei⟩ := List.mem_iff_getElem.mp ho
  have hil := tk_le ss p (ss.getD p 0)
  rw [rn_len hp] at hil
  have hin : p + 1 + i < ss.length := by omega
  have eo : o = p + 1 + i := by
    have h1 : (tk ss p (ss.getD p 0))[i]? = some o := by rw [List.getElem?_eq_getElem hi, ei]
    rw [tk_take, List.getElem?_take_of_lt hi, rn_at hin] at h1
    exact (Option.some.inj h1).symm
  subst eo
  have hw : ss.getD (p + 1 + i) 0 < ss.getD p 0 := by
    have := tw_mem ho
    exact of_decide_eq_true this
  -- the retinue of that bead lies within the train
  have hk : (trn false ss (p + 1 + i)).length ≤ (tk ss p (ss.getD p 0)).length - (i + 1) := by
    rcases Nat.lt_or_ge ((tk ss p (ss.getD p 0)).length - (i + 1)) (trn false ss (p + 1 + i)).length with c | c
    · exfalso
      have hlt : (tk ss p (ss.getD p 0)).length - (i + 1) < (rn ss.length (p + 1 + i)).length := Nat.lt_of_lt_of_le c (List.takeWhile_sublist _).length_le
      obtain ⟨x, hget⟩ : ∃ x, (rn ss.length (p + 1 + i))[(tk ss p (ss.getD p 0)).length - (i + 1)]? = some x := ⟨_, List.getElem?_eq_getElem hlt⟩
      have h2 : (rn ss.length p)[(tk ss p (ss.getD p 0)).length]? = some x := by
        have := hget
        rw [← rn_drop hin, List.getElem?_drop, show i + 1 + ((tk ss p (ss.getD p 0)).length - (i + 1)) = (tk ss p (ss.getD p 0)).length by omega] at this
        exact this
      have h3 := tw_next (q := fun o => decide (ss.getD o 0 < ss.getD p 0)) h2
      have h4 : (trn false ss (p + 1 + i))[(tk ss p (ss.getD p 0)).length - (i + 1)]? = some x := by
        have e := tk_self ss (p + 1 + i)
        rw [e, tk_take, List.getElem?_take_of_lt (by rw [← e]; exact c)]
        exact hget
      have h5 := tw_mem (List.mem_of_getElem? h4)
      have h6 := of_decide_eq_false h3
      have h7 := of_decide_eq_true h5
      omega
    · exact c
  have hs : ss.getD (p + 1 + i) 0 ≤ sm ls (tk ss p (ss.getD p 0)) := by
    have e1 := R (p + 1 + i) (by omega) hin
    rw [← e1]
    have e2 : rch false ss ls (p + 1 + i) = sm ls ((p + 1 + i) :: trn false ss (p + 1 + i)) := by rw [sm_cons]; rfl
    rw [e2]
    have e3 : tk ss p (ss.getD p 0) = (rn ss.length p).take i ++ ((p + 1 + i) :: ((rn ss.length (p + 1 + i)).take ((tk ss p (ss.getD p 0)).length - (i + 1)))) := by
      conv => lhs; rw [tk_take]
      rw [take_split (show i + 1 ≤ (tk ss p (ss.getD p 0)).length from hi), rn_drop hin, take_more (rn_at hin), List.append_assoc]; rfl
    rw [e3, sm_app, sm_cons, sm_cons]
    have e4 : (rn ss.length (p + 1 + i)).take ((tk ss p (ss.getD p 0)).length - (i + 1)) = trn false ss (p + 1 + i) ++ ((rn ss.length (p + 1 + i)).drop (trn false ss (p + 1 + i)).length).take ((tk ss p (ss.getD p 0)).length - (i + 1) - (trn false ss (p + 1 + i)).length) := by
      rw [take_split hk]
      congr 1
      rw [tk_self, ← tk_take]
    rw [e4, sm_app]
    have n1 := sm_nn (n := ss.length) P.pos ((rn ss.length p).take i) fun o ho => run_lt hp o (List.mem_of_mem_take ho)
    have n2 := sm_nn (n := ss.length) P.pos (((rn ss.length (p + 1 + i)).drop (trn false ss (p + 1 + i)).length).take ((tk ss p (ss.getD p 0)).length - (i + 1) - (trn false ss (p + 1 + i)).length)) fun o ho => run_lt hin o (List.mem_of_mem_drop (List.mem_of_mem_take ho))
    omega
  have hpp := P.pos p hp
  have : rch false ss ls p = ls.getD p 0 + sm ls (tk ss p (ss.getD p 0)) := rfl
  exact decide_eq_true (by omega)
def settle : Nat → List Int → List Int → Nat → List Int × Nat
  | 0, ss, _, _ => (ss, 0)
  | k + 1, ss, ls, p => if rch false ss ls p = ss.getD p 0 then (ss, 0) else ((settle k (ss.set p (rch false ss ls p)) ls p).1, (settle k (ss.set p (rch false ss ls p)) ls p).2 + 1)
theorem settle_still {ss ls : List Int} {p : Nat} (h : rch false ss ls p = ss.getD p 0) : ∀ k, settle k ss ls p = (ss, 0)
  | 0 => rfl
  | k + 1 => by unfold settle; rw [if_pos h]
theorem settle_more {ss ls : List Int} {p : Nat} (h : rch false ss ls p ≠ ss.getD p 0) (k : Nat) : settle (k + 1) ss ls p = ((settle k (ss.set p (rch false ss ls p)) ls p).1, (settle k (ss.set p (rch false ss ls p)) ls p).2 + 1) := by
  conv => lhs; unfold settle
  rw [if_neg h]
theorem settle_low {ss ls : List Int} {p : Nat} (P : Pos' ss ls) (hp : p < ss.length) (R : Rest ss ls (p + 1)) (hlow : rch false ss ls p < ss.getD p 0) (k : Nat) : settle (k + 1) ss ls p = (ss.set p (rch false ss ls p), 1) := by
  have h : rch false (ss.set p (rch false ss ls p)) ls p = (ss.set p (rch false ss ls p)).getD p 0 := by
    rw [W_new hp, getD_set hp, if_pos rfl]
    unfold W
    rw [lowered P hp R hlow]
    rfl
  unfold settle
  rw [if_neg (by omega), settle_still h]
theorem settle_len : ∀ (k : Nat) (ss ls : List Int) (p : Nat), (settle k ss ls p).1.length = ss.length
  | 0, _, _, _ => rfl
  | k + 1, ss, ls, p => by
    unfold settle
    split
    · rfl
    · rw [settle_len k, List.length_set]
theorem settle_cnt : ∀ (k : Nat) (ss ls : List Int) (p : Nat), (settle k ss ls p).2 ≤ k
  | 0, _, _, _ => Nat.le_refl _
  | k + 1, ss, ls, p => by
    unfold settle
    split
    · exact Nat.zero_le _
    · exact Nat.succ_le_succ (settle_cnt k _ _ _)
theorem settle_other : ∀ (k : Nat) (ss ls : List Int) (p o : Nat), p < ss.length → o ≠ p → (settle k ss ls p).1.getD o 0 = ss.getD o 0
  | 0, _, _, _, _, _, _ => rfl
  | k + 1, ss, ls, p, o, hp, ho => by
    unfold settle
    split
    · rfl
    · rw [settle_other k _ _ _ _ (by rw [List.length_set]; exact hp) ho, getD_set hp, if_neg ho]
theorem settle_nn : ∀ (k : Nat) (ss ls : List Int) (p : Nat), Pos' ss ls → p < ss.length → (∀ x ∈ ss, 0 ≤ x) → ∀ x ∈ (settle k ss ls p).1, 0 ≤ x
  | 0, _, _, _, _, _, h => h
  | k + 1, ss, ls, p, P, hp, h => by
    unfold settle
    split
    · exact h
    · refine settle_nn k _ _ _ P.set (by rw [List.length_set]; exact hp) fun x hx => ?_
      rcases List.mem_or_eq_of_mem_set hx with z | z
      · exact h x z
      · have := W_pos P hp (ss.getD p 0)
        rw [← W_self] at this
        omega
theorem settles : ∀ (k : Nat) (ss ls : List Int) (p : Nat), Pos' ss ls → p < ss.length → Rest ss ls (p + 1) → (rn ss.length p).length - (tk ss p (ss.getD p 0)).length + 1 ≤ k →
    rch false (settle k ss ls p).1 ls p = (settle k ss ls p).1.getD p 0
  | 0, _, _, _, _, _, _, h => by omega
  | k + 1, ss, ls, p, P, hp, R, h => by
    by_cases c : rch false ss ls p = ss.getD p 0
    · rw [settle_still c]; exact c
    · rcases Int.lt_or_gt_of_ne c with d | d
      · rw [settle_low P hp R d]
        show rch false (ss.set p (rch false ss ls p)) ls p = (ss.set p (rch false ss ls p)).getD p 0
        rw [W_new hp, getD_set hp, if_pos rfl]
        unfold W
        rw [lowered P hp R d]; rfl
      · have hm := tk_mono (ss := ss) (p := p) (s := ss.getD p 0) (s' := rch false ss ls p) (by omega)
        have hl := tk_le ss p (rch false ss ls p)
        have e1 : (ss.set p (rch false ss ls p)).getD p 0 = rch false ss ls p := by rw [getD_set hp, if_pos rfl]
        have e2 : settle (k + 1) ss ls p = ((settle k (ss.set p (rch false ss ls p)) ls p).1, (settle k (ss.set p (rch false ss ls p)) ls p).2 + 1) := by
          conv => lhs; unfold settle
          rw [if_neg c]
        rw [e2]
        by_cases e : (tk ss p (ss.getD p 0)).length = (tk ss p (rch false ss ls p)).length
        · have st : rch false (ss.set p (rch false ss ls p)) ls p = (ss.set p (rch false ss ls p)).getD p 0 := by
            rw [W_new hp, e1]; unfold W; rw [← tk_same e]; rfl
          rw [settle_still st]; exact st
        · refine settles k _ _ _ P.set (by rw [List.length_set]; exact hp) (R.set (by omega) hp) ?_
          rw [e1, tk_set hp, List.length_set]
          omega
/-- a place that a further waking of one bead keeps: still, or its train grows -/
theorem settle_step {ss ls : List Int} {p f : Nat} (P : Pos' ss ls) (hp : p < ss.length) (R : Rest ss ls (p + 1)) (c : rch false ss ls p ≠ ss.getD p 0) (h : (rn ss.length p).length - (tk ss p (ss.getD p 0)).length ≤ f) :
    rch false (ss.set p (rch false ss ls p)) ls p = (ss.set p (rch false ss ls p)).getD p 0 ∨ (1 ≤ f ∧ (rn (ss.set p (rch false ss ls p)).length p).length - (tk (ss.set p (rch false ss ls p)) p ((ss.set p (rch false ss ls p)).getD p 0)).length ≤ f - 1) := by
  have e1 : (ss.set p (rch false ss ls p)).getD p 0 = rch false ss ls p := by rw [getD_set hp, if_pos rfl]
  rcases Int.lt_or_gt_of_ne c with d | d
  · refine Or.inl ?_
    rw [W_new hp, e1]
    unfold W
    rw [lowered P hp R d]; rfl
  · have hm := tk_mono (ss := ss) (p := p) (s := ss.getD p 0) (s' := rch false ss ls p) (by omega)
    have hl := tk_le ss p (rch false ss ls p)
    by_cases e : (tk ss p (ss.getD p 0)).length = (tk ss p (rch false ss ls p)).length
    · refine Or.inl ?_
      rw [W_new hp, e1]; unfold W; rw [← tk_same e]; rfl
    · refine Or.inr ?_
      rw [e1, tk_set hp, List.length_set]
      omega
structure Sw where
  now : List Int
  ord : List Nat
  low : List Nat
def sw (ls : List Int) : Nat → List Int → Sw
  | 0, ss => ⟨ss, [], []⟩
  | i + 1, ss => ⟨(settle (ss.length + 2) (sw ls i ss).now ls (ss.length - 1 - i)).1, (sw ls i ss).ord ++ List.replicate (settle (ss.length + 2) (sw ls i ss).now ls (ss.length - 1 - i)).2 (ss.length - 1 - i),
      if rch false (sw ls i ss).now ls (ss.length - 1 - i) < (sw ls i ss).now.getD (ss.length - 1 - i) 0 then (sw ls i ss).low ++ [ss.length - 1 - i] else (sw ls i ss).low⟩
structure SwOk (ss ls : List Int) (i : Nat) : Prop where
  len : (sw ls i ss).now.length = ss.length
  rest : Rest (sw ls i ss).now ls (ss.length - i)
  nn : ∀ x ∈ (sw ls i ss).now, 0 ≤ x
  ordge : ∀ o ∈ (sw ls i ss).ord, ss.length - i ≤ o ∧ o < ss.length
  lowge : ∀ o ∈ (sw ls i ss).low, ss.length - i ≤ o ∧ o < ss.length
  once : ∀ p ∈ (sw ls i ss).low, ((sw ls i ss).ord.filter fun o => o == p).length = 1
  few : (sw ls i ss).ord.length ≤ i * (ss.length + 2)
  fewl : (sw ls i ss).low.length ≤ i
theorem sw_ok {ss ls : List Int} (P : Pos' ss ls) (h0 : ∀ x ∈ ss, 0 ≤ x) : ∀ i, i ≤ ss.length → SwOk ss ls i
  | 0, _ => by
    refine ⟨rfl, ?_, h0, ?_, ?_, ?_, ?_, ?_⟩
    · intro o ho hol
      have h1 : o < ss.length := hol
      have h2 : ss.length - 0 ≤ o := ho
      omega
    · intro o ho; exact absurd ho List.not_mem_nil
    · intro o ho; exact absurd ho List.not_mem_nil
    · intro o ho; exact absurd ho List.not_mem_nil
    · exact Nat.zero_le _
    · exact Nat.zero_le _
  | i + 1, hi => by
    have O := sw_ok P h0 i (by omega)
    have hp : ss.length - 1 - i < (sw ls i ss).now.length := by rw [O.len]; omega
    have P' : Pos' (sw ls i ss).now ls := ⟨by rw [O.len]; exact P.len, by rw [O.len]; exact P.pos⟩
    have R' : Rest (sw ls i ss).now ls (ss.length - 1 - i + 1) := by
      have e : ss.length - 1 - i + 1 = ss.length - i := by omega
      rw [e]; exact O.rest
    have S := settles (ss.length + 2) (sw ls i ss).now ls (ss.length - 1 - i) P' hp R' (by rw [rn_len hp, O.len]; omega)
    have cnt := settle_cnt (ss.length + 2) (sw ls i ss).now ls (ss.length - 1 - i)
    have notin : ∀ p, p = ss.length - 1 - i → ((sw ls i ss).ord.filter fun o => o == p) = [] := fun p e => by
      refine List.filter_eq_nil_iff.mpr fun o ho => ?_
      have := O.ordge o ho
      simp; omega
    refine ⟨?_, ?_, ?_, ?_, ?_, ?_, ?_, ?_⟩
    · show (settle _ _ _ _).1.length = _
      rw [settle_len, O.len]
    · intro o ho hol
      show rch false (settle (ss.length + 2) (sw ls i ss).now ls (ss.length - 1 - i)).1 ls o = _
      have hol' : o < (sw ls i ss).now.length := by
        have : o < (settle (ss.length + 2) (sw ls i ss).now ls (ss.length - 1 - i)).1.length := hol
        rw [settle_len] at this; exact this
      by_cases c : o = ss.length - 1 - i
      · rw [c]; exact S
      · have e1 := settle_other (ss.length + 2) (sw ls i ss).now ls (ss.length - 1 - i) o hp c
        have e2 : rch false (settle (ss.length + 2) (sw ls i ss).now ls (ss.length - 1 - i)).1 ls o = rch false (sw ls i ss).now ls o := by
          refine rch_local (by rw [settle_len]) fun z hz => ?_
          exact settle_other _ _ _ _ _ hp (by omega)
        rw [e2, O.rest o (by omega) hol']
        exact e1.symm
    · exact settle_nn _ _ _ _ P' hp O.nn
    · intro o ho
      rcases List.mem_append.mp ho with z | z
      · have := O.ordge o z; omega
      · have := List.eq_of_mem_replicate z; omega
    · intro o ho
      have ho' : o ∈ if rch false (sw ls i ss).now ls (ss.length - 1 - i) < (sw ls i ss).now.getD (ss.length - 1 - i) 0 then (sw ls i ss).low ++ [ss.length - 1 - i] else (sw ls i ss).low := ho
      split at ho'
      · rcases List.mem_append.mp ho' with z | z
        · have := O.lowge o z; omega
        · have : o = ss.length - 1 - i := by simpa using z
          omega
      · have := O.lowge o ho'; omega
    · intro p hpm
      show (((sw ls i ss).ord ++ List.replicate _ _).filter _).length = 1
      rw [List.filter_append, List.length_append]
      have hp' : p ∈ if rch false (sw ls i ss).now ls (ss.length - 1 - i) < (sw ls i ss).now.getD (ss.length - 1 - i) 0 then (sw ls i ss).low ++ [ss.length - 1 - i] else (sw ls i ss).low := hpm
      by_cases c : p = ss.length - 1 - i
      · split at hp'
        · rename_i hlow
          rw [notin p c, settle_low P' hp R' hlow, c]
          simp
        · have := O.lowge p hp'; omega
      · have hin : p ∈ (sw ls i ss).low := by
          split at hp'
          · rcases List.mem_append.mp hp' with z | z
            · exact z
            · exact absurd (by simpa using z) c
          · exact hp'
        have e : ((List.replicate (settle (ss.length + 2) (sw ls i ss).now ls (ss.length - 1 - i)).2 (ss.length - 1 - i)).filter fun o => o == p) = [] := by
          refine List.filter_eq_nil_iff.mpr fun o ho => ?_
          have := List.eq_of_mem_replicate ho
          simp; omega
        rw [O.once p hin, e]; rfl
    · show ((sw ls i ss).ord ++ List.replicate _ _).length ≤ _
      rw [List.length_append, List.length_replicate, Nat.succ_mul]
      have := O.few
      omega
    · show (if rch false (sw ls i ss).now ls (ss.length - 1 - i) < (sw ls i ss).now.getD (ss.length - 1 - i) 0 then (sw ls i ss).low ++ [ss.length - 1 - i] else (sw ls i ss).low).length ≤ _
      have := O.fewl
      split
      · rw [List.length_append]; simp; omega
      · omega
/-- a row at rest is left as it is -/
theorem sw_rest {ss ls : List Int} (R : Rest ss ls 0) : ∀ i, i ≤ ss.length → sw ls i ss = ⟨ss, [], []⟩
  | 0, _ => rfl
  | i + 1, hi => by
    have e := sw_rest R i (by omega)
    have st := R (ss.length - 1 - i) (by omega) (by omega)
    unfold sw
    rw [e]
    show (⟨(settle _ ss ls _).1, [] ++ List.replicate (settle _ ss ls _).2 _, if rch false ss ls _ < ss.getD _ 0 then _ else _⟩ : Sw) = _
    rw [settle_still st, if_neg (by omega)]
    rfl
end Rt
set_option Elab.async false
set_option linter.all false
set_option maxRecDepth 100000
set_option maxHeartbeats 4000000
/-! More rules of our own: methods known by their promise, unpacking, reversed ranges, tuples joined and cut. -/
namespace Rt
open PySem PySem.Spec L2
theorem FnOk.or {P : Program} {w : World} {K : PySem.W.Frag} {mg : Str → Option Value} {base : Heap} {CX : CXT} {k : Nat} {f : Addr} {fd : FuncData} {ps : List Str} {sp sp' : Sp} (F : FnOk P w K mg base CX k f fd ps sp) (G : FnOk P w K mg base CX k f fd ps sp') :
    FnOk P w K mg base CX k f fd ps (fun vs H Q E => sp vs H Q E ∨ sp' vs H Q E) :=
  ⟨fun vs H Q E z => z.elim (F.len vs H Q E) (G.len vs H Q E), fun A outer s H args us vs Q E hr he hb hv z => z.elim (F.run A outer s H args us vs Q E hr he hb hv) (G.run A outer s H args us vs Q E hr he hb hv)⟩
structure MethD (P : Program) (w : World) (K : PySem.W.Frag) (mg : Str → Option Value) (base : Heap) (CX : CXT) (k : Nat) (C : Addr) (m : Str) (ps : List Str) (sp : Sp) : Prop where
  cl : Cls K C
  ex : ∃ (f : Addr) (fd : FuncData), Meth K C m f ∧ FnOk P w K mg base CX k f fd ps sp ∧ L2.Binds K fd ps []
theorem pe_methD {X : Cx} {CX : CXT} {k : Nat} {C : Addr} {m : Str} {ps : List Str} {sp : Sp} {E : XK} {o e : Expr} {es : List Expr} {ta : TE} {t : TA} {apos pos : Pos} {pl : Sem Bool} (D : MethD X.prog X.w X.K X.mg X.base CX k C m ps sp) (hr : Room k X.A) (hx : L2.Passes CX X E) (he : PE X o ta) (ha : PA X (e :: es) t)
    (hst : starEach (e :: es) X.env = (false, eval e X.env) :: starEach es X.env := by rfl) (hpl : (backTo pos (starEach es X.env)).any (·.1) = false := by rfl)
    (ht : eval (.Call (.Attribute o m apos) (e :: es) [] pos) X.env = (do
      let ov ← eval o X.env
      standAt apos.atName
      let (f, first) ← holding [ov] (getMethod ov m pl)
      callWith pos f first (backTo pos (starEach (e :: es) X.env)) (backToKw pos (keywordEach [] X.env))) := by rfl) :
    PE X (.Call (.Attribute o m apos) (e :: es) [] pos) (tMeth C m sp [] E ta t) := by
  obtain ⟨f, fd, a, b, c⟩ := D.ex
  exact pe_meth he D.cl a b hr c .nil hx ha hst hpl ht
theorem g_meth {C : Addr} {m : Str} {sp : Sp} {E : XK} {ta : TE} {t : TA} {σ : L2.St} {H : Hp} {Q : VK} (h : ta σ H fun x H1 => ∃ a dx fs, x = .ref a ∧ H1 a = some (.ins C dx fs) ∧ fs.lookup m = none ∧ t σ H1 fun vs H2 => sp (x :: vs) H2 Q E) : tMeth C m sp [] E ta t σ H Q := by
  have e : (fun x H1 => ∃ a dx fs, x = V.ref a ∧ H1 a = some (.ins C dx fs) ∧ fs.lookup m = none ∧ t σ H1 fun vs H2 => sp (x :: (vs ++ [])) H2 Q E) = fun x H1 => ∃ a dx fs, x = V.ref a ∧ H1 a = some (.ins C dx fs) ∧ fs.lookup m = none ∧ t σ H1 fun vs H2 => sp (x :: vs) H2 Q E := by
    funext x H1; simp only [List.append_nil]
  show ta σ H fun x H1 => ∃ a dx fs, x = V.ref a ∧ H1 a = some (.ins C dx fs) ∧ fs.lookup m = none ∧ t σ H1 fun vs H2 => sp (x :: (vs ++ [])) H2 Q E
  rw [e]; exact h
theorem g_gtup {K : PySem.W.Frag} {t : TGs} {a : Addr} {xs : List V} {n : Nat} {σ : L2.St} {H : Hp} {QS : L2.St → Hp → Prop} (hs : SqT K H a xs) (hn : xs.length = n) (h : t xs σ H QS) : gTup K n t (.ref a) σ H QS := ⟨a, xs, rfl, hs, hn, h⟩
theorem g_gcons {t : TG} {u : TGs} {v : V} {r : List V} {σ : L2.St} {H : Hp} {QS : L2.St → Hp → Prop} (h : t v σ H fun σ' H' => u r σ' H' QS) : gCons t u (v :: r) σ H QS := ⟨v, r, rfl, h⟩
theorem g_gnil {σ : L2.St} {H : Hp} {QS : L2.St → Hp → Prop} (h : QS σ H) : gNil [] σ H QS := ⟨rfl, h⟩
def RevOk (a b : Int) (R : It → Hp → Prop) (H1 : Hp) : Prop := -(2 ^ 62) ≤ a ∧ a < 2 ^ 62 ∧ -(2 ^ 62) ≤ b ∧ b < 2 ^ 62 ∧ R (Itc (a + (((b - a).toNat : Nat) : Int) - 1) (-1) (b - a).toNat) H1
theorem g_rev {tr : L2.St → Hp → (Int → Int → Hp → Prop) → Prop} {σ : L2.St} {H : Hp} {R : It → Hp → Prop} (h : tr σ H fun a b H1 => RevOk a b R H1) : iRevR tr σ H R := h
/-- counting down: what holds before each turn -/
theorem for_down {lo c : Int} {n : Nat} {g : TG} {tb : TS} {D : Ends} {σ0 : L2.St} {H0 : Hp} (Pv : Nat → L2.St → Hp → Prop) (first : Pv 0 σ0 H0)
    (step : ∀ i σ H, i < n → Pv i σ H → g (.int (lo + i * c)) σ H fun σ2 H2 => tb { D with nx := Pv (i + 1), ct := Pv (i + 1), bk := D.nx } σ2 H2) (last : ∀ σ H, Pv n σ H → D.nx σ H) :
    ∃ W : Nat → Nat → L2.St → Hp → Prop, (∃ m, W 0 m σ0 H0) ∧ ∀ i m σ H, W i m σ H →
      ((Itc lo c n).stop i H ∧ D.nx σ H) ∨ ((Itc lo c n).go i H ∧ ∃ N : L2.St → Hp → Prop, (∀ σ' H', N σ' H' → ∃ m', m' < m ∧ W (i + 1) m' σ' H') ∧ ∀ x H', (Itc lo c n).yld i H x H' → g x σ H' fun σ2 H2 => tb { D with nx := N, ct := N, bk := D.nx } σ2 H2) := by
  refine ⟨fun i m σ H => i + m = n ∧ Pv i σ H, ⟨n, Nat.zero_add n, first⟩, fun i m σ H w => ?_⟩
  cases m with
  | zero =>
    have e : i = n := w.1
    rw [e] at w ⊢
    exact Or.inl ⟨Nat.le_refl n, last σ H w.2⟩
  | succ m =>
    have lt : i < n := by have := w.1; omega
    refine Or.inr ⟨lt, Pv (i + 1), fun σ' H' q => ⟨m, Nat.lt_succ_self m, by have := w.1; omega, q⟩, fun x H' y => ?_⟩
    have e1 : H' = H := y.1
    have e2 : x = V.int (lo + i * c) := y.2
    rw [e1, e2]
    exact step i σ H lt w.2
/-! ### tuples of ints -/
theorem cut_to {xs : List V} {p : Nat} (h : p < xs.length) : cutV xs none (some (p : Int)) = xs.take p := by
  unfold cutV
  rw [HT.sIx_none, HT.sIx_nat, Nat.min_eq_left (Nat.le_of_lt h), List.drop_zero, Nat.sub_zero]
theorem cut_from {xs : List V} {p : Nat} (h : p < xs.length) : cutV xs (some ((p : Int) + 1)) none = xs.drop (p + 1) := by
  unfold cutV
  rw [show ((p : Int) + 1) = ((p + 1 : Nat) : Int) by omega, HT.sIx_none, HT.sIx_nat, Nat.min_eq_left h]
  exact List.take_of_length_le (by rw [List.length_drop]; omega)
theorem g_tto {K : PySem.W.Frag} {H : Hp} {Q : VK} {a : Addr} {xs : List Int} {p : Nat} (h1 : SqT K H a (xs.map V.int)) (hp : p < xs.length)
    (h : ∀ q H', H q = none → Same H H' → H' q = some (.tup ((xs.take p).map V.int)) → Q (.ref q) H') : rSlA K (.ref a) none (some (p : Int)) H Q := by
  have hl : p < (xs.map V.int).length := by rw [List.length_map]; exact hp
  refine ⟨a, _, rfl, h1, fun z => ?_, fun _ q nq => h q _ nq (L2.Same.new nq) (by rw [upd_same, cut_to hl, List.map_take])⟩
  have := z.2
  rw [HT.sIx_nat] at this
  omega
theorem g_tfrom {K : PySem.W.Frag} {H : Hp} {Q : VK} {a : Addr} {xs : List Int} {p : Nat} (h1 : SqT K H a (xs.map V.int)) (hp : p < xs.length)
    (h : ∀ q H', H q = none → Same H H' → H' q = some (.tup ((xs.drop (p + 1)).map V.int)) → Q (.ref q) H') : rSlA K (.ref a) (some ((p : Int) + 1)) none H Q := by
  have hl : p < (xs.map V.int).length := by rw [List.length_map]; exact hp
  refine ⟨a, _, rfl, h1, fun z => ?_, fun _ q nq => h q _ nq (L2.Same.new nq) (by rw [upd_same, cut_from hl, List.map_drop])⟩
  have := z.1
  rw [show ((p : Int) + 1) = ((p + 1 : Nat) : Int) by omega, HT.sIx_nat] at this
  omega
theorem g_tcat {K : PySem.W.Frag} {H : Hp} {Q : VK} {a b : Addr} {xs zs : List Int} (h1 : H a = some (.tup (xs.map V.int))) (h2 : H b = some (.tup (zs.map V.int))) (sz : xs.length + zs.length ≤ 100000)
    (h : ∀ p H', Same H H' → H' p = some (.tup ((xs ++ zs).map V.int)) → Q (.ref p) H') : rCatA K (.ref a) (.ref b) H Q := by
  refine ⟨a, b, _, _, rfl, rfl, SqT.of h1, SqT.of h2, by rw [List.length_map, List.length_map]; exact sl1000 sz, fun e => ?_, fun _ e => ?_, fun _ _ p np => h p _ (L2.Same.new np) (by rw [upd_same, List.map_append])⟩
  · have e' : xs = [] := List.map_eq_nil_iff.mp e
    exact h b H (Same.refl _) (by rw [e', List.nil_append]; exact h2)
  · have e' : zs = [] := List.map_eq_nil_iff.mp e
    exact h a H (Same.refl _) (by rw [e', List.append_nil]; exact h1)
theorem take_set_drop : ∀ {l : List Int} {p : Nat} {v : Int}, p < l.length → l.take p ++ [v] ++ l.drop (p + 1) = l.set p v
  | [], _, _, h => absurd h (Nat.not_lt_zero _)
  | a :: l, 0, v, _ => rfl
  | a :: l, p + 1, v, h => by
    have := take_set_drop (l := l) (p := p) (v := v) (by simpa using h)
    rw [List.take_succ_cons, List.drop_succ_cons, List.set_cons_succ, ← this]; rfl
section
variable {X : Cx} (K : PySem.W.Frag)
theorem op_catAK (h : X.K = K := by rfl) : OpR X (binaryOp .Add) (rCatA K) := by subst h; exact op_catA
variable {o : Expr} {ta : TE} {t : TA} {apos cpos : Pos} {es : List Expr}
theorem pe_extK {e : Expr} (ho : PE X o ta) (ha : PA X (e :: es) t) (h : X.K = K := by rfl)
    (hbase : attributeBase o "extend" X.env (eval o X.env) = eval o X.env := by rfl)
    (hfew : ((backTo cpos (starEach (e :: es) X.env)).all (fun x => !x.1) && (backToKw cpos (keywordEach [] X.env)).all (fun x => x.1.isSome)
      && decide ((e :: es).length + ([] : List Keyword).length + (if ([] : List Keyword).isEmpty then 0 else 1) < 30)) = true := by rfl)
    (hline : (apos.endLine == cpos.line) = true := by rfl) (hs : starEach (e :: es) X.env = (false, eval e X.env) :: starEach es X.env := by rfl) (hplain : (backTo cpos (starEach es X.env)).any (·.1) = false := by rfl) :
    PE X (.Call (.Attribute o "extend" apos) (e :: es) [] cpos) (tBM K "list" rExtend ta t) := by
  subst h; exact pe_bm PySem.F.plainAttrs_list PySem.F.slot_list_extend PySem.F.type_list_extend mt_extend ho ha hbase hfew hline hs hplain
end
theorem g_ext {H : Hp} {l b : Addr} {xs zs : List V} {Q : VK} (h : H l = some (.lst xs)) (h2 : H b = some (.lst zs)) (sz : xs.length + zs.length ≤ 100000) (q : Q .non (upd H l (.lst (xs ++ zs)))) : rExtend (.ref l) [.ref b] H Q := ⟨l, b, xs, zs, rfl, rfl, h, h2, sl1000 sz, q⟩
theorem g_rept {H : Hp} {Q : VK} {l : Addr} {x : V} {k : Nat} (h1 : H l = some (.lst [x])) (sz : k ≤ 100000)
    (h : ∀ p H', H p = none → Same H H' → H' p = some (.lst (List.replicate k x)) → Q (.ref p) H') : rRep (.ref l) (.int (k : Int)) H Q :=
  ⟨l, (k : Int), [x], rfl, rfl, h1, by omega, by omega, by rw [Int.toNat_natCast, sizeLine_eq, List.length_singleton]; omega, fun p np => h p _ np (L2.Same.new np) (by rw [upd_same, Int.toNat_natCast, rep_flat])⟩
theorem g_isB' {a b : Bool} {H : Hp} {Q : VK} (h : Q (.bl (decide (a = b))) H) : rIsB (.bl a) (.bl b) H Q := ⟨a, b, rfl, rfl, h⟩
/-- an item of a list is replaced -/
theorem g_set {H : Hp} {l : Addr} {xs : List Int} {i : Nat} {v : Int} {R : Hp → Prop} (h : H l = some (.lst (xs.map V.int))) (hi : i < xs.length) (q : R (upd H l (.lst ((xs.set i v).map V.int)))) : rSetL (.ref l) (.int (i : Int)) (.int v) H R := by
  refine ⟨l, _, (i : Int), i, rfl, rfl, h, ?_, by rw [← List.map_set]; exact q⟩
  rw [List.length_map]
  unfold ixN
  simp; omega
theorem g_gsub {to ti : TE} {t : TSet} {v : V} {σ : L2.St} {H : Hp} {QS : L2.St → Hp → Prop} (h : to σ H fun o H1 => ti σ H1 fun i H2 => t o i v H2 fun H3 => QS σ H3) : gSub to ti t v σ H QS := h
/-! ### an order of wakings: tuples of one place each -/
def Ord (H : Hp) (xs : List V) (os : List Nat) : Prop := xs.length = os.length ∧ ∀ (j o : Nat), os[j]? = some o → ∃ t : Addr, xs[j]? = some (V.ref t) ∧ H t = some (.tup [V.int (o : Int)])
theorem Ord.nil {H : Hp} : Ord H [] [] := ⟨rfl, fun j o h => by simp at h⟩
theorem Ord.mono {H H' : Hp} {xs : List V} {os : List Nat} (h : Ord H xs os) (S : ∀ t ys, H t = some (.tup ys) → H' t = some (.tup ys)) : Ord H' xs os :=
  ⟨h.1, fun j o e => let ⟨t, a, b⟩ := h.2 j o e; ⟨t, a, S _ _ b⟩⟩
theorem Ord.more {H : Hp} {xs : List V} {os : List Nat} {t : Addr} {o : Nat} (h : Ord H xs os) (ht : H t = some (.tup [V.int (o : Int)])) : ∀ k : Nat, Ord H (xs ++ List.replicate k (V.ref t)) (os ++ List.replicate k o) := fun k => by
  refine ⟨by rw [List.length_append, List.length_append, List.length_replicate, List.length_replicate, h.1], fun j o' e => ?_⟩
  by_cases c : j < os.length
  · rw [List.getElem?_append_left c] at e
    obtain ⟨t', a, b⟩ := h.2 j o' e
    exact ⟨t', by rw [List.getElem?_append_left (by rw [h.1]; exact c)]; exact a, b⟩
  · rw [List.getElem?_append_right (by omega), List.getElem?_replicate] at e
    split at e
    · rename_i c2
      have e' : o = o' := Option.some.inj e
      subst e'
      refine ⟨t, ?_, ht⟩
      rw [List.getElem?_append_right (by rw [h.1]; omega), List.getElem?_replicate, h.1, if_pos c2]
    · cases e
end Rt
set_option Elab.async false
set_option linter.all false
set_option maxRecDepth 100000
set_option maxHeartbeats 4000000
/-! list(reversed(range(..))). -/
namespace Rt
open PySem PySem.Spec L2 PyProof.Rows
theorem rit_nolen : typeLookup (.type "range_iterator") "__len__" = pure none := by
  first | kernel_rfl | (rw [typeLookup_fast]; kernel_rfl)
section
variable {prog : Program} {w : World} {A : Around} {E : Value → Shared → Prop} {s : Shared}
theorem rit_left {it : Addr} {a n c : Int} {Q : Value → Shared → Prop} (ho : IsRangeIter s.heap it a n c) (h : ∀ t, Q (.int n t) { s with toks := s.toks + 1 }) : wpAny (model prog w) A (call (.builtin "range_iterator.__length_hint__") [.ref it]) Q E s := by
  have ty : s.TypeIs (.ref it) "range_iterator" := ⟨_, ho, rfl⟩
  refine wpAny_call_entry F.slot_range_iterator_length_hint ty F.entry_range_iterator_length_hint ?_ (F.args_range_iterator_length_hint_1 _)
  obtain ⟨hp, g, d, tk, os⟩ := s
  wp_walk using AutoSeq1.wpAny_loadPart' ho
  exact ⟨_, rfl, h _⟩
theorem rit_hint {it : Addr} {a n c : Int} {Q : Bool → Shared → Prop} (ho : IsRangeIter s.heap it a n c) (h0 : 0 ≤ n) (h1 : n ≤ 2 ^ 24) (h : ∀ t, Q false { s with toks := t }) : wpAny (model prog w) A (Builtin.List.listLengthHint (.ref it)) Q E s := by
  have ty : s.TypeIs (.ref it) "range_iterator" := ⟨_, ho, rfl⟩
  unfold Builtin.List.listLengthHint
  refine wpAny_bind (wpAny_specialOf ty rit_nolen ?_)
  refine wpAny_ite_split (fun z => absurd z (by decide +kernel)) (fun _ => ?_)
  refine wpAny_ite_split (fun z => absurd z (by decide)) (fun _ => ?_)
  refine wpAny_bind (wpAny_specialOf ty PySem.F.slot_range_iterator_length_hint.lookup ?_)
  generalize hid : ("range_iterator.__length_hint__" : String) = id0
  wp_delta
  rw [show splitId id0 = some ("range_iterator", "__length_hint__") from by subst hid; decide +kernel]
  subst hid
  refine wpAny_bind (wpAny_isInstance (T := "range_iterator") (b := true) ty (by rw [isSubtype_type]; kernel_rfl) ?_)
  refine wpAny_ite_split (fun z => absurd z (by decide)) (fun _ => ?_)
  refine wpAny_ite_split (fun _ => ?_) (fun z => absurd (by decide +kernel) z)
  refine wpAny_ite_split (fun _ => ?_) (fun z => absurd (by decide +kernel) z)
  refine wpAny_bind (rit_left ho fun t => ?_)
  refine wpAny_bind (m := asInt? _) (wpAny_pure ?_)
  have tl : Builtin.List.listTooLong n.toNat = false := by simp [Builtin.List.listTooLong, sizeLine]; omega
  exact wpAny_ite_split (fun z => absurd z (by rw [tl]; decide)) (fun _ => wpAny_pure (h _))
/-- what such an iterator gives, put behind an empty list -/
theorem rit_into {R : Result → Shared → Prop} {it S : Addr} {a c : Int} {n k0 : Nat} (hh : A.handled = none) (ho : IsRangeIter s.heap it a n c) (small : n ≤ 2 ^ 24) (hS : s.heap.get? S = some { cls := .type "list", data := .seq #[] k0 }) (ne : S ≠ it)
    (fin : ∀ (h' : Heap) (tk : Nat) (acc : Array Value) (k : Nat), (∀ b o, b ≠ S → b ≠ it → s.heap.get? b = some o → h'.get? b = some o) → h'.get? S = some { cls := .type "list", dict := none, data := .seq acc k, slots := #[] } →
      ItemsOf (fun i v => ∃ t, v = .int (a + i * c) t) acc n → R (.ok (.ret .none)) { s with heap := h', toks := tk }) :
    wpAny (model prog w) A.in1 (Builtin.List.listExtendWith (.ref S) (.ref it) .none)
      (fun r s' => match r with | .done f => R (.ok f) s' | .again c' => c'.quiet = true ∧ codeAny (model prog w) A c' R s') (fun e s' => R (.error e) s') s := by
  have ty : s.TypeIs (.ref it) "range_iterator" := ⟨_, ho, rfl⟩
  have loop : ∀ (s1 : Shared), s1.gens = s.gens → s1.drawn = s.drawn → s1.os = s.os → (∀ b o, s.heap.get? b = some o → b ≠ S → s1.heap.get? b = some o) → (∃ k, s1.heap.get? S = some { cls := .type "list", data := .seq #[] k }) → codeAny (model prog w) A (.builtin "list.extend.loop" ⟨[.ref S, .ref it, .none], []⟩) R s1 := by
    rintro s1 eg ed eo keep ⟨k, hS1⟩
    have st : IsRangeIter s1.heap it (a + ((0 : Nat) : Int) * c) ((n : Int) - ((0 : Nat) : Int)) c := by
      have := keep it _ ho ne.symm
      simpa using this
    refine codeAny_extend_loopS (Walks.range (prog := prog) (w := w) (A := A.in1) hh it a c n).toS (by rw [sizeLine_eq]; omega) S (by simpa using ne) .none n 0 s1 #[] k rfl (Nat.zero_le _) st hS1 (ItemsOf.nil _) fun s' acc k' mv hS' items => ?_
    have e := mv.eq_with
    have e2 : s' = { s with heap := s'.heap, toks := s'.toks } := by
      rw [e]
      obtain ⟨q1, q2, q3, q4, q5⟩ := s1
      simp only at eg ed eo
      subst eg ed eo
      rfl
    rw [e2]
    refine fin s'.heap s'.toks acc k' (fun b o n1 n2 hb => mv.heap b o (fun m => ?_) (keep b o hb n1)) hS' items
    rcases List.mem_cons.mp m with z | z
    · exact n1 z
    · exact n2 (List.mem_singleton.mp z)
  unfold Builtin.List.listExtendWith
  refine wpAny_bind (wpAny_typeOf ty ?_)
  have n1 : Builtin.List.listSameRef (.ref S) (.ref it) = false := by simp [Builtin.List.listSameRef, ne]
  have n2 : (Value.type "range_iterator" == Value.type "list") = false := by decide
  have n3 : (Value.type "range_iterator" == Value.type "tuple") = false := by decide
  simp only [n1, n2, n3, Bool.or_false, Bool.false_eq_true, if_false]
  refine wpAny_bind (wpAny_pyIter_rangeiter ho ?_)
  refine wpAny_bind (wpAny_holding (rit_hint ho (by omega) (by omega) fun t => ?_))
  refine wpAny_ite_split (fun z => absurd z (by decide)) (fun _ => wpAny_pure ⟨plainId_quiet F.plain_extend_loop _, ?_⟩)
  exact loop { s with toks := t } rfl rfl rfl (fun b o hb _ => hb) ⟨k0, hS⟩
theorem rit_list {Q : Value → Shared → Prop} {it : Addr} {a c : Int} {n : Nat} (hh : A.handled = none) (ho : IsRangeIter s.heap it a n c) (small : n ≤ 2 ^ 24)
    (fin : ∀ (h' : Heap) (tk : Nat) (acc : Array Value) (k : Nat), (∀ b o, b ≠ it → s.heap.get? b = some o → h'.get? b = some o) → h'.get? s.heap.objs.size = some { cls := .type "list", dict := none, data := .seq acc k, slots := #[] } →
      ItemsOf (fun i v => ∃ t, v = .int (a + i * c) t) acc n → Q (.ref s.heap.objs.size) { s with heap := h', toks := tk }) :
    wpAny (model prog w) A (call (.type "list") [.ref it]) Q E s := by
  have lt : it < s.heap.objs.size := Heap.lt_size ho
  refine callType_codes (Q₁ := fun obj s₁ => obj = .ref s.heap.objs.size ∧ s₁ = { s with heap := s.heap.push { cls := .type "list", data := .seq #[] } }) F.called_list (F.typeCall_list_1 _) F.entry_list_init
    (code_list_new _ ⟨rfl, rfl⟩) fun obj s₁ made => ?_
  obtain ⟨rfl, rfl⟩ := made
  have hS : (s.heap.push { cls := .type "list", data := .seq #[] }).get? s.heap.objs.size = some { cls := .type "list", data := .seq #[] } := Heap.get?_push_size _ rfl
  refine ⟨⟨_, hS, rfl⟩, F.args_list_init_2 _ _, ?_⟩
  show wpAny _ _ (do let old ← Builtin.List.listItems (.ref s.heap.objs.size); Builtin.List.listUpdate (.ref s.heap.objs.size) (fun _ => #[]); letGo old.toList.reverse; Builtin.List.listExtendWith (.ref s.heap.objs.size) (.ref it) .none) _ _ _
  refine wpAny_bind ?_
  unfold Builtin.List.listItems
  refine wpAny_bind (wpAny_seqItems hS rfl (wpAny_pure ?_))
  show wpAny _ _ (updateSeq s.heap.objs.size (fun _ => #[]) >>= fun _ => letGo (#[] : Array Value).toList.reverse >>= fun _ => Builtin.List.listExtendWith (.ref s.heap.objs.size) (.ref it) .none) _ _ _
  refine wpAny_bind (wpAny_updateSeq hS rfl ?_)
  have other : ∀ b o, b ≠ s.heap.objs.size → s.heap.get? b = some o → ((s.heap.push { cls := .type "list", data := .seq #[] }).update s.heap.objs.size (Obj.mapSeq (fun _ => (#[] : Array Value)))).get? b = some o :=
    fun b o nb hb => (Heap.get?_update_other _ _ (Ne.symm nb)).trans (Heap.get?_push_of_some _ hb)
  refine wpAny_bind (wpAny_letGo ?_)
  refine rit_into (A := A.in1) hh (other it _ (Nat.ne_of_lt lt) ho) small (Heap.get?_update_self (Obj.mapSeq (fun _ => (#[] : Array Value))) hS rfl) (Nat.ne_of_gt lt) fun h' tk acc k keep hS' items => ?_
  exact ⟨rfl, fin h' tk acc k (fun b o nb hb => keep b o (Nat.ne_of_lt (Heap.lt_size hb)) nb (other b o (Nat.ne_of_lt (Heap.lt_size hb)) hb)) hS' items⟩
end
/-! ### the rule -/
def dnV (a b : Int) : List V := (List.range (b - a).toNat).map fun i => V.int (b - 1 - (i : Nat))
theorem vals_dn {a b : Int} {acc : Array Value} (h : ItemsOf (fun i v => ∃ t, v = .int (a + (((b - a).toNat : Nat) : Int) - 1 + i * (-1)) t) acc (b - a).toNat) : Vals (dnV a b) acc.toList := by
  have hn : (b - a).toNat = acc.toList.length := by rw [Array.length_toList]; exact h.1.symm
  unfold dnV
  rw [hn]
  refine vals_of_get acc.toList _ fun j u hj => ?_
  have hlt : j < acc.toList.length := (List.getElem?_eq_some_iff.mp hj).1
  obtain ⟨t, e⟩ := h.2 j u (by rw [← hj, Array.getElem?_toList])
  refine ⟨t, ?_⟩
  rw [e]
  congr 1
  omega
def LRevOk (a b : Int) (H1 : Hp) (Q : VK) : Prop := RgOk a b ∧ ∀ q, H1 q = none → Q (.ref q) (upd H1 q (.lst (dnV a b)))
def tLstRev (tr : L2.St → Hp → (Int → Int → Hp → Prop) → Prop) : TE := fun σ H Q => tr σ H fun a b H1 => LRevOk a b H1 Q
theorem pe_listRevR {X : Cx} {e : Expr} {tr : L2.St → Hp → (Int → Int → Hp → Prop) → Prop} {p p2 pos pos2 : Pos} (hc : X.calm = true) (hg : Gl X "list") (hm : X.mg "list" = none) (hg2 : Gl X "reversed") (hm2 : X.mg "reversed" = none) (he : PRg X e tr)
    (hs : starEach [e] X.env = (false, eval e X.env) :: starEach [] X.env := by rfl)
    (hs2 : starEach [.Call (.Name "reversed" p2) [e] [] pos2] X.env = (false, eval (.Call (.Name "reversed" p2) [e] [] pos2) X.env) :: starEach [] X.env := by rfl) :
    PE X (.Call (.Name "list" p) [.Call (.Name "reversed" p2) [e] [] pos2] [] pos) (tLstRev tr) := by
  refine ⟨fun pins s σ H Q I h => ?_⟩
  refine Call_ (ld_blt I hg hm PyProof.Rows.boot_list (PyProof.Rows.callWith_type1 (args_cons (Call_ (ld_blt I hg2 hm2 PyProof.Rows.boot_reversed (PyProof.Rows.callWith_type1 (args_cons (thn (he pins s σ H _ I h) fun u s1 hx => args_nil ?_) hs) hs rfl))) hs2) hs2 rfl))
  obtain ⟨r, a, b, t, w1, v, H1, eu, hr, I1, ok, q⟩ := hx
  subst eu
  obtain ⟨b1, b2, b3, b4, b5⟩ := ok
  have hn : Builtin.Range.rangeSize a b 1 = (((b - a).toNat : Nat) : Int) := rangeSize_nat a b
  refine call_reversed_range hr (smallRev_one b1 b2 b3 b4) (args_nil ?_)
  have I2 : L2.Inv X pins σ H1 { s1 with heap := s1.heap.push (rngRevObj a b 1) } := I1.kept (t' := s1.toks) fun b o z => Heap.get?_push_of_some _ z
  have fp : L2.FpOk X pins H1 s1.heap.objs.size := I1.fpOk (Nat.le_refl _) (I1.hok.fresh (Nat.le_refl _))
  have at_ : IsRangeIter (s1.heap.push (rngRevObj a b 1)) s1.heap.objs.size (a + (((b - a).toNat : Nat) : Int) - 1) (((b - a).toNat : Nat) : Int) (-1) := by
    have z : (s1.heap.push (rngRevObj a b 1)).get? s1.heap.objs.size = some (rngRevObj a b 1) := Heap.get?_push_size _ rfl
    have e1 : a + ((((b - a).toNat : Nat) : Int) - 1) * 1 = a + (((b - a).toNat : Nat) : Int) - 1 := by omega
    have eo : rngRevObj a b 1 = { cls := .type "range_iterator", dict := none, data := .fields #[rawInt (a + (((b - a).toNat : Nat) : Int) - 1), rawInt (((b - a).toNat : Nat) : Int), rawInt (-1)], slots := #[] } := by
      unfold rngRevObj
      rw [hn, e1]
    exact z.trans (congrArg some eo)
  refine rit_list (s := { s1 with heap := s1.heap.push (rngRevObj a b 1) }) (n := (b - a).toNat) (I2.ok.hd hc) at_ b5 fun h' tk acc k keep hS items => ?_
  refine ⟨.ref (s1.heap.push (rngRevObj a b 1)).objs.size, upd H1 (s1.heap.push (rngRevObj a b 1)).objs.size (.lst (dnV a b)), I2.turnedNew (t' := tk) (ch := [s1.heap.objs.size]) (fun x o hx ho => keep x o (fun z => hx (by rw [z]; exact List.mem_singleton.mpr rfl)) ho) (fun x hx => by rw [List.mem_singleton.mp hx]; exact fp) (Nat.le_refl _)
    (show ObjOk X.prog X.w _ _ _ (.lst (dnV a b)) from ⟨?_, acc.toList, k, vals_dn items, ?_⟩), rfl, q _ (I2.hok.fresh (Nat.le_refl _))⟩
  · unfold dnV; rw [List.length_map, List.length_range, sizeLine_eq]; omega
  · rw [Array.toArray_toList]; exact hS
theorem g_lrev {tr : L2.St → Hp → (Int → Int → Hp → Prop) → Prop} {σ : L2.St} {H : Hp} {Q : VK} (h : tr σ H fun a b H1 => LRevOk a b H1 Q) : tLstRev tr σ H Q := h
/-- a list of the places a .. b - 1, from the last -/
theorem newDn {a b : Nat} {H : Hp} {Q : VK} (h0 : a ≤ 100000) (h1 : b ≤ 100000) (h : ∀ p H', H p = none → Same H H' → H' p = some (.lst (nI ((List.range (b - a)).map fun i => a + i).reverse)) → Q (.ref p) H') : LRevOk (a : Int) (b : Int) H Q := by
  refine ⟨RgOk.of_le (by omega) (by omega) (by omega) (by omega), fun q nq => h q _ nq (L2.Same.new nq) ?_⟩
  rw [upd_same]
  unfold dnV nI
  rw [show ((b : Int) - (a : Int)).toNat = b - a by omega]
  congr 2
  refine List.ext_getElem? fun j => ?_
  by_cases c : j < b - a
  · rw [List.getElem?_map, List.getElem?_range c, List.getElem?_map, List.getElem?_reverse (by simpa using c), List.length_map, List.length_range, List.getElem?_map, List.getElem?_range (by omega)]
    show some (V.int ((b : Int) - 1 - (j : Int))) = some (V.int ((a + (b - a - 1 - j) : Nat) : Int))
    congr 2
    omega
  · rw [List.getElem?_eq_none (by simp; omega), List.getElem?_eq_none (by simp; omega)]
end Rt
set_option Elab.async false
set_option linter.all false
set_option maxRecDepth 100000
set_option maxHeartbeats 4000000
/-! The mathematics of retinues that nest, of lords and of leaders. -/
namespace Rt
open PySem PySem.Spec L2
theorem tw_at {α : Type} {q : α → Bool} : ∀ {l : List α} {x : α}, x ∈ l.takeWhile q ↔ ∃ k : Nat, l[k]? = some x ∧ ∀ k' : Nat, k' ≤ k → ∀ y, l[k']? = some y → q y = true
  | [], x => by simp
  | a :: l, x => by
    rw [List.takeWhile_cons]
    by_cases c : q a = true
    · rw [if_pos c]
      constructor
      · intro h
        rcases List.mem_cons.mp h with e | h
        · subst e
          refine ⟨0, rfl, fun k' hk y hy => ?_⟩
          have e0 : k' = 0 := by omega
          subst e0
          have e1 : x = y := Option.some.inj hy
          rw [← e1]; exact c
        · obtain ⟨k, h1, h2⟩ := tw_at.mp h
          refine ⟨k + 1, h1, fun k' hk y hy => ?_⟩
          cases k' with
          | zero =>
            have e1 : a = y := Option.some.inj hy
            rw [← e1]; exact c
          | succ k' => exact h2 k' (by omega) y hy
      · rintro ⟨k, h1, h2⟩
        cases k with
        | zero =>
          have e1 : a = x := Option.some.inj h1
          rw [← e1]; exact List.mem_cons_self
        | succ k => exact List.mem_cons_of_mem _ (tw_at.mpr ⟨k, h1, fun k' hk y hy => h2 (k' + 1) (by omega) y hy⟩)
    · rw [if_neg c]
      constructor
      · intro h; cases h
      · rintro ⟨k, h1, h2⟩
        exact absurd (h2 0 (Nat.zero_le _) a rfl) c
/-- q is in the train of p: so many beads on, and all on the way weaker -/
theorem mem_trn {r : Bool} {ss : List Int} {p q : Nat} : q ∈ trn r ss p ↔ ∃ k : Nat, (run r ss.length p)[k]? = some q ∧ ∀ k' : Nat, k' ≤ k → ∀ o, (run r ss.length p)[k']? = some o → ss.getD o 0 < ss.getD p 0 := by
  unfold trn
  rw [tw_at]
  constructor
  · rintro ⟨k, h1, h2⟩
    exact ⟨k, h1, fun k' hk o ho => by have := h2 k' hk o ho; rw [wk_eq] at this; exact of_decide_eq_true this⟩
  · rintro ⟨k, h1, h2⟩
    exact ⟨k, h1, fun k' hk o ho => by rw [wk_eq]; exact decide_eq_true (h2 k' hk o ho)⟩
theorem run_idx {r : Bool} {n p k o : Nat} (hp : p < n) (h : (run r n p)[k]? = some o) : k + 1 < n ∧ ((p + 1 + k < n ∧ o = p + 1 + k) ∨ (r = true ∧ n ≤ p + 1 + k ∧ o + n = p + 1 + k)) := by
  have h1 : k < (run r n p).length := (List.getElem?_eq_some_iff.mp h).1
  have h2 := run_le (r := r) hp
  have hk : k + 1 < n := by omega
  rw [run_at hp hk] at h
  refine ⟨hk, ?_⟩
  by_cases c : p + 1 + k < n
  · rw [if_pos c] at h
    exact Or.inl ⟨c, (Option.some.inj h).symm⟩
  · rw [if_neg c] at h
    by_cases d : r = true
    · rw [if_pos d] at h
      have := Option.some.inj h
      exact Or.inr ⟨d, by omega, by omega⟩
    · rw [if_neg d] at h; cases h
theorem run_get {r : Bool} {n p k o : Nat} (hp : p < n) (hk : k + 1 < n) (h : (p + 1 + k < n ∧ o = p + 1 + k) ∨ (r = true ∧ n ≤ p + 1 + k ∧ o + n = p + 1 + k)) : (run r n p)[k]? = some o := by
  rw [run_at hp hk]
  rcases h with ⟨c, e⟩ | ⟨d, c, e⟩
  · rw [if_pos c, e]
  · rw [if_neg (by omega), if_pos d]; congr 1; omega
/-- the retinue of a bead of the train lies within the train -/
theorem trn_sub {r : Bool} {ss : List Int} {p q x : Nat} (hp : p < ss.length) (hq : q ∈ trn r ss p) (hx : x ∈ trn r ss q) : x ∈ trn r ss p := by
  obtain ⟨i, i1, i2⟩ := mem_trn.mp hq
  obtain ⟨k, k1, k2⟩ := mem_trn.mp hx
  have hql := trn_lt hp q hq
  have wq := i2 i (Nat.le_refl _) q i1
  obtain ⟨a1, a2⟩ := run_idx hp i1
  obtain ⟨b1, b2⟩ := run_idx hql k1
  -- the way round does not reach p
  have short : i + 1 + k + 1 < ss.length := by
    refine Nat.lt_of_not_le fun c => ?_
    have e : (run r ss.length q)[ss.length - 2 - i]? = some p := by
      refine run_get hql (by omega) ?_
      rcases a2 with ⟨c1, c2⟩ | ⟨d, c1, c2⟩
      · refine Or.inr ⟨?_, by omega, by omega⟩
        rcases b2 with ⟨e1, _⟩ | ⟨e1, _⟩
        · omega
        · exact e1
      · exact Or.inl ⟨by omega, by omega⟩
    have := k2 (ss.length - 2 - i) (by omega) p e
    omega
  have comb : ∀ j o, (run r ss.length q)[j]? = some o → j ≤ k → (run r ss.length p)[i + 1 + j]? = some o := by
    intro j o hj hjk
    obtain ⟨d1, d2⟩ := run_idx hql hj
    refine run_get hp (by omega) ?_
    rcases a2 with ⟨c1, c2⟩ | ⟨d, c1, c2⟩ <;> rcases d2 with ⟨e1, e2⟩ | ⟨e0, e1, e2⟩
    · exact Or.inl ⟨by omega, by omega⟩
    · exact Or.inr ⟨e0, by omega, by omega⟩
    · exact Or.inr ⟨d, by omega, by omega⟩
    · omega
  refine mem_trn.mpr ⟨i + 1 + k, comb k x k1 (Nat.le_refl _), fun k' hk' o ho => ?_⟩
  by_cases c : k' ≤ i
  · exact i2 k' c o ho
  · obtain ⟨j, rfl⟩ : ∃ j, k' = i + 1 + j := ⟨k' - (i + 1), by omega⟩
    have hjl : j < (run r ss.length q).length := by
      have := (List.getElem?_eq_some_iff.mp k1).1
      omega
    have hj := List.getElem?_eq_getElem hjl
    have e := comb j _ hj (by omega)
    rw [e] at ho
    have := k2 j (by omega) o (by rw [hj]; exact ho)
    omega
/-- two retinues that meet nest -/
theorem trn_meet {r : Bool} {ss : List Int} {p q x : Nat} (hp : p < ss.length) (hq : q < ss.length) (ne : p ≠ q) (h1 : x ∈ trn r ss p) (h2 : x ∈ trn r ss q) : p ∈ trn r ss q ∨ q ∈ trn r ss p := by
  have half : ∀ {p q : Nat}, p < ss.length → q < ss.length → ∀ {i j : Nat}, (run r ss.length p)[i]? = some x → (∀ k' : Nat, k' ≤ i → ∀ o, (run r ss.length p)[k']? = some o → ss.getD o 0 < ss.getD p 0) → (run r ss.length q)[j]? = some x → j < i → q ∈ trn r ss p := by
    intro p q hp hq i j i1 i2 j1 hlt
    obtain ⟨a1, a2⟩ := run_idx hp i1
    obtain ⟨b1, b2⟩ := run_idx hq j1
    refine mem_trn.mpr ⟨i - j - 1, run_get hp (by omega) ?_, fun k' hk' o ho => i2 k' (by omega) o ho⟩
    rcases a2 with ⟨c1, c2⟩ | ⟨d, c1, c2⟩ <;> rcases b2 with ⟨e1, e2⟩ | ⟨e0, e1, e2⟩
    · exact Or.inl ⟨by omega, by omega⟩
    · omega
    · by_cases c : p + 1 + (i - j - 1) < ss.length
      · exact Or.inl ⟨c, by omega⟩
      · exact Or.inr ⟨d, by omega, by omega⟩
    · exact Or.inl ⟨by omega, by omega⟩
  obtain ⟨i, i1, i2⟩ := mem_trn.mp h1
  obtain ⟨j, j1, j2⟩ := mem_trn.mp h2
  rcases Nat.lt_trichotomy i j with c | c | c
  · exact Or.inl (half hq hp j1 j2 i1 c)
  · subst c
    obtain ⟨a1, a2⟩ := run_idx hp i1
    obtain ⟨b1, b2⟩ := run_idx hq j1
    exact absurd (by omega) ne
  · exact Or.inr (half hp hq i1 i2 j1 c)
theorem trn_self {r : Bool} {ss : List Int} {p : Nat} (hp : p < ss.length) : p ∉ trn r ss p := fun h => by
  obtain ⟨k, h1, h2⟩ := mem_trn.mp h
  have := h2 k (Nat.le_refl _) p h1
  omega
/-- what lies before a place, the nearest first -/
def bef (r : Bool) (n p : Nat) : List Nat := (List.range p).reverse ++ (if r = true then ((List.range (n - (p + 1))).map fun i => p + 1 + i).reverse else [])
theorem rev_at {n i : Nat} (h : i < n) : (List.range n).reverse[i]? = some (n - 1 - i) := by
  rw [List.getElem?_reverse (by simpa using h), List.length_range, List.getElem?_range (by omega)]
theorem bef_at {r : Bool} {n p i : Nat} (hp : p < n) (hi : i + 1 < n) : (bef r n p)[i]? = if i < p then some (p - 1 - i) else if r = true then some (p + n - 1 - i) else none := by
  unfold bef
  by_cases c : i < p
  · rw [if_pos c, List.getElem?_append_left (by simpa using c), rev_at c]
  · rw [if_neg c, List.getElem?_append_right (by simp; omega), List.length_reverse, List.length_range]
    by_cases d : r = true
    · rw [if_pos d, if_pos d, List.getElem?_reverse (by simp; omega), List.length_map, List.length_range, List.getElem?_map, List.getElem?_range (by omega)]
      show some (p + 1 + _) = _
      congr 1; omega
    · rw [if_neg d, if_neg d]; rfl
theorem bef_len {r : Bool} {n p : Nat} (hp : p < n) : (bef r n p).length = if r = true then n - 1 else p := by
  unfold bef
  rw [List.length_append, List.length_reverse, List.length_range]
  by_cases d : r = true
  · rw [if_pos d, if_pos d, List.length_reverse, List.length_map, List.length_range]; omega
  · rw [if_neg d, if_neg d]; rfl
theorem bef_lt {r : Bool} {n p i o : Nat} (hp : p < n) (h : (bef r n p)[i]? = some o) : i + 1 < n ∧ o < n := by
  have h1 := (List.getElem?_eq_some_iff.mp h).1
  rw [bef_len hp] at h1
  have hi : i + 1 < n := by split at h1 <;> omega
  rw [bef_at hp hi] at h
  refine ⟨hi, ?_⟩
  split at h
  · have := Option.some.inj h; omega
  · split at h
    · have := Option.some.inj h; omega
    · cases h
/-- the nearest stronger one before: the nearest whose train holds the place -/
theorem lord_step {r : Bool} {ss : List Int} {p i o : Nat} (hp : p < ss.length) (h : (bef r ss.length p)[i]? = some o) (weak : ∀ j : Nat, j < i → ∀ y, (bef r ss.length p)[j]? = some y → ss.getD y 0 ≤ ss.getD p 0) :
    p ∈ trn r ss o ↔ ss.getD p 0 < ss.getD o 0 := by
  obtain ⟨hi, ho⟩ := bef_lt hp h
  have hb := h
  rw [bef_at hp hi] at hb
  have back : ∀ k, k < i → ∀ y, (run r ss.length o)[k]? = some y → (bef r ss.length p)[i - 1 - k]? = some y := by
    intro k hk y hy
    obtain ⟨k1, k2⟩ := run_idx ho hy
    rw [bef_at hp (by omega)]
    split at hb
    · have e := Option.some.inj hb
      rw [if_pos (by omega)]
      congr 1
      rcases k2 with ⟨_, e2⟩ | ⟨_, e1, _⟩ <;> omega
    · split at hb
      · rename_i c1 c2
        have e := Option.some.inj hb
        by_cases c : i - 1 - k < p
        · rw [if_pos c]
          congr 1
          rcases k2 with ⟨e1, e2⟩ | ⟨_, e1, e2⟩ <;> omega
        · rw [if_neg c, if_pos c2]
          congr 1
          rcases k2 with ⟨e1, e2⟩ | ⟨_, e1, e2⟩ <;> omega
      · cases hb
  have fwd : (run r ss.length o)[i]? = some p := by
    refine run_get ho hi ?_
    split at hb
    · have e := Option.some.inj hb
      exact Or.inl ⟨by omega, by omega⟩
    · split at hb
      · rename_i c1 c2
        have e := Option.some.inj hb
        exact Or.inr ⟨c2, by omega, by omega⟩
      · cases hb
  constructor
  · intro hm
    exact of_decide_eq_true (tw_mem (q := wk ss o) hm)
  · intro hs
    refine mem_trn.mpr ⟨i, fwd, fun k' hk' y hy => ?_⟩
    by_cases c : k' < i
    · have := weak (i - 1 - k') (by omega) y (back k' c y hy)
      omega
    · have e : k' = i := by omega
      subst e
      rw [fwd] at hy
      have := Option.some.inj hy
      subst this; exact hs
def lrd (r : Bool) (ss : List Int) (p : Nat) : Option Nat := (bef r ss.length p).find? fun o => decide (ss.getD p 0 < ss.getD o 0)
theorem find_at {α : Type} {q : α → Bool} : ∀ {l : List α} {i : Nat} {x : α}, l[i]? = some x → q x = true → (∀ j : Nat, j < i → ∀ y, l[j]? = some y → q y = false) → l.find? q = some x
  | [], i, x, h, _, _ => by simp at h
  | a :: l, 0, x, h, hx, _ => by
    have e : a = x := Option.some.inj h
    subst e
    rw [List.find?_cons, hx]
  | a :: l, i + 1, x, h, hx, hb => by
    rw [List.find?_cons, hb 0 (Nat.zero_lt_succ _) a rfl]
    exact find_at (l := l) (i := i) h hx fun j hj y hy => hb (j + 1) (by omega) y hy
theorem find_no {α : Type} {q : α → Bool} {l : List α} (h : ∀ j : Nat, j < l.length → ∀ y, l[j]? = some y → q y = false) : l.find? q = none := by
  rw [List.find?_eq_none]
  intro x hx
  obtain ⟨i, hi, e⟩ := List.mem_iff_getElem.mp hx
  have := h i hi x (by rw [List.getElem?_eq_getElem hi, e])
  rw [this]; decide
theorem lrd_some {r : Bool} {ss : List Int} {p o : Nat} (hp : p < ss.length) (h : lrd r ss p = some o) : o < ss.length ∧ ss.getD p 0 < ss.getD o 0 := by
  have h1 := List.find?_some h
  have h2 := List.mem_of_find?_eq_some h
  obtain ⟨i, hi, e⟩ := List.mem_iff_getElem.mp h2
  exact ⟨(bef_lt hp (i := i) (by rw [List.getElem?_eq_getElem hi, e])).2, of_decide_eq_true h1⟩
theorem lrd_none_ring {ss : List Int} {p o : Nat} (hp : p < ss.length) (h : lrd true ss p = none) (ho : o < ss.length) : ss.getD o 0 ≤ ss.getD p 0 := by
  by_cases e : o = p
  · rw [e]; exact Int.le_refl _
  · unfold lrd at h
    rw [List.find?_eq_none] at h
    have hm : o ∈ bef true ss.length p := by
      unfold bef
      rw [if_pos rfl]
      refine List.mem_append.mpr ?_
      by_cases c : o < p
      · exact Or.inl (List.mem_reverse.mpr (List.mem_range.mpr c))
      · refine Or.inr (List.mem_reverse.mpr (List.mem_map.mpr ⟨o - (p + 1), List.mem_range.mpr (by omega), by omega⟩))
    have := h o hm
    simp at this
    exact this
/-- how many are stronger -/
def up (ss : List Int) (p : Nat) : Nat := ((List.range ss.length).filter fun o => decide (ss.getD p 0 < ss.getD o 0)).length
theorem filter_lt {α : Type} {q s : α → Bool} : ∀ {l : List α} {x : α}, (∀ y ∈ l, q y = true → s y = true) → x ∈ l → s x = true → q x = false → (l.filter q).length < (l.filter s).length
  | [], x, _, hx, _, _ => by cases hx
  | a :: l, x, h, hx, h1, h2 => by
    have mono : ∀ (m : List α), (∀ y ∈ m, q y = true → s y = true) → (m.filter q).length ≤ (m.filter s).length := by
      intro m
      induction m with
      | nil => intro _; exact Nat.le_refl _
      | cons b m ih =>
        intro hm
        have := ih fun y hy => hm y (List.mem_cons_of_mem _ hy)
        rw [List.filter_cons, List.filter_cons]
        by_cases c : q b = true
        · rw [if_pos c, if_pos (hm b List.mem_cons_self c), List.length_cons, List.length_cons]; omega
        · rw [if_neg c]
          split
          · rw [List.length_cons]; omega
          · exact this
    have hl : ∀ y ∈ l, q y = true → s y = true := fun y hy => h y (List.mem_cons_of_mem _ hy)
    rcases List.mem_cons.mp hx with e | e
    · subst e
      rw [List.filter_cons, List.filter_cons, h2, h1, if_neg Bool.false_ne_true, if_pos rfl, List.length_cons]
      have := mono l hl
      omega
    · have := filter_lt hl e h1 h2
      rw [List.filter_cons, List.filter_cons]
      by_cases c : q a = true
      · rw [if_pos c, if_pos (h a List.mem_cons_self c), List.length_cons, List.length_cons]; omega
      · rw [if_neg c]
        split
        · rw [List.length_cons]; omega
        · exact this
theorem up_lt {ss : List Int} {p o : Nat} (ho : o < ss.length) (h : ss.getD p 0 < ss.getD o 0) : up ss o < up ss p := by
  unfold up
  refine filter_lt (x := o) (fun y _ hy => ?_) (List.mem_range.mpr ho) (decide_eq_true h) (decide_eq_false (by omega))
  have := of_decide_eq_true hy
  exact decide_eq_true (by omega)
theorem up_le {ss : List Int} {p : Nat} (hp : p < ss.length) : up ss p + 1 ≤ ss.length := by
  have h := filter_lt (q := fun o => decide (ss.getD p 0 < ss.getD o 0)) (s := fun _ => true) (l := List.range ss.length) (x := p) (fun _ _ _ => rfl) (List.mem_range.mpr hp) rfl (decide_eq_false (by omega))
  rw [List.filter_eq_self.mpr (fun _ _ => rfl), List.length_range] at h
  exact h
end Rt
set_option Elab.async false
set_option linter.all false
set_option maxRecDepth 100000
set_option maxHeartbeats 4000000
/-! Lists of any values built over a range or an enumeration; in, max, enumerate with the written part named. -/
namespace Rt
open PySem PySem.Spec L2
theorem lc_rangeV {lo : Int} {n : Nat} {g : TG} {te : TE} {vs : List Nat} {σ : L2.St} {H1 : Hp} {D : Addr} {Qd : Hp → Prop} (f : Nat → V) (hD : H1 D = none) (sz : n ≤ 100000)
    (turn : ∀ (i : Nat) (H' : Hp), i < n → Same H1 H' → ∀ Q : VK, (∀ H2, Same H' H2 → Q (f i) H2) → g (.int (lo + i)) (wipe σ vs) H' fun σ2 H2 => wipe σ2 vs = wipe σ vs ∧ te σ2 H2 Q)
    (done : ∀ H', Same H1 H' → H' D = some (.lst ((List.range n).map f)) → Qd H') :
    ∃ W : Nat → Nat → Hp → Prop, (∃ m, W 0 m (upd H1 D (.lst []))) ∧ ∀ i m H, W i m H →
      ((Itr lo n).stop i H ∧ Qd H) ∨ ((Itr lo n).go i H ∧ ∃ Nx : Hp → Prop, (∀ H', Nx H' → ∃ m', m' < m ∧ W (i + 1) m' H') ∧ ∀ x H', (Itr lo n).yld i H x H' → g x (wipe σ vs) H' fun σ2 H2 => wipe σ2 vs = wipe σ vs ∧ tYes σ2 H2 fun b H3 =>
        if b = true then te σ2 H3 fun y H4 => ∃ acc, H4 D = some (.lst acc) ∧ acc.length < sizeLine ∧ Nx (upd H4 D (.lst (acc ++ [y]))) else Nx H3) := by
  refine lc_range (fun i H' => Same H1 H' ∧ H' D = some (.lst ((List.range i).map f))) ⟨Same.new hD, upd_same⟩ ?_ ?_
  · rintro i H' hi ⟨S1, hd⟩
    refine turn i H' hi S1 _ fun H2 S2 => ⟨_, S2 _ _ hd, ?_, (S1.trans S2).mut hD, ?_⟩
    · rw [List.length_map, List.length_range]; exact slt1000 (by omega)
    · rw [upd_same, List.range_succ, List.map_append]; rfl
  · rintro H' ⟨S1, hd⟩
    exact done H' S1 hd
theorem lc_enum {K : PySem.W.Frag} {a : Addr} {xs : List V} {g : TG} {tt : TT} {te : TE} {vs : List Nat} {σ : L2.St} {H1 : Hp} {D : Addr} {Qd : Hp → Prop} (Pv : Nat → Hp → Prop) (h0 : Pv 0 (upd H1 D (.lst []))) (hl : ∀ i H, Pv i H → SqL K H a xs)
    (turn : ∀ (i : Nat) (x : V) (T : Addr) (H : Hp), xs[i]? = some x → Pv i H → H T = none → g (.ref T) (wipe σ vs) (upd H T (.tup [.int (i : Nat), x])) fun σ2 H2 => wipe σ2 vs = wipe σ vs ∧ tt σ2 H2 fun b H3 =>
      if b = true then te σ2 H3 fun y H4 => ∃ acc, H4 D = some (.lst acc) ∧ acc.length < sizeLine ∧ Pv (i + 1) (upd H4 D (.lst (acc ++ [y]))) else Pv (i + 1) H3) (done : ∀ H, Pv xs.length H → Qd H) :
    ∃ W : Nat → Nat → Hp → Prop, (∃ m, W 0 m (upd H1 D (.lst []))) ∧ ∀ i m H, W i m H →
      ((Ite K a).stop i H ∧ Qd H) ∨ ((Ite K a).go i H ∧ ∃ Nx : Hp → Prop, (∀ H', Nx H' → ∃ m', m' < m ∧ W (i + 1) m' H') ∧ ∀ x H', (Ite K a).yld i H x H' → g x (wipe σ vs) H' fun σ2 H2 => wipe σ2 vs = wipe σ vs ∧ tt σ2 H2 fun b H3 =>
        if b = true then te σ2 H3 fun y H4 => ∃ acc, H4 D = some (.lst acc) ∧ acc.length < sizeLine ∧ Nx (upd H4 D (.lst (acc ++ [y]))) else Nx H3) := by
  refine ⟨fun i m H => i + m = xs.length ∧ Pv i H, ⟨xs.length, Nat.zero_add _, h0⟩, fun i m H w => ?_⟩
  have sq := hl i H w.2
  cases m with
  | zero =>
    have e : i = xs.length := w.1
    exact Or.inl ⟨⟨xs, sq, by omega⟩, done H (by rw [← e]; exact w.2)⟩
  | succ m =>
    have lt : i < xs.length := by have := w.1; omega
    refine Or.inr ⟨⟨xs, xs[i], sq, List.getElem?_eq_getElem lt⟩, Pv (i + 1), fun H' z => ⟨m, Nat.lt_succ_self m, by have := w.1; omega, z⟩, fun x H' y => ?_⟩
    obtain ⟨T, v, e1, e2, e3, e4⟩ := y
    rw [e1, e3]
    exact turn i v T H (e4 xs sq) w.2 e2
theorem g_enum {σ : L2.St} {H : Hp} {K : PySem.W.Frag} {ta : TA} {R : It → Hp → Prop} (h : ta σ H fun vs H1 => ∃ a xs, vs = [.ref a] ∧ SqL K H1 a xs ∧ R (Ite K a) H1) : iEnum K ta σ H R := h
section
variable {X : Cx} (K : PySem.W.Frag)
theorem op_inK (h : X.K = K := by rfl) : OpR X (compareOp .In) (rIn K false) := by subst h; exact op_in_seq
theorem cr_maxK (hc : X.calm = true) (h : X.K = K := by rfl) : CallR X (.builtin "max") (rMax K) := by subst h; exact cr_max hc
theorem pi_enumK {e : Expr} {ta : TA} {p pos tpos : Pos} {elts : List Expr} {kk : Nat} (hg : Gl X "enumerate") (hm : X.mg "enumerate" = none) (ha : PA X [e] ta) (hs : starEach [e] X.env = [(false, eval e X.env)] := by rfl) (h : X.K = K := by rfl) :
    PI X (.Tuple elts kk tpos) (.Call (.Name "enumerate" p) [e] [] pos) (iEnum K ta) := by subst h; exact pi_enum hg hm ha hs
end
theorem all_flat : ∀ os : List Nat, (nI os).all flatV = true
  | [] => rfl
  | o :: os => by
    show (flatV (V.int (o : Int)) && (nI os).all flatV) = true
    rw [all_flat os]; rfl
theorem inV_nI {q : Nat} : ∀ os : List Nat, inV (V.int (q : Int)) (nI os) = decide (q ∈ os)
  | [] => rfl
  | o :: os => by
    have ih := inV_nI (q := q) os
    unfold inV nI at ih ⊢
    rw [List.map_cons, List.any_cons, ih]
    show (((o : Int) == (q : Int)) || decide (q ∈ os)) = decide (q ∈ o :: os)
    by_cases c : o = q
    · subst c; simp
    · have c2 : ¬ (o : Int) = (q : Int) := by omega
      have c3 : ((o : Int) == (q : Int)) = false := by simpa using c2
      rw [c3, Bool.false_or]
      have c4 : ¬ q = o := fun z => c z.symm
      simp [c4]
theorem g_inI {K : PySem.W.Frag} {H : Hp} {Q : VK} {a : Addr} {os : List Nat} {q : Nat} (h : H a = some (.lst (nI os))) (hq : Q (.bl (decide (q ∈ os))) H) : rIn K false (.int (q : Int)) (.ref a) H Q :=
  ⟨a, _, rfl, .inl (SqL.of h), rfl, all_flat os, by rw [inV_nI]; exact hq⟩
theorem nI_at {os : List Nat} {i : Nat} {x : V} (h : (nI os)[i]? = some x) : ∃ o : Nat, os[i]? = some o ∧ x = V.int (o : Int) := by
  unfold nI at h
  rw [List.getElem?_map] at h
  cases e : os[i]? with
  | none => rw [e] at h; cases h
  | some o => rw [e] at h; exact ⟨o, rfl, (Option.some.inj h).symm⟩
theorem oV_non {x : Option Nat} : decide (oV x = V.non) = x.isNone := by
  cases x with
  | none => exact decide_eq_true rfl
  | some o => exact decide_eq_false (fun z => by cases z)
theorem g_and2 {c d : Bool} {uu : TT} {σ : L2.St} {H : Hp} {QT : Bool → Hp → Prop} (hu : ∀ Q : Bool → Hp → Prop, Q d H → uu σ H Q) (h : QT (c && d) H) : if c = true then uu σ H QT else QT false H := by
  cases c with
  | true => exact hu QT h
  | false => exact h
theorem g_or2 {c d : Bool} {tb : TE} {σ : L2.St} {H : Hp} {Q : VK} (hu : ∀ Q : VK, Q (.bl d) H → tb σ H Q) (h : Q (.bl (c || d)) H) : if c = true then Q (.bl true) H else tb σ H Q := by
  cases c with
  | true => exact h
  | false => exact hu Q h
theorem ite_blV {b m n : Bool} : (if b = true then V.bl m else V.bl n) = V.bl (if b = true then m else n) := by cases b <;> rfl
def flV (r : Bool) (ss : List Int) (i : Nat) : List V := (List.range ss.length).map fun at' => V.bl (decide (at' ∈ trn r ss i))
theorem flV_at {r : Bool} {ss : List Int} {i x : Nat} (hx : x < ss.length) : (flV r ss i)[x]? = some (.bl (decide (x ∈ trn r ss i))) := by
  unfold flV; rw [List.getElem?_map, List.getElem?_range hx]; rfl
def FlP (H : Hp) (r : Bool) (ss : List Int) (fa : Addr) (xs : List V) (i : Nat) : Prop := xs.length = i ∧ ∀ j : Nat, j < i → ∃ t : Addr, xs[j]? = some (V.ref t) ∧ t ≠ fa ∧ H t = some (.lst (flV r ss j))
theorem FlP.mono {H H' : Hp} {r : Bool} {ss : List Int} {fa : Addr} {xs : List V} {i : Nat} (h : FlP H r ss fa xs i) (S : Same H H') : FlP H' r ss fa xs i := ⟨h.1, fun j hj => let ⟨t, a, n, b⟩ := h.2 j hj; ⟨t, a, n, S _ _ b⟩⟩
theorem FlP.upd {H : Hp} {r : Bool} {ss : List Int} {fa : Addr} {xs : List V} {i : Nat} {o : HO} (h : FlP H r ss fa xs i) : FlP (upd H fa o) r ss fa xs i := ⟨h.1, fun j hj => let ⟨t, a, n, b⟩ := h.2 j hj; ⟨t, a, n, by rw [upd_ne n]; exact b⟩⟩
theorem FlP.more {H : Hp} {r : Bool} {ss : List Int} {fa : Addr} {xs : List V} {i : Nat} {t : Addr} (h : FlP H r ss fa xs i) (n : t ≠ fa) (ht : H t = some (.lst (flV r ss i))) : FlP H r ss fa (xs ++ [V.ref t]) (i + 1) := by
  refine ⟨by rw [List.length_append, h.1]; rfl, fun j hj => ?_⟩
  by_cases c : j < i
  · obtain ⟨u, a, m, b⟩ := h.2 j c
    exact ⟨u, by rw [List.getElem?_append_left (by rw [h.1]; exact c)]; exact a, m, b⟩
  · have e : j = i := by omega
    subst e
    exact ⟨t, by rw [List.getElem?_append_right (by rw [h.1]; exact Nat.le_refl _), h.1, Nat.sub_self]; rfl, n, ht⟩
end Rt
set_option Elab.async false
set_option linter.all false
set_option maxRecDepth 100000
set_option maxHeartbeats 4000000
/-! The mathematics of what a bead could have been before its last waking (k29). -/
namespace Rt
open PySem PySem.Spec L2
/-- the train of the bead at p, were its strength c, ring or row -/
def tkr (r : Bool) (ss : List Int) (p : Nat) (c : Int) : List Nat := (run r ss.length p).takeWhile fun o => decide (ss.getD o 0 < c)
def wr (r : Bool) (ss ls : List Int) (p : Nat) (c : Int) : Int := ls.getD p 0 + sm ls (tkr r ss p c)
theorem trn_set {r : Bool} {ss : List Int} {p : Nat} {c : Int} (hp : p < ss.length) : trn r (ss.set p c) p = tkr r ss p c := by
  unfold trn tkr
  rw [List.length_set]
  refine tw_congr fun o ho => ?_
  have ne : o ≠ p := fun e => by
    obtain ⟨i, hi, e2⟩ := List.mem_iff_getElem.mp ho
    have := run_idx hp (k := i) (o := o) (by rw [List.getElem?_eq_getElem hi, e2])
    omega
  rw [wk_eq, getD_set hp, getD_set hp, if_neg ne, if_pos rfl]
theorem rch_set {r : Bool} {ss ls : List Int} {p : Nat} {c : Int} (hp : p < ss.length) : rch r (ss.set p c) ls p = wr r ss ls p c := by
  unfold rch wr
  rw [trn_set hp]; rfl
/-- lengths are positive: a greater beginning has a greater sum -/
theorem sm_take_lt {ls : List Int} {l : List Nat} (h : ∀ o ∈ l, 1 ≤ ls.getD o 0) {i j : Nat} (hij : i < j) (hj : j ≤ l.length) : sm ls (l.take i) < sm ls (l.take j) := by
  induction j with
  | zero => omega
  | succ j ih =>
    have hjl : j < l.length := by omega
    have e : l.take (j + 1) = l.take j ++ [l[j]] := take_more (List.getElem?_eq_getElem hjl)
    have p1 := h _ (List.getElem_mem hjl)
    rw [e, sm_app]
    have e2 : sm ls [l[j]] = ls.getD l[j] 0 := by rw [sm_cons]; unfold sm; simp
    rw [e2]
    by_cases c : i = j
    · subst c; omega
    · have := ih (by omega) (by omega)
      omega
/-- the reach is so much exactly if the train has so many beads -/
theorem wr_iff {r : Bool} {ss ls : List Int} {p k : Nat} {c f : Int} (pos : ∀ o ∈ run r ss.length p, 1 ≤ ls.getD o 0) (hk : k ≤ (run r ss.length p).length) (hf : f = ls.getD p 0 + sm ls ((run r ss.length p).take k)) : wr r ss ls p c = f ↔ (tkr r ss p c).length = k := by
  have ht : tkr r ss p c = (run r ss.length p).take (tkr r ss p c).length := tw_take
  have hl : (tkr r ss p c).length ≤ (run r ss.length p).length := (List.takeWhile_sublist _).length_le
  unfold wr
  rw [hf]
  constructor
  · intro h
    rcases Nat.lt_trichotomy (tkr r ss p c).length k with d | d | d
    · have := sm_take_lt pos d hk
      rw [← ht] at this; omega
    · exact d
    · have := sm_take_lt pos d hl
      rw [← ht] at this; omega
  · intro h
    rw [← h, ← ht]
/-- the train has so many beads exactly if the first so many are weaker, and the next one is not -/
theorem tkr_iff {r : Bool} {ss : List Int} {p k : Nat} {c : Int} (hk : k ≤ (run r ss.length p).length) : (tkr r ss p c).length = k ↔ (∀ o ∈ (run r ss.length p).take k, ss.getD o 0 < c) ∧ ∀ o, (run r ss.length p)[k]? = some o → c ≤ ss.getD o 0 := by
  constructor
  · intro h
    refine ⟨fun o ho => ?_, fun o ho => ?_⟩
    · have e : (run r ss.length p).take k = tkr r ss p c := by rw [← h]; exact tw_take.symm
      rw [e] at ho
      exact of_decide_eq_true (tw_mem (q := fun o => decide (ss.getD o 0 < c)) ho)
    · rw [← h] at ho
      have := of_decide_eq_false (tw_next (q := fun o => decide (ss.getD o 0 < c)) ho)
      omega
  · rintro ⟨h1, h2⟩
    have ge := tw_ge (q := fun o => decide (ss.getD o 0 < c)) hk fun o ho => decide_eq_true (h1 o ho)
    refine Nat.le_antisymm (Nat.le_of_not_lt fun d => ?_) ge
    have hd : k < (run r ss.length p).length := Nat.lt_of_lt_of_le d (List.takeWhile_sublist _).length_le
    have e := List.getElem?_eq_getElem hd
    have m : (run r ss.length p)[k] ∈ tkr r ss p c := by
      have ht : tkr r ss p c = (run r ss.length p).take (tkr r ss p c).length := tw_take
      rw [ht]
      exact List.mem_iff_getElem?.mpr ⟨k, by rw [List.getElem?_take_of_lt d, e]⟩
    have a := of_decide_eq_true (tw_mem (q := fun o => decide (ss.getD o 0 < c)) m)
    have b := h2 _ e
    omega
end Rt
set_option Elab.async false
set_option linter.all false
set_option maxRecDepth 100000
set_option maxHeartbeats 4000000
/-! The mathematics of rounds: no strength falls after round 1, changes have no gaps, all ends after as many rounds as there are beads. -/
namespace Rt
open PySem PySem.Spec L2
variable {r : Bool} {ss ls : List Int} {p q : Nat}
def rnd (r : Bool) (ls ss : List Int) : List Int := (List.range ss.length).map fun p => rch r ss ls p
theorem rnd_len : (rnd r ls ss).length = ss.length := by unfold rnd; rw [List.length_map, List.length_range]
theorem rnd_at (hp : p < ss.length) : (rnd r ls ss).getD p 0 = rch r ss ls p := by
  unfold rnd
  rw [List.getD_eq_getElem?_getD, List.getElem?_map, List.getElem?_range hp]; rfl
def row (r : Bool) (ls ss : List Int) : Nat → List Int
  | 0 => ss
  | k + 1 => rnd r ls (row r ls ss k)
theorem row_len : ∀ k : Nat, (row r ls ss k).length = ss.length
  | 0 => rfl
  | k + 1 => by
    show (rnd r ls (row r ls ss k)).length = _
    rw [rnd_len, row_len k]
theorem run_nd {n : Nat} (hp : p < n) : (run r n p).Nodup := by
  unfold run
  refine List.nodup_append.mpr ⟨List.pairwise_map.mpr (List.nodup_range.imp fun {a b} h z => h (by omega)), ?_, fun a ha b hb => ?_⟩
  · cases r
    · exact List.nodup_nil
    · exact List.nodup_range
  · obtain ⟨i, hi, rfl⟩ := List.mem_map.mp ha
    cases r
    · cases hb
    · have := List.mem_range.mp hb
      omega
theorem trn_nd (hp : p < ss.length) : (trn r ss p).Nodup := (run_nd hp).sublist (List.takeWhile_sublist _)
theorem sm_perm {a b : List Nat} (h : a.Perm b) : sm ls a = sm ls b := by
  induction h with
  | nil => rfl
  | cons x _ ih => rw [sm_cons, sm_cons, ih]
  | swap x y l => rw [sm_cons, sm_cons, sm_cons, sm_cons]; omega
  | trans _ _ i1 i2 => exact i1.trans i2
theorem sm_ge0 : ∀ b : List Nat, (∀ x ∈ b, 0 ≤ ls.getD x 0) → 0 ≤ sm ls b
  | [], _ => by unfold sm; simp
  | x :: b, h => by
    rw [sm_cons]
    have := sm_ge0 b fun y hy => h y (List.mem_cons_of_mem _ hy)
    have := h x List.mem_cons_self
    omega
theorem sm_sub : ∀ (a b : List Nat), a.Nodup → (∀ x ∈ a, x ∈ b) → (∀ x ∈ b, 0 ≤ ls.getD x 0) → sm ls a ≤ sm ls b
  | [], b, _, _, h => by
    have := sm_ge0 (ls := ls) b h
    show (([] : List Nat).map fun o => ls.getD o 0).sum ≤ _
    simpa using this
  | x :: a, b, nd, sub, h => by
    have hx := sub x List.mem_cons_self
    have nd' := List.nodup_cons.mp nd
    rw [sm_perm (List.perm_cons_erase hx), sm_cons, sm_cons]
    have := sm_sub a (b.erase x) nd'.2 (fun y hy => (List.mem_erase_of_ne (fun z => nd'.1 (by rw [← z]; exact hy))).mpr (sub y (List.mem_cons_of_mem _ hy))) (fun y hy => h y (List.mem_of_mem_erase hy))
    omega
theorem rch_eq : rch r ss ls p = ls.getD p 0 + sm ls (trn r ss p) := rfl
/-- a bead of the train has less, by the length of the bead -/
theorem rch_in (P : Pos' ss ls) (hp : p < ss.length) (h : q ∈ trn r ss p) : rch r ss ls q + ls.getD p 0 ≤ rch r ss ls p := by
  have hq := trn_lt hp q h
  have := sm_sub (ls := ls) (q :: trn r ss q) (trn r ss p) (List.nodup_cons.mpr ⟨trn_self hq, trn_nd hq⟩) (fun x hx => by
    rcases List.mem_cons.mp hx with z | z
    · rw [z]; exact h
    · exact trn_sub hp h z) (fun x hx => by have := P.pos x (trn_lt hp x hx); omega)
  rw [sm_cons] at this
  rw [rch_eq, rch_eq]
  omega
/-- how many beads the train has -/
def tl (r : Bool) (ss : List Int) (p : Nat) : Nat := (trn r ss p).length
/-- the length of a bead and the first k of its run -/
def sk (r : Bool) (ls : List Int) (n p k : Nat) : Int := ls.getD p 0 + sm ls ((run r n p).take k)
theorem trn_tk : trn r ss p = (run r ss.length p).take (tl r ss p) := tw_take
theorem rch_sk : rch r ss ls p = sk r ls ss.length p (tl r ss p) := by
  rw [rch_eq]
  unfold sk
  rw [← trn_tk]
theorem tl_le : tl r ss p ≤ (run r ss.length p).length := trn_len
theorem sk_lt (P : Pos' ss ls) (hp : p < ss.length) {i j : Nat} (h : i < j) (hj : j ≤ (run r ss.length p).length) : sk r ls ss.length p i < sk r ls ss.length p j := by
  unfold sk
  have := sm_take_lt (ls := ls) (l := run r ss.length p) (fun o ho => P.pos o (run_lt hp o ho)) h hj
  omega
theorem Pos'.rnd {ss ls : List Int} (r : Bool) (P : Pos' ss ls) : Pos' (rnd r ls ss) ls := ⟨by rw [rnd_len]; exact P.len, by rw [rnd_len]; exact P.pos⟩
theorem Pos'.row {ss ls : List Int} (r : Bool) (P : Pos' ss ls) (k : Nat) : Pos' (row r ls ss k) ls := ⟨by rw [row_len]; exact P.len, by rw [row_len]; exact P.pos⟩
theorem rnd_in (P : Pos' ss ls) (hp : p < ss.length) (h : q ∈ trn r ss p) : (rnd r ls ss).getD q 0 < (rnd r ls ss).getD p 0 := by
  have hq := trn_lt hp q h
  rw [rnd_at hq, rnd_at hp]
  have := rch_in P hp h
  have := P.pos p hp
  omega
/-- after a round no train is shorter -/
theorem tl_up (P : Pos' ss ls) (hp : p < ss.length) : tl r ss p ≤ tl r (rnd r ls ss) p := by
  have e : trn r (rnd r ls ss) p = (run r ss.length p).takeWhile (wk (rnd r ls ss) p) := by unfold trn; rw [rnd_len]
  unfold tl
  rw [e]
  refine tw_ge trn_len fun x hx => ?_
  have e2 : (run r ss.length p).take (trn r ss p).length = trn r ss p := trn_tk.symm
  rw [e2] at hx
  exact decide_eq_true (rnd_in P hp hx)
theorem tl_row (P : Pos' ss ls) (hp : p < ss.length) (k : Nat) : tl r (row r ls ss k) p ≤ tl r (row r ls ss (k + 1)) p := tl_up (P.row r k) (by rw [row_len]; exact hp)
theorem row_at (hp : p < ss.length) (k : Nat) : (row r ls ss (k + 1)).getD p 0 = sk r ls ss.length p (tl r (row r ls ss k) p) := by
  show (rnd r ls (row r ls ss k)).getD p 0 = _
  rw [rnd_at (by rw [row_len]; exact hp), rch_sk, row_len]
/-- no strength falls after round 1 -/
theorem row_le (P : Pos' ss ls) (hp : p < ss.length) (k : Nat) : (row r ls ss (k + 1)).getD p 0 ≤ (row r ls ss (k + 2)).getD p 0 := by
  rw [row_at hp, row_at hp]
  rcases Nat.lt_or_eq_of_le (tl_row (r := r) P hp k) with h | h
  · have := sk_lt (r := r) P hp h (by have := tl_le (r := r) (ss := row r ls ss (k + 1)) (p := p); rw [row_len] at this; exact this)
    omega
  · rw [h]; exact Int.le_refl _
theorem row_ne (P : Pos' ss ls) (hp : p < ss.length) (k : Nat) : (row r ls ss (k + 2)).getD p 0 ≠ (row r ls ss (k + 1)).getD p 0 ↔ tl r (row r ls ss k) p < tl r (row r ls ss (k + 1)) p := by
  rw [row_at hp, row_at hp]
  constructor
  · intro h
    rcases Nat.lt_or_eq_of_le (tl_row (r := r) P hp k) with z | z
    · exact z
    · rw [z] at h; exact absurd rfl h
  · intro h
    have := sk_lt (r := r) P hp h (by have := tl_le (r := r) (ss := row r ls ss (k + 1)) (p := p); rw [row_len] at this; exact this)
    omega
/-- a bead that changes in round k + 3 changes in round k + 2; its stopper before is no stronger than what it gains -/
theorem chg_stp (P : Pos' ss ls) (hp : p < ss.length) (k : Nat) (h : tl r (row r ls ss k) p < tl r (row r ls ss (k + 1)) p) :
    ∃ q, (run r ss.length p)[tl r (row r ls ss k) p]? = some q ∧ (row r ls ss k).getD p 0 ≤ (row r ls ss k).getD q 0 ∧ (row r ls ss (k + 1)).getD q 0 < (row r ls ss (k + 1)).getD p 0 := by
  have l1 := tl_le (r := r) (ss := row r ls ss (k + 1)) (p := p)
  rw [row_len] at l1
  have hk : tl r (row r ls ss k) p < (run r ss.length p).length := by omega
  refine ⟨_, List.getElem?_eq_getElem hk, ?_, ?_⟩
  · have e : (run r (row r ls ss k).length p)[((run r (row r ls ss k).length p).takeWhile (wk (row r ls ss k) p)).length]? = some ((run r ss.length p)[tl r (row r ls ss k) p]) := by
      show (run r (row r ls ss k).length p)[tl r (row r ls ss k) p]? = _
      rw [row_len]
      exact List.getElem?_eq_getElem hk
    have := of_decide_eq_false (tw_next (q := wk (row r ls ss k) p) e)
    omega
  · have m : (run r ss.length p)[tl r (row r ls ss k) p] ∈ trn r (row r ls ss (k + 1)) p := by
      rw [trn_tk, row_len]
      exact List.mem_iff_getElem?.mpr ⟨_, by rw [List.getElem?_take_of_lt h]; exact List.getElem?_eq_getElem hk⟩
    exact of_decide_eq_true (tw_mem (q := wk (row r ls ss (k + 1)) p) m)
theorem chg_back (P : Pos' ss ls) (hp : p < ss.length) (k : Nat) (h : tl r (row r ls ss (k + 1)) p < tl r (row r ls ss (k + 2)) p) : tl r (row r ls ss k) p < tl r (row r ls ss (k + 1)) p := by
  obtain ⟨q, e, a, b⟩ := chg_stp P hp (k + 1) h
  have hq := run_lt hp q (List.mem_of_getElem? e)
  have c := row_le (r := r) P hq k
  have ne : (row r ls ss (k + 2)).getD p 0 ≠ (row r ls ss (k + 1)).getD p 0 := by
    have b' : (row r ls ss (k + 2)).getD q 0 < (row r ls ss (k + 2)).getD p 0 := b
    omega
  exact (row_ne P hp k).mp ne
theorem tl_grow (P : Pos' ss ls) (hp : p < ss.length) : ∀ k, tl r (row r ls ss k) p < tl r (row r ls ss (k + 1)) p → k + 1 ≤ tl r (row r ls ss (k + 1)) p
  | 0, h => by omega
  | k + 1, h => by
    have := tl_grow P hp k (chg_back P hp k h)
    omega
theorem row_end (P : Pos' ss ls) (h0 : 0 < ss.length) : row r ls ss (ss.length + 1) = row r ls ss ss.length := by
  obtain ⟨m, hm⟩ : ∃ m, ss.length = m + 1 := ⟨ss.length - 1, by omega⟩
  have key : row r ls ss (m + 2) = row r ls ss (m + 1) := by
    refine ext_getD (by rw [row_len, row_len]) fun p hp => ?_
    rw [row_len] at hp
    refine Decidable.byContradiction fun ne => ?_
    have g := tl_grow P hp m ((row_ne P hp m).mp ne)
    have l1 := tl_le (r := r) (ss := row r ls ss (m + 1)) (p := p)
    rw [row_len] at l1
    have := run_le (r := r) hp
    omega
  rw [hm]; exact key
/-- after N rounds nothing changes any more, and not before -/
structure Stop (r : Bool) (ls ss : List Int) (N : Nat) : Prop where
  fix : row r ls ss (N + 1) = row r ls ss N
  mov : ∀ k, k < N → row r ls ss (k + 1) ≠ row r ls ss k
theorem stops (P : Pos' ss ls) (h0 : 0 < ss.length) : ∃ N, N ≤ ss.length ∧ Stop r ls ss N := by
  have key : ∀ m : Nat, (∀ k, k < m → row r ls ss (k + 1) ≠ row r ls ss k) ∨ ∃ N, N < m ∧ Stop r ls ss N := by
    intro m
    induction m with
    | zero => exact .inl fun k h => absurd h (Nat.not_lt_zero _)
    | succ m ih =>
      rcases ih with h | ⟨N, a, b⟩
      · by_cases c : row r ls ss (m + 1) = row r ls ss m
        · exact .inr ⟨m, Nat.lt_succ_self _, c, h⟩
        · refine .inl fun k hk => ?_
          rcases Nat.lt_succ_iff_lt_or_eq.mp hk with z | z
          · exact h k z
          · rw [z]; exact c
      · exact .inr ⟨N, by omega, b⟩
  rcases key (ss.length + 1) with h | ⟨N, a, b⟩
  · exact absurd (row_end P h0) (h _ (Nat.lt_succ_self _))
  · exact ⟨N, by omega, b⟩
theorem Stop.uniq {N M : Nat} (a : Stop r ls ss N) (b : Stop r ls ss M) : N = M := by
  rcases Nat.lt_trichotomy N M with h | h | h
  · exact absurd a.fix (b.mov N h)
  · exact h
  · exact absurd b.fix (a.mov M h)
theorem Stop.stay {N : Nat} (a : Stop r ls ss N) : ∀ k, row r ls ss (N + k) = row r ls ss N
  | 0 => rfl
  | k + 1 => by
    have ih := a.stay k
    show rnd r ls (row r ls ss (N + k)) = _
    rw [ih]
    exact a.fix
/-- once at rest, at rest: rows that begin at the end -/
theorem Stop.last {N : Nat} (a : Stop r ls ss N) : Stop r ls (row r ls ss N) 0 := ⟨a.fix, fun k h => absurd h (Nat.not_lt_zero _)⟩
/-- the last number at which f changes, up to N -/
def lstc (f : Nat → Int) : Nat → Nat
  | 0 => 0
  | k + 1 => if f (k + 1) ≠ f k then k + 1 else lstc f k
theorem lstc_le (f : Nat → Int) : ∀ N, lstc f N ≤ N
  | 0 => Nat.le_refl _
  | k + 1 => by
    unfold lstc
    have := lstc_le f k
    split <;> omega
theorem lstc_chg (f : Nat → Int) : ∀ N, 0 < lstc f N → f (lstc f N) ≠ f (lstc f N - 1)
  | 0, h => absurd h (Nat.lt_irrefl _)
  | k + 1, h => by
    unfold lstc at h ⊢
    split
    · rename_i c
      exact c
    · rename_i c
      rw [if_neg c] at h
      exact lstc_chg f k h
theorem lstc_max (f : Nat → Int) : ∀ N k, lstc f N < k → k ≤ N → f k = f (k - 1)
  | 0, k, h, h2 => by omega
  | N + 1, k, h, h2 => by
    unfold lstc at h
    split at h
    · omega
    · rename_i c
      have c' : f (N + 1) = f N := Decidable.byContradiction fun z => c z
      by_cases e : k = N + 1
      · rw [e]; exact c'
      · exact lstc_max f N k h (by omega)
/-- the changes of a bead have no gap: its strengths rise up to the last one -/
theorem row_asc (P : Pos' ss ls) (hp : p < ss.length) : ∀ (j i : Nat), tl r (row r ls ss j) p < tl r (row r ls ss (j + 1)) p → i ≤ j → (row r ls ss (i + 1)).getD p 0 < (row r ls ss (i + 2)).getD p 0
  | 0, i, h, hi => by
    have e : i = 0 := by omega
    subst e
    have a := row_le (r := r) P hp 0
    have b := (row_ne P hp 0).mpr h
    omega
  | j + 1, i, h, hi => by
    by_cases e : i = j + 1
    · subst e
      have a := row_le (r := r) P hp (j + 1)
      have b := (row_ne P hp (j + 1)).mpr h
      omega
    · exact row_asc P hp j i (chg_back P hp j h) (by omega)
/-- the book of a bead -/
def book (r : Bool) (ls ss : List Int) (N p : Nat) : List Int := (List.range (max 1 (lstc (fun k => (row r ls ss k).getD p 0) N))).map fun i => (row r ls ss (min (i + 1) N)).getD p 0
theorem book_len {N : Nat} : (book r ls ss N p).length = max 1 (lstc (fun k => (row r ls ss k).getD p 0) N) := by unfold book; rw [List.length_map, List.length_range]
theorem book_at {N i : Nat} (h : i < (book r ls ss N p).length) : (book r ls ss N p).getD i 0 = (row r ls ss (min (i + 1) N)).getD p 0 := by
  rw [book_len] at h
  unfold book
  rw [List.getD_eq_getElem?_getD, List.getElem?_map, List.getElem?_range h]; rfl
theorem book_asc (P : Pos' ss ls) (hp : p < ss.length) {N k : Nat} (h1 : 1 ≤ k) (h2 : k < (book r ls ss N p).length) : (book r ls ss N p).getD (k - 1) 0 < (book r ls ss N p).getD k 0 := by
  have hl := book_len (r := r) (ls := ls) (ss := ss) (p := p) (N := N)
  rw [book_at (by omega), book_at h2]
  have le := lstc_le (fun k => (row r ls ss k).getD p 0) N
  have hk : k + 1 ≤ lstc (fun k => (row r ls ss k).getD p 0) N := by omega
  have ch := lstc_chg (fun k => (row r ls ss k).getD p 0) N (by omega)
  generalize lstc (fun k => (row r ls ss k).getD p 0) N = L at ch le hk
  obtain ⟨j, rfl⟩ : ∃ j, L = j + 2 := ⟨L - 2, by omega⟩
  have t := (row_ne P hp j).mp ch
  have := row_asc P hp j (k - 1) t (by omega)
  rw [show min (k - 1 + 1) N = k - 1 + 1 by omega, show min (k + 1) N = k - 1 + 2 by omega]
  exact this
end Rt
set_option Elab.async false
set_option linter.all false
set_option maxRecDepth 100000
set_option maxHeartbeats 4000000
/-! max with a default, max and min of two, slices of lists, comparing lists and tuples of ints, lists of rows. -/
namespace Rt
open PySem PySem.Spec L2 PyProof.Rows
theorem reads_ints {h : Heap} : ∀ {us : List Value} {ns : List Int}, IntsAre us ns → ReadsAll h us (ns.map PyData.int) []
  | _, _, .nil => .nil
  | _, _, .cons n t r => ReadsAll.cons (as := []) (bs := []) (Reads.int n t) (reads_ints r)
theorem fold_max : ∀ (ns : List Int) (n : Int), (ns.foldl max n = n ∨ ns.foldl max n ∈ ns) ∧ n ≤ ns.foldl max n ∧ ∀ y ∈ ns, y ≤ ns.foldl max n
  | [], n => ⟨.inl rfl, Int.le_refl _, fun y hy => absurd hy (by simp)⟩
  | k :: ns, n => by
    obtain ⟨a, b, c⟩ := fold_max ns (max n k)
    rw [List.foldl_cons]
    refine ⟨?_, by omega, fun y hy => ?_⟩
    · rcases a with a | a
      · by_cases h : n ≤ k
        · exact .inr (by rw [a]; have : max n k = k := by omega
                         rw [this]; exact List.mem_cons_self)
        · exact .inl (by rw [a]; omega)
      · exact .inr (List.mem_cons_of_mem _ a)
    · rcases List.mem_cons.mp hy with z | z
      · omega
      · exact c y z
def rMaxDf (K : PySem.W.Frag) : List V → List V → Hp → VK → Prop := fun vs zs H Q => ∃ (a : Addr) (ns : List Int) (d : Int), vs = [.ref a] ∧ zs = [.int d] ∧ SqL K H a (ns.map V.int) ∧ (ns = [] → Q (.int d) H) ∧ ∀ m, m ∈ ns → (∀ y ∈ ns, y ≤ m) → Q (.int m) H
section
variable {X : Cx} (K : PySem.W.Frag)
theorem cr_maxDf (hc : X.calm = true) (hu : X.A.units + 64 < cLine) (hK : X.K = K := by rfl) : CallRK X (.builtin "max") [Str.ofString "default"] (rMaxDf K) := by
  subst hK
  intro pins s σ H vs zs us ws Q I rv rz h
  obtain ⟨a, ns, d, rfl, rfl, hs, q0, q⟩ := h
  obtain ⟨its, ri, hl, hz⟩ := I.list hs
  rw [Vals.ref1 rv]
  obtain ⟨w1, rfl, e1⟩ := vals1 rz
  obtain ⟨t, e2⟩ := (show ∃ t, w1 = Value.int d t from e1)
  subst e2
  refine PySem.W.max_list_default (xs := ns.map PyData.int) (I.ok.hd hc) hl.isList (reads_ints (by simpa using ri.ints)) ⟨?_, ?_⟩ (by rw [depI]; omega) (fun e h' tk k => ?_) (fun y ys i v h' tk bs e hv hr k => ?_)
  · intro x hx y hy
    obtain ⟨i, _, rfl⟩ := List.mem_map.mp hx
    obtain ⟨j, _, rfl⟩ := List.mem_map.mp hy
    rfl
  · intro x hx z
    obtain ⟨i, _, rfl⟩ := List.mem_map.mp hx
    cases z
  · exact ⟨.int d, H, I.kept k, ⟨t, rfl⟩, q0 (List.map_eq_nil_iff.mp e)⟩
  · cases ns with
    | nil => cases e
    | cons n ns =>
      rw [List.map_cons] at e
      cases e
      rw [PySem.W.maxD_ints] at hr
      obtain ⟨t2, e3⟩ : ∃ t2, v = Value.int (ns.foldl max n) t2 := by
        cases hr
        exact ⟨_, rfl⟩
      subst e3
      obtain ⟨a1, a2, a3⟩ := fold_max ns n
      refine ⟨.int (ns.foldl max n), H, I.kept k, ⟨t2, rfl⟩, q _ ?_ fun y hy => ?_⟩
      · rcases a1 with z | z
        · rw [z]; exact List.mem_cons_self
        · exact List.mem_cons_of_mem _ z
      · rcases List.mem_cons.mp hy with z | z
        · rw [z]; exact a2
        · exact a3 y z
def rMax2 : List V → Hp → VK → Prop := fun xs H Q => ∃ i j : Int, xs = [.int i, .int j] ∧ Q (.int (max i j)) H
def rMin2 : List V → Hp → VK → Prop := fun xs H Q => ∃ i j : Int, xs = [.int i, .int j] ∧ Q (.int (min i j)) H
theorem cr_max2 (hc : X.calm = true) : CallR X (.builtin "max") rMax2 := by
  intro pins s σ H vs us Q I r h
  obtain ⟨i, j, e, q⟩ := h
  refine call_max2 hc pins s σ H vs us Q I r ⟨i, j, e, ?_⟩
  have : (if j > i then j else i) = max i j := by split <;> omega
  rw [this]; exact q
theorem cr_min2 (hc : X.calm = true) : CallR X (.builtin "min") rMin2 := by
  intro pins s σ H vs us Q I r h
  obtain ⟨i, j, e, q⟩ := h
  refine call_min2 hc pins s σ H vs us Q I r ⟨i, j, e, ?_⟩
  have : (if j < i then j else i) = min i j := by split <;> omega
  rw [this]; exact q
end
theorem g_max2 {i j : Int} {H : Hp} {Q : VK} (h : Q (.int (max i j)) H) : rMax2 [.int i, .int j] H Q := ⟨i, j, rfl, h⟩
theorem g_min2 {i j : Int} {H : Hp} {Q : VK} (h : Q (.int (min i j)) H) : rMin2 [.int i, .int j] H Q := ⟨i, j, rfl, h⟩
theorem g_ckw {r : List V → List V → Hp → VK → Prop} {t tk : TA} {σ : L2.St} {H : Hp} {Q : VK} (h : t σ H fun vs H1 => tk σ H1 fun zs H2 => r vs zs H2 Q) : tCKw r t tk σ H Q := h
/-! ### slices of lists -/
theorem g_cut {K : PySem.W.Frag} {H : Hp} {Q : VK} {a : Addr} {xs : List V} {lo hi : Option Int} (hs : SqL K H a xs) (h : ∀ p H', H p = none → Same H H' → H' p = some (.lst (cutV xs lo hi)) → Q (.ref p) H') : rSlL K (.ref a) lo hi H Q :=
  ⟨a, xs, rfl, hs, fun p np => h p _ np (L2.Same.new np) upd_same⟩
theorem cut_lo {xs : List V} {k : Nat} (h : k ≤ xs.length) : cutV xs (some (k : Int)) none = xs.drop k := by
  unfold cutV
  rw [HT.sIx_none, HT.sIx_nat, Nat.min_eq_left h, List.take_of_length_le (by rw [List.length_drop]; omega)]
theorem cut_hi {xs : List V} {k : Nat} (h : k ≤ xs.length) : cutV xs none (some (k : Int)) = xs.take k := by
  unfold cutV
  rw [HT.sIx_none, HT.sIx_nat, Nat.min_eq_left h, List.drop_zero, Nat.sub_zero]
theorem cut_end {xs : List V} (h : 0 < xs.length) : cutV xs (some (-1)) none = xs.drop (xs.length - 1) := by
  unfold cutV
  rw [HT.sIx_none]
  have e : HT.sIx xs.length 0 (some (-1)) = xs.length - 1 := by
    unfold HT.sIx
    simp only [show ((-1 : Int) < 0) from by decide, if_true]
    omega
  rw [e, List.take_of_length_le (by rw [List.length_drop]; omega)]
theorem at_last {α : Type} {xs : List α} {v : α} (h : xs[xs.length - 1]? = some v) : atI xs (-1) = some v := by
  have hl : xs.length - 1 < xs.length := (List.getElem?_eq_some_iff.mp h).1
  unfold atI ixN
  rw [if_neg (by decide), if_pos (by omega)]
  show xs[((-1 : Int) + (xs.length : Int)).toNat]? = _
  rw [show ((-1 : Int) + (xs.length : Int)).toNat = xs.length - 1 by omega]
  exact h
/-! ### comparing -/
theorem eqvI : ∀ xs ys : List Int, PyData.eqvAll (xs.map PyData.int) (ys.map PyData.int) = decide (xs = ys)
  | [], [] => by simp [PyData.eqvAll]
  | [], y :: ys => by simp [PyData.eqvAll]
  | x :: xs, [] => by simp [PyData.eqvAll]
  | x :: xs, y :: ys => by
    rw [List.map_cons, List.map_cons, PyData.eqvAll, eqvI xs ys, PyData.eqv]
    by_cases a : x = y
    · by_cases b : xs = ys <;> simp [a, b]
    · have : (x == y) = false := by simpa using a
      rw [this, Bool.false_and]
      exact (decide_eq_false fun z => a (by injection z)).symm
theorem shI (xs : List Int) : SeqAt.shaped (.list (xs.map PyData.int)) = true ∧ SeqAt.shaped (.tuple (xs.map PyData.int)) = true := by
  have c1 : PyData.canLay0 (.list (xs.map PyData.int)) = true := by simp [PyData.canLay0, canI]
  have c2 : PyData.canLay0 (.tuple (xs.map PyData.int)) = true := by simp [PyData.canLay0, canI]
  constructor
  · unfold SeqAt.shaped; rw [c1]; simp [PyData.depth, depI]
  · unfold SeqAt.shaped; rw [c2]; simp [PyData.depth, depI]
theorem g_neT {K : PySem.W.Frag} {H : Hp} {Q : VK} {a b : Addr} {xs ys : List Int} (ha : H a = some (.tup (xs.map V.int))) (hb : H b = some (.tup (ys.map V.int))) (h : Q (.bl (!decide (xs = ys))) H) : rNeD K (.ref a) (.ref b) H Q :=
  ⟨_, _, .tup (SqT.of ha) (dpI xs), .tup (SqT.of hb) (dpI ys), (shI xs).2, (shI ys).2, by rw [PyData.eqv, eqvI]; exact h⟩
theorem g_eqL {K : PySem.W.Frag} {H : Hp} {Q : VK} {a b : Addr} {xs ys : List Int} (ha : SqL K H a (xs.map V.int)) (hb : SqL K H b (ys.map V.int)) (h : Q (.bl (decide (xs = ys))) H) : rEqD K (.ref a) (.ref b) H Q :=
  ⟨_, _, .lst ha (dpI xs), .lst hb (dpI ys), (shI xs).1, (shI ys).1, by rw [PyData.eqv, eqvI]; exact h⟩
/-! ### lists of rows -/
/-- the items are lists (b: tuples) of the ints f 0 .. f (n - 1), at addresses with N -/
def RA (N : Addr → Prop) (b : Bool) (H : Hp) (xs : List V) (n : Nat) (f : Nat → List Int) : Prop :=
  xs.length = n ∧ ∀ k : Nat, k < n → ∃ t : Addr, xs[k]? = some (V.ref t) ∧ N t ∧ H t = some (if b = true then .tup ((f k).map V.int) else .lst ((f k).map V.int))
section
variable {N M : Addr → Prop} {b : Bool} {H H' : Hp} {xs : List V} {n : Nat} {f g : Nat → List Int}
theorem RA.nil : RA N b H [] 0 f := ⟨rfl, fun k h => absurd h (Nat.not_lt_zero _)⟩
theorem RA.mono (h : RA N b H xs n f) (S : Same H H') : RA N b H' xs n f := ⟨h.1, fun k hk => let ⟨t, a, c, d⟩ := h.2 k hk; ⟨t, a, c, S _ _ d⟩⟩
theorem RA.weak (h : RA N b H xs n f) (w : ∀ t, N t → M t) : RA M b H xs n f := ⟨h.1, fun k hk => let ⟨t, a, c, d⟩ := h.2 k hk; ⟨t, a, w _ c, d⟩⟩
theorem RA.congr (h : RA N b H xs n f) (e : ∀ k, k < n → f k = g k) : RA N b H xs n g := ⟨h.1, fun k hk => let ⟨t, a, c, d⟩ := h.2 k hk; ⟨t, a, c, by rw [← e k hk]; exact d⟩⟩
theorem RA.upd {l : Addr} {o : HO} (h : RA N b H xs n f) (w : ∀ t, N t → t ≠ l) : RA N b (upd H l o) xs n f := ⟨h.1, fun k hk => let ⟨t, a, c, d⟩ := h.2 k hk; ⟨t, a, c, by rw [upd_ne (w t c)]; exact d⟩⟩
theorem RA.more {t : Addr} (h : RA N b H xs n f) (c : N t) (ht : H t = some (if b = true then .tup ((f n).map V.int) else .lst ((f n).map V.int))) : RA N b H (xs ++ [V.ref t]) (n + 1) f := by
  refine ⟨by rw [List.length_append, h.1]; rfl, fun k hk => ?_⟩
  by_cases e : k < n
  · obtain ⟨u, a, d, m⟩ := h.2 k e
    exact ⟨u, by rw [List.getElem?_append_left (by rw [h.1]; exact e)]; exact a, d, m⟩
  · have e2 : k = n := by omega
    subst e2
    exact ⟨t, by rw [List.getElem?_append_right (by rw [h.1]; exact Nat.le_refl _), h.1, Nat.sub_self]; rfl, c, ht⟩
theorem RA.drop (h : RA N b H xs n f) {j : Nat} (hj : j ≤ n) : RA N b H (xs.drop j) (n - j) (fun k => f (j + k)) :=
  ⟨by rw [List.length_drop, h.1], fun k hk => let ⟨t, a, c, d⟩ := h.2 (j + k) (by omega); ⟨t, by rw [List.getElem?_drop]; exact a, c, d⟩⟩
theorem RA.take (h : RA N b H xs n f) {j : Nat} (hj : j ≤ n) : RA N b H (xs.take j) j f :=
  ⟨by rw [List.length_take, h.1]; omega, fun k hk => let ⟨t, a, c, d⟩ := h.2 k (by omega); ⟨t, by rw [List.getElem?_take_of_lt hk]; exact a, c, d⟩⟩
end
/-- a list comprehension over a range that makes rows -/
theorem lc_rows {lo : Int} {n : Nat} {g : TG} {te : TE} {vs : List Nat} {σ : L2.St} {H1 : Hp} {D : Addr} {Qd : Hp → Prop} (f : Nat → List Int) (hD : H1 D = none) (sz : n ≤ 100000)
    (turn : ∀ (i : Nat) (H' : Hp), i < n → Same H1 H' → ∀ Q : VK, (∀ (t : Addr) (H2 : Hp), H' t = none → Same H' H2 → H2 t = some (.lst ((f i).map V.int)) → Q (.ref t) H2) → g (.int (lo + i)) (wipe σ vs) H' fun σ2 H2 => wipe σ2 vs = wipe σ vs ∧ te σ2 H2 Q)
    (done : ∀ H' xs, Same H1 H' → H' D = some (.lst xs) → RA (fun t => H1 t = none ∧ t ≠ D) false H' xs n f → Qd H') :
    ∃ W : Nat → Nat → Hp → Prop, (∃ m, W 0 m (upd H1 D (.lst []))) ∧ ∀ i m H, W i m H →
      ((Itr lo n).stop i H ∧ Qd H) ∨ ((Itr lo n).go i H ∧ ∃ Nx : Hp → Prop, (∀ H', Nx H' → ∃ m', m' < m ∧ W (i + 1) m' H') ∧ ∀ x H', (Itr lo n).yld i H x H' → g x (wipe σ vs) H' fun σ2 H2 => wipe σ2 vs = wipe σ vs ∧ tYes σ2 H2 fun b H3 =>
        if b = true then te σ2 H3 fun y H4 => ∃ acc, H4 D = some (.lst acc) ∧ acc.length < sizeLine ∧ Nx (upd H4 D (.lst (acc ++ [y]))) else Nx H3) := by
  refine lc_range (fun i H' => ∃ xs, Same H1 H' ∧ H' D = some (.lst xs) ∧ RA (fun t => H1 t = none ∧ t ≠ D) false H' xs i f) ⟨[], Same.new hD, upd_same, RA.nil⟩ ?_ ?_
  · rintro i H' hi ⟨xs, S1, hd, hR⟩
    refine turn i H' hi S1 _ fun t H2 nt S2 ht => ⟨xs, S2 _ _ hd, ?_, xs ++ [V.ref t], (S1.trans S2).mut hD, upd_same, ?_⟩
    · rw [hR.1]; exact slt1000 (by omega)
    · have ne : t ≠ D := fun z => by rw [z, hd] at nt; cases nt
      exact ((hR.mono S2).more ⟨S1.free nt, ne⟩ ht).upd fun t c => c.2
  · rintro H' ⟨xs, S1, hd, hR⟩
    exact done H' xs S1 hd hR
end Rt
set_option Elab.async false
set_option linter.all false
set_option maxRecDepth 100000
set_option maxHeartbeats 4000000
/-! isinstance(e, C) in an except suite, e an instance of an own exception class that has a dict. -/
namespace Rt
open PySem PySem.Spec L2 PyProof.Rows
open PySem.W (Frag findIn subIn InstAt)
section
variable {prog : Program} {w : World} {A : Around} {E : Value → Shared → Prop} {s : Shared} {K : Frag} {x D : Addr} {ox : Obj} {od : Obj}
theorem exd_class {Q : Option Value → Shared → Prop} (C : ExcC K D) (X : K.In s.heap) (I : InstAt s.heap x ox D (some od)) (h : Q (some (.ref D)) { s with toks := s.toks + 1 }) : wpAny (model prog w) A (getAttr? (.ref x) "__class__") Q E s := by
  have found : PySem.W.findObj K D (some od) "__class__" = some (.bind (.builtin "getset_descriptor.__get__") (.builtin "object.__class__")) :=
    PySem.W.findObj_data (by obtain ⟨cd, hc, _⟩ := PySem.W.any_some C.hd; rw [hc]; rfl) C.ha C.hn C.ht
  obtain ⟨hp, g, d, t, os⟩ := s
  have l0 := I.type (M := model prog w); have l1 := PySem.W.looks_findIn (M := model prog w) X C.hg
  have l2 := PySem.W.looks_findIn (M := model prog w) X C.hk; have l3 := PySem.W.looks_find (M := model prog w) X I found
  have below : PySem.W.Looks (model prog w) hp (isInstance (.ref x) (.type "BaseException")) true := l0.andThen (PySem.W.looks_subIn X C.hs)
  have z2 : (Value.builtin "BaseException.__getattribute__" == Value.builtin "object.__getattribute__") = false := by decide +kernel
  have z1 : (onTheHeap (Value.ref D) && Value.builtin "BaseException.__getattribute__" == Value.builtin "object.__getattribute__") = false := by rw [z2]; rfl
  unfold getAttr? getAttrBy? getAttrBy; refine wpAny_bind (wpAny_mkText (wpAny_bind (wpAny_attempt (wpAny_holding (wpAny_bind (l0.at (wpAny_bind (l1.at ?_))))))))
  show wpAny _ _ (if (onTheHeap (Value.ref D) && Value.builtin "BaseException.__getattribute__" == Value.builtin "object.__getattribute__") = true then _ else _) _ _ _; rw [z1, if_neg Bool.false_ne_true]
  unfold getAttrByItsOwn hookBefore; refine wpAny_bind ?_
  rw [if_pos (show onTheHeap (Value.ref D) = true from rfl)]; refine l2.at ?_
  refine wpAny_bind (wpAny_attempt (wpAny_holding ?_)); unfold callGetattribute
  rw [show (false && onTheHeap (Value.builtin "BaseException.__getattribute__")) = false from rfl, if_neg Bool.false_ne_true]; unfold boundAndCalled
  rw [PySem.F.excAttr_ValueError.ga.bind (.ref x)]; refine wpAny_bind (wpAny_pure ?_)
  show wpAny _ _ (call (.builtin "BaseException.__getattribute__") [.ref x, .str "__class__" t]) _ _ _; refine wpAny_call (codeAny_call_builtin PySem.F.excAttr_ValueError.ga.plain PySem.F.entry_bexc_ga ?_)
  refine @PySem.W.check_slot (model prog w) _ _ ⟨hp, g, d, t + 1, os⟩ "BaseException.__getattribute__" "BaseException" "__getattribute__" (.ref x) [.str "__class__" t] [] _ (by decide +kernel) (by decide +kernel) below (PySem.F.args_bexc_ga (.ref x) (.str "__class__" t)) ?_
  unfold Builtin.«object.__getattribute__»; refine wpAny_bind (wpAny_of_eq (a := ((Value.ref x : Value), [Value.str "__class__" t])) (by first | rfl | (simp only [slotArgs]; rfl)) ?_)
  refine wpAny_bind (wpAny_pure (wpAny_bind (l0.at (wpAny_bind (l3.at ?_)))))
  show wpAny _ _ (holding [Value.builtin "object.__class__"] (call (.builtin "getset_descriptor.__get__") [.builtin "object.__class__", .ref x, .ref D]) >>= ret) _ _ _; refine wpAny_bind (wpAny_holding (wpAny_call (PySem.W.class_get (s := ⟨hp, g, d, t + 1, os⟩) (ox := ox) (od := some od) X I C.hm ?_)))
  refine wpAny_pure ?_; show wpAny _ _ (handedOut (.ref D)) _ _ _
  rw [PySem.W.handedOut_of (v := .ref D) rfl]
  first | exact wpAny_pure (wpAny_pure h) | exact wpAny_pure h | exact wpAny_pure (wpAny_bind (wpAny_pure (wpAny_pure h)))
theorem exd_kit (C : ExcC K D) : PySem.W.KitX K (.ref x) (.ref D) (fun h => InstAt h x ox D (some od)) where
  ty := fun _ _ _ I => I.type
  it := fun _ _ X _ => by
    obtain ⟨cdD, e, _⟩ := PySem.W.any_some C.hd
    unfold PySem.W.clsIn at e; split at e
    · rename_i c1 d1 cd1 sl1 at1
      intro A' Q' E' s' k q; unfold isType loadHead
      exact wpAny_bind (wpAny_loadPart (k _ _ (X _ _ at1)) (wpAny_pure q))
    · cases e
  ne := fun h tp dd its n sl X at2 => by
    obtain ⟨cdD, e, _⟩ := PySem.W.any_some C.hd
    refine Bool.eq_false_iff.mpr fun q => ?_
    have same : D = tp := Value.ref.inj (beq_iff_eq.mp q)
    subst same; unfold PySem.W.clsIn at e
    split at e
    · rename_i c1 d1 cd1 sl1 at1
      exact absurd ((X _ _ at1).symm.trans at2) (by intro z; cases z)
    · cases e
  ca := fun X I k => exd_class C X I k
end
/-- isinstance(e, c), e the exception of the suite, its class D, its dict at dd -/
def rIsX (K : Frag) (a : Addr) (cls : Value) (d : Option Addr) : List V → Hp → VK → Prop := fun xs H Q => ∃ (D dd : Addr) (fs : List (Str × V)) (c : V) (cv : Value) (b : Bool), xs = [.ref a, c] ∧ cls = .ref D ∧ d = some dd ∧ H dd = some (.xd fs) ∧ ExcC K D ∧ (∀ u, RelV c u → u = cv) ∧ PySem.W.kitOne K (.ref D) cv = some b ∧ Q (.bl b) H
theorem call_isX {X : Cx} {a : Addr} {oe : Obj} {cls : Value} {d : Option Addr} {pn : List (Addr × Obj)} (K : Frag) (hz : Zc cls d oe) (hf : ∃ vs, oe.data = .fields vs) (hK : X.K = K := by rfl) : CallR (X.suite a ((a, oe) :: pn)) (.builtin "isinstance") (rIsX K a cls d) := by
  subst hK
  intro pins s σ H xs us Q I r h
  obtain ⟨D, dd, fs, c, cv, b, rfl, rfl, rfl, hdd, C, hcv, e, q⟩ := h
  cases r with
  | cons rx rr =>
    cases rr with
    | cons rt rr =>
      cases rr
      obtain rfl : _ = Value.ref a := rx
      have ec := hcv _ rt
      subst ec
      obtain ⟨here, _⟩ := I.pin (a, oe) (List.mem_append_left _ List.mem_cons_self)
      obtain ⟨vs, hd⟩ := hf
      have ok : ObjOk X.prog X.w H s.heap dd (.xd fs) := I.hok dd _ hdd
      obtain ⟨mA, hns, _⟩ := ok
      obtain ⟨od, ho, _⟩ := lookIn_ns hns
      have J : InstAt s.heap a oe D (some od) := ⟨here, hz.1, by unfold PySem.W.notCls; rw [hd] <;> rfl, by rw [hz.2]; exact ho⟩
      exact PySem.W.kia_one (exd_kit C) I.kIn J e (fun z => nomatch z) fun tk => ⟨.bl b, H, I.kept (t' := tk) fun _ _ z => z, rfl, q⟩
/-- the facts of a class, in one Bool -/
def isxB (K : Frag) (D : Addr) : Bool := decide (findIn K (.ref D) "__getattribute__" = some (some (.builtin "BaseException.__getattribute__"))) && (decide (findIn K (.ref D) "__getattr__" = some none) && (decide (subIn K (.ref D) (.type "BaseException") = some true) && (PySem.W.hasDictIn K D &&
  (decide (findIn K (.ref D) "__class__" = some (some (.builtin "object.__class__"))) && (decide (PySem.W.specialIn K (.builtin "object.__class__") "__get__" = some (some (.builtin "getset_descriptor.__get__"))) && (decide (PySem.W.takesIn K (.builtin "object.__class__") = some true) && decide (PySem.W.mroIn K D (.type "object") = some true)))))))
theorem isxB_ok {K : Frag} {D : Addr} (h : isxB K D = true) : ExcC K D := by
  unfold isxB at h
  simp only [Bool.and_eq_true, decide_eq_true_eq] at h
  obtain ⟨h1, h2, h3, h4, h5, h6, h7, h8⟩ := h
  exact ⟨h1, h2, h3, h4, h5, h6, h7, h8⟩
theorem g_isX {K : Frag} {a D dd : Addr} {fs : List (Str × V)} {c : Addr} {b : Bool} {H : Hp} {Q : VK} (hd : H dd = some (.xd fs)) (C : ExcC K D) (e : PySem.W.kitOne K (.ref D) (.ref c) = some b) (q : Q (.bl b) H) : rIsX K a (.ref D) (some dd) [.ref a, .ref c] H Q :=
  ⟨D, dd, fs, .ref c, .ref c, b, rfl, rfl, rfl, hd, C, fun u hu => hu, e, q⟩
theorem g_isXT {K : Frag} {a D dd : Addr} {fs : List (Str × V)} {n : String} {b : Bool} {H : Hp} {Q : VK} (hd : H dd = some (.xd fs)) (C : ExcC K D) (e : PySem.W.kitOne K (.ref D) (.type n) = some b) (q : Q (.bl b) H) : rIsX K a (.ref D) (some dd) [.ref a, .ty n] H Q :=
  ⟨D, dd, fs, .ty n, .type n, b, rfl, rfl, rfl, hd, C, fun u hu => hu, e, q⟩
end Rt
namespace Rt
open PySem PySem.Spec L2 PyProof.Rows
/-! ### xs[i], by values; an item of a list is replaced; lists of ints compared -/
def rGetL (K : PySem.W.Frag) : V → V → Hp → VK → Prop := fun o i H Q => ∃ (p : Addr) (xs : List V) (k : Nat) (v : V), o = .ref p ∧ i = .int (k : Int) ∧ SqL K H p xs ∧ xs[k]? = some v ∧ Q v H
theorem pget_ixK {X : Cx} (K : PySem.W.Frag) (h : X.K = K := by rfl) : PGet X (rGetL K) := by
  subst h
  intro pins s σ H o i ov iv Q I ro ri h
  obtain ⟨p, xs, k, v, rfl, rfl, hs, hk, q⟩ := h
  obtain rfl : ov = Value.ref p := ro
  obtain ⟨t, rfl⟩ := ri
  obtain ⟨its, r, pl, hz⟩ := I.list hs
  obtain ⟨w, ew, rw'⟩ := r.get hk
  have hl := r.length
  have hn := line63
  have lt := (List.getElem?_eq_some_iff.mp hk).1
  exact wpAny_getItem_list pl.isList (by omega) (by omega) (by simpa using ew) ⟨v, H, I, rw', q⟩
theorem g_setV {H : Hp} {l : Addr} {xs : List V} {i : Nat} {v : V} {R : Hp → Prop} (h : H l = some (.lst xs)) (hi : i < xs.length) (q : R (upd H l (.lst (xs.set i v)))) : rSetL (.ref l) (.int (i : Int)) v H R := by
  refine ⟨l, _, (i : Int), i, rfl, rfl, h, ?_, q⟩
  unfold ixN
  simp; omega
theorem g_augS {to ti te : TE} {tget : V → V → Hp → VK → Prop} {tip : TIp} {tset : TSet} {D : Ends} {σ : L2.St} {H : Hp} (h : to σ H fun o H1 => ti σ H1 fun i H2 => tget o i H2 fun x H3 => te σ H3 fun y H4 => tip x y H4 fun z H5 => tset o i z H5 fun H6 => D.nx σ H6) : tAugS to ti te tget tip tset D σ H := h
theorem g_neL {K : PySem.W.Frag} {H : Hp} {Q : VK} {a b : Addr} {xs ys : List Int} (ha : SqL K H a (xs.map V.int)) (hb : SqL K H b (ys.map V.int)) (h : Q (.bl (!decide (xs = ys))) H) : rNeD K (.ref a) (.ref b) H Q :=
  ⟨_, _, .lst ha (dpI xs), .lst hb (dpI ys), (shI xs).1, (shI ys).1, by rw [PyData.eqv, eqvI]; exact h⟩
end Rt
namespace Rt
open PySem PySem.Spec L2 PyProof.Rows
/-! ### e.f in an except suite, the class told by the reading -/
def tXfG (K : PySem.W.Frag) (a : Addr) (cls : Value) (d : Option Addr) (f : Str) (te : TE) : TE := fun σ H Q => te σ H fun x H1 => x = .ref a ∧ ∃ (C dd : Addr) (fs : List (Str × V)) (v : V), cls = .ref C ∧ XfC K C ∧ PySem.W.findIn K (.ref C) f = some none ∧ d = some dd ∧ H1 dd = some (.xd fs) ∧ fs.lookup f = some v ∧ Q v H1
theorem pe_xfG {X : Cx} {a : Addr} {oe : Obj} {cls : Value} {d : Option Addr} {pn : List (Addr × Obj)} {e : Expr} {te : TE} {pos : Pos} {n : Str} (K : PySem.W.Frag) (hz : Zc cls d oe) (hf : ∃ vs, oe.data = .fields vs) (he : PE (X.suite a ((a, oe) :: pn)) e te) (hb : attributeBase e n X.env (eval e X.env) = eval e X.env := by rfl) (hK : X.K = K := by rfl) :
    PE (X.suite a ((a, oe) :: pn)) (.Attribute e n pos) (tXfG K a cls d n te) := by
  subst hK
  refine ⟨fun pins s σ H Q I h => attr_of hb (thn (he.run pins s σ H _ I h) fun u s1 got => ?_)⟩
  obtain ⟨x, H1, I1, rx, ex, C, dd, fs, v, ec, xc, no, ed, ea, l, q⟩ := got
  subst ex ec ed
  obtain rfl : u = Value.ref a := rx
  obtain ⟨here, _⟩ := I1.pin (a, oe) (List.mem_append_left _ List.mem_cons_self); obtain ⟨vs, hd⟩ := hf
  have ok : ObjOk X.prog X.w H1 s1.heap dd (.xd fs) := I1.hok dd _ ea
  obtain ⟨mA, hns, hr⟩ := ok; obtain ⟨od, ho, hl⟩ := lookIn_ns hns
  obtain ⟨u, hu, ru⟩ := RelO.some_of (v := v) (o := mA n) (by rw [← l]; exact hr n)
  have at_ : PySem.W.InstAt s1.heap a oe C (some od) := ⟨here, hz.1, by unfold PySem.W.notCls; rw [hd] <;> rfl, by rw [hz.2]; exact ho⟩
  exact HandSPX.exc_get I1.kIn at_ xc.ga xc.gg xc.exC (PySem.W.findObj_own xc.hdC no rfl (by rw [hl, hu])) (handed_of ru) ⟨v, H1, I1.tok _, ru, q⟩
theorem g_xfG {K : PySem.W.Frag} {a C dd : Addr} {f : Str} {te : TE} {σ : L2.St} {H : Hp} {Q : VK} (h : te σ H fun x H1 => x = .ref a ∧ ∃ (C' dd' : Addr) (fs : List (Str × V)) (v : V), (Value.ref C : Value) = .ref C' ∧ XfC K C' ∧ PySem.W.findIn K (.ref C') f = some none ∧ (some dd : Option Addr) = some dd' ∧ H1 dd' = some (.xd fs) ∧ fs.lookup f = some v ∧ Q v H1) : tXfG K a (.ref C) (some dd) f te σ H Q := h
end Rt
set_option Elab.async false
set_option linter.all false
set_option maxRecDepth 100000
set_option maxHeartbeats 4000000
/-! The mathematics of heads: the beads in no train, and which of them stay heads in the next round. -/
namespace Rt
open PySem PySem.Spec L2
variable {r : Bool} {ss ls : List Int} {p q : Nat}
/-- the places in no train -/
def hdT (r : Bool) (ss : List Int) : List Nat := (List.range ss.length).filter fun q => decide (∀ p, p < ss.length → q ∉ trn r ss p)
theorem mem_hdT : q ∈ hdT r ss ↔ q < ss.length ∧ ∀ p, p < ss.length → q ∉ trn r ss p := by
  unfold hdT
  rw [List.mem_filter, List.mem_range, decide_eq_true_eq]
theorem hdT_asc : (hdT r ss).Pairwise (· < ·) := List.Pairwise.filter _ List.pairwise_lt_range
theorem asc_ext : ∀ {l m : List Nat}, l.Pairwise (· < ·) → m.Pairwise (· < ·) → (∀ x, x ∈ l ↔ x ∈ m) → l = m
  | [], [], _, _, _ => rfl
  | [], b :: m, _, _, h => absurd ((h b).mpr List.mem_cons_self) (by simp)
  | a :: l, [], _, _, h => absurd ((h a).mp List.mem_cons_self) (by simp)
  | a :: l, b :: m, hl, hm, h => by
    obtain ⟨l1, l2⟩ := List.pairwise_cons.mp hl
    obtain ⟨m1, m2⟩ := List.pairwise_cons.mp hm
    have e : a = b := by
      rcases List.mem_cons.mp ((h a).mp List.mem_cons_self) with z | z
      · exact z
      · rcases List.mem_cons.mp ((h b).mpr List.mem_cons_self) with y | y
        · exact y.symm
        · have := m1 a z; have := l1 b y; omega
    subst e
    rw [asc_ext l2 m2 fun x => ?_]
    constructor
    · intro hx
      rcases List.mem_cons.mp ((h x).mp (List.mem_cons_of_mem _ hx)) with z | z
      · have := l1 x hx; omega
      · exact z
    · intro hx
      rcases List.mem_cons.mp ((h x).mpr (List.mem_cons_of_mem _ hx)) with z | z
      · have := m1 x hx; omega
      · exact z
theorem trn_wk (h : q ∈ trn r ss p) : ss.getD q 0 < ss.getD p 0 := of_decide_eq_true (tw_mem (q := wk ss p) h)
theorem trn_fwd (h : q ∈ trn false ss p) : p < q := rn_ge q ((List.takeWhile_sublist _).subset h)
/-- something stronger before: in some train -/
theorem covered {x o : Nat} (hx : x < ss.length) (ho : o < ss.length) (hb : r = true ∨ o < x) (hs : ss.getD x 0 < ss.getD o 0) : ∃ p, p < ss.length ∧ x ∈ trn r ss p := by
  have hm : o ∈ bef r ss.length x := by
    unfold bef
    refine List.mem_append.mpr ?_
    by_cases c : o < x
    · exact Or.inl (List.mem_reverse.mpr (List.mem_range.mpr c))
    · have hr : r = true := hb.resolve_right c
      have ne : o ≠ x := fun z => by rw [z] at hs; omega
      rw [if_pos hr]
      exact Or.inr (List.mem_reverse.mpr (List.mem_map.mpr ⟨o - (x + 1), List.mem_range.mpr (by omega), by omega⟩))
  obtain ⟨i, hi, e⟩ := List.mem_iff_getElem.mp hm
  have key : ∀ m : Nat, (∀ j, j < m → ∀ y, (bef r ss.length x)[j]? = some y → ss.getD y 0 ≤ ss.getD x 0) ∨ ∃ p, p < ss.length ∧ x ∈ trn r ss p := by
    intro m
    induction m with
    | zero => exact .inl fun j h => absurd h (Nat.not_lt_zero _)
    | succ m ih =>
      rcases ih with h | h
      · by_cases c : ∀ y, (bef r ss.length x)[m]? = some y → ss.getD y 0 ≤ ss.getD x 0
        · refine .inl fun j hj y hy => ?_
          rcases Nat.lt_succ_iff_lt_or_eq.mp hj with z | z
          · exact h j z y hy
          · rw [z] at hy; exact c y hy
        · have ⟨y, hy, hys⟩ : ∃ y, (bef r ss.length x)[m]? = some y ∧ ¬ ss.getD y 0 ≤ ss.getD x 0 := by
            refine Decidable.byContradiction fun z => c fun y hy => Decidable.byContradiction fun w => z ⟨y, hy, w⟩
          exact .inr ⟨y, (bef_lt hx hy).2, (lord_step hx hy h).mpr (by omega)⟩
      · exact .inr h
  rcases key (i + 1) with h | h
  · have := h i (Nat.lt_succ_self _) o (by rw [List.getElem?_eq_getElem hi, e])
    omega
  · exact h
/-- each bead is a head or in the train of a head -/
theorem top_head : ∀ (m p : Nat), up ss p ≤ m → p < ss.length → p ∈ hdT r ss ∨ ∃ h, h ∈ hdT r ss ∧ p ∈ trn r ss h
  | 0, p, hu, hp => by
    refine .inl (mem_hdT.mpr ⟨hp, fun p1 h1 hm => ?_⟩)
    have := up_lt h1 (trn_wk hm)
    omega
  | m + 1, p, hu, hp => by
    by_cases c : ∀ p1, p1 < ss.length → p ∉ trn r ss p1
    · exact .inl (mem_hdT.mpr ⟨hp, c⟩)
    · have ⟨p1, h1, hm⟩ : ∃ p1, p1 < ss.length ∧ p ∈ trn r ss p1 := by
        refine Decidable.byContradiction fun z => c fun p1 h1 hm => z ⟨p1, h1, hm⟩
      have lt := up_lt h1 (trn_wk hm)
      rcases top_head m p1 (by omega) h1 with h | ⟨h, hh, h2⟩
      · exact .inr ⟨p1, h, hm⟩
      · exact .inr ⟨h, hh, trn_sub (mem_hdT.mp hh).1 h2 hm⟩
theorem trn_grow (P : Pos' ss ls) (hp : p < ss.length) (h : q ∈ trn r ss p) : q ∈ trn r (rnd r ls ss) p := by
  have up := tl_up (r := r) P hp
  have e1 := trn_tk (r := r) (ss := ss) (p := p)
  have e2 := trn_tk (r := r) (ss := rnd r ls ss) (p := p)
  rw [rnd_len] at e2
  rw [e1] at h
  rw [e2]
  have : (run r ss.length p).take (tl r ss p) = ((run r ss.length p).take (tl r (rnd r ls ss) p)).take (tl r ss p) := by rw [List.take_take, Nat.min_eq_left up]
  rw [this] at h
  exact List.mem_of_mem_take h
theorem next_head (P : Pos' ss ls) : q ∈ hdT r (rnd r ls ss) ↔ q ∈ hdT r ss ∧ ∀ o, o ∈ hdT r ss → (r = true ∨ o < q) → (rnd r ls ss).getD o 0 ≤ (rnd r ls ss).getD q 0 := by
  constructor
  · intro h
    obtain ⟨hq, hn⟩ := mem_hdT.mp h
    rw [rnd_len] at hq hn
    refine ⟨mem_hdT.mpr ⟨hq, fun p hp hm => hn p hp (trn_grow P hp hm)⟩, fun o ho hb => ?_⟩
    refine Decidable.byContradiction fun z => ?_
    obtain ⟨p, hp, hm⟩ := covered (r := r) (ss := rnd r ls ss) (x := q) (o := o) (by rw [rnd_len]; exact hq) (by rw [rnd_len]; exact (mem_hdT.mp ho).1) hb (by omega)
    rw [rnd_len] at hp
    exact hn p hp hm
  · rintro ⟨h, hk⟩
    obtain ⟨hq, hn⟩ := mem_hdT.mp h
    refine mem_hdT.mpr ⟨by rw [rnd_len]; exact hq, fun p hp hm => ?_⟩
    rw [rnd_len] at hp
    have s1 := trn_wk hm
    have f1 : r = true ∨ p < q := by
      cases r
      · exact .inr (trn_fwd hm)
      · exact .inl rfl
    rcases top_head (r := r) (ss := ss) (up ss p) p (Nat.le_refl _) hp with hd | ⟨h0, hd, h2⟩
    · have := hk p hd f1
      omega
    · have s2 := rnd_in P (mem_hdT.mp hd).1 h2
      have f2 : r = true ∨ h0 < q := by
        cases r
        · have := trn_fwd h2
          rcases f1 with z | z
          · cases z
          · exact .inr (by omega)
        · exact .inl rfl
      have := hk h0 hd f2
      omega
/-- which heads stay, by their places in the list of heads -/
def kept (r : Bool) (H : List Nat) (s : List Int) : List Nat := ((List.range H.length).filter fun k => decide (∀ j, j < H.length → (r = true ∨ j < k) → s.getD (H.getD j 0) 0 ≤ s.getD (H.getD k 0) 0)).map fun k => H.getD k 0
theorem asc_lt {H : List Nat} (h : H.Pairwise (· < ·)) {i j : Nat} (hij : i < j) (hj : j < H.length) : H.getD i 0 < H.getD j 0 := by
  rw [List.getD_eq_getElem?_getD, List.getD_eq_getElem?_getD, List.getElem?_eq_getElem (by omega), List.getElem?_eq_getElem hj]
  exact List.pairwise_iff_getElem.mp h i j (by omega) hj hij
theorem mem_at {H : List Nat} {x : Nat} : x ∈ H ↔ ∃ k, k < H.length ∧ H.getD k 0 = x := by
  constructor
  · intro h
    obtain ⟨k, hk, e⟩ := List.mem_iff_getElem.mp h
    exact ⟨k, hk, by rw [List.getD_eq_getElem?_getD, List.getElem?_eq_getElem hk]; exact e⟩
  · rintro ⟨k, hk, rfl⟩
    rw [List.getD_eq_getElem?_getD, List.getElem?_eq_getElem hk]
    exact List.getElem_mem hk
theorem kept_heads (P : Pos' ss ls) : kept r (hdT r ss) (rnd r ls ss) = hdT r (rnd r ls ss) := by
  refine asc_ext ?_ hdT_asc fun x => ?_
  · unfold kept
    rw [List.pairwise_map]
    have pw : ((List.range (hdT r ss).length).filter fun k => decide (∀ j, j < (hdT r ss).length → (r = true ∨ j < k) → (rnd r ls ss).getD ((hdT r ss).getD j 0) 0 ≤ (rnd r ls ss).getD ((hdT r ss).getD k 0) 0)).Pairwise (· < ·) := List.Pairwise.filter _ List.pairwise_lt_range
    refine pw.imp_of_mem fun {a b} _ hb hab => asc_lt hdT_asc hab ?_
    exact List.mem_range.mp (List.mem_filter.mp hb).1
  · rw [next_head P]
    unfold kept
    rw [List.mem_map]
    constructor
    · rintro ⟨k, hk, rfl⟩
      obtain ⟨k1, k2⟩ := List.mem_filter.mp hk
      have k1 := List.mem_range.mp k1
      have k2 := of_decide_eq_true k2
      refine ⟨mem_at.mpr ⟨k, k1, rfl⟩, fun o ho hb => ?_⟩
      obtain ⟨j, hj, rfl⟩ := mem_at.mp ho
      refine k2 j hj ?_
      rcases hb with z | z
      · exact .inl z
      · refine .inr (Nat.lt_of_not_le fun w => ?_)
        rcases Nat.lt_or_eq_of_le w with y | y
        · have := asc_lt (hdT_asc (r := r) (ss := ss)) y hj; omega
        · rw [y] at z; omega
    · rintro ⟨hx, hk⟩
      obtain ⟨k, k1, rfl⟩ := mem_at.mp hx
      refine ⟨k, List.mem_filter.mpr ⟨List.mem_range.mpr k1, decide_eq_true fun j hj hb => hk _ (mem_at.mpr ⟨j, hj, rfl⟩) ?_⟩, rfl⟩
      rcases hb with z | z
      · exact .inl z
      · exact .inr (asc_lt hdT_asc z k1)
/-- at the end the heads stay -/
theorem hdT_fix (P : Pos' ss ls) (e : rnd r ls (rnd r ls ss) = rnd r ls ss) : hdT r (rnd r ls ss) = hdT r ss := by
  have same : ∀ p, p < ss.length → trn r (rnd r ls ss) p = trn r ss p := fun p hp => by
    have a := rnd_at (r := r) (ls := ls) (ss := rnd r ls ss) (p := p) (by rw [rnd_len]; exact hp)
    rw [e, rnd_at hp, rch_sk, rch_sk, rnd_len] at a
    have tle : tl r (rnd r ls ss) p = tl r ss p := by
      have up := tl_up (r := r) P hp
      rcases Nat.lt_or_eq_of_le up with z | z
      · have l1 := tl_le (r := r) (ss := rnd r ls ss) (p := p)
        rw [rnd_len] at l1
        have := sk_lt (r := r) P hp z l1
        omega
      · exact z.symm
    rw [trn_tk, trn_tk, tle, rnd_len]
  unfold hdT
  rw [rnd_len]
  refine List.filter_congr fun x hx => ?_
  refine decide_eq_decide.mpr ⟨fun h p hp => by rw [← same p hp]; exact h p hp, fun h p hp => by rw [same p hp]; exact h p hp⟩
end Rt
set_option Elab.async false
set_option linter.all false
set_option maxRecDepth 100000
set_option maxHeartbeats 4000000
/-! The mathematics of opened rings and of the ends of rows: their books are those of the whole. -/
namespace Rt
open PySem PySem.Spec L2
variable {r : Bool} {ss ls : List Int} {p q h n : Nat}
theorem tw_map {α β : Type} {f : α → β} {q : β → Bool} : ∀ {l : List α}, (l.map f).takeWhile q = (l.takeWhile fun x => q (f x)).map f
  | [] => rfl
  | a :: l => by
    rw [List.map_cons, List.takeWhile_cons, List.takeWhile_cons, tw_map]
    cases q (f a) <;> rfl
theorem tw_pre {α : Type} {q : α → Bool} : ∀ {l : List α} {m : Nat}, (l.takeWhile q).length ≤ m → l.takeWhile q = (l.take m).takeWhile q
  | [], m, _ => by simp
  | a :: l, 0, hm => by
    have : (a :: l).takeWhile q = [] := List.eq_nil_of_length_eq_zero (by omega)
    rw [this]; rfl
  | a :: l, m + 1, hm => by
    rw [List.take_succ_cons, List.takeWhile_cons, List.takeWhile_cons]
    cases e : q a with
    | false => rfl
    | true =>
      rw [List.takeWhile_cons, e] at hm
      rw [if_pos rfl, if_pos rfl, tw_pre (l := l) (m := m) (by simpa using hm)]
/-- the place behind h by i, around -/
def cyc (n h i : Nat) : Nat := if h + i < n then h + i else h + i - n
theorem cyc_lt (hh : h < n) {i : Nat} (hi : i < n) : cyc n h i < n := by unfold cyc; split <;> omega
def rot (h : Nat) (l : List Int) : List Int := l.drop h ++ l.take h
theorem rot_len {l : List Int} : (rot h l).length = l.length := by unfold rot; rw [List.length_append, List.length_drop, List.length_take]; omega
theorem rot_at {l : List Int} {i : Nat} (hh : h ≤ l.length) (hi : i < l.length) : (rot h l).getD i 0 = l.getD (cyc l.length h i) 0 := by
  unfold rot cyc
  rw [List.getD_eq_getElem?_getD, List.getD_eq_getElem?_getD]
  by_cases c : h + i < l.length
  · rw [if_pos c, List.getElem?_append_left (by rw [List.length_drop]; omega), List.getElem?_drop]
  · rw [if_neg c, List.getElem?_append_right (by rw [List.length_drop]; omega), List.length_drop, List.getElem?_take_of_lt (by omega), show i - (l.length - h) = h + i - l.length by omega]
/-- a train carried over: the reach is the same -/
theorem rch_carry {s s' l l' : List Int} {r r' : Bool} {f : Nat → Nat} {i : Nat} (hl : l'.getD i 0 = l.getD (f i) 0) (ht : trn r s (f i) = (trn r' s' i).map f) (hf : ∀ j, j ∈ trn r' s' i → l'.getD j 0 = l.getD (f j) 0) : rch r' s' l' i = rch r s l (f i) := by
  rw [rch_eq, rch_eq, ht, hl]
  congr 1
  unfold sm
  rw [List.map_map]
  congr 1
  exact List.map_congr_left fun j hj => hf j hj
/-! ### a ring opened at a head -/
theorem trn_open (hh : h < ss.length) {i : Nat} (hi : i < ss.length) (no : h ∉ trn true ss (cyc ss.length h i)) : trn true ss (cyc ss.length h i) = (trn false (rot h ss) i).map (cyc ss.length h) := by
  have hp := cyc_lt hh hi
  have rl := run_len (r := true) hp
  rw [if_pos rfl] at rl
  have fl := run_len (r := false) (n := ss.length) hi
  rw [if_neg Bool.false_ne_true] at fl
  have at_ : ∀ k, k < ss.length - (i + 1) → (run true ss.length (cyc ss.length h i))[k]? = some (cyc ss.length h (i + 1 + k)) := fun k hk => by
    rw [run_at hp (by omega)]
    by_cases c1 : h + i < ss.length
    · rw [show cyc ss.length h i = h + i from if_pos c1]
      by_cases c2 : h + (i + 1 + k) < ss.length
      · rw [show cyc ss.length h (i + 1 + k) = _ from if_pos c2, if_pos (by omega)]; congr 1; omega
      · rw [show cyc ss.length h (i + 1 + k) = _ from if_neg c2, if_neg (by omega), if_pos rfl]; congr 1; omega
    · rw [show cyc ss.length h i = h + i - ss.length from if_neg c1, show cyc ss.length h (i + 1 + k) = _ from if_neg (show ¬ h + (i + 1 + k) < ss.length by omega), if_pos (by omega)]; congr 1; omega
  have pre : (run true ss.length (cyc ss.length h i)).take (ss.length - (i + 1)) = (run false ss.length i).map (cyc ss.length h) := by
    refine List.ext_getElem? fun k => ?_
    by_cases c : k < ss.length - (i + 1)
    · rw [List.getElem?_take_of_lt c, at_ k c, List.getElem?_map, run_at hi (by omega), if_pos (by omega)]; rfl
    · rw [List.getElem?_eq_none (by rw [List.length_take]; omega), List.getElem?_eq_none (by rw [List.length_map]; omega)]
  have few : tl true ss (cyc ss.length h i) ≤ ss.length - (i + 1) := by
    refine Nat.le_of_not_lt fun z => no ?_
    have t1 := tl_le (r := true) (ss := ss) (p := cyc ss.length h i)
    have hm : (run true ss.length (cyc ss.length h i))[ss.length - (i + 1)]? = some h := by
      rw [run_at hp (by omega)]
      by_cases c1 : h + i < ss.length
      · rw [show cyc ss.length h i = h + i from if_pos c1, if_neg (by omega), if_pos rfl]; congr 1; omega
      · rw [show cyc ss.length h i = h + i - ss.length from if_neg c1, if_pos (by omega)]; congr 1; omega
    rw [trn_tk]
    exact List.mem_iff_getElem?.mpr ⟨_, by rw [List.getElem?_take_of_lt z]; exact hm⟩
  have e1 : trn true ss (cyc ss.length h i) = ((run true ss.length (cyc ss.length h i)).take (ss.length - (i + 1))).takeWhile (wk ss (cyc ss.length h i)) := tw_pre few
  rw [e1, pre, tw_map]
  unfold trn
  rw [rot_len]
  congr 1
  refine tw_congr fun j hj => ?_
  have jl := run_lt hi j hj
  rw [wk_eq, wk_eq, rot_at (by omega) jl, rot_at (by omega) hi]
theorem rnd_open (P : Pos' ss ls) (hh : h ∈ hdT true ss) : rnd false (rot h ls) (rot h ss) = rot h (rnd true ls ss) := by
  obtain ⟨hl, no⟩ := mem_hdT.mp hh
  refine ext_getD (by rw [rnd_len, rot_len, rot_len, rnd_len]) fun i hi => ?_
  rw [rnd_len, rot_len] at hi
  have ll := P.len
  have hc := cyc_lt hl hi
  rw [rnd_at (by rw [rot_len]; exact hi), rot_at (by rw [rnd_len]; omega) (by rw [rnd_len]; exact hi), rnd_len, rnd_at hc]
  refine rch_carry (f := cyc ss.length h) ?_ (trn_open hl hi (no _ hc)) fun j hj => ?_
  · rw [rot_at (by omega) (by omega), ll]
  · have jl := trn_lt (ss := rot h ss) (by rw [rot_len]; exact hi) j hj
    rw [rot_len] at jl
    rw [rot_at (by omega) (by omega), ll]
theorem row_open (P : Pos' ss ls) : ∀ k, (∀ j, j < k → h ∈ hdT true (row true ls ss j)) → row false (rot h ls) (rot h ss) k = rot h (row true ls ss k)
  | 0, _ => rfl
  | k + 1, hj => by
    show rnd false (rot h ls) (row false (rot h ls) (rot h ss) k) = rot h (rnd true ls (row true ls ss k))
    rw [row_open P k fun j hk => hj j (by omega), rnd_open (P.row true k) (hj k (Nat.lt_succ_self _))]
/-- a head at the end has been a head in all rounds -/
theorem head_all {N : Nat} (P : Pos' ss ls) (hS : Stop r ls ss N) (hh : h ∈ hdT r (row r ls ss (max 1 N - 1))) : ∀ j, h ∈ hdT r (row r ls ss j) := by
  have down : ∀ m j, h ∈ hdT r (row r ls ss (j + m)) → h ∈ hdT r (row r ls ss j) := by
    intro m
    induction m with
    | zero => exact fun j hj => hj
    | succ m ih => exact fun j hj => ih j ((next_head (P.row r (j + m))).mp hj).1
  have up : ∀ m, h ∈ hdT r (row r ls ss (max 1 N - 1 + m)) := by
    intro m
    induction m with
    | zero => exact hh
    | succ m ih =>
      have st1 := hS.stay (max 1 N - 1 + m + 1 - N)
      have st2 := hS.stay (max 1 N - 1 + m + 2 - N)
      rw [show N + (max 1 N - 1 + m + 1 - N) = max 1 N - 1 + m + 1 by omega] at st1
      rw [show N + (max 1 N - 1 + m + 2 - N) = max 1 N - 1 + m + 2 by omega] at st2
      have e3 : rnd r ls (rnd r ls (row r ls ss (max 1 N - 1 + m))) = rnd r ls (row r ls ss (max 1 N - 1 + m)) := st2.trans st1.symm
      show h ∈ hdT r (rnd r ls (row r ls ss (max 1 N - 1 + m)))
      rw [hdT_fix (P.row r _) e3]
      exact ih
  intro j
  rcases Nat.lt_or_ge j (max 1 N - 1) with z | z
  · exact down (max 1 N - 1 - j) j (by rw [show j + (max 1 N - 1 - j) = max 1 N - 1 by omega]; exact hh)
  · have := up (j - (max 1 N - 1))
    rw [show max 1 N - 1 + (j - (max 1 N - 1)) = j by omega] at this
    exact this
/-! ### the end of a row -/
theorem run_end {k i : Nat} (hk : k ≤ n) (hi : i < n - k) : run false n (k + i) = (run false (n - k) i).map (fun j => k + j) := by
  unfold run
  simp only [Bool.false_eq_true, if_false, List.append_nil, List.map_map]
  rw [show n - (k + i + 1) = n - k - (i + 1) by omega]
  exact List.map_congr_left fun j _ => by show k + i + 1 + j = k + (i + 1 + j); omega
theorem drop_at {l : List Int} {k i : Nat} : (l.drop k).getD i 0 = l.getD (k + i) 0 := by rw [List.getD_eq_getElem?_getD, List.getD_eq_getElem?_getD, List.getElem?_drop]
theorem rnd_end {k : Nat} (hk : k ≤ ss.length) (hl : ls.length = ss.length) : rnd false (ls.drop k) (ss.drop k) = (rnd false ls ss).drop k := by
  refine ext_getD (by rw [rnd_len, List.length_drop, List.length_drop, rnd_len]) fun i hi => ?_
  rw [rnd_len, List.length_drop] at hi
  rw [rnd_at (by rw [List.length_drop]; exact hi), drop_at, rnd_at (by omega)]
  refine rch_carry (f := fun j => k + j) drop_at ?_ fun j _ => drop_at
  unfold trn
  rw [List.length_drop, run_end hk hi, tw_map]
  congr 1
  exact tw_congr fun j _ => by rw [wk_eq, wk_eq, drop_at, drop_at]
theorem row_end_ {k : Nat} (hk : k ≤ ss.length) (hl : ls.length = ss.length) : ∀ m, row false (ls.drop k) (ss.drop k) m = (row false ls ss m).drop k
  | 0 => rfl
  | m + 1 => by
    show rnd false (ls.drop k) (row false (ls.drop k) (ss.drop k) m) = (rnd false ls (row false ls ss m)).drop k
    rw [row_end_ hk hl m, rnd_end (by rw [row_len]; exact hk) (by rw [row_len]; exact hl)]
/-! ### equal strengths, equal books -/
theorem lstc_stay {f : Nat → Int} {N : Nat} (h : ∀ j, f (N + j) = f N) : ∀ k, lstc f (N + k) = lstc f N
  | 0 => rfl
  | k + 1 => by
    show lstc f (N + k + 1) = _
    unfold lstc
    rw [if_neg (fun z => z (by rw [show N + k + 1 = N + (k + 1) by omega, h, h])), lstc_stay h k]
    cases N <;> rfl
theorem book_le {f : Nat → Int} {N M : Nat} (hNM : N ≤ M) (h : ∀ j, f (N + j) = f N) : ((List.range (max 1 (lstc f N))).map fun i => f (min (i + 1) N)) = ((List.range (max 1 (lstc f M))).map fun i => f (min (i + 1) M)) := by
  have e := lstc_stay h (M - N)
  rw [show N + (M - N) = M by omega] at e
  rw [e]
  refine List.map_congr_left fun i _ => ?_
  by_cases c : i + 1 ≤ N
  · rw [Nat.min_eq_left c, Nat.min_eq_left (by omega)]
  · rw [Nat.min_eq_right (by omega)]
    have := h (min (i + 1) M - N)
    rw [show N + (min (i + 1) M - N) = min (i + 1) M by omega] at this
    exact this.symm
theorem book_ext {r' : Bool} {ss' ls' : List Int} {N N' p p' : Nat} (hS : Stop r ls ss N) (hS' : Stop r' ls' ss' N') (h : ∀ j, (row r' ls' ss' j).getD p' 0 = (row r ls ss j).getD p 0) : book r' ls' ss' N' p' = book r ls ss N p := by
  unfold book
  have ef : (fun k => (row r' ls' ss' k).getD p' 0) = fun k => (row r ls ss k).getD p 0 := funext h
  have e1 : ((List.range (max 1 (lstc (fun k => (row r' ls' ss' k).getD p' 0) N'))).map fun i => (row r' ls' ss' (min (i + 1) N')).getD p' 0) = ((List.range (max 1 (lstc (fun k => (row r ls ss k).getD p 0) N'))).map fun i => (row r ls ss (min (i + 1) N')).getD p 0) := by
    rw [ef]
    exact List.map_congr_left fun i _ => h _
  rw [e1]
  have a1 : ∀ j, (row r ls ss (N + j)).getD p 0 = (row r ls ss N).getD p 0 := fun j => by rw [hS.stay]
  have a2 : ∀ j, (row r ls ss (N' + j)).getD p 0 = (row r ls ss N').getD p 0 := fun j => by rw [← h, ← h, hS'.stay]
  rcases Nat.le_total N N' with z | z
  · exact (book_le (f := fun k => (row r ls ss k).getD p 0) z a1).symm
  · exact book_le (f := fun k => (row r ls ss k).getD p 0) z a2
end Rt
set_option Elab.async false
set_option linter.all false
set_option maxRecDepth 100000
set_option maxHeartbeats 4000000
/-! How late a change can come: Fibonacci's numbers, and the rows that reach them. -/
namespace Rt
open PySem PySem.Spec L2
variable {r : Bool} {ss ls : List Int} {p q : Nat}
def fb : Nat → Nat × Nat
  | 0 => (0, 1)
  | k + 1 => ((fb k).2, (fb k).1 + (fb k).2)
def F (k : Nat) : Nat := (fb k).1
theorem F_add (k : Nat) : F (k + 2) = F k + F (k + 1) := rfl
theorem F_two (k : Nat) : (fb k).2 = F (k + 1) := rfl
theorem F_mono1 : ∀ k : Nat, F k ≤ F (k + 1)
  | 0 => by decide
  | 1 => by decide
  | k + 2 => by
    have := F_mono1 k
    have := F_mono1 (k + 1)
    have := F_add k
    have := F_add (k + 1)
    have e : F (k + 2 + 1) = F (k + 1) + F (k + 1 + 1) := F_add (k + 1)
    omega
theorem F_pos : ∀ k : Nat, 1 ≤ F (k + 1)
  | 0 => by decide
  | k + 1 => Nat.le_trans (F_pos k) (F_mono1 (k + 1))
theorem F_lt1 (k : Nat) : F (k + 2) < F (k + 3) := by
  have e : F (k + 3) = F (k + 1) + F (k + 2) := F_add (k + 1)
  have := F_pos k
  omega
theorem F_mono {i j : Nat} (h : i ≤ j) : F i ≤ F j := by
  induction h with
  | refl => exact Nat.le_refl _
  | step _ ih => exact Nat.le_trans ih (F_mono1 _)
theorem F_lt {i j : Nat} (h : i < j) : F (i + 2) < F (j + 2) := Nat.lt_of_lt_of_le (F_lt1 i) (F_mono (by omega))
/-- the least total of a number -/
def lN (k : Nat) : Int := if k ≤ 1 then (k : Int) else (F (k + 2) : Int)
theorem lN_lt {i j : Nat} (h1 : 1 ≤ i) (h : i < j) : lN i < lN j := by
  unfold lN
  rw [if_neg (by omega : ¬ j ≤ 1)]
  by_cases c : i ≤ 1
  · rw [if_pos c]
    have := F_mono (i := 4) (j := j + 2) (by omega)
    have e : F 4 = 3 := by decide
    omega
  · rw [if_neg c]
    have := F_lt h
    omega
theorem lN_le {i j : Nat} (h1 : 1 ≤ i) (h : i ≤ j) : lN i ≤ lN j := by
  rcases Nat.lt_or_eq_of_le h with z | z
  · exact Int.le_of_lt (lN_lt h1 z)
  · rw [z]; exact Int.le_refl _
theorem lN_add {k : Nat} (h : 2 ≤ k) : lN (k + 2) = lN (k + 1) + lN k := by
  unfold lN
  rw [if_neg (by omega), if_neg (by omega), if_neg (by omega)]
  have e : F (k + 2 + 2) = F (k + 2) + F (k + 2 + 1) := F_add (k + 2)
  have e2 : F (k + 1 + 2) = F (k + 2 + 1) := rfl
  omega
/-- the greatest number whose least total is not greater -/
structure Top (t : Int) (M : Nat) : Prop where
  one : 1 ≤ M
  le : lN M ≤ t
  gt : t < lN (M + 1)
theorem Top.uniq {t : Int} {M N : Nat} (a : Top t M) (b : Top t N) : M = N := by
  have h1 := a.one
  have h2 := b.one
  rcases Nat.lt_trichotomy M N with h | h | h
  · have := lN_le (i := M + 1) (j := N) (by omega) h
    have := a.gt; have := b.le; omega
  · exact h
  · have := lN_le (i := N + 1) (j := M) (by omega) h
    have := b.gt; have := a.le; omega
theorem Top.ge {t : Int} {M k : Nat} (a : Top t M) (h : lN k ≤ t) : k ≤ M := Nat.le_of_not_lt fun z => by
  have := lN_le (i := M + 1) (j := k) (by omega) z
  have := a.gt; omega
theorem Top.lt {t : Int} {M k : Nat} (a : Top t M) (h : t < lN k) : M < k := Nat.lt_of_not_le fun z => by
  rcases Nat.eq_zero_or_pos k with e | e
  · subst e
    have e0 : lN 0 = 0 := rfl
    have := lN_le (i := 1) (j := M) (by omega) a.one
    have e1 : lN 1 = 1 := rfl
    have := a.le; omega
  have := lN_le (i := k) (j := M) e z
  have := a.le; omega
/-! ### growth -/
theorem trn_ix {s : List Int} {x : Nat} (h : x ∈ trn r s p) : ∃ m, m < tl r s p ∧ (run r s.length p)[m]? = some x := by
  rw [trn_tk] at h
  obtain ⟨m, hm⟩ := List.mem_iff_getElem?.mp h
  have hl := (List.getElem?_eq_some_iff.mp hm).1
  rw [List.length_take] at hl
  refine ⟨m, by omega, ?_⟩
  rw [List.getElem?_take_of_lt (by omega)] at hm
  exact hm
theorem ix_trn {s : List Int} {x m : Nat} (hm : m < tl r s p) (h : (run r s.length p)[m]? = some x) : x ∈ trn r s p := by
  rw [trn_tk]
  exact List.mem_iff_getElem?.mpr ⟨m, by rw [List.getElem?_take_of_lt hm]; exact h⟩
theorem grow (P : Pos' ss ls) (hp : p < ss.length) (k : Nat) (h : tl r (row r ls ss k) p < tl r (row r ls ss (k + 1)) p) :
    ∃ q, q < ss.length ∧ (row r ls ss k).getD p 0 ≤ (row r ls ss k).getD q 0 ∧ (row r ls ss (k + 1)).getD p 0 + (row r ls ss (k + 1)).getD q 0 ≤ (row r ls ss (k + 2)).getD p 0 ∧ (row r ls ss (k + 1)).getD q 0 < (row r ls ss (k + 1)).getD p 0 := by
  obtain ⟨q, e, a, b⟩ := chg_stp P hp k h
  have hq := run_lt hp q (List.mem_of_getElem? e)
  refine ⟨q, hq, a, ?_, b⟩
  have P0 := P.row r k
  have P1 := P.row r (k + 1)
  have hp0 : p < (row r ls ss k).length := by rw [row_len]; exact hp
  have hq0 : q < (row r ls ss k).length := by rw [row_len]; exact hq
  have hp1 : p < (row r ls ss (k + 1)).length := by rw [row_len]; exact hp
  have hq1 : q < (row r ls ss (k + 1)).length := by rw [row_len]; exact hq
  have e1 : (row r ls ss (k + 1)).getD p 0 = rch r (row r ls ss k) ls p := rnd_at hp0
  have e2 : (row r ls ss (k + 1)).getD q 0 = rch r (row r ls ss k) ls q := rnd_at hq0
  have e3 : (row r ls ss (k + 2)).getD p 0 = rch r (row r ls ss (k + 1)) ls p := rnd_at hp1
  have up : ∀ x o, o < ss.length → x ∈ trn r (row r ls ss k) o → x ∈ trn r (row r ls ss (k + 1)) o := fun x o ho hx => trn_grow P0 (by rw [row_len]; exact ho) hx
  have qin : q ∈ trn r (row r ls ss (k + 1)) p := ix_trn h (by rw [row_len]; exact e)
  have pno : p ∉ trn r (row r ls ss k) q := fun z => by
    have := trn_wk (up p q hq z)
    omega
  have dis : ∀ x, x ∈ trn r (row r ls ss k) p → x ∉ trn r (row r ls ss k) q := fun x h1 h2 => by
    obtain ⟨j, hj, xj⟩ := trn_ix h1
    obtain ⟨m, hm, xm⟩ := trn_ix h2
    rw [row_len] at xj xm
    have lp := run_len (r := r) hp
    have lq := run_len (r := r) hq
    have il := (List.getElem?_eq_some_iff.mp e).1
    have ml := (List.getElem?_eq_some_iff.mp xm).1
    have lp2 := run_le (r := r) hp
    have lq2 := run_le (r := r) hq
    rw [run_at hp (by omega)] at e xj
    rw [run_at hq (by omega)] at xm
    cases r
    · simp only [Bool.false_eq_true, if_false] at e xj xm lp lq
      split at e <;> split at xj <;> split at xm <;> simp only [Option.some.injEq, reduceCtorEq] at e xj xm
      omega
    · refine pno (ix_trn (m := ss.length - 2 - tl true (row true ls ss k) p) ?_ ?_)
      · simp only [if_true] at e xj xm lp lq
        split at e <;> split at xj <;> split at xm <;> simp only [Option.some.injEq] at e xj xm <;> omega
      · rw [row_len, run_at hq (by simp only [if_true] at lp; omega)]
        simp only [if_true] at e lp ⊢
        split at e <;> simp only [Option.some.injEq] at e <;> split <;> congr 1 <;> omega
  have qno : q ∉ trn r (row r ls ss k) p := fun z => by
    have := trn_wk z
    omega
  have key := sm_sub (ls := ls) (trn r (row r ls ss k) p ++ q :: trn r (row r ls ss k) q) (trn r (row r ls ss (k + 1)) p)
    (List.nodup_append.mpr ⟨trn_nd hp0, List.nodup_cons.mpr ⟨trn_self hq0, trn_nd hq0⟩, fun x hx y hy z => by
      subst z
      rcases List.mem_cons.mp hy with z | z
      · exact qno (by rw [← z]; exact hx)
      · exact dis x hx z⟩)
    (fun x hx => by
      rcases List.mem_append.mp hx with z | z
      · exact up x p hp z
      · rcases List.mem_cons.mp z with y | y
        · rw [y]; exact qin
        · exact trn_sub hp1 qin (up x q hq y)) (fun x hx => by have := P1.pos x (trn_lt hp1 x hx); omega)
  rw [sm_app, sm_cons] at key
  rw [e1, e2, e3, rch_eq, rch_eq, rch_eq]
  omega
theorem row_ge1 (P : Pos' ss ls) (hp : p < ss.length) (k : Nat) : 1 ≤ (row r ls ss (k + 1)).getD p 0 := by
  have hp0 : p < (row r ls ss k).length := by rw [row_len]; exact hp
  have e1 : (row r ls ss (k + 1)).getD p 0 = rch r (row r ls ss k) ls p := rnd_at hp0
  rw [e1, rch_eq]
  have := P.pos p hp
  have := sm_ge0 (ls := ls) (trn r (row r ls ss k) p) fun x hx => by have := (P.row r k).pos x (trn_lt hp0 x hx); omega
  omega
theorem late (P : Pos' ss ls) : ∀ (k p : Nat), p < ss.length → tl r (row r ls ss k) p < tl r (row r ls ss (k + 1)) p → (F (k + 3) : Int) ≤ (row r ls ss (k + 1)).getD p 0 ∧ (F (k + 4) : Int) ≤ (row r ls ss (k + 2)).getD p 0
  | 0, p, hp, h => by
    obtain ⟨q, hq, a, b, c⟩ := grow P hp 0 h
    have := row_ge1 (r := r) P hq 0
    have f3 : F (0 + 3) = 2 := by decide
    have f4 : F (0 + 4) = 3 := by decide
    omega
  | k + 1, p, hp, h => by
    obtain ⟨i1, i2⟩ := late P k p hp (chg_back P hp k h)
    obtain ⟨q, hq, a, b, c⟩ := grow P hp (k + 1) h
    have d := row_le (r := r) P hq k
    have e : F (k + 1 + 4) = F (k + 3) + F (k + 4) := F_add (k + 3)
    have e2 : F (k + 1 + 3) = F (k + 4) := rfl
    have b' : (row r ls ss (k + 2)).getD p 0 + (row r ls ss (k + 2)).getD q 0 ≤ (row r ls ss (k + 1 + 2)).getD p 0 := b
    have i2' : (F (k + 4) : Int) ≤ (row r ls ss (k + 1 + 1)).getD p 0 := i2
    have i1' : (F (k + 3) : Int) ≤ (row r ls ss (k + 1)).getD p 0 := i1
    omega
theorem sm_all : sm ls (List.range ls.length) = ls.sum := by
  unfold sm
  congr 1
  refine ext_getD (by rw [List.length_map, List.length_range]) fun i hi => ?_
  rw [List.length_map, List.length_range] at hi
  rw [List.getD_eq_getElem?_getD, List.getElem?_map, List.getElem?_range hi]; rfl
theorem row_le_sum (P : Pos' ss ls) (hp : p < ss.length) (k : Nat) : (row r ls ss (k + 1)).getD p 0 ≤ ls.sum := by
  have hp0 : p < (row r ls ss k).length := by rw [row_len]; exact hp
  have e1 : (row r ls ss (k + 1)).getD p 0 = rch r (row r ls ss k) ls p := rnd_at hp0
  have len := P.len
  have := sm_sub (ls := ls) (p :: trn r (row r ls ss k) p) (List.range ls.length) (List.nodup_cons.mpr ⟨trn_self hp0, trn_nd hp0⟩) (fun x hx => List.mem_range.mpr (by
    rcases List.mem_cons.mp hx with z | z
    · omega
    · have := trn_lt hp0 x z
      rw [row_len] at this; omega)) (fun x hx => by have := P.pos x (by have := List.mem_range.mp hx; omega); omega)
  rw [sm_cons, sm_all] at this
  rw [e1, rch_eq]
  omega
theorem sum_ge1 {l : List Int} (h : ∀ x ∈ l, 1 ≤ x) (h0 : 0 < l.length) : 1 ≤ l.sum := by
  cases l with
  | nil => cases h0
  | cons a l =>
    rw [List.sum_cons]
    have := h a List.mem_cons_self
    have := sum_ge (l := l) fun x hx => by have := h x (List.mem_cons_of_mem _ hx); omega
    omega
/-- the last round is not too late for the total -/
theorem stop_total {N : Nat} (P : Pos' ss ls) (h0 : 0 < ss.length) (hS : Stop r ls ss N) : lN N ≤ ls.sum := by
  have len := P.len
  have s1 : 1 ≤ ls.sum := sum_ge1 (fun x hx => by
    obtain ⟨i, hi, rfl⟩ := mem_getD hx
    exact P.pos i (by omega)) (by omega)
  unfold lN
  by_cases c : N ≤ 1
  · rw [if_pos c]; omega
  · rw [if_neg c]
    obtain ⟨k, rfl⟩ : ∃ k, N = k + 2 := ⟨N - 2, by omega⟩
    have ne := hS.mov (k + 1) (by omega)
    refine Decidable.byContradiction fun z => ne ?_
    refine ext_getD (by rw [row_len, row_len]) fun p hp => ?_
    rw [row_len] at hp
    refine Decidable.byContradiction fun y => z ?_
    have := (late P k p hp ((row_ne P hp k).mp y)).2
    have := row_le_sum (r := r) P hp (k + 1)
    have e : F (k + 2 + 2) = F (k + 4) := rfl
    have t : (row r ls ss (k + 1 + 1)).getD p 0 = (row r ls ss (k + 2)).getD p 0 := rfl
    omega
/-! ### the rows that reach them -/
def fil (m : Nat) : List Int := (List.range m).map fun i => if i = 0 then 2 else (F (i + 1) : Int)
theorem fil_len {m : Nat} : (fil m).length = m := by unfold fil; rw [List.length_map, List.length_range]
theorem fil_at {m i : Nat} (h : i < m) : (fil m).getD i 0 = if i = 0 then 2 else (F (i + 1) : Int) := by
  unfold fil
  rw [List.getD_eq_getElem?_getD, List.getElem?_map, List.getElem?_range h]; rfl
theorem fil_more {m : Nat} (h : 1 ≤ m) : fil (m + 1) = fil m ++ [(F (m + 1) : Int)] := by
  unfold fil
  rw [List.range_succ, List.map_append]
  show _ = _ ++ [_]
  congr 1
  simp only [List.map_cons, List.map_nil]
  rw [if_neg (by omega)]
theorem fil_sum : ∀ m : Nat, (fil (m + 1)).sum = (F (m + 3) : Int)
  | 0 => by decide
  | m + 1 => by
    rw [fil_more (by omega), List.sum_append, fil_sum m]
    have e : F (m + 1 + 3) = F (m + 2) + F (m + 3) := F_add (m + 2)
    show _ + ((F (m + 1 + 1) : Int) + 0) = _
    have e2 : F (m + 1 + 1) = F (m + 2) := rfl
    omega
theorem fil_ge {m : Nat} : ∀ x ∈ fil m, 1 ≤ x := fun x hx => by
  obtain ⟨i, hi, rfl⟩ := mem_getD hx
  rw [fil_len] at hi
  rw [fil_at hi]
  have := F_pos i
  split <;> omega
/-- what the rounds make of it -/
def filR (m k : Nat) : List Int := (List.range m).map fun i => if i = 0 then (F (k + 2) : Int) else (F (i + 1) : Int)
theorem filR_len {m k : Nat} : (filR m k).length = m := by unfold filR; rw [List.length_map, List.length_range]
theorem filR_at {m k i : Nat} (h : i < m) : (filR m k).getD i 0 = if i = 0 then (F (k + 2) : Int) else (F (i + 1) : Int) := by
  unfold filR
  rw [List.getD_eq_getElem?_getD, List.getElem?_map, List.getElem?_range h]; rfl
theorem run_row {n p i : Nat} (h : p + 1 + i < n) : (run false n p)[i]? = some (p + 1 + i) := by
  rw [run_at (by omega) (by omega), if_pos h]
theorem trn_nil {s : List Int} (h : p + 1 < s.length → s.getD p 0 ≤ s.getD (p + 1) 0) (hp : p < s.length) : trn false s p = [] := by
  unfold trn
  by_cases c : p + 1 < s.length
  · have e := run_row (n := s.length) (p := p) (i := 0) (by omega)
    exact tw_stop (i := 0) (fun y hy => by simp at hy) e (decide_eq_false (by have := h c; simp only [Nat.add_zero]; omega))
  · have e : run false s.length p = [] := List.length_eq_zero_iff.mp (by rw [run_len hp]; simp only [Bool.false_eq_true, if_false]; omega)
    rw [e]; rfl
theorem rch_nil {s : List Int} (h : p + 1 < s.length → s.getD p 0 ≤ s.getD (p + 1) 0) (hp : p < s.length) : rch false s ls p = ls.getD p 0 := by
  rw [rch_eq, trn_nil h hp]
  show _ + sm ls [] = _
  unfold sm; simp
theorem fil_one {m : Nat} (h : 1 ≤ m) : row false (fil m) (List.replicate m 0) 1 = filR m 1 := by
  refine ext_getD (by rw [row_len, List.length_replicate, filR_len]) fun i hi => ?_
  rw [row_len, List.length_replicate] at hi
  show (rnd false (fil m) (List.replicate m 0)).getD i 0 = _
  rw [rnd_at (by rw [List.length_replicate]; exact hi), rch_nil (fun c => by rw [List.length_replicate] at c; rw [getD_rep c, getD_rep (by omega)]; exact Int.le_refl _) (by rw [List.length_replicate]; exact hi), filR_at hi, fil_at hi]
  have e : F (1 + 2) = 2 := by decide
  rw [e]; rfl
theorem fil_sk {m : Nat} : ∀ k : Nat, k < m → (fil m).getD 0 0 + sm (fil m) ((run false m 0).take k) = (F (k + 3) : Int)
  | 0, h => by
    rw [fil_at h, List.take_zero]
    show (2 : Int) + sm _ [] = _
    unfold sm
    have e : F (0 + 3) = 2 := by decide
    rw [e]; rfl
  | k + 1, h => by
    have e := run_row (n := m) (p := 0) (i := k) (by omega)
    rw [take_more e, sm_app, ← Int.add_assoc, fil_sk k (by omega)]
    have e2 : sm (fil m) [0 + 1 + k] = (F (k + 2) : Int) := by
      unfold sm
      simp only [List.map_cons, List.map_nil, List.sum_cons, List.sum_nil]
      rw [fil_at (by omega), if_neg (by omega)]
      have : 0 + 1 + k + 1 = k + 2 := by omega
      rw [this]; omega
    rw [e2]
    have e3 : F (k + 1 + 3) = F (k + 2) + F (k + 3) := F_add (k + 2)
    omega
theorem fil_step {m k : Nat} (h1 : 1 ≤ k) (h : k < m) : rnd false (fil m) (filR m k) = filR m (k + 1) := by
  refine ext_getD (by rw [rnd_len, filR_len, filR_len]) fun i hi => ?_
  rw [rnd_len, filR_len] at hi
  rw [rnd_at (by rw [filR_len]; exact hi), filR_at hi]
  by_cases c : i = 0
  · subst c
    rw [if_pos rfl, rch_sk]
    have lr := run_len (r := false) (n := m) (p := 0) (by omega)
    simp only [Bool.false_eq_true, if_false] at lr
    have et : tl false (filR m k) 0 = k := by
      unfold tl trn
      rw [filR_len]
      have wkt : ∀ y ∈ (run false m 0).take k, wk (filR m k) 0 y = true := fun y hy => by
        obtain ⟨j, hj⟩ := List.mem_iff_getElem?.mp hy
        have hjl := (List.getElem?_eq_some_iff.mp hj).1
        rw [List.length_take] at hjl
        rw [List.getElem?_take_of_lt (by omega), run_row (by omega)] at hj
        cases hj
        refine decide_eq_true ?_
        rw [filR_at (by omega), filR_at (by omega), if_neg (by omega), if_pos rfl]
        have := F_lt (i := j) (j := k) (by omega)
        have e : F (0 + 1 + j + 1) = F (j + 2) := congrArg F (by omega)
        omega
      by_cases d : k + 1 < m
      · rw [tw_stop wkt (run_row (n := m) (p := 0) (i := k) (by omega)) (decide_eq_false (by
          rw [filR_at (by omega), filR_at (by omega), if_neg (by omega), if_pos rfl]
          have e : F (0 + 1 + k + 1) = F (k + 2) := congrArg F (by omega)
          omega)), List.length_take]
        omega
      · have e : (run false m 0).take k = run false m 0 := List.take_of_length_le (by omega)
        rw [e] at wkt
        rw [tw_all wkt]; omega
    unfold sk
    rw [et, filR_len, fil_sk k h]
  · rw [if_neg c, rch_nil (fun d => by
      rw [filR_len] at d
      rw [filR_at hi, filR_at d, if_neg c, if_neg (by omega)]
      have := F_mono1 (i + 1)
      omega) (by rw [filR_len]; exact hi), fil_at hi, if_neg c]
theorem fil_row {m : Nat} : ∀ k : Nat, k < m → row false (fil m) (List.replicate m 0) (k + 1) = filR m (k + 1)
  | 0, h => fil_one h
  | k + 1, h => by
    show rnd false (fil m) (row false (fil m) (List.replicate m 0) (k + 1)) = _
    rw [fil_row k (by omega), fil_step (by omega) h]
theorem fil_moves {m k : Nat} (h : k < m) : (row false (fil m) (List.replicate m 0) (k + 1)).getD 0 0 ≠ (row false (fil m) (List.replicate m 0) k).getD 0 0 := by
  rw [fil_row k h, filR_at (by omega), if_pos rfl]
  cases k with
  | zero =>
    show _ ≠ (List.replicate m (0 : Int)).getD 0 0
    rw [getD_rep (by omega)]
    have := F_pos 2
    have e : F (0 + 1 + 2) = F (2 + 1) := rfl
    omega
  | succ k =>
    rw [fil_row k (by omega), filR_at (by omega), if_pos rfl]
    have := F_lt (i := k + 1) (j := k + 1 + 1) (by omega)
    omega
/-- what is built of a total -/
def filled (t : Int) (m : Nat) : List Int := if m = 1 then [t] else if (F (m + 2) : Int) < t then (t - (F (m + 2) : Int)) :: fil m else fil m
theorem filled_ok {t : Int} {m : Nat} (a : Top t m) : (filled t m).sum = t ∧ (∀ x ∈ filled t m, 1 ≤ x) ∧ 1 ≤ (filled t m).length ∧ (filled t m).length ≤ m + 1 := by
  have h1 := a.one
  have hle := a.le
  have t1 : 1 ≤ t := by
    have := lN_le (i := 1) (j := m) (by omega) h1
    have e1 : lN 1 = 1 := rfl
    omega
  unfold filled
  by_cases c : m = 1
  · rw [if_pos c]
    exact ⟨by simp, fun x hx => by rw [List.mem_singleton.mp hx]; exact t1, Nat.le_refl _, by simp⟩
  · rw [if_neg c]
    have es : (fil m).sum = (F (m + 2) : Int) := by
      obtain ⟨k, rfl⟩ : ∃ k, m = k + 1 := ⟨m - 1, by omega⟩
      exact fil_sum k
    unfold lN at hle
    rw [if_neg (by omega)] at hle
    by_cases d : (F (m + 2) : Int) < t
    · rw [if_pos d]
      refine ⟨by rw [List.sum_cons, es]; omega, fun x hx => ?_, by simp, by simp [fil_len]⟩
      rcases List.mem_cons.mp hx with z | z
      · omega
      · exact fil_ge x z
    · rw [if_neg d]
      exact ⟨by omega, fil_ge, by rw [fil_len]; omega, by rw [fil_len]; omega⟩
theorem filled_stop {t : Int} {m N : Nat} (a : Top t m) (hS : Stop false (filled t m) (List.replicate (filled t m).length 0) N) : N = m := by
  obtain ⟨es, ge, l1, l2⟩ := filled_ok a
  have P : Pos' (List.replicate (filled t m).length 0) (filled t m) := ⟨by rw [List.length_replicate], fun o ho => ge _ (getD_mem (by rw [List.length_replicate] at ho; exact ho))⟩
  have up : N ≤ m := a.ge (by have := stop_total P (by rw [List.length_replicate]; exact l1) hS; omega)
  refine Nat.le_antisymm up (Nat.le_of_not_lt fun lt => ?_)
  have fix := hS.fix
  unfold filled at fix
  by_cases c : m = 1
  · rw [if_pos c] at fix
    subst c
    have z : N = 0 := by omega
    subst z
    have e1 : row false [t] (List.replicate ([t] : List Int).length 0) (0 + 1) = [t] := by
      show [t + ([] : List Int).sum] = [t]
      simp
    rw [e1] at fix
    have e0 : row false [t] (List.replicate ([t] : List Int).length 0) 0 = [0] := rfl
    rw [e0] at fix
    have t1 : lN 1 ≤ t := a.le
    have e2 : lN 1 = 1 := rfl
    have : t = 0 := by simpa using fix
    omega
  · rw [if_neg c] at fix
    by_cases d : (F (m + 2) : Int) < t
    · rw [if_pos d] at fix
      have e := congrArg (fun l => (l.drop 1).getD 0 0) fix
      have r1 := row_end_ (ss := List.replicate ((t - (F (m + 2) : Int)) :: fil m).length 0) (ls := (t - (F (m + 2) : Int)) :: fil m) (k := 1) (by rw [List.length_replicate]; simp) (by rw [List.length_replicate])
      simp only [← r1] at e
      have e2 : (List.replicate ((t - (F (m + 2) : Int)) :: fil m).length (0 : Int)).drop 1 = List.replicate m 0 := by
        rw [List.length_cons, fil_len]; rfl
      rw [e2] at e
      exact fil_moves lt e
    · rw [if_neg d, fil_len] at fix
      exact fil_moves lt (congrArg (fun l => l.getD 0 0) fix)
/-! ### each bead's rows -/
theorem clocked {N k : Nat} (P : Pos' ss ls) (hp : p < ss.length) (h : (row r ls ss (k + 3)).getD p 0 ≠ (row r ls ss (k + 2)).getD p 0) : (row r ls ss (k + 2)).getD p 0 ≠ (row r ls ss (k + 1)).getD p 0 :=
  (row_ne P hp k).mpr (chg_back P hp k ((row_ne P hp (k + 1)).mp h))
end Rt
set_option Elab.async false
set_option linter.all false
set_option maxRecDepth 100000
set_option maxHeartbeats 4000000
/-! The place of a number in a list; a pair of names set at once; the join of a branch. -/
namespace Rt
open PySem PySem.Spec L2
section
variable {X : Cx} (K : PySem.W.Frag)
variable {o : Expr} {ta : TE} {t : TA} {apos cpos : Pos} {es : List Expr}
theorem pe_ixof {e : Expr} (ho : PE X o ta) (ha : PA X (e :: es) t) (h : X.K = K := by rfl)
    (hbase : attributeBase o "index" X.env (eval o X.env) = eval o X.env := by rfl)
    (hfew : ((backTo cpos (starEach (e :: es) X.env)).all (fun x => !x.1) && (backToKw cpos (keywordEach [] X.env)).all (fun x => x.1.isSome)
      && decide ((e :: es).length + ([] : List Keyword).length + (if ([] : List Keyword).isEmpty then 0 else 1) < 30)) = true := by rfl)
    (hline : (apos.endLine == cpos.line) = true := by rfl) (hs : starEach (e :: es) X.env = (false, eval e X.env) :: starEach es X.env := by rfl) (hplain : (backTo cpos (starEach es X.env)).any (·.1) = false := by rfl) :
    PE X (.Call (.Attribute o "index" apos) (e :: es) [] cpos) (tBM K "list" (rIndex K) ta t) := by
  subst h; exact pe_bm PySem.F.plainAttrs_list PySem.F.slot_list_index PySem.F.type_list_index mt_index ho ha hbase hfew hline hs hplain
end
section
variable {X : Cx} {CX : CXT} {k : Nat} {x : Str} {ps : List Str} {sp : Sp} {E : XK} {p pos : Pos}
theorem pe_callD0 (D : DefOk X.prog X.w X.K X.mg X.base CX k x ps sp) (hr : Room k X.A) (hx : Passes CX X E) (hg : Gl X x := by rfl) (hdb : (x == ("__debug__" : Str)) = false := by decide) : PE X (.Call (.Name x p) [] [] pos) (tCall sp [] E tNil) := by
  obtain ⟨f, fd, a, b, c, d⟩ := D.ex
  exact pe_call0 c hr hg a b d .nil hx hdb
end
theorem flatI : ∀ ns : List Int, (ns.map V.int).all flatV = true := fun ns => List.all_eq_true.mpr fun x hx => by
  obtain ⟨i, _, rfl⟩ := List.mem_map.mp hx
  rfl
theorem first_at : ∀ {ns : List Int} {k : Int}, k ∈ ns → ∃ j, j < ns.length ∧ ns.getD j 0 = k ∧ ∀ m, m < j → ns.getD m 0 ≠ k
  | [], _, h => by cases h
  | a :: ns, k, h => by
    by_cases c : a = k
    · exact ⟨0, by simp, by simpa using c, fun m hm => absurd hm (Nat.not_lt_zero _)⟩
    · rcases List.mem_cons.mp h with z | z
      · exact absurd z.symm c
      · obtain ⟨j, h1, h2, h3⟩ := first_at z
        refine ⟨j + 1, by simpa using h1, by simpa using h2, fun m hm => ?_⟩
        cases m with
        | zero => simpa using c
        | succ m => simpa using h3 m (by omega)
theorem eqVI (i j : Int) : eqV (.int i) (.int j) = decide (i = j) := by
  by_cases c : i = j
  · subst c; simp [eqV]
  · simp [eqV, c]
theorem g_ixof {K : PySem.W.Frag} {H : Hp} {Q : VK} {a : Addr} {ns : List Int} {k : Int} (hs : SqL K H a (ns.map V.int)) (hk : k ∈ ns) (q : ∀ j : Nat, j < ns.length → ns.getD j 0 = k → Q (.int (j : Int)) H) : rIndex K (.ref a) [.int k] H Q := by
  obtain ⟨j, h1, h2, h3⟩ := first_at hk
  have at_ : ∀ m, m < ns.length → (ns.map V.int)[m]? = some (.int (ns.getD m 0)) := fun m hm => by
    rw [List.getElem?_map, List.getElem?_eq_getElem hm, List.getD_eq_getElem?_getD, List.getElem?_eq_getElem hm]; rfl
  refine ⟨a, _, .int k, j, .int (ns.getD j 0), rfl, rfl, hs, rfl, flatI ns, at_ j h1, by rw [eqVI]; exact decide_eq_true h2, fun m z hm hz => ?_, q j h1 h2⟩
  rw [at_ m (by omega)] at hz
  cases hz
  rw [eqVI]
  exact decide_eq_false (h3 m hm)
theorem g_join {D : Ends} {σ : L2.St} {H : Hp} {t : TS} (R : L2.St → Hp → Prop) (h1 : ∀ D' : Ends, (∀ σ' H', R σ' H' → D'.nx σ' H') → t D' σ H) (h : ∀ σ' H', R σ' H' → D.nx σ' H') : t D σ H := h1 D h
end Rt
set_option Elab.async false
set_option linter.all false
set_option maxRecDepth 100000
set_option maxHeartbeats 4000000
/-! A set of a list of numbers; sorted; a thing in a tuple of things of any depth. -/
namespace Rt
open PySem PySem.Spec PyProof.Rows L2 SS
/-- the empty set object, as it is laid -/
abbrev o0 (w : World) : Obj := { cls := .type "set", dict := none, data := .set #[] 0 (.fresh 0 0 (!w.params.followText "set-order")) }
section
variable {P : Program} {w : World} {A : Around} {E : Value → Shared → Prop} {s : Shared}
set_option maxHeartbeats 3200000 in
theorem set_of_list {l : Addr} {its : Array Value} (ns : List Int) {Q : Value → Shared → Prop} (hh : A.handled = none) (hl : s.heap.IsList l its) (hit : IntsAre its.toList ns) (hb : ns.length + 1 < scanBound)
    (h : ∀ (h' : Heap) (tk c : Nat), SetR w h' s.heap.objs.size (fun j => decide (j ∈ ns)) c → c ≤ ns.length → (∀ b o, s.heap.get? b = some o → h'.get? b = some o) → Q (.ref s.heap.objs.size) { s with heap := h', toks := tk }) :
    wpAny (model P w) A (call (.type "set") [.ref l]) Q E s := by
  have hsz : its.size = ns.length := by have q := IntsAre.length hit; rw [Array.length_toList] at q; exact q
  obtain ⟨c, tl, hmro⟩ := F.called_set.mro; have hmade := F.called_set.made; have hsub := F.called_set.sub
  refine wpAny_call (codeAny_of_tree ?_); show wpAny _ _ (callAny (.type "set") _) _ _ _
  refine wpAny_pure ⟨Code.quiet_builtin _ (by decide +kernel), codeAny_builtin F.entry_type_call ?_⟩; rw [Around.under_plain (weight_type_call_type "set" [.ref l] []) rfl]
  have h1 := F.called_set.notType; have h2 := F.called_set.canCreate; have hct := F.typeCall_set_1 (.ref l)
  repeat (any_goals (first | assumption | wp_step))
  refine codeAny_mono (code_set_led1 (.ref l) (E := E) (Q₁ := fun obj s₁ => obj = .ref s.heap.objs.size ∧ s₁ = { s with heap := s.heap.push (o0 w) }) ⟨rfl, rfl⟩) fun r s₁ hr => ?_
  cases r with
  | error e => exact hr
  | ok fl =>
    cases fl with
    | ret obj =>
      obtain ⟨rfl, rfl⟩ := hr
      have hS : (s.heap.push (o0 w)).get? s.heap.objs.size = some (o0 w) := Heap.get?_push_size _ rfl
      have hT : Shared.TypeIs { s with heap := s.heap.push (o0 w) } (.ref s.heap.objs.size) "set" := ⟨_, hS, rfl⟩
      have hli := F.called_set.init.lookup; have hbi := F.called_set.init.bind (.ref s.heap.objs.size)
      repeat (any_goals (first | assumption | wp_step))
      refine codeAny_mono (codeAny_call_builtin (R := wants (fun r s₂ => r = .none ∧ ∃ h' tk c, s₂ = { s with heap := h', toks := tk } ∧ SetR w h' s.heap.objs.size (fun j => decide (j ∈ ns)) c ∧ c ≤ ns.length ∧ (∀ b o, s.heap.get? b = some o → h'.get? b = some o)) E)
        F.called_set.init.plain F.entry_set_init (check_set_init_1 hT ?_)) fun r₂ s₂ hr₂ => ?_
      · obtain ⟨⟨oc, od, oda, osl⟩, hol, hcl, nl, hdl⟩ := hl
        simp only at hcl hdl; subst hcl; subst hdl
        have hol' : (s.heap.push (o0 w)).get? l = some { cls := .type "list", dict := od, data := .seq its nl, slots := osl } := Heap.get?_push_of_some _ hol
        have hsls := F.sub_list_set; have hslf := F.sub_list_frozenset; have hne : (Value.type "list" == Value.type "dict") = false := by decide
        have hl1 : (s.heap.push (o0 w)).IsList l its := ⟨_, hol', rfl, nl, rfl⟩
        unfold Builtin.«set.__init__» noKeywords Builtin.Frozenset.updateFrom; generalize hPI : pyIter = PI; wp_walk; subst hPI
        refine wpAny_pyIter_list hl1 ?_; refine wpAny_bind (wpAny_runValue ?_)
        have hlS : l < s.heap.objs.size := Heap.lt_size hol; have hh3 : A.in1.in1.in1.handled = none := by simp [hh]
        have hneI : l ≠ (s.heap.push (o0 w)).objs.size := by rw [Heap.size_push]; exact Nat.ne_of_lt (Nat.lt_succ_of_lt hlS)
        have hSf : s.heap.objs.size ∉ [(s.heap.push (o0 w)).objs.size, l] := by
          rw [Heap.size_push]; simp only [List.mem_cons, List.mem_singleton, List.not_mem_nil, or_false, not_or]; exact ⟨Nat.ne_of_lt (Nat.lt_succ_self _), Nat.ne_of_gt hlS⟩
        have hval : ∀ (i : Nat) (v : Value), its[i]? = some v → ∃ k t, ns[i]? = some k ∧ v = .int k t := fun i v hv => by
          have hi : i < ns.length := by rw [← hsz]; exact (Array.getElem?_eq_some_iff.mp hv).1
          obtain ⟨t, e⟩ := IntsAre.int_at hit i v (by rw [Array.getElem?_toList]; exact hv)
          refine ⟨ns[i], t, List.getElem?_eq_getElem hi, ?_⟩; rw [e, List.getD_eq_getElem?_getD, List.getElem?_eq_getElem hi] <;> rfl
        refine set_update_ints ((Walks.list hh3 _ l hneI its).toS) s.heap.objs.size hSf ns hsz hb hval (its.size - 0) 0 _ (by omega) (Nat.zero_le _) ⟨⟨_, Heap.get?_push_size _ rfl, rfl, rfl⟩, (hl1.push _)⟩ ?hS0 ?hR
        case hS0 =>
          have hg : ((s.heap.push (o0 w)).push { cls := .type "list_iterator", data := .fields #[.ref l, .int 0 0] }).get? s.heap.objs.size = some (o0 w) := Heap.get?_push_of_some _ hS
          exact ⟨0, Nat.le_refl 0, setR_new_at hg⟩
        case hR =>
          intro s' c' hm hc' hS'
          obtain ⟨h', g2, d', tk', os'⟩ := s'
          have eg : g2 = s.gens := hm.gens; have ed : d' = s.drawn := hm.drawn; have eo : os' = s.os := hm.os
          subst eg; subst ed; subst eo; show wpAny _ _ _ _ _ _
          refine wpAny_pure ?_; show wpAny _ _ (ret Value.none) _ _ _
          rw [hsz] at hc'
          refine wpAny_pure ⟨rfl, h', tk', c', rfl, hS', hc', fun b o e => ?_⟩
          have hb0 : b < s.heap.objs.size := Heap.lt_size e; have hb1 : b ≠ s.heap.objs.size := Nat.ne_of_lt hb0
          have hb2 : b ≠ (s.heap.push (o0 w)).objs.size := by rw [Heap.size_push]; exact Nat.ne_of_lt (Nat.lt_succ_of_lt hb0)
          exact hm.heap b o (by simp only [List.mem_cons, List.mem_singleton, List.not_mem_nil, or_false, not_or]; exact ⟨hb1, hb2⟩) (Heap.get?_push_of_some _ (Heap.get?_push_of_some _ e))
      · cases r₂ with
        | error e => exact hr₂
        | ok fl₂ =>
          cases fl₂ with
          | ret r =>
            obtain ⟨rfl, h', tk, c', rfl, hS', hc', hk'⟩ := hr₂; repeat (any_goals (first | assumption | wp_step))
            exact h _ _ _ hS' hc' hk'
          | _ => exact hr₂.elim
    | _ => exact hr.elim
end
section
variable {X : Cx} (K : PySem.W.Frag)
def rSetL (K : PySem.W.Frag) (w : World) : List V → Hp → VK → Prop := fun vs H Q => ∃ (a : Addr) (ns : List Int), vs = [.ref a] ∧ SqL K H a (ns.map V.int) ∧ ns.length < 1000 ∧
  ∀ (p : Addr) (c : Nat), H p = none → c ≤ ns.length → Q (.ref p) (upd H p (SetO w p (fun j => decide (j ∈ ns)) c))
theorem cr_setL (hc : X.calm = true) (hw : X.w = w := by rfl) (h : X.K = K := by rfl) : CallR X (.type "set") (rSetL K w) := by
  subst h; subst hw
  intro pins s σ H vs us Q I r h
  obtain ⟨a, ns, rfl, hs, hn, q⟩ := h
  rw [Vals.ref1 r]
  obtain ⟨its, rv, pl, hz⟩ := I.list hs
  refine set_of_list ns (I.ok.hd hc) pl.isList (by simpa using rv.ints) (by unfold scanBound; omega) fun h' tk c R hcn k => ?_
  exact ⟨.ref s.heap.objs.size, upd H s.heap.objs.size (SetO X.w s.heap.objs.size (fun j => decide (j ∈ ns)) c), I.laid (t' := tk) k (Nat.le_refl _) (setO_new R), rfl, q _ c (I.hok.fresh (Nat.le_refl _)) hcn⟩
theorem cr_sortedS (hc : X.calm = true) (hw : X.w = w := by rfl) : CallR X (.builtin "sorted") (rSortedSet w) := by subst hw; exact cr_sortedSet hc
theorem room65 {k : Nat} {A : Around} (r : Room k A) : A.units + 65 < cLine := by have := r.un; omega
def rNotInT (K : PySem.W.Frag) : R2 := fun x y H Q => ∃ d ds, Dp K H x d ∧ Dp K H y (.tuple ds) ∧ SeqAt.shaped d = true ∧ SeqAt.shaped (.tuple ds) = true ∧ Q (.bl (!ds.any fun z => PyData.eqv z d)) H
theorem op_notInT (hu : X.A.units + 65 < cLine) (h : X.K = K := by rfl) : OpR X (compareOp .NotIn) (rNotInT K) := by
  subst h
  intro pins s σ H x y v u Q I rx ry h
  obtain ⟨d, ds, hd, he, sd, se, q⟩ := h
  obtain ⟨a1, r1⟩ := Dp.reads I d x v hd rx
  obtain ⟨a2, r2⟩ := Dp.reads I (.tuple ds) y u he ry
  exact SeqAt.notIn_tuple_reads r2 r1 (SeqAt.canLay_of_shaped se) (SeqAt.canLay_of_shaped sd) (room_in_shaped sd hu) ⟨.bl _, H, I, rfl, q⟩
end
end Rt
set_option Elab.async false
set_option linter.all false
set_option maxRecDepth 100000
set_option maxHeartbeats 4000000
/-! enumerate of a tuple. -/
namespace Rt
open PySem PySem.Spec PyProof.Rows L2
open Sem (wp)
open AutoSeq1 (wpAny_loadPart')
/-- the iterator of the tuple at l, new; the enumerate over the iterator at i, new -/
abbrev tit (l : Addr) : Obj := { cls := .type "tuple_iterator", data := .fields #[.ref l, .int 0 0] }
abbrev enu (i : Addr) : Obj := { cls := .type "enumerate", data := .fields #[.none, .bool false, .ref i, rawInt 0, .none, .none] }
theorem new_enuT (l : Addr) (its : Array Value) (n : Nat) (dct : Option Addr) (sl : Array (Option Value)) :
    Meets (Builtin.«enumerate.__new__» ⟨[.type "enumerate", .ref l], []⟩) (fun _ R s => s.heap.get? l = some { cls := .type "tuple", dict := dct, data := .seq its n, slots := sl } ∧
      R (.ok (.ret (.ref (s.heap.push (tit l)).objs.size))) { s with heap := (s.heap.push (tit l)).push (enu s.heap.objs.size) }) :=
  .of_wp fun prog w A R s h => by
    obtain ⟨hp, g, d, tk, os⟩ := s; obtain ⟨hl, h⟩ := h
    have hsub := sub_enumerate
    have hL : Heap.IsTuple (Shared.heap ⟨hp, g, d, tk, os⟩) l its := ⟨_, hl, rfl, n, rfl⟩
    wp_walk using wpAny_loadPart' hl
    refine wpAny_stack_any fun st => wpAny_pure ?_; split
    · rename_i c _ _ _ _ _
      cases (c == Value.type "enumerate")
      · wp_walk using wpAny_loadPart' hl, wpAny_pyIter_tuple hL
        exact ⟨_, rfl, h⟩
      · wp_walk using wpAny_loadPart' hl, wpAny_pyIter_tuple hL
        exact ⟨_, rfl, h⟩
    · wp_walk using wpAny_loadPart' hl, wpAny_pyIter_tuple hL
      exact ⟨_, rfl, h⟩
section
variable {prog : Program} {w : World} {A : Around} {E : Value → Shared → Prop} {s : Shared}
theorem call_enuT {l : Addr} {its : Array Value} {Q : Value → Shared → Prop} (hL : s.heap.IsTuple l its)
    (h : ∀ h', IsEnum h' (s.heap.objs.size + 1) s.heap.objs.size 0 .none → h'.IsTupleIter s.heap.objs.size l 0 → (∀ b o, s.heap.get? b = some o → h'.get? b = some o) → Q (.ref (s.heap.objs.size + 1)) { s with heap := h' }) :
    wpAny (model prog w) A (call (.type "enumerate") [.ref l]) Q E s := by
  obtain ⟨⟨c, dct, dt, sl⟩, hl, hc, n, hd⟩ := hL
  replace hc : c = .type "tuple" := hc
  replace hd : dt = .seq its n := hd
  subst hc hd
  refine callType_new F.called_enumerate (by decide) (F.typeCall_enumerate_1 _) (F.newCall_enumerate_1 _) (fun obj => F.args_object_init_2 obj _) F.entry_enumerate_new (new_enuT l its n dct sl) ⟨hl, ?_⟩
  have hz : (s.heap.push (tit l)).objs.size = s.heap.objs.size + 1 := Heap.size_push ..
  show _ ∧ _; rw [hz]
  have he : IsEnum ((s.heap.push (tit l)).push (enu s.heap.objs.size)) (s.heap.objs.size + 1) s.heap.objs.size 0 .none := by
    have := Heap.get?_push_size (s.heap.push (tit l)) (o := enu s.heap.objs.size) rfl
    rw [hz] at this; exact this
  exact ⟨⟨_, he, rfl⟩, h _ he ⟨_, Heap.get?_push_of_some _ (Heap.get?_push_size _ rfl), rfl, rfl⟩ fun b o x => Heap.get?_push_of_some _ (Heap.get?_push_of_some _ x)⟩
end
/-- the tuple at a, each item in a new pair -/
def IteT (K : PySem.W.Frag) (a : Addr) : It :=
  ⟨fun i H => ∃ (xs : List V) (x : V), SqT K H a xs ∧ xs[i]? = some x, fun i H v H' => ∃ T x, v = .ref T ∧ H T = none ∧ H' = upd H T (.tup [.int (i : Nat), x]) ∧ ∀ xs, SqT K H a xs → xs[i]? = some x, fun i H => ∃ xs : List V, SqT K H a xs ∧ xs.length ≤ i⟩
theorem turn_enuT {P : Program} {w : World} {K : PySem.W.Frag} {elts : List Expr} {kk : Nat} {tpos : Pos} (a e it : Addr) (hai : a ≠ it) (hae : a ≠ e) :
    Turn P w K (.Tuple elts kk tpos) (IteT K a) [e, it] e (fun i h => (∃ old, IsEnum h e it ((i : Nat) : Int) old) ∧ h.IsTupleIter it a i ∧ e ≠ it) where
  mem := by simp
  obj := fun i h st b hb => by
    obtain ⟨⟨old, he⟩, ⟨o, ho, hc, hd⟩, _⟩ := st
    rcases (show b = e ∨ b = it by simpa using hb) with z | z
    · rw [z]; exact ⟨_, he, fun v q => nomatch q⟩
    · rw [z]; exact ⟨o, ho, fun v q => by rw [hd] at q; cases q⟩
  keep := fun i h h' st k => let ⟨⟨old, he⟩, hi, hne⟩ := st; ⟨⟨old, k e (by simp) _ he⟩, hi.at fun o q => k it (by simp) o q, hne⟩
  item := by
    intro X hP hw hK hc i pins s σ H E I hf st hg
    subst hP hw hK
    obtain ⟨⟨old, he⟩, hit, hne⟩ := st
    obtain ⟨xs, x, hq, hx⟩ := hg
    obtain ⟨its, rv, p, hz⟩ := I.tuple hq
    obtain ⟨u, hu, ru⟩ := rv.get hx
    have hel : e < s.heap.objs.size := Heap.lt_size he
    have hil : it < s.heap.objs.size := by obtain ⟨_, q, _⟩ := hit; exact Heap.lt_size q
    have hlt : i < its.toArray.size := by have := (List.getElem?_eq_some_iff.mp hu).1; simpa using this
    have hh : X.A.in1.in1.handled = none := by have := I.ok.hd hc; simpa using this
    refine wpAny_pyNext_enum_itemD (Draws.tuple (prog := X.prog) (w := X.w) (A := X.A.in1) hh it a hai its.toArray) he ⟨hit, show s.heap.IsTuple a its.toArray from p⟩ hlt hne (by simp; exact ⟨hne, hae.symm⟩) fun y h' tk hy ho hst hT hsz hk => ?_
    have ey : y = u := by
      have : its.toArray[i]? = some u := by simpa using hu
      rw [this] at hy; cases hy; rfl
    subst ey
    refine ⟨_, rfl, wpAny_letOwnedTupleGo_enum (s := { s with heap := h', toks := tk + 1 }) ho fun h'' he' sb => ?_⟩
    have hT2 : h''.get? s.heap.objs.size = some { cls := .type "tuple", data := .seq #[.int i tk, y] } := (sb.2 _ (Nat.ne_of_gt hel)).trans hT
    have new : ObjOk X.prog X.w (upd H s.heap.objs.size (.tup [.int (i : Nat), x])) h'' s.heap.objs.size (.tup [.int (i : Nat), x]) := ⟨by show 2 ≤ sizeLine; decide, [.int i tk, y], .cons ⟨_, rfl⟩ (.cons ru .nil), ⟨_, hT2, rfl, _, rfl⟩⟩
    have I1 : Inv X pins σ (upd H s.heap.objs.size (.tup [.int (i : Nat), x])) { s with heap := h'', toks := tk + 1 } :=
      I.turnedNew (ch := [e, it]) (fun b ob hb q => (sb.2 b (fun z => hb (by simp [z]))).trans (hk b ob (fun z => hb (by simp [z])) (fun z => hb (by simp [z])) q)) hf (Nat.le_refl _) new
    refine ⟨.ref s.heap.objs.size, _, I1, rfl, ⟨_, x, rfl, I.hok.fresh (Nat.le_refl _), rfl, fun ys hy => by rw [I.tuple_inj hy hq]; exact hx⟩, ⟨⟨y, ?_⟩, hst.1.at fun o q => (sb.2 it (Ne.symm hne)).trans q, hne⟩, fun b hb => ?_⟩
    · rw [show ((i + 1 : Nat) : Int) = (i : Int) + 1 by omega]; exact he'
    · have hb' : b < s.heap.objs.size := by
        rcases (show b = e ∨ b = it by simpa using hb) with z | z
        · rw [z]; exact hel
        · rw [z]; exact hil
      rw [upd_ne (Nat.ne_of_lt hb')]; exact (hf b hb).1
  done := by
    intro X hP hw hK hc i pins s σ H E I hf st hg
    subst hP hw hK
    obtain ⟨⟨old, he⟩, hit, hne⟩ := st
    obtain ⟨xs, hq, hx⟩ := hg
    obtain ⟨its, rv, p, hz⟩ := I.tuple hq
    obtain ⟨f0, f1, f2, f3, f4, f5⟩ := hf it (by simp)
    have hl := rv.length
    have hh : X.A.in1.in1.handled = none := by have := I.ok.hd hc; simpa using this
    have D0 := Draws.tuple (prog := X.prog) (w := X.w) (A := X.A.in1) hh it a hai its.toArray
    have D1 : Draws X.prog X.w X.A.in1 it [it, a] i (fun _ _ => True) (fun j h => (h.IsTupleIter it a j ∧ h.IsTuple a its.toArray) ∧ j = i) := ⟨fun j h st => D0.live j h st.1, fun j h h' st k => ⟨D0.frame j h h' st.1 k, st.2⟩, fun j s Q E hj st => absurd st.2 (by omega), fun s Q E st hE => wpAny_nextOf_tuple_end hh st.1.1 st.1.2 (by simp; omega) hE⟩
    exact wpAny_pyNext_enum_endD D1 he ⟨⟨hit, show s.heap.IsTuple a its.toArray from p⟩, rfl⟩ fun h' eb => ⟨rfl, I.turned (t' := s.toks) (fun b o hb q => eb b o hb q) f0 f1 f3 f4 f5⟩
  self := fun A i s Q E st h => let ⟨⟨_, he⟩, _⟩ := st; wpAny_pyIter_enum he h
def iEnuT (K : PySem.W.Frag) (ta : TA) : TI := fun σ H R => ta σ H fun vs H1 => ∃ a xs, vs = [.ref a] ∧ SqT K H1 a xs ∧ R (IteT K a) H1
theorem pi_enuT {X : Cx} (K : PySem.W.Frag) {e : Expr} {ta : TA} {p pos tpos : Pos} {elts : List Expr} {kk : Nat} (hg : Gl X "enumerate") (hm : X.mg "enumerate" = none) (ha : PA X [e] ta) (hs : starEach [e] X.env = [(false, eval e X.env)] := by rfl) (h : X.K = K := by rfl) :
    PI X (.Tuple elts kk tpos) (.Call (.Name "enumerate" p) [e] [] pos) (iEnuT K ta) := by
  subst h
  refine ⟨fun pins s σ H R I h => ?_⟩
  refine Call_ (ld_blt I hg hm boot_enumerate (PyProof.Rows.callWith_type1 (thn (ha.run pos pins s σ H _ I h) fun us s1 ⟨vs, H1, I1, r1, q1⟩ => ?_) hs rfl))
  obtain ⟨a, xs, ex, hq, q⟩ := q1
  subst ex
  cases r1 with
  | cons r rr =>
    cases rr
    cases r
    obtain ⟨its, rv, p', hz⟩ := I1.tuple hq
    have pt : s1.heap.IsTuple a its.toArray := p'
    have la : a < s1.heap.objs.size := by obtain ⟨_, q, _⟩ := pt; exact Heap.lt_size q
    refine call_enuT pt fun h' he hit hk => wpAny_pyIter_enum he ?_
    have I2 : Inv X pins σ H1 { s1 with heap := h' } := I1.kept (t' := s1.toks) hk
    refine ⟨s1.heap.objs.size + 1, [s1.heap.objs.size + 1, s1.heap.objs.size], _, _, H1, rfl, I2, turn_enuT a (s1.heap.objs.size + 1) s1.heap.objs.size (Nat.ne_of_lt la) (Nat.ne_of_lt (Nat.lt_succ_of_lt la)), ⟨⟨.none, he⟩, hit, Nat.succ_ne_self _⟩, fun b hb => ?_, q⟩
    have hle : s1.heap.objs.size ≤ b := by
      rcases (show b = s1.heap.objs.size + 1 ∨ b = s1.heap.objs.size by simpa using hb) with z | z
      · rw [z]; exact Nat.le_add_right _ _
      · rw [z]; exact Nat.le_refl _
    exact I1.fpOk hle (I1.hok.fresh hle)
theorem g_enuT {σ : L2.St} {H : Hp} {K : PySem.W.Frag} {ta : TA} {R : It → Hp → Prop} (h : ta σ H fun vs H1 => ∃ a xs, vs = [.ref a] ∧ SqT K H1 a xs ∧ R (IteT K a) H1) : iEnuT K ta σ H R := h
/-- a loop over the pairs (place, item) of a tuple -/
theorem for_enuT {K : PySem.W.Frag} {a : Addr} {xs : List V} {g : TG} {tb : TS} {D : Ends} {σ : L2.St} {H : Hp} (Pv : Nat → L2.St → Hp → Prop) (h0 : Pv 0 σ H) (hl : ∀ i σ H, Pv i σ H → SqT K H a xs)
    (hs : ∀ i x T σ H, xs[i]? = some x → Pv i σ H → H T = none → g (.ref T) σ (upd H T (.tup [.int (i : Nat), x])) fun σ2 H2 => tb { D with nx := Pv (i + 1), ct := Pv (i + 1), bk := D.nx } σ2 H2) (hd : ∀ σ H, Pv xs.length σ H → D.nx σ H) :
    ∃ W : Nat → Nat → L2.St → Hp → Prop, (∃ m, W 0 m σ H) ∧ ∀ i m σ H, W i m σ H →
      ((IteT K a).stop i H ∧ D.nx σ H) ∨ ((IteT K a).go i H ∧ ∃ N : L2.St → Hp → Prop, (∀ σ' H', N σ' H' → ∃ m', m' < m ∧ W (i + 1) m' σ' H') ∧ ∀ x H', (IteT K a).yld i H x H' → g x σ H' fun σ2 H2 => tb { D with nx := N, ct := N, bk := D.nx } σ2 H2) := by
  refine ⟨fun i m σ H => i + m = xs.length ∧ Pv i σ H, ⟨xs.length, Nat.zero_add _, h0⟩, fun i m σ H w => ?_⟩
  have sq := hl i σ H w.2
  cases m with
  | zero =>
    have e : i = xs.length := w.1
    exact Or.inl ⟨⟨xs, sq, by omega⟩, hd σ H (by rw [← e]; exact w.2)⟩
  | succ m =>
    have lt : i < xs.length := by have := w.1; omega
    refine Or.inr ⟨⟨xs, xs[i], sq, List.getElem?_eq_getElem lt⟩, Pv (i + 1), fun σ' H' z => ⟨m, Nat.lt_succ_self m, by have := w.1; omega, z⟩, fun x H' y => ?_⟩
    obtain ⟨T, v, e1, e2, e3, e4⟩ := y
    rw [e1, e3]
    exact hs i v T σ H (e4 xs sq) w.2 e2
end Rt
set_option Elab.async false
set_option linter.all false
set_option maxRecDepth 100000
set_option maxHeartbeats 4000000
/-! iter of a tuple as a value; list(o) of an instance whose class has __iter__, which returns such an iterator, and __len__. -/
namespace Rt
open PySem PySem.Spec PyProof.Rows L2
/-- at j an iterator over the tuple at u, the next place is n -/
def ItT (u j : Addr) (n : Nat) : HO := .ext fun h => h.IsTupleIter j u n
/-- some object -/
def SomeO (j : Addr) : HO := .ext fun h => ∃ o, h.get? j = some o
theorem itT_ok {P : Program} {w : World} {H : Hp} {h : Heap} {u j : Addr} {n : Nat} (e : h.IsTupleIter j u n) : ObjOk P w H h j (ItT u j n) := ⟨e, let ⟨o, ho, _⟩ := e; ⟨o, ho⟩, fun _ _ q k => q.at k⟩
theorem someO_ok {P : Program} {w : World} {H : Hp} {h : Heap} {j : Addr} (e : ∃ o, h.get? j = some o) : ObjOk P w H h j (SomeO j) := ⟨e, e, fun _ _ ⟨o, z⟩ k => ⟨o, k o z⟩⟩
section
variable {prog : Program} {w : World} {A : Around} {E : Value → Shared → Prop} {s : Shared}
theorem iterT_sem {u : Addr} {zs : Array Value} {R : Value → Shared → Prop} (hu : s.heap.IsTuple u zs) (h : R (.ref s.heap.objs.size) { s with heap := s.heap.push (tit u) }) : wpAny (model prog w) A (call (.builtin "iter") [.ref u]) R E s := by
  refine Calls.call_function_entry (by decide +kernel) (by decide +kernel) PySem.W.kdk_entry_iter (PySem.W.kdk_args_iter _) ?_
  unfold Builtin.«iter»
  refine wpAny_bind (m := someArgs "iter" 1 2 _) (wpAny_of_eq (a := [Value.ref u]) (by first | rfl | kernel_rfl!) ?_); show wpAny _ _ (pyIter (.ref u) >>= _) _ _ _
  exact wpAny_bind (wpAny_pyIter_tuple hu (wpAny_pure ⟨_, rfl, h⟩))
theorem nextT_end {j u : Addr} {n : Nat} {zs : Array Value} {R : Option Value → Shared → Prop} (h0 : A.handled = none) (hj : s.heap.IsTupleIter j u n) (hu : s.heap.IsTuple u zs) (hn : zs[n]? = none)
    (hR : ∀ G, Heap.ExtBut j s.heap G → (∃ o, G.get? j = some o) → R none { s with heap := G }) : wpAny (model prog w) A (pyNext (.ref j)) R E s := by
  obtain ⟨o1, e1, c1, d1⟩ := id hj; obtain ⟨o2, e2, _, n2, d2⟩ := hu; unfold pyNext
  refine wpAny_bind (wpAny_attempt (wpAny_callSpecial?_slot (name := Str.ofString "__next__") hj.typeIs F.slot_tuple_iterator_next (wpAny_call_entry F.slot_tuple_iterator_next hj.typeIs F.entry_tuple_iterator_next ?_ (F.args_tuple_iterator_next_1 _))))
  show wpAny _ _ (field (.ref j) 0 >>= _) _ _ s; refine wpAny_bind (wpAny_field e1 d1 (x := .ref u) rfl ?_)
  show wpAny _ _ (if (Value.ref u == Value.none) = true then _ else _) _ _ s; rw [if_neg (show ¬ ((Value.ref u == Value.none) = true) from Bool.false_ne_true)]
  show wpAny _ _ (field (.ref j) 1 >>= _) _ _ s; refine wpAny_bind (wpAny_field e1 d1 (x := .int n 0) rfl ?_)
  show wpAny _ _ (seqItems? (.ref u) >>= _) _ _ s; refine wpAny_bind (wpAny_seqItems e2 d2 ?_); simp only [Int.toNat_natCast, hn]
  refine wpAny_bind (wpAny_rule (wpAny_bind (wpAny_setField e1 d1 (by simp) ?_))); show wpAny _ _ (newExc (.type "StopIteration") [] >>= _) _ _ _; refine wpAny_bind ?_
  simp only [newExc, newTuple]; refine wpAny_bind (wpAny_newObj_type ?_ (by size_fits)); refine wpAny_bind (m := firstArgMember _ _) (wpAny_of_eq (a := Value.none) (by first | rfl | (simp only [firstArgMember]; rfl)) ?_)
  refine wpAny_newObj_type ?_ (by size_fits); simp only [raiseNew]; refine wpAny_bind (wpAny_handled ?_)
  first | rw [show A.in1.handled = none from h0] | rw [h0]
  refine wpAny_bind (wpAny_pure (wpAny_throw ?_)); refine wpAny_bind (wpAny_isInstance (T := "StopIteration") (b := true) ⟨_, Heap.get?_push_size _ rfl, rfl⟩ isSubtype_stop ?_)
  exact wpAny_pure (hR _ (((Heap.SameBut.update ..).extBut.push _).push _) ⟨_, Heap.get?_push_of_some _ (Heap.get?_push_of_some _ (Heap.get?_update_self _ e1 (Obj.isFreed_of_fields (Obj.data_mapFields d1 _))))⟩)
end
/-- iter(t), t a tuple -/
def rIterT (K : PySem.W.Frag) : List V → Hp → VK → Prop := fun xs H Q => ∃ (u : Addr) (zs : List V), xs = [.ref u] ∧ SqT K H u zs ∧ ∀ j, H j = none → Q (.ref j) (upd H j (ItT u j 0))
theorem call_iterT {X : Cx} (K : PySem.W.Frag) (h : X.K = K := by rfl) : CallR X (.builtin "iter") (rIterT K) := by
  subst h
  intro pins s σ H xs us Q I r h
  obtain ⟨l, zs, rfl, hq, q⟩ := h
  obtain rfl := Vals.ref1 r
  obtain ⟨its, rv, pl, hz⟩ := I.tuple hq
  refine iterT_sem (show s.heap.IsTuple l its.toArray from pl) ?_
  exact ⟨.ref s.heap.objs.size, _, I.laid (t' := s.toks) (fun b u e => Heap.get?_push_of_some _ e) (Nat.le_refl _) (itT_ok ⟨_, Heap.get?_push_size _ rfl, rfl, rfl⟩), rfl, q _ (I.hok.fresh (Nat.le_refl _))⟩
section
variable {X : Cx} {pins : List (Addr × Obj)} {σ : L2.St} {H : Hp} {s : Shared} {k : Nat} {f C a : Addr} {fd : FuncData} {ps : List Str} {sp : Sp} {A1 : Around} {E : Value → Shared → Prop}
theorem runA {Q : VK} {us : List Value} {vs : List V} (F : FnOk X.prog X.w X.K X.mg X.base CX0 k f fd ps sp) (hr : Room k A1) (hA : A1.frames = X.A.frames) (hb : Binds X.K fd ps []) (I : Inv X pins σ H s) (r : Vals vs us) (h : sp vs H Q E0) :
    wpAny (model X.prog X.w) A1 (call (.ref f) us) (EP X pins σ Q) E s := by
  have hl : us.length = ps.length := by rw [← r.length]; exact F.len _ _ _ _ h
  have e0 : Env0 X.prog X.w X.K X.mg X.base A1 X.stack s H := by
    have e := I.env0
    exact ⟨by rw [hA]; exact e.frames, e.mod, e.bs, e.bsz, e.funs, e.frf, e.hok, e.bare⟩
  refine wpAny_call (codeAny_mono (F.run A1 X.stack s H ⟨us, []⟩ us vs Q E0 hr e0 (by have := hb s us I.kIn (by simpa using hl); simpa using this) r h) fun r s' hq => ?_)
  cases r with
  | error e => exact False.elim hq
  | ok fl =>
    cases fl with
    | ret u => exact I.after hq
    | next => exact False.elim hq
    | brk => exact False.elim hq
    | cont => exact False.elim hq
theorem lenA {n : Nat} {dx : Addr} {fs : List (Str × V)} (c : LenC X.K C f) (F : FnOk X.prog X.w X.K X.mg X.base CX0 k f fd ps sp) (hr : Room (k + 1) A1) (hA : A1.frames = X.A.frames) (hb : Binds X.K fd ps []) (I : Inv X pins σ H s) (ha : H a = some (.ins C dx fs))
    (hn : n ≤ 1000) (h : sp [.ref a] H (fun v H' => v = .int (n : Int) ∧ H' = H) E0) : wpAny (model X.prog X.w) A1 (call (.builtin "len") [.ref a]) (fun v s' => ∃ t, v = .int (n : Int) t ∧ Inv X pins σ H s') E s := by
  obtain ⟨mA, J, _⟩ := ins_get I.hok ha
  obtain ⟨od, J, _⟩ := J.look
  have hK := I.kIn
  refine Calls.call_function_entry PySem.kind_len PySem.plain_len PySem.entry_len (PySem.args_len1 _) ?_
  unfold Builtin.«len»
  refine wpAny_bind (m := oneArg "len" _) (wpAny_pure ?_)
  have fin : wpAny (model X.prog X.w) A1.in1 (call (.ref f) [.ref a]) (EP X pins σ (fun v H' => v = .int (n : Int) ∧ H' = H)) E s := runA F hr.in1 hA hb I (us := [.ref a]) (vs := [V.ref a]) (.cons rfl .nil) h
  refine wpAny_bind (m := callSpecial? (.ref a) (Str.ofString "__len__")) ?_
  unfold callSpecial?
  refine wpAny_bind (wpAny_bind (J.type.here ((PySem.W.looks_findIn hK c.ln).here ?_)))
  refine wpAny_holding (wpAny_bind ((PySem.W.bind_fn hK _ (beq_iff_eq.mp c.lnF)).here ?_))
  refine wpAny_bind (wpAny_mono fin (fun v s' hv => ?_) fun _ _ z => z)
  obtain ⟨y, H', I', rv, rfl, eH⟩ := hv
  rw [eH] at I'
  obtain ⟨t, rfl⟩ := rv
  refine wpAny_pure ?_
  refine wpAny_bind (wpAny_holding (wpAny_pure ?_))
  refine wpAny_bind (wpAny_letGo ?_)
  show wpAny _ _ (if (n : Int) < 0 then _ else _) _ _ _
  rw [if_neg (by omega)]
  refine wpAny_bind (wpAny_pure ?_)
  show wpAny _ _ (if (n : Int) ≥ 2 ^ 63 then _ else _) _ _ _
  rw [if_neg (by omega)]
  exact wpAny_bind (wpAny_mkInt (wpAny_pure ⟨_, rfl, _, rfl, I'.tok _⟩))
theorem hintA {n : Nat} {dx : Addr} {fs : List (Str × V)} {R : Bool → Shared → Prop} (c : LenC X.K C f) (F : FnOk X.prog X.w X.K X.mg X.base CX0 k f fd ps sp) (hr : Room (k + 1) A1) (hA : A1.frames = X.A.frames) (hb : Binds X.K fd ps []) (I : Inv X pins σ H s) (ha : H a = some (.ins C dx fs))
    (hn : n ≤ 1000) (h : sp [.ref a] H (fun v H' => v = .int (n : Int) ∧ H' = H) E0) (hR : ∀ b s', Inv X pins σ H s' → R b s') : wpAny (model X.prog X.w) A1 (Builtin.List.listLengthHint (.ref a)) R E s := by
  obtain ⟨mA, J, _⟩ := ins_get I.hok ha
  obtain ⟨od, J, _⟩ := J.look
  unfold Builtin.List.listLengthHint
  refine wpAny_bind (wpAny_bind (J.type.here ((PySem.W.looks_findIn I.kIn c.ln).here ?_)))
  refine PySem.W.KFB.if_not rfl ?_
  refine PySem.W.KFB.if_so rfl ?_
  refine wpAny_bind (wpAny_rule ?_)
  refine wpAny_bind (wpAny_attempt (wpAny_mono (lenA (E := fun _ _ => False) c F hr hA hb I ha hn h) (fun v s' hv => ?_) fun _ _ z => z.elim))
  obtain ⟨t, rfl, I'⟩ := hv
  show wpAny _ _ (asInt? (Value.int (n : Int) t) >>= _) _ _ _
  refine wpAny_bind (wpAny_of_eq (a := some (n : Int)) (by first | rfl | (simp [asInt?]; rfl)) ?_)
  show wpAny _ _ (if Builtin.List.listTooLong ((n : Int)).toNat = true then _ else _) _ _ _
  rw [if_neg (by rw [L2.notLongL (by rw [sizeLine_eq]; omega)]; exact Bool.false_ne_true)]
  exact wpAny_pure (hR _ _ I')
/-- the turns that fill the list at q from the iterator at j over the tuple at u -/
theorem fillT {Rs : Result → Shared → Prop} {H0 : Hp} {q j u : Addr} {zs : List V} (h0 : A1.in1.handled = none) (hz : zs.length ≤ 1000) (hqj : q ≠ j) (huq : u ≠ q) (huj : u ≠ j)
    (hdone : ∀ H' s', Inv X pins σ H' s' → (∀ b, b ≠ j → b ≠ q → H' b = H0 b) → H' q = some (.lst zs) → Rs (.ok (.ret .none)) s') :
    ∀ (m i : Nat) (H : Hp) (s : Shared), i + m = zs.length → Inv X pins σ H s → (∀ b, b ≠ j → b ≠ q → H b = H0 b) → H j = some (ItT u j i) → H0 u = some (.tup zs) → H q = some (.lst (zs.take i)) →
      codeAny (model X.prog X.w) A1 (.builtin "list.extend.loop" ⟨[.ref q, .ref j, .none], []⟩) Rs s := by
  intro m
  induction m with
  | zero =>
    intro i H s hi I hk hj hu hq
    refine codeAny_builtin PySem.F.entry_extend_loop ?_
    rw [Around.under_plainId PySem.F.plain_extend_loop _]
    show wpAny _ A1.in1 (pyNext (.ref j) >>= _) _ _ s
    have hu' : H u = some (.tup zs) := by rw [hk u huj huq]; exact hu
    obtain ⟨its, rv, pl, _⟩ := I.tuple (SqT.of hu')
    have hl := rv.length
    refine wpAny_bind (nextT_end h0 (I.hok j _ hj).1 (show s.heap.IsTuple u its.toArray from pl) (by simp; omega) fun G eb ex => wpAny_pure ?_)
    have I2 := I.write (x := j) (e := j) (o := SomeO j) (t' := s.toks) (h' := G) (by rw [hj]; exact True.intro) (.inl rfl) (fun b o nb z => eb b o nb z) ex (someO_ok ex)
    refine hdone _ _ I2 (fun b n1 n2 => by rw [upd_ne n1]; exact hk b n1 n2) ?_
    rw [upd_ne hqj, hq, show zs.take i = zs from List.take_of_length_le (by omega)]
  | succ m ih =>
    intro i H s hi I hk hj hu hq
    refine codeAny_builtin PySem.F.entry_extend_loop ?_
    rw [Around.under_plainId PySem.F.plain_extend_loop _]
    show wpAny _ A1.in1 (pyNext (.ref j) >>= _) _ _ s
    have hu' : H u = some (.tup zs) := by rw [hk u huj huq]; exact hu
    obtain ⟨its, rv, pl, _⟩ := I.tuple (SqT.of hu')
    have hlt : i < zs.length := by omega
    obtain ⟨v, hv, rx⟩ := rv.get (List.getElem?_eq_getElem hlt)
    refine wpAny_bind (wpAny_pyNext_tuple_item (I.hok j _ hj).1 (show s.heap.IsTuple u its.toArray from pl) (x := v) (by simpa using hv) fun G ht sb => ?_)
    have I2 := I.write (x := j) (e := j) (o := ItT u j (i + 1)) (t' := s.toks) (h' := G) (by rw [hj]; exact True.intro) (.inl rfl) (fun b o nb z => (sb.2 b nb).trans z) (let ⟨o, z, _⟩ := ht; ⟨o, z⟩) (itT_ok ht)
    have hq2 : upd H j (ItT u j (i + 1)) q = some (.lst (zs.take i)) := by rw [upd_ne hqj]; exact hq
    show wpAny _ A1.in1 (updateSeq q (·.push v) >>= _) _ _ _
    obtain ⟨z, xs, k2, r2, hl, e⟩ := I2.lstM hq2
    have hlx : xs.length = i := by rw [← hl, List.length_take]; omega
    refine wpAny_bind (wpAny_updateSeq e rfl (wpAny_pure ⟨plainId_quiet PySem.F.plain_extend_loop _, ?_⟩) (by rw [List.size_toArray, sizeLine_eq]; omega) (by show (xs.toArray.push v).size ≤ sizeLine + 1; rw [Array.size_push, List.size_toArray, sizeLine_eq]; omega))
    have I3 := I2.lset (f := (·.push v)) (its' := xs ++ [v]) (ys := zs.take i ++ [zs[i]]) (t' := s.toks) hq2 e (by simp) (r2.append (.cons rx .nil)) (by rw [List.length_append, List.length_take, sizeLine_eq]; simp; omega)
    have et : zs.take i ++ [zs[i]] = zs.take (i + 1) := by rw [List.take_succ, List.getElem?_eq_getElem hlt]; rfl
    rw [et] at I3
    exact ih (i + 1) _ _ (by omega) I3 (fun b n1 n2 => by rw [upd_ne n2, upd_ne n1]; exact hk b n1 n2) (by rw [upd_ne (Ne.symm hqj), upd_same]) hu upd_same
end
/-- __iter__ and __len__ of a class, by what they promise -/
structure IterD (P : Program) (w : World) (K : PySem.W.Frag) (mg : Str → Option Value) (base : Heap) (C : Addr) (spI spL : Sp) : Prop where
  ex : ∃ (f : Addr) (fd : FuncData), PySem.W.findIn K (.ref C) "__iter__" = some (some (.ref f)) ∧ PySem.W.isFn K (.ref f) = true ∧ FnOk P w K mg base CX0 1 f fd ["self"] spI ∧ L2.Binds K fd ["self"] []
  ln : LenD P w K mg base C spL
/-- list(o): what __iter__ gives is walked; __len__ is asked on the way -/
def rListI (C : Addr) (spI spL : Sp) : List V → Hp → VK → Prop := fun xs H Q => ∃ a dx fs, xs = [.ref a] ∧ H a = some (.ins C dx fs) ∧ ∀ q, H q = none →
  spI [.ref a] (upd H q (.lst [])) (fun v H1 => ∃ (j u : Addr) (zs : List V), v = .ref j ∧ H1 = upd (upd H q (.lst [])) j (ItT u j 0) ∧ (upd H q (.lst [])) j = none ∧ H u = some (.tup zs) ∧ zs.length ≤ 1000 ∧
    spL [.ref a] H1 (fun v H2 => v = .int (zs.length : Int) ∧ H2 = H1) E0 ∧ ∀ H', Same H H' → H' q = some (.lst zs) → Q (.ref q) H') E0
theorem call_listI {X : Cx} {C : Addr} {spI spL : Sp} (D : IterD X.prog X.w X.K X.mg X.base C spI spL) (hcalm : X.calm = true) (hr : Room 4 X.A) : CallR X (.type "list") (rListI C spI spL) := by
  intro pins s σ H xs us Q I rv h
  obtain ⟨a, dx, fs, rfl, ha, hq⟩ := h
  obtain ⟨fi, fdI, itI, itF, FI, bI⟩ := D.ex
  obtain ⟨fl, fdL, cL, FL, bL⟩ := D.ln.ex
  obtain ⟨u, rfl, ru⟩ := rv.one
  cases ru
  have sb : Sub X 2 X.A.in1.in1 := (Sub.in1 (Sub.in1 (⟨hr, rfl⟩ : Sub X 4 X.A)))
  refine callType_codes (Q₁ := fun obj s₁ => obj = .ref s.heap.objs.size ∧ s₁ = { s with heap := s.heap.push { cls := .type "list", data := .seq #[] } }) PySem.F.called_list (PySem.F.typeCall_list_1 _) PySem.F.entry_list_init (code_list_new _ ⟨rfl, rfl⟩) fun obj s₁ h₁ => ?_
  obtain ⟨rfl, rfl⟩ := h₁
  have hS : (s.heap.push { cls := .type "list", data := .seq #[] }).get? s.heap.objs.size = some { cls := .type "list", data := .seq #[] } := Heap.get?_push_size _ rfl
  refine ⟨⟨_, hS, rfl⟩, PySem.F.args_list_init_2 _ _, ?_⟩
  have fr : H s.heap.objs.size = none := I.hok.fresh (Nat.le_refl _)
  have hspI := hq _ fr
  have I1 : Inv X pins σ (upd H s.heap.objs.size (.lst [])) { s with heap := s.heap.push { cls := .type "list", data := .seq #[] } } := I.lnew (its := []) (t' := s.toks) .nil (Nat.zero_le _)
  show wpAny _ _ (do let old ← Builtin.List.listItems (.ref s.heap.objs.size); Builtin.List.listUpdate (.ref s.heap.objs.size) (fun _ => #[]); letGo old.toList.reverse; Builtin.List.listExtendWith (.ref s.heap.objs.size) (.ref a) .none) _ _ _
  generalize hqq : s.heap.objs.size = q at *
  refine wpAny_bind ?_
  unfold Builtin.List.listItems
  refine wpAny_bind (wpAny_seqItems hS rfl (wpAny_pure ?_))
  show wpAny _ _ (updateSeq q (fun _ => #[]) >>= fun _ => letGo (#[] : Array Value).toList.reverse >>= fun _ => Builtin.List.listExtendWith (.ref q) (.ref a) .none) _ _ _
  refine wpAny_bind (wpAny_updateSeq hS rfl ?_)
  have I2 := I1.lset (f := fun _ => #[]) (its := []) (its' := []) (ys := []) (t' := s.toks) upd_same hS rfl .nil (Nat.zero_le _)
  rw [upd_upd] at I2
  refine wpAny_bind (wpAny_letGo ?_)
  have ha2 : upd H q (.lst []) a = some (.ins C dx fs) := by rw [upd_ne (ne_of_none ha fr)]; exact ha
  have hne : q ≠ a := (ne_of_none ha fr).symm
  obtain ⟨mA, J, _⟩ := ins_get I2.hok ha2
  obtain ⟨od, J, _⟩ := J.look
  obtain ⟨m0, hF⟩ := I2.fr
  unfold Builtin.List.listExtendWith
  refine wpAny_bind (J.type.here ?_)
  have h1 : Builtin.List.listSameRef (.ref q) (.ref a) = false := by simp [Builtin.List.listSameRef, hne]
  have h2 : (Value.ref C == Value.type "list") = false := rfl
  have h3 : (Value.ref C == Value.type "tuple") = false := rfl
  simp only [h1, h2, h3, Bool.or_false, Bool.false_eq_true, if_false]
  refine wpAny_bind (PySem.W.owit_iter hF I2.ok.mod.kin J itI itF ?_)
  refine wpAny_mono (runA (E := X.xe) (A1 := X.A.in1.in1) (FI.mono (by decide)) sb.room (by rw [sb.fr]) bI I2 (us := [.ref a]) (vs := [V.ref a]) (.cons rfl .nil) hspI) (fun r s3 hr3 => ?_) fun e s3 he => he
  obtain ⟨v, H', I3, rv3, j, u, zs, rfl, rfl, hj, hu, hz, hspL, fin⟩ := hr3
  cases rv3
  have hjq : j ≠ q := fun z => by rw [z, upd_same] at hj; cases hj
  have hHj : H j = none := by rw [upd_ne hjq] at hj; exact hj
  have ha3 : upd (upd H q (.lst [])) j (ItT u j 0) a = some (.ins C dx fs) := by rw [upd_ne (ne_of_none ha hHj)]; exact ha2
  have hti := (I3.hok j _ upd_same).1
  unfold PySem.W.OwitIt
  refine wpAny_specialOf hti.typeIs F.slot_tuple_iterator_next.lookup ?_
  refine wpAny_bind (wpAny_holding (hintA cL (FL.mono (by decide)) sb.room (by rw [sb.fr]) bL I3 ha3 hz hspL fun b s4 I4 => ?_))
  have h0 : X.A.in1.in1.handled = none := by have := I.ok.hd hcalm; simpa using this
  have loop : ∀ s5, Inv X pins σ (upd (upd H q (.lst [])) j (ItT u j 0)) s5 → codeAny (model X.prog X.w) X.A.in1 (.builtin "list.extend.loop" ⟨[.ref q, .ref j, .none], []⟩) (wants (fun r s₂ => r = .none ∧ EP X pins σ Q (.ref q) s₂) X.xe) s5 := fun s5 I5 => by
    refine fillT (H0 := H) h0 hz hjq.symm (ne_of_none hu fr) (ne_of_none hu hHj) (fun H' s' I' hk hq' => ?_) zs.length 0 _ s5 (Nat.zero_add _) I5 (fun b n1 n2 => by rw [upd_ne n1, upd_ne n2]) upd_same hu (by rw [upd_ne hjq.symm, upd_same]; rfl)
    refine ⟨rfl, .ref q, H', I', rfl, fin H' (fun b o hb => ?_) hq'⟩
    rw [hk b (ne_of_none hb hHj) (ne_of_none hb fr)]; exact hb
  obtain ⟨z, its, k4, r4, hl4, e4⟩ := I4.lstM (l := q) (xs := []) (by rw [upd_ne hjq.symm, upd_same])
  cases r4
  refine wpAny_ite_split (fun _ => ?_) (fun _ => wpAny_pure ⟨plainId_quiet PySem.F.plain_extend_loop _, loop _ I4⟩)
  refine wpAny_bind (wpAny_rule ?_)
  refine wpAny_bind ?_
  show wpAny _ _ (updateSeq q (·.push .none) >>= fun _ => updateSeq q (·.pop)) _ _ _
  refine wpAny_bind (wpAny_updateSeq e4 rfl ?_)
  have hq4 : upd (upd H q (.lst [])) j (ItT u j 0) q = some (.lst []) := by rw [upd_ne hjq.symm, upd_same]
  have I5 := I4.lset (f := (·.push Value.none)) (its' := [Value.none]) (ys := [.non]) (t' := s4.toks) hq4 e4 (by simp) (.cons rfl .nil) (by rw [List.length_singleton, sizeLine_eq]; decide)
  obtain ⟨z5, its5, k5, r5, hl5, e5⟩ := I5.lstM upd_same
  obtain ⟨u5, rfl, ru5⟩ := r5.one
  refine wpAny_updateSeq e5 rfl ?_ (by show 1 ≤ sizeLine; rw [sizeLine_eq]; decide) (by show 0 ≤ sizeLine + 1; exact Nat.zero_le _)
  refine wpAny_pure ⟨plainId_quiet PySem.F.plain_extend_loop _, loop _ ?_⟩
  have I6 := I5.lset (f := (·.pop)) (its := [u5]) (its' := []) (ys := []) (t' := s4.toks) upd_same e5 (by rfl) .nil (Nat.zero_le _)
  rw [upd_upd] at I6
  have hH : upd (upd (upd H q (.lst [])) j (ItT u j 0)) q (.lst []) = upd (upd H q (.lst [])) j (ItT u j 0) := by
    funext b
    by_cases hb : b = q
    · rw [hb, upd_same, hq4]
    · rw [upd_ne hb]
  rw [hH] at I6
  exact I6
end Rt
set_option Elab.async false
set_option linter.all false
set_option maxRecDepth 100000
set_option maxHeartbeats 4000000
/-! Marks on a ring, in numbers: gaps, rounds, even marks. -/
namespace Rt
def gapsM (n : Int) (ps : List Int) : List Int := List.zipWith (fun a b => b - a) ps (ps.drop 1 ++ [ps.headD 0 + n])
def mxL : List Int → Int
  | [] => 0
  | a :: l => l.foldl (fun x y => if x < y then y else x) a
def kpt (n : Int) (ps : List Int) : List Int := ((ps.zip (gapsM n ps)).filter fun x => decide (x.2 = mxL (gapsM n ps))).map (·.1)
def itM (n : Int) (ps : List Int) : Nat → List Int
  | 0 => ps
  | k + 1 => kpt n (itM n ps k)
def euL : Nat → Nat → Nat → List Nat
  | 0, _, _ => []
  | f + 1, a, b => if b = 0 then [] else b :: euL f b (a % b)
def lensM : Nat → Int → List Int → List Nat
  | 0, _, _ => []
  | f + 1, n, ps => ps.length :: (if kpt n ps = ps then [] else lensM f n (kpt n ps))
def evF (n m : Nat) : List Int := ((List.range n).filter fun p => decide (p * m % n < m)).map fun p : Nat => (p : Int)
def evL (n m : Nat) : List Int := (List.range m).map fun k : Nat => (((k * n + m - 1) / m : Nat) : Int)
def chkM (n m : Nat) : Bool := decide (evF n m = evL n m) && decide (lensM 61 n (evL n m) = euL 61 n m)

/-! ### places in ascending order -/
structure MkOk (n : Int) (ps : List Int) : Prop where
  ne : 0 < ps.length
  asc : ps.Pairwise (· < ·)
  rg : ∀ x ∈ ps, 0 ≤ x ∧ x < n
  n60 : n ≤ 60
theorem asc_few {n : Int} : ∀ {ps : List Int} {a : Int}, ps.Pairwise (· < ·) → (∀ x ∈ ps, a ≤ x ∧ x < n) → ps = [] ∨ (ps.length : Int) ≤ n - a
  | [], _, _, _ => .inl rfl
  | x :: l, a, h, hr => by
    have h' := List.pairwise_cons.mp h
    have hx := hr x List.mem_cons_self
    have := asc_few (n := n) (ps := l) (a := x + 1) h'.2 fun y hy => ⟨by have := h'.1 y hy; omega, (hr y (List.mem_cons_of_mem _ hy)).2⟩
    refine .inr ?_
    rw [List.length_cons]
    rcases this with z | z
    · rw [z]; simp; omega
    · omega
theorem MkOk.few {n : Int} {ps : List Int} (h : MkOk n ps) : ps.length ≤ 60 := by
  rcases asc_few (a := 0) h.asc h.rg with z | z
  · rw [z]; simp
  · have := h.n60; omega
theorem MkOk.at_ {n : Int} {ps : List Int} (h : MkOk n ps) {i : Nat} (hi : i < ps.length) : 0 ≤ ps.getD i 0 ∧ ps.getD i 0 < n := by
  rw [List.getD_eq_getElem?_getD, List.getElem?_eq_getElem hi]
  exact h.rg _ (List.getElem_mem hi)
theorem MkOk.lt {n : Int} {ps : List Int} (h : MkOk n ps) {i j : Nat} (hij : i < j) (hj : j < ps.length) : ps.getD i 0 < ps.getD j 0 := by
  rw [List.getD_eq_getElem?_getD, List.getElem?_eq_getElem (by omega), List.getD_eq_getElem?_getD, List.getElem?_eq_getElem hj]
  exact List.pairwise_iff_getElem.mp h.asc i j (by omega) hj hij
theorem MkOk.nd {n : Int} {ps : List Int} (h : MkOk n ps) : ps.Nodup := h.asc.imp fun {a b} z => Int.ne_of_lt z
/-! ### gaps -/
theorem gapsM_len {n : Int} {ps : List Int} (h : 0 < ps.length) : (gapsM n ps).length = ps.length := by
  unfold gapsM
  rw [List.length_zipWith, List.length_append, List.length_drop, List.length_singleton]
  omega
theorem gapsM_at {n : Int} {ps : List Int} {i : Nat} (hi : i < ps.length) : (gapsM n ps).getD i 0 = (if i + 1 < ps.length then ps.getD (i + 1) 0 else ps.getD 0 0 + n) - ps.getD i 0 := by
  have e0 : ps.headD 0 = ps.getD 0 0 := by cases ps <;> rfl
  unfold gapsM
  rw [List.getD_eq_getElem?_getD, List.getElem?_zipWith, List.getElem?_eq_getElem hi]
  by_cases c : i + 1 < ps.length
  · rw [if_pos c, List.getElem?_append_left (by rw [List.length_drop]; omega), List.getElem?_drop, Nat.add_comm 1 i, List.getElem?_eq_getElem c, List.getD_eq_getElem?_getD, List.getElem?_eq_getElem c, List.getD_eq_getElem?_getD, List.getElem?_eq_getElem hi]
    rfl
  · rw [if_neg c, List.getElem?_append_right (by rw [List.length_drop]; omega), List.length_drop, show i - (ps.length - 1) = 0 by omega, e0, List.getD_eq_getElem?_getD (l := ps) (i := i), List.getElem?_eq_getElem hi]
    rfl
/-- as the law has it -/
theorem gapsM_law {n : Int} {ps : List Int} (h : MkOk n ps) {i : Nat} (hi : i < ps.length) : (ps.getD ((i + 1) % ps.length) 0 - ps.getD i 0 - 1) % n + 1 = (gapsM n ps).getD i 0 := by
  rw [gapsM_at hi]
  have a := h.at_ hi
  by_cases c : i + 1 < ps.length
  · rw [if_pos c, Nat.mod_eq_of_lt c]
    have b := h.at_ c
    have d := h.lt (i := i) (j := i + 1) (by omega) c
    rw [Int.emod_eq_of_lt (by omega) (by omega)]; omega
  · have e : i + 1 = ps.length := by omega
    rw [if_neg c, e, Nat.mod_self]
    have b := h.at_ h.ne
    have d : ps.getD 0 0 ≤ ps.getD i 0 := by
      by_cases z : i = 0
      · rw [z]; exact Int.le_refl _
      · exact Int.le_of_lt (h.lt (by omega) hi)
    have : (ps.getD 0 0 - ps.getD i 0 - 1) % n = ps.getD 0 0 - ps.getD i 0 - 1 + n := by
      rw [← Int.add_emod_right]; exact Int.emod_eq_of_lt (by omega) (by omega)
    omega
/-! ### the greatest -/
theorem mxF : ∀ (l : List Int) (a : Int), (l.foldl (fun x y => if x < y then y else x) a) ∈ a :: l ∧ ∀ y ∈ a :: l, y ≤ l.foldl (fun x y => if x < y then y else x) a
  | [], a => ⟨List.mem_cons_self, fun y hy => by simp at hy; rw [hy]; exact Int.le_refl _⟩
  | b :: l, a => by
    obtain ⟨h1, h2⟩ := mxF l (if a < b then b else a)
    rw [List.foldl_cons]
    refine ⟨?_, fun y hy => ?_⟩
    · rcases List.mem_cons.mp h1 with z | z
      · rw [z]; split
        · exact List.mem_cons_of_mem _ List.mem_cons_self
        · exact List.mem_cons_self
      · exact List.mem_cons_of_mem _ (List.mem_cons_of_mem _ z)
    · have top := h2 _ List.mem_cons_self
      rcases List.mem_cons.mp hy with z | z
      · rw [z]; refine Int.le_trans ?_ top; split <;> omega
      · rcases List.mem_cons.mp z with z | z
        · rw [z]; refine Int.le_trans ?_ top; split <;> omega
        · exact h2 y (List.mem_cons_of_mem _ z)
theorem mxL_mem {l : List Int} (h : 0 < l.length) : mxL l ∈ l ∧ ∀ y ∈ l, y ≤ mxL l := by
  cases l with
  | nil => simp at h
  | cons a l => exact mxF l a
theorem mxL_eq {l : List Int} {m : Int} (h : m ∈ l) (hx : ∀ y ∈ l, y ≤ m) : m = mxL l := by
  have := mxL_mem (List.length_pos_of_mem h)
  have a := hx _ this.1
  have b := this.2 _ h
  omega
/-! ### what a round keeps -/
theorem zip_at {n : Int} {ps : List Int} (h : 0 < ps.length) {i : Nat} (hi : i < ps.length) : (ps.zip (gapsM n ps))[i]? = some (ps.getD i 0, (gapsM n ps).getD i 0) := by
  have hg : i < (gapsM n ps).length := by rw [gapsM_len h]; exact hi
  have e1 : ps[i]? = some (ps.getD i 0) := by rw [List.getD_eq_getElem?_getD, List.getElem?_eq_getElem hi]; rfl
  have e2 : (gapsM n ps)[i]? = some ((gapsM n ps).getD i 0) := by rw [List.getD_eq_getElem?_getD, List.getElem?_eq_getElem hg]; rfl
  exact List.getElem?_zip_eq_some.mpr ⟨e1, e2⟩
def kptT (n : Int) (ps : List Int) (i : Nat) : List Int := (((ps.zip (gapsM n ps)).take i).filter fun x => decide (x.2 = mxL (gapsM n ps))).map (·.1)
theorem kptT_zero {n : Int} {ps : List Int} : kptT n ps 0 = [] := rfl
theorem kptT_step {n : Int} {ps : List Int} (h : 0 < ps.length) {i : Nat} (hi : i < ps.length) : kptT n ps (i + 1) = kptT n ps i ++ (if (gapsM n ps).getD i 0 = mxL (gapsM n ps) then [ps.getD i 0] else []) := by
  unfold kptT
  rw [List.take_succ, zip_at h hi, List.filter_append, List.map_append]
  show _ ++ ([(ps.getD i 0, (gapsM n ps).getD i 0)].filter _).map _ = _
  by_cases c : (gapsM n ps).getD i 0 = mxL (gapsM n ps)
  · rw [if_pos c, List.filter_cons, if_pos (decide_eq_true c)]; rfl
  · rw [if_neg c, List.filter_cons, if_neg (by rw [decide_eq_false c]; exact Bool.false_ne_true)]; rfl
theorem kptT_full {n : Int} {ps : List Int} (h : 0 < ps.length) : kptT n ps ps.length = kpt n ps := by
  unfold kptT kpt
  rw [List.take_of_length_le (by rw [List.length_zip, gapsM_len h]; omega)]
theorem kptT_len {n : Int} {ps : List Int} (i : Nat) : (kptT n ps i).length ≤ ps.length := by
  unfold kptT
  rw [List.length_map]
  refine Nat.le_trans (List.length_filter_le _ _) ?_
  rw [List.length_take, List.length_zip]; omega
theorem kpt_sub {n : Int} {ps : List Int} (h : 0 < ps.length) : (kpt n ps).Sublist ps := by
  have : (kpt n ps).Sublist ((ps.zip (gapsM n ps)).map (·.1)) := (List.filter_sublist).map _
  rwa [List.map_fst_zip (by rw [gapsM_len h]; exact Nat.le_refl _)] at this
theorem kpt_ne {n : Int} {ps : List Int} (h : 0 < ps.length) : 0 < (kpt n ps).length := by
  have hm := (mxL_mem (l := gapsM n ps) (by rw [gapsM_len h]; exact h)).1
  obtain ⟨i, hi, e⟩ := List.mem_iff_getElem.mp hm
  have hi' : i < ps.length := by rw [gapsM_len h] at hi; exact hi
  refine List.length_pos_of_mem (a := ps.getD i 0) (List.mem_map.mpr ⟨(ps.getD i 0, (gapsM n ps).getD i 0), List.mem_filter.mpr ⟨List.mem_of_getElem? (zip_at h hi'), decide_eq_true ?_⟩, rfl⟩)
  show (gapsM n ps).getD i 0 = _
  rw [List.getD_eq_getElem?_getD, List.getElem?_eq_getElem hi]; exact e
theorem MkOk.kpt {n : Int} {ps : List Int} (h : MkOk n ps) : MkOk n (kpt n ps) := ⟨kpt_ne h.ne, h.asc.sublist (kpt_sub h.ne), fun x hx => h.rg x ((kpt_sub h.ne).subset hx), h.n60⟩
theorem MkOk.it {n : Int} {ps : List Int} (h : MkOk n ps) : ∀ k, MkOk n (itM n ps k)
  | 0 => h
  | k + 1 => (h.it k).kpt
theorem itM_shift {n : Int} {ps : List Int} : ∀ k, itM n ps (k + 1) = itM n (kpt n ps) k
  | 0 => rfl
  | k + 1 => by show kpt n (itM n ps (k + 1)) = kpt n (itM n (kpt n ps) k); rw [itM_shift k]
theorem itM_len {n : Int} {ps : List Int} (h : MkOk n ps) : ∀ k, (∀ j, j < k → itM n ps (j + 1) ≠ itM n ps j) → (itM n ps k).length + k ≤ ps.length
  | 0, _ => Nat.le_refl _
  | k + 1, hk => by
    have := itM_len h k fun j hj => hk j (by omega)
    have sub : (itM n ps (k + 1)).Sublist (itM n ps k) := kpt_sub (h.it k).ne
    have : (itM n ps (k + 1)).length ≠ (itM n ps k).length := fun z => hk k (by omega) (sub.eq_of_length z)
    have := sub.length_le
    omega
/-- round N is the last one that changes something -/
structure EndM (n : Int) (ps : List Int) (N : Nat) : Prop where
  fix : itM n ps (N + 1) = itM n ps N
  mov : ∀ j, j < N → itM n ps (j + 1) ≠ itM n ps j
theorem EndM.lt {n : Int} {ps : List Int} {N : Nat} (e : EndM n ps N) (h : MkOk n ps) : N < ps.length := by
  have := itM_len h N e.mov
  have := (h.it N).ne
  omega
theorem endM_ex {n : Int} {ps : List Int} (h : MkOk n ps) : ∃ N, EndM n ps N := by
  have key : ∀ m, (∃ N, EndM n ps N) ∨ ∀ j, j < m → itM n ps (j + 1) ≠ itM n ps j := by
    intro m
    induction m with
    | zero => exact .inr fun j hj => absurd hj (Nat.not_lt_zero _)
    | succ m ih =>
      rcases ih with z | z
      · exact .inl z
      · by_cases c : itM n ps (m + 1) = itM n ps m
        · exact .inl ⟨m, c, z⟩
        · exact .inr fun j hj => by
            rcases Nat.lt_succ_iff_lt_or_eq.mp hj with y | y
            · exact z j y
            · rw [y]; exact c
  rcases key (ps.length + 1) with z | z
  · exact z
  · have := itM_len h _ z
    omega
theorem EndM.uniq {n : Int} {ps : List Int} {N M : Nat} (a : EndM n ps N) (b : EndM n ps M) : N = M := by
  rcases Nat.lt_trichotomy N M with z | z | z
  · exact absurd a.fix (b.mov N z)
  · exact z
  · exact absurd b.fix (a.mov M z)
theorem EndM.drop {n : Int} {ps : List Int} {N : Nat} (a : EndM n ps N) : ∀ {j : Nat}, j ≤ N → EndM n (itM n ps j) (N - j) := by
  have sh : ∀ j k, itM n (itM n ps j) k = itM n ps (j + k) := fun j k => by
    induction k with
    | zero => rfl
    | succ k ih => show kpt n (itM n (itM n ps j) k) = kpt n (itM n ps (j + k)); rw [ih]
  intro j hj
  refine ⟨?_, fun i hi => ?_⟩
  · rw [sh, sh, show j + (N - j + 1) = N + 1 by omega, show j + (N - j) = N by omega]; exact a.fix
  · rw [sh, sh]; exact a.mov (j + i) (by omega)
theorem itM_itM {n : Int} {ps : List Int} (j : Nat) : ∀ k, itM n (itM n ps j) k = itM n ps (j + k)
  | 0 => rfl
  | k + 1 => by show kpt n (itM n (itM n ps j) k) = kpt n (itM n ps (j + k)); rw [itM_itM j k]
theorem lensM_of {n : Int} : ∀ {N f : Nat} {ps : List Int}, EndM n ps N → N < f → lensM f n ps = (List.range (N + 1)).map fun k => (itM n ps k).length
  | 0, f + 1, ps, e, _ => by
    have : kpt n ps = ps := e.fix
    unfold lensM
    rw [if_pos this]; rfl
  | N + 1, f + 1, ps, e, h => by
    have hne : kpt n ps ≠ ps := e.mov 0 (by omega)
    have e2 : EndM n (kpt n ps) N := e.drop (j := 1) (by omega)
    unfold lensM
    rw [if_neg hne, lensM_of e2 (by omega), List.range_succ_eq_map (n := N + 1), List.map_cons, List.map_map]
    congr 1
    refine List.map_congr_left fun k _ => ?_
    show _ = (itM n ps (k + 1)).length
    rw [itM_shift]
  | _, 0, _, _, h => absurd h (Nat.not_lt_zero _)
/-! ### Euclid -/
theorem euL_more : ∀ {f g a b : Nat}, b < f → b < g → euL f a b = euL g a b
  | 0, _, _, _, h, _ => absurd h (Nat.not_lt_zero _)
  | _, 0, _, _, _, h => absurd h (Nat.not_lt_zero _)
  | f + 1, g + 1, a, b, h1, h2 => by
    unfold euL
    by_cases c : b = 0
    · rw [if_pos c, if_pos c]
    · rw [if_neg c, if_neg c]
      have := Nat.mod_lt a (Nat.pos_of_ne_zero c)
      rw [euL_more (f := f) (g := g) (by omega) (by omega)]
theorem euL_nil {f a : Nat} : euL f a 0 = [] := by cases f <;> rfl
theorem euL_step {a b : Nat} (h0 : 0 < b) (h : b ≤ 60) : euL 61 a b = b :: euL 61 b (a % b) := by
  have := Nat.mod_lt a h0
  show (if b = 0 then [] else b :: euL 60 b (a % b)) = _
  rw [if_neg (by omega), euL_more (f := 60) (g := 61) (by omega) (by omega)]
/-! ### even marks -/
theorem evL_len {n m : Nat} : (evL n m).length = m := by unfold evL; rw [List.length_map, List.length_range]
theorem evF_asc {n m : Nat} : (evF n m).Pairwise (· < ·) := by
  unfold evF
  rw [List.pairwise_map]
  exact (List.pairwise_lt_range.sublist List.filter_sublist).imp fun {a b} h => by omega
theorem evF_rg {n m : Nat} : ∀ x ∈ evF n m, 0 ≤ x ∧ x < (n : Int) := fun x hx => by
  obtain ⟨p, hp, rfl⟩ := List.mem_map.mp hx
  have := List.mem_range.mp (List.mem_filter.mp hp).1
  exact ⟨by omega, by omega⟩
theorem evL_ok {n m : Nat} (h : evF n m = evL n m) (h0 : 0 < m) (h60 : n ≤ 60) : MkOk (n : Int) (evL n m) :=
  ⟨by rw [evL_len]; exact h0, h ▸ evF_asc, h ▸ evF_rg, by omega⟩
def evT (n m i : Nat) : List Int := ((List.range i).filter fun p => decide (p * m % n < m)).map fun p : Nat => (p : Int)
theorem evT_step {n m i : Nat} : evT n m (i + 1) = evT n m i ++ (if i * m % n < m then [(i : Int)] else []) := by
  unfold evT
  rw [List.range_succ, List.filter_append, List.map_append, List.filter_cons]
  by_cases c : i * m % n < m
  · rw [if_pos (decide_eq_true c), if_pos c]; rfl
  · rw [if_neg (by simpa using c), if_neg c]; rfl
theorem evT_len {n m i : Nat} : (evT n m i).length ≤ i := by
  unfold evT
  rw [List.length_map]
  exact Nat.le_trans (List.length_filter_le _ _) (by rw [List.length_range]; exact Nat.le_refl _)
end Rt
set_option Elab.async false
set_option linter.all false
set_option maxRecDepth 100000
set_option maxHeartbeats 4000000
/-! Rounds of marks: the gaps grow as the numbers of Fibonacci do. -/
namespace Rt
variable {n : Int} {ps : List Int}
theorem mem_atM {x : Int} (h : x ∈ ps) : ∃ i, i < ps.length ∧ x = ps.getD i 0 := by
  obtain ⟨i, hi, e⟩ := List.mem_iff_getElem.mp h
  exact ⟨i, hi, by rw [List.getD_eq_getElem?_getD, List.getElem?_eq_getElem hi]; exact e.symm⟩
theorem at_memM {i : Nat} (hi : i < ps.length) : ps.getD i 0 ∈ ps := by
  rw [List.getD_eq_getElem?_getD, List.getElem?_eq_getElem hi]; exact List.getElem_mem hi
/-- q is a mark, g is its gap -/
structure Gp (n : Int) (ps : List Int) (q g : Int) : Prop where
  mem : q ∈ ps
  pos : 0 < g
  off : ∀ x ∈ ps, (x ≤ q ∨ q + g ≤ x) ∧ q + g ≤ x + n
  nxt : q + g ∈ ps ∨ q + g - n ∈ ps
theorem MkOk.gp (h : MkOk n ps) {i : Nat} (hi : i < ps.length) : Gp n ps (ps.getD i 0) ((gapsM n ps).getD i 0) := by
  rw [gapsM_at hi]
  have a := h.at_ hi
  have b0 := h.at_ h.ne
  have up : ∀ j k, j ≤ k → k < ps.length → ps.getD j 0 ≤ ps.getD k 0 := fun j k hj hk => by
    by_cases z : j = k
    · rw [z]; exact Int.le_refl _
    · exact Int.le_of_lt (h.lt (by omega) hk)
  by_cases c : i + 1 < ps.length
  · rw [if_pos c]
    have b := h.at_ c
    have d := h.lt (i := i) (j := i + 1) (by omega) c
    refine ⟨at_memM hi, by omega, fun x hx => ?_, .inl (by rw [show ps.getD i 0 + (ps.getD (i + 1) 0 - ps.getD i 0) = ps.getD (i + 1) 0 by omega]; exact at_memM c)⟩
    obtain ⟨j, hj, rfl⟩ := mem_atM hx
    have := h.at_ hj
    refine ⟨?_, by omega⟩
    by_cases z : j ≤ i
    · exact .inl (up j i z hi)
    · have := up (i + 1) j (by omega) hj
      exact .inr (by omega)
  · rw [if_neg c]
    refine ⟨at_memM hi, by omega, fun x hx => ?_, .inr (by rw [show ps.getD i 0 + (ps.getD 0 0 + n - ps.getD i 0) - n = ps.getD 0 0 by omega]; exact at_memM h.ne)⟩
    obtain ⟨j, hj, rfl⟩ := mem_atM hx
    have u1 := up j i (by omega) hi
    have u2 := up 0 j (by omega) hj
    exact ⟨.inl u1, by omega⟩
theorem kpt_mem (h : 0 < ps.length) {q : Int} : q ∈ kpt n ps ↔ ∃ i, i < ps.length ∧ q = ps.getD i 0 ∧ (gapsM n ps).getD i 0 = mxL (gapsM n ps) := by
  unfold kpt
  rw [List.mem_map]
  constructor
  · rintro ⟨⟨a, b⟩, hx, rfl⟩
    obtain ⟨h1, h2⟩ := List.mem_filter.mp hx
    obtain ⟨i, hi, e⟩ := List.mem_iff_getElem.mp h1
    have hi' : i < ps.length := by rw [List.length_zip, gapsM_len h] at hi; omega
    have := zip_at (n := n) h hi'
    rw [List.getElem?_eq_getElem hi, e] at this
    have e2 := Option.some.inj this
    injection e2 with e3 e4
    subst e3; subst e4
    exact ⟨i, hi', rfl, of_decide_eq_true h2⟩
  · rintro ⟨i, hi, rfl, e⟩
    exact ⟨(ps.getD i 0, (gapsM n ps).getD i 0), List.mem_filter.mpr ⟨List.mem_of_getElem? (zip_at h hi), decide_eq_true e⟩, rfl⟩
theorem gap_le (h : 0 < ps.length) {i : Nat} (hi : i < ps.length) : (gapsM n ps).getD i 0 ≤ mxL (gapsM n ps) :=
  (mxL_mem (l := gapsM n ps) (by rw [gapsM_len h]; exact h)).2 _ (at_memM (by rw [gapsM_len h]; exact hi))
/-- the least gap behind a round is no less than the greatest before it -/
theorem gap_kpt (h : MkOk n ps) {i : Nat} (hi : i < (kpt n ps).length) : mxL (gapsM n ps) ≤ (gapsM n (kpt n ps)).getD i 0 := by
  have g := h.kpt.gp hi
  obtain ⟨j, hj, e1, e2⟩ := (kpt_mem h.ne).mp g.mem
  have o := h.gp hj
  rw [e2, ← e1] at o
  have sub := (kpt_sub (n := n) h.ne).subset
  have := g.pos
  rcases g.nxt with z | z
  · have := (o.off _ (sub z)).1; omega
  · have := (o.off _ (sub z)).2; omega
/-- if a round changes something, some gap grows by a gap -/
theorem gap_grow (h : MkOk n ps) (hne : kpt n ps ≠ ps) {m : Int} (hm : ∀ i, i < ps.length → m ≤ (gapsM n ps).getD i 0) : mxL (gapsM n ps) + m ≤ mxL (gapsM n (kpt n ps)) := by
  have h0 := h.ne
  -- a kept mark before one that is not kept
  obtain ⟨i, hi, ki, kj⟩ : ∃ i, i < ps.length ∧ (gapsM n ps).getD i 0 = mxL (gapsM n ps) ∧ (gapsM n ps).getD ((i + 1) % ps.length) 0 ≠ mxL (gapsM n ps) := by
    apply Classical.byContradiction
    intro no
    have stp : ∀ i, i < ps.length → (gapsM n ps).getD i 0 = mxL (gapsM n ps) → (gapsM n ps).getD ((i + 1) % ps.length) 0 = mxL (gapsM n ps) := fun i hi e => by
      apply Classical.byContradiction
      intro z
      exact no ⟨i, hi, e, z⟩
    have hk := kpt_ne (n := n) h0
    obtain ⟨s, hs, _, es⟩ := (kpt_mem h0).mp (at_memM hk)
    have all : ∀ d, (gapsM n ps).getD ((s + d) % ps.length) 0 = mxL (gapsM n ps) := by
      intro d
      induction d with
      | zero => rw [Nat.add_zero, Nat.mod_eq_of_lt hs]; exact es
      | succ d ih =>
        have := stp _ (Nat.mod_lt _ h0) ih
        rw [Nat.mod_add_mod] at this
        exact this
    have full : ∀ i, i < ps.length → (gapsM n ps).getD i 0 = mxL (gapsM n ps) := fun i hi => by
      have := all (i + ps.length - s)
      rw [show s + (i + ps.length - s) = i + ps.length by omega, Nat.add_mod_right, Nat.mod_eq_of_lt hi] at this
      exact this
    apply hne
    have e1 : ∀ k, k ≤ ps.length → kptT n ps k = ps.take k := by
      intro k
      induction k with
      | zero => intro _; rfl
      | succ k ih =>
        intro hk
        rw [kptT_step h0 (by omega), ih (by omega), if_pos (full k (by omega)), List.take_succ, List.getD_eq_getElem?_getD, List.getElem?_eq_getElem (by omega)]; rfl
    have := e1 ps.length (Nat.le_refl _)
    rw [kptT_full h0, List.take_length] at this
    exact this
  have hj : (i + 1) % ps.length < ps.length := Nat.mod_lt _ h0
  have q := h.gp hi
  rw [ki] at q
  have x := h.gp hj
  have hmj := hm _ hj
  have qk : ps.getD i 0 ∈ kpt n ps := (kpt_mem h0).mpr ⟨i, hi, rfl, ki⟩
  have xk : ps.getD ((i + 1) % ps.length) 0 ∉ kpt n ps := fun z => by
    obtain ⟨k, hk, e1, e2⟩ := (kpt_mem h0).mp z
    have : (i + 1) % ps.length = k := by
      rcases Nat.lt_trichotomy ((i + 1) % ps.length) k with y | y | y
      · have := h.lt y hk; omega
      · exact y
      · have := h.lt y hj; omega
    rw [this] at kj
    exact kj e2
  obtain ⟨k, hk, ek⟩ := mem_atM qk
  have g := h.kpt.gp hk
  rw [← ek] at g
  have gM := gap_kpt h hk
  have top := gap_le (n := n) (kpt_ne (n := n) h0) hk
  have sub := (kpt_sub (n := n) h0).subset
  have gp := g.pos
  refine Int.le_trans ?_ top
  have ex : (i + 1 < ps.length ∧ ps.getD ((i + 1) % ps.length) 0 = ps.getD i 0 + mxL (gapsM n ps)) ∨ (ps.getD ((i + 1) % ps.length) 0 = ps.getD i 0 + mxL (gapsM n ps) - n) := by
    have e := gapsM_at (n := n) hi
    rw [ki] at e
    by_cases c : i + 1 < ps.length
    · rw [if_pos c] at e
      rw [Nat.mod_eq_of_lt c]
      exact .inl ⟨c, by omega⟩
    · rw [if_neg c] at e
      rw [show i + 1 = ps.length by omega, Nat.mod_self]
      exact .inr (by omega)
  generalize (gapsM n (kpt n ps)).getD k 0 = g' at g gM gp
  generalize mxL (gapsM n ps) = M at q gM ex
  generalize (gapsM n ps).getD ((i + 1) % ps.length) 0 = gj at x hmj
  rcases ex with ⟨c, ex⟩ | ex
  · rcases g.nxt with z | z
    · have ne : ps.getD i 0 + g' ≠ ps.getD ((i + 1) % ps.length) 0 := fun y => xk (by rw [← y]; exact z)
      have := (x.off _ (sub z)).1
      omega
    · have := (x.off _ (sub z)).2
      omega
  · rcases g.nxt with z | z
    · have := h.rg _ (sub z)
      have := h.at_ hj
      have := (q.off _ (sub z)).1
      omega
    · have ne : ps.getD i 0 + g' - n ≠ ps.getD ((i + 1) % ps.length) 0 := fun y => xk (by rw [← y]; exact z)
      have := (x.off _ (sub z)).1
      omega
def gm : Nat → Int × Int
  | 0 => (1, 1)
  | k + 1 => ((gm k).2, (gm k).1 + (gm k).2)
theorem grows (h : MkOk n ps) : ∀ k, (∀ j, j < k + 1 → itM n ps (j + 1) ≠ itM n ps j) →
    (∀ i, i < (itM n ps k).length → (gm k).2 ≤ (gapsM n (itM n ps k)).getD i 0) ∧ (gm (k + 1)).2 ≤ mxL (gapsM n (itM n ps k)) ∧ (gm (k + 2)).2 ≤ mxL (gapsM n (itM n ps (k + 1)))
  | 0, hk => by
    have one : ∀ i, i < ps.length → (1 : Int) ≤ (gapsM n ps).getD i 0 := fun i hi => by have := (h.gp hi).pos; omega
    have ch : kpt n ps ≠ ps := hk 0 (by omega)
    have two : (2 : Int) ≤ mxL (gapsM n ps) := by
      apply Classical.byContradiction
      intro z
      apply ch
      have full : ∀ i, i < ps.length → (gapsM n ps).getD i 0 = mxL (gapsM n ps) := fun i hi => by
        have := one i hi
        have := gap_le (n := n) h.ne hi
        omega
      have e1 : ∀ k, k ≤ ps.length → kptT n ps k = ps.take k := by
        intro k
        induction k with
        | zero => intro _; rfl
        | succ k ih =>
          intro hk
          rw [kptT_step h.ne (by omega), ih (by omega), if_pos (full k (by omega)), List.take_succ, List.getD_eq_getElem?_getD, List.getElem?_eq_getElem (by omega)]; rfl
      have := e1 ps.length (Nat.le_refl _)
      rw [kptT_full h.ne, List.take_length] at this
      exact this
    refine ⟨one, two, ?_⟩
    have := gap_grow h ch one
    show (3 : Int) ≤ mxL (gapsM n (kpt n ps))
    omega
  | k + 1, hk => by
    obtain ⟨a, b, c⟩ := grows h k fun j hj => hk j (by omega)
    have ok := h.it k
    have low : ∀ i, i < (itM n ps (k + 1)).length → (gm (k + 1)).2 ≤ (gapsM n (itM n ps (k + 1))).getD i 0 := fun i hi => Int.le_trans b (gap_kpt ok hi)
    refine ⟨low, c, ?_⟩
    have := gap_grow (h.it (k + 1)) (hk (k + 1) (by omega)) low
    have e : (gm (k + 1 + 2)).2 = (gm (k + 1)).2 + (gm (k + 2)).2 := rfl
    show _ ≤ mxL (gapsM n (kpt n (itM n ps (k + 1))))
    omega
/-- round N changes something: the ring has as many places as Fibonacci tells -/
theorem size_ge (h : MkOk n ps) {N : Nat} (e : EndM n ps N) (hN : 0 < N) : (gm (N + 1)).2 ≤ n := by
  obtain ⟨k, rfl⟩ : ∃ k, N = k + 1 := ⟨N - 1, by omega⟩
  have g := (grows h k e.mov).2.2
  have ok := h.it (k + 1)
  have hm := (mxL_mem (l := gapsM n (itM n ps (k + 1))) (by rw [gapsM_len ok.ne]; exact ok.ne)).1
  obtain ⟨i, hi, ei⟩ := mem_atM hm
  rw [gapsM_len ok.ne] at hi
  have o := ok.gp hi
  have := (o.off _ o.mem).2
  show (gm (k + 2)).2 ≤ n
  omega
theorem gm_le : ∀ {N : Nat} {n : Int}, (gm (N + 1)).2 ≤ n → ∀ j, j ≤ N + 1 → 0 < (gm j).1 ∧ (gm j).1 ≤ (gm j).2 := fun {N n} _ j _ => by
  induction j with
  | zero => exact ⟨by decide, by decide⟩
  | succ j ih =>
    have := ih (by omega)
    show 0 < (gm j).2 ∧ (gm j).2 ≤ (gm j).1 + (gm j).2
    omega
end Rt
set_option Elab.async false
set_option linter.all false
set_option maxRecDepth 100000
set_option maxHeartbeats 4000000
/-! max of a tuple, zip of two tuples, sorted of a list, and what Marks need. -/
namespace Rt
open PySem PySem.Spec L2 PyProof.Rows RZ
def rMaxT (K : PySem.W.Frag) : List V → Hp → VK → Prop := fun vs H Q => ∃ (a : Addr) (ns : List Int), vs = [.ref a] ∧ SqT K H a (ns.map V.int) ∧ 0 < ns.length ∧ ∀ m, m ∈ ns → (∀ y ∈ ns, y ≤ m) → Q (.int m) H
section
variable {X : Cx} (K : PySem.W.Frag)
theorem cr_maxT (hc : X.calm = true) (hu : X.A.units + 64 < cLine) (hK : X.K = K := by rfl) : CallR X (.builtin "max") (rMaxT K) := by
  subst hK
  intro pins s σ H vs us Q I rv h
  obtain ⟨a, ns, rfl, hs, h0, q⟩ := h
  obtain ⟨its, ri, hl, hz⟩ := I.tuple hs
  rw [Vals.ref1 rv]
  cases ns with
  | nil => cases h0
  | cons n ns =>
    refine PySem.W.max_tuple_data (x := PyData.int n) (xs := ns.map PyData.int) (I.ok.hd hc) (show s.heap.IsTuple a its.toArray from hl) (reads_ints (ns := n :: ns) (by simpa using ri.ints)) ⟨?_, ?_⟩ (by have := depI (n :: ns); rw [List.map_cons] at this; rw [this]; omega) (fun i v h' tk bs hv hr k => ?_)
    · intro x hx y hy
      obtain ⟨i, _, rfl⟩ := List.mem_map.mp (show x ∈ (n :: ns).map PyData.int from hx)
      obtain ⟨j, _, rfl⟩ := List.mem_map.mp (show y ∈ (n :: ns).map PyData.int from hy)
      rfl
    · intro x hx z
      obtain ⟨i, _, rfl⟩ := List.mem_map.mp (show x ∈ (n :: ns).map PyData.int from hx)
      cases z
    · rw [PySem.W.maxD_ints] at hr
      obtain ⟨t2, rfl⟩ : ∃ t2, v = Value.int (ns.foldl max n) t2 := by
        cases hr
        exact ⟨_, rfl⟩
      obtain ⟨a1, a2, a3⟩ := fold_max ns n
      refine ⟨.int (ns.foldl max n), H, I.kept k, ⟨t2, rfl⟩, q _ ?_ fun y hy => ?_⟩
      · rcases a1 with z | z
        · rw [z]; exact List.mem_cons_self
        · exact List.mem_cons_of_mem _ z
      · rcases List.mem_cons.mp hy with z | z
        · rw [z]; exact a2
        · exact a3 y z
theorem cr_sortedLK (h : X.K = K := by rfl) : CallR X (.builtin "sorted") (rSorted K) := by subst h; exact cr_sorted
theorem pi_zipK {e e2 : Expr} {ta : TA} {p pos tpos : Pos} {elts : List Expr} {kk : Nat} (hg : Gl X "zip") (hm : X.mg "zip" = none) (ha : PA X [e, e2] ta)
    (hs : starEach [e, e2] X.env = (false, eval e X.env) :: starEach [e2] X.env := by rfl) (hpl : (backTo pos (starEach [e2] X.env)).any (·.1) = false := by rfl) (h : X.K = K := by rfl) :
    PI X (.Tuple elts kk tpos) (.Call (.Name "zip" p) [e, e2] [] pos) (iZipA K ta) := by subst h; exact pi_zipA hg hm ha hs hpl
theorem op_notInK (h : X.K = K := by rfl) : OpR X (compareOp .NotIn) (rIn K true) := by subst h; exact op_notIn_seq
end
theorem g_zip {σ : L2.St} {H : Hp} {K : PySem.W.Frag} {ta : TA} {R : It → Hp → Prop} (h : ta σ H fun vs H1 => ∃ a b xs ys, vs = [.ref a, .ref b] ∧ ((SqL K H1 a xs ∧ SqL K H1 b ys ∧ R (Itz K a b) H1) ∨ (SqT K H1 a xs ∧ SqT K H1 b ys ∧ R (ItzT K a b) H1))) : iZipA K ta σ H R := h
/-- a comprehension over zip of two tuples of one length -/
theorem lc_zipT {K : PySem.W.Frag} {a b : Addr} {xs ys : List V} {g : TG} {tt : TT} {te : TE} {vs : List Nat} {σ : L2.St} {H1 : Hp} {D : Addr} {Qd : Hp → Prop} (hlen : xs.length = ys.length) (Pv : Nat → Hp → Prop) (h0 : Pv 0 (upd H1 D (.lst []))) (hl : ∀ i H, Pv i H → SqT K H a xs ∧ SqT K H b ys)
    (turn : ∀ (i : Nat) (x y : V) (T : Addr) (H : Hp), xs[i]? = some x → ys[i]? = some y → Pv i H → H T = none → g (.ref T) (wipe σ vs) (upd H T (.tup [x, y])) fun σ2 H2 => wipe σ2 vs = wipe σ vs ∧ tt σ2 H2 fun b H3 =>
      if b = true then te σ2 H3 fun y H4 => ∃ acc, H4 D = some (.lst acc) ∧ acc.length < sizeLine ∧ Pv (i + 1) (upd H4 D (.lst (acc ++ [y]))) else Pv (i + 1) H3) (done : ∀ H, Pv xs.length H → Qd H) :
    ∃ W : Nat → Nat → Hp → Prop, (∃ m, W 0 m (upd H1 D (.lst []))) ∧ ∀ i m H, W i m H →
      ((ItzT K a b).stop i H ∧ Qd H) ∨ ((ItzT K a b).go i H ∧ ∃ Nx : Hp → Prop, (∀ H', Nx H' → ∃ m', m' < m ∧ W (i + 1) m' H') ∧ ∀ x H', (ItzT K a b).yld i H x H' → g x (wipe σ vs) H' fun σ2 H2 => wipe σ2 vs = wipe σ vs ∧ tt σ2 H2 fun b H3 =>
        if b = true then te σ2 H3 fun y H4 => ∃ acc, H4 D = some (.lst acc) ∧ acc.length < sizeLine ∧ Nx (upd H4 D (.lst (acc ++ [y]))) else Nx H3) := by
  refine ⟨fun i m H => i + m = xs.length ∧ Pv i H, ⟨xs.length, Nat.zero_add _, h0⟩, fun i m H w => ?_⟩
  obtain ⟨qx, qy⟩ := hl i H w.2
  cases m with
  | zero =>
    have e : i = xs.length := w.1
    exact Or.inl ⟨⟨xs, ys, qx, qy, Or.inl (by omega)⟩, done H (by rw [← e]; exact w.2)⟩
  | succ m =>
    have lt : i < xs.length := by have := w.1; omega
    have lt2 : i < ys.length := by omega
    refine Or.inr ⟨⟨xs, ys, xs[i], ys[i], qx, qy, List.getElem?_eq_getElem lt, List.getElem?_eq_getElem lt2⟩, Pv (i + 1), fun H' z => ⟨m, Nat.lt_succ_self m, by have := w.1; omega, z⟩, fun v H' yl => ?_⟩
    obtain ⟨T, x', y', rfl, hT, rfl, f1, f2⟩ := yl
    exact turn i x' y' T H (f1 xs qx) (f2 ys qy) w.2 hT
/-- t[1:] of a tuple -/
theorem g_tl1 {K : PySem.W.Frag} {H : Hp} {Q : VK} {a : Addr} {xs : List Int} (h1 : SqT K H a (xs.map V.int)) (h0 : 0 < xs.length) (sz : xs.length ≤ 100000)
    (h : ∀ q H', H q = none → Same H H' → H' q = some (.tup ((xs.drop 1).map V.int)) → Q (.ref q) H') : rSlA K (.ref a) (some 1) none H Q :=
  g_tfrom (p := 0) h1 h0 h
theorem sorted_eq {xs ys : List Int} (hp : xs.Perm ys) (h1 : xs.Pairwise (· ≤ ·)) (h2 : ys.Pairwise (· < ·)) : xs = ys :=
  hp.eq_of_pairwise (fun a b _ _ x y => Int.le_antisymm x y) h1 (h2.imp fun {a b} z => Int.le_of_lt z)
/-- a loop over the pairs (place, item) of a list -/
theorem for_enuL {K : PySem.W.Frag} {a : Addr} {xs : List V} {g : TG} {tb : TS} {D : Ends} {σ : L2.St} {H : Hp} (Pv : Nat → L2.St → Hp → Prop) (h0 : Pv 0 σ H) (hl : ∀ i σ H, Pv i σ H → SqL K H a xs)
    (hs : ∀ i x T σ H, xs[i]? = some x → Pv i σ H → H T = none → g (.ref T) σ (upd H T (.tup [.int (i : Nat), x])) fun σ2 H2 => tb { D with nx := Pv (i + 1), ct := Pv (i + 1), bk := D.nx } σ2 H2) (hd : ∀ σ H, Pv xs.length σ H → D.nx σ H) :
    ∃ W : Nat → Nat → L2.St → Hp → Prop, (∃ m, W 0 m σ H) ∧ ∀ i m σ H, W i m σ H →
      ((Ite K a).stop i H ∧ D.nx σ H) ∨ ((Ite K a).go i H ∧ ∃ N : L2.St → Hp → Prop, (∀ σ' H', N σ' H' → ∃ m', m' < m ∧ W (i + 1) m' σ' H') ∧ ∀ x H', (Ite K a).yld i H x H' → g x σ H' fun σ2 H2 => tb { D with nx := N, ct := N, bk := D.nx } σ2 H2) := by
  refine ⟨fun i m σ H => i + m = xs.length ∧ Pv i σ H, ⟨xs.length, Nat.zero_add _, h0⟩, fun i m σ H w => ?_⟩
  have sq := hl i σ H w.2
  cases m with
  | zero =>
    have e : i = xs.length := w.1
    exact Or.inl ⟨⟨xs, sq, by omega⟩, hd σ H (by rw [← e]; exact w.2)⟩
  | succ m =>
    have lt : i < xs.length := by have := w.1; omega
    refine Or.inr ⟨⟨xs, xs[i], sq, List.getElem?_eq_getElem lt⟩, Pv (i + 1), fun σ' H' z => ⟨m, Nat.lt_succ_self m, by have := w.1; omega, z⟩, fun x H' y => ?_⟩
    obtain ⟨T, v, e1, e2, e3, e4⟩ := y
    rw [e1, e3]
    exact hs i v T σ H (e4 xs sq) w.2 e2
theorem inV_Is {k : Int} : ∀ ns : List Int, inV (V.int k) (ns.map V.int) = decide (k ∈ ns)
  | [] => rfl
  | o :: ns => by
    have ih := inV_Is (k := k) ns
    unfold inV at ih ⊢
    rw [List.map_cons, List.any_cons, ih, eqVI]
    by_cases c : o = k
    · subst c; simp
    · have : k ≠ o := fun z => c z.symm
      simp [c, this]
theorem g_inL {K : PySem.W.Frag} {H : Hp} {Q : VK} {a : Addr} {ns : List Int} {k : Int} (h : SqL K H a (ns.map V.int) ∨ SqT K H a (ns.map V.int)) (q : Q (.bl (decide (k ∈ ns))) H) : rIn K false (.int k) (.ref a) H Q :=
  ⟨a, _, rfl, h, rfl, flatI ns, by rw [inV_Is]; exact q⟩
theorem g_parM {i j : Nat} {ta : TA} {D : Ends} {σ : L2.St} {H : Hp} (h : ta σ H fun vs H1 => ∃ v w, vs = [v, w] ∧ D.nx ((σ.set i (some v)).set j (some w)) H1) : tPar i j ta D σ H := h
theorem map_at {ns : List Int} {i : Nat} {y : V} (h : (ns.map V.int)[i]? = some y) : i < ns.length ∧ y = V.int (ns.getD i 0) := by
  rw [List.getElem?_map] at h
  obtain ⟨x, e1, e2⟩ := Option.map_eq_some_iff.mp h
  obtain ⟨hi, e3⟩ := List.getElem?_eq_some_iff.mp e1
  refine ⟨hi, ?_⟩
  rw [List.getD_eq_getElem?_getD, e1, ← e2]; rfl
theorem take_getD {ns : List Int} {i : Nat} (hi : i < ns.length) : ns.take (i + 1) = ns.take i ++ [ns.getD i 0] := by
  rw [List.take_succ, List.getD_eq_getElem?_getD, List.getElem?_eq_getElem hi]; rfl
theorem pg_lstK {X : Cx} (K : PySem.W.Frag) {es : List Expr} {k : Nat} {t : TGs} {n : Nat} {pos : Pos} (hc : X.calm = true) (h : PGs X es t)
    (hn : (assignEach es X.env).length = n := by rfl) (hst : (assignEach es X.env).findIdx? (·.1) = none := by rfl) (hK : X.K = K := by rfl) : PG X (.Tuple es k pos) (gLst K n t) := by subst hK; exact pg_lst hc h hn hst
theorem g_glst {K : PySem.W.Frag} {t : TGs} {a : Addr} {xs : List V} {n : Nat} {σ : L2.St} {H : Hp} {QS : L2.St → Hp → Prop} (hs : SqL K H a xs) (hn : xs.length = n) (h : t xs σ H QS) : gLst K n t (.ref a) σ H QS := ⟨a, xs, rfl, hs, hn, h⟩
theorem range_getD : ∀ l : List Int, (List.range l.length).map (fun i => l.getD i 0) = l := fun l => by
  refine List.ext_getElem? fun i => ?_
  rw [List.getElem?_map]
  by_cases h : i < l.length
  · rw [List.getElem?_range h, List.getElem?_eq_getElem h]
    show some (l.getD i 0) = _
    rw [List.getD_eq_getElem?_getD, List.getElem?_eq_getElem h]; rfl
  · rw [List.getElem?_eq_none (by rw [List.length_range]; omega), List.getElem?_eq_none (by omega)]; rfl
/-- the constructor of a class whose __init__ has no defaults -/
theorem kbn_of {K : PySem.W.Frag} {fd : FuncData} {ps : List Str} {n : Nat} (b : L2.Binds K fd ps []) (hn : ps.length = n) : KBn K fd ps n [] (fun us ws => us ++ ws) (fun vs zs => vs ++ zs) :=
  ⟨fun s us ws X l1 l2 => by
    have e : ws = [] := List.eq_nil_of_length_eq_zero l2
    subst e
    have := b s us X (by simpa using l1.trans hn.symm)
    simpa using this, fun r1 r2 => r1.append r2⟩
end Rt
set_option Elab.async false
set_option linter.all false
set_option maxRecDepth 100000
set_option maxHeartbeats 4000000
/-! list.clear, texts compared, slices between two places. -/
namespace Rt
open PySem PySem.Spec L2 PyProof.Rows
def rClearL : V → List V → Hp → VK → Prop := fun x vs H Q => ∃ (l : Addr) (xs : List V), x = .ref l ∧ vs = [] ∧ H l = some (.lst xs) ∧ Q .non (upd H l (.lst []))
theorem mt_clearL {X : Cx} : MtR X "list.clear" rClearL := by
  intro pins s σ H x vs v us Q I rx rv h
  obtain ⟨l, xs, rfl, rfl, hH, q⟩ := h
  cases rx
  have hus := rv.zero
  subst hus
  obtain ⟨z, its, n, r, hl, e⟩ := I.lstM hH
  refine call_meets F.slot_list_clear ⟨_, e, rfl⟩ F.entry_list_clear (F.args_list_clear_1 _) (AutoSeq1.list_clear_list_0 l its.toArray n (by rw [List.size_toArray]; omega)) ⟨e, ?_⟩
  exact ⟨.non, _, I.lset (f := fun _ => #[]) (its := its) (its' := []) (ys := []) hH e (by simp) .nil (Nat.zero_le _), rfl, q⟩
theorem pe_clrK {X : Cx} (K : PySem.W.Frag) {o : Expr} {to : TE} {apos cpos : Pos} (ho : PE X o to) (h : X.K = K := by rfl) (hbase : attributeBase o "clear" X.env (eval o X.env) = eval o X.env := by rfl) (hline : (apos.endLine == cpos.line) = true := by rfl) :
    PE X (.Call (.Attribute o "clear" apos) [] [] cpos) (tBM0 K "list" rClearL to) := by
  subst h; exact pe_bm0 PySem.F.plainAttrs_list PySem.F.slot_list_clear PySem.F.type_list_clear mt_clearL ho hbase hline
theorem g_bm0 {K : PySem.W.Frag} {T : String} {r : V → List V → Hp → VK → Prop} {to : TE} {σ : L2.St} {H : Hp} {Q : VK} (h : to σ H fun x H1 => tyV K T x H1 ∧ r x [] H1 Q) : tBM0 K T r to σ H Q := h
theorem g_eqS {a b : Str} {H : Hp} {Q : VK} (h : Q (.bl (decide (V.str a = V.str b))) H) : rEq (.str a) (.str b) H Q := ⟨rfl, h⟩
theorem cut_lh {xs : List V} {lo hi : Nat} (h1 : lo ≤ xs.length) (h2 : hi ≤ xs.length) : cutV xs (some (lo : Int)) (some (hi : Int)) = (xs.drop lo).take (hi - lo) := by
  unfold cutV
  rw [HT.sIx_nat, HT.sIx_nat, Nat.min_eq_left h1, Nat.min_eq_left h2]
theorem str_len_app (a b : Str) : (a ++ b).length = a.length + b.length := by
  first | exact Str.length_append a b | (show (a.cps ++ b.cps).size = _; rw [Array.size_append]; rfl)
/-- sorted ints without repetition ascend -/
theorem asc_of {xs : List Int} (h : xs.Pairwise (· ≤ ·)) (nd : xs.Nodup) : xs.Pairwise (· < ·) :=
  List.Pairwise.imp₂ (fun {a b} x y => by omega) h nd
end Rt
set_option Elab.async false
set_option linter.all false
set_option maxRecDepth 100000
set_option maxHeartbeats 4000000
/-! Golden marks: as few places as Fibonacci allows leave one pattern, turned. -/
namespace Rt
variable {n : Int} {ps : List Int}
theorem cover (h : MkOk n ps) {y : Int} (h0 : 0 ≤ y) (h1 : y < n) : ∃ q g, Gp n ps q g ∧ ((q ≤ y ∧ y < q + g) ∨ (y + n < q + g ∧ y < q)) := by
  by_cases c : ps.getD 0 0 ≤ y
  · obtain ⟨i, hi, e1, e2⟩ : ∃ i, i < ps.length ∧ ps.getD i 0 ≤ y ∧ (i + 1 < ps.length → y < ps.getD (i + 1) 0) := by
      apply Classical.byContradiction
      intro no
      have stp : ∀ i, i < ps.length → ps.getD i 0 ≤ y → i + 1 < ps.length ∧ ps.getD (i + 1) 0 ≤ y := fun i hi e => by
        apply Classical.byContradiction
        intro z
        refine no ⟨i, hi, e, fun hl => ?_⟩
        apply Classical.byContradiction
        intro z2
        exact z ⟨hl, by omega⟩
      have all : ∀ i, i < ps.length ∧ ps.getD i 0 ≤ y := by
        intro i
        induction i with
        | zero => exact ⟨h.ne, c⟩
        | succ i ih => exact stp i ih.1 ih.2
      exact Nat.lt_irrefl _ (all ps.length).1
    refine ⟨_, _, h.gp hi, .inl ⟨e1, ?_⟩⟩
    rw [gapsM_at hi]
    by_cases z : i + 1 < ps.length
    · rw [if_pos z]; have := e2 z; omega
    · rw [if_neg z]; have := h.at_ h.ne; omega
  · have hi : ps.length - 1 < ps.length := by have := h.ne; omega
    refine ⟨_, _, h.gp hi, .inr ⟨?_, ?_⟩⟩
    · rw [gapsM_at hi, if_neg (by omega)]; omega
    · by_cases z : ps.length - 1 = 0
      · rw [z]; omega
      · have := h.lt (i := 0) (j := ps.length - 1) (by omega) hi; omega
theorem emod_in {a : Int} (h : a < n) (h2 : 0 ≤ a) : a % n = a := Int.emod_eq_of_lt h2 h
theorem emod_neg {a : Int} (h : a < 0) (h2 : -n ≤ a) (hn : 0 < n) : a % n = a + n := by
  rw [← Int.add_emod_right]; exact Int.emod_eq_of_lt (by omega) (by omega)
/-- what stood before a round, by what it leaves -/
theorem step_back (h : MkOk n ps) {m : Int} (m0 : 0 < m) (hm : ∀ i, i < ps.length → m ≤ (gapsM n ps).getD i 0) (top : mxL (gapsM n (kpt n ps)) ≤ mxL (gapsM n ps) + m) {y : Int} (h0 : 0 ≤ y) (h1 : y < n) :
    y ∈ ps ↔ y ∈ kpt n ps ∨ (y - mxL (gapsM n ps)) % n ∈ kpt n ps := by
  have sub := (kpt_sub (n := n) h.ne).subset
  have kept : ∀ q ∈ kpt n ps, Gp n ps q (mxL (gapsM n ps)) := fun q hq => by
    obtain ⟨j, hj, e1, e2⟩ := (kpt_mem h.ne).mp hq
    have o := h.gp hj
    rw [e2, ← e1] at o
    exact o
  have gap_of : ∀ x ∈ ps, ∃ g, Gp n ps x g ∧ m ≤ g := fun x hx => by
    obtain ⟨i, hi, rfl⟩ := mem_atM hx
    exact ⟨_, h.gp hi, hm i hi⟩
  generalize mxL (gapsM n ps) = M at kept top
  constructor
  · intro hy
    by_cases hyR : y ∈ kpt n ps
    · exact .inl hyR
    · right
      obtain ⟨q, g, G, c⟩ := cover h.kpt h0 h1
      have o := kept q G.mem
      have hq := h.rg q (sub G.mem)
      have gM : g ≤ M + m := by
        obtain ⟨k, hk, ek⟩ := mem_atM G.mem
        have G2 := h.kpt.gp hk
        rw [← ek] at G2
        have e : g = (gapsM n (kpt n ps)).getD k 0 := by
          have a := G.pos
          have b := G2.pos
          have r1 : q + g ≤ q + (gapsM n (kpt n ps)).getD k 0 := by
            rcases G2.nxt with z | z
            · have := (G.off _ z).1; omega
            · have := (G.off _ z).2; omega
          have r2 : q + (gapsM n (kpt n ps)).getD k 0 ≤ q + g := by
            rcases G.nxt with z | z
            · have := (G2.off _ z).1; omega
            · have := (G2.off _ z).2; omega
          omega
        rw [e]
        exact Int.le_trans (gap_le (n := n) h.kpt.ne hk) top
      have ne : y ≠ q := fun z => hyR (z ▸ G.mem)
      have offy := o.off y hy
      rcases c with ⟨c1, c2⟩ | ⟨c1, c2⟩
      · have ge : q + M ≤ y := by omega
        by_cases e : y = q + M
        · rw [e, show q + M - M = q by omega, emod_in hq.2 hq.1]; exact G.mem
        · exfalso
          have hx : q + M ∈ ps := by
            rcases o.nxt with z | z
            · exact z
            · have := h.rg _ z; omega
          obtain ⟨gx, X, hgx⟩ := gap_of _ hx
          have := (X.off y hy).1
          omega
      · by_cases e : y + n = q + M
        · rw [show y - M = q - n by omega, emod_neg (by omega) (by omega) (by omega), show q - n + n = q by omega]; exact G.mem
        · exfalso
          rcases o.nxt with z | z
          · obtain ⟨gx, X, hgx⟩ := gap_of _ z
            have := (X.off y hy).2
            omega
          · obtain ⟨gx, X, hgx⟩ := gap_of _ z
            have := (X.off y hy).1
            omega
  · rintro (hy | hy)
    · exact sub hy
    · have o := kept _ hy
      have r := h.rg _ (sub hy)
      have M0 := o.pos
      have Mn : M ≤ n := by have := (o.off _ o.mem).2; omega
      have cs : (y - M) % n = y - M ∨ (y - M) % n = y - M + n := by
        by_cases z : 0 ≤ y - M
        · exact .inl (emod_in (by omega) z)
        · exact .inr (emod_neg (by omega) (by omega) (by omega))
      rcases o.nxt with z | z
      · have := h.rg _ z
        rcases cs with e | e
        · rw [e] at z; rw [show y - M + M = y by omega] at z; exact z
        · rw [e] at z; have := h.rg _ z; omega
      · have := h.rg _ z
        rcases cs with e | e
        · rw [e] at z; have := h.rg _ z; omega
        · rw [e] at z; rw [show y - M + n + M - n = y by omega] at z; exact z
theorem gm_two (j : Nat) : (gm (j + 2)).2 = (gm j).2 + (gm (j + 1)).2 := rfl
theorem gm_pos : ∀ j : Nat, 1 ≤ (gm j).1 ∧ 1 ≤ (gm j).2
  | 0 => ⟨by decide, by decide⟩
  | j + 1 => by have := gm_pos j; exact ⟨this.2, by show 1 ≤ (gm j).1 + (gm j).2; omega⟩
/-- no place is spare -/
theorem tight (h : MkOk n ps) {k : Nat} (k0 : 0 < k) (hk : ∀ j, j < k → itM n ps (j + 1) ≠ itM n ps j) (en : n = (gm (k + 1)).2) : ∀ d, d ≤ k → mxL (gapsM n (itM n ps (k - d))) = (gm (k - d + 1)).2 := by
  have top : mxL (gapsM n (itM n ps k)) ≤ n := by
    have ok := h.it k
    have hm := (mxL_mem (l := gapsM n (itM n ps k)) (by rw [gapsM_len ok.ne]; exact ok.ne)).1
    obtain ⟨i, hi, ei⟩ := mem_atM hm
    rw [gapsM_len ok.ne] at hi
    have o := ok.gp hi
    have := (o.off _ o.mem).2
    omega
  intro d
  induction d with
  | zero =>
    intro _
    obtain ⟨j, rfl⟩ : ∃ j, k = j + 1 := ⟨k - 1, by omega⟩
    have c := (grows h j hk).2.2
    show mxL (gapsM n (itM n ps (j + 1))) = (gm (j + 2)).2
    have : (gm (j + 1 + 1)).2 = (gm (j + 2)).2 := rfl
    have t2 : mxL (gapsM n (itM n ps (j + 1))) ≤ n := top
    omega
  | succ d ih =>
    intro hd
    have e := ih (by omega)
    obtain ⟨j, hj⟩ : ∃ j, k - (d + 1) = j := ⟨_, rfl⟩
    rw [hj]
    rw [show k - d = j + 1 by omega] at e
    obtain ⟨a, b, _⟩ := grows h j fun i hi => hk i (by omega)
    have g : mxL (gapsM n (itM n ps j)) + (gm j).2 ≤ mxL (gapsM n (itM n ps (j + 1))) := gap_grow (h.it j) (hk j (by omega)) a
    have := gm_two j
    rw [e] at g
    have e2 : (gm (j + 1 + 1)).2 = (gm (j + 2)).2 := rfl
    omega
theorem tight' (h : MkOk n ps) {k : Nat} (k0 : 0 < k) (hk : ∀ j, j < k → itM n ps (j + 1) ≠ itM n ps j) (en : n = (gm (k + 1)).2) {j : Nat} (hj : j ≤ k) : mxL (gapsM n (itM n ps j)) = (gm (j + 1)).2 := by
  have := tight h k0 hk en (k - j) (by omega)
  rw [show k - (k - j) = j by omega] at this; exact this
theorem last_one (h : MkOk n ps) {k : Nat} (k0 : 0 < k) (hk : ∀ j, j < k → itM n ps (j + 1) ≠ itM n ps j) (en : n = (gm (k + 1)).2) : ∃ x, 0 ≤ x ∧ x < n ∧ ∀ y, y ∈ itM n ps k ↔ y = x := by
  have ok := h.it k
  have hm := (mxL_mem (l := gapsM n (itM n ps k)) (by rw [gapsM_len ok.ne]; exact ok.ne)).1
  obtain ⟨i, hi, ei⟩ := mem_atM hm
  rw [gapsM_len ok.ne] at hi
  have o := ok.gp hi
  rw [← ei, tight' h k0 hk en (Nat.le_refl k), ← en] at o
  have r := ok.rg _ o.mem
  refine ⟨_, r.1, r.2, fun y => ⟨fun hy => ?_, fun e => e ▸ o.mem⟩⟩
  have := o.off y hy
  have := ok.rg y hy
  omega
/-- two sets of marks that change as often as may be are alike, turned -/
theorem turned (h : MkOk n ps) {gs : List Int} (h' : MkOk n gs) {k : Nat} (k0 : 0 < k) (hk : ∀ j, j < k → itM n ps (j + 1) ≠ itM n ps j) (hk' : ∀ j, j < k → itM n gs (j + 1) ≠ itM n gs j) (en : n = (gm (k + 1)).2) :
    ∃ t, 0 ≤ t ∧ t < n ∧ ∀ y, 0 ≤ y → y < n → (y ∈ ps ↔ (y - t) % n ∈ gs) := by
  obtain ⟨x, x0, x1, hx⟩ := last_one h k0 hk en
  obtain ⟨z, z0, z1, hz⟩ := last_one h' k0 hk' en
  have n0 : 0 < n := by omega
  have t0 := Int.emod_nonneg (x - z) (show n ≠ 0 by omega)
  have t1 := Int.emod_lt_of_pos (x - z) n0
  refine ⟨(x - z) % n, t0, t1, ?_⟩
  have et : (x - z) % n = x - z ∨ (x - z) % n = x - z + n := by
    by_cases c : 0 ≤ x - z
    · exact .inl (emod_in (by omega) c)
    · exact .inr (emod_neg (by omega) (by omega) n0)
  generalize (x - z) % n = t at t0 t1 et
  have all : ∀ d, d ≤ k → ∀ y, 0 ≤ y → y < n → (y ∈ itM n ps (k - d) ↔ (y - t) % n ∈ itM n gs (k - d)) := by
    intro d
    induction d with
    | zero =>
      intro _ y y0 y1
      show y ∈ itM n ps k ↔ (y - t) % n ∈ itM n gs k
      rw [hx, hz]
      have ey : (y - t) % n = y - t ∨ (y - t) % n = y - t + n := by
        by_cases c : 0 ≤ y - t
        · exact .inl (emod_in (by omega) c)
        · exact .inr (emod_neg (by omega) (by omega) n0)
      have r0 := Int.emod_nonneg (y - t) (show n ≠ 0 by omega)
      have r1 := Int.emod_lt_of_pos (y - t) n0
      constructor
      · intro e; omega
      · intro e; omega
    | succ d ih =>
      intro hd y y0 y1
      have ihd := ih (by omega)
      obtain ⟨j, hj⟩ : ∃ j, k - (d + 1) = j := ⟨_, rfl⟩
      rw [hj]
      rw [show k - d = j + 1 by omega] at ihd
      have sb : ∀ {qs : List Int} (ok : MkOk n qs), (∀ j, j < k → itM n qs (j + 1) ≠ itM n qs j) → ∀ {w : Int}, 0 ≤ w → w < n → (w ∈ itM n qs j ↔ w ∈ itM n qs (j + 1) ∨ (w - (gm (j + 1)).2) % n ∈ itM n qs (j + 1)) := fun {qs} ok hq {w} w0 w1 => by
        have lo := (grows ok j fun i hi => hq i (by omega)).1
        have e1 := tight' ok k0 hq en (j := j) (by omega)
        have e2 := tight' ok k0 hq en (j := j + 1) (by omega)
        have s := step_back (ok.it j) (m := (gm j).2) (by have := gm_pos j; omega) lo (by
          show mxL (gapsM n (itM n qs (j + 1))) ≤ _
          rw [e1, e2]
          have := gm_two j
          have e3 : (gm (j + 1 + 1)).2 = (gm (j + 2)).2 := rfl
          omega) w0 w1
        rw [e1] at s
        exact s
      have r0 := Int.emod_nonneg (y - t) (show n ≠ 0 by omega)
      have r1 := Int.emod_lt_of_pos (y - t) n0
      have q0 := Int.emod_nonneg (y - (gm (j + 1)).2) (show n ≠ 0 by omega)
      have q1 := Int.emod_lt_of_pos (y - (gm (j + 1)).2) n0
      rw [sb h hk y0 y1, sb h' hk' r0 r1, ihd y y0 y1, ihd _ q0 q1]
      have ee : ((y - (gm (j + 1)).2) % n - t) % n = ((y - t) % n - (gm (j + 1)).2) % n := by
        show ((y - (gm (j + 1)).2) % n + -t) % n = ((y - t) % n + -(gm (j + 1)).2) % n
        rw [Int.emod_add_emod, Int.emod_add_emod]
        congr 1; omega
      rw [ee]
  have := all k (Nat.le_refl k)
  rw [Nat.sub_self] at this
  exact this
/-! ### turned lists -/
def shL (n t : Nat) (gs : List Int) : List Int := ((List.range n).filter fun p => decide ((((p : Nat) : Int) - (t : Int)) % (n : Int) ∈ gs)).map fun p : Nat => (p : Int)
theorem shL_asc {n t : Nat} {gs : List Int} : (shL n t gs).Pairwise (· < ·) := by
  unfold shL
  rw [List.pairwise_map]
  exact (List.pairwise_lt_range.sublist List.filter_sublist).imp fun {a b} h => by omega
theorem shL_mem {n t : Nat} {gs : List Int} {y : Int} : y ∈ shL n t gs ↔ 0 ≤ y ∧ y < (n : Int) ∧ (y - (t : Int)) % (n : Int) ∈ gs := by
  unfold shL
  rw [List.mem_map]
  constructor
  · rintro ⟨p, hp, rfl⟩
    obtain ⟨h1, h2⟩ := List.mem_filter.mp hp
    exact ⟨by omega, by have := List.mem_range.mp h1; omega, of_decide_eq_true h2⟩
  · rintro ⟨h0, h1, h2⟩
    refine ⟨y.toNat, List.mem_filter.mpr ⟨List.mem_range.mpr (by omega), decide_eq_true ?_⟩, by omega⟩
    rw [Int.toNat_of_nonneg h0]; exact h2
theorem asc_extM {xs ys : List Int} (hx : xs.Pairwise (· < ·)) (hy : ys.Pairwise (· < ·)) (h : ∀ a, a ∈ xs ↔ a ∈ ys) : xs = ys := by
  have nx : xs.Nodup := hx.imp fun {a b} z => Int.ne_of_lt z
  have ny : ys.Nodup := hy.imp fun {a b} z => Int.ne_of_lt z
  have p : xs.Perm ys := (List.perm_ext_iff_of_nodup nx ny).mpr h
  exact p.eq_of_pairwise (fun a b _ _ x y => by omega) hx hy
/-- the turned places, sorted -/
theorem sort_sh {n t : Nat} {gs ns : List Int} (h : MkOk (n : Int) gs) (ht : 0 < n) (pm : ns.Perm (gs.map fun x => (x + (t : Int)) % (n : Int))) (asc : ns.Pairwise (· < ·)) : ns = shL n t gs := by
  refine asc_extM asc shL_asc fun a => ?_
  rw [pm.mem_iff, List.mem_map, shL_mem]
  have n0 : (0 : Int) < (n : Int) := by omega
  constructor
  · rintro ⟨x, hx, rfl⟩
    have r := h.rg x hx
    refine ⟨Int.emod_nonneg _ (by omega), Int.emod_lt_of_pos _ n0, ?_⟩
    rw [Int.sub_eq_add_neg, Int.emod_add_emod, show x + (t : Int) + -(t : Int) = x by omega, emod_in r.2 r.1]; exact hx
  · rintro ⟨a0, a1, ha⟩
    refine ⟨_, ha, ?_⟩
    rw [Int.emod_add_emod, show a - (t : Int) + (t : Int) = a by omega, emod_in a1 a0]
/-! ### the golden marks -/
def wL : Nat → List Nat × List Nat
  | 0 => ([48], [49, 48])
  | k + 1 => ((wL k).2, (wL k).2 ++ (wL k).1)
def goldT (w : List Nat) (i : Nat) : List Int := ((List.range i).filter fun p => decide (p = 0) || decide (w.getD (p - 1) 0 = 48)).map fun p : Nat => (p : Int)
def goldP (w : List Nat) (i : Nat) : List Int := ((List.range i).filter fun p => decide (p = 0) || decide (w.getD (p - 1) 0 ≠ 49)).map fun p : Nat => (p : Int)
def goldL (k : Nat) : List Int := goldT (wL k).2 (wL k).2.length
def goldN (k : Nat) : Nat := (wL k).2.length
def gOk (k : Nat) : Bool := decide (goldP (wL k).2 (goldN k) = goldL k) && decide (((goldN k : Nat) : Int) = (gm (k + 1)).2) && decide (0 < (goldL k).length) && decide ((goldL k).Pairwise (· < ·)) && (goldL k).all (fun x => decide (0 ≤ x ∧ x < (goldN k : Int))) && decide (goldN k ≤ 60)
theorem g_ok1 : gOk 1 = true := by decide +kernel
theorem g_ok2 : gOk 2 = true := by decide +kernel
theorem g_ok3 : gOk 3 = true := by decide +kernel
theorem g_ok4 : gOk 4 = true := by decide +kernel
theorem g_ok5 : gOk 5 = true := by decide +kernel
theorem g_ok6 : gOk 6 = true := by decide +kernel
theorem g_ok7 : gOk 7 = true := by decide +kernel
theorem g_ok {k : Nat} (h1 : 1 ≤ k) (h7 : k ≤ 7) : gOk k = true := by
  have : k = 1 ∨ k = 2 ∨ k = 3 ∨ k = 4 ∨ k = 5 ∨ k = 6 ∨ k = 7 := by omega
  rcases this with z | z | z | z | z | z | z <;> subst z
  · exact g_ok1
  · exact g_ok2
  · exact g_ok3
  · exact g_ok4
  · exact g_ok5
  · exact g_ok6
  · exact g_ok7
theorem gold_ok {k : Nat} (h1 : 1 ≤ k) (h7 : k ≤ 7) : MkOk (goldN k : Int) (goldL k) ∧ (goldN k : Int) = (gm (k + 1)).2 ∧ goldP (wL k).2 (goldN k) = goldL k ∧ goldN k ≤ 60 := by
  have g := g_ok h1 h7
  unfold gOk at g
  simp only [Bool.and_eq_true, decide_eq_true_eq, List.all_eq_true] at g
  obtain ⟨⟨⟨⟨⟨a, b⟩, c⟩, d⟩, e⟩, f⟩ := g
  exact ⟨⟨c, d, fun x hx => e x hx, by omega⟩, b, a, f⟩
def gTurn (k : Nat) : Bool := (List.range (goldN k)).all fun t => decide ((lensM 61 (goldN k : Int) (shL (goldN k) t (goldL k))).length = k + 1)
theorem g_t1 : gTurn 1 = true := by decide +kernel
theorem g_t2 : gTurn 2 = true := by decide +kernel
theorem g_t3 : gTurn 3 = true := by decide +kernel
theorem g_t4 : gTurn 4 = true := by decide +kernel
theorem g_t5 : gTurn 5 = true := by decide +kernel
theorem g_t6 : gTurn 6 = true := by decide +kernel
theorem g_t7 : gTurn 7 = true := by decide +kernel
theorem g_turn {k : Nat} (h1 : 1 ≤ k) (h7 : k ≤ 7) : gTurn k = true := by
  have : k = 1 ∨ k = 2 ∨ k = 3 ∨ k = 4 ∨ k = 5 ∨ k = 6 ∨ k = 7 := by omega
  rcases this with z | z | z | z | z | z | z <;> subst z
  · exact g_t1
  · exact g_t2
  · exact g_t3
  · exact g_t4
  · exact g_t5
  · exact g_t6
  · exact g_t7
theorem sh_ok {n t : Nat} {gs : List Int} (h : MkOk (n : Int) gs) (ht : 0 < n) : MkOk (n : Int) (shL n t gs) := by
  refine ⟨?_, shL_asc, fun x hx => let z := shL_mem.mp hx; ⟨z.1, z.2.1⟩, h.n60⟩
  obtain ⟨i, hi⟩ : ∃ i, i < gs.length := ⟨0, h.ne⟩
  have r := h.at_ hi
  have n0 : (0 : Int) < (n : Int) := by omega
  refine List.length_pos_of_mem (a := (gs.getD i 0 + (t : Int)) % (n : Int)) (shL_mem.mpr ⟨Int.emod_nonneg _ (by omega), Int.emod_lt_of_pos _ n0, ?_⟩)
  rw [Int.sub_eq_add_neg, Int.emod_add_emod, show gs.getD i 0 + (t : Int) + -(t : Int) = gs.getD i 0 by omega, emod_in r.2 r.1]
  exact at_memM hi
/-- so many rounds change something exactly if the marks are golden, turned -/
theorem golden_iff {k : Nat} (h1 : 1 ≤ k) (h7 : k ≤ 7) {ps : List Int} (h : MkOk (goldN k : Int) ps) {N : Nat} (e : EndM (goldN k : Int) ps N) : k ≤ N ↔ ∃ t, t < goldN k ∧ shL (goldN k) t (goldL k) = ps := by
  obtain ⟨ok, en, _, _⟩ := gold_ok h1 h7
  have rnd : ∀ t, t < goldN k → ∀ M, EndM (goldN k : Int) (shL (goldN k) t (goldL k)) M → M = k := fun t ht M eM => by
    have okt := sh_ok (t := t) ok (by omega)
    have g := List.all_eq_true.mp (g_turn h1 h7) t (List.mem_range.mpr ht)
    have g := of_decide_eq_true g
    have := eM.lt okt
    have := okt.few
    rw [lensM_of eM (by omega), List.length_map, List.length_range] at g
    omega
  constructor
  · intro hk
    have n0 : 0 < goldN k := by have := ok.at_ ok.ne; omega
    have e0 : shL (goldN k) 0 (goldL k) = goldL k := asc_extM shL_asc ok.asc fun a => by
      rw [shL_mem]
      constructor
      · rintro ⟨a0, a1, a2⟩
        rw [show a - ((0 : Nat) : Int) = a by omega, emod_in a1 a0] at a2; exact a2
      · intro ha
        have r := ok.rg a ha
        exact ⟨r.1, r.2, by rw [show a - ((0 : Nat) : Int) = a by omega, emod_in r.2 r.1]; exact ha⟩
    obtain ⟨M, eM⟩ := endM_ex ok
    have hM : M = k := rnd 0 n0 M (by rw [e0]; exact eM)
    subst hM
    obtain ⟨t, t0, t1, ht⟩ := turned h ok (k := M) (by omega) (fun j hj => e.mov j (by omega)) eM.mov en
    refine ⟨t.toNat, by omega, asc_extM shL_asc h.asc fun a => ?_⟩
    rw [shL_mem, Int.toNat_of_nonneg t0]
    constructor
    · rintro ⟨a0, a1, a2⟩; exact (ht a a0 a1).mpr a2
    · intro ha
      have r := h.rg a ha
      exact ⟨r.1, r.2, (ht a r.1 r.2).mp ha⟩
  · rintro ⟨t, ht, rfl⟩
    rw [rnd t ht N e]; exact Nat.le_refl _
end Rt
set_option Elab.async false
set_option linter.all false
set_option maxRecDepth 100000
set_option maxHeartbeats 4000000
/-! A row among a list of rows; a global that is an int. -/
namespace Rt
open PySem PySem.Spec L2 PyProof.Rows
theorem pe_intG {X : Cx} {x : Str} {i : Int} {pos : Pos} (h : ∃ t, X.mg x = some (.int i t)) (hg : Gl X x := by rfl) (hd : (x == ("__debug__" : Str)) = false := by decide) : PE X (.Name x pos) (tC (.int i)) :=
  let ⟨t, e⟩ := h; pe_glob hg e ⟨t, rfl⟩ hd
theorem op_inDK {X : Cx} (K : PySem.W.Frag) (hu : X.A.units + 65 < cLine) (h : X.K = K := by rfl) : OpR X (compareOp .In) (rInD K) := by subst h; exact op_inD hu
theorem dpAll_of {K : PySem.W.Frag} {H : Hp} : ∀ {xs : List V} {ds : List PyData}, xs.length = ds.length → (∀ (i : Nat) (x : V) (d : PyData), xs[i]? = some x → ds[i]? = some d → Dp K H x d) → DpAll K H xs ds
  | [], [], _, _ => .nil
  | x :: xs, d :: ds, e, h => .cons (h 0 x d rfl rfl) (dpAll_of (by simpa using e) fun i y z hy hz => h (i + 1) y z (by simpa using hy) (by simpa using hz))
  | [], d :: ds, e, _ => by simp at e
  | x :: xs, [], e, _ => by simp at e
def rowsD (n : Nat) (f : Nat → List Int) : List PyData := (List.range n).map fun k => PyData.list ((f k).map PyData.int)
theorem dpRA {K : PySem.W.Frag} {H : Hp} {N : Addr → Prop} {xs : List V} {n : Nat} {f : Nat → List Int} (h : RA N false H xs n f) : DpAll K H xs (rowsD n f) := by
  refine dpAll_of (by unfold rowsD; rw [List.length_map, List.length_range, h.1]) fun i x d hx hd => ?_
  have hi : i < n := by rw [← h.1]; exact (List.getElem?_eq_some_iff.mp hx).1
  obtain ⟨t, e1, _, e2⟩ := h.2 i hi
  unfold rowsD at hd
  rw [List.getElem?_map, List.getElem?_range hi] at hd
  cases hd
  rw [e1] at hx
  cases hx
  exact .lst (SqL.of e2) (dpI _)
theorem canRows : ∀ (ks : List Nat) (f : Nat → List Int), PyData.canLayAll0 (ks.map fun k => PyData.list ((f k).map PyData.int)) = true
  | [], _ => rfl
  | k :: ks, f => by simp [PyData.canLayAll0, PyData.canLay0, canI, canRows ks f]
theorem depRows : ∀ (ks : List Nat) (f : Nat → List Int), PyData.depthAll (ks.map fun k => PyData.list ((f k).map PyData.int)) ≤ 1
  | [], _ => by simp [PyData.depthAll]
  | k :: ks, f => by
    have := depRows ks f
    simp [PyData.depthAll, PyData.depth, depI]
    omega
theorem shRows {n : Nat} {f : Nat → List Int} : SeqAt.shaped (.list (rowsD n f)) = true := by
  have c : PyData.canLay0 (.list (rowsD n f)) = true := by unfold rowsD; simp [PyData.canLay0, canRows]
  unfold SeqAt.shaped
  rw [c]
  have := depRows (List.range n) f
  have d : PyData.depth (.list (rowsD n f)) ≤ 64 := by
    show PyData.depthAll (rowsD n f) + 1 ≤ 64
    unfold rowsD
    omega
  rw [decide_eq_true d]; rfl
/-- is the row among the rows -/
theorem g_inRows {K : PySem.W.Frag} {H : Hp} {Q : VK} {N : Addr → Prop} {a b : Addr} {ys : List Int} {xs : List V} {n : Nat} {f : Nat → List Int} (ha : SqL K H a (ys.map V.int)) (hb : SqL K H b xs) (h : RA N false H xs n f) (q : Q (.bl ((List.range n).any fun t => decide (f t = ys))) H) : rInD K (.ref a) (.ref b) H Q := by
  refine ⟨_, _, .lst ha (dpI ys), .lst hb (dpRA h), (shI ys).1, shRows, ?_⟩
  have e : ((rowsD n f).any fun z => PyData.eqv z (.list (ys.map PyData.int))) = (List.range n).any fun t => decide (f t = ys) := by
    unfold rowsD
    rw [List.any_map]
    congr 1
    funext t
    show PyData.eqv (.list ((f t).map PyData.int)) (.list (ys.map PyData.int)) = _
    rw [PyData.eqv, eqvI]
  rw [e]; exact q
/-! ### Fibonacci, words -/
def fbM : Nat → Int × Int
  | 0 => (0, 1)
  | k + 1 => ((fbM k).2, (fbM k).1 + (fbM k).2)
theorem fbM_gm : ∀ j : Nat, fbM (j + 1) = gm j
  | 0 => rfl
  | j + 1 => by show ((fbM (j + 1)).2, (fbM (j + 1)).1 + (fbM (j + 1)).2) = ((gm j).2, (gm j).1 + (gm j).2); rw [fbM_gm j]
theorem wL_len : ∀ k : Nat, k ≤ 8 → (wL k).1.length ≤ 55 ∧ 1 ≤ (wL k).2.length ∧ (wL k).2.length ≤ 89 := by
  intro k hk
  rcases k with _ | _ | _ | _ | _ | _ | _ | _ | _ | k <;> first | decide | omega
theorem str_app (a b : Str) : (a ++ b).cps.toList = a.cps.toList ++ b.cps.toList := by
  show (a.cps ++ b.cps).toList = _
  rw [Array.toList_append]
theorem str_len (a : Str) : a.length = a.cps.toList.length := by show a.cps.size = _; rw [Array.length_toList]
theorem shL_mod {n t : Nat} {gs : List Int} (n0 : 0 < n) : shL n (t % n) gs = shL n t gs := by
  refine asc_extM shL_asc shL_asc fun a => ?_
  rw [shL_mem, shL_mem]
  have e : (a - ((t % n : Nat) : Int)) % (n : Int) = (a - (t : Int)) % (n : Int) := by
    have h := Nat.div_add_mod t n
    have h2 : (t : Int) = (n : Int) * ((t / n : Nat) : Int) + ((t % n : Nat) : Int) := by rw [← Int.natCast_mul]; omega
    rw [show a - ((t % n : Nat) : Int) = a - (t : Int) + (n : Int) * ((t / n : Nat) : Int) by omega, Int.add_mul_emod_self_left]
  rw [e]
def isT (n : Nat) (gs ps : List Int) : Bool := (List.range n).any fun t => decide (shL n t gs = ps)
theorem isT_iff {n : Nat} {gs ps : List Int} : isT n gs ps = true ↔ ∃ t, t < n ∧ shL n t gs = ps := by
  unfold isT
  rw [List.any_eq_true]
  constructor
  · rintro ⟨t, ht, e⟩
    exact ⟨t, List.mem_range.mp ht, of_decide_eq_true e⟩
  · rintro ⟨t, ht, e⟩
    exact ⟨t, List.mem_range.mpr ht, decide_eq_true e⟩
theorem goldN_inj {j k : Nat} (j1 : 1 ≤ j) (j7 : j ≤ 7) (k1 : 1 ≤ k) (k7 : k ≤ 7) (h : goldN j = goldN k) : j = k := by
  have aj : j = 1 ∨ j = 2 ∨ j = 3 ∨ j = 4 ∨ j = 5 ∨ j = 6 ∨ j = 7 := by omega
  have ak : k = 1 ∨ k = 2 ∨ k = 3 ∨ k = 4 ∨ k = 5 ∨ k = 6 ∨ k = 7 := by omega
  rcases aj with z | z | z | z | z | z | z <;> rcases ak with y | y | y | y | y | y | y <;> subst z <;> subst y <;> first | rfl | (exact absurd h (by decide))
end Rt
set_option Elab.async false
set_option linter.all false
set_option maxRecDepth 100000
set_option maxHeartbeats 4000000
/-! zip of two or three lists and tuples in any mix; dicts of ints. -/
namespace Rt
open PySem PySem.Spec L2 PyProof.Rows
/-- a tuple (c), a list -/
def SqB (K : PySem.W.Frag) (c : Bool) (H : Hp) (a : Addr) (xs : List V) : Prop := match c with
  | true => SqT K H a xs
  | false => SqL K H a xs
theorem SqB.mono {K : PySem.W.Frag} {c : Bool} {H H' : Hp} {a : Addr} {xs : List V} (S : Same H H') (h : SqB K c H a xs) : SqB K c H' a xs := by
  cases c with
  | true => exact L2.Same.tup S h
  | false => exact S.seq h
def ItB (c : Bool) (h : Heap) (j l : Addr) (i : Nat) : Prop := match c with
  | true => h.IsTupleIter j l i
  | false => h.IsListIter j l i
def IsB (c : Bool) (h : Heap) (l : Addr) (zs : Array Value) : Prop := match c with
  | true => h.IsTuple l zs
  | false => h.IsList l zs
def obB (c : Bool) (l : Addr) : Obj := match c with
  | true => { cls := .type "tuple_iterator", data := .fields #[.ref l, .int 0 0] }
  | false => { cls := .type "list_iterator", data := .fields #[.ref l, .int 0 0] }
theorem begB (c : Bool) (l : Addr) (zs : Array Value) : Begins (.ref l) (obB c l) (fun h => IsB c h l zs) := by
  cases c with
  | true => exact begins_tuple l zs
  | false => exact begins_list l zs
theorem drB {P : Program} {w : World} {A : Around} (c : Bool) (hh : A.handled = none) (j l : Addr) (ne : l ≠ j) (zs : Array Value) : Draws P w A j [j, l] zs.size (fun i v => zs[i]? = some v) (fun i h => ItB c h j l i ∧ IsB c h l zs) := by
  cases c with
  | true => exact Draws.tuple hh j l ne zs
  | false => exact Draws.list hh j l ne zs
theorem itB_at {c : Bool} {h h' : Heap} {j l : Addr} {i : Nat} (x : ItB c h j l i) (k : ∀ o, h.get? j = some o → h'.get? j = some o) : ItB c h' j l i := by
  cases c with
  | true => exact (show h.IsTupleIter j l i from x).at k
  | false => exact (show h.IsListIter j l i from x).at k
theorem itB_ob {c : Bool} {h : Heap} {j l : Addr} {i : Nat} (x : ItB c h j l i) : ∃ o, h.get? j = some o ∧ ∀ v, o.data ≠ .cell v := by
  cases c with
  | true => obtain ⟨o, e, _, d⟩ := x; exact ⟨o, e, fun v q => by rw [d] at q; cases q⟩
  | false => obtain ⟨o, e, _, d⟩ := x; exact ⟨o, e, fun v q => by rw [d] at q; cases q⟩
theorem itB_new {c : Bool} {h : Heap} {j l : Addr} (e : h.get? j = some (obB c l)) : ItB c h j l 0 := by
  cases c with
  | true => exact ⟨_, e, rfl, rfl⟩
  | false => exact ⟨_, e, rfl, rfl⟩
section
variable {X : Cx} {pins : List (Addr × Obj)} {σ : L2.St} {H : Hp} {s : Shared}
theorem seqB {c : Bool} {a : Addr} {xs : List V} (I : Inv X pins σ H s) (h : SqB X.K c H a xs) : ∃ its : List Value, Vals xs its ∧ IsB c s.heap a its.toArray ∧ a < s.heap.objs.size := by
  cases c with
  | true =>
    obtain ⟨its, rv, p, _⟩ := I.tuple h
    exact ⟨its, rv, p, by obtain ⟨_, q, _⟩ := (show s.heap.IsTuple a its.toArray from p); exact Heap.lt_size q⟩
  | false =>
    obtain ⟨its, rv, p, _⟩ := I.list h
    exact ⟨its, rv, p.isList, p.lt⟩
theorem injB {c : Bool} {a : Addr} {xs ys : List V} (I : Inv X pins σ H s) (h : SqB X.K c H a xs) (h2 : SqB X.K c H a ys) : xs = ys := by
  cases c with
  | true => exact I.tuple_inj h h2
  | false => exact I.list_inj h h2
end
/-- the two as they stand at each turn, their items in new pairs -/
def ItzB (K : PySem.W.Frag) (c d : Bool) (a b : Addr) : It :=
  ⟨fun i H => ∃ (xs ys : List V) (x y : V), SqB K c H a xs ∧ SqB K d H b ys ∧ xs[i]? = some x ∧ ys[i]? = some y,
    fun i H v H' => ∃ T x y, v = .ref T ∧ H T = none ∧ H' = upd H T (.tup [x, y]) ∧ (∀ xs, SqB K c H a xs → xs[i]? = some x) ∧ ∀ ys, SqB K d H b ys → ys[i]? = some y,
    fun i H => ∃ xs ys : List V, SqB K c H a xs ∧ SqB K d H b ys ∧ i ≤ xs.length ∧ i ≤ ys.length ∧ (i = xs.length ∨ i = ys.length)⟩
theorem turn_zipB {P : Program} {w : World} {K : PySem.W.Frag} {elts : List Expr} {kk : Nat} {tpos : Pos} {c d : Bool} {a b z TI TO j1 j2 : Addr} (D : ZipSep2 z TI TO j1 j2 [j1, a] [j2, b]) (na : a ≠ j1) (nb : b ≠ j2) :
    Turn P w K (.Tuple elts kk tpos) (ItzB K c d a b) [z, TI, TO, j1, j2] z (fun i h => IsZip h z TI TO .none ∧ IsTupOf2 h TI (.ref j1) (.ref j2) ∧ (∃ x y, IsTupOf2 h TO x y) ∧ ItB c h j1 a i ∧ ItB d h j2 b i) where
  mem := List.mem_cons_self
  obj := fun i h st q hq => by
    obtain ⟨hz, hTI, ⟨x, y, hTO⟩, h1, h2⟩ := st
    rcases (show q = z ∨ q = TI ∨ q = TO ∨ q = j1 ∨ q = j2 by simpa using hq) with r | r | r | r | r <;> rw [r]
    · exact ⟨_, hz, fun v q => nomatch q⟩
    · exact ⟨_, hTI, fun v q => nomatch q⟩
    · exact ⟨_, hTO, fun v q => nomatch q⟩
    · exact itB_ob h1
    · exact itB_ob h2
  keep := fun i h h' ⟨hz, hTI, ⟨x, y, hTO⟩, h1, h2⟩ k => ⟨k z (by simp) _ hz, k TI (by simp) _ hTI, ⟨x, y, k TO (by simp) _ hTO⟩, itB_at h1 (k j1 (by simp)), itB_at h2 (k j2 (by simp))⟩
  item := by
    intro X hP hw hK hc i pins s σ H E I hf ⟨hz, hTI, ⟨x0, y0, hTO⟩, h1, h2⟩ ⟨xs, ys, x, y, hqx, hqy, hx, hy⟩
    subst hP hw hK
    obtain ⟨its, rv, p, la⟩ := seqB I hqx
    obtain ⟨its2, rv2, p2, lb⟩ := seqB I hqy
    obtain ⟨u, hu, ru⟩ := rv.get hx
    obtain ⟨u2, hu2, ru2⟩ := rv2.get hy
    have zl : z < s.heap.objs.size := Heap.lt_size hz
    have hh : X.A.in1.handled = none := by have := I.ok.hd hc; simpa using this
    have k1 : i < its.toArray.size := by have := (List.getElem?_eq_some_iff.mp hu).1; simpa using this
    have k2 : i < its2.toArray.size := by have := (List.getElem?_eq_some_iff.mp hu2).1; simpa using this
    refine wpAny_pyNext_zipD2_item D (drB (P := X.prog) (w := X.w) (A := X.A.in1) c hh j1 a na its.toArray) (drB (P := X.prog) (w := X.w) (A := X.A.in1) d hh j2 b nb its2.toArray) hz hTI hTO ⟨h1, p⟩ ⟨h2, p2⟩ k1 k2 fun y1 y2 h' tk e1 e2 z' TO' g1 g2 hT hsz hk => ?_
    obtain rfl : y1 = u := by rw [show its.toArray[i]? = some u by simpa using hu] at e1; cases e1; rfl
    obtain rfl : y2 = u2 := by rw [show its2.toArray[i]? = some u2 by simpa using hu2] at e2; cases e2; rfl
    refine ⟨_, rfl, wpAny_letOwnedTupleGo_zip (s := { s with heap := h', toks := tk }) z' fun h'' z'' sb => ?_⟩
    have T2 : h''.get? s.heap.objs.size = some { cls := .type "tuple", data := .seq #[y1, y2] } := (sb.2 _ (Nat.ne_of_gt zl)).trans hT
    have nw : ObjOk X.prog X.w (upd H s.heap.objs.size (.tup [x, y])) h'' s.heap.objs.size (.tup [x, y]) := ⟨by show 2 ≤ sizeLine; decide, [y1, y2], .cons ru (.cons ru2 .nil), ⟨_, T2, rfl, _, rfl⟩⟩
    have I1 : Inv X pins σ (upd H s.heap.objs.size (.tup [x, y])) { s with heap := h'', toks := tk } := I.turnedNew (ch := [z, TI, TO, j1, j2]) (fun q o hb r => (sb.2 q (fun q' => hb (by simp [q']))).trans (hk q o (fun q' => hb (by simp [q'])) (fun q' => hb (by simp [q'])) (fun q' => hb (by simp [q'])) (fun q' => hb (by simp [q'])) r)) hf (Nat.le_refl _) nw
    refine ⟨.ref s.heap.objs.size, _, I1, rfl, ⟨_, x, y, rfl, I.hok.fresh (Nat.le_refl _), rfl, fun l hl => by rw [injB I hl hqx]; exact hx, fun l hl => by rw [injB I hl hqy]; exact hy⟩, ⟨z'', (sb.2 _ D.TIz).trans (hk _ _ D.TIz D.TITO D.TIi1 D.TIi2 hTI), ⟨y1, y2, (sb.2 _ D.TOz).trans TO'⟩, itB_at g1.1 fun o q => (sb.2 _ (fun e => D.zi1 e.symm)).trans q, itB_at g2.1 fun o q => (sb.2 _ (fun e => D.zi2 e.symm)).trans q⟩, fun q hq => ?_⟩
    have lt : q < s.heap.objs.size := by
      rcases (show q = z ∨ q = TI ∨ q = TO ∨ q = j1 ∨ q = j2 by simpa using hq) with r | r | r | r | r <;> rw [r]
      · exact zl
      · exact Heap.lt_size hTI
      · exact Heap.lt_size hTO
      · obtain ⟨_, e, _⟩ := itB_ob h1; exact Heap.lt_size e
      · obtain ⟨_, e, _⟩ := itB_ob h2; exact Heap.lt_size e
    rw [upd_ne (Nat.ne_of_lt lt)]
    exact (hf q hq).1
  done := by
    intro X hP hw hK hc i pins s σ H E I hf ⟨hz, hTI, ⟨x0, y0, hTO⟩, h1, h2⟩ ⟨xs, ys, hqx, hqy, m1, m2, en⟩
    subst hP hw hK
    obtain ⟨its, rv, p, la⟩ := seqB I hqx
    obtain ⟨its2, rv2, p2, lb⟩ := seqB I hqy
    have hh : X.A.in1.handled = none := by have := I.ok.hd hc; simpa using this
    have l1 : its.toArray.size = xs.length := by rw [List.size_toArray, ← rv.length]
    have l2 : its2.toArray.size = ys.length := by rw [List.size_toArray, ← rv2.length]
    exact wpAny_pyNext_zipD2_end D (drB (P := X.prog) (w := X.w) (A := X.A.in1) c hh j1 a na its.toArray) (drB (P := X.prog) (w := X.w) (A := X.A.in1) d hh j2 b nb its2.toArray) hz hTI hTO ⟨h1, p⟩ ⟨h2, p2⟩ (by omega) (by omega) (by omega) fun h' tk hk =>
      ⟨rfl, I.turnedL (ch := [z, TI, TO, j1, j2]) (fun q o hb r => hk q o (fun q' => hb (by simp [q'])) (fun q' => hb (by simp [q'])) (fun q' => hb (by simp [q'])) (fun q' => hb (by simp [q'])) r) hf⟩
  self := fun A i s Q E st h => wpAny_pyIter_zip st.1 h
def iZipB (K : PySem.W.Frag) (c d : Bool) (ta : TA) : TI := fun σ H R => ta σ H fun vs H1 => ∃ a b xs ys, vs = [.ref a, .ref b] ∧ SqB K c H1 a xs ∧ SqB K d H1 b ys ∧ R (ItzB K c d a b) H1
theorem g_zipB {σ : L2.St} {H : Hp} {K : PySem.W.Frag} {c d : Bool} {ta : TA} {R : It → Hp → Prop} (h : ta σ H fun vs H1 => ∃ a b xs ys, vs = [.ref a, .ref b] ∧ SqB K c H1 a xs ∧ SqB K d H1 b ys ∧ R (ItzB K c d a b) H1) : iZipB K c d ta σ H R := h
theorem pi_zipB {X : Cx} (K : PySem.W.Frag) (c d : Bool) {e e2 : Expr} {ta : TA} {p pos tpos : Pos} {elts : List Expr} {kk : Nat} (hg : Gl X "zip") (hm : X.mg "zip" = none) (ha : PA X [e, e2] ta)
    (hs : starEach [e, e2] X.env = (false, eval e X.env) :: starEach [e2] X.env := by rfl) (hpl : (backTo pos (starEach [e2] X.env)).any (·.1) = false := by rfl) (hK : X.K = K := by rfl) : PI X (.Tuple elts kk tpos) (.Call (.Name "zip" p) [e, e2] [] pos) (iZipB K c d ta) := by
  subst hK
  refine ⟨fun pins s σ H R I h => Call_ (ld_blt I hg hm PyProof.Rows.boot_zip (PyProof.Rows.callWith_type1 (thn (ha.run pos pins s σ H _ I h) fun us s1 ⟨vs, H1, I1, r1, q1⟩ => ?_) hs hpl))⟩
  obtain ⟨a, b, xs, ys, rfl, hqx, hqy, q⟩ := q1
  cases r1 with
  | cons r rr =>
    cases rr with
    | cons r' rr =>
      cases rr; cases r; cases r'
      obtain ⟨its, rv, p1, la⟩ := seqB I1 hqx
      obtain ⟨its2, rv2, p2, lb⟩ := seqB I1 hqy
      refine zip_begins2 (begB c a its.toArray) (begB d b its2.toArray) p1 p2 fun h' hz hTI hTO h1 h2 hsz hk => wpAny_pyIter_zip hz ?_
      have I2 : Inv X pins σ H1 { s1 with heap := h' } := I1.kept (t' := s1.toks) hk
      have sep := zip_sep2 (N := s1.heap.objs.size) (fp1 := [a]) (fp2 := [b]) (fun q hq => by rw [List.mem_singleton.mp hq]; exact la) (fun q hq => by rw [List.mem_singleton.mp hq]; exact lb)
      refine ⟨s1.heap.objs.size + 4, [s1.heap.objs.size + 4, s1.heap.objs.size + 2, s1.heap.objs.size + 3, s1.heap.objs.size, s1.heap.objs.size + 1], _, _, H1, rfl, I2, turn_zipB sep (Nat.ne_of_lt la) (Nat.ne_of_lt (Nat.lt_succ_of_lt lb)), ⟨hz, hTI, ⟨_, _, hTO⟩, itB_new h1, itB_new h2⟩, fun q hq => ?_, q⟩
      have le : s1.heap.objs.size ≤ q := by
        rcases (show q = s1.heap.objs.size + 4 ∨ q = s1.heap.objs.size + 2 ∨ q = s1.heap.objs.size + 3 ∨ q = s1.heap.objs.size ∨ q = s1.heap.objs.size + 1 by simpa using hq) with z | z | z | z | z <;> rw [z]
        · exact Nat.le_add_right _ _
        · exact Nat.le_add_right _ _
        · exact Nat.le_add_right _ _
        · exact Nat.le_refl _
        · exact Nat.le_add_right _ _
      exact I1.fpOk le (I1.hok.fresh le)
/-- a loop over zip of two of one length -/
theorem for_zipB {K : PySem.W.Frag} {c d : Bool} {a b : Addr} {xs ys : List V} {g : TG} {tb : TS} {D : Ends} {σ : L2.St} {H : Hp} (len : xs.length = ys.length) (Pv : Nat → L2.St → Hp → Prop) (h0 : Pv 0 σ H) (hq : ∀ i σ H, Pv i σ H → SqB K c H a xs ∧ SqB K d H b ys)
    (hs : ∀ (i : Nat) (x y : V) (T : Addr) (σ : L2.St) (H : Hp), xs[i]? = some x → ys[i]? = some y → Pv i σ H → H T = none → g (.ref T) σ (upd H T (.tup [x, y])) fun σ2 H2 => tb { D with nx := Pv (i + 1), ct := Pv (i + 1), bk := D.nx } σ2 H2) (hd : ∀ σ H, Pv xs.length σ H → D.nx σ H) :
    ∃ W : Nat → Nat → L2.St → Hp → Prop, (∃ m, W 0 m σ H) ∧ ∀ i m σ H, W i m σ H →
      ((ItzB K c d a b).stop i H ∧ D.nx σ H) ∨ ((ItzB K c d a b).go i H ∧ ∃ N : L2.St → Hp → Prop, (∀ σ' H', N σ' H' → ∃ m', m' < m ∧ W (i + 1) m' σ' H') ∧ ∀ v H', (ItzB K c d a b).yld i H v H' → g v σ H' fun σ2 H2 => tb { D with nx := N, ct := N, bk := D.nx } σ2 H2) := by
  refine ⟨fun i m σ H => i + m = xs.length ∧ Pv i σ H, ⟨xs.length, Nat.zero_add _, h0⟩, fun i m σ H w => ?_⟩
  obtain ⟨qx, qy⟩ := hq i σ H w.2
  cases m with
  | zero =>
    have e : i = xs.length := w.1
    exact .inl ⟨⟨xs, ys, qx, qy, by omega, by omega, .inl e⟩, hd σ H (by rw [← e]; exact w.2)⟩
  | succ m =>
    have k1 : i < xs.length := by have := w.1; omega
    have k2 : i < ys.length := by omega
    refine .inr ⟨⟨xs, ys, xs[i], ys[i], qx, qy, List.getElem?_eq_getElem k1, List.getElem?_eq_getElem k2⟩, Pv (i + 1), fun σ' H' z => ⟨m, Nat.lt_succ_self m, by have := w.1; omega, z⟩, fun v H' yl => ?_⟩
    obtain ⟨T, x', y', rfl, hT, rfl, f1, f2⟩ := yl
    exact hs i x' y' T σ H (f1 xs qx) (f2 ys qy) w.2 hT
/-- a comprehension over zip of two of one length -/
theorem lc_zipB {K : PySem.W.Frag} {c d : Bool} {a b : Addr} {xs ys : List V} {g : TG} {tt : TT} {te : TE} {vs : List Nat} {σ : L2.St} {H1 : Hp} {D : Addr} {Qd : Hp → Prop} (len : xs.length = ys.length) (Pv : Nat → Hp → Prop) (h0 : Pv 0 (upd H1 D (.lst []))) (hq : ∀ i H, Pv i H → SqB K c H a xs ∧ SqB K d H b ys)
    (turn : ∀ (i : Nat) (x y : V) (T : Addr) (H : Hp), xs[i]? = some x → ys[i]? = some y → Pv i H → H T = none → g (.ref T) (wipe σ vs) (upd H T (.tup [x, y])) fun σ2 H2 => wipe σ2 vs = wipe σ vs ∧ tt σ2 H2 fun b H3 =>
      if b = true then te σ2 H3 fun y H4 => ∃ acc, H4 D = some (.lst acc) ∧ acc.length < sizeLine ∧ Pv (i + 1) (upd H4 D (.lst (acc ++ [y]))) else Pv (i + 1) H3) (done : ∀ H, Pv xs.length H → Qd H) :
    ∃ W : Nat → Nat → Hp → Prop, (∃ m, W 0 m (upd H1 D (.lst []))) ∧ ∀ i m H, W i m H →
      ((ItzB K c d a b).stop i H ∧ Qd H) ∨ ((ItzB K c d a b).go i H ∧ ∃ Nx : Hp → Prop, (∀ H', Nx H' → ∃ m', m' < m ∧ W (i + 1) m' H') ∧ ∀ x H', (ItzB K c d a b).yld i H x H' → g x (wipe σ vs) H' fun σ2 H2 => wipe σ2 vs = wipe σ vs ∧ tt σ2 H2 fun b H3 =>
        if b = true then te σ2 H3 fun y H4 => ∃ acc, H4 D = some (.lst acc) ∧ acc.length < sizeLine ∧ Nx (upd H4 D (.lst (acc ++ [y]))) else Nx H3) := by
  refine ⟨fun i m H => i + m = xs.length ∧ Pv i H, ⟨xs.length, Nat.zero_add _, h0⟩, fun i m H w => ?_⟩
  obtain ⟨qx, qy⟩ := hq i H w.2
  cases m with
  | zero =>
    have e : i = xs.length := w.1
    exact .inl ⟨⟨xs, ys, qx, qy, by omega, by omega, .inl e⟩, done H (by rw [← e]; exact w.2)⟩
  | succ m =>
    have k1 : i < xs.length := by have := w.1; omega
    have k2 : i < ys.length := by omega
    refine .inr ⟨⟨xs, ys, xs[i], ys[i], qx, qy, List.getElem?_eq_getElem k1, List.getElem?_eq_getElem k2⟩, Pv (i + 1), fun H' z => ⟨m, Nat.lt_succ_self m, by have := w.1; omega, z⟩, fun v H' yl => ?_⟩
    obtain ⟨T, x', y', rfl, hT, rfl, f1, f2⟩ := yl
    exact turn i x' y' T H (f1 xs qx) (f2 ys qy) w.2 hT
end Rt
set_option Elab.async false
set_option linter.all false
set_option maxRecDepth 100000
set_option maxHeartbeats 4000000
/-! The mathematics of tallies (k06, k27, k28, k54, k58). -/
namespace Rt
open PySem PySem.Spec L2
/-! ### ascending, each once -/
def insI (v : Int) : List Int → List Int
  | [] => [v]
  | x :: xs => if v < x then v :: x :: xs else if v = x then x :: xs else x :: insI v xs
def ascI (l : List Int) : List Int := l.foldr insI []
theorem insI_mem {v a : Int} : ∀ l : List Int, a ∈ insI v l ↔ a = v ∨ a ∈ l
  | [] => by simp [insI]
  | x :: xs => by
    unfold insI
    split
    · simp
    · split
      · rename_i e; subst e; simp
      · simp only [List.mem_cons, insI_mem xs]
        constructor
        · rintro (h | h | h)
          · exact .inr (.inl h)
          · exact .inl h
          · exact .inr (.inr h)
        · rintro (h | h | h)
          · exact .inr (.inl h)
          · exact .inl h
          · exact .inr (.inr h)
theorem insI_asc {v : Int} : ∀ {l : List Int}, l.Pairwise (· < ·) → (insI v l).Pairwise (· < ·)
  | [], _ => by simp [insI]
  | x :: xs, h => by
    obtain ⟨h1, h2⟩ := List.pairwise_cons.mp h
    unfold insI
    split
    · rename_i c
      refine List.pairwise_cons.mpr ⟨fun y hy => ?_, h⟩
      rcases List.mem_cons.mp hy with z | z
      · omega
      · have := h1 y z; omega
    · split
      · exact h
      · refine List.pairwise_cons.mpr ⟨fun y hy => ?_, insI_asc h2⟩
        rcases (insI_mem xs).mp hy with z | z
        · omega
        · exact h1 y z
theorem ascI_mem {a : Int} : ∀ l : List Int, a ∈ ascI l ↔ a ∈ l
  | [] => Iff.rfl
  | x :: xs => by
    show a ∈ insI x (ascI xs) ↔ _
    rw [insI_mem, ascI_mem xs, List.mem_cons]
theorem ascI_asc : ∀ l : List Int, (ascI l).Pairwise (· < ·)
  | [] => List.Pairwise.nil
  | x :: xs => insI_asc (ascI_asc xs)
theorem ascI_eq {l ys : List Int} (h : ys.Pairwise (· < ·)) (m : ∀ a, a ∈ ys ↔ a ∈ l) : ys = ascI l := asc_extM h (ascI_asc l) fun a => by rw [m, ascI_mem]
theorem ascI_len : ∀ l : List Int, (ascI l).length ≤ l.length
  | [] => Nat.le_refl _
  | x :: xs => by
    have : ∀ (v : Int) (l : List Int), (insI v l).length ≤ l.length + 1 := fun v l => by
      induction l with
      | nil => simp [insI]
      | cons y ys ih =>
        unfold insI
        split
        · simp
        · split
          · simp
          · simp; exact ih
    have a := this x (ascI xs)
    have b := ascI_len xs
    show (insI x (ascI xs)).length ≤ xs.length + 1
    omega
/-! ### a tally -/
def sgT (s t : Int) : Int := if s < t then -1 else 1
def tlyK (ss ts : List Int) (v : Int) : Nat → Int
  | 0 => 0
  | n + 1 => tlyK ss ts v n + (if ss.getD n 0 = v then sgT v (ts.getD n 0) else 0)
def tly (ss ts : List Int) (v : Int) : Int := tlyK ss ts v ss.length
def tlyP (ss ts : List Int) (i : Nat) : List (Int × Int) := (((ascI ss).take i).filter fun v => decide (tly ss ts v ≠ 0)).map fun v => (v, tly ss ts v)
def tlyL (ss ts : List Int) : List (Int × Int) := tlyP ss ts (ascI ss).length
theorem tlyK_no {ss ts : List Int} {v : Int} (h : v ∉ ss) : ∀ n, n ≤ ss.length → tlyK ss ts v n = 0
  | 0, _ => rfl
  | n + 1, hn => by
    have ne : ss.getD n 0 ≠ v := fun e => h (by rw [← e]; exact getD_mem (by omega))
    rw [tlyK, tlyK_no h n (by omega), if_neg ne]; rfl
theorem tlyK_bd {ss ts : List Int} {v : Int} : ∀ n : Nat, -(n : Int) ≤ tlyK ss ts v n ∧ tlyK ss ts v n ≤ (n : Int)
  | 0 => by simp [tlyK]
  | n + 1 => by
    obtain ⟨a, b⟩ := tlyK_bd (ss := ss) (ts := ts) (v := v) n
    rw [tlyK]
    unfold sgT
    split
    · split <;> omega
    · omega
theorem tlyP_zero {ss ts : List Int} : tlyP ss ts 0 = [] := rfl
theorem tlyP_step {ss ts : List Int} {i : Nat} {v : Int} (h : (ascI ss)[i]? = some v) : tlyP ss ts (i + 1) = tlyP ss ts i ++ (if tly ss ts v = 0 then [] else [(v, tly ss ts v)]) := by
  unfold tlyP
  rw [take_more h, List.filter_append, List.map_append]
  congr 1
  rw [List.filter_cons]
  by_cases c : tly ss ts v = 0
  · rw [if_pos c, if_neg (by simpa using c)]; rfl
  · rw [if_neg c, if_pos (by simpa using c)]; rfl
theorem tlyP_len {ss ts : List Int} (i : Nat) : (tlyP ss ts i).length ≤ ss.length := by
  unfold tlyP
  rw [List.length_map]
  have a := List.length_filter_le (fun v => decide (tly ss ts v ≠ 0)) ((ascI ss).take i)
  have b := ascI_len ss
  rw [List.length_take] at a
  omega
/-- pairs ascend by their values -/
def AscP (l : List (Int × Int)) : Prop := l.Pairwise fun x y => x.1 < y.1
theorem tlyL_asc {ss ts : List Int} : AscP (tlyL ss ts) := by
  unfold tlyL tlyP AscP
  rw [List.pairwise_map, List.take_length]
  exact (ascI_asc ss).sublist List.filter_sublist
/-- what a list of pairs tells at a value -/
def atL : List (Int × Int) → Int → Int
  | [], _ => 0
  | (a, b) :: l, v => if a = v then b else atL l v
theorem atL_no : ∀ {l : List (Int × Int)} {v : Int}, (∀ p ∈ l, p.1 ≠ v) → atL l v = 0
  | [], _, _ => rfl
  | (a, b) :: l, v, h => by
    rw [atL, if_neg (h (a, b) List.mem_cons_self)]
    exact atL_no fun p hp => h p (List.mem_cons_of_mem _ hp)
theorem atL_first : ∀ {l : List (Int × Int)} {v : Int} {i : Nat} {p : Int × Int}, l[i]? = some p → p.1 = v → (∀ j, j < i → ∀ q, l[j]? = some q → q.1 ≠ v) → atL l v = p.2
  | [], _, i, _, h, _, _ => by simp at h
  | (a, b) :: l, v, 0, p, h, e, _ => by
    cases h
    rw [atL, if_pos e]
  | (a, b) :: l, v, i + 1, p, h, e, k => by
    rw [atL, if_neg (k 0 (Nat.succ_pos i) (a, b) rfl)]
    exact atL_first (by simpa using h) e fun j hj q hq => k (j + 1) (by omega) q (by simpa using hq)
theorem atL_none {l : List (Int × Int)} {v : Int} (h : ∀ (i : Nat) (p : Int × Int), l[i]? = some p → p.1 ≠ v) : atL l v = 0 := atL_no fun p hp => by
  obtain ⟨i, hi⟩ := List.mem_iff_getElem?.mp hp
  exact h i p hi
/-- c tells how the two compare -/
def CmpS (l m : List (Int × Int)) (c : Int) : Prop := (c = 0 ∧ ∀ v, atL l v = atL m v) ∨ ∃ v, atL l v ≠ atL m v ∧ (∀ u, u < v → atL l u = atL m u) ∧ c = if atL l v < atL m v then -1 else 1
theorem CmpS.uniq {l m : List (Int × Int)} {c d : Int} (h : CmpS l m c) (k : CmpS l m d) : c = d := by
  rcases h with ⟨rfl, h⟩ | ⟨v, n, b, rfl⟩ <;> rcases k with ⟨rfl, k⟩ | ⟨u, n2, b2, rfl⟩
  · rfl
  · exact absurd (h u) n2
  · exact absurd (k v) n
  · have e : v = u := by
      rcases Int.lt_trichotomy v u with z | z | z
      · exact absurd (b2 v z) n
      · exact z
      · exact absurd (b u z) n2
    subst e; rfl
/-- the least of the values that tell apart -/
theorem CmpS.of_min {l m : List (Int × Int)} {vs : List Int} (hv : ∀ p, p ∈ l ∨ p ∈ m → p.1 ∈ vs) : (∀ v ∈ vs, atL l v = atL m v) → CmpS l m 0 := fun h => .inl ⟨rfl, fun v => by
  by_cases c : v ∈ vs
  · exact h v c
  · rw [atL_no fun p hp e => c (by rw [← e]; exact hv p (.inl hp)), atL_no fun p hp e => c (by rw [← e]; exact hv p (.inr hp))]⟩
theorem CmpS.of_least {l m : List (Int × Int)} {vs : List Int} {v : Int} (hv : ∀ p, p ∈ l ∨ p ∈ m → p.1 ∈ vs) (ne : atL l v ≠ atL m v) (h : ∀ u ∈ vs, atL l u ≠ atL m u → v ≤ u) : CmpS l m (if atL l v < atL m v then -1 else 1) := .inr ⟨v, ne, fun u hu => by
  refine Decidable.byContradiction fun z => ?_
  by_cases c : u ∈ vs
  · have := h u c z; omega
  · exact z (by rw [atL_no fun p hp e => c (by rw [← e]; exact hv p (.inl hp)), atL_no fun p hp e => c (by rw [← e]; exact hv p (.inr hp))]), rfl⟩
/-! ### lists of pairs in the heap -/
def rowP (l : List (Int × Int)) (k : Nat) : List Int := [(l.getD k (0, 0)).1, (l.getD k (0, 0)).2]
theorem rowP_at {l : List (Int × Int)} {k : Nat} {p : Int × Int} (h : l[k]? = some p) : rowP l k = [p.1, p.2] := by
  unfold rowP
  rw [List.getD_eq_getElem?_getD, h]; rfl
theorem rowP_app {l : List (Int × Int)} {p : Int × Int} {k : Nat} (h : k < l.length) : rowP (l ++ [p]) k = rowP l k := by
  unfold rowP
  rw [List.getD_eq_getElem?_getD, List.getElem?_append_left h, ← List.getD_eq_getElem?_getD]
theorem rowP_last {l : List (Int × Int)} {p : Int × Int} : rowP (l ++ [p]) l.length = [p.1, p.2] := rowP_at (by rw [List.getElem?_append_right (Nat.le_refl _), Nat.sub_self]; rfl)
/-- the list at a holds the pairs l, each a tuple at an address with N -/
def PrA (N : Addr → Prop) (H : Hp) (xs : List V) (l : List (Int × Int)) : Prop := RA N true H xs l.length (rowP l)
theorem PrA.nil {N : Addr → Prop} {H : Hp} : PrA N H [] [] := RA.nil
theorem PrA.mono {N : Addr → Prop} {H H' : Hp} {xs : List V} {l : List (Int × Int)} (h : PrA N H xs l) (S : Same H H') : PrA N H' xs l := RA.mono h S
theorem PrA.weak {N M : Addr → Prop} {H : Hp} {xs : List V} {l : List (Int × Int)} (h : PrA N H xs l) (w : ∀ t, N t → M t) : PrA M H xs l := RA.weak h w
theorem PrA.more {N : Addr → Prop} {H : Hp} {xs : List V} {l : List (Int × Int)} {p : Int × Int} {t : Addr} (h : PrA N H xs l) (c : N t) (ht : H t = some (.tup [.int p.1, .int p.2])) : PrA N H (xs ++ [V.ref t]) (l ++ [p]) := by
  unfold PrA
  rw [show (l ++ [p]).length = l.length + 1 by simp]
  refine RA.more (RA.congr h fun k hk => (rowP_app hk).symm) c ?_
  rw [if_pos rfl, rowP_last]; exact ht
theorem PrA.upd {N : Addr → Prop} {H : Hp} {xs : List V} {l : List (Int × Int)} {a : Addr} {o : HO} (h : PrA N H xs l) (w : ∀ t, N t → t ≠ a) : PrA N (upd H a o) xs l := RA.upd h w
theorem PrA.at_ {N : Addr → Prop} {H : Hp} {xs : List V} {l : List (Int × Int)} (h : PrA N H xs l) {k : Nat} {p : Int × Int} (hk : l[k]? = some p) : ∃ t : Addr, xs[k]? = some (V.ref t) ∧ N t ∧ H t = some (.tup [.int p.1, .int p.2]) := by
  obtain ⟨t, a, b, c⟩ := h.2 k (List.getElem?_eq_some_iff.mp hk).1
  rw [if_pos rfl, rowP_at hk] at c
  exact ⟨t, a, b, c⟩
theorem PrA.of {N : Addr → Prop} {H : Hp} {xs : List V} {l : List (Int × Int)} (h : PrA N H xs l) {k : Nat} {x : V} (hx : xs[k]? = some x) : ∃ (p : Int × Int) (t : Addr), l[k]? = some p ∧ x = .ref t ∧ N t ∧ H t = some (.tup [.int p.1, .int p.2]) := by
  have hk : k < l.length := by rw [← show xs.length = l.length from h.1]; exact (List.getElem?_eq_some_iff.mp hx).1
  obtain ⟨t, a, b, c⟩ := h.at_ (List.getElem?_eq_getElem hk)
  rw [hx] at a
  exact ⟨_, t, List.getElem?_eq_getElem hk, Option.some.inj a, b, c⟩
end Rt
set_option Elab.async false
set_option linter.all false
set_option maxRecDepth 100000
set_option maxHeartbeats 4000000
/-! sorted of a set, of a list of iA, of any length; list of a dict; sorted of a dict. -/
namespace L2
open PySem PySem.Spec PyProof.Rows
section
variable {P : Program} {w : World} {A : Around} {E : Value → Shared → Prop} {s : Shared} {a : Addr}
theorem sorted_setW {S : Int → Bool} {n : Nat} {Q : Value → Shared → Prop} (R : SetR w s.heap a S n) (hh : A.handled = none) (few : n ≤ 100000)
    (back : ∀ s' p (out : Array Value) (c : Nat) (ns : List Int), (∀ b o, s.heap.get? b = some o → s'.heap.get? b = some o) → s'.gens = s.gens → s'.os = s.os → s.heap.objs.size ≤ p → s'.heap.get? p = some (seqObj "list" out c) → IntsAre out.toList ns → ns.Pairwise (· < ·) → (∀ k, k ∈ ns ↔ S k = true) → ns.length = n → Q (.ref p) s') :
    wpAny (model P w) A (call (.builtin "sorted") [.ref a]) Q E s := by
  obtain ⟨o, es, ep, t, at_, ex, da, g, nd, hm, hb, hf, hn, hr, hl⟩ := R
  refine Calls.call_function_entry kind_sorted plain_sorted entry_sorted (args_sorted1 _) ?_
  unfold Builtin.«sorted»
  refine wpAny_bind (m := checkCount "sorted" 1 1 _) (wpAny_pure ?_)
  refine wpAny_bind (collect_set (A := A.in1) hh ⟨o, at_, ex.1, da⟩ hf hb hr hl fun s1 vs kp1 sz1 gs1 os1 pm => ?_)
  have hlen : vs.length = n := by rw [pm.length_eq, List.length_map, Array.length_toList]; exact hn
  have iA : IntsAre vs (vs.map Builtin.Re.reRawOf) := ints_of vs fun v hv => let ⟨e, he, q⟩ := List.mem_map.mp (pm.mem_iff.mp hv); let ⟨k, tk, e1, _⟩ := g e he; ⟨k, tk, by rw [← q]; exact e1⟩
  have keys : (vs.map Builtin.Re.reRawOf).Perm (es.toList.map keyOf) := by
    have q := pm.map Builtin.Re.reRawOf; rw [List.map_map] at q; exact q
  refine wpAny_bind (wpAny_newList ?_ (by rw [hlen, sizeLine_eq]; omega))
  have new : (s1.heap.push (seqObj "list" vs.toArray 0)).get? s1.heap.objs.size = some (seqObj "list" vs.toArray 0) := Heap.get?_push_size _ rfl
  refine wpAny_bind (wpAny_holding (wpAny_call_entry slot_list_sort ⟨_, new, rfl⟩ entry_list_sort (list_sort_treeAny new iA (by rw [hlen, sizeLine_eq]; omega) fun out ns' b1 b2 b3 => ⟨_, rfl, ?_⟩) (args_list_sort _)))
  obtain ⟨c, hc⟩ := sortedHeap_at (vs := vs) (out := out) new
  have pn : ns'.Perm (es.toList.map keyOf) := b2.trans keys
  refine wpAny_pure ⟨_, rfl, back _ s1.heap.objs.size out c ns' (fun b u e => ?_) gs1 os1 sz1 hc b1 (lt_of_le_nodup ns' b3 (pn.nodup_iff.mpr nd)) (fun k => by rw [pn.mem_iff, ← hm k]) (by rw [pn.length_eq, List.length_map, Array.length_toList]; exact hn)⟩
  have q := kp1 b u e
  have lt := Heap.lt_size q
  show (sortedHeap (s1.heap.push (seqObj "list" vs.toArray 0)) s1.heap.objs.size vs out).get? b = some u
  rw [sortedHeap_old (Nat.ne_of_lt lt) (by rw [size_push']; exact Nat.lt_succ_of_lt lt)]
  exact Heap.get?_push_of_some _ q
end
end L2
namespace Rt
open PySem PySem.Spec L2 PyProof.Rows
section
variable {X : Cx}
def rSortW (w : World) : List V → Hp → VK → Prop := fun vs H Q => ∃ (a : Addr) (S : Int → Bool) (n : Nat), vs = [V.ref a] ∧ H a = some (SetO w a S n) ∧ n ≤ 100000 ∧
  ∀ (ns : List Int) (p : Addr), ns.Pairwise (· < ·) → (∀ k : Int, k ∈ ns ↔ S k = true) → ns.length = n → H p = none → Q (.ref p) (upd H p (.lst (ns.map V.int)))
theorem cr_sortW {w : World} (hc : X.calm = true) (hw : X.w = w := by rfl) : CallR X (.builtin "sorted") (rSortW w) := by
  subst hw
  intro pins s σ H vs us Q I r ⟨a, S, n, e, ha, few, q⟩
  subst e
  rw [Vals.ref1 r]
  refine sorted_setW (setO_get I ha) (I.ok.hd hc) few fun s' p out c ns k g o hp hg hi hs hm hl => ?_
  have hlen : (ns.map V.int).length ≤ sizeLine := by rw [List.length_map, hl, sizeLine_eq]; omega
  have nw : H p = none := I.hok.fresh hp
  have J : Inv X pins σ (upd H p (.lst (ns.map V.int))) { s with heap := s'.heap, gens := s'.gens, drawn := s'.drawn, toks := s'.toks } := I.call (ch := []) (Un.laid k hp nw) (I.hok.laid k hp ⟨hlen, out.toList, c, vals_of_ints hi, hg⟩) (by rw [g]; exact I.bare) (fun _ z => nomatch z)
  have es : s' = { s with heap := s'.heap, gens := s'.gens, drawn := s'.drawn, toks := s'.toks } := by
    cases s'; cases s; cases o; rfl
  rw [es]
  exact ⟨.ref p, _, J, rfl, q ns p hs hm hl nw⟩
def rSortLW (K : PySem.W.Frag) : List V → Hp → VK → Prop := fun vs H Q => ∃ (a : Addr) (ns : List Int), vs = [V.ref a] ∧ SqL K H a (ns.map V.int) ∧ ns.length ≤ 100000 ∧ ∀ (ys : List Int) (p : Addr), ys.Perm ns → ys.Pairwise (· ≤ ·) → H p = none → Q (.ref p) (upd H p (.lst (ys.map V.int)))
theorem cr_sortLW (K : PySem.W.Frag) (h : X.K = K := by rfl) : CallR X (.builtin "sorted") (rSortLW K) := by
  subst h
  intro pins s σ H vs us Q I r ⟨a, ns, e, hs, few, q⟩
  subst e
  obtain ⟨its, rv, hl, _⟩ := I.list hs
  rw [Vals.ref1 r]
  have hi := rv.ints
  refine PyProof.Rows.sorted_intsAny hl.isList hi (by rw [hi.length, sizeLine_eq]; omega) fun out ys b1 b2 b3 => ?_
  obtain ⟨ep, at_⟩ := PyProof.Rows.sortedAll_at s.heap its out
  exact ⟨.ref _, upd H (s.heap.objs.size + 1) (.lst (ys.map V.int)), I.laid (t' := s.toks) (fun _ _ => PyProof.Rows.sortedAll_old) (Nat.le_succ _) ⟨by rw [List.length_map, b2.length_eq, sizeLine_eq]; omega, out.toList, ep, vals_of_ints b1, at_⟩, rfl, q ys _ b2 b3 (I.hok.fresh (Nat.le_succ _))⟩
end
/-! ### dicts whose keys are iA -/
abbrev KIn (ks : List (Int × V)) : List (Key × V) := ks.map fun p => (Sum.inl p.1, p.2)
end Rt
namespace Rt
open PySem PySem.Spec L2 PyProof.Rows
/-- the dict's keys are ints, what it holds at v is f v -/
structure DI (kvs : List (Key × V)) (f : Int → Option Int) : Prop where
  ex : ∃ ks : List Int, kvs.map (·.1) = ks.map Sum.inl ∧ ks.Nodup
  val : ∀ v : Int, valV kvs (Sum.inl v) = (f v).map V.int
theorem mem_valV {kvs : List (Key × V)} {k : Key} : k ∈ kvs.map (·.1) ↔ (valV kvs k).isSome = true := by
  induction kvs with
  | nil => simp [valV_nil]
  | cons p r ih =>
    by_cases e : p.1 = k
    · rw [valV_pos e]; simp [e]
    · rw [valV_neg e, ← ih, List.map_cons, List.mem_cons]
      constructor
      · rintro (z | z)
        · exact absurd z.symm e
        · exact z
      · exact .inr
theorem DI.mem {kvs : List (Key × V)} {f : Int → Option Int} (h : DI kvs f) {ks : List Int} (e : kvs.map (·.1) = ks.map Sum.inl) (v : Int) : v ∈ ks ↔ (f v).isSome = true := by
  have a : (Sum.inl v : Key) ∈ kvs.map (·.1) ↔ _ := mem_valV
  rw [e, h.val v] at a
  have b : (Sum.inl v : Key) ∈ ks.map (Sum.inl : Int → Key) ↔ v ∈ ks := by
    rw [List.mem_map]
    constructor
    · rintro ⟨w, hw, e⟩; cases e; exact hw
    · exact fun hw => ⟨v, hw, rfl⟩
  rw [← b, a]
  cases f v <;> simp
theorem DI.nil : DI [] (fun _ => none) := ⟨⟨[], rfl, List.nodup_nil⟩, fun v => rfl⟩
theorem keys_putK {kvs : List (Key × V)} {k : Key} {y : V} : (putK kvs k y).map (·.1) = if (valV kvs k).isSome = true then kvs.map (·.1) else kvs.map (·.1) ++ [k] := by
  cases e : valV kvs k with
  | none => rw [putK_new y e]; simp
  | some x =>
    unfold putK
    rw [valV_any, e]
    simp only [Option.isSome_some, if_true]
    rw [List.map_map]
    refine List.map_congr_left fun p hp => ?_
    show (if p.1 = k then (p.1, y) else p).1 = p.1
    split <;> rfl
theorem DI.put {kvs : List (Key × V)} {f : Int → Option Int} (h : DI kvs f) (k x : Int) : DI (putK kvs (Sum.inl k) (V.int x)) (fun v => if v = k then some x else f v) := by
  obtain ⟨ks, e, nd⟩ := h.ex
  refine ⟨?_, fun v => ?_⟩
  · rw [keys_putK]
    by_cases c : (valV kvs (Sum.inl k)).isSome = true
    · rw [if_pos c]; exact ⟨ks, e, nd⟩
    · rw [if_neg c, e]
      refine ⟨ks ++ [k], by simp, List.nodup_append.mpr ⟨nd, by simp, fun a ha b hb ab => ?_⟩⟩
      have hb := List.mem_singleton.mp hb
      subst hb; subst ab
      refine c ?_
      have := (h.mem e a).mp ha
      rw [h.val a]
      cases q : f a with
      | none => rw [q] at this; cases this
      | some z => rfl
  · rw [valV_put]
    by_cases c : v = k
    · subst c; rw [if_pos rfl, if_pos rfl]; rfl
    · rw [if_neg c, if_neg (fun z => c (by injection z)), h.val v]
theorem DI.get {H : Hp} {a : Addr} {kvs : List (Key × V)} {f : Int → Option Int} (h : DI kvs f) (e : H a = some (.dK kvs)) (v : Int) : DGet H a (.int v) ((f v).map V.int) := by
  have := DGet.k (k := Sum.inl v) e
  rw [h.val v] at this
  exact this
theorem g_dget {td ty : TE} {σ : L2.St} {H : Hp} {Q : VK} (h : td σ H fun x H1 => ty σ H1 fun y H2 => ∃ a v, x = .ref a ∧ DGet H2 a y (some v) ∧ Q v H2) : tDGet td ty σ H Q := h
theorem g_dget2 {td ty tx : TE} {σ : L2.St} {H : Hp} {Q : VK} (h : td σ H fun x H1 => ∃ a, x = .ref a ∧ IsD H1 a ∧ ty σ H1 fun y H2 => tx σ H2 fun z H3 => ∃ o, DGet H3 a y o ∧ Q (o.getD z) H3) : tDGet2 td ty tx σ H Q := h
theorem g_dput {td ty tv : TE} {D : Ends} {σ : L2.St} {H : Hp} (h : tv σ H fun v H1 => td σ H1 fun x H2 => ty σ H2 fun y H3 => ∃ a H4, x = .ref a ∧ DPut H3 a y v H4 ∧ D.nx σ H4) : sDPut td ty tv D σ H := h
theorem g_dnew {σ : L2.St} {H : Hp} {Q : VK} (h : ∀ p, H p = none → Q (.ref p) (upd H p (.dK []))) : tDNewK σ H Q := h
theorem g_dc {wi : TI} {g : TG} {tt : TT} {tk tv : TE} {vs : List Nat} {σ : L2.St} {H : Hp} {Q : VK} (h : wi σ H fun J H1 => ∀ D, H1 D = none → ∃ W : Nat → Nat → Hp → Prop, (∃ m, W 0 m (upd H1 D (.dK []))) ∧ ∀ i m H, W i m H →
  (J.stop i H ∧ Q (.ref D) H) ∨ (J.go i H ∧ ∃ Nx : Hp → Prop, (∀ H', Nx H' → ∃ m', m' < m ∧ W (i + 1) m' H') ∧ ∀ x H', J.yld i H x H' → g x (wipe σ vs) H' fun σ2 H2 => wipe σ2 vs = wipe σ vs ∧ tt σ2 H2 fun b H3 =>
    if b = true then tk σ2 H3 fun y H4 => tv σ2 H4 fun z H5 => ∃ kvs k, y = kV k ∧ H5 D = some (.dK kvs) ∧ kvs.length < sizeLine ∧ Nx (upd H5 D (.dK (putK kvs k z))) else Nx H3)) : tDc wi g tt tk tv vs σ H Q := h
/-- a dict comprehension over a list that stays -/
theorem dc_list {K : PySem.W.Frag} {a : Addr} {xs : List V} {g : TG} {tt : TT} {tk tv : TE} {vs : List Nat} {σ : L2.St} {H1 : Hp} {D : Addr} {Qd : Hp → Prop} (Pv : Nat → Hp → Prop) (h0 : Pv 0 (upd H1 D (.dK []))) (hl : ∀ i H, Pv i H → SqL K H a xs)
    (turn : ∀ i x H, xs[i]? = some x → Pv i H → g x (wipe σ vs) H fun σ2 H2 => wipe σ2 vs = wipe σ vs ∧ tt σ2 H2 fun b H3 =>
      if b = true then tk σ2 H3 fun y H4 => tv σ2 H4 fun z H5 => ∃ kvs k, y = kV k ∧ H5 D = some (.dK kvs) ∧ kvs.length < sizeLine ∧ Pv (i + 1) (upd H5 D (.dK (putK kvs k z))) else Pv (i + 1) H3) (done : ∀ H, Pv xs.length H → Qd H) :
    ∃ W : Nat → Nat → Hp → Prop, (∃ m, W 0 m (upd H1 D (.dK []))) ∧ ∀ i m H, W i m H →
      ((Itl K a).stop i H ∧ Qd H) ∨ ((Itl K a).go i H ∧ ∃ Nx : Hp → Prop, (∀ H', Nx H' → ∃ m', m' < m ∧ W (i + 1) m' H') ∧ ∀ x H', (Itl K a).yld i H x H' → g x (wipe σ vs) H' fun σ2 H2 => wipe σ2 vs = wipe σ vs ∧ tt σ2 H2 fun b H3 =>
        if b = true then tk σ2 H3 fun y H4 => tv σ2 H4 fun z H5 => ∃ kvs k, y = kV k ∧ H5 D = some (.dK kvs) ∧ kvs.length < sizeLine ∧ Nx (upd H5 D (.dK (putK kvs k z))) else Nx H3) := by
  refine ⟨fun i m H => i + m = xs.length ∧ Pv i H, ⟨xs.length, Nat.zero_add _, h0⟩, fun i m H w => ?_⟩
  have sq := hl i H w.2
  cases m with
  | zero =>
    have e : i = xs.length := w.1
    exact .inl ⟨⟨xs, sq, by omega⟩, done H (by rw [← e]; exact w.2)⟩
  | succ m =>
    have lt : i < xs.length := by have := w.1; omega
    refine .inr ⟨⟨xs, xs[i], sq, List.getElem?_eq_getElem lt⟩, Pv (i + 1), fun H' z => ⟨m, Nat.lt_succ_self m, by have := w.1; omega, z⟩, fun x H' y => ?_⟩
    obtain ⟨e, y⟩ := y
    subst e
    exact turn i x _ (y xs sq) w.2
end Rt
namespace Rt
open PySem PySem.Spec L2 PyProof.Rows
theorem g_ifV {c : Bool} {ta tb : TE} {σ : L2.St} {H : Hp} {Q : VK} {x y : V} (ha : ∀ Q' : VK, Q' x H → ta σ H Q') (hb : ∀ Q' : VK, Q' y H → tb σ H Q') (h : Q (if c = true then x else y) H) : if c = true then ta σ H Q else tb σ H Q := by
  cases c with
  | true => exact ha Q h
  | false => exact hb Q h
theorem DI.congr {kvs : List (Key × V)} {f g : Int → Option Int} (h : DI kvs f) (e : ∀ v, f v = g v) : DI kvs g := by
  have : f = g := funext e
  rw [← this]; exact h
theorem tlyK_none {ss ts : List Int} {v : Int} : ∀ n, n ≤ ss.length → v ∉ ss.take n → tlyK ss ts v n = 0
  | 0, _, _ => rfl
  | n + 1, hn, h => by
    rw [take_getD (show n < ss.length by omega), List.mem_append, not_or, List.mem_singleton] at h
    rw [tlyK, tlyK_none n (by omega) h.1, if_neg (fun e => h.2 e.symm)]; rfl
theorem omapD {o : Option Int} : (o.map V.int).getD (V.int 0) = V.int (o.getD 0) := by cases o <;> rfl
theorem mem_of_take {l : List Int} {n : Nat} {v : Int} (h : v ∈ l.take n) : v ∈ l := List.mem_of_mem_take h
theorem DI.len {kvs : List (Key × V)} {f : Int → Option Int} (h : DI kvs f) {ks : List Int} (e : kvs.map (·.1) = ks.map Sum.inl) : ks.length = kvs.length := by
  have := congrArg List.length e
  rw [List.length_map, List.length_map] at this
  exact this.symm
/-- the pairs' values -/
def kyP (l : List (Int × Int)) : List Int := l.map (·.1)
theorem kyP_take {l : List (Int × Int)} {i : Nat} {p : Int × Int} (h : l[i]? = some p) : kyP (l.take (i + 1)) = kyP (l.take i) ++ [p.1] := by
  unfold kyP
  rw [take_more h, List.map_append]; rfl
theorem atL_of {l : List (Int × Int)} (h : AscP l) {i : Nat} {p : Int × Int} (hi : l[i]? = some p) : atL l p.1 = p.2 := by
  refine atL_first hi rfl fun j hj q hq e => ?_
  obtain ⟨li, ei⟩ := List.getElem?_eq_some_iff.mp hi
  obtain ⟨lj, ej⟩ := List.getElem?_eq_some_iff.mp hq
  have := List.pairwise_iff_getElem.mp h j i lj li hj
  rw [ei, ej] at this
  omega
theorem kyP_mem {l : List (Int × Int)} {p : Int × Int} (h : p ∈ l) : p.1 ∈ kyP l := List.mem_map.mpr ⟨p, h, rfl⟩
theorem atL_miss {l : List (Int × Int)} {v : Int} (h : v ∉ kyP l) : atL l v = 0 := atL_no fun p hp e => h (by rw [← e]; exact kyP_mem hp)
/-- what the dict made of the first i pairs holds -/
def dcF (l : List (Int × Int)) (i : Nat) (v : Int) : Option Int := if v ∈ kyP (l.take i) then some (atL l v) else none
theorem dcF_step {l : List (Int × Int)} (h : AscP l) {i : Nat} {p : Int × Int} (hi : l[i]? = some p) (v : Int) : (if v = p.1 then some p.2 else dcF l i v) = dcF l (i + 1) v := by
  unfold dcF
  rw [kyP_take hi]
  by_cases c : v = p.1
  · subst c
    rw [if_pos rfl, if_pos (by simp), atL_of h hi]
  · rw [if_neg c]
    by_cases d : v ∈ kyP (l.take i)
    · rw [if_pos d, if_pos (by simp [d])]
    · rw [if_neg d, if_neg (by simp [d, c])]
theorem dcF_end {l : List (Int × Int)} (v : Int) : (dcF l l.length v).getD 0 = atL l v := by
  unfold dcF
  rw [List.take_length]
  split
  · rfl
  · rename_i c; rw [atL_miss c]; rfl
end Rt
namespace L2
open PySem PySem.Spec PyProof.Rows
section
variable {X : Cx}
theorem sw_trueD {kx vx : Expr} {gs : List Comprehension} {scope : Scope} {pos py : Pos} {y : Str} {l : Nat} {env : Env} (k : env.scope.kind = .function) (z : env.scope.names.lookup y = some .local) (e : (py.line == pos.line) = true) (a : (scope.names.any fun (n, k) => n == y && (k == .local || k == .cell)) = false) :
    swapsWith (.DictComp kx vx gs scope pos) (some (.Name y py)) l env = pure true := by
  have q : env.kindOf y = some .local := z
  have b : env.blockKind = .function := by unfold Env.blockKind; rw [k]; rfl
  unfold swapsWith
  simp only [b, q, a, Expr.pos, e]
  rfl
theorem ps_setDc {i : Nat} {y : Str} {py : Pos} {kx vx tg iter : Expr} {ifs : List Expr} {scope : Scope} {own : List (Str × Nat)} {pos spos : Pos} {wi : TI} {g : TG} {tt : TT} {tk tv : TE} (hc : X.calm = true) (hN : X.N.Nodup) (hy : X.N[i]? = some y) (hyl : X.env.scope.names.lookup y = some .local)
    (sw : swapsWith (.DictComp kx vx [⟨tg, iter, ifs, 0⟩] scope pos) (some (.Name y py)) spos.line X.env = pure true) (hi : PI X tg iter wi) (ok : BlkOk X.N X.env.scope scope own) (hg : ∀ (s : Shared) (H : Hp) (C : Addr) (cl : List (Str × Addr)) (fp : List Addr), PG (X.blk s H scope (compEnvC scope cl C X.env) fp) tg g)
    (ht : ∀ (s : Shared) (H : Hp) (C : Addr) (cl : List (Str × Addr)) (fp : List Addr), PTs (X.blk s H scope (compEnvC scope cl C X.env) fp) ifs tt) (hk : ∀ (s : Shared) (H : Hp) (C : Addr) (cl : List (Str × Addr)) (fp : List Addr), PE (X.blk s H scope (compEnvC scope cl C X.env) fp) kx tk)
    (he : ∀ (s : Shared) (H : Hp) (C : Addr) (cl : List (Str × Addr)) (fp : List Addr), PE (X.blk s H scope (compEnvC scope cl C X.env) fp) vx tv) (hs : ∀ x, foldedSetIterable iter X.env x = pure x := by intro _; rfl) :
    PS X (.Assign [.Name y py] (.DictComp kx vx [⟨tg, iter, ifs, 0⟩] scope pos) spos) (tAsg (tDc wi g tt tk tv (own.map (·.2))) (gName i)) := by
  refine ⟨fun pins s σ H D I hz => ?_⟩
  have h : tDc wi g tt tk tv (own.map (·.2)) σ H (fun x H1 => gName i x σ H1 D.nx) := hz
  rw [exec_Assign_Name_used _ _ _ _ sw]
  refine wpAny_bind (wpAny_standAt (wpAny_bind ?_))
  show wpAny _ X.A (do let _ ← comprehension (.DictComp kx vx [⟨tg, iter, ifs, 0⟩] scope pos) scope X.env (firstIterPos [⟨tg, iter, ifs, 0⟩] pos) newDict false (eval iter X.env) (some (assign (.Name y py) X.env))) _ _ s
  refine wpAny_bind (thn (dc_core (Qf := fun _ s' => SP X pins D .next s') hc hN I hi ok hg ht hk he hs h fun L C s' m H' I' q hn f => ?_) fun _ s' hq => wpAny_pure (wpAny_pure hq))
  show wpAny _ _ (assign (.Name y py) X.env (.ref L)) _ _ _
  refine wpAny_assign_Name (store_ok2 (v := V.ref L) I' hN hy (.inl hyl) rfl (fun s2 I2 ⟨a, sb, ha⟩ => ?_) (.inr hyl))
  obtain ⟨f0, f1, f2, f3, f4, f5⟩ := f
  have nC : C ≠ a := ha.elim (fun z => by rw [z]; exact f1) (fun z e => f4 y a z e.symm)
  exact ⟨m, hn.sameBut sb nC, fun h3 sb3 => ⟨_, H', I2.turned (t' := s2.toks) (fun b o hb e => (sb3.2 b hb).trans e) f0 f1 f3 f4 f5, q⟩⟩
end
end L2
namespace Rt
open PySem PySem.Spec L2 PyProof.Rows
theorem cr_minKL {X : Cx} (K : PySem.W.Frag) (hc : X.calm = true) (h : X.K = K := by rfl) : CallR X (.builtin "min") (rMin K) := by subst h; exact cr_min hc
end Rt
namespace Rt
open PySem PySem.Spec L2 PyProof.Rows
theorem lc_itemsV {K : PySem.W.Frag} {a : Addr} {xs : List V} {g : TG} {te : TE} {vs : List Nat} {σ : L2.St} {H1 : Hp} {D : Addr} {Qd : Hp → Prop} (f : Nat → Int) (hs : SqL K H1 a xs) (hD : H1 D = none) (sz : xs.length ≤ 100000)
    (turn : ∀ (i : Nat) (x : V) (H' : Hp), xs[i]? = some x → Same H1 H' → ∀ Q : VK, (∀ H2, Same H' H2 → Q (.int (f i)) H2) → g x (wipe σ vs) H' fun σ2 H2 => wipe σ2 vs = wipe σ vs ∧ te σ2 H2 Q)
    (done : ∀ H', Same H1 H' → H' D = some (.lst (((List.range xs.length).map f).map V.int)) → Qd H') :
    ∃ W : Nat → Nat → Hp → Prop, (∃ m, W 0 m (upd H1 D (.lst []))) ∧ ∀ i m H, W i m H →
      ((Itl K a).stop i H ∧ Qd H) ∨ ((Itl K a).go i H ∧ ∃ Nx : Hp → Prop, (∀ H', Nx H' → ∃ m', m' < m ∧ W (i + 1) m' H') ∧ ∀ x H', (Itl K a).yld i H x H' → g x (wipe σ vs) H' fun σ2 H2 => wipe σ2 vs = wipe σ vs ∧ tYes σ2 H2 fun b H3 =>
        if b = true then te σ2 H3 fun y H4 => ∃ acc, H4 D = some (.lst acc) ∧ acc.length < sizeLine ∧ Nx (upd H4 D (.lst (acc ++ [y]))) else Nx H3) := by
  refine lc_list (xs := xs) (fun i H' => Same H1 H' ∧ H' D = some (.lst (((List.range i).map f).map V.int))) ⟨Same.new hD, upd_same⟩ (fun i H' _ h => h.1.seq hs) ?_ ?_
  · rintro i y H' hi ⟨S1, hd⟩
    have hil : i < xs.length := (List.getElem?_eq_some_iff.mp hi).1
    refine turn i y H' hi S1 _ fun H2 S2 => ⟨_, S2 _ _ hd, ?_, (S1.trans S2).mut hD, ?_⟩
    · rw [List.length_map, List.length_map, List.length_range]; exact slt1000 (by omega)
    · rw [upd_same, List.range_succ, List.map_append, List.map_append]; rfl
  · rintro H' ⟨S1, hd⟩
    exact done H' S1 hd
end Rt
namespace Rt
open PySem PySem.Spec L2 PyProof.Rows
/-- the slots, told anew -/
theorem g_st {σ : L2.St} {H : Hp} {t : TS} {D : Ends} (σ' : L2.St) (e : σ = σ') (h : t D σ' H) : t D σ H := by rw [e]; exact h
end Rt
set_option Elab.async false
set_option linter.all false
set_option maxRecDepth 100000
set_option maxHeartbeats 4000000
/-! A lambda of one parameter handed to a def; heaps in which only the tables of code objects change. -/
namespace Rt
open PySem PySem.Spec PyProof.Rows L2
open LamX (CodeO TabS Tabs TabB among_app inv_table codeO_ne)
/-! ### all but the tables stay, nothing is freed -/
structure SameT (H H' : Hp) : Prop where
  old : ∀ b o, H b = some o → (∀ ps, o ≠ .tbl ps) → H' b = some o
  tab : ∀ b ps, H b = some (.tbl ps) → ∃ qs, H' b = some (.tbl qs)
theorem SameT.refl (H : Hp) : SameT H H := ⟨fun _ _ h _ => h, fun _ ps h => ⟨ps, h⟩⟩
theorem SameT.trans {H H1 H2 : Hp} (a : SameT H H1) (b : SameT H1 H2) : SameT H H2 := ⟨fun c o h n => b.old c o (a.old c o h n) n, fun c ps h => let ⟨qs, e⟩ := a.tab c ps h; b.tab c qs e⟩
theorem SameT.of {H H' : Hp} (S : Same H H') : SameT H H' := ⟨fun b o h _ => S b o h, fun b ps h => ⟨ps, S b _ h⟩⟩
theorem SameT.free {H H' : Hp} (S : SameT H H') {a : Addr} (h : H' a = none) : H a = none := by
  cases e : H a with
  | none => rfl
  | some o =>
    by_cases t : ∃ ps, o = .tbl ps
    · obtain ⟨ps, rfl⟩ := t
      obtain ⟨qs, z⟩ := S.tab a ps e
      rw [h] at z; cases z
    · have := S.old a o e fun ps q => t ⟨ps, q⟩
      rw [h] at this; cases this
theorem SameT.lst {H H' : Hp} (S : SameT H H') {a : Addr} {xs : List V} (h : H a = some (.lst xs)) : H' a = some (.lst xs) := S.old _ _ h fun _ z => by cases z
theorem SameT.tup {H H' : Hp} (S : SameT H H') {a : Addr} {xs : List V} (h : H a = some (.tup xs)) : H' a = some (.tup xs) := S.old _ _ h fun _ z => by cases z
theorem SameT.ins {H H' : Hp} (S : SameT H H') {a C d : Addr} {fs : List (Str × V)} (h : H a = some (.ins C d fs)) : H' a = some (.ins C d fs) := S.old _ _ h fun _ z => by cases z
theorem SameT.seq {K : PySem.W.Frag} {H H' : Hp} (S : SameT H H') {a : Addr} {xs : List V} (h : SqL K H a xs) : SqL K H' a xs := by
  rcases h with (h | ⟨o, h⟩) | h
  · exact .inl (.inl (S.lst h))
  · exact .inl (.inr ⟨o, S.old _ _ h fun _ z => by cases z⟩)
  · exact .inr h
theorem SameT.sqt {K : PySem.W.Frag} {H H' : Hp} (S : SameT H H') {a : Addr} {xs : List V} (h : SqT K H a xs) : SqT K H' a xs := by
  rcases h with (h | ⟨o, h⟩) | h
  · exact .inl (.inl (S.tup h))
  · exact .inl (.inr ⟨o, S.old _ _ h fun _ z => by cases z⟩)
  · exact .inr h
theorem SameT.mut {H H' : Hp} {p : Addr} {o : HO} (S : SameT H H') (h : H p = none) : SameT H (upd H' p o) := ⟨fun b u e n => by rw [upd_ne (ne_of_none e h)]; exact S.old b u e n, fun b ps e => by
  obtain ⟨qs, z⟩ := S.tab b ps e
  exact ⟨qs, by rw [upd_ne (ne_of_none e h)]; exact z⟩⟩
theorem RA.monoT {N : Addr → Prop} {b : Bool} {H H' : Hp} {xs : List V} {n : Nat} {f : Nat → List Int} (h : RA N b H xs n f) (S : SameT H H') : RA N b H' xs n f := ⟨h.1, fun k hk => let ⟨t, a, c, d⟩ := h.2 k hk; ⟨t, a, c, by
  cases b with
  | true => exact S.tup d
  | false => exact S.lst d⟩⟩
theorem PrA.monoT {N : Addr → Prop} {H H' : Hp} {xs : List V} {l : List (Int × Int)} (h : PrA N H xs l) (S : SameT H H') : PrA N H' xs l := RA.monoT h S
/-! ### the lambda's names -/
structure LamP (sc scope : Scope) (a : Str) : Prop where
  kind : scope.kind = .function
  co : scope.isCoroutine = false
  gen : scope.isGenerator = false
  par : scope.names.lookup a = some .local
  cel : ∀ y ∈ scope.names, y.2 ≠ .cell
  own : ∀ y, scope.names.lookup y = some .local → y = a
  free : ∀ y ∈ scope.names, y.2 = .free → sc.names.lookup y.1 = some .cell ∨ sc.names.lookup y.1 = some .free
def lamPB (sc scope : Scope) (a : Str) : Bool :=
  decide (scope.kind = .function) && (!scope.isCoroutine && (!scope.isGenerator && (decide (scope.names.lookup a = some .local) && scope.names.all fun y => !decide (y.2 = .cell) && ((!decide (y.2 = .local) || decide (y.1 = a)) && (!decide (y.2 = .free) || (decide (sc.names.lookup y.1 = some .cell) || decide (sc.names.lookup y.1 = some .free)))))))
theorem lamP_by {sc scope : Scope} {a : Str} (h : lamPB sc scope a = true) : LamP sc scope a := by
  unfold lamPB at h
  simp only [Bool.and_eq_true, Bool.or_eq_true, Bool.not_eq_true', decide_eq_true_eq, decide_eq_false_iff_not, List.all_eq_true] at h
  obtain ⟨h1, h2, h3, h4, h5⟩ := h
  refine ⟨h1, h2, h3, h4, fun y hy => (h5 y hy).1, fun y e => ?_, fun y hy e => ?_⟩
  · have hm : (y, NameKind.local) ∈ scope.names := PySem.mem_of_lookup e
    rcases (h5 _ hm).2.1 with z | z
    · exact absurd rfl z
    · exact z
  · rcases (h5 y hy).2.2 with z | z
    · exact absurd e z
    · exact z
theorem LamP.has {X : Cx} {scope : Scope} {a : Str} (L : LamP X.env.scope scope a) (ok : X.Ok) : ∀ y ∈ scope.names, y.2 = .free → ∃ c, X.env.cells.lookup y.1 = some c := fun y hy e => (L.free y hy e).elim (fun k => ok.has _ (.inl k)) fun k => ok.has _ (.inr k)
section
variable {X : Cx} {pins : List (Addr × Obj)} {σ : L2.St} {H HZ : Hp} {s s1 : Shared}
/-- a lambda is made: its code object is new, or the table tells it -/
theorem lam_mk {T : List (Addr × Str)} {c P : Addr} {params : Arguments} {body : Expr} {scope : Scope} {pos : Pos} {E : Value → Shared → Prop} {Q : Value → Shared → Prop} (I : Inv X pins σ H s) (TB : TabB X.base X.mg c P) (hcode : X.env.code = .ref c) (hm : (P, X.env.qual ++ "<lambda>") ∈ T)
    (one : ∀ p ∈ T, p.1 = P → p.2 = X.env.qual ++ "<lambda>") (hT : Tabs T H) (dflt : defaultsOf params X.env = ([], [])) (hfree : ∀ y ∈ scope.names, y.2 = .free → ∃ c, X.env.cells.lookup y.1 = some c)
    (h : ∀ (f c' : Addr) (pm ctv : Value) (H1 : Hp) (s' : Shared), Inv X pins σ H1 s' → SameT H H1 → Tabs T H1 → s'.heap.get? f = some (PySem.W.kla_obj "<lambda>" (X.env.qual ++ "<lambda>") params body scope (cloFrom X.env.cells scope.names []) pm c' ctv) → H1 f = none → f ∉ frs X.stack → H1 c' = some (CodeO c' (X.env.qual ++ "<lambda>")) → Q (.ref f) s') :
    wpAny (model X.prog X.w) X.A (eval (.Lambda params body scope pos) X.env) Q E s := by
  obtain ⟨ps, hP, trip, told⟩ := hT _ hm
  refine PySem.W.kla_eval dflt ?_
  have bP : s.heap.BuiltinsAt X.mg P := TB.bm.keeps I.bk
  have atP : s.heap.get? P = some { cls := .none, data := .fields ps } := I.hok P _ hP
  have nofr : ∀ g, s.heap.objs.size ≤ g → g ∉ frs X.stack := fun g hg z => by
    rcases List.mem_cons.mp (I.stkSub _ z) with e | e
    · exact absurd (Nat.lt_of_lt_of_le I.lt hg) (by rw [e]; exact Nat.lt_irrefl _)
    · exact I.nofs hg e
  cases hc : codeAmong pos ps.toList with
  | none =>
    refine PySem.W.kla_makeFunction (mg := X.mg) (c := c) (P := P) (ps := ps) (closure_ok hfree) I.ok.glob (I.mod.glob.keeps I.bk) hcode (TB.code.keeps I.bk) atP trip hc TB.gP bP fun c' ctv h' tk ext ge lt hrec htb => ?_
    obtain ⟨c2, oc, vs, t, e2, hoc, hd, hv⟩ := hrec
    cases e2
    have hsz : s.heap.objs.size ≤ h'.objs.size := Nat.le_trans ge (Nat.le_of_lt lt)
    have nC : H c' = none := I.hok.fresh ge
    have I1 := inv_table (t' := tk) (more := #[rawInt pos.line, rawInt pos.col, .ref c']) (h' := h'.push (PySem.W.kla_obj "<lambda>" (X.env.qual ++ "<lambda>") params body scope (cloFrom X.env.cells scope.names []) ((X.mg "__name__").getD .none) c' ctv)) I hP (fun b o hb e => Heap.get?_push_of_some _ (ext b o hb e)) (Heap.get?_push_of_some _ htb) ge ⟨oc, vs, t, Heap.get?_push_of_some _ hoc, hd, hv⟩
    have hE : SameT H (upd (upd H P (.tbl (ps ++ #[rawInt pos.line, rawInt pos.col, .ref c']))) c' (CodeO c' (X.env.qual ++ "<lambda>"))) := by
      refine ⟨fun b o e n => ?_, fun b qs e => ?_⟩
      · rw [upd_ne (ne_of_none e nC), upd_ne (fun z => n ps (Option.some.inj (e.symm.trans (by rw [z]; exact hP))))]; exact e
      · by_cases hb : b = P
        · exact ⟨_, by rw [upd_ne (ne_of_none e nC), hb, upd_same]⟩
        · exact ⟨qs, by rw [upd_ne (ne_of_none e nC), upd_ne hb]; exact e⟩
    have eL : (ps ++ #[rawInt pos.line, rawInt pos.col, .ref c']).toList = ps.toList ++ [rawInt pos.line, rawInt pos.col, .ref c'] := by simp
    refine h h'.objs.size c' ((X.mg "__name__").getD .none) ctv _ _ I1 hE (fun p hp => ?_) (Heap.get?_push_size _ rfl) ?_ (nofr _ hsz) upd_same
    · by_cases hb : p.1 = P
      · rw [one p hp hb, hb]
        refine ⟨_, by rw [upd_ne (ne_of_none hP nC), upd_same], by rw [eL]; exact PySem.TriplesOk_snoc _ _ _ _ trip, fun p' cv hcv => ?_⟩
        rw [eL] at hcv
        rcases among_app _ trip hcv with z | z
        · obtain ⟨c0, e1, e2⟩ := told p' cv z
          exact ⟨c0, e1, hE.old _ _ e2 codeO_ne⟩
        · exact ⟨c', z, upd_same⟩
      · obtain ⟨qs, b1, b2, b3⟩ := hT p hp
        exact ⟨qs, by rw [upd_ne (ne_of_none b1 nC), upd_ne hb]; exact b1, b2, fun p' cv hcv => let ⟨c0, e1, e2⟩ := b3 p' cv hcv; ⟨c0, e1, hE.old _ _ e2 codeO_ne⟩⟩
    · rw [upd_ne (show h'.objs.size ≠ c' from Nat.ne_of_gt lt), upd_ne (show h'.objs.size ≠ P from Nat.ne_of_gt (Nat.lt_of_lt_of_le (Heap.lt_size atP) hsz))]
      exact I.hok.fresh hsz
  | some cv =>
    obtain ⟨c', e, hco⟩ := told pos cv hc
    subst e
    refine PySem.W.kla_makeFunctionHit (mg := X.mg) (c := c) (P := P) (ps := ps) (closure_ok hfree) I.ok.glob (I.mod.glob.keeps I.bk) hcode (TB.code.keeps I.bk) atP trip hc bP fun ctv h' tk ext hsz => ?_
    have I1 : Inv X pins σ H { s with heap := h'.push (PySem.W.kla_obj "<lambda>" (X.env.qual ++ "<lambda>") params body scope (cloFrom X.env.cells scope.names []) ((X.mg "__name__").getD .none) c' ctv), toks := tk } := I.kept fun b o e => Heap.get?_push_of_some _ (ext b o e)
    exact h h'.objs.size c' ((X.mg "__name__").getD .none) ctv H _ I1 (SameT.refl H) hT (Heap.get?_push_size _ rfl) (I.hok.fresh hsz) (nofr _ hsz) hco
/-- the lambda's own environment -/
abbrev envL (X : Cx) (scope : Scope) (L f c' : Addr) : Env := PySem.W.envX (X.env.qual ++ "<lambda>") scope L f (.ref c') (cloFrom X.env.cells scope.names [])
/-- the context of its body: a, its parameter, in the last slot; nothing leaves it -/
def cxL (X : Cx) (A : Around) (outer : List Env) (s : Shared) (H : Hp) (scope : Scope) (a : Str) (f c' : Addr) : Cx :=
  { prog := X.prog, w := X.w, K := X.K, mg := X.mg, base := X.base, A := A.deeper (envL X scope s.heap.objs.size f c'), N := X.N ++ [a], s_0 := s, H_0 := H, env := envL X scope s.heap.objs.size f c', outer := outer, stack := envL X scope s.heap.objs.size f c' :: outer, ex := [], fn := fun _ => false, calm := true, pn := [], xe := fun _ _ => False }
theorem lam_in {A : Around} {outer : List Env} {scope : Scope} {a : Str} {f c' : Addr} {h₁ : Heap} {tk : Nat} {v : V} {u : Value} (I : Inv X pins σ H s) (L : LamP X.env.scope scope a) (hna : a ∉ X.N) (ru : RelV v u) (e0 : Env0 X.prog X.w X.K X.mg X.base A outer s1 HZ) (calmA : A.handled = none)
    (un : Un (frs X.stack) [] H HZ s.heap s1.heap) (hns : h₁.Ns s1.heap.objs.size fun y => ([(a, u)] : List (Str × Value)).reverse.lookup y) (kp : ∀ b o, s1.heap.get? b = some o → h₁.get? b = some o) : Inv (cxL X A outer s1 HZ scope a f c') [] (σ ++ [some v]) HZ { s1 with heap := h₁, toks := tk } := by
  have hfree := L.has I.ok
  have clo : ∀ {y c}, (cloFrom X.env.cells scope.names []).lookup y = some c → X.env.cells.lookup y = some c := fun {y c} e => by
    rcases cloFrom_mem (PySem.mem_of_lookup e) with hm | ⟨h1, h2⟩
    · cases hm
    · obtain ⟨c1, hc⟩ := hfree _ h1 rfl
      have hc : X.env.cells.lookup y = some c1 := hc
      rw [h2, hc]; rfl
  have look : ∀ {y}, scope.names.lookup y = some .free → ∃ c, (cloFrom X.env.cells scope.names []).lookup y = some c := fun {y} hl => mem_lookup (cloFrom_has (cells := X.env.cells) (acc := []) (PySem.mem_of_lookup hl))
  have cellK : ∀ {c : Addr} {v : Option Value}, H c = none → s.heap.IsCell c v → h₁.IsCell c v := fun {c v} n ⟨o, ho, hd⟩ => let ⟨sl, q⟩ := un.any ho n (by simp); ⟨_, kp _ _ q, hd⟩
  have noA : ∀ b : Addr, b ∉ (cxL X A outer s1 HZ scope a f c').ex := fun b z => absurd (show b ∈ ([] : List Addr) from z) (by simp)
  have nocell : ∀ y, scope.names.lookup y ≠ some .cell := fun y z => L.cel _ (PySem.mem_of_lookup z) rfl
  refine ⟨⟨e0.mod, L.kind, rfl, rfl, Nat.le_refl _, fun y z c e1 e2 => I.ok.inj y z c (clo e1) (clo e2), fun y hy => ?_, fun y c z _ => (by cases (show false = true from z)), fun _ => calmA, Around.frames_deeper e0.frames, .inr ⟨rfl, rfl⟩, fun b z => absurd z (noA b), e0.bs, e0.bsz, fun b _ _ => noA b, fun b z => absurd z (noA b), e0.funs, e0.frf⟩,
    rfl, e0.bare, Un.kept kp, ⟨_, hns, fun i y x e1 e2 e3 => ?_⟩, fun y c e => ?_, e0.hok.fresh (Nat.le_refl _), fun y c e => ?_, fun q hq => absurd (show q ∈ ([] : List (Addr × Obj)) ++ [] from hq) (by simp), e0.hok.kept kp, ?_⟩
  · rcases (show scope.names.lookup y = some .cell ∨ scope.names.lookup y = some .free from hy) with k | k
    · exact absurd k (nocell y)
    · exact look k
  · have e3 : Vis scope y := e3
    have e1 : (X.N ++ [a])[i]? = some y := e1
    have lenN := I.len
    by_cases hi : i < X.N.length
    · rw [List.getElem?_append_left hi] at e1
      rw [List.getElem?_append_left (by omega)] at e2
      have ya : y ≠ a := fun z => hna (by rw [← z]; exact List.mem_of_getElem? e1)
      rcases e3 with k | k | k
      · exact absurd (L.own y k) ya
      · exact absurd k (nocell y)
      · obtain ⟨m, hn, hl⟩ := I.loc
        have vis : Vis X.env.scope y := (L.free _ (PySem.mem_of_lookup k) rfl).elim (fun k => .inr (.inl k)) fun k => .inr (.inr k)
        obtain ⟨w', r, q⟩ := hl i y x e1 e2 vis
        obtain ⟨c2, h2⟩ := look k
        refine ⟨w', r, .inr ⟨.inr k, c2, h2, ?_⟩⟩
        have c1 := clo h2
        rcases q with ⟨k', _⟩ | ⟨_, c3, e', z⟩
        · have k' : X.env.scope.names.lookup y = some .local := k'
          rcases L.free _ (PySem.mem_of_lookup k) rfl with k2 | k2 <;> rw [show X.env.scope.names.lookup y = _ from k2] at k' <;> cases k'
        · rw [c1] at e'
          cases e'
          exact cellK (I.freeC y _ c1) z
    · have il : i = X.N.length := by
        have := (List.getElem?_eq_some_iff.mp e1).1
        rw [List.length_append] at this
        simp at this
        omega
      subst il
      rw [List.getElem?_append_right (Nat.le_refl _), Nat.sub_self] at e1
      rw [List.getElem?_append_right (by omega), show X.N.length - σ.length = 0 by omega] at e2
      cases e1; cases e2
      exact ⟨u, ru, .inl ⟨L.par, by simp [List.lookup]⟩⟩
  · obtain ⟨w', z⟩ := I.cell y c (clo e)
    exact ⟨w', cellK (I.freeC y c (clo e)) z⟩
  · obtain ⟨x, o, ho, hd⟩ := I.cell y c (clo e)
    exact un.free c o ho (I.freeC y c (clo e)) (by simp)
  · show (σ ++ [some v]).length = (X.N ++ [a]).length
    rw [List.length_append, List.length_append, I.len]; rfl
/-- tell(e) in the def that got the lambda: its function at f, its code object at c' -/
def tTell (i : Nat) (f c' : Addr) (q : Str) (tl : V → Hp → VK → Prop) (ta : TA) : TE := fun σ H Q => σ[i]? = some (some (.ref f)) ∧ ta σ H fun vs H1 => ∃ v, vs = [v] ∧ H1 c' = some (CodeO c' q) ∧ tl v H1 Q
theorem pe_tell {Ng : List Str} {qg : Str} {sg : Scope} {g f c' : Addr} {cdg pm ctv : Value} {params : Arguments} {body : Expr} {scope : Scope} {k i : Nat} {a t : Str} {tb : TE} {p1 p2 : Pos} {e : Expr} {ta : TA} (I : Inv X pins σ H s) (L : LamP X.env.scope scope a) (hna : a ∉ X.N)
    (hf : s.heap.get? f = some (PySem.W.kla_obj "<lambda>" (X.env.qual ++ "<lambda>") params body scope (cloFrom X.env.cells scope.names []) pm c' ctv)) (hfn : H f = none) (hfr : f ∉ frs X.stack)
    (bind : ∀ u, bindArgs (PySem.W.kla_fn "<lambda>" (X.env.qual ++ "<lambda>") params body scope (cloFrom X.env.cells scope.names []) pm (.ref c') ctv) ⟨[u], []⟩ = pure [(a, u)]) (hr : Room (k + 1) (X.A.deeper (envOfC qg sg s.heap.objs.size g cdg)))
    (hbody : ∀ (A : Around) (outer : List Env) (s : Shared) (H : Hp), Room k (A.deeper (envL X scope s.heap.objs.size f c')) → PE (cxL X A outer s H scope a f c') body tb) (hN : Ng[i]? = some t) (hv : Vis sg t)
    (ha : PA (cxOf CX0 X.prog X.w X.K X.mg X.base Ng qg sg g cdg X.A X.stack s H E0).nox [e] ta) (hd : (t == ("__debug__" : Str)) = false := by decide) (hcd : (t == ("__classdict__" : Str)) = false := by decide)
    (st : starEach [e] (envOfC qg sg s.heap.objs.size g cdg) = (false, eval e (envOfC qg sg s.heap.objs.size g cdg)) :: starEach [] (envOfC qg sg s.heap.objs.size g cdg) := by rfl) :
    PE (cxOf CX0 X.prog X.w X.K X.mg X.base Ng qg sg g cdg X.A X.stack s H E0).nox (.Call (.Name t p1) [e] [] p2) (tTell i f c' (X.env.qual ++ "<lambda>") (fun v H' Q' => tb (σ ++ [some v]) H' Q') ta) := by
  refine ⟨fun pinsZ sZ σZ HZ Q IZ h => ?_⟩
  obtain ⟨hs, h⟩ := h
  refine wpAny_Call_Name_kw (thn ((pe_var (pos := p1) (i := i) hN hv hd hcd).run pinsZ sZ σZ HZ (fun v H1 => v = .ref f ∧ H1 = HZ) IZ ⟨.ref f, hs, rfl, rfl⟩) fun u s1 ⟨v, H1, I1, r1, q1⟩ => ?_)
  obtain ⟨ev, eH⟩ := q1
  subst ev
  rw [eH] at I1
  obtain rfl : u = Value.ref f := r1
  have fn_at : ∀ {s2 : Shared} {H2 : Hp} {σ2 : L2.St} {pins2 : List (Addr × Obj)}, Inv (cxOf CX0 X.prog X.w X.K X.mg X.base Ng qg sg g cdg X.A X.stack s H E0).nox pins2 σ2 H2 s2 → s2.heap.get? f = some (PySem.W.kla_obj "<lambda>" (X.env.qual ++ "<lambda>") params body scope (cloFrom X.env.cells scope.names []) pm c' ctv) := fun I2 =>
    I2.base.keep f _ hf hfn hfr (fun z => nomatch (show f ∈ ([] : List Addr) from z))
  refine PySem.W.callWith_F ⟨_, _, _, _, fn_at I1⟩ (thn (ha.run p2 pinsZ s1 σZ HZ _ I1 h) fun us s2 got => ?_) st rfl
  obtain ⟨vs, H2, I2, rv, v, rfl, hco, ht⟩ := got
  obtain ⟨u, rfl, ru⟩ := vals1 rv
  have of2 := fn_at I2
  refine ⟨⟨_, _, _, _, of2⟩, ?_⟩
  have un : Un (frs X.stack) [] H H2 s.heap s2.heap := I2.base
  obtain ⟨⟨oc, ws, tk, hoc, hdc, hvc⟩, _, _⟩ := I2.hok c' _ hco
  show wpAny _ _ (call (.ref f) [u]) _ _ _
  have rc : codeAny (model X.prog X.w) (X.A.deeper (envOfC qg sg s.heap.objs.size g cdg)) (.call (.ref f) ⟨[u], []⟩) (CR CX0 (envOfC qg sg s.heap.objs.size g cdg :: X.stack) X.prog X.w H2 s2 Q E0) s2 := by
    refine PySem.W.kla_callFunE hr.depth of2 rfl L.co L.gen rfl ⟨c', oc, ws, tk, rfl, hoc, hdc, hvc⟩ ?_
    rw [bind u]
    refine wpAny_pure (wpAny_newFunctionEnv (fun y hy => L.cel y hy) (fun y hy => by rw [List.mem_singleton.mp hy]; exact L.par) (fun h₁ hns hsb => ⟨I2.nolimit.fresh _ hsb, ?_⟩) L.kind)
    show codeAny _ _ (.expr body (envL X scope s2.heap.objs.size f c')) _ _
    have kp : ∀ b o, s2.heap.get? b = some o → h₁.get? b = some o := fun b o e => hsb.extBut b o (Nat.ne_of_lt (Heap.lt_size e)) (Heap.get?_push_of_some _ e)
    have J : Inv (cxL X (X.A.deeper (envOfC qg sg s.heap.objs.size g cdg)) (envOfC qg sg s.heap.objs.size g cdg :: X.stack) s2 H2 scope a f c') [] (σ ++ [some v]) H2 { s2 with heap := h₁, toks := s2.toks + ([(a, u)] : List (Str × Value)).length } := lam_in I L hna ru I2.env0 hr.hd un hns kp
    refine PySem.W.kla_codeExpr (wpAny_mono ((hbody _ _ s2 H2 (hr.deeper _)).run [] _ _ H2 Q J ht) (fun v s' hq => ?_) fun e s' hq => (show False from hq).elim)
    obtain ⟨w', H', J', rv', q⟩ := hq
    exact ⟨w', H', J'.os, J'.bare, J'.base, J'.hok, rv', q⟩
  refine wpAny_call (codeAny_mono rc fun r s' hq => ?_)
  cases r with
  | error e => exact (show False from hq).elim
  | ok fl =>
    cases fl with
    | ret u => exact I2.after hq
    | next => exact False.elim hq
    | brk => exact False.elim hq
    | cont => exact False.elim hq
/-- what a def of three parameters makes of a lambda that it gets as its third: TT, by what the lambda tells -/
def Gives3 (P : Program) (w : World) (K : PySem.W.Frag) (mg : Str → Option Value) (base : Heap) (A0 : Around) (stk : List Env) (Ng : List Str) (x : Str) (sg : Scope) (g : Addr) (cdg : Value) (bg : List Stmt) (t q : Str) (k : Nat) (TT : (V → Hp → VK → Prop) → V → V → Hp → VK → Prop) : Prop :=
  ∀ (f c' : Addr) (v1 v2 : V) (s : Shared) (H : Hp) (Q : VK) (tl : V → Hp → VK → Prop), Room k (A0.deeper (envOfC x sg s.heap.objs.size g cdg)) →
    (∀ (e : Expr) (ta : TA) (p1 p2 : Pos), PA (cxOf CX0 P w K mg base Ng x sg g cdg A0 stk s H E0).nox [e] ta → starEach [e] (envOfC x sg s.heap.objs.size g cdg) = (false, eval e (envOfC x sg s.heap.objs.size g cdg)) :: starEach [] (envOfC x sg s.heap.objs.size g cdg) →
      PE (cxOf CX0 P w K mg base Ng x sg g cdg A0 stk s H E0).nox (.Call (.Name t p1) [e] [] p2) (tTell 2 f c' q tl ta)) →
    H c' = some (CodeO c' q) → TT tl v1 v2 H Q → ∃ t, PSs (cxOf CX0 P w K mg base Ng x sg g cdg A0 stk s H E0).nox bg t ∧ t { nx := fun _ H' => Q .non H', rt := Q } (L2.start Ng [v1, v2, .ref f]) H
def tLam3 (T : List (Addr × Str)) (TT : (V → Hp → VK → Prop) → V → V → Hp → VK → Prop) (t1 t2 tb : TE) : TE := fun σ H Q => t1 σ H fun v1 H1 => t2 σ H1 fun v2 H2 => Tabs T H2 ∧ ∀ H3, SameT H2 H3 → Tabs T H3 → TT (fun v H' Q' => tb (σ ++ [some v]) H' Q') v1 v2 H3 Q
/-- x(e1, e2, lambda a: body) -/
theorem pe_lam3 {T : List (Addr × Str)} {TT : (V → Hp → VK → Prop) → V → V → Hp → VK → Prop} {x a t a1 a2 : Str} {g c P : Addr} {k : Nat} {pg : Arguments} {bg : List Stmt} {sg : Scope} {dV kV doc pm cdv ct oc : Value} {an od : Option Addr} {osl : Array (Option Value)} {Ng : List Str} {e1 e2 : Expr} {t1 t2 : TE}
    {params : Arguments} {body : Expr} {scope : Scope} {tb : TE} {p lpos pos : Pos} (hg : Gl X x) (hm : X.mg x = some (.ref g)) (hk : PySem.W.keepIn X.K (.ref g) = true) (lk : X.K.lookup g = some ⟨oc, od, .func (PySem.W.fnOf x x pg bg sg dV kV doc pm an cdv ct), osl⟩) (hcg : PySem.W.codeIn X.K cdv x = true)
    (hb : L2.Binds X.K (PySem.W.fnOf x x pg bg sg dV kV doc pm an cdv ct) [a1, a2, t] []) (Sg : FnScope Ng [a1, a2, t] sg) (hNg : Ng[2]? = some t) (hva : Vis sg t) {k0 : Nat} (hk0 : k0 ≤ k + 1) (hG : Gives3 X.prog X.w X.K X.mg X.base X.A X.stack Ng x sg g cdv bg t (X.env.qual ++ "<lambda>") k0 TT) (TB : TabB X.base X.mg c P) (hcode : X.env.code = .ref c)
    (hmT : (P, X.env.qual ++ "<lambda>") ∈ T) (one : ∀ p ∈ T, p.1 = P → p.2 = X.env.qual ++ "<lambda>") (hr : Room (k + 2) X.A) (L : LamP X.env.scope scope a) (hna : a ∉ X.N) (h1 : PE X e1 t1) (h2 : PE X e2 t2) (dflt : defaultsOf params X.env = ([], []))
    (bind : ∀ (q : Str) (cl : List (Str × Addr)) (pm cv ctv u : Value), bindArgs (PySem.W.kla_fn "<lambda>" q params body scope cl pm cv ctv) ⟨[u], []⟩ = pure [(a, u)])
    (hbody : ∀ (A : Around) (outer : List Env) (s : Shared) (H : Hp) (f c' : Addr), Room k (A.deeper (envL X scope s.heap.objs.size f c')) → PE (cxL X A outer s H scope a f c') body tb) (hdb : (x == ("__debug__" : Str)) = false := by decide) (hd : (t == ("__debug__" : Str)) = false := by decide)
    (hcd : (t == ("__classdict__" : Str)) = false := by decide)
    (st0 : starEach [e1, e2, .Lambda params body scope lpos] X.env = (false, eval e1 X.env) :: starEach [e2, .Lambda params body scope lpos] X.env := by rfl) (pl : (backTo pos (starEach [e2, .Lambda params body scope lpos] X.env)).any (·.1) = false := by rfl)
    (bt : backTo pos (starEach [e1, e2, .Lambda params body scope lpos] X.env) = (false, eval e1 X.env) :: (false, eval e2 X.env) :: (false, eval (.Lambda params body scope lpos) X.env) :: backTo pos (starEach [] X.env) := by rfl) :
    PE X (.Call (.Name x p) [e1, e2, .Lambda params body scope lpos] [] pos) (tLam3 T TT t1 t2 tb) := by
  refine ⟨fun pins s σ H Q I h => ?_⟩
  refine wpAny_Call_Name_kw (ld_glob I hg hm ?_ hdb)
  refine PySem.W.callWith_K (h₀ := X.base) I.ok.mod.kin hk ?_ st0 pl
  rw [bt]
  refine Calls.spliced_cons (thn (h1.run pins s σ H _ I h) fun u1 s1 ⟨v1, H1, I1, r1, q1⟩ => ?_)
  refine Calls.spliced_cons (thn (h2.run pins s1 σ H1 _ I1 q1) fun u2 s2 ⟨v2, H2, I2, r2, q2⟩ => ?_)
  obtain ⟨hT, q2⟩ := q2
  refine Calls.spliced_cons (lam_mk I2 TB hcode hmT one hT dflt (L.has I2.ok) fun f c' pm' ctv H3 s' I3 eN T3 hf hfn hfr hco => ?_)
  refine Calls.spliced_nil ⟨I3.kIn, ?_⟩
  have rc : codeAny (model X.prog X.w) X.A (.call (.ref g) ⟨[u1, u2, .ref f], []⟩) (CR CX0 X.stack X.prog X.w H3 s' Q E0) s' := by
    refine LamX.run_ofS (N := Ng) (ps := [a1, a2, t]) (us := [u1, u2, .ref f]) (vs := [v1, v2, .ref f]) lk hcg Sg hr I3.env0 (hb s' [u1, u2, .ref f] I3.kIn rfl) (.cons r1 (.cons r2 (.cons rfl .nil))) rfl fun hr' => ?_
    obtain ⟨t', ht', hq'⟩ := hG f c' v1 v2 s' H3 Q (fun v H' Q' => tb (σ ++ [some v]) H' Q') (hr'.mono hk0) (fun e ta p1 p2 hpa hst => pe_tell (i := 2) I3 L hna hf hfn hfr (fun u => bind _ _ _ _ _ u) hr' (fun A outer s H hr2 => hbody A outer s H f c' hr2) hNg hva hpa hd hcd hst) hco (q2 H3 eN T3)
    exact ⟨t', ht'.nox, hq'⟩
  refine wpAny_call (codeAny_mono rc fun r s2 hq => ?_)
  cases r with
  | error e => exact (show False from hq).elim
  | ok fl =>
    cases fl with
    | ret u => exact I3.after hq
    | next => exact False.elim hq
    | brk => exact False.elim hq
    | cont => exact False.elim hq
end
end Rt

namespace Rt
open PySem PySem.Spec PyProof.Rows L2
open LamX (CodeO TabS Tabs TabB)
/-! ### such a def, by its promise -/
structure GivesD (P : Program) (w : World) (K : PySem.W.Frag) (mg : Str → Option Value) (base : Heap) (k : Nat) (x t : Str) (TT : (V → Hp → VK → Prop) → V → V → Hp → VK → Prop) : Prop where
  ex : ∃ (g : Addr) (oc : Value) (od : Option Addr) (pg : Arguments) (bg : List Stmt) (sg : Scope) (kV doc pm cdv ct : Value) (an : Option Addr) (osl : Array (Option Value)) (Ng : List Str) (a1 a2 : Str), mg x = some (.ref g) ∧ PySem.W.keepIn K (.ref g) = true ∧ K.lookup g = some ⟨oc, od, .func (PySem.W.fnOf x x pg bg sg .none kV doc pm an cdv ct), osl⟩ ∧
    PySem.W.codeIn K cdv x = true ∧ L2.Binds K (PySem.W.fnOf x x pg bg sg .none kV doc pm an cdv ct) [a1, a2, t] [] ∧ FnScope Ng [a1, a2, t] sg ∧ Ng[2]? = some t ∧ Vis sg t ∧ ∀ (A0 : Around) (stk : List Env) (q : Str), Gives3 P w K mg base A0 stk Ng x sg g cdv bg t q k TT
theorem givesD {P : Program} {w : World} {K : PySem.W.Frag} {mg : Str → Option Value} {base : Heap} {k : Nat} {x t a1 a2 : Str} {TT : (V → Hp → VK → Prop) → V → V → Hp → VK → Prop} {st : Stmt} {f : Addr} {fd : FuncData} {Ng : List Str} (g : mg x = some (.ref f)) (F : Fun K x x st f fd) (b : L2.Binds K fd [a1, a2, t] []) (S : FnScope Ng [a1, a2, t] (defScope st)) (hN : Ng[2]? = some t) (hv : Vis (defScope st) t)
    (G : ∀ (cdv : Value) (A0 : Around) (stk : List Env) (q : Str), Gives3 P w K mg base A0 stk Ng x (defScope st) f cdv (defBody st) t q k TT) : GivesD P w K mg base k x t TT := by
  obtain ⟨oc, od, kV, doc, pm, an, cdv, ct, osl, rfl, lk, hcd⟩ := F.ex
  exact ⟨f, oc, od, _, _, _, kV, doc, pm, cdv, ct, an, osl, Ng, a1, a2, g, F.kp, lk, hcd, b, S, hN, hv, G cdv⟩
/-- the table at P of the code object at c tells q alone -/
structure LamT (T : List (Addr × Str)) (P : Addr) (q : Str) : Prop where
  mem : (P, q) ∈ T
  one : ∀ p ∈ T, p.1 = P → p.2 = q
theorem pe_lamD {X : Cx} {T : List (Addr × Str)} {TT : (V → Hp → VK → Prop) → V → V → Hp → VK → Prop} {x a t : Str} {c P : Addr} {k k0 : Nat} {e1 e2 : Expr} {t1 t2 : TE} {params : Arguments} {body : Expr} {scope : Scope} {tb : TE} {p lpos pos : Pos} (D : GivesD X.prog X.w X.K X.mg X.base k0 x t TT) (hk0 : k0 ≤ k + 1) (TB : TabB X.base X.mg c P) (LT : LamT T P (X.env.qual ++ "<lambda>"))
    (hr : Room (k + 2) X.A) (L : LamP X.env.scope scope a) (hna : a ∉ X.N) (h1 : PE X e1 t1) (h2 : PE X e2 t2) (hbody : ∀ (A : Around) (outer : List Env) (s : Shared) (H : Hp) (f c' : Addr), Room k (A.deeper (envL X scope s.heap.objs.size f c')) → PE (cxL X A outer s H scope a f c') body tb) (hcode : X.env.code = .ref c := by rfl) (hg : Gl X x := by rfl) (dflt : defaultsOf params X.env = ([], []) := by rfl)
    (bind : ∀ (q : Str) (cl : List (Str × Addr)) (pm cv ctv u : Value), bindArgs (PySem.W.kla_fn "<lambda>" q params body scope cl pm cv ctv) ⟨[u], []⟩ = pure [(a, u)] := by intros; rfl) (hdb : (x == ("__debug__" : Str)) = false := by decide) (hd : (t == ("__debug__" : Str)) = false := by decide) (hcd : (t == ("__classdict__" : Str)) = false := by decide)
    (st0 : starEach [e1, e2, .Lambda params body scope lpos] X.env = (false, eval e1 X.env) :: starEach [e2, .Lambda params body scope lpos] X.env := by rfl) (pl : (backTo pos (starEach [e2, .Lambda params body scope lpos] X.env)).any (·.1) = false := by rfl)
    (bt : backTo pos (starEach [e1, e2, .Lambda params body scope lpos] X.env) = (false, eval e1 X.env) :: (false, eval e2 X.env) :: (false, eval (.Lambda params body scope lpos) X.env) :: backTo pos (starEach [] X.env) := by rfl) : PE X (.Call (.Name x p) [e1, e2, .Lambda params body scope lpos] [] pos) (tLam3 T TT t1 t2 tb) := by
  obtain ⟨g, oc, od, pg, bg, sg, kV, doc, pm, cdv, ct, an, osl, Ng, a1, a2, hm, hk, lk, hcg, hb, Sg, hNg, hva, G⟩ := D.ex
  exact pe_lam3 hg hm hk lk hcg hb Sg hNg hva hk0 (G X.A X.stack _) TB hcode LT.mem LT.one hr L hna h1 h2 dflt bind hbody hdb hd hcd st0 pl bt
/-! ### a def that makes a lambda: its code object known -/
def codeAt (K : PySem.W.Frag) (f c : Addr) : Bool := match K.lookup f with
  | some ⟨_, _, .func fd, _⟩ => decide (fd.code = .ref c)
  | _ => false
theorem okLN {P : Program} {w : World} {K : PySem.W.Frag} {mg : Str → Option Value} {base : Heap} {x qual : Str} {st : Stmt} {f c : Addr} {fd : FuncData} {N ps : List Str} {k : Nat} {sp : Sp} (F : Fun K x qual st f fd) (S : FnScope N ps (defScope st)) (hc : codeAt K f c = true) (len : ∀ vs H Q E, sp vs H Q E → vs.length = ps.length)
    (hbody : ∀ (A : Around) (outer : List Env) (s : Shared) (H : Hp) (vs : List V) (Q : VK) (E : XK), Room k (A.deeper (PyProof.Rows.envOfC qual (defScope st) s.heap.objs.size f (.ref c))) → sp vs H Q E → ∃ t, PSs (cxOf (L2N.CX P w) P w K mg base N qual (defScope st) f (.ref c) A outer s H E) (defBody st) t ∧ t { nx := fun _ H' => Q .non H', rt := Q } (L2.start N vs) H) : FnOk P w K mg base (L2N.CX P w) (k + 1) f fd ps sp := by
  obtain ⟨oc, od, kV, doc, pm, an, cdv, ct, osl, rfl, lk, hcd⟩ := F.ex
  have e : cdv = .ref c := by
    unfold codeAt at hc
    rw [lk] at hc
    exact of_decide_eq_true hc
  subst e
  exact fn_of lk hcd S len fun A outer s H vs Q E hr hsp => hbody A outer s H vs Q E hr hsp
theorem g_lam3 {T : List (Addr × Str)} {TT : (V → Hp → VK → Prop) → V → V → Hp → VK → Prop} {t1 t2 tb : TE} {σ : L2.St} {H : Hp} {Q : VK} (h : t1 σ H fun v1 H1 => t2 σ H1 fun v2 H2 => Tabs T H2 ∧ ∀ H3, SameT H2 H3 → Tabs T H3 → TT (fun v H' Q' => tb (σ ++ [some v]) H' Q') v1 v2 H3 Q) : tLam3 T TT t1 t2 tb σ H Q := h
theorem g_tell {i : Nat} {f c' : Addr} {q : Str} {tl : V → Hp → VK → Prop} {ta : TA} {σ : L2.St} {H : Hp} {Q : VK} (e : σ[i]? = some (some (.ref f))) (h : ta σ H fun vs H1 => ∃ v, vs = [v] ∧ H1 c' = some (CodeO c' q) ∧ tl v H1 Q) : tTell i f c' q tl ta σ H Q := ⟨e, h⟩
end Rt
set_option Elab.async false
set_option linter.all false
set_option maxRecDepth 100000
set_option maxHeartbeats 4000000
/-! A set of a list of numbers; sorted; a thing in a tuple of things of any depth. -/
namespace Rt
open PySem PySem.Spec PyProof.Rows L2 SS

section
variable {P : Program} {w : World} {A : Around} {E : Value → Shared → Prop} {s : Shared}
set_option maxHeartbeats 3200000 in
theorem set_of_tup {l : Addr} {its : Array Value} (ns : List Int) {Q : Value → Shared → Prop} (hh : A.handled = none) (hl : s.heap.IsTuple l its) (hit : IntsAre its.toList ns) (hb : ns.length + 1 < scanBound)
    (h : ∀ (h' : Heap) (tk c : Nat), SetR w h' s.heap.objs.size (fun j => decide (j ∈ ns)) c → c ≤ ns.length → (∀ b o, s.heap.get? b = some o → h'.get? b = some o) → Q (.ref s.heap.objs.size) { s with heap := h', toks := tk }) :
    wpAny (model P w) A (call (.type "set") [.ref l]) Q E s := by
  have hsz : its.size = ns.length := by have q := IntsAre.length hit; rw [Array.length_toList] at q; exact q
  obtain ⟨c, tl, hmro⟩ := F.called_set.mro; have hmade := F.called_set.made; have hsub := F.called_set.sub
  refine wpAny_call (codeAny_of_tree ?_); show wpAny _ _ (callAny (.type "set") _) _ _ _
  refine wpAny_pure ⟨Code.quiet_builtin _ (by decide +kernel), codeAny_builtin F.entry_type_call ?_⟩; rw [Around.under_plain (weight_type_call_type "set" [.ref l] []) rfl]
  have h1 := F.called_set.notType; have h2 := F.called_set.canCreate; have hct := F.typeCall_set_1 (.ref l)
  repeat (any_goals (first | assumption | wp_step))
  refine codeAny_mono (code_set_led1 (.ref l) (E := E) (Q₁ := fun obj s₁ => obj = .ref s.heap.objs.size ∧ s₁ = { s with heap := s.heap.push (o0 w) }) ⟨rfl, rfl⟩) fun r s₁ hr => ?_
  cases r with
  | error e => exact hr
  | ok fl =>
    cases fl with
    | ret obj =>
      obtain ⟨rfl, rfl⟩ := hr
      have hS : (s.heap.push (o0 w)).get? s.heap.objs.size = some (o0 w) := Heap.get?_push_size _ rfl
      have hT : Shared.TypeIs { s with heap := s.heap.push (o0 w) } (.ref s.heap.objs.size) "set" := ⟨_, hS, rfl⟩
      have hli := F.called_set.init.lookup; have hbi := F.called_set.init.bind (.ref s.heap.objs.size)
      repeat (any_goals (first | assumption | wp_step))
      refine codeAny_mono (codeAny_call_builtin (R := wants (fun r s₂ => r = .none ∧ ∃ h' tk c, s₂ = { s with heap := h', toks := tk } ∧ SetR w h' s.heap.objs.size (fun j => decide (j ∈ ns)) c ∧ c ≤ ns.length ∧ (∀ b o, s.heap.get? b = some o → h'.get? b = some o)) E)
        F.called_set.init.plain F.entry_set_init (check_set_init_1 hT ?_)) fun r₂ s₂ hr₂ => ?_
      · obtain ⟨⟨oc, od, oda, osl⟩, hol, hcl, nl, hdl⟩ := hl
        simp only at hcl hdl; subst hcl; subst hdl
        have hol' : (s.heap.push (o0 w)).get? l = some { cls := .type "tuple", dict := od, data := .seq its nl, slots := osl } := Heap.get?_push_of_some _ hol
        have hsls := F.sub_tuple_set; have hslf := F.sub_tuple_frozenset; have hne : (Value.type "tuple" == Value.type "dict") = false := by decide
        have hl1 : (s.heap.push (o0 w)).IsTuple l its := ⟨_, hol', rfl, nl, rfl⟩
        unfold Builtin.«set.__init__» noKeywords Builtin.Frozenset.updateFrom; generalize hPI : pyIter = PI; wp_walk; subst hPI
        refine wpAny_pyIter_tuple hl1 ?_; refine wpAny_bind (wpAny_runValue ?_)
        have hlS : l < s.heap.objs.size := Heap.lt_size hol; have hh3 : A.in1.in1.in1.handled = none := by simp [hh]
        have hneI : l ≠ (s.heap.push (o0 w)).objs.size := by rw [Heap.size_push]; exact Nat.ne_of_lt (Nat.lt_succ_of_lt hlS)
        have hSf : s.heap.objs.size ∉ [(s.heap.push (o0 w)).objs.size, l] := by
          rw [Heap.size_push]; simp only [List.mem_cons, List.mem_singleton, List.not_mem_nil, or_false, not_or]; exact ⟨Nat.ne_of_lt (Nat.lt_succ_self _), Nat.ne_of_gt hlS⟩
        have hval : ∀ (i : Nat) (v : Value), its[i]? = some v → ∃ k t, ns[i]? = some k ∧ v = .int k t := fun i v hv => by
          have hi : i < ns.length := by rw [← hsz]; exact (Array.getElem?_eq_some_iff.mp hv).1
          obtain ⟨t, e⟩ := IntsAre.int_at hit i v (by rw [Array.getElem?_toList]; exact hv)
          refine ⟨ns[i], t, List.getElem?_eq_getElem hi, ?_⟩; rw [e, List.getD_eq_getElem?_getD, List.getElem?_eq_getElem hi] <;> rfl
        refine set_update_ints ((Walks.tuple hh3 _ l hneI its).toS) s.heap.objs.size hSf ns hsz hb hval (its.size - 0) 0 _ (by omega) (Nat.zero_le _) ⟨⟨_, Heap.get?_push_size _ rfl, rfl, rfl⟩, (hl1.push _)⟩ ?hS0 ?hR
        case hS0 =>
          have hg : ((s.heap.push (o0 w)).push { cls := .type "tuple_iterator", data := .fields #[.ref l, .int 0 0] }).get? s.heap.objs.size = some (o0 w) := Heap.get?_push_of_some _ hS
          exact ⟨0, Nat.le_refl 0, setR_new_at hg⟩
        case hR =>
          intro s' c' hm hc' hS'
          obtain ⟨h', g2, d', tk', os'⟩ := s'
          have eg : g2 = s.gens := hm.gens; have ed : d' = s.drawn := hm.drawn; have eo : os' = s.os := hm.os
          subst eg; subst ed; subst eo; show wpAny _ _ _ _ _ _
          refine wpAny_pure ?_; show wpAny _ _ (ret Value.none) _ _ _
          rw [hsz] at hc'
          refine wpAny_pure ⟨rfl, h', tk', c', rfl, hS', hc', fun b o e => ?_⟩
          have hb0 : b < s.heap.objs.size := Heap.lt_size e; have hb1 : b ≠ s.heap.objs.size := Nat.ne_of_lt hb0
          have hb2 : b ≠ (s.heap.push (o0 w)).objs.size := by rw [Heap.size_push]; exact Nat.ne_of_lt (Nat.lt_succ_of_lt hb0)
          exact hm.heap b o (by simp only [List.mem_cons, List.mem_singleton, List.not_mem_nil, or_false, not_or]; exact ⟨hb1, hb2⟩) (Heap.get?_push_of_some _ (Heap.get?_push_of_some _ e))
      · cases r₂ with
        | error e => exact hr₂
        | ok fl₂ =>
          cases fl₂ with
          | ret r =>
            obtain ⟨rfl, h', tk, c', rfl, hS', hc', hk'⟩ := hr₂; repeat (any_goals (first | assumption | wp_step))
            exact h _ _ _ hS' hc' hk'
          | _ => exact hr₂.elim
    | _ => exact hr.elim
end
section
variable {X : Cx} (K : PySem.W.Frag)
def rSetT1 (K : PySem.W.Frag) (w : World) : List V → Hp → VK → Prop := fun vs H Q => ∃ (a : Addr) (ns : List Int), vs = [.ref a] ∧ SqT K H a (ns.map V.int) ∧ ns.length < 1000 ∧
  ∀ (p : Addr) (c : Nat), H p = none → c ≤ ns.length → Q (.ref p) (upd H p (SetO w p (fun j => decide (j ∈ ns)) c))
theorem cr_setT1 (hc : X.calm = true) (hw : X.w = w := by rfl) (h : X.K = K := by rfl) : CallR X (.type "set") (rSetT1 K w) := by
  subst h; subst hw
  intro pins s σ H vs us Q I r h
  obtain ⟨a, ns, rfl, hs, hn, q⟩ := h
  rw [Vals.ref1 r]
  obtain ⟨its, rv, pl, hz⟩ := I.tuple hs
  refine set_of_tup ns (I.ok.hd hc) (show s.heap.IsTuple _ its.toArray from pl) (by simpa using rv.ints) (by unfold scanBound; omega) fun h' tk c R hcn k => ?_
  exact ⟨.ref s.heap.objs.size, upd H s.heap.objs.size (SetO X.w s.heap.objs.size (fun j => decide (j ∈ ns)) c), I.laid (t' := tk) k (Nat.le_refl _) (setO_new R), rfl, q _ c (I.hok.fresh (Nat.le_refl _)) hcn⟩
end
/-! ### either a list or a tuple -/
section
variable {X : Cx}
theorem pi_or {tg it : Expr} {w1 w2 : TI} (h1 : PI X tg it w1) (h2 : PI X tg it w2) : PI X tg it (fun σ H R => w1 σ H R ∨ w2 σ H R) := ⟨fun pins s σ H R I h => h.elim (h1.run pins s σ H R I) (h2.run pins s σ H R I)⟩
theorem cr_or {f : Value} {r1 r2 : List V → Hp → VK → Prop} (h1 : CallR X f r1) (h2 : CallR X f r2) : CallR X f (fun xs H Q => r1 xs H Q ∨ r2 xs H Q) := fun pins s σ H xs us Q I r h => h.elim (h1 pins s σ H xs us Q I r) (h2 pins s σ H xs us Q I r)
end
end Rt
namespace Rt
open PySem PySem.Spec L2 PyProof.Rows
theorem g_setB {K : PySem.W.Frag} {w : World} {c : Bool} {H : Hp} {Q : VK} {a : Addr} {ns : List Int} (hs : SqB K c H a (ns.map V.int)) (few : ns.length < 1000) (q : ∀ (p : Addr) (k : Nat), H p = none → k ≤ ns.length → Q (.ref p) (upd H p (SetO w p (fun j => decide (j ∈ ns)) k))) : rSetL K w [.ref a] H Q ∨ rSetT1 K w [.ref a] H Q := by
  cases c with
  | true => exact .inr ⟨a, ns, rfl, hs, few, q⟩
  | false => exact .inl ⟨a, ns, rfl, hs, few, q⟩
end Rt
namespace Rt
open PySem PySem.Spec L2 PyProof.Rows
def rInsL : V → List V → Hp → VK → Prop := fun x vs H Q => ∃ (l : Addr) (xs : List V) (i : Int) (y : V), x = .ref l ∧ vs = [.int i, y] ∧ H l = some (.lst xs) ∧ xs.length < sizeLine ∧ 0 ≤ i ∧ i < 2 ^ 63 ∧ Q .non (upd H l (.lst (xs.take i.toNat ++ [y] ++ xs.drop i.toNat)))
theorem pe_insK {X : Cx} (K : PySem.W.Frag) {o e : Expr} {es : List Expr} {ta : TE} {t : TA} {apos cpos : Pos} (ho : PE X o ta) (ha : PA X (e :: es) t) (h : X.K = K := by rfl) (hbase : attributeBase o "insert" X.env (eval o X.env) = eval o X.env := by rfl)
    (hfew : ((backTo cpos (starEach (e :: es) X.env)).all (fun x => !x.1) && (backToKw cpos (keywordEach [] X.env)).all (fun x => x.1.isSome) && decide ((e :: es).length + ([] : List Keyword).length + (if ([] : List Keyword).isEmpty then 0 else 1) < 30)) = true := by rfl)
    (hline : (apos.endLine == cpos.line) = true := by rfl) (hs : starEach (e :: es) X.env = (false, eval e X.env) :: starEach es X.env := by rfl) (hplain : (backTo cpos (starEach es X.env)).any (·.1) = false := by rfl) : PE X (.Call (.Attribute o "insert" apos) (e :: es) [] cpos) (tBM K "list" rInsL ta t) := by
  subst h; exact pe_bm PySem.F.plainAttrs_list PySem.F.slot_list_insert PySem.F.type_list_insert mt_insert ho ha hbase hfew hline hs hplain
theorem g_ins {H : Hp} {l : Addr} {xs : List Int} {i : Nat} {y : Int} {Q : VK} (h : H l = some (.lst (xs.map V.int))) (sz : xs.length ≤ 100000) (hi : i ≤ xs.length) (q : Q .non (upd H l (.lst ((xs.take i ++ [y] ++ xs.drop i).map V.int)))) : rInsL (.ref l) [.int (i : Int), .int y] H Q := by
  refine ⟨l, _, (i : Int), .int y, rfl, rfl, h, by rw [List.length_map]; exact slt1000 sz, by omega, by omega, ?_⟩
  rw [Int.toNat_natCast, ← List.map_take, ← List.map_drop]
  rw [List.map_append, List.map_append] at q
  exact q
end Rt
namespace Rt
open PySem PySem.Spec L2 PyProof.Rows
/-! ### list(range(a, b, c)) -/
def tLstR3 (ta : TA) : TE := fun σ H Q => ta σ H fun vs H1 => ∃ (i j k : Int) (n : Nat), vs = [.int i, .int j, .int k] ∧ RgC i j k n ∧ n ≤ 2 ^ 24 ∧ ∀ q, H1 q = none → Q (.ref q) (upd H1 q (.lst ((List.range n).map fun t : Nat => V.int (i + (t : Int) * k))))
theorem g_lstR3 {ta : TA} {σ : L2.St} {H : Hp} {Q : VK} (h : ta σ H fun vs H1 => ∃ (i j k : Int) (n : Nat), vs = [.int i, .int j, .int k] ∧ RgC i j k n ∧ n ≤ 2 ^ 24 ∧ ∀ q, H1 q = none → Q (.ref q) (upd H1 q (.lst ((List.range n).map fun t : Nat => V.int (i + (t : Int) * k))))) : tLstR3 ta σ H Q := h
theorem pe_listRg3 {X : Cx} {a b c : Expr} {ta : TA} {p p2 pos pos2 : Pos} (calm : X.calm = true) (hg : Gl X "list") (hm : X.mg "list" = none) (hg2 : Gl X "range") (hm2 : X.mg "range" = none) (ha : PA X [a, b, c] ta)
    (hs : starEach [a, b, c] X.env = (false, eval a X.env) :: starEach [b, c] X.env := by rfl) (hpl : (backTo pos2 (starEach [b, c] X.env)).any (·.1) = false := by rfl)
    (na : starEach [.Call (.Name "range" p2) [a, b, c] [] pos2] X.env = (false, eval (.Call (.Name "range" p2) [a, b, c] [] pos2) X.env) :: starEach [] X.env := by rfl) : PE X (.Call (.Name "list" p) [.Call (.Name "range" p2) [a, b, c] [] pos2] [] pos) (tLstR3 ta) := by
  refine ⟨fun pins s σ H Q I h => Call_ (ld_blt I hg hm boot_list (PyProof.Rows.callWith_type1 (args_cons (Call_ (ld_blt I hg2 hm2 boot_range (PyProof.Rows.callWith_type1 (thn (ha.run pos2 pins s σ H _ I h) fun us s1 ⟨vs, H1, I1, r1, q1⟩ => ?_) hs hpl))) na) na rfl))⟩
  obtain ⟨i, j, k, n, e, ⟨c0, c1, c2, c3⟩, few, q⟩ := q1
  subst e
  cases r1 with
  | cons r rr =>
    cases rr with
    | cons r' rr =>
      cases rr with
      | cons r'' rr =>
        cases rr
        obtain ⟨t, rfl⟩ := r
        obtain ⟨t', rfl⟩ := r'
        obtain ⟨t'', rfl⟩ := r''
        refine call_range_3 c0 ?_ (.inl (PyProof.noPylong_small c1))
        refine args_nil ?_
        have I2 : Inv X pins σ H1 { s1 with heap := s1.heap.push { cls := .type "range", data := .fields #[.int i t, .int j t', .int k t''] } } := I1.kept (t' := s1.toks) fun b o e => Heap.get?_push_of_some _ e
        refine call_list_range (n := n) (I2.ok.hd calm) (IsRange.new ..) c2 c3 few fun h' tk acc c' hk e' hi => ?_
        refine ⟨.ref _, upd H1 _ (.lst ((List.range n).map fun t : Nat => V.int (i + (t : Int) * k))), I2.laid hk (Nat.le_refl _) ⟨by rw [List.length_map, List.length_range, sizeLine_eq]; omega, acc.toList, c', ?_, by rw [Array.toArray_toList]; exact e'⟩, rfl, q _ (I2.hok.fresh (Nat.le_refl _))⟩
        have hn : acc.toList.length = n := by rw [Array.length_toList]; exact hi.1
        rw [← hn]
        refine vals_of_get acc.toList _ fun m u hj => ?_
        obtain ⟨t, e⟩ := hi.2 m u (by rw [← hj, Array.getElem?_toList])
        exact ⟨t, e⟩
end Rt
set_option Elab.async false
set_option linter.all false
set_option maxRecDepth 100000
set_option maxHeartbeats 4000000
/-! Rows of ints in the heap; what a handful changes (k04 and the laws over wakings). -/
namespace Rt
open PySem PySem.Spec L2
/-! ### rows told as a list -/
def RW (N : Addr → Prop) (b : Bool) (H : Hp) (xs : List V) (l : List (List Int)) : Prop := RA N b H xs l.length fun k => l.getD k []
section
variable {N M : Addr → Prop} {b : Bool} {H H' : Hp} {xs : List V} {l : List (List Int)}
theorem RW.nil : RW N b H [] [] := RA.nil
theorem RW.mono (h : RW N b H xs l) (S : Same H H') : RW N b H' xs l := RA.mono h S
theorem RW.monoT (h : RW N b H xs l) (S : SameT H H') : RW N b H' xs l := RA.monoT h S
theorem RW.weak (h : RW N b H xs l) (w : ∀ t, N t → M t) : RW M b H xs l := RA.weak h w
theorem RW.upd {a : Addr} {o : HO} (h : RW N b H xs l) (w : ∀ t, N t → t ≠ a) : RW N b (upd H a o) xs l := RA.upd h w
theorem RW.len (h : RW N b H xs l) : xs.length = l.length := h.1
theorem RW.more {t : Addr} {row : List Int} (h : RW N b H xs l) (c : N t) (ht : H t = some (if b = true then .tup (row.map V.int) else .lst (row.map V.int))) : RW N b H (xs ++ [V.ref t]) (l ++ [row]) := by
  unfold RW
  rw [show (l ++ [row]).length = l.length + 1 by simp]
  refine RA.more (RA.congr h fun k hk => ?_) c ?_
  · rw [List.getD_eq_getElem?_getD, List.getD_eq_getElem?_getD, List.getElem?_append_left hk]
  · rw [show (l ++ [row]).getD l.length [] = row by rw [List.getD_eq_getElem?_getD, List.getElem?_append_right (Nat.le_refl _), Nat.sub_self]; rfl]
    exact ht
theorem RW.at_ (h : RW N b H xs l) {k : Nat} {row : List Int} (hk : l[k]? = some row) : ∃ t : Addr, xs[k]? = some (V.ref t) ∧ N t ∧ H t = some (if b = true then .tup (row.map V.int) else .lst (row.map V.int)) := by
  obtain ⟨t, a, c, d⟩ := h.2 k (List.getElem?_eq_some_iff.mp hk).1
  dsimp only at d
  rw [List.getD_eq_getElem?_getD, hk] at d
  exact ⟨t, a, c, d⟩
theorem RW.of (h : RW N b H xs l) {k : Nat} {x : V} (hx : xs[k]? = some x) : ∃ (row : List Int) (t : Addr), l[k]? = some row ∧ x = .ref t ∧ N t ∧ H t = some (if b = true then .tup (row.map V.int) else .lst (row.map V.int)) := by
  have hk : k < l.length := by rw [← h.len]; exact (List.getElem?_eq_some_iff.mp hx).1
  obtain ⟨t, a, c, d⟩ := h.at_ (List.getElem?_eq_getElem hk)
  rw [hx] at a
  exact ⟨_, t, List.getElem?_eq_getElem hk, Option.some.inj a, c, d⟩
end
/-! ### what a handful changes -/
/-- the rows (place, before, after) of the first i places of a handful, ascending, each once -/
def chgP (ss : List Int) (aft : Int → Int) (qs : List Int) (i : Nat) : List (List Int) := (((ascI qs).take i).filter fun q => decide (aft q ≠ ss.getD q.toNat 0)).map fun q => [q, ss.getD q.toNat 0, aft q]
def chgL (ss : List Int) (aft : Int → Int) (qs : List Int) : List (List Int) := chgP ss aft qs (ascI qs).length
theorem chgP_step {ss : List Int} {aft : Int → Int} {qs : List Int} {i : Nat} {q : Int} (h : (ascI qs)[i]? = some q) : chgP ss aft qs (i + 1) = chgP ss aft qs i ++ (if aft q = ss.getD q.toNat 0 then [] else [[q, ss.getD q.toNat 0, aft q]]) := by
  unfold chgP
  rw [take_more h, List.filter_append, List.map_append]
  congr 1
  rw [List.filter_cons]
  by_cases c : aft q = ss.getD q.toNat 0
  · rw [if_pos c, if_neg (by simpa using c)]; rfl
  · rw [if_neg c, if_pos (by simpa using c)]; rfl
theorem chgP_len {ss : List Int} {aft : Int → Int} {qs : List Int} (i : Nat) : (chgP ss aft qs i).length ≤ qs.length := by
  unfold chgP
  rw [List.length_map]
  have a := List.length_filter_le (fun q => decide (aft q ≠ ss.getD q.toNat 0)) ((ascI qs).take i)
  have b := ascI_len qs
  rw [List.length_take] at a
  omega
/-- the same by the places of the standing -/
def chgR (ss es : List Int) (n : Nat) : List (List Int) := ((List.range n).filter fun k => decide (es.getD k 0 ≠ ss.getD k 0)).map fun k : Nat => [(k : Int), ss.getD k 0, es.getD k 0]
theorem chgR_step {ss es : List Int} {n : Nat} : chgR ss es (n + 1) = chgR ss es n ++ (if es.getD n 0 = ss.getD n 0 then [] else [[(n : Int), ss.getD n 0, es.getD n 0]]) := by
  unfold chgR
  rw [List.range_succ, List.filter_append, List.map_append]
  congr 1
  rw [List.filter_cons]
  by_cases c : es.getD n 0 = ss.getD n 0
  · rw [if_pos c, if_neg (by simpa using c)]; rfl
  · rw [if_neg c, if_pos (by simpa using c)]; rfl
theorem chgR_len {ss es : List Int} {n : Nat} : (chgR ss es n).length ≤ n := by
  unfold chgR
  rw [List.length_map]
  have := List.length_filter_le (fun k => decide (es.getD k 0 ≠ ss.getD k 0)) (List.range n)
  rw [List.length_range] at this; exact this
theorem ascI_range {qs : List Int} {n : Nat} (h : ∀ q ∈ qs, 0 ≤ q ∧ q < (n : Int)) : ascI qs = ((List.range n).filter fun k : Nat => decide ((k : Int) ∈ qs)).map fun k : Nat => (k : Int) := by
  refine (ascI_eq ?_ fun a => ?_).symm
  · rw [List.pairwise_map]
    have : ((List.range n).filter fun k : Nat => decide ((k : Int) ∈ qs)).Pairwise (· < ·) := List.pairwise_lt_range.sublist List.filter_sublist
    exact this.imp fun {a b} z => by omega
  · rw [List.mem_map]
    constructor
    · rintro ⟨k, hk, rfl⟩
      exact of_decide_eq_true (List.mem_filter.mp hk).2
    · intro ha
      have := h a ha
      exact ⟨a.toNat, List.mem_filter.mpr ⟨List.mem_range.mpr (by omega), by rw [Int.toNat_of_nonneg this.1]; exact decide_eq_true ha⟩, Int.toNat_of_nonneg this.1⟩
theorem chg_eq {ss es : List Int} {aft : Int → Int} {qs : List Int} {n : Nat} (h : ∀ q ∈ qs, 0 ≤ q ∧ q < (n : Int)) (he : ∀ k : Nat, k < n → es.getD k 0 = if (k : Int) ∈ qs then aft (k : Int) else ss.getD k 0) : chgL ss aft qs = chgR ss es n := by
  unfold chgL chgP chgR
  rw [List.take_length, ascI_range h, List.filter_map, List.map_map, List.filter_filter]
  have e1 : ((List.range n).filter fun k : Nat => decide ((k : Int) ∈ qs) && ((fun q => decide (aft q ≠ ss.getD q.toNat 0)) ∘ fun k : Nat => (k : Int)) k) = (List.range n).filter fun k => decide (es.getD k 0 ≠ ss.getD k 0) := by
    refine List.filter_congr fun k hk => ?_
    rw [he k (List.mem_range.mp hk)]
    by_cases c : (k : Int) ∈ qs
    · rw [if_pos c]; simp [c]
    · rw [if_neg c]; simp [c]
  have e2 : ((List.range n).filter fun k : Nat => ((fun q => decide (aft q ≠ ss.getD q.toNat 0)) ∘ fun k : Nat => (k : Int)) k && decide ((k : Int) ∈ qs)) = (List.range n).filter fun k => decide (es.getD k 0 ≠ ss.getD k 0) := by
    rw [← e1]
    exact List.filter_congr fun k _ => Bool.and_comm _ _
  first | rw [e1] | rw [e2]
  refine List.map_congr_left fun k hk => ?_
  obtain ⟨h1, h2⟩ := List.mem_filter.mp hk
  have hn := List.mem_range.mp h1
  have ne : es.getD k 0 ≠ ss.getD k 0 := by simpa using h2
  have e := he k hn
  by_cases c : (k : Int) ∈ qs
  · rw [if_pos c] at e
    show [(k : Int), ss.getD (k : Int).toNat 0, aft (k : Int)] = _
    rw [Int.toNat_natCast, e]
  · rw [if_neg c] at e
    exact absurd e ne
/-- the strengths with the changes done -/
def doC (ss : List Int) (l : List (List Int)) : List Int := l.foldl (fun e row => e.set (row.getD 0 0).toNat (row.getD 2 0)) ss
theorem doC_len {l : List (List Int)} : ∀ {ss : List Int}, (doC ss l).length = ss.length := by
  unfold doC
  induction l with
  | nil => intro ss; rfl
  | cons row l ih => intro ss; rw [List.foldl_cons, ih, List.length_set]
theorem doC_app {ss : List Int} {l : List (List Int)} {row : List Int} : doC ss (l ++ [row]) = (doC ss l).set (row.getD 0 0).toNat (row.getD 2 0) := by
  unfold doC
  rw [List.foldl_append]; rfl
theorem doC_chg {ss es : List Int} (hl : es.length = ss.length) : ∀ n, n ≤ ss.length → ∀ k, (doC ss (chgR ss es n)).getD k 0 = if k < n then es.getD k 0 else ss.getD k 0
  | 0, _, k => by rw [if_neg (Nat.not_lt_zero k)]; rfl
  | n + 1, hn, k => by
    have ih := doC_chg hl n (by omega) k
    rw [chgR_step]
    by_cases c : es.getD n 0 = ss.getD n 0
    · rw [if_pos c, List.append_nil, ih]
      by_cases d : k < n
      · rw [if_pos d, if_pos (by omega)]
      · rw [if_neg d]
        by_cases e : k = n
        · subst e; rw [if_pos (by omega), c]
        · rw [if_neg (by omega)]
    · rw [if_neg c, doC_app]
      show ((doC ss (chgR ss es n)).set ((n : Int).toNat) (es.getD n 0)).getD k 0 = _
      rw [Int.toNat_natCast, getD_set (by rw [doC_len]; omega), ih]
      by_cases e : k = n
      · subst e; rw [if_pos rfl, if_pos (by omega)]
      · rw [if_neg e]
        by_cases d : k < n
        · rw [if_pos d, if_pos (by omega)]
        · rw [if_neg d, if_neg (by omega)]
theorem doC_all {ss es : List Int} (hl : es.length = ss.length) : doC ss (chgR ss es ss.length) = es := by
  refine ext_getD (by rw [doC_len, hl]) fun k hk => ?_
  rw [doC_len] at hk
  rw [doC_chg hl _ (Nat.le_refl _), if_pos hk]
/-- the first that is no place -/
def badQ (n : Int) (qs : List Int) : Option Int := qs.find? fun q => !(decide (0 ≤ q) && decide (q < n))
theorem badQ_none {n : Int} {qs : List Int} (h : ∀ q ∈ qs, 0 ≤ q ∧ q < n) : badQ n qs = none := List.find?_eq_none.mpr fun q hq => by
  have := h q hq
  simp; omega
theorem good_of {n : Int} {qs : List Int} (h : badQ n qs = none) : ∀ q ∈ qs, 0 ≤ q ∧ q < n := fun q hq => by
  have := List.find?_eq_none.mp h q hq
  simp at this
  exact this
end Rt
namespace Rt
open PySem PySem.Spec L2
/-- the standing behind a handful -/
def wkS (r : Bool) (ss ls : List Int) (qs : List Int) : List Int := (List.range ss.length).map fun k : Nat => if (k : Int) ∈ qs then rch r ss ls k else ss.getD k 0
theorem wkS_len {r : Bool} {ss ls qs : List Int} : (wkS r ss ls qs).length = ss.length := by unfold wkS; rw [List.length_map, List.length_range]
theorem wkS_at {r : Bool} {ss ls qs : List Int} {k : Nat} (hk : k < ss.length) : (wkS r ss ls qs).getD k 0 = if (k : Int) ∈ qs then rch r ss ls k else ss.getD k 0 := by
  unfold wkS
  rw [List.getD_eq_getElem?_getD, List.getElem?_map, List.getElem?_range hk]; rfl
theorem wkS_congr {r : Bool} {ss ls qs qt : List Int} (h : ∀ q, q ∈ qs ↔ q ∈ qt) : wkS r ss ls qs = wkS r ss ls qt := by
  unfold wkS
  refine List.map_congr_left fun k _ => ?_
  by_cases c : (k : Int) ∈ qs
  · rw [if_pos c, if_pos ((h _).mp c)]
  · rw [if_neg c, if_neg (fun z => c ((h _).mpr z))]
theorem chg_wkS {r : Bool} {ss ls qs : List Int} (h : ∀ q ∈ qs, 0 ≤ q ∧ q < (ss.length : Int)) : chgL ss (fun q => rch r ss ls q.toNat) qs = chgR ss (wkS r ss ls qs) ss.length := by
  refine chg_eq h fun k hk => ?_
  rw [wkS_at hk]
  rfl
theorem chgR_row {ss es : List Int} {n : Nat} (hn : n ≤ ss.length) : ∀ row ∈ chgR ss es n, ∃ (p : Nat) (b a : Int), row = [(p : Int), b, a] ∧ p < ss.length := fun row h => by
  obtain ⟨k, hk, rfl⟩ := List.mem_map.mp h
  have := List.mem_range.mp (List.mem_filter.mp hk).1
  exact ⟨k, _, _, rfl, by omega⟩
theorem doC_wkS {r : Bool} {ss ls qs : List Int} (h : ∀ q ∈ qs, 0 ≤ q ∧ q < (ss.length : Int)) : doC ss (chgL ss (fun q => rch r ss ls q.toNat) qs) = wkS r ss ls qs := by
  rw [chg_wkS h]
  exact doC_all wkS_len
/-- the restless, the hungry -/
def rsN (r : Bool) (ss ls : List Int) (n : Nat) : List Nat := (List.range n).filter fun k => decide (rch r ss ls k ≠ ss.getD k 0)
def hgN (r : Bool) (ss ls : List Int) (n : Nat) : List Nat := (List.range n).filter fun k => decide (ss.getD k 0 < rch r ss ls k)
theorem filt_len {p : Nat → Bool} {n : Nat} : ((List.range n).filter p).length ≤ n := by
  have := List.length_filter_le p (List.range n)
  rw [List.length_range] at this; exact this
theorem filt_step {p : Nat → Bool} {n : Nat} : (List.range (n + 1)).filter p = (List.range n).filter p ++ (if p n = true then [n] else []) := by
  rw [List.range_succ, List.filter_append]
  congr 1
  rw [List.filter_cons]
  split <;> rfl
theorem nI_app {l m : List Nat} : nI (l ++ m) = nI l ++ nI m := by unfold nI; rw [List.map_append]
theorem nI_len {l : List Nat} : (nI l).length = l.length := by unfold nI; rw [List.length_map]
end Rt
namespace Rt
open PySem PySem.Spec L2
theorem hg_rs {r : Bool} {ss ls : List Int} {n : Nat} : (rsN r ss ls n).filter (fun k => decide (ss.getD k 0 < rch r ss ls k)) = hgN r ss ls n := by
  unfold rsN hgN
  rw [List.filter_filter]
  refine List.filter_congr fun k _ => ?_
  by_cases c : ss.getD k 0 < rch r ss ls k
  · rw [decide_eq_true c, decide_eq_true (show rch r ss ls k ≠ ss.getD k 0 by omega)]; rfl
  · rw [decide_eq_false c]; first | rfl | exact Bool.and_false _ | exact Bool.false_and _
def badP (n : Int) (q : Int) : Bool := !(decide (0 ≤ q) && decide (q < n))
theorem badQ_head {n : Int} {qs : List Int} : badQ n qs = (qs.filter (badP n)).head? := by
  rw [List.head?_filter]; rfl
theorem badP_or {n q : Int} : (decide (q < 0) || decide (n ≤ q)) = badP n q := by
  unfold badP
  by_cases a : 0 ≤ q <;> by_cases b : q < n
  · rw [decide_eq_true a, decide_eq_true b, decide_eq_false (by omega), decide_eq_false (by omega)]; rfl
  · rw [decide_eq_true a, decide_eq_false b, decide_eq_false (by omega), decide_eq_true (by omega)]; rfl
  · rw [decide_eq_false a, decide_eq_true b, decide_eq_true (by omega)]; rfl
  · rw [decide_eq_false a, decide_eq_false b, decide_eq_true (by omega)]; rfl
end Rt
set_option Elab.async false
set_option linter.all false
set_option maxRecDepth 100000
set_option maxHeartbeats 4000000
/-! A + B and A * n of an own class; a method without arguments. -/
namespace Rt
open PySem PySem.Spec PyProof.Rows L2
/-- an operator of the class at C, by what its def promises -/
structure OpD (P : Program) (w : World) (K : PySem.W.Frag) (mg : Str → Option Value) (base : Heap) (CX : CXT) (k : Nat) (C : Addr) (nm : Str) (sp : Sp) : Prop where
  first : PySem.W.selfFirst K C = true
  ex : ∃ (f : Addr) (fd : FuncData), PySem.W.findIn K (.ref C) nm = some (some (.ref f)) ∧ PySem.W.isFn K (.ref f) = true ∧ FnOk P w K mg base CX k f fd ["self", "other"] sp ∧ L2.Binds K fd ["self", "other"] []
/-- x op y, both of the class at C -/
def rOpO (C : Addr) (sp : Sp) (E : XK) : R2 := fun x y H Q => ∃ (a b dx dy : Addr) (fs gs : List (Str × V)), x = .ref a ∧ y = .ref b ∧ H a = some (.ins C dx fs) ∧ H b = some (.ins C dy gs) ∧ sp [.ref a, .ref b] H (fun v H' => ∃ r : Addr, v = .ref r ∧ Q (.ref r) H') E
theorem cmpBack_ref {X : Cx} {pins : List (Addr × Obj)} {σ : L2.St} {Q : VK} {v : Value} {s' : Shared} (h : EP X pins σ (fun v H' => ∃ r : Addr, v = .ref r ∧ Q (.ref r) H') v s') : PySem.W.CmpBack (EP X pins σ Q) v s' := by
  obtain ⟨y, H', I', rv, r, rfl, q⟩ := h
  cases rv
  exact ⟨.ref r, H', I', rfl, q⟩
theorem op_addO {X : Cx} {CX : CXT} {k : Nat} {C : Addr} {sp : Sp} {E : XK} (D : OpD X.prog X.w X.K X.mg X.base CX k C "__add__" sp) (hr : Room k X.A) (hx : L2.Passes CX X E) : OpR X (binaryOp .Add) (rOpO C sp E) := by
  intro pins s σ H x y v u Q I rx ry h
  obtain ⟨a, b, dx, dy, fs, gs, rfl, rfl, ha, hb, hsp⟩ := h
  cases rx
  cases ry
  obtain ⟨f, fd, at_, fn, F, bd⟩ := D.ex
  obtain ⟨mA, J, _⟩ := ins_get I.hok ha
  obtain ⟨od, J, _⟩ := J.look
  obtain ⟨mB, JB, _⟩ := ins_get I.hok hb
  obtain ⟨ob, JB, _⟩ := JB.look
  obtain ⟨m0, hF⟩ := I.fr
  refine PySem.W.binop_K hF I.ok.mod.kin J JB.type D.first at_ fn ?_
  exact wpAny_mono (run_fn' F hr rfl bd hx I (us := [.ref a, .ref b]) (vs := [V.ref a, V.ref b]) (.cons rfl (.cons rfl .nil)) hsp) (fun v s' hv => cmpBack_ref hv) fun _ _ z => z
/-- x * n, x of the class at C -/
def rOpI (C : Addr) (sp : Sp) (E : XK) : R2 := fun x y H Q => ∃ (a dx : Addr) (fs : List (Str × V)) (n : Int), x = .ref a ∧ y = .int n ∧ H a = some (.ins C dx fs) ∧ sp [.ref a, .int n] H (fun v H' => ∃ r : Addr, v = .ref r ∧ Q (.ref r) H') E
structure MulD (K : PySem.W.Frag) (C : Addr) : Prop where
  rc : PySem.W.findIn K (.ref C) "__rmul__" = some none
  h1 : ∃ fo, PySem.W.findIn K (.type "int") "__mul__" = some fo
  h2 : ∃ ro, PySem.W.findIn K (.type "int") "__rmul__" = some ro
  sub : PySem.W.subIn K (.type "int") (.ref C) = some false
theorem op_mulO {X : Cx} {CX : CXT} {k : Nat} {C : Addr} {sp : Sp} {E : XK} (D : OpD X.prog X.w X.K X.mg X.base CX k C "__mul__" sp) (Z : MulD X.K C) (hr : Room k X.A) (hx : L2.Passes CX X E) : OpR X (binaryOp .Mult) (rOpI C sp E) := by
  intro pins s σ H x y v u Q I rx ry h
  obtain ⟨a, dx, fs, n, rfl, rfl, ha, hsp⟩ := h
  cases rx
  obtain ⟨t, rfl⟩ := ry
  obtain ⟨f, fd, at_, fn, F, bd⟩ := D.ex
  obtain ⟨fo, h1⟩ := Z.h1
  obtain ⟨ro, h2⟩ := Z.h2
  obtain ⟨mA, J, _⟩ := ins_get I.hok ha
  obtain ⟨od, J, _⟩ := J.look
  obtain ⟨m0, hF⟩ := I.fr
  refine PySem.W.ksp_binT (T := "int") hF I.ok.mod.kin J rfl D.first at_ fn Z.rc (.inl rfl) h1 h2 Z.sub ?_
  exact wpAny_mono (run_fn' F hr rfl bd hx I (us := [.ref a, .int n t]) (vs := [V.ref a, V.int n]) (.cons rfl (.cons ⟨t, rfl⟩ .nil)) hsp) (fun v s' hv => cmpBack_ref hv) fun _ _ z => z
/-- o.m() -/
theorem pe_methD0 {X : Cx} {CX : CXT} {k : Nat} {C : Addr} {m : Str} {ps : List Str} {sp : Sp} {E : XK} {o : Expr} {ta : TE} {apos pos : Pos} {pl : Sem Bool} (D : MethD X.prog X.w X.K X.mg X.base CX k C m ps sp) (hr : Room k X.A) (hx : L2.Passes CX X E) (he : PE X o ta)
    (ht : eval (.Call (.Attribute o m apos) [] [] pos) X.env = (do let ov ← eval o X.env; standAt apos.atName; let (f, first) ← holding [ov] (getMethod ov m pl); callWith pos f first (backTo pos (starEach [] X.env)) (backToKw pos (keywordEach [] X.env))) := by rfl) :
    PE X (.Call (.Attribute o m apos) [] [] pos) (tMeth C m sp [] E ta tNil) := by
  obtain ⟨f, fd, a, b, c⟩ := D.ex
  exact L2.pe_meth0 he D.cl a b hr c .nil hx ht
open AutoSeq1 (wpAny_loadPart') in
theorem tuple_mul1 (u : Addr) (zs : Array Value) (n : Nat) (dd : Option Addr) (sl : Array (Option Value)) (t : Tok) :
    Meets (Builtin.«tuple.__mul__» ⟨[.ref u, .int 1 t], []⟩) (fun _ R s => s.heap.get? u = some { cls := .type "tuple", dict := dd, data := .seq zs n, slots := sl } ∧ R (.ok (.ret (Value.ref u))) s) :=
  .of_wp fun prog w A R s h => by
    obtain ⟨hp, g, d, tk, os⟩ := s; obtain ⟨hl, h⟩ := h; have f1 := AutoSeq1.idx_int
    have c1 : (zs.isEmpty || (1 : Int) == 1) = true := by simp
    wp_walk using wpAny_loadPart' hl
    repeat (first
      | (refine wpAny_ite_false (decide_eq_false (by decide)) ?_; wp_walk using wpAny_loadPart' hl)
      | (refine wpAny_ite_true (decide_eq_true (by simp)) ?_; wp_walk using wpAny_loadPart' hl))
    exact ⟨_, rfl, h⟩
def rRepT1 (K : PySem.W.Frag) : R2 := fun x y H Q => rRepT K x y H Q ∨ ∃ (u : Addr) (xs : List V), x = .ref u ∧ y = .int 1 ∧ SqT K H u xs ∧ Q (.ref u) H
theorem op_repT1 {X : Cx} (K : PySem.W.Frag) (h : X.K = K := by rfl) : OpR X (binaryOp .Mult) (rRepT1 K) := by
  subst h
  intro pins s σ H x y v w' Q I rx ry h
  rcases h with h | ⟨u, xs, rfl, rfl, hT, q⟩
  · exact op_repT pins s σ H x y v w' Q I rx ry h
  · cases rx
    obtain ⟨t, rfl⟩ := ry
    obtain ⟨its, r, ⟨⟨cls, dd, data, sl⟩, ho, hc, n, hd⟩, hs⟩ := I.tuple hT
    simp only at hc hd; subst hc hd
    exact wpAny_binaryOp_repeat_ref (T := "tuple") (U := "int") (by decide) ⟨_, ho, rfl⟩ (fun s' => typeIs_int s' 1 t) noFill_tuple_mul F.fills_int_mul F.slot_int_rmul repeat_tuple F.slot_int_index.lookup (call_meets F.slot_int_rmul (typeIs_int s 1 t) F.entry_int_rmul (F.args_int_rmul_2 _ _) (int_rmul_tuple 1 t u its.toArray n dd sl)
      ⟨ho, rfl, ⟨_, ho, rfl⟩, call_meets F.slot_tuple_mul ⟨_, ho, rfl⟩ F.entry_tuple_mul (F.args_tuple_mul_2 _ _) (tuple_mul1 u its.toArray n dd sl t) ⟨ho, .ref u, H, I, rfl, q⟩⟩)
/-- a list of ints, so many times -/
theorem g_repL {H : Hp} {Q : VK} {l : Addr} {xs : List Int} {k : Nat} (h1 : H l = some (.lst (xs.map V.int))) (sz : xs.length * k ≤ 100000) (hk : k ≤ 100000)
    (h : ∀ p H', H p = none → Same H H' → H' p = some (.lst (((List.replicate k xs).flatten).map V.int)) → Q (.ref p) H') : rRep (.ref l) (.int (k : Int)) H Q :=
  ⟨l, (k : Int), xs.map V.int, rfl, rfl, h1, by omega, by omega, by rw [Int.toNat_natCast, sizeLine_eq, List.length_map]; omega, fun p np => h p _ np (L2.Same.new np) (by rw [upd_same, Int.toNat_natCast, List.map_flatten, List.map_replicate])⟩
/-- a tuple of ints, so many times -/
theorem g_repTM {K : PySem.W.Frag} {H : Hp} {Q : VK} {u : Addr} {xs : List Int} {k : Nat} (h1 : H u = some (.tup (xs.map V.int))) (hne : xs ≠ []) (k1 : 1 ≤ k) (hk : k ≤ 1000) (sz : xs.length ≤ 1000)
    (h : ∀ p H', Same H H' → H' p = some (.tup (((List.replicate k xs).flatten).map V.int)) → Q (.ref p) H') : rRepT1 K (.ref u) (.int (k : Int)) H Q := by
  by_cases z : k = 1
  · subst z
    exact .inr ⟨u, _, rfl, rfl, SqT.of h1, h u H (Same.refl _) (by simpa using h1)⟩
  · exact .inl ⟨u, (k : Int), _, rfl, rfl, SqT.of h1, fun e => hne (List.map_eq_nil_iff.mp e), by omega, by omega, by rw [List.length_map]; exact sz, fun p np => h p _ (L2.Same.new np) (by rw [upd_same, Int.toNat_natCast, List.map_flatten, List.map_replicate])⟩
theorem sumT_raw {prog : Program} {w : World} {A : Around} {E : Value → Shared → Prop} {s : Shared} {u : Addr} {zs : List Value} {ns : List Int} {Q : Value → Shared → Prop} (h0 : A.handled = none) (hl : s.heap.IsTuple u zs.toArray) (hi : IntsAre zs ns)
    (h : ∀ h' tk t', (∀ b o, s.heap.get? b = some o → h'.get? b = some o) → Q (.int ns.sum t') { s with heap := h', toks := tk }) : wpAny (model prog w) A (call (.builtin "sum") [.ref u]) Q E s := by
  obtain ⟨xs, e⟩ := hi.allInts.items; have hn : numsOf (intItems xs).toList = ns := by rw [← e]; exact hi.numsOf
  rw [nums_intItems] at hn; rw [e] at hl
  refine PySem.call_sum_walkAnyS (PySem.W.iter_tupleW (A := A.in1) h0 hl fun s₂ e W st hfp hw hk => ?_)
  refine ⟨_, _, _, _, _, _, _, numAt xs, rfl, W, st, hfp, (fun _ _ => intItems_at), fun s' t' m => ?_⟩
  obtain ⟨h', tk, rfl, hk'⟩ := PySem.W.moved_old e rfl m
  have hs : (intItems xs).size = xs.size := by simp [intItems]
  have := h h' tk t' hk'
  rw [hs, preSum_eq, List.take_of_length_le (by simp), hn]; exact this
def rSumT (K : PySem.W.Frag) : List V → Hp → VK → Prop := fun vs H Q => ∃ (u : Addr) (ns : List Int), vs = [V.ref u] ∧ SqT K H u (ns.map V.int) ∧ Q (.int ns.sum) H
theorem cr_sumT {X : Cx} (K : PySem.W.Frag) (hc : X.calm = true) (h : X.K = K := by rfl) : CallR X (.builtin "sum") (rSumT K) := by
  subst h
  intro pins s σ H vs us Q I r h
  obtain ⟨u, ns, rfl, hs, q⟩ := h
  obtain ⟨its, rv, hl, _⟩ := I.tuple hs
  rw [Vals.ref1 r]
  exact sumT_raw (I.ok.hd hc) (show s.heap.IsTuple u its.toArray from hl) (by simpa using rv.ints) fun h' tk t' hk => ⟨.int _, H, I.kept hk, ⟨_, rfl⟩, q⟩
end Rt
set_option Elab.async false
set_option linter.all false
set_option maxRecDepth 100000
set_option maxHeartbeats 4000000
/-! A def called with keywords. -/
namespace Rt
open PySem PySem.Spec L2 PyProof.Rows
/-- a def of the module by its name, bound to n values and keywords ks -/
structure DefN (P : Program) (w : World) (K : PySem.W.Frag) (mg : Str → Option Value) (base : Heap) (CX : CXT) (k : Nat) (x : Str) (n : Nat) (ks : List Str) (gV : List V → List V → List V) (sp : Sp) : Prop where
  ex : ∃ (f : Addr) (fd : FuncData) (ps : List Str) (g : List Value → List Value → List Value), mg x = some (.ref f) ∧ PySem.W.keepIn K (.ref f) = true ∧ FnOk P w K mg base CX k f fd ps sp ∧ KBn K fd ps n ks g gV
theorem pe_callKw {X : Cx} {CX : CXT} {k n : Nat} {ks : List Str} {gV : List V → List V → List V} {sp : Sp} {E : XK} {x : Str} {p pos : Pos} {e : Expr} {es : List Expr} {kws : List Keyword} {t tk : TA}
    (D : DefN X.prog X.w X.K X.mg X.base CX k x n ks gV sp) (hr : Room k X.A) (hx : L2.Passes CX X E) (ha : PA X (e :: es) t) (hkw : PK X kws tk) (hg : Gl X x := by rfl)
    (hall : (backToKw pos (keywordEach kws X.env)).all (·.1.isSome) = true := by rfl) (hks : (backToKw pos (keywordEach kws X.env)).filterMap (·.1) = ks := by rfl) (hdb : (x == ("__debug__" : Str)) = false := by decide)
    (he : starEach (e :: es) X.env = (false, eval e X.env) :: starEach es X.env := by rfl) (hpl : ((backTo pos (starEach (e :: es) X.env)).any (·.1) || (backToKw pos (keywordEach kws X.env)).any (·.1.isNone)) = false := by rfl) :
    PE X (.Call (.Name x p) (e :: es) kws pos) (tCallN n ks.length sp gV E t tk) := by
  obtain ⟨f, fd, ps, g, a, b, c, d⟩ := D.ex
  exact pe_callN c hr hg a b d hx ha hkw hall hks hdb he hpl
theorem g_callN {n m : Nat} {sp : Sp} {gV : List V → List V → List V} {E : XK} {t tk : TA} {σ : L2.St} {H : Hp} {Q : VK} (h : t σ H fun vs H1 => tk σ H1 fun zs H2 => vs.length = n ∧ zs.length = m ∧ sp (gV vs zs) H2 Q E) : tCallN n m sp gV E t tk σ H Q := h
end Rt
set_option Elab.async false
set_option linter.all false
set_option maxRecDepth 100000
set_option maxHeartbeats 4000000
/-! list.pop(i), slices of a list or tuple, a def called with keywords in a try; orders of places. -/
namespace Rt
open PySem PySem.Spec L2 PyProof.Rows
/-! ### pop -/
theorem pe_popAtK {X : Cx} (K : PySem.W.Frag) {o e : Expr} {es : List Expr} {ta : TE} {t : TA} {apos cpos : Pos} (ho : PE X o ta) (ha : PA X (e :: es) t) (h : X.K = K := by rfl) (hbase : attributeBase o "pop" X.env (eval o X.env) = eval o X.env := by rfl)
    (hfew : ((backTo cpos (starEach (e :: es) X.env)).all (fun x => !x.1) && (backToKw cpos (keywordEach [] X.env)).all (fun x => x.1.isSome) && decide ((e :: es).length + ([] : List Keyword).length + (if ([] : List Keyword).isEmpty then 0 else 1) < 30)) = true := by rfl)
    (hline : (apos.endLine == cpos.line) = true := by rfl) (hs : starEach (e :: es) X.env = (false, eval e X.env) :: starEach es X.env := by rfl) (hplain : (backTo cpos (starEach es X.env)).any (·.1) = false := by rfl) : PE X (.Call (.Attribute o "pop" apos) (e :: es) [] cpos) (tBM K "list" rPopAt ta t) := by
  subst h; exact pe_bm PySem.F.plainAttrs_list PySem.F.slot_list_pop PySem.F.type_list_pop mt_popAt ho ha hbase hfew hline hs hplain
theorem g_popAt {H : Hp} {l : Addr} {xs : List V} {i : Nat} {y : V} {Q : VK} (h : H l = some (.lst xs)) (sz : xs.length ≤ 100000) (hi : xs[i]? = some y) (q : Q y (upd H l (.lst (xs.eraseIdx i)))) : rPopAt (.ref l) [.int (i : Int)] H Q := by
  have hl : i < xs.length := (List.getElem?_eq_some_iff.mp hi).1
  refine ⟨l, xs, (i : Int), i, y, rfl, rfl, h, by omega, by omega, ?_, hi, q⟩
  unfold seqIndex?
  simp; omega
/-! ### the item before the end is replaced -/
theorem g_setM {H : Hp} {l : Addr} {xs : List Int} {v : Int} {R : Hp → Prop} (h : H l = some (.lst (xs.map V.int))) (hi : 0 < xs.length) (q : R (upd H l (.lst ((xs.set (xs.length - 1) v).map V.int)))) : L2.rSetL (.ref l) (.int (-1)) (.int v) H R := by
  refine ⟨l, _, (-1), xs.length - 1, rfl, rfl, h, ?_, by rw [← List.map_set]; exact q⟩
  rw [List.length_map]
  unfold ixN
  simp; omega
/-! ### the first items of a list or tuple -/
theorem g_takeB {K : PySem.W.Frag} {c : Bool} {H : Hp} {Q : VK} {a : Addr} {xs : List Int} {k : Nat} (h : SqB K c H a (xs.map V.int)) (hk : k ≤ xs.length) (q : ∀ p H', Same H H' → SqB K c H' p ((xs.take k).map V.int) → Q (.ref p) H') :
    rSlL K (.ref a) none (some (k : Int)) H Q ∨ rSlA K (.ref a) none (some (k : Int)) H Q := by
  have hl : k ≤ (xs.map V.int).length := by rw [List.length_map]; exact hk
  cases c with
  | false => exact .inl (g_cut h fun p H' _ S hp => q p H' S (SqL.of (by rw [hp, cut_hi hl, List.map_take])))
  | true =>
    refine .inr ⟨a, _, rfl, h, fun z => q a H (Same.refl _) ?_, fun _ p np => q p _ (L2.Same.new np) (SqT.of (by rw [upd_same, cut_hi hl, List.map_take]))⟩
    have z2 := z.2
    rw [HT.sIx_nat, List.length_map] at z2
    rw [List.take_of_length_le (by omega)]; exact h
theorem g_lenSqB {K : PySem.W.Frag} {c : Bool} {H : Hp} {a : Addr} {xs : List V} (h : SqB K c H a xs) : SqL K H a xs ∨ SqT K H a xs := by
  cases c with
  | false => exact .inl h
  | true => exact .inr h
theorem g_sumB {K : PySem.W.Frag} {c : Bool} {H : Hp} {Q : VK} {a : Addr} {xs : List Int} (h : SqB K c H a (xs.map V.int)) (q : Q (.int xs.sum) H) : rSum K [.ref a] H Q ∨ rSumT K [.ref a] H Q := by
  cases c with
  | false => exact .inl ⟨a, xs, rfl, h, q⟩
  | true => exact .inr ⟨a, xs, rfl, h, q⟩
/-! ### a def called with keywords within a try -/
def tCallNS (n m : Nat) (sp : Sp) (gV : List V → List V → List V) (E : L2.St → XK) (t tk : TA) : TE := fun σ H Q => t σ H fun vs H1 => tk σ H1 fun zs H2 => vs.length = n ∧ zs.length = m ∧ sp (gV vs zs) H2 Q (E σ)
theorem pe_callKwS {X : Cx} {CX : CXT} {k n : Nat} {ks : List Str} {gV : List V → List V → List V} {sp : Sp} {E : L2.St → XK} {x : Str} {p pos : Pos} {e : Expr} {es : List Expr} {kws : List Keyword} {t tk : TA}
    (D : DefN X.prog X.w X.K X.mg X.base CX k x n ks gV sp) (hr : Room k X.A) (hx : ∀ σ : L2.St, PassesAt CX X σ (E σ)) (ha : PA X (e :: es) t) (hkw : PK X kws tk) (hg : Gl X x := by rfl)
    (hall : (backToKw pos (keywordEach kws X.env)).all (·.1.isSome) = true := by rfl) (hks : (backToKw pos (keywordEach kws X.env)).filterMap (·.1) = ks := by rfl) (hdb : (x == ("__debug__" : Str)) = false := by decide)
    (he : starEach (e :: es) X.env = (false, eval e X.env) :: starEach es X.env := by rfl) (hpl : ((backTo pos (starEach (e :: es) X.env)).any (·.1) || (backToKw pos (keywordEach kws X.env)).any (·.1.isNone)) = false := by rfl) :
    PE X (.Call (.Name x p) (e :: es) kws pos) (tCallNS n ks.length sp gV E t tk) := by
  obtain ⟨f, fd, ps, g, hm, hk, F, hb⟩ := D.ex
  refine ⟨fun pins s σ H Q I h => ?_⟩
  refine wpAny_Call_Name_kw (ld_glob I hg hm ?_ hdb)
  refine PySem.W.callWith_KW (h₀ := X.base) I.ok.mod.kin hk hall (thn (ha.run pos pins s σ H _ I h) fun us s1 ⟨vs, H1, I1, r, q⟩ => ?_) hpl he
  refine thn (hkw.run pos pins s1 σ H1 _ I1 q) fun ws s2 ⟨zs, H2, I2, rz, l1, l2, q2⟩ => ⟨I2.kIn, ?_⟩
  rw [hks]
  refine wpAny_call (codeAny_mono (F.run X.A X.stack s2 H2 ⟨us, ks.zip ws⟩ (g us ws) (gV vs zs) Q (E σ) hr I2.env0 (hb.to s2 us ws I2.kIn (r.length.symm.trans l1) (rz.length.symm.trans l2)) (hb.rel r rz) q2) fun r s' hq => ?_)
  cases r with
  | error e => exact hx σ pins H2 s2 e s' I2 hq
  | ok fl =>
    cases fl with
    | ret u => exact I2.after hq
    | next => exact False.elim hq
    | brk => exact False.elim hq
    | cont => exact False.elim hq
theorem g_callNS {n m : Nat} {sp : Sp} {gV : List V → List V → List V} {E : L2.St → XK} {t tk : TA} {σ : L2.St} {H : Hp} {Q : VK} (h : t σ H fun vs H1 => tk σ H1 fun zs H2 => vs.length = n ∧ zs.length = m ∧ sp (gV vs zs) H2 Q (E σ)) : tCallNS n m sp gV E t tk σ H Q := h
/-! ### orders of places -/
def badO (n : Int) (qs : List Int) (i : Nat) : Bool := !(decide (0 ≤ qs.getD i 0) && decide (qs.getD i 0 < n)) || decide (qs.getD i 0 ∈ qs.take i)
def ordQ (n : Int) (qs : List Int) : Option Nat := (List.range qs.length).find? (badO n qs)
def faultI (n : Int) (qs : List Int) : Nat := (ordQ n qs).getD qs.length
def okO (n : Nat) (qs : List Int) : Prop := ordQ n qs = none ∧ n ≤ qs.length
theorem find_none {p : Nat → Bool} {n : Nat} : (List.range n).find? p = none ↔ ∀ i, i < n → p i = false := by
  rw [List.find?_eq_none]
  constructor
  · intro h i hi
    have := h i (List.mem_range.mpr hi)
    cases q : p i with
    | true => exact absurd q this
    | false => rfl
  · intro h i hi
    rw [h i (List.mem_range.mp hi)]
    exact Bool.false_ne_true
theorem find_step {p : Nat → Bool} {i : Nat} (h : (List.range i).find? p = none) : (List.range (i + 1)).find? p = if p i = true then some i else none := by
  rw [List.range_succ, List.find?_append, h, Option.none_or, List.find?_cons]
  cases p i <;> rfl
theorem find_atR {p : Nat → Bool} {i n : Nat} (h : (List.range i).find? p = none) (hp : p i = true) (hi : i < n) : (List.range n).find? p = some i := by
  induction n with
  | zero => exact absurd hi (Nat.not_lt_zero _)
  | succ n ih =>
    by_cases e : i = n
    · subst e
      rw [find_step h, if_pos hp]
    · rw [List.range_succ, List.find?_append, ih (by omega)]; rfl
theorem badO_out {n : Int} {qs : List Int} {i : Nat} (h : ¬ (0 ≤ qs.getD i 0 ∧ qs.getD i 0 < n)) : badO n qs i = true := by
  unfold badO
  generalize qs.getD i 0 = x at h ⊢
  simp only [Bool.or_eq_true, Bool.not_eq_true', Bool.and_eq_false_iff, decide_eq_false_iff_not, decide_eq_true_eq]
  omega
theorem badO_in {n : Int} {qs : List Int} {i : Nat} (h : 0 ≤ qs.getD i 0 ∧ qs.getD i 0 < n) : badO n qs i = decide (qs.getD i 0 ∈ qs.take i) := by
  unfold badO
  rw [decide_eq_true h.1, decide_eq_true h.2]; rfl
theorem badO_false {n : Int} {qs : List Int} {i : Nat} (h : badO n qs i = false) : (0 ≤ qs.getD i 0 ∧ qs.getD i 0 < n) ∧ qs.getD i 0 ∉ qs.take i := by
  unfold badO at h
  simp only [Bool.or_eq_false_iff, Bool.not_eq_false', Bool.and_eq_true, decide_eq_true_eq, decide_eq_false_iff_not] at h
  exact h
theorem ordQ_in {n : Int} {qs : List Int} (h : ordQ n qs = none) {i : Nat} (hi : i < qs.length) : 0 ≤ qs.getD i 0 ∧ qs.getD i 0 < n := (badO_false (find_none.mp h i hi)).1
theorem ordQ_nd {n : Int} {qs : List Int} (h : ordQ n qs = none) {i j : Nat} (hij : i < j) (hj : j < qs.length) : qs.getD i 0 ≠ qs.getD j 0 := fun z => by
  refine (badO_false (find_none.mp h j hj)).2 ?_
  rw [← z, List.getD_eq_getElem?_getD, List.getElem?_eq_getElem (by omega : i < qs.length), Option.getD_some]
  rw [List.mem_take_iff_getElem]
  exact ⟨i, by omega, rfl⟩
theorem ordQ_mem {n : Int} {qs : List Int} (h : ordQ n qs = none) {q : Int} (hq : q ∈ qs) : 0 ≤ q ∧ q < n := by
  obtain ⟨i, hi, rfl⟩ := List.mem_iff_getElem.mp hq
  have := ordQ_in h hi
  rw [List.getD_eq_getElem?_getD, List.getElem?_eq_getElem hi, Option.getD_some] at this
  exact this
/-- a list that is each place once is no fault -/
theorem ordQ_ok {n : Int} {qs : List Int} (hin : ∀ q ∈ qs, 0 ≤ q ∧ q < n) (nd : qs.Nodup) : ordQ n qs = none := by
  refine find_none.mpr fun i hi => ?_
  have g : qs.getD i 0 = qs[i] := by rw [List.getD_eq_getElem?_getD, List.getElem?_eq_getElem hi, Option.getD_some]
  unfold badO
  rw [g]
  have a := hin _ (List.getElem_mem hi)
  have b : qs[i] ∉ qs.take i := fun z => by
    obtain ⟨j, hj, e⟩ := List.mem_take_iff_getElem.mp z
    have := (List.getElem_inj (xs := qs) (h₀ := by omega) (h₁ := hi) nd).mp e
    omega
  simp [a.1, a.2, b]
/-! ### bad orders -/
theorem bad_short {n : Nat} {qs : List Int} (h : qs.length < n) : ¬ okO n qs := fun z => absurd z.2 (by omega)
theorem bad_out {n : Nat} {qs : List Int} {i : Nat} (hi : i < qs.length) (h : ¬ (0 ≤ qs.getD i 0 ∧ qs.getD i 0 < (n : Int))) : ¬ okO n qs := fun z => h (ordQ_in z.1 hi)
theorem bad_twice {n : Nat} {qs : List Int} {i j : Nat} (hij : i < j) (hj : j < qs.length) (h : qs.getD i 0 = qs.getD j 0) : ¬ okO n qs := fun z => ordQ_nd z.1 hij hj h
theorem set_at {qs : List Int} {i : Nat} {v : Int} (hi : i < qs.length) : (qs.set i v).getD i 0 = v := by
  rw [List.getD_eq_getElem?_getD, List.getElem?_set_self hi]; rfl
theorem set_ne' {qs : List Int} {i j : Nat} {v : Int} (h : i ≠ j) : (qs.set i v).getD j 0 = qs.getD j 0 := by
  rw [List.getD_eq_getElem?_getD, List.getD_eq_getElem?_getD, List.getElem?_set_ne h]
/-! ### rings played in an order -/
def runW (r : Bool) (ls : List Int) (ss : List Int) (qs : List Int) : List Int := qs.foldl (fun s q => wkS r s ls [q]) ss
def setW (r : Bool) (ls : List Int) (ss : List Int) (qs : List Int) : List Int := qs.foldl (fun s q => s.set q.toNat (rch r s ls q.toNat)) ss
theorem wkS_one {r : Bool} {ss ls : List Int} {q : Int} (h0 : 0 ≤ q) (h1 : q < (ss.length : Int)) : wkS r ss ls [q] = ss.set q.toNat (rch r ss ls q.toNat) := by
  refine ext_getD (by rw [wkS_len, List.length_set]) fun k hk => ?_
  rw [wkS_len] at hk
  rw [wkS_at hk]
  by_cases e : (k : Int) = q
  · rw [if_pos (by rw [e]; exact List.mem_singleton.mpr rfl)]
    have e2 : q.toNat = k := by omega
    rw [e2, set_at hk]
  · rw [if_neg (fun z => e (List.mem_singleton.mp z)), set_ne' (by omega)]
theorem runW_setW {r : Bool} {ls : List Int} : ∀ (qs : List Int) (ss : List Int), (∀ q ∈ qs, 0 ≤ q ∧ q < (ss.length : Int)) → runW r ls ss qs = setW r ls ss qs
  | [], _, _ => rfl
  | q :: qs, ss, h => by
    have a := h q (List.mem_cons_self ..)
    show runW r ls (wkS r ss ls [q]) qs = setW r ls (ss.set q.toNat (rch r ss ls q.toNat)) qs
    rw [wkS_one a.1 a.2]
    exact runW_setW qs _ fun x hx => by rw [List.length_set]; exact h x (List.mem_cons_of_mem _ hx)
theorem runW_len {r : Bool} {ls : List Int} : ∀ (qs : List Int) (ss : List Int), (runW r ls ss qs).length = ss.length
  | [], _ => rfl
  | q :: qs, ss => by
    show (runW r ls (wkS r ss ls [q]) qs).length = _
    rw [runW_len qs, wkS_len]
theorem setW_len {r : Bool} {ls : List Int} : ∀ (qs : List Int) (ss : List Int), (setW r ls ss qs).length = ss.length
  | [], _ => rfl
  | q :: qs, ss => by
    show (setW r ls (ss.set q.toNat (rch r ss ls q.toNat)) qs).length = _
    rw [setW_len qs, List.length_set]
theorem runW_more {r : Bool} {ls ss : List Int} {qs : List Int} {q : Int} : runW r ls ss (qs ++ [q]) = wkS r (runW r ls ss qs) ls [q] := by
  unfold runW; rw [List.foldl_append]; rfl
theorem setW_more {r : Bool} {ls ss : List Int} {qs : List Int} {q : Int} : setW r ls ss (qs ++ [q]) = (setW r ls ss qs).set q.toNat (rch r (setW r ls ss qs) ls q.toNat) := by
  unfold setW; rw [List.foldl_append]; rfl
theorem badQ_one {n q : Int} (h : 0 ≤ q ∧ q < n) : badQ n [q] = none := by
  unfold badQ
  rw [List.find?_cons, decide_eq_true h.1, decide_eq_true h.2]; rfl
/-- the strengths before an order: at each place all the lengths -/
def strt (ls : List Int) : List Int := List.replicate ls.length ls.sum
theorem strt_len {ls : List Int} : (strt ls).length = ls.length := List.length_replicate
/-! ### a shuffled list -/
theorem erase_perm {l : List Int} {i : Nat} {y : Int} (h : l[i]? = some y) : (y :: l.eraseIdx i).Perm l := by
  induction l generalizing i with
  | nil => simp at h
  | cons a l ih =>
    cases i with
    | zero =>
      simp only [List.getElem?_cons_zero, Option.some.injEq] at h
      subst h
      rw [List.eraseIdx_cons_zero]
    | succ i =>
      rw [List.getElem?_cons_succ] at h
      rw [List.eraseIdx_cons_succ]
      exact (List.Perm.swap a y _).trans ((ih h).cons a)
theorem map_erase {α β : Type} {g : α → β} : ∀ {l : List α} {i : Nat}, (l.map g).eraseIdx i = (l.eraseIdx i).map g
  | [], _ => rfl
  | _ :: _, 0 => rfl
  | a :: l, i + 1 => by
    rw [List.map_cons, List.eraseIdx_cons_succ, List.eraseIdx_cons_succ, List.map_cons, map_erase]
theorem perm_shift {ys xs : List Int} {y : Int} {i : Nat} {l : List Int} (h : xs[i]? = some y) (p : (ys ++ xs).Perm l) : ((ys ++ [y]) ++ xs.eraseIdx i).Perm l := by
  rw [List.append_assoc]
  exact ((erase_perm h).append_left ys).trans p
theorem perm_ok {n : Nat} {ys : List Int} (p : ys.Perm (iI (List.range n))) : ys.length = n ∧ okO n ys := by
  have l : ys.length = n := by
    rw [p.length_eq]
    unfold iI
    rw [List.length_map, List.length_range]
  have nd : ys.Nodup := p.nodup_iff.mpr (by
    unfold iI
    exact List.Pairwise.map _ (fun a b h => by omega) List.nodup_range)
  refine ⟨l, ordQ_ok (fun q hq => ?_) nd, by omega⟩
  have hq' := p.mem_iff.mp hq
  unfold iI at hq'
  obtain ⟨k, hk, rfl⟩ := List.mem_map.mp hq'
  have := List.mem_range.mp hk
  omega
end Rt
set_option Elab.async false
set_option linter.all false
set_option maxRecDepth 100000
set_option maxHeartbeats 4000000
/-! A waking raises the tally: at the least strength that comes or goes, by as many as have it. -/
namespace Rt
open PySem PySem.Spec L2
/-! ### places whose strength changes -/
def mvd (ss es : List Int) (n : Nat) : List Nat := (List.range n).filter fun k => decide (es.getD k 0 ≠ ss.getD k 0)
def mnS (ss es : List Int) (k : Nat) : Int := min (ss.getD k 0) (es.getD k 0)
def cntV (ss es : List Int) (v : Int) (n : Nat) : Nat := ((mvd ss es n).filter fun k => decide (mnS ss es k = v)).length
theorem mvd_mem {ss es : List Int} {n k : Nat} : k ∈ mvd ss es n ↔ k < n ∧ es.getD k 0 ≠ ss.getD k 0 := by
  unfold mvd
  rw [List.mem_filter, List.mem_range, decide_eq_true_eq]
theorem mvd_len {ss es : List Int} {n : Nat} : (mvd ss es n).length ≤ n := by
  unfold mvd
  have := List.length_filter_le (fun k => decide (es.getD k 0 ≠ ss.getD k 0)) (List.range n)
  rw [List.length_range] at this
  exact this
theorem mvd_step {ss es : List Int} {n : Nat} : mvd ss es (n + 1) = mvd ss es n ++ (if es.getD n 0 = ss.getD n 0 then [] else [n]) := by
  unfold mvd
  rw [List.range_succ, List.filter_append]
  congr 1
  rw [List.filter_cons]
  by_cases c : es.getD n 0 = ss.getD n 0
  · rw [if_pos c, if_neg (by simpa using c)]; rfl
  · rw [if_neg c, if_pos (by simpa using c)]; rfl
theorem chgR_mvd {ss es : List Int} {n : Nat} : chgR ss es n = (mvd ss es n).map fun k : Nat => [(k : Int), ss.getD k 0, es.getD k 0] := rfl
structure Due (ss es : List Int) (v : Int) (c : Nat) : Prop where
  le : ∀ k, k < ss.length → es.getD k 0 ≠ ss.getD k 0 → v ≤ mnS ss es k
  mem : ∃ k, k < ss.length ∧ es.getD k 0 ≠ ss.getD k 0 ∧ mnS ss es k = v
  cnt : c = cntV ss es v ss.length
def DueO (ss es : List Int) : Option (Int × Nat) → Prop
  | none => mvd ss es ss.length = []
  | some (v, c) => Due ss es v c
theorem Due.uniq {ss es : List Int} {v u : Int} {c d : Nat} (h : Due ss es v c) (k : Due ss es u d) : v = u ∧ c = d := by
  obtain ⟨i, i1, i2, i3⟩ := h.mem
  obtain ⟨j, j1, j2, j3⟩ := k.mem
  have a := h.le j j1 j2
  have b := k.le i i1 i2
  have e : v = u := by omega
  exact ⟨e, by rw [h.cnt, k.cnt, e]⟩
theorem DueO.uniq {ss es : List Int} : ∀ {a b : Option (Int × Nat)}, DueO ss es a → DueO ss es b → a = b
  | none, none, _, _ => rfl
  | some (v, c), some (u, d), h, k => by
    obtain ⟨e1, e2⟩ := Due.uniq h k
    rw [e1, e2]
  | none, some (u, d), h, k => by
    obtain ⟨j, j1, j2, _⟩ := Due.mem k
    have : j ∈ mvd ss es ss.length := mvd_mem.mpr ⟨j1, j2⟩
    rw [show mvd ss es ss.length = [] from h] at this
    cases this
  | some (v, c), none, h, k => by
    obtain ⟨j, j1, j2, _⟩ := Due.mem h
    have : j ∈ mvd ss es ss.length := mvd_mem.mpr ⟨j1, j2⟩
    rw [show mvd ss es ss.length = [] from k] at this
    cases this
theorem cntV_step {ss es : List Int} {v : Int} {n : Nat} : cntV ss es v (n + 1) = cntV ss es v n + (if es.getD n 0 ≠ ss.getD n 0 ∧ mnS ss es n = v then 1 else 0) := by
  unfold cntV
  rw [mvd_step, List.filter_append, List.length_append]
  congr 1
  by_cases c : es.getD n 0 = ss.getD n 0
  · rw [if_pos c, if_neg (fun z => z.1 c)]; rfl
  · rw [if_neg c, List.filter_cons]
    by_cases d : mnS ss es n = v
    · rw [if_pos (by simpa using d), if_pos ⟨c, d⟩]; rfl
    · rw [if_neg (by simpa using d), if_neg (fun z => d z.2)]; rfl
theorem cntV_pos {ss es : List Int} {v : Int} {n k : Nat} (hk : k < n) (h1 : es.getD k 0 ≠ ss.getD k 0) (h2 : mnS ss es k = v) : 0 < cntV ss es v n := by
  unfold cntV
  exact List.length_pos_iff.mpr (List.ne_nil_of_mem (List.mem_filter.mpr ⟨mvd_mem.mpr ⟨hk, h1⟩, decide_eq_true h2⟩))
theorem cntV_le {ss es : List Int} {v : Int} {n : Nat} : cntV ss es v n ≤ n := by
  unfold cntV
  have a := List.length_filter_le (fun k => decide (mnS ss es k = v)) (mvd ss es n)
  have b := mvd_len (ss := ss) (es := es) (n := n)
  omega
theorem mn_l {a b m : Int} (h : m ≤ min a b) (e : a = m) : min a b = m := by omega
theorem mn_r {a b m : Int} (h : m ≤ min a b) (e : b = m) : min a b = m := by omega
theorem mn_no {a b m : Int} (h1 : ¬ a = m) (h2 : ¬ b = m) : ¬ min a b = m := by omega
/-! ### trains -/
theorem tw_congrS {α : Type} {p q : α → Bool} : ∀ {l : List α}, (∀ x ∈ l, p x = q x) → l.takeWhile p = l.takeWhile q
  | [], _ => rfl
  | a :: l, h => by
    rw [List.takeWhile_cons, List.takeWhile_cons, h a List.mem_cons_self]
    split
    · rw [tw_congrS fun x hx => h x (List.mem_cons_of_mem _ hx)]
    · rfl
theorem tw_sum {f : Nat → Int} {p q : Nat → Bool} (hf : ∀ o, 0 ≤ f o) : ∀ {l : List Nat}, (∀ x ∈ l, p x = true → q x = true) → ((l.takeWhile p).map f).sum ≤ ((l.takeWhile q).map f).sum
  | [], _ => Int.le_refl _
  | a :: l, h => by
    rw [List.takeWhile_cons, List.takeWhile_cons]
    by_cases c : p a = true
    · rw [if_pos c, if_pos (h a List.mem_cons_self c), List.map_cons, List.map_cons, List.sum_cons, List.sum_cons]
      have := tw_sum hf (l := l) fun x hx => h x (List.mem_cons_of_mem _ hx)
      omega
    · rw [if_neg c]
      refine sum_ge fun y hy => ?_
      obtain ⟨o, _, rfl⟩ := List.mem_map.mp hy
      exact hf o
section
variable {r : Bool} {ss es ls : List Int} {v : Int} {c : Nat}
/-- what is a waking here: each strength stays or becomes the reach -/
structure Wak (r : Bool) (ls ss es : List Int) : Prop where
  len : es.length = ss.length
  ls0 : ∀ o, 0 ≤ ls.getD o 0
  at_ : ∀ k, k < ss.length → es.getD k 0 = ss.getD k 0 ∨ es.getD k 0 = rch r ss ls k
theorem Due.lt (D : Due ss es v c) {u : Int} (hu : u ≤ v) {o : Nat} (ho : o < ss.length) : ss.getD o 0 < u ↔ es.getD o 0 < u := by
  by_cases e : es.getD o 0 = ss.getD o 0
  · rw [e]
  · have := D.le o ho e
    unfold mnS at this
    omega
theorem reach_same (W : Wak r ls ss es) (D : Due ss es v c) {k : Nat} (hk : k < ss.length) {u : Int} (hu : u ≤ v) (h1 : ss.getD k 0 = u) (h2 : es.getD k 0 = u) : rch r es ls k = rch r ss ls k := by
  have e : trn r es k = trn r ss k := by
    unfold trn wk
    rw [W.len, h1, h2]
    exact tw_congrS fun o ho => by
      have := D.lt hu (run_lt hk o ho)
      exact decide_eq_decide.mpr this.symm
  unfold rch
  rw [e]
theorem reach_less (W : Wak r ls ss es) (D : Due ss es v c) {k : Nat} (hk : k < ss.length) (h2 : es.getD k 0 = v) (h3 : v < ss.getD k 0) : rch r es ls k ≤ rch r ss ls k := by
  unfold rch trn wk
  rw [W.len, h2]
  have := tw_sum (f := fun o => ls.getD o 0) W.ls0 (l := run r ss.length k) (p := fun o => decide (es.getD o 0 < v)) (q := fun o => decide (ss.getD o 0 < ss.getD k 0)) fun o ho h => by
    have a := (D.lt (Int.le_refl v) (run_lt hk o ho)).mpr (of_decide_eq_true h)
    exact decide_eq_true (by omega)
  omega
/-- what a place adds to the tally at u -/
def gT (r : Bool) (ls ss : List Int) (u : Int) (k : Nat) : Int := if ss.getD k 0 = u then sgT u (rch r ss ls k) else 0
theorem tlyK_g {u : Int} : ∀ n, n ≤ ss.length → tlyK ss (rnd r ls ss) u (n + 1) = tlyK ss (rnd r ls ss) u n + (if ss.getD n 0 = u then sgT u ((rnd r ls ss).getD n 0) else 0) := fun n _ => rfl
theorem g_low (W : Wak r ls ss es) (D : Due ss es v c) {k : Nat} (hk : k < ss.length) {u : Int} (hu : u < v) : gT r ls es u k = gT r ls ss u k := by
  unfold gT
  by_cases e : es.getD k 0 = ss.getD k 0
  · rw [e]
    split
    · rename_i h
      rw [reach_same W D hk (Int.le_of_lt hu) h (e.trans h)]
    · rfl
  · have := D.le k hk e
    unfold mnS at this
    rw [if_neg (by omega), if_neg (by omega)]
theorem g_up (W : Wak r ls ss es) (D : Due ss es v c) {k : Nat} (hk : k < ss.length) : gT r ls es v k = gT r ls ss v k + (if es.getD k 0 ≠ ss.getD k 0 ∧ mnS ss es k = v then 1 else 0) := by
  by_cases e : es.getD k 0 = ss.getD k 0
  · rw [if_neg (fun z => z.1 e), Int.add_zero]
    unfold gT
    rw [e]
    split
    · rename_i h
      rw [reach_same W D hk (Int.le_refl _) h (e.trans h)]
    · rfl
  · have le := D.le k hk e
    have w : es.getD k 0 = rch r ss ls k := (W.at_ k hk).resolve_left e
    by_cases m : mnS ss es k = v
    · rw [if_pos ⟨e, m⟩]
      unfold gT sgT
      unfold mnS at m
      by_cases h : ss.getD k 0 = v
      · rw [if_neg (by omega), if_pos h, ← w, if_pos (by omega)]; rfl
      · have h2 : es.getD k 0 = v := by omega
        have := reach_less W D hk h2 (by omega)
        rw [if_pos h2, if_neg h, if_neg (by omega)]; rfl
    · rw [if_neg (fun z => m z.2), Int.add_zero]
      unfold gT
      unfold mnS at m le
      rw [if_neg (by omega), if_neg (by omega)]
theorem tlyK_gT {u : Int} {n : Nat} (hn : n < ss.length) : tlyK ss (rnd r ls ss) u (n + 1) = tlyK ss (rnd r ls ss) u n + gT r ls ss u n := by
  rw [tlyK, rnd_at hn]
  unfold gT
  by_cases h : ss.getD n 0 = u
  · rw [if_pos h]
  · rw [if_neg h]
theorem tly_low (W : Wak r ls ss es) (D : Due ss es v c) {u : Int} (hu : u < v) : tly es (rnd r ls es) u = tly ss (rnd r ls ss) u := by
  unfold tly
  rw [W.len]
  have : ∀ n, n ≤ ss.length → tlyK es (rnd r ls es) u n = tlyK ss (rnd r ls ss) u n := by
    intro n
    induction n with
    | zero => intro _; rfl
    | succ n ih =>
      intro hn
      rw [tlyK_gT (by rw [W.len]; omega), tlyK_gT (by omega), ih (by omega), g_low W D (by omega) hu]
  exact this _ (Nat.le_refl _)
theorem tly_up (W : Wak r ls ss es) (D : Due ss es v c) : tly es (rnd r ls es) v = tly ss (rnd r ls ss) v + (c : Int) := by
  unfold tly
  rw [W.len, D.cnt]
  have : ∀ n, n ≤ ss.length → tlyK es (rnd r ls es) v n = tlyK ss (rnd r ls ss) v n + (cntV ss es v n : Int) := by
    intro n
    induction n with
    | zero => intro _; rfl
    | succ n ih =>
      intro hn
      rw [tlyK_gT (by rw [W.len]; omega), tlyK_gT (by omega), ih (by omega), g_up W D (by omega), cntV_step]
      split <;> omega
  exact this _ (Nat.le_refl _)
theorem Due.pos (D : Due ss es v c) : 0 < c := by
  obtain ⟨k, h1, h2, h3⟩ := D.mem
  rw [D.cnt]
  exact cntV_pos h1 h2 h3
end
/-! ### lists of pairs by what they tell -/
theorem atL_tly {ss ts : List Int} {u : Int} : atL (tlyL ss ts) u = tly ss ts u := by
  have key : ∀ (l : List Int), l.Pairwise (· < ·) → atL ((l.filter fun v => decide (tly ss ts v ≠ 0)).map fun v => (v, tly ss ts v)) u = if u ∈ l then tly ss ts u else 0 := by
    intro l
    induction l with
    | nil => intro _; rfl
    | cons a l ih =>
      intro h
      obtain ⟨h1, h2⟩ := List.pairwise_cons.mp h
      rw [List.filter_cons]
      by_cases c : tly ss ts a = 0
      · rw [if_neg (by simpa using c), ih h2]
        by_cases e : u = a
        · subst e
          rw [if_neg (fun z => absurd (h1 u z) (by omega)), if_pos List.mem_cons_self, c]
        · by_cases m : u ∈ l
          · rw [if_pos m, if_pos (List.mem_cons_of_mem _ m)]
          · rw [if_neg m, if_neg (fun z => (List.mem_cons.mp z).elim e m)]
      · rw [if_pos (by simpa using c), List.map_cons, atL]
        by_cases e : a = u
        · subst e
          rw [if_pos rfl, if_pos List.mem_cons_self]
        · rw [if_neg e, ih h2]
          by_cases m : u ∈ l
          · rw [if_pos m, if_pos (List.mem_cons_of_mem _ m)]
          · rw [if_neg m, if_neg (fun z => (List.mem_cons.mp z).elim (fun y => e y.symm) m)]
  have := key (ascI ss) (ascI_asc ss)
  unfold tlyL tlyP
  rw [List.take_length, this]
  by_cases m : u ∈ ascI ss
  · rw [if_pos m]
  · rw [if_neg m]
    exact (tlyK_no (fun z => m ((ascI_mem ss).mpr z)) _ (Nat.le_refl _)).symm
theorem tlyL_nz {ss ts : List Int} : ∀ p ∈ tlyL ss ts, p.2 ≠ 0 := fun p hp => by
  unfold tlyL tlyP at hp
  obtain ⟨v, hv, rfl⟩ := List.mem_map.mp hp
  exact of_decide_eq_true (List.mem_filter.mp hv).2
theorem atL_low {l : List (Int × Int)} {v : Int} (h : ∀ p ∈ l, v < p.1) : atL l v = 0 := atL_no fun p hp z => by have := h p hp; omega
/-- two ascending lists without a zero that tell the same are the same -/
theorem pairs_ext : ∀ {l m : List (Int × Int)}, AscP l → AscP m → (∀ p ∈ l, p.2 ≠ 0) → (∀ p ∈ m, p.2 ≠ 0) → (∀ v, atL l v = atL m v) → l = m
  | [], [], _, _, _, _, _ => rfl
  | [], (b, y) :: m, _, _, _, hm, h => by
    have := h b
    rw [atL, atL, if_pos rfl] at this
    exact absurd this.symm (hm (b, y) List.mem_cons_self)
  | (a, x) :: l, [], _, _, hl, _, h => by
    have := h a
    rw [atL, atL, if_pos rfl] at this
    exact absurd this (hl (a, x) List.mem_cons_self)
  | (a, x) :: l, (b, y) :: m, hl, hm, zl, zm, h => by
    obtain ⟨l1, l2⟩ := List.pairwise_cons.mp hl
    obtain ⟨m1, m2⟩ := List.pairwise_cons.mp hm
    have ab : a = b := by
      rcases Int.lt_trichotomy a b with z | z | z
      · have := h a
        rw [atL, if_pos rfl, atL, if_neg (by omega), atL_low (fun p hp => by have := m1 p hp; simp at this; omega)] at this
        exact absurd this (zl (a, x) List.mem_cons_self)
      · exact z
      · have := h b
        rw [atL, if_neg (by omega), atL, if_pos rfl, atL_low (fun p hp => by have := l1 p hp; simp at this; omega)] at this
        exact absurd this.symm (zm (b, y) List.mem_cons_self)
    subst ab
    have xy : x = y := by
      have := h a
      rw [atL, if_pos rfl, atL, if_pos rfl] at this
      exact this
    subst xy
    rw [pairs_ext (l := l) (m := m) l2 m2 (fun p hp => zl p (List.mem_cons_of_mem _ hp)) (fun p hp => zm p (List.mem_cons_of_mem _ hp)) fun v => by
      by_cases e : a = v
      · subst e
        rw [atL_low (fun p hp => l1 p hp), atL_low (fun p hp => m1 p hp)]
      · have := h v
        rw [atL, if_neg e, atL, if_neg e] at this
        exact this]
def blw (v : Int) (l : List (Int × Int)) : List (Int × Int) := l.filter fun p => decide (p.1 < v)
theorem atL_blw {v u : Int} : ∀ {l : List (Int × Int)}, atL (blw v l) u = if u < v then atL l u else 0
  | [] => by unfold blw; split <;> rfl
  | (a, x) :: l => by
    have ih := atL_blw (v := v) (u := u) (l := l)
    unfold blw at ih ⊢
    rw [List.filter_cons]
    by_cases c : a < v
    · rw [if_pos (by simpa using c), atL, atL, ih]
      by_cases e : a = u
      · rw [if_pos e, if_pos e, if_pos (by omega)]
      · rw [if_neg e, if_neg e]
    · rw [if_neg (by simpa using c), ih, atL]
      by_cases d : u < v
      · rw [if_pos d, if_pos d, if_neg (by omega)]
      · rw [if_neg d, if_neg d]
theorem blw_eq {r : Bool} {ss es ls : List Int} {v : Int} {c : Nat} (W : Wak r ls ss es) (D : Due ss es v c) : blw v (tlyL ss (rnd r ls ss)) = blw v (tlyL es (rnd r ls es)) := by
  refine pairs_ext (tlyL_asc.sublist List.filter_sublist) (tlyL_asc.sublist List.filter_sublist) (fun p hp => tlyL_nz p (List.mem_filter.mp hp).1) (fun p hp => tlyL_nz p (List.mem_filter.mp hp).1) fun u => ?_
  rw [atL_blw, atL_blw]
  by_cases d : u < v
  · rw [if_pos d, if_pos d, atL_tly, atL_tly, tly_low W D d]
  · rw [if_neg d, if_neg d]
theorem same_of {ss es : List Int} (hl : es.length = ss.length) (h : mvd ss es ss.length = []) : es = ss := by
  refine ext_getD hl fun k hk => ?_
  by_cases e : es.getD k 0 = ss.getD k 0
  · exact e
  · have : k ∈ mvd ss es ss.length := mvd_mem.mpr ⟨by omega, e⟩
    rw [h] at this; cases this
/-- how the tallies compare -/
theorem cmp_up {r : Bool} {ss es ls : List Int} {v : Int} {c : Nat} (W : Wak r ls ss es) (D : Due ss es v c) : CmpS (tlyL ss (rnd r ls ss)) (tlyL es (rnd r ls es)) (-1) ∧ CmpS (tlyL es (rnd r ls es)) (tlyL ss (rnd r ls ss)) 1 := by
  have up := tly_up W D
  have cp := D.pos
  refine ⟨.inr ⟨v, ?_, fun u hu => ?_, ?_⟩, .inr ⟨v, ?_, fun u hu => ?_, ?_⟩⟩
  · rw [atL_tly, atL_tly]; omega
  · rw [atL_tly, atL_tly, tly_low W D hu]
  · rw [atL_tly, atL_tly, if_pos (by omega)]
  · rw [atL_tly, atL_tly]; omega
  · rw [atL_tly, atL_tly, tly_low W D hu]
  · rw [atL_tly, atL_tly, if_neg (by omega)]
theorem cmp_same {l : List (Int × Int)} : CmpS l l 0 := .inl ⟨rfl, fun _ => rfl⟩
end Rt
set_option Elab.async false
set_option linter.all false
set_option maxRecDepth 100000
set_option maxHeartbeats 4000000
/-! Lists of pairs compared as data. -/
namespace Rt
open PySem PySem.Spec L2
def dPr (p : Int × Int) : PyData := .tuple [.int p.1, .int p.2]
def dPs (l : List (Int × Int)) : PyData := .list (l.map dPr)
theorem PrA.dp {K : PySem.W.Frag} {N : Addr → Prop} {H : Hp} {xs : List V} {l : List (Int × Int)} {a : Addr} (h : PrA N H xs l) (ha : SqL K H a xs) : Dp K H (.ref a) (dPs l) := by
  refine .lst ha (dpAll_of (by rw [List.length_map]; exact h.1) fun k x d hx hd => ?_)
  rw [List.getElem?_map] at hd
  obtain ⟨p, hp, rfl⟩ := Option.map_eq_some_iff.mp hd
  obtain ⟨t, ht, _, hT⟩ := h.at_ hp
  rw [ht] at hx
  cases hx
  exact .tup (SqT.of hT) (.cons (.int _) (.cons (.int _) .nil))
theorem canPr : ∀ l : List (Int × Int), PyData.canLayAll0 (l.map dPr) = true
  | [] => rfl
  | p :: l => by simp [PyData.canLayAll0, PyData.canLay0, dPr, canPr l]
theorem depPr : ∀ l : List (Int × Int), PyData.depthAll (l.map dPr) ≤ 1
  | [] => by simp [PyData.depthAll]
  | p :: l => by
    have := depPr l
    simp [PyData.depthAll, PyData.depth, dPr]
    omega
theorem shPs (l : List (Int × Int)) : PyData.canLay0 (dPs l) = true ∧ SeqAt.shaped (dPs l) = true := by
  have c : PyData.canLay0 (dPs l) = true := by simp [PyData.canLay0, dPs, canPr]
  refine ⟨c, ?_⟩
  unfold SeqAt.shaped
  rw [c]
  have := depPr l
  simp [PyData.depth, dPs]
  omega
theorem shPs2 (l m : List (Int × Int)) : PyData.canLay0 (.list [dPs l, dPs m]) = true ∧ SeqAt.shaped (.list [dPs l, dPs m]) = true := by
  have c : PyData.canLay0 (.list [dPs l, dPs m]) = true := by simp [PyData.canLay0, PyData.canLayAll0, dPs, canPr]
  refine ⟨c, ?_⟩
  unfold SeqAt.shaped
  rw [c]
  have a := depPr l
  have b := depPr m
  simp [PyData.depth, PyData.depthAll, dPs]
  omega
section
variable {K : PySem.W.Frag} {H : Hp} {Q : VK} {x y : V} {d : PyData}
theorem g_eqD (hx : Dp K H x d) (hy : Dp K H y d) (s : PyData.canLay0 d = true ∧ SeqAt.shaped d = true) (q : Q (.bl true) H) : rEqD K x y H Q := ⟨_, _, hx, hy, s.2, s.2, by rw [SeqAt.eqv_refl _ s.1]; exact q⟩
theorem g_neD (hx : Dp K H x d) (hy : Dp K H y d) (s : PyData.canLay0 d = true ∧ SeqAt.shaped d = true) (q : Q (.bl false) H) : rNeD K x y H Q := ⟨_, _, hx, hy, s.2, s.2, by rw [SeqAt.eqv_refl _ s.1]; exact q⟩
end
section
variable {X : Cx} (K : PySem.W.Frag) {o : Expr} {ta : TE} {t : TA} {apos cpos : Pos} {es : List Expr}
theorem pe_cntK {e : Expr} (ho : PE X o ta) (ha : PA X (e :: es) t) (h : X.K = K := by rfl) (hbase : attributeBase o "count" X.env (eval o X.env) = eval o X.env := by rfl)
    (hfew : ((backTo cpos (starEach (e :: es) X.env)).all (fun x => !x.1) && (backToKw cpos (keywordEach [] X.env)).all (fun x => x.1.isSome) && decide ((e :: es).length + ([] : List Keyword).length + (if ([] : List Keyword).isEmpty then 0 else 1) < 30)) = true := by rfl)
    (hline : (apos.endLine == cpos.line) = true := by rfl) (hs : starEach (e :: es) X.env = (false, eval e X.env) :: starEach es X.env := by rfl) (hplain : (backTo cpos (starEach es X.env)).any (·.1) = false := by rfl) : PE X (.Call (.Attribute o "count" apos) (e :: es) [] cpos) (tBM K "list" (rCntI K) ta t) := by
  subst h; exact pe_bm PySem.F.plainAttrs_list PySem.F.slot_list_count PySem.F.type_list_count mt_lcount ho ha hbase hfew hline hs hplain
end
end Rt
set_option Elab.async false
set_option linter.all false
set_option maxRecDepth 100000
set_option maxHeartbeats 4000000
/-! Logs of wakings: entries (places, changes), in a list. -/
namespace Rt
open PySem PySem.Spec L2
theorem Tabs.updL {T : List (Addr × Str)} {H : Hp} {a : Addr} {xs ys : List V} (h : LamX.Tabs T H) (e : H a = some (.lst xs)) : LamX.Tabs T (upd H a (.lst ys)) := fun p hp => by
  obtain ⟨ps, h1, h2, h3⟩ := h p hp
  refine ⟨ps, by rw [upd_ne (fun z => by rw [z, e] at h1; cases h1)]; exact h1, h2, fun pos cv z => ?_⟩
  obtain ⟨c0, e1, e2⟩ := h3 pos cv z
  exact ⟨c0, e1, by rw [upd_ne (fun z => by rw [z, e] at e2; cases e2)]; exact e2⟩
abbrev Ent : Type := List Int × List (List Int)
/-- an entry at t: a tuple of a tuple of places and a list of changes -/
def EnA (N : Addr → Prop) (H : Hp) (x : V) (e : Ent) : Prop := ∃ (t pa ca : Addr) (xs : List V), x = .ref t ∧ N t ∧ N pa ∧ N ca ∧ H t = some (.tup [.ref pa, .ref ca]) ∧ H pa = some (.tup (e.1.map V.int)) ∧ H ca = some (.lst xs) ∧ RW N true H xs e.2
theorem EnA.mono {N : Addr → Prop} {H H' : Hp} {x : V} {e : Ent} (h : EnA N H x e) (S : Same H H') : EnA N H' x e := by
  obtain ⟨t, pa, ca, xs, a, b, c, d, f, g, i, j⟩ := h
  exact ⟨t, pa, ca, xs, a, b, c, d, S _ _ f, S _ _ g, S _ _ i, j.mono S⟩
theorem EnA.monoT {N : Addr → Prop} {H H' : Hp} {x : V} {e : Ent} (h : EnA N H x e) (S : SameT H H') : EnA N H' x e := by
  obtain ⟨t, pa, ca, xs, a, b, c, d, f, g, i, j⟩ := h
  exact ⟨t, pa, ca, xs, a, b, c, d, S.tup f, S.tup g, S.lst i, j.monoT S⟩
theorem EnA.weak {N M : Addr → Prop} {H : Hp} {x : V} {e : Ent} (h : EnA N H x e) (w : ∀ t, N t → M t) : EnA M H x e := by
  obtain ⟨t, pa, ca, xs, a, b, c, d, f, g, i, j⟩ := h
  exact ⟨t, pa, ca, xs, a, w _ b, w _ c, w _ d, f, g, i, j.weak w⟩
theorem EnA.upd {N : Addr → Prop} {H : Hp} {x : V} {e : Ent} {a : Addr} {o : HO} (h : EnA N H x e) (w : ∀ t, N t → t ≠ a) : EnA N (upd H a o) x e := by
  obtain ⟨t, pa, ca, xs, e1, b, c, d, f, g, i, j⟩ := h
  exact ⟨t, pa, ca, xs, e1, b, c, d, by rw [upd_ne (w _ b)]; exact f, by rw [upd_ne (w _ c)]; exact g, by rw [upd_ne (w _ d)]; exact i, j.upd w⟩
def LogA (N : Addr → Prop) (H : Hp) (xs : List V) (L : List Ent) : Prop := xs.length = L.length ∧ ∀ (k : Nat) (x : V) (e : Ent), xs[k]? = some x → L[k]? = some e → EnA N H x e
theorem LogA.nil {N : Addr → Prop} {H : Hp} : LogA N H [] [] := ⟨rfl, fun k x e h => by simp at h⟩
theorem LogA.mono {N : Addr → Prop} {H H' : Hp} {xs : List V} {L : List Ent} (h : LogA N H xs L) (S : Same H H') : LogA N H' xs L := ⟨h.1, fun k x e hx he => (h.2 k x e hx he).mono S⟩
theorem LogA.monoT {N : Addr → Prop} {H H' : Hp} {xs : List V} {L : List Ent} (h : LogA N H xs L) (S : SameT H H') : LogA N H' xs L := ⟨h.1, fun k x e hx he => (h.2 k x e hx he).monoT S⟩
theorem LogA.weak {N M : Addr → Prop} {H : Hp} {xs : List V} {L : List Ent} (h : LogA N H xs L) (w : ∀ t, N t → M t) : LogA M H xs L := ⟨h.1, fun k x e hx he => (h.2 k x e hx he).weak w⟩
theorem LogA.upd {N : Addr → Prop} {H : Hp} {xs : List V} {L : List Ent} {a : Addr} {o : HO} (h : LogA N H xs L) (w : ∀ t, N t → t ≠ a) : LogA N (upd H a o) xs L := ⟨h.1, fun k x e hx he => (h.2 k x e hx he).upd w⟩
theorem LogA.more {N : Addr → Prop} {H : Hp} {xs : List V} {L : List Ent} {y : V} {e : Ent} (h : LogA N H xs L) (hy : EnA N H y e) : LogA N H (xs ++ [y]) (L ++ [e]) := by
  refine ⟨by rw [List.length_append, List.length_append, h.1]; rfl, fun k x f hx hf => ?_⟩
  by_cases z : k < xs.length
  · rw [List.getElem?_append_left z] at hx
    rw [List.getElem?_append_left (by rw [← h.1]; exact z)] at hf
    exact h.2 k x f hx hf
  · rw [List.getElem?_append_right (by omega)] at hx
    rw [List.getElem?_append_right (by rw [← h.1]; omega)] at hf
    have k0 : k - xs.length = 0 := by
      have := (List.getElem?_eq_some_iff.mp hx).1
      simp at this; omega
    rw [k0] at hx
    rw [← h.1, k0] at hf
    cases hx; cases hf
    exact hy
theorem LogA.at_ {N : Addr → Prop} {H : Hp} {xs : List V} {L : List Ent} (h : LogA N H xs L) {k : Nat} {e : Ent} (hk : L[k]? = some e) : ∃ x, xs[k]? = some x ∧ EnA N H x e := by
  have l : k < xs.length := by rw [h.1]; exact (List.getElem?_eq_some_iff.mp hk).1
  exact ⟨xs[k], List.getElem?_eq_getElem l, h.2 k _ e (List.getElem?_eq_getElem l) hk⟩
/-! ### handfuls in a list or tuple, each a list or tuple -/
def HBs (K : PySem.W.Frag) (H : Hp) (xs : List V) (hs : List (List Int)) : Prop := xs.length = hs.length ∧ ∀ (k : Nat) (x : V) (row : List Int), xs[k]? = some x → hs[k]? = some row → ∃ (t : Addr) (c : Bool), x = .ref t ∧ SqB K c H t (row.map V.int)
theorem HBs.mono {K : PySem.W.Frag} {H H' : Hp} {xs : List V} {hs : List (List Int)} (h : HBs K H xs hs) (S : Same H H') : HBs K H' xs hs := ⟨h.1, fun k x row hx hr => by
  obtain ⟨t, c, e, q⟩ := h.2 k x row hx hr
  exact ⟨t, c, e, SqB.mono S q⟩⟩
theorem SqB.monoT {K : PySem.W.Frag} {c : Bool} {H H' : Hp} {a : Addr} {xs : List V} (h : SqB K c H a xs) (S : SameT H H') : SqB K c H' a xs := by
  cases c with
  | true => exact S.sqt h
  | false => exact S.seq h
theorem HBs.monoT {K : PySem.W.Frag} {H H' : Hp} {xs : List V} {hs : List (List Int)} (h : HBs K H xs hs) (S : SameT H H') : HBs K H' xs hs := ⟨h.1, fun k x row hx hr => by
  obtain ⟨t, c, e, q⟩ := h.2 k x row hx hr
  exact ⟨t, c, e, q.monoT S⟩⟩
theorem HBs.at_ {K : PySem.W.Frag} {H : Hp} {xs : List V} {hs : List (List Int)} (h : HBs K H xs hs) {k : Nat} {x : V} (hx : xs[k]? = some x) : ∃ (row : List Int) (t : Addr) (c : Bool), hs[k]? = some row ∧ x = .ref t ∧ SqB K c H t (row.map V.int) := by
  have l : k < hs.length := by rw [← h.1]; exact (List.getElem?_eq_some_iff.mp hx).1
  obtain ⟨t, c, e, q⟩ := h.2 k x hs[k] hx (List.getElem?_eq_getElem l)
  exact ⟨hs[k], t, c, List.getElem?_eq_getElem l, e, q⟩
/-! ### what an order does, and its log -/
def entS (r : Bool) (ls ss : List Int) (h : List Int) : Ent := (ascI h, chgL ss (fun q => rch r ss ls q.toNat) h)
def runS (r : Bool) (ls : List Int) (ss : List Int) (hs : List (List Int)) : List Int := hs.foldl (fun s h => wkS r s ls h) ss
def logS (r : Bool) (ls : List Int) : List Int → List (List Int) → List Ent
  | _, [] => []
  | ss, h :: hs => entS r ls ss h :: logS r ls (wkS r ss ls h) hs
theorem runS_len {r : Bool} {ls : List Int} : ∀ (hs : List (List Int)) {ss : List Int}, (runS r ls ss hs).length = ss.length
  | [], _ => rfl
  | h :: hs, ss => by
    show (runS r ls (wkS r ss ls h) hs).length = _
    rw [runS_len hs, wkS_len]
theorem runS_app {r : Bool} {ls ss : List Int} {hs : List (List Int)} {h : List Int} : runS r ls ss (hs ++ [h]) = wkS r (runS r ls ss hs) ls h := by
  unfold runS; rw [List.foldl_append]; rfl
theorem logS_app {r : Bool} {ls : List Int} : ∀ (hs : List (List Int)) {ss : List Int} {h : List Int}, logS r ls ss (hs ++ [h]) = logS r ls ss hs ++ [entS r ls (runS r ls ss hs) h]
  | [], _, _ => rfl
  | a :: hs, ss, h => by
    show entS r ls ss a :: logS r ls (wkS r ss ls a) (hs ++ [h]) = entS r ls ss a :: (logS r ls (wkS r ss ls a) hs ++ _)
    rw [logS_app hs]; rfl
theorem logS_len {r : Bool} {ls : List Int} : ∀ (hs : List (List Int)) {ss : List Int}, (logS r ls ss hs).length = hs.length
  | [], _ => rfl
  | h :: hs, ss => by
    show (logS r ls (wkS r ss ls h) hs).length + 1 = _
    rw [logS_len hs]; rfl
end Rt
set_option Elab.async false
set_option linter.all false
set_option maxRecDepth 100000
set_option maxHeartbeats 4000000
/-! A list walked by a comprehension while an exception is handled. -/
namespace HotW
open PySem PySem.Spec PyProof.Rows L2 HotX
section
variable {prog : Program} {w : World} {A : Around} {E : Value → Shared → Prop} {s : Shared}
theorem list_over {it l x1 : Addr} {i : Nat} {items} {Q : Option Value → Shared → Prop} (hot : HotAt A x1 s.heap) (hne : x1 ≠ it) (hit : s.heap.IsListIter it l i) (hl : s.heap.IsList l items) (hx : items[i]? = none)
    (hQ : ∀ h', (∀ b o, b ≠ it → s.heap.get? b = some o → h'.get? b = some o) → Q none { s with heap := h' }) : wpAny (model prog w) A (pyNext (.ref it)) Q E s := by
  obtain ⟨hh, o1, vs1, h1, d1, c1⟩ := hot
  obtain ⟨o, ho, hc, hd⟩ := id hit
  obtain ⟨ol, hol, _, nl, hdl⟩ := hl
  unfold pyNext
  refine wpAny_bind (wpAny_attempt (wpAny_callSpecial?_slot (name := Str.ofString "__next__") hit.typeIs slot_listiter_next (wpAny_call_entry slot_listiter_next hit.typeIs entry_listiter_next ?_ (args_listiter_next _))))
  show wpAny _ _ (field (.ref it) 0 >>= _) _ _ s; refine wpAny_bind (wpAny_field ho hd (x := .ref l) rfl ?_)
  show wpAny _ _ (if (Value.ref l == Value.none) = true then _ else _) _ _ s; rw [if_neg (show ¬ ((Value.ref l == Value.none) = true) from Bool.false_ne_true)]
  show wpAny _ _ (field (.ref it) 1 >>= _) _ _ s; refine wpAny_bind (wpAny_field ho hd (x := .int i 0) rfl ?_)
  show wpAny _ _ (seqItems? (.ref l) >>= _) _ _ s; refine wpAny_bind (wpAny_seqItems hol hdl ?_); simp only [Int.toNat_natCast, hx]
  refine wpAny_bind (wpAny_rule (wpAny_bind (wpAny_setField ho hd (by simp) ?_))); show wpAny _ _ (newExc (.type "StopIteration") [] >>= _) _ _ _; refine wpAny_bind ?_; simp only [newExc, newTuple]
  refine wpAny_bind (wpAny_newObj_type ?_ (by size_fits)); refine wpAny_bind (m := firstArgMember _ _) (wpAny_of_eq (a := Value.none) (by first | rfl | (simp only [firstArgMember]; rfl)) ?_); refine wpAny_newObj_type ?_ (by size_fits)
  have e1 : ∀ {f : Obj → Obj}, (s.heap.update it f).get? x1 = some o1 := fun {f} => by rw [Heap.get?_update_other _ _ (Ne.symm hne)]; exact h1
  refine raiseNew_hot ⟨hh, o1, vs1, Heap.get?_push_of_some _ (Heap.get?_push_of_some _ e1), d1, c1⟩ (Nat.ne_of_lt (Heap.lt_size (Heap.get?_push_of_some _ e1))) (Heap.get?_push_size _ rfl) rfl (by first | (simp; done) | (simp; omega) | (simp only [Array.size_append]; simp; omega)) ?_
  refine wpAny_bind (wpAny_isInstance (T := "StopIteration") (b := true) ⟨_, Heap.get?_update_self _ (Heap.get?_push_size _ rfl) rfl, rfl⟩ isSubtype_stop ?_)
  refine wpAny_pure (hQ _ fun b o nb e => ?_)
  have e2 : ∀ {f : Obj → Obj}, (s.heap.update it f).get? b = some o := fun {f} => by rw [Heap.get?_update_other _ _ (Ne.symm nb)]; exact e
  rw [Heap.get?_update_other _ _ (Nat.ne_of_gt (Heap.lt_size (Heap.get?_push_of_some _ e2)))]
  exact Heap.get?_push_of_some _ (Heap.get?_push_of_some _ e2)
end
/-- what a walked thing does at its turns, an exception handled at x1 -/
structure TurnW (P : Program) (w : World) (K : PySem.W.Frag) (tg : Expr) (J : It) (it : Addr) (tn : Nat → Heap → Prop) : Prop where
  obj : ∀ i h, tn i h → ∃ o, h.get? it = some o ∧ ∀ v, o.data ≠ .cell v
  keep : ∀ i h h', tn i h → (∀ o, h.get? it = some o → h'.get? it = some o) → tn i h'
  item : ∀ (X : Cx), X.prog = P → X.w = w → X.K = K → ∀ (i : Nat) (pins : List (Addr × Obj)) (s : Shared) (σ : L2.St) (H : Hp) (E : Value → Shared → Prop), Inv X pins σ H s → FpOk X pins H it → tn i s.heap → J.go i H →
    wpAny (model P w) X.A (pyNext (.ref it)) (fun r s1 => ∃ u, r = some u ∧ wpAny (model P w) X.A (letOwnedTupleGo tg (.ref it) u) (fun _ s2 => ∃ x H', Inv X pins σ H' s2 ∧ RelV x u ∧ J.yld i H x H' ∧ tn (i + 1) s2.heap ∧ H' it = none) E s1) E s
  done : ∀ (X : Cx) (x1 : Addr), X.prog = P → X.w = w → X.K = K → ∀ (i : Nat) (pins : List (Addr × Obj)) (s : Shared) (σ : L2.St) (H : Hp) (E : Value → Shared → Prop), HotAt X.A x1 s.heap → x1 ≠ it → Inv X pins σ H s → FpOk X pins H it → tn i s.heap → J.stop i H →
    wpAny (model P w) X.A (pyNext (.ref it)) (fun r s1 => r = none ∧ Inv X pins σ H s1) E s
  self : ∀ (A : Around) (i : Nat) (s : Shared) (Q : Value → Shared → Prop) (E : Value → Shared → Prop), tn i s.heap → Q (.ref it) s → wpAny (model P w) A (pyIter (.ref it)) Q E s
theorem turnW_list {P : Program} {w : World} {K : PySem.W.Frag} {tg : Expr} (a it : Addr) : TurnW P w K tg (Itl K a) it (fun i h => h.IsListIter it a i) where
  obj := fun i h st => by obtain ⟨o, e, c, d⟩ := st; exact ⟨o, e, fun v z => by rw [d] at z; cases z⟩
  keep := fun i h h' st k => st.at fun o e => k o e
  item := by
    intro X hP hw hK i pins s σ H E I hf st hg
    subst hP hw hK
    obtain ⟨xs, x, hq, hx⟩ := hg; obtain ⟨its, rv, p, hz⟩ := I.list hq; obtain ⟨u, hu, ru⟩ := rv.get hx; obtain ⟨f0, f1, f2, f3, f4, f5⟩ := hf
    refine wpAny_pyNext_list_item st p.isList (x := u) (by simpa using hu) fun h' st' sb => ?_
    have J : Inv X pins σ H { s with heap := h' } := I.turned (t' := s.toks) (fun b o hb e => (sb.2 b hb).trans e) f0 f1 f3 f4 f5
    obtain ⟨o, e, c, d⟩ := id st'
    exact ⟨u, rfl, go_of (s := { s with heap := h' }) e c d (by decide) ⟨x, H, J, ru, ⟨rfl, fun ys hy => by rw [I.list_inj hy hq]; exact hx⟩, st', f0⟩⟩
  done := by
    intro X x1 hP hw hK i pins s σ H E hot hne I hf st hg
    subst hP hw hK
    obtain ⟨xs, hq, hx⟩ := hg; obtain ⟨its, rv, p, hz⟩ := I.list hq; obtain ⟨f0, f1, f2, f3, f4, f5⟩ := hf; have hl := rv.length
    exact list_over hot hne st p.isList (by simp; omega) fun h' eb => ⟨rfl, I.turned (t' := s.toks) (fun b o hb e => eb b o hb e) f0 f1 f3 f4 f5⟩
  self := fun _ _ _ _ _ st h => wpAny_pyIter_listiter st h
def PIEW (X : Cx) (pins : List (Addr × Obj)) (σ : L2.St) (tg : Expr) (R : It → Hp → Prop) (itv : Value) (s2 : Shared) : Prop :=
  ∃ (it : Addr) (tn : Nat → Heap → Prop) (J : It) (H' : Hp), itv = .ref it ∧ Inv X pins σ H' s2 ∧ TurnW X.prog X.w X.K tg J it tn ∧ tn 0 s2.heap ∧ FpOk X pins H' it ∧ R J H'
structure PIW (X : Cx) (tg iter : Expr) (wi : TI) : Prop where
  run : ∀ (pins : List (Addr × Obj)) (s : Shared) (σ : L2.St) (H : Hp) (R : It → Hp → Prop), Inv X pins σ H s → wi σ H R → wpAny (model X.prog X.w) X.A (eval iter X.env) (fun v s1 => wpAny (model X.prog X.w) X.A (pyIter v) (PIEW X pins σ tg R) X.xe s1) X.xe s
section
variable {X : Cx} {tg : Expr}
theorem pi_listW {l : Expr} {tl : TE} (K : PySem.W.Frag) (hl : PE X l tl) (hK : X.K = K := by rfl) : PIW X tg l (iList K tl) := by
  subst hK
  refine ⟨fun pins s σ H R I h => thn (hl.run pins s σ H _ I h) fun v s1 ⟨x, H1, I1, r1, q1⟩ => ?_⟩
  obtain ⟨a, e, ⟨xs, hq⟩, q⟩ := q1; subst e; cases r1; obtain ⟨its, rv, p, hz⟩ := I1.list hq
  refine wpAny_pyIter_list p.isList ⟨s1.heap.objs.size, _, _, H1, rfl, I1.kept (t' := s1.toks) fun b o e => Heap.get?_push_of_some _ e, turnW_list a _, ⟨_, Heap.get?_push_size _ rfl, rfl, rfl⟩, I1.fpOk (Nat.le_refl _) (I1.hok.fresh (Nat.le_refl _)), q⟩
theorem lcW {pins : List (Addr × Obj)} {s : Shared} {σ : L2.St} {H : Hp} {Q : VK} {elt tg iter : Expr} {ifs : List Expr} {scope : Scope} {own : List (Str × Nat)} {pos pos' : Pos} {wi : TI} {g : TG} {tt : TT} {te : TE} {use : Option (Value → Sem Unit)} {Qf : Value → Shared → Prop}
    (hc : L2H.HotC X) (hN : X.N.Nodup) (I : Inv X pins σ H s) (hi : PIW X tg iter wi) (ok : BlkOk X.N X.env.scope scope own) (hg : ∀ (s : Shared) (H : Hp) (C : Addr) (cl : List (Str × Addr)) (fp : List Addr), PG (X.blk s H scope (compEnvC scope cl C X.env) fp) tg g)
    (ht : ∀ (s : Shared) (H : Hp) (C : Addr) (cl : List (Str × Addr)) (fp : List Addr), PTs (X.blk s H scope (compEnvC scope cl C X.env) fp) ifs tt) (he : ∀ (s : Shared) (H : Hp) (C : Addr) (cl : List (Str × Addr)) (fp : List Addr), PE (X.blk s H scope (compEnvC scope cl C X.env) fp) elt te)
    (hs : ∀ x, foldedSetIterable iter X.env x = pure x) (h : tLc wi g tt te (own.map (·.2)) σ H Q) (hRR : ∀ D C s' m H', Inv X pins σ H' s' → Q (.ref D) H' → s'.heap.Ns C m → FpOk X pins H' C → compPost (model X.prog X.w) X.A X.xe use Qf (.ref D) C (.ok .next) s') :
    wpAny (model X.prog X.w) X.A (comprehension (.ListComp elt [⟨tg, iter, ifs, 0⟩] scope pos) scope X.env pos' (newList []) false (eval iter X.env) use) Qf X.xe s := by
  obtain ⟨p, ⟨hh, v1, pd, pc⟩, hp⟩ := hc
  have hfree : ∀ y ∈ scope.names, y.2 = .free → ∃ c, X.env.cells.lookup y.1 = some c := fun y hy e => (ok.free y hy e).elim (fun k => I.ok.has _ (.inl k)) fun k => I.ok.has _ (.inr k)
  refine wpAny_comprehension_free (use := use) rfl hs (closure_ok hfree) ok.kind (fun y hy e => by rw [ok.uniq y hy, e]) (thn (hi.run pins s σ H _ I h) fun xv s1 hx => thn hx fun itv s2 h2 => ?_)
  obtain ⟨it, tn, J, H2, e, I2, T, st2, f2, q⟩ := h2
  subst e
  refine wpAny_newObj_type (newEnv_comp ?_) (by show 0 ≤ sizeLine; decide)
  generalize hD : s2.heap.objs.size = D
  have hDn : H2 D = none := I2.hok.fresh (Nat.le_of_eq hD)
  obtain ⟨W, ⟨m0, w0⟩, turn⟩ := q D hDn
  generalize hs3 : ({ s2 with heap := s2.heap.push { cls := .type "list", data := .seq ([] : List Value).toArray } } : Shared) = s3
  have I3 : Inv X pins σ (upd H2 D (.lst [])) s3 := by rw [← hs3]; refine I2.laid (t' := s2.toks) (fun b o e => Heap.get?_push_of_some _ e) (Nat.le_of_eq hD) ⟨Nat.zero_le _, [], 0, .nil, ?_⟩; rw [← hD]; exact Heap.get?_push_size _ rfl
  have h3 : s3.heap = s2.heap.push { cls := .type "list", data := .seq ([] : List Value).toArray } := by rw [← hs3]
  have hlt : it < s2.heap.objs.size := by obtain ⟨o, e, _⟩ := T.obj _ _ st2; exact Heap.lt_size e
  have f3 : FpOk X pins (upd H2 D (.lst [])) it := ⟨by rw [upd_ne (by rw [← hD]; exact Nat.ne_of_lt hlt)]; exact f2.1, f2.2⟩
  have l3 : it < s3.heap.objs.size := by rw [h3, Heap.size_push]; exact Nat.lt_succ_of_lt hlt
  have st3 : tn 0 s3.heap := T.keep _ _ _ st2 fun o e => by rw [h3]; exact Heap.get?_push_of_some _ e
  have P3 := I3.pin p (List.mem_append_left _ hp)
  have pit : p.1 ≠ it := fun z => by
    obtain ⟨_, _, _, _, _, f5⟩ := f3
    exact f5 p (List.mem_append_left _ hp) z
  have I4 := block_start (fp := [it]) I3 ok hN fun b hb => by rw [List.mem_singleton.mp hb]; exact ⟨f3, l3⟩
  have pg := hg s3 (upd H2 D (.lst [])) s3.heap.objs.size (cellsFrom (s3.heap.objs.size + 1) scope.names (cloFrom X.env.cells scope.names [])) [it]
  have pt := ht s3 (upd H2 D (.lst [])) s3.heap.objs.size (cellsFrom (s3.heap.objs.size + 1) scope.names (cloFrom X.env.cells scope.names [])) [it]
  have pe := he s3 (upd H2 D (.lst [])) s3.heap.objs.size (cellsFrom (s3.heap.objs.size + 1) scope.names (cloFrom X.env.cells scope.names [])) [it]
  have kp4 : ∀ b o, s3.heap.get? b = some o → (pushCells (s3.heap.push { cls := .type "dict", data := .dict #[] }) scope.names).get? b = some o := fun b o e => pushCells_keeps _ _ _ _ (Heap.get?_push_of_some _ e)
  have nofs3 : p.1 ∉ frs X.stack := fun hm => (List.mem_cons.mp (I3.stkSub p.1 hm)).elim P3.2.2.1 P3.2.2.2.1
  show codeAny _ _ (.compStart (.ListComp elt [⟨tg, iter, ifs, 0⟩] scope pos) 0 (.ref it) (.ref D) (compEnvC scope (cellsFrom (s3.heap.objs.size + 1) scope.names (cloFrom X.env.cells scope.names [])) s3.heap.objs.size X.env)) (compPost (model X.prog X.w) X.A X.xe use Qf (.ref D) s3.heap.objs.size) { s3 with heap := pushCells (s3.heap.push { cls := .type "dict", data := .dict #[] }) scope.names }
  generalize hce : compEnvC scope (cellsFrom (s3.heap.objs.size + 1) scope.names (cloFrom X.env.cells scope.names [])) s3.heap.objs.size X.env = ce at I4 pg pt pe ⊢
  have cL : ce.locals = s3.heap.objs.size := by subst hce; rfl
  have nfp : (upd H2 D (.lst [])) it = none := f3.1
  generalize hH3 : upd H2 D (.lst []) = H3 at I3 I4 pg pt pe w0 nfp f3 P3
  generalize hs4 : ({ s3 with heap := pushCells (s3.heap.push { cls := .type "dict", data := .dict #[] }) scope.names } : Shared) = s4 at I4 ⊢
  have g4 : s4.heap = pushCells (s3.heap.push { cls := .type "dict", data := .dict #[] }) scope.names := by rw [← hs4]
  have st4 : tn 0 s4.heap := T.keep _ _ _ st3 fun o e => by rw [g4]; exact kp4 _ _ e
  have I5 : Inv (X.blk s3 H3 scope ce [it]) [p] (wipe σ (own.map (·.2))) H3 s4 := I4.pins_of fun q hq => by
    rw [List.mem_singleton.mp hq]
    exact ⟨by rw [g4]; exact kp4 _ _ P3.1, P3.2.1, by show p.1 ≠ ce.locals; rw [cL]; exact Nat.ne_of_lt (Heap.lt_size P3.1), nofs3, P3.2.2.2.2⟩
  have stat : ∀ {σ' : L2.St} {H' : Hp} {s' : Shared}, Inv (X.blk s3 H3 scope ce [it]) [p] σ' H' s' → H' it = none → FpOk (X.blk s3 H3 scope ce [it]) [p] H' it := fun {σ' H' s'} I' hn => by
    have hb : it ∈ ([it] : List Addr) := List.mem_singleton.mpr rfl
    exact ⟨hn, (I'.ok.exf it hb).1, I'.ok.exfs it hb, .inl hb, fun x c e => (I'.ok.exf it hb).2 x c e, fun q hq => by
      have : q = p := by simpa using hq
      rw [this]; exact fun z => pit z⟩
  have hotI : ∀ {pn : List (Addr × Obj)} {σ' : L2.St} {H' : Hp} {s' : Shared}, Inv (X.blk s3 H3 scope ce [it]) (p :: pn) σ' H' s' → HotAt X.A p.1 s'.heap := fun {pn σ' H' s'} I' => ⟨hh, p.2, v1, (I'.pin p (List.mem_append_right _ List.mem_cons_self)).1, pd, pc⟩
  have loop : codeAny (model X.prog X.w) X.A (.compLoop (.ListComp elt [⟨tg, iter, ifs, 0⟩] scope pos) 0 (.ref it) (.ref D) ce) (compPost (model X.prog X.w) X.A X.xe use Qf (.ref D) s3.heap.objs.size) s4 := by
    refine compLoop_any (fun n s' => ∃ i H', Inv (X.blk s3 H3 scope ce [it]) [p] (wipe σ (own.map (·.2))) H' s' ∧ tn i s'.heap ∧ H' it = none ∧ W i n H') ?_ m0 ⟨0, H3, I5, st4, nfp, w0⟩
    rintro n s5 ⟨i, H5, J5, st5, n5, w5⟩
    rcases turn i n H5 w5 with ⟨stop, qq⟩ | ⟨go, Nx, hNx, step⟩
    · refine thnF (T.done (X.blk s3 H3 scope ce [it]) p.1 rfl rfl rfl i [p] s5 _ H5 (fun _ _ => False) (hotI J5) pit J5 (stat J5 n5) st5 stop) fun r s6 ⟨hr, I6⟩ => ?_
      subst hr
      have I7 : Inv X pins σ H5 s6 := I3.call' (ch := [it]) I6.os I6.base I6.hok I6.bare fun b hb => by rw [List.mem_singleton.mp hb]; exact ⟨f3.2.2.2.1, f3.2.1, f3.2.2.2.2.1, f3.2.2.2.2.2⟩
      have nC : H5 s3.heap.objs.size = none := by have z : H5 ce.locals = none := I6.free; rw [cL] at z; exact z
      obtain ⟨m, hn, _⟩ := I6.loc
      have hn : s6.heap.Ns ce.locals m := hn
      rw [cL] at hn; exact hRR D s3.heap.objs.size s6 m H5 I7 qq hn (I3.fpOk (Nat.le_refl _) nC)
    · refine thnF (T.item (X.blk s3 H3 scope ce [it]) rfl rfl rfl i [p] s5 _ H5 (fun _ _ => False) J5 (stat J5 n5) st5 go) fun r s6 ⟨u, hr, h6⟩ => ?_
      subst hr
      refine thnF h6 fun _ s7 ⟨x, H7, I7, r7, y7, st7, n7⟩ => ?_
      have I8 := I7.pinned (fp := [it]) (fun b hb => by rw [List.mem_singleton.mp hb]; exact stat I7 n7) (fun b hb => by rw [List.mem_singleton.mp hb]; exact T.obj _ _ st7)
      refine thnF (pg.run _ s7 _ H7 x u _ I8 r7 (step x H7 y7)) fun _ s8 ⟨σ8, H8, I8, hw8, q8⟩ => thnF (pt.run _ s8 σ8 H8 _ I8 q8) fun b s9 ⟨H9, I9, q9⟩ => ?_
      have fin : ∀ {s' : Shared} {H' : Hp}, Inv (X.blk s3 H3 scope ce [it]) ([p] ++ pinsAt [it] s7.heap) σ8 H' s' → Nx H' → ∃ m, m < n ∧ ∃ i H', Inv (X.blk s3 H3 scope ce [it]) [p] (wipe σ (own.map (·.2))) H' s' ∧ tn i s'.heap ∧ H' it = none ∧ W i m H' := fun {s' H'} I' nx => by
        obtain ⟨m', hm, w'⟩ := hNx H' nx
        have pin' : ∀ o, s7.heap.get? it = some o → s'.heap.get? it = some o ∧ H' it = none := fun o e => by
          have z := I'.pin (it, o) (List.mem_append_right _ (List.mem_append_right _ (mem_pinsAt (List.mem_singleton.mpr rfl) e))); exact ⟨z.1, z.2.1⟩
        have hl : (wipe σ (own.map (·.2))).length = σ8.length := by rw [← hw8, wipe_length]
        have I9 : Inv (X.blk s3 H3 scope ce [it]) [p] σ8 H' s' := I'.pins_of fun q hq => I'.pin q (List.mem_append_right _ (List.mem_append_left _ hq))
        refine ⟨m', hm, i + 1, H', I9.weak hl (fun j v e => by rw [← hw8] at e; exact (wipe_some e).1), T.keep _ _ _ st7 fun o e => (pin' o e).1, ?_, w'⟩
        obtain ⟨o, e, _⟩ := T.obj _ _ st7; exact (pin' o e).2
      cases b with
      | false => simp only [Bool.false_eq_true, if_false] at q9 ⊢; exact fin I9 q9
      | true =>
        simp only [if_true] at q9 ⊢
        refine thnF (pe.run _ s9 σ8 H9 _ I9 q9) fun z s10 ⟨yv, H10, I10, r10, acc, hD10, hz10, nx⟩ => app_ok (X := X.blk s3 H3 scope ce [it]) I10 hD10 hz10 r10 fun s11 I11 => fin I11 nx
  exact codeAny_compStart_list loop (T.self X.A 0 _ _ _ st4 loop)
theorem ps_setLcW {i : Nat} {y : Str} {py : Pos} {elt tg iter : Expr} {ifs : List Expr} {scope : Scope} {own : List (Str × Nat)} {pos spos : Pos} {wi : TI} {g : TG} {tt : TT} {te : TE} (hc : L2H.HotC X) (hN : X.N.Nodup) (hy : X.N[i]? = some y) (hyl : X.env.scope.names.lookup y = some .local)
    (hsw : swapsWith (.ListComp elt [⟨tg, iter, ifs, 0⟩] scope pos) (some (.Name y py)) spos.line X.env = pure true) (hi : PIW X tg iter wi) (ok : BlkOk X.N X.env.scope scope own) (hg : ∀ (s : Shared) (H : Hp) (C : Addr) (cl : List (Str × Addr)) (fp : List Addr), PG (X.blk s H scope (compEnvC scope cl C X.env) fp) tg g)
    (ht : ∀ (s : Shared) (H : Hp) (C : Addr) (cl : List (Str × Addr)) (fp : List Addr), PTs (X.blk s H scope (compEnvC scope cl C X.env) fp) ifs tt) (he : ∀ (s : Shared) (H : Hp) (C : Addr) (cl : List (Str × Addr)) (fp : List Addr), PE (X.blk s H scope (compEnvC scope cl C X.env) fp) elt te) (hs : ∀ x, foldedSetIterable iter X.env x = pure x := by intro _; rfl) :
    PS X (.Assign [.Name y py] (.ListComp elt [⟨tg, iter, ifs, 0⟩] scope pos) spos) (tAsg (tLc wi g tt te (own.map (·.2))) (gName i)) := by
  refine ⟨fun pins s σ H D I h => ?_⟩
  rw [exec_Assign_Name_used _ _ _ _ hsw]
  refine wpAny_bind (wpAny_standAt (wpAny_bind ?_))
  show wpAny _ X.A (do let _ ← comprehension (.ListComp elt [⟨tg, iter, ifs, 0⟩] scope pos) scope X.env (firstIterPos [⟨tg, iter, ifs, 0⟩] pos) (newList []) false (eval iter X.env) (some (assign (.Name y py) X.env))) _ _ s
  have h : tLc wi g tt te (own.map (·.2)) σ H (fun x H1 => gName i x σ H1 D.nx) := h
  refine wpAny_bind (thn (lcW (Qf := fun _ s' => SP X pins D .next s') hc hN I hi ok hg ht he hs h fun L C s' m H' I' q hn f => ?_) fun _ s' hq => wpAny_pure (wpAny_pure hq))
  show wpAny _ _ (assign (.Name y py) X.env (.ref L)) _ _ _
  refine wpAny_assign_Name (store_ok2 (v := V.ref L) I' hN hy (.inl hyl) rfl (fun s2 I2 ⟨a, sb, ha⟩ => ?_) (.inr hyl))
  obtain ⟨f0, f1, f2, f3, f4, f5⟩ := f
  have haC : C ≠ a := ha.elim (fun z => by rw [z]; exact f1) fun z e => f4 y a z e.symm
  refine ⟨m, hn.sameBut sb haC, fun h3 sb3 => ⟨_, H', I2.turned (t' := s2.toks) (fun b o hb e => (sb3.2 b hb).trans e) f0 f1 f3 f4 f5, q⟩⟩
end
end HotW
set_option Elab.async false
set_option linter.all false
set_option maxRecDepth 100000
set_option maxHeartbeats 4000000
/-! The head's facts by names: as HandS.HeadHook2's Hook, with one more Bool of the written part. -/
namespace Rt
open PySem PySem.Spec L2 He
abbrev AlM : Type := AlD × Bool
def obsMG (n : Nat) (fa : List Fa) (fn : List DefD) (more : PySem.W.Frag → Bool) (g : Addr → Option Obj) : AlM := (obsD fa fn (frG g (asD g n)), more (frG g (asD g n)))
def hookM (n : Nat) (fa : List Fa) (fn : List DefD) (more : PySem.W.Frag → Bool) : PySem.W.Hook where
  α := AlM
  obs := fun s => obsMG n fa fn more s.heap.get?
  val := fun _ => (valD fn, true)
  says := fun _ h => ∃ K : PySem.W.Frag, K.In h ∧ SaysD fa fn K ∧ more K = true
  of := fun _ _ e => ⟨_, frG_in, congrArg (fun z : AlM => z.1) e, congrArg (fun z : AlM => z.2) e⟩
  keeps := fun _ _ _ ⟨K, hK, c, d⟩ k => ⟨K, PySem.W.Frag.In.keeps hK k, c, d⟩
theorem obsMG_eq {n : Nat} {fa : List Fa} {fn : List DefD} {more : PySem.W.Frag → Bool} {g : Addr → Option Obj} {s : Shared} (h : ∀ a, g a = s.heap.get? a) : obsMG n fa fn more g = (hookM n fa fn more).obs s := by
  have e : g = s.heap.get? := funext h
  rw [e] <;> rfl
/-! ### an own exception class with an __init__ of its own -/
def clsB (K : PySem.W.Frag) (C : Addr) : Bool := match K.lookup C with
  | some ⟨.type "type", _, .cls cd, sl⟩ => (match cd.mro, sl.toList with
    | .ref C' :: bm, [_, _, _, _, some (.builtin n), _] => C' == C && n == "ValueError.__new__" && !cd.hasDel && cd.hasDict && PySem.HandSPX.refsVE bm
    | _, _ => false)
  | _ => false
theorem clsB_ok {K : PySem.W.Frag} {C : Addr} (q : clsB K C = true) : ∃ nm q N bs bm sn sub ab col dd k0 k1 k2 k3 k5, K.lookup C = some (excClassObj nm q C N bs bm true sn sub ab col dd k0 k1 k2 k3 k5 "ValueError.__new__") ∧ PySem.HandSPX.refsVE bm = true := by
  unfold clsB at q
  split at q
  · rename_i dd cd sl ho
    split at q
    · rename_i C' bm k0 k1 k2 k3 n k5 hm hs
      simp only [Bool.and_eq_true, beq_iff_eq, Bool.not_eq_true'] at q
      obtain ⟨⟨⟨⟨rfl, rfl⟩, hdel⟩, hdict⟩, ht⟩ := q
      obtain ⟨nm, bs, mro, ns, qn, hd, sn, sub, ab, col, del⟩ := cd
      dsimp only at hm hdel hdict
      subst hm hdel hdict
      have hsl : sl = #[k0, k1, k2, k3, some (.builtin "ValueError.__new__"), k5] := by
        obtain ⟨l⟩ := sl
        simp only at hs
        rw [hs]
      subst hsl
      exact ⟨nm, qn, ns, bs, bm, sn, sub, ab, col, dd, k0, k1, k2, k3, k5, ho, ht⟩
    · cases q
  · cases q
def excB (K : PySem.W.Frag) (x fld : Str) : Bool := clsB K (ga K x) && (eqO (PySem.W.findIn K (.ref (ga K x)) "__setattr__") (some (some (.builtin "object.__setattr__"))) && (decide (PySem.W.subIn K (.ref (ga K x)) (.type "BaseException") = some true) &&
  (decide (PySem.W.typeIn K (.ref (ga K x)) = some (.type "type")) && (PySem.W.keepIn K (.ref (ga K x)) && (eqO (PySem.W.findIn K (.ref (ga K x)) "__init__") (some (some (.ref (ma K (ga K x) "__init__")))) &&
  (decide (PySem.W.typeIn K (.ref (ma K (ga K x) "__init__")) = some (.type "function")) && (eqO (PySem.W.findIn K (.ref (ga K x)) fld) (some none) && xfB K (ga K x))))))))
structure ExcT (K : PySem.W.Frag) (x fld : Str) : Prop where
  o : OexC K (ga K x)
  i : PySem.W.findIn K (.ref (ga K x)) "__init__" = some (some (.ref (ma K (ga K x) "__init__")))
  t : PySem.W.typeIn K (.ref (ma K (ga K x) "__init__")) = some (.type "function")
  no : PySem.W.findIn K (.ref (ga K x)) fld = some none
  xf : XfC K (ga K x)
theorem excB_ok {K : PySem.W.Frag} {x fld : Str} (h : excB K x fld = true) : ExcT K x fld := by
  obtain ⟨c1, h⟩ := ba h
  obtain ⟨c2, h⟩ := ba h
  obtain ⟨c3, h⟩ := ba h
  obtain ⟨c4, h⟩ := ba h
  obtain ⟨c5, h⟩ := ba h
  obtain ⟨c6, h⟩ := ba h
  obtain ⟨c7, h⟩ := ba h
  obtain ⟨c8, c9⟩ := ba h
  exact ⟨⟨clsB_ok c1, eqO_ok c2, of_decide_eq_true c3, of_decide_eq_true c4, c5⟩, eqO_ok c6, of_decide_eq_true c7, eqO_ok c8, xfB_ok c9⟩
/-- isinstance(x, C) of an instance of C -/
def isiB (K : PySem.W.Frag) (x : Str) : Bool := eqO (PySem.W.findIn K (.ref (ga K x)) "__class__") (some (some (.builtin "object.__class__"))) && (eqO (PySem.W.specialIn K (.builtin "object.__class__") "__get__") (some (some (.builtin "getset_descriptor.__get__"))) &&
  (decide (PySem.W.takesIn K (.builtin "object.__class__") = some true) && (decide (PySem.W.mroIn K (ga K x) (.type "object") = some true) && decide (PySem.W.kitOne K (.ref (ga K x)) (.ref (ga K x)) = some true))))
theorem isiB_ok {K : PySem.W.Frag} {x : Str} (h : isiB K x = true) : PySem.W.findIn K (.ref (ga K x)) "__class__" = some (some (.builtin "object.__class__")) ∧ PySem.W.specialIn K (.builtin "object.__class__") "__get__" = some (some (.builtin "getset_descriptor.__get__")) ∧
    PySem.W.takesIn K (.builtin "object.__class__") = some true ∧ PySem.W.mroIn K (ga K x) (.type "object") = some true ∧ PySem.W.kitOne K (.ref (ga K x)) (.ref (ga K x)) = some true := by
  obtain ⟨c1, h⟩ := ba h
  obtain ⟨c2, h⟩ := ba h
  obtain ⟨c3, h⟩ := ba h
  obtain ⟨c4, c5⟩ := ba h
  exact ⟨eqO_ok c1, eqO_ok c2, of_decide_eq_true c3, of_decide_eq_true c4, of_decide_eq_true c5⟩
/-! ### a def by its datum -/
section
variable {P : Program} {w : World} {K : PySem.W.Frag} {mg : Str → Option Value} {base : Heap} {x qual : Str} {st : Stmt} {f : Addr} {fd : FuncData} {ps : List Str} {k : Nat} {CX : CXT} {sp : Sp}
/-- without defaults: as Fun -/
theorem fun_of (F : FunD K x qual (defArgs st) (defBody st) (defScope st) [] [] f fd) : Fun K x qual st f fd := by
  obtain ⟨⟨oc, od, dV, kV, doc, pm, an, cdv, ct, osl, rfl, lk, hcd, hD, hK⟩, kp⟩ := F
  rcases hD with ⟨_, rfl⟩ | ⟨e, _⟩
  · exact ⟨⟨oc, od, kV, doc, pm, an, cdv, ct, osl, rfl, lk, hcd⟩, kp⟩
  · exact absurd rfl e
theorem defOk (g : mg x = some (.ref f)) (F : Fun K x qual st f fd) (O : FnOk P w K mg base CX k f fd ps sp) (b : L2.Binds K fd ps []) : DefOk P w K mg base CX k x ps sp := ⟨f, fd, g, F.kp, O, b⟩
theorem defOkH (g : mg x = some (.ref f)) (F : Fun K x qual st f fd) (O : L2H.FnH P w K mg base CX k f fd ps sp) (b : L2.Binds K fd ps []) : DefOkH P w K mg base CX k x ps sp := ⟨f, fd, g, F.kp, O, b⟩
end
end Rt
set_option Elab.async false
set_option linter.all false
set_option maxRecDepth 100000
set_option maxHeartbeats 4000000
/-! The head's facts where defs make lambdas: the tables of their code objects are empty, and no part of what is known. -/
namespace Rt
open PySem PySem.Spec L2 He
def woF (K : PySem.W.Frag) (cs : List (Addr × Addr)) : PySem.W.Frag := K.filter fun p => !cs.any fun q => q.2 == p.1
theorem woF_at {cs : List (Addr × Addr)} {a : Addr} : ∀ K : PySem.W.Frag, (woF K cs).lookup a = if (cs.any fun q => q.2 == a) = true then none else K.lookup a
  | [] => by unfold woF; split <;> rfl
  | (b, o) :: r => by
    have ih := woF_at (cs := cs) (a := a) r
    unfold woF at ih ⊢
    rw [List.filter_cons]
    by_cases e : a = b
    · subst e
      cases q : cs.any fun q => q.2 == a with
      | true =>
        rw [q] at ih
        simp only [q, Bool.not_true, Bool.false_eq_true, if_false, if_true] at ih ⊢
        exact ih
      | false =>
        simp only [q, Bool.not_false, Bool.false_eq_true, if_false, if_true]
        simp [List.lookup]
    · have nb : (a == b) = false := by simpa using e
      have l0 : List.lookup a ((b, o) :: r) = List.lookup a r := by simp [List.lookup, nb]
      rw [l0, ← ih]
      split
      · simp [List.lookup, nb]
      · rfl
theorem woF_in {K : PySem.W.Frag} {cs : List (Addr × Addr)} {h : Heap} (X : K.In h) : (woF K cs).In h := fun a o e => by
  rw [woF_at] at e
  split at e
  · cases e
  · exact X a o e
theorem woF_none {K : PySem.W.Frag} {cs : List (Addr × Addr)} {p : Addr × Addr} (hp : p ∈ cs) : (woF K cs).lookup p.2 = none := by
  rw [woF_at, if_pos]
  exact List.any_eq_true.mpr ⟨p, hp, beq_self_eq_true _⟩
def emptyB (K : PySem.W.Frag) (P : Addr) : Bool := match K.lookup P with
  | some ⟨.none, none, .fields vs, sl⟩ => vs.isEmpty && sl.isEmpty
  | _ => false
theorem emptyB_ok {K : PySem.W.Frag} {P : Addr} {h : Heap} (X : K.In h) (e : emptyB K P = true) : h.get? P = some { cls := .none, data := .fields #[] } := by
  unfold emptyB at e
  split at e
  · rename_i vs sl hk
    simp only [Bool.and_eq_true, Array.isEmpty_iff] at e
    obtain ⟨e1, e2⟩ := e
    subst e1 e2
    exact X _ _ hk
  · cases e
/-- the code objects of the defs xs and their tables -/
def csOf (K : PySem.W.Frag) (xs : List Str) : List (Addr × Addr) := xs.map fun x => (PySem.W.tabIn K x).getD (0, 0)
def headB (K : PySem.W.Frag) (xs : List Str) : Bool := (csOf K xs).all fun p => PySem.W.codeHdIn K p.1 p.2 && emptyB K p.2
def atB (K : PySem.W.Frag) (xs : List Str) (cs : List (Addr × Addr)) : Bool := (xs.zip cs).all fun p => codeAt K (ga K p.1) p.2.1
def obsLK (xs : List Str) (fa : List Fa) (fn : List DefD) (more : PySem.W.Frag → Bool) (K : PySem.W.Frag) (cs : List (Addr × Addr)) (b : Bool) : AlM := (obsD fa fn K, b && (atB K xs cs && more K))
def obsLF (xs : List Str) (fa : List Fa) (fn : List DefD) (more : PySem.W.Frag → Bool) (K : PySem.W.Frag) : AlM := obsLK xs fa fn more (woF K (csOf K xs)) (csOf K xs) (headB K xs)
def obsLG (xs : List Str) (n : Nat) (fa : List Fa) (fn : List DefD) (more : PySem.W.Frag → Bool) (g : Addr → Option Obj) : AlM := obsLF xs fa fn more (frG g (asD g n))
structure SaysL (xs : List Str) (fa : List Fa) (fn : List DefD) (more : PySem.W.Frag → Bool) (h : Heap) : Prop where
  ex : ∃ (K : PySem.W.Frag) (cs : List (Addr × Addr)), K.In h ∧ cs.length = xs.length ∧ SaysD fa fn K ∧ more K = true ∧ (∀ (i : Nat) (x : Str) (p : Addr × Addr), xs[i]? = some x → cs[i]? = some p → codeAt K (ga K x) p.1 = true) ∧
    (∀ p ∈ cs, K.lookup p.2 = none) ∧ ∀ p ∈ cs, h.get? p.2 = some { cls := .none, data := .fields #[] } ∧ PySem.W.CodeHd h p.1 p.2
theorem saysL_of {xs : List Str} {fa : List Fa} {fn : List DefD} {more : PySem.W.Frag → Bool} {h : Heap} {n : Nat} (e : obsLG xs n fa fn more h.get? = (valD fn, true)) : SaysL xs fa fn more h := by
  unfold obsLG obsLF at e
  generalize hK : frG h.get? (asD h.get? n) = K at e
  have X : K.In h := by rw [← hK]; exact frG_in
  have e1 : obsD fa fn (woF K (csOf K xs)) = valD fn := congrArg (fun z : AlM => z.1) e
  have e2 : (headB K xs && (atB (woF K (csOf K xs)) xs (csOf K xs) && more (woF K (csOf K xs)))) = true := congrArg (fun z : AlM => z.2) e
  obtain ⟨h1, h2⟩ := ba e2
  obtain ⟨h3, h4⟩ := ba h2
  refine ⟨_, csOf K xs, woF_in X, List.length_map _, e1, h4, fun i x p hx hp => ?_, fun p hp => woF_none hp, fun p hp => ?_⟩
  · have z := List.all_eq_true.mp h3 (x, p) (List.mem_of_getElem? (i := i) (by rw [List.getElem?_zip_eq_some]; exact ⟨hx, hp⟩))
    exact z
  · obtain ⟨a, b⟩ := ba (List.all_eq_true.mp h1 p hp)
    exact ⟨emptyB_ok X b, PySem.W.codeHd_of_K X a⟩
def hookL (xs : List Str) (n : Nat) (fa : List Fa) (fn : List DefD) (more : PySem.W.Frag → Bool) : PySem.W.Hook where
  α := AlM
  obs := fun s => obsLG xs n fa fn more s.heap.get?
  val := fun _ => (valD fn, true)
  says := fun _ h => SaysL xs fa fn more h
  of := fun _ _ e => saysL_of e
  keeps := fun _ _ _ ⟨⟨K, cs, hK, l, c, d, a, b, t⟩⟩ k => ⟨⟨K, cs, PySem.W.Frag.In.keeps hK k, l, c, d, a, b, fun p hp => ⟨k _ _ (t p hp).1, (t p hp).2.keeps k⟩⟩⟩
theorem obsLG_eq {xs : List Str} {n : Nat} {fa : List Fa} {fn : List DefD} {more : PySem.W.Frag → Bool} {g : Addr → Option Obj} {s : Shared} (h : ∀ a, g a = s.heap.get? a) : obsLG xs n fa fn more g = (hookL xs n fa fn more).obs s := by
  have e : g = s.heap.get? := funext h
  rw [e] <;> rfl
end Rt
set_option Elab.async false
set_option linter.all false
set_option maxRecDepth 100000
set_option maxHeartbeats 4000000
namespace Rt
open PySem PySem.Spec L2
open PyProof.Rows (envOfC)
def top (i : Nat) : Stmt := PySem.Challenge.pw_retinue_k05_orders_run_and_unwound.main.body.getD i (.Pass ⟨0, 0, 0, 0⟩)
abbrev s_BadBeads_init : Stmt := inClass (top 3) 0
theorem sc_BadBeads_init : FnScope ["self", "place"] ["self", "place"] (defScope s_BadBeads_init) := ⟨rfl, rfl, rfl, by decide +kernel, rfl, by decide +kernel, by decide +kernel⟩
abbrev s_BadPlace_init : Stmt := inClass (top 4) 0
theorem sc_BadPlace_init : FnScope ["self", "place"] ["self", "place"] (defScope s_BadPlace_init) := ⟨rfl, rfl, rfl, by decide +kernel, rfl, by decide +kernel, by decide +kernel⟩
abbrev s_WrongKind_init : Stmt := inClass (top 5) 0
theorem sc_WrongKind_init : FnScope ["self", "ring"] ["self", "ring"] (defScope s_WrongKind_init) := ⟨rfl, rfl, rfl, by decide +kernel, rfl, by decide +kernel, by decide +kernel⟩
abbrev s_BadLog_init : Stmt := inClass (top 6) 0
theorem sc_BadLog_init : FnScope ["self", "index"] ["self", "index"] (defScope s_BadLog_init) := ⟨rfl, rfl, rfl, by decide +kernel, rfl, by decide +kernel, by decide +kernel⟩
abbrev s_check_place : Stmt := top 8
theorem sc_check_place : FnScope ["many", "place"] ["many", "place"] (defScope s_check_place) := ⟨rfl, rfl, rfl, by decide +kernel, rfl, by decide +kernel, by decide +kernel⟩
abbrev s_check_handful : Stmt := top 9
theorem sc_check_handful : FnScope ["many", "handful", "place"] ["many", "handful"] (defScope s_check_handful) := ⟨rfl, rfl, rfl, by decide +kernel, rfl, by decide +kernel, by decide +kernel⟩
abbrev s_Beads_init : Stmt := inClass (top 11) 0
theorem sc_Beads_init : FnScope ["self", "strengths", "lengths", "ring"] ["self", "strengths", "lengths", "ring"] (defScope s_Beads_init) := ⟨rfl, rfl, rfl, by decide +kernel, rfl, by decide +kernel, by decide +kernel⟩
abbrev s_Beads_len : Stmt := inClass (top 11) 1
theorem sc_Beads_len : FnScope ["self"] ["self"] (defScope s_Beads_len) := ⟨rfl, rfl, rfl, by decide +kernel, rfl, by decide +kernel, by decide +kernel⟩
abbrev s_Beads_iter : Stmt := inClass (top 11) 2
theorem sc_Beads_iter : FnScope ["self"] ["self"] (defScope s_Beads_iter) := ⟨rfl, rfl, rfl, by decide +kernel, rfl, by decide +kernel, by decide +kernel⟩
abbrev s_Beads_eq : Stmt := inClass (top 11) 3
theorem sc_Beads_eq : FnScope ["self", "other"] ["self", "other"] (defScope s_Beads_eq) := ⟨rfl, rfl, rfl, by decide +kernel, rfl, by decide +kernel, by decide +kernel⟩
abbrev s_Beads_add : Stmt := inClass (top 11) 4
theorem sc_Beads_add : FnScope ["self", "other"] ["self", "other"] (defScope s_Beads_add) := ⟨rfl, rfl, rfl, by decide +kernel, rfl, by decide +kernel, by decide +kernel⟩
abbrev s_Beads_mul : Stmt := inClass (top 11) 5
theorem sc_Beads_mul : FnScope ["self", "other"] ["self", "other"] (defScope s_Beads_mul) := ⟨rfl, rfl, rfl, by decide +kernel, rfl, by decide +kernel, by decide +kernel⟩
abbrev s_Beads_total : Stmt := inClass (top 11) 6
theorem sc_Beads_total : FnScope ["self"] ["self"] (defScope s_Beads_total) := ⟨rfl, rfl, rfl, by decide +kernel, rfl, by decide +kernel, by decide +kernel⟩
abbrev s__check_beads : Stmt := top 12
theorem sc__check_beads : FnScope ["strengths", "lengths", "place"] ["strengths", "lengths"] (defScope s__check_beads) := ⟨rfl, rfl, rfl, by decide +kernel, rfl, by decide +kernel, by decide +kernel⟩
abbrev s_run_after : Stmt := top 14
theorem sc_run_after : FnScope ["beads", "place", "after"] ["beads", "place"] (defScope s_run_after) := ⟨rfl, rfl, rfl, by decide +kernel, rfl, by decide +kernel, by decide +kernel⟩
abbrev s_train_of : Stmt := top 15
theorem sc_train_of : FnScope ["beads", "place", "train", "other"] ["beads", "place"] (defScope s_train_of) := ⟨rfl, rfl, rfl, by decide +kernel, rfl, by decide +kernel, by decide +kernel⟩
abbrev s_reach_of : Stmt := top 16
theorem sc_reach_of : FnScope ["beads", "place", "train", "other"] ["beads", "place"] (defScope s_reach_of) := ⟨rfl, rfl, rfl, by decide +kernel, rfl, by decide +kernel, by decide +kernel⟩
abbrev s_changes_at : Stmt := top 18
theorem sc_changes_at : FnScope ["strengths", "handful", "tell", "changes", "place", "before", "after"] ["strengths", "handful", "tell"] (defScope s_changes_at) := ⟨rfl, rfl, rfl, by decide +kernel, rfl, by decide +kernel, by decide +kernel⟩
abbrev s_strengths_after : Stmt := top 19
theorem sc_strengths_after : FnScope ["strengths", "changes", "found", "place", "_", "after"] ["strengths", "changes"] (defScope s_strengths_after) := ⟨rfl, rfl, rfl, by decide +kernel, rfl, by decide +kernel, by decide +kernel⟩
abbrev s_changes_of : Stmt := top 20
theorem sc_changes_of : FnScope ["beads", "handful"] ["beads", "handful"] (defScope s_changes_of) := ⟨rfl, rfl, rfl, by decide +kernel, rfl, by decide +kernel, by decide +kernel⟩
abbrev s_changed : Stmt := top 21
theorem sc_changed : FnScope ["beads", "changes"] ["beads", "changes"] (defScope s_changed) := ⟨rfl, rfl, rfl, by decide +kernel, rfl, by decide +kernel, by decide +kernel⟩
abbrev s_run_order : Stmt := top 22
theorem sc_run_order : FnScope ["beads", "order", "now", "log", "handful", "changes"] ["beads", "order"] (defScope s_run_order) := ⟨rfl, rfl, rfl, by decide +kernel, rfl, by decide +kernel, by decide +kernel⟩
abbrev s_unwind : Stmt := top 23
theorem sc_unwind : FnScope ["beads", "log", "strengths", "index", "changes", "place", "before", "_"] ["beads", "log"] (defScope s_unwind) := ⟨rfl, rfl, rfl, by decide +kernel, rfl, by decide +kernel, by decide +kernel⟩
abbrev s__ends_in : Stmt := top 24
theorem sc__ends_in : FnScope ["changes", "strengths", "place", "_", "after"] ["changes", "strengths"] (defScope s__ends_in) := ⟨rfl, rfl, rfl, by decide +kernel, rfl, by decide +kernel, by decide +kernel⟩
abbrev s__law_is_integer : Stmt := top 26
theorem sc__law_is_integer : FnScope ["actual"] ["actual"] (defScope s__law_is_integer) := ⟨rfl, rfl, rfl, by decide +kernel, rfl, by decide +kernel, by decide +kernel⟩
abbrev s__law_numbers : Stmt := top 27
theorem sc__law_numbers : FnScope ["actual", "due", "as_tuple", "k"] ["actual", "due", "as_tuple"] (defScope s__law_numbers) := ⟨rfl, rfl, rfl, by decide +kernel, rfl, by decide +kernel, by decide +kernel⟩
abbrev s__law_is_standing : Stmt := top 28
theorem sc__law_is_standing : FnScope ["actual", "round_flag", "sizes", "strengths"] ["actual", "round_flag", "sizes", "strengths"] (defScope s__law_is_standing) := ⟨rfl, rfl, rfl, by decide +kernel, rfl, by decide +kernel, by decide +kernel⟩
abbrev s__law_cell : Stmt := top 29
theorem sc__law_cell : FnScope ["script", "k"] ["script", "k"] (defScope s__law_cell) := ⟨rfl, rfl, rfl, by decide +kernel, rfl, by decide +kernel, by decide +kernel⟩
abbrev s__law_draws : Stmt := top 30
theorem sc__law_draws : FnScope ["cell", "sizes", "left", "draws", "k", "mixed"] ["cell", "sizes"] (defScope s__law_draws) := ⟨rfl, rfl, rfl, by decide +kernel, rfl, by decide +kernel, by decide +kernel⟩
abbrev s__law_lengths : Stmt := top 31
theorem sc__law_lengths : FnScope ["cell", "many", "flavour", "size", "draw"] ["cell", "many"] (defScope s__law_lengths) := ⟨rfl, rfl, rfl, by decide +kernel, rfl, by decide +kernel, by decide +kernel⟩
abbrev s__law_strengths : Stmt := top 32
theorem sc__law_strengths : FnScope ["cell", "sizes", "flavour", "total", "size", "level", "most"] ["cell", "sizes"] (defScope s__law_strengths) := ⟨rfl, rfl, rfl, by decide +kernel, rfl, by decide +kernel, by decide +kernel⟩
abbrev s__law_reach : Stmt := top 33
theorem sc__law_reach : FnScope ["round_flag", "sizes", "strengths", "place", "total", "step", "at"] ["round_flag", "sizes", "strengths", "place"] (defScope s__law_reach) := ⟨rfl, rfl, rfl, by decide +kernel, rfl, by decide +kernel, by decide +kernel⟩
abbrev s__law_woken : Stmt := top 34
theorem sc__law_woken : FnScope ["round_flag", "sizes", "strengths", "places", "after", "place"] ["round_flag", "sizes", "strengths", "places"] (defScope s__law_woken) := ⟨rfl, rfl, rfl, by decide +kernel, rfl, by decide +kernel, by decide +kernel⟩
abbrev s__law_drawn : Stmt := top 35
theorem sc__law_drawn : FnScope ["cell", "many", "heads", "count", "draws", "k"] ["cell", "many"] (defScope s__law_drawn) := ⟨rfl, rfl, rfl, by decide +kernel, rfl, by decide +kernel, by decide +kernel⟩
abbrev s__law_spoilt_order : Stmt := top 36
theorem sc__law_spoilt_order : FnScope ["cell", "many", "order", "draws", "spoilt", "handful", "turn", "row", "bad"] ["cell", "many", "order"] (defScope s__law_spoilt_order) := ⟨rfl, rfl, rfl, by decide +kernel, rfl, by decide +kernel, by decide +kernel⟩
abbrev s__law_handed : Stmt := top 37
theorem sc__law_handed : FnScope ["order", "form", "rows", "handful"] ["order", "form"] (defScope s__law_handed) := ⟨rfl, rfl, rfl, by decide +kernel, rfl, by decide +kernel, by decide +kernel⟩
abbrev s__law_log : Stmt := top 38
theorem sc__law_log : FnScope ["round_flag", "sizes", "strengths", "order", "now", "log", "handful", "places", "after", "k"] ["round_flag", "sizes", "strengths", "order"] (defScope s__law_log) := ⟨rfl, rfl, rfl, by decide +kernel, rfl, by decide +kernel, by decide +kernel⟩
abbrev s__law_is_changes : Stmt := top 39
theorem sc__law_is_changes : FnScope ["actual", "due", "k"] ["actual", "due"] (defScope s__law_is_changes) := ⟨rfl, rfl, rfl, by decide +kernel, rfl, by decide +kernel, by decide +kernel⟩
abbrev s__law_is_log : Stmt := top 40
theorem sc__law_is_log : FnScope ["actual", "due", "k", "entry"] ["actual", "due"] (defScope s__law_is_log) := ⟨rfl, rfl, rfl, by decide +kernel, rfl, by decide +kernel, by decide +kernel⟩
abbrev s__law_refuses : Stmt := top 41
theorem sc__law_refuses : FnScope ["beads", "many", "spoilt", "form", "bad", "handful", "place", "passed", "e"] ["beads", "many", "spoilt", "form"] (defScope s__law_refuses) := ⟨rfl, rfl, rfl, by decide +kernel, rfl, by decide +kernel, by decide +kernel⟩
abbrev s__law_runs : Stmt := top 42
theorem sc__law_runs : FnScope ["beads", "round_flag", "sizes", "strengths", "order", "form", "ended", "passed", "actual", "entry"] ["beads", "round_flag", "sizes", "strengths", "order", "form"] (defScope s__law_runs) := ⟨rfl, rfl, rfl, by decide +kernel, rfl, by decide +kernel, by decide +kernel⟩
abbrev s__law_spoilt_log : Stmt := top 43
theorem sc__law_spoilt_log : FnScope ["cell", "many", "log", "draws", "rows", "entry", "full", "k", "at", "turn", "bits", "row", "place", "before", "after"] ["cell", "many", "log"] (defScope s__law_spoilt_log) := ⟨rfl, rfl, rfl, by decide +kernel, rfl, by decide +kernel, by decide +kernel⟩
abbrev s__law_unwound : Stmt := top 44
theorem sc__law_unwound : FnScope ["strengths", "log", "now", "step", "index", "change"] ["strengths", "log"] (defScope s__law_unwound) := ⟨rfl, rfl, rfl, by decide +kernel, rfl, by decide +kernel, by decide +kernel⟩
abbrev s__law_unwinds : Stmt := top 45
theorem sc__law_unwinds : FnScope ["beads", "round_flag", "sizes", "strengths", "log", "due", "passed", "entry", "index", "actual", "e"] ["beads", "round_flag", "sizes", "strengths", "log"] (defScope s__law_unwinds) := ⟨rfl, rfl, rfl, by decide +kernel, rfl, by decide +kernel, by decide +kernel⟩
abbrev s_law : Stmt := top 46
theorem sc_law : FnScope ["script", "heads", "many", "round_flag", "sizes", "strengths", "order", "spoilt", "beads", "rows", "ended", "last", "unread", "k", "spoilt_log", "log"] ["script"] (defScope s_law) := ⟨rfl, rfl, rfl, by decide +kernel, rfl, by decide +kernel, by decide +kernel⟩
structure Ad where
  Beads : Addr
  BadPlace : Addr
  WrongKind : Addr
  BadBeads : Addr
  BadLog : Addr
structure Txt (K : PySem.W.Frag) (mg : Str → Option Value) (A : Ad) : Prop where
  m_len : mg "len" = none
  m_int : mg "int" = none
  m_bool : mg "bool" = none
  m_tuple : mg "tuple" = none
  m_list : mg "list" = none
  m_range : mg "range" = none
  m_isinstance : mg "isinstance" = none
  m_sum : mg "sum" = none
  m_set : mg "set" = none
  m_sorted : mg "sorted" = none
  m_reversed : mg "reversed" = none
  g_Beads : mg "Beads" = some (.ref A.Beads)
  g_BadPlace : mg "BadPlace" = some (.ref A.BadPlace)
  cl : Cls K A.Beads
  nS : NoAttr K A.Beads "strengths"
  nL : NoAttr K A.Beads "lengths"
  nR : NoAttr K A.Beads "ring"
  oBP : OexC K A.BadPlace
  no_BadPlace_place : PySem.W.findIn K (.ref A.BadPlace) "place" = some none
  x_BadPlace : XfC K A.BadPlace
  eBP : PySem.W.exmOne K (.ref A.BadPlace) (.ref A.BadPlace) = some true
  g_WrongKind : mg "WrongKind" = some (.ref A.WrongKind)
  oWK : OexC K A.WrongKind
  no_WrongKind_ring : PySem.W.findIn K (.ref A.WrongKind) "ring" = some none
  x_WrongKind : XfC K A.WrongKind
  eWK : PySem.W.exmOne K (.ref A.WrongKind) (.ref A.WrongKind) = some true
  g_BadBeads : mg "BadBeads" = some (.ref A.BadBeads)
  kBPb : PySem.W.kitOne K (.ref A.BadPlace) (.ref A.BadBeads) = some false
  g_BadLog : mg "BadLog" = some (.ref A.BadLog)
  oBL : OexC K A.BadLog
  no_BadLog_index : PySem.W.findIn K (.ref A.BadLog) "index" = some none
  x_BadLog : XfC K A.BadLog
  eBL : PySem.W.exmOne K (.ref A.BadLog) (.ref A.BadLog) = some true
  nW : True
  iB1 : PySem.W.findIn K (.ref A.Beads) "__class__" = some (some (.builtin "object.__class__"))
  iB2 : PySem.W.specialIn K (.builtin "object.__class__") "__get__" = some (some (.builtin "getset_descriptor.__get__"))
  iB3 : PySem.W.takesIn K (.builtin "object.__class__") = some true
  iB4 : PySem.W.mroIn K A.Beads (.type "object") = some true
  iB5 : PySem.W.kitOne K (.ref A.Beads) (.ref A.Beads) = some true
  m_iter : mg "iter" = none
local macro_rules | `(tactic| walk_at "rd1") => `(tactic| (with_reducible first
  | refine g_var (by with_unfolding_all rfl) ?_
  | refine g_c ?_
  | refine g_op ?_
  | refine g_I0 ?_
  | refine g_eqI ?_
  | refine g_neI ?_
  | refine g_eqB ?_
  | refine g_neB ?_
  | refine g_cons ?_
  | refine g_nil ?_
  | refine g_seq ?_
  | refine g_asg ?_
  | refine g_name ?_
  | refine g_ret ?_
  | refine g_retN ?_
  | refine g_drop ?_
  | refine g_next ?_
  | refine g_if ?_
  | refine g_test ?_
  | refine g_tB ?_
  | refine g_bl ?_
  | refine g_and ?_
  | refine g_or ?_
  | refine g_not ?_
  | refine g_andV ?_
  | refine g_orV ?_
  | refine g_notV ?_
  | refine g_ifE ?_
  | refine g_cb ?_
  | refine g_meth ?_
  | refine g_rev ?_
  | refine g_gcons ?_
  | refine g_gnil ?_
  | refine g_isB' ?_
  | refine g_gsub ?_
  | refine g_call ?_
  | refine g_callS ?_
  | refine g_bm ?_
  | refine g_un ?_
  | refine g_U ?_
  | refine g_chain ?_
  | refine g_sl ?_
  | refine g_brk ?_
  | refine g_ct ?_
  | refine g_ipI ?_
  | refine g_fld ?_
  | refine g_lst ?_
  | refine g_int ?_
  | refine g_for ?_
  | refine g_rg1 ?_
  | refine g_rg2 ?_
  | refine g_il ?_
  | refine g_it ?_
  | refine g_lc ?_
  | refine g_yes ?_
  | refine g_tup ?_
  | refine g_part ?_
  | refine g_xf ?_
  | refine g_nn ?_
  | refine g_mko ?_
  | refine g_lrg ?_
  | refine g_tr1 ?_
  | refine g_tr2 ?_
  | refine g_oi2 ?_
  | refine g_mk ?_
  | refine g_sfld ?_
  | refine g_ost ?_
  | refine g_oi ?_
  | refine g_nopart ?_
  | refine g_tt ?_
  | refine g_ff ?_
  | refine g_nt ?_
  | refine g_nf ?_
  | refine g_drn ?_
  | refine g_din ?_
  | refine g_dnn ?_
  | refine g_nrn ?_
  | refine g_nin ?_
  | refine g_nnn ?_))
local macro_rules | `(tactic| walk_at "rd") => `(tactic| (repeat walk_at "rd1"))

section
variable {P : Program} {w : World} {K : PySem.W.Frag} {mg : Str → Option Value} {base : Heap} {f : Addr} {fd : FuncData} {A : Ad}
/-! ### _law_cell -/
def cellI (ns : List Int) (k : Nat) : Int := ns.getD k 0
def spCell (K : PySem.W.Frag) : Sp := fun vs H Q _ => ∃ (a : Addr) (ns : List Int) (k : Nat), vs = [.ref a, .int (k : Int)] ∧ SqL K H a (ns.map V.int) ∧ Q (.int (cellI ns k)) H
theorem ok_cell (F : Fun K "_law_cell" "_law_cell" s__law_cell f fd) (T : Txt K mg A) : FnOk P w K mg base CX0 1 f fd ["script", "k"] (Rt.spCell K) := by
  refine F.ok sc__law_cell (fun vs H Q E h => ?_) (fun cdv A1 outer s H vs Q E hr h => ?_)
  · obtain ⟨a, ns, k, rfl, _⟩ := h
    rfl
  · obtain ⟨a, ns, k, rfl, hs, q⟩ := h
    refine ⟨_, (pss_cons (ps_if (pt_cmpR op_lt (pv 1) (pe_callB (call_lenK K) (by rfl) T.m_len PySem.boot_len (pa_cons (pv 0) pa_nil)) (nomark _)) (pss_one (ps_ret (pe_callTy call_int1 (by rfl) T.m_int (by decide +kernel) (pa_cons (pe_ix (ix_listK K) (pv 0) (pv 1) (fun _ _ => rfl)) pa_nil)))) pss_nil)
      (pss_one (ps_ret pe_int))), ?_⟩
    walk_at "rd"
    refine ⟨a, _, rfl, .inl hs, ?_⟩
    walk_at "rd"
    refine g_ite (fun e => ?_) (fun e => ?_)
    · have hk : k < ns.length := by have := of_decide_eq_true e; rw [List.length_map] at this; omega
      walk_at "rd"
      refine ⟨a, _, _, _, rfl, rfl, hs, at_int hk, ?_⟩
      walk_at "rd"
      exact q
    · have hk : ns.length ≤ k := by have := of_decide_eq_false e; rw [List.length_map] at this; omega
      walk_at "rd"
      have e0 : cellI ns k = 0 := by unfold cellI; rw [List.getD_eq_getElem?_getD, List.getElem?_eq_none hk]; rfl
      rw [e0] at q
      exact q
/-! ### _law_draws -/
def spDraws (K : PySem.W.Frag) : Sp := fun vs H Q _ => ∃ (l : Addr) (c : Int) (ns : List Int), vs = [.int c, .ref l] ∧ SqL K H l (ns.map V.int) ∧ ns.length ≤ 1000 ∧ (∀ i, i < ns.length → 0 < ns.getD i 0 ∧ ns.getD i 0 < 2 ^ 64) ∧
  ∀ (p : Addr) (H' : Hp) (ds : List Int), H p = none → Same H H' → H' p = some (.lst (ds.map V.int)) → Dr ns ds → Q (.ref p) H'
theorem ok_draws (F : Fun K "_law_draws" "_law_draws" s__law_draws f fd) (T : Txt K mg A) : FnOk P w K mg base CX0 1 f fd ["cell", "sizes"] (Rt.spDraws K) := by
  refine F.ok sc__law_draws (fun vs H Q E h => ?_) (fun cdv A1 outer s H vs Q E hr h => ?_)
  · obtain ⟨l, c, ns, rfl, _⟩ := h
    rfl
  · obtain ⟨l, c, ns, rfl, hs, hl, hp, q⟩ := h
    refine ⟨_, (pss_cons (ps_set (i := 2) sc__law_draws.nd rfl (Or.inl rfl) (pe_callTy call_int1 (by rfl) T.m_int (by decide +kernel) (pa_cons (pv 0) pa_nil)))
      (pss_cons (ps_set (i := 3) sc__law_draws.nd rfl (Or.inl rfl) (pe_lst pa_nil))
      (pss_cons (ps_for (PassesOwn.never) rfl (pi_range1 rfl T.m_range (pa_cons (pe_callB (call_lenK K) (by rfl) T.m_len PySem.boot_len (pa_cons (pv 1) pa_nil)) pa_nil)) (pg_name (i := 4) sc__law_draws.nd rfl (Or.inl rfl)) (pss_one (ps_if (pt_cmpR op_ge (pv 0) (pe_op op_pow pe_int pe_int) (nomark _)) (pss_cons (ps_expr (pe_appK K (pv 3) (pa_cons (pe_op op_mod (pe_callTy call_int1 (by rfl) T.m_int (by decide +kernel) (pa_cons (pv 2) pa_nil)) (pe_ix (ix_listK K) (pv 1) (pv 4) (fun _ _ => rfl))) pa_nil)))
      (pss_one (ps_set (i := 2) sc__law_draws.nd rfl (Or.inl rfl) (pe_op op_fdivW (pe_callTy call_int1 (by rfl) T.m_int (by decide +kernel) (pa_cons (pv 2) pa_nil)) (pe_ix (ix_listK K) (pv 1) (pv 4) (fun _ _ => rfl)))))) (pss_cons (ps_set (i := 5) sc__law_draws.nd rfl (Or.inl rfl) (pe_op op_mod (pe_callTy call_int1 (by rfl) T.m_int (by decide +kernel) (pa_cons (pe_op op_add (pe_op op_add (pv 0) (pe_op op_mul pe_int (pv 4))) pe_int) pa_nil)) pe_int))
      (pss_cons (ps_set (i := 5) sc__law_draws.nd rfl (Or.inl rfl) (pe_op op_mod (pe_callTy call_int1 (by rfl) T.m_int (by decide +kernel) (pa_cons (pe_op op_mul (pv 5) (pe_op op_add (pv 5) pe_int)) pa_nil)) pe_int))
      (pss_cons (ps_set (i := 5) sc__law_draws.nd rfl (Or.inl rfl) (pe_op op_mod (pe_callTy call_int1 (by rfl) T.m_int (by decide +kernel) (pa_cons (pe_op op_add (pe_op op_mul (pv 5) (pe_op op_add (pv 5) pe_int)) (pe_op op_mul pe_int (pv 4))) pa_nil)) pe_int))
      (pss_one (ps_expr (pe_appK K (pv 3) (pa_cons (pe_op op_mod (pe_callTy call_int1 (by rfl) T.m_int (by decide +kernel) (pa_cons (pe_op op_fdiv (pv 5) pe_int) pa_nil)) (pe_ix (ix_listK K) (pv 1) (pv 4) (fun _ _ => rfl))) pa_nil))))))))))
      (pss_one (ps_ret (pv 3)))))), ?_⟩
    walk_at "rd"
    refine ⟨by decide, fun p np => ?_⟩
    walk_at "rd"
    have S0 : Same H (upd H p (.lst [])) := Same.new np
    refine ⟨l, _, rfl, .inl (S0.seq hs), ?_⟩
    walk_at "rd"
    refine ⟨_, rfl, by omega, by rw [List.length_map]; omega, ?_⟩
    rw [List.length_map]
    refine for_range (lo := 0) (fun i σ H' => ∃ (left : Int) (ds : List Int) (v5 v6 : Option V), σ = [some (.int c), some (.ref l), some (.int left), some (.ref p), v5, v6] ∧ Same H H' ∧ H' p = some (.lst (ds.map V.int)) ∧ ds.length = i ∧
      ∀ j, j < i → 0 ≤ ds.getD j 0 ∧ ds.getD j 0 < ns.getD j 0) ⟨c, [], none, none, rfl, S0, upd_same, rfl, fun j h => absurd h (Nat.not_lt_zero j)⟩ ?_ ?_
    · rintro i σ H' hi ⟨left, ds, v5, v6, rfl, S1, hd, hdl, hin⟩
      have hi' : i < ns.length := by simpa using hi
      have hs1 := S1.seq hs
      obtain ⟨hp0, hp1⟩ := hp i hi'
      have step : ∀ (d : Int), 0 ≤ d → d < ns.getD i 0 → ∀ j, j < i + 1 → 0 ≤ (ds ++ [d]).getD j 0 ∧ (ds ++ [d]).getD j 0 < ns.getD j 0 := by
        intro d h0 h1 j hj
        rw [getD_app, hdl]
        by_cases h : j < i
        · rw [if_pos h]; exact hin j h
        · have e : j = i := by omega
          subst e
          rw [if_neg h, if_pos rfl]; exact ⟨h0, h1⟩
      rw [Int.zero_add]
      walk_at "rd"
      refine g_I ⟨by decide, by decide, by decide⟩ ?_
      walk_at "rd"
      refine g_ite (fun e => ?_) (fun e => ?_)
      · walk_at "rd"
        refine ⟨ty_l hd, ?_⟩
        walk_at "rd"
        refine g_ixL hs1 (at_int hi') ?_
        refine g_I hp0 ?_
        walk_at "rd"
        refine g_app hd (by rw [List.length_map, hdl]; exact slt1000 (by omega)) ?_
        walk_at "rd"
        have S2 : Same H (upd H' p (.lst (ds.map V.int ++ [V.int (left % ns.getD i 0)]))) := S1.mut np
        refine g_ixL (S2.seq hs) (at_int hi') ?_
        refine g_I (wide_div hp0 (b := 64) (by omega) (by decide) (by decide)) ?_
        walk_at "rd"
        exact ⟨_, ds ++ [left % ns.getD i 0], _, _, rfl, S2, by rw [upd_same, map_app], by rw [List.length_append, hdl]; rfl, step _ (Int.emod_nonneg _ (by omega)) (Int.emod_lt_of_pos _ hp0)⟩
      · walk_at "rd"
        refine g_I (.inl ⟨by decide, by decide⟩) ?_
        walk_at "rd"
        refine g_I (by decide) ?_
        walk_at "rd"
        have a1 := Int.emod_nonneg (c + 7919 * (i : Int) + 13) (show (2147483647 : Int) ≠ 0 by decide)
        have a2 := Int.emod_lt_of_pos (c + 7919 * (i : Int) + 13) (show (0 : Int) < 2147483647 by decide)
        generalize (c + 7919 * (i : Int) + 13) % 2147483647 = m1 at a1 a2
        refine g_I (.inl ⟨by omega, by omega⟩) ?_
        walk_at "rd"
        refine g_I (by decide) ?_
        walk_at "rd"
        have b1 := Int.emod_nonneg (m1 * (m1 + 48271)) (show (2147483629 : Int) ≠ 0 by decide)
        have b2 := Int.emod_lt_of_pos (m1 * (m1 + 48271)) (show (0 : Int) < 2147483629 by decide)
        generalize (m1 * (m1 + 48271)) % 2147483629 = m2 at b1 b2
        refine g_I (.inl ⟨by omega, by omega⟩) ?_
        walk_at "rd"
        refine g_I (.inl ⟨by decide, by decide⟩) ?_
        walk_at "rd"
        refine g_I (by decide) ?_
        walk_at "rd"
        refine ⟨ty_l hd, ?_⟩
        walk_at "rd"
        refine g_I ⟨by decide, by decide⟩ ?_
        walk_at "rd"
        refine g_ixL hs1 (at_int hi') ?_
        refine g_I hp0 ?_
        walk_at "rd"
        refine g_app hd (by rw [List.length_map, hdl]; exact slt1000 (by omega)) ?_
        walk_at "rd"
        exact ⟨_, ds ++ [_], _, _, rfl, S1.mut np, by rw [upd_same, map_app], by rw [List.length_append, hdl]; rfl, step _ (Int.emod_nonneg _ (by omega)) (Int.emod_lt_of_pos _ hp0)⟩
    · rintro σ H' ⟨left, ds, v5, v6, rfl, S1, hd, hdl, hin⟩
      walk_at "rd"
      exact q p H' ds np S1 hd ⟨by simpa using hdl, fun i hi => hin i (by simpa using hi)⟩
/-! ### _law_is_integer -/
def spInt : Sp := fun vs H Q _ => ∃ i : Int, vs = [.int i] ∧ Q (.bl true) H
theorem ok_int (F : Fun K "_law_is_integer" "_law_is_integer" s__law_is_integer f fd) (T : Txt K mg A) : FnOk P w K mg base CX0 1 f fd ["actual"] Rt.spInt := by
  refine F.ok sc__law_is_integer (fun vs H Q E h => ?_) (fun cdv A1 outer s H vs Q E hr h => ?_)
  · obtain ⟨i, rfl, _⟩ := h
    rfl
  · obtain ⟨i, rfl, q⟩ := h
    refine ⟨_, (pss_one (ps_ret (pe_and (pe_callB (call_isiQ K) (by rfl) T.m_isinstance (by decide +kernel) (pa_cons (pv 0) (pa_cons (pe_bltn (v := .ty "int") (by rfl) T.m_int (by decide +kernel) rfl) pa_nil))) (pe_one (pe_not (pe_callB (call_isiQ K) (by rfl) T.m_isinstance (by decide +kernel) (pa_cons (pv 0) (pa_cons (pe_bltn (v := .ty "bool") (by rfl) T.m_bool (by decide +kernel) rfl) pa_nil)))))))), ?_⟩
    walk_at "rd"
    refine ⟨_, _, _, _, _, rfl, .ty _, .base (.int i), kit_ty (r := true) (by decide +kernel), ?_⟩
    refine ⟨_, rfl, g_itt rfl ?_⟩
    walk_at "rd"
    refine ⟨_, _, _, _, _, rfl, .ty _, .base (.int i), kit_ty (r := false) (by decide +kernel), ?_⟩
    exact ⟨_, rfl, q⟩
theorem ok_intH (F : Fun K "_law_is_integer" "_law_is_integer" s__law_is_integer f fd) (T : Txt K mg A) : L2H.FnH P w K mg base CX0 1 f fd ["actual"] Rt.spInt := by
  refine okH F sc__law_is_integer (fun vs H Q E h => ?_) (fun cdv A1 outer s H vs Q E p hot hr h => ?_)
  · obtain ⟨i, rfl, _⟩ := h
    rfl
  · obtain ⟨i, rfl, q⟩ := h
    refine ⟨_, (pss_one (ps_ret (pe_and (pe_callB (call_isiQ K) (by rfl) T.m_isinstance (by decide +kernel) (pa_cons (pv 0) (pa_cons (pe_bltn (v := .ty "int") (by rfl) T.m_int (by decide +kernel) rfl) pa_nil))) (pe_one (pe_not (pe_callB (call_isiQ K) (by rfl) T.m_isinstance (by decide +kernel) (pa_cons (pv 0) (pa_cons (pe_bltn (v := .ty "bool") (by rfl) T.m_bool (by decide +kernel) rfl) pa_nil)))))))), ?_⟩
    walk_at "rd"
    refine ⟨_, _, _, _, _, rfl, .ty _, .base (.int i), kit_ty (r := true) (by decide +kernel), ?_⟩
    refine ⟨_, rfl, g_itt rfl ?_⟩
    walk_at "rd"
    refine ⟨_, _, _, _, _, rfl, .ty _, .base (.int i), kit_ty (r := false) (by decide +kernel), ?_⟩
    exact ⟨_, rfl, q⟩
/-! ### _law_numbers -/
/-- a list or, with b, a tuple of the ints xs at a -/
def SeqAt' (H : Hp) (b : Bool) (a : Addr) (xs : List Int) : Prop := H a = some (if b = true then .tup (xs.map V.int) else .lst (xs.map V.int))
def spNumbers (K : PySem.W.Frag) : Sp := fun vs H Q _ => ∃ (a l : Addr) (b : Bool) (xs ys : List Int), vs = [.ref a, .ref l, .bl b] ∧ SeqAt' H b a xs ∧ SqL K H l (ys.map V.int) ∧ ys.length ≤ 100000 ∧ Q (.bl (decide (xs = ys))) H
theorem ok_numbers (F : Fun K "_law_numbers" "_law_numbers" s__law_numbers f fd) (T : Txt K mg A) (D__law_is_integer : DefOk P w K mg base CX0 1 "_law_is_integer" ["actual"] Rt.spInt) : FnOk P w K mg base CX0 2 f fd ["actual", "due", "as_tuple"] (Rt.spNumbers K) := by
  refine F.ok sc__law_numbers (fun vs H Q E h => ?_) (fun cdv A1 outer s H vs Q E hr h => ?_)
  · obtain ⟨a, l, b, xs, ys, rfl, _⟩ := h
    rfl
  · obtain ⟨a, l, b, xs, ys, rfl, ha, hs, hy, q⟩ := h
    refine ⟨_, (pss_cons (ps_if (PW.pt (pw_or (PW.pt (pw_and (pt_val (pv 2)) (pw_and1 (pt_not (pt_val (pe_callB (call_isiQ K) (by rfl) T.m_isinstance (by decide +kernel) (pa_cons (pv 0) (pa_cons (pe_bltn (v := .ty "tuple") (by rfl) T.m_tuple (by decide +kernel) rfl) pa_nil)))))))) (pw_or1 (PW.pt (pw_and (pt_not (pt_val (pv 2))) (pw_and1 (pt_not (pt_val (pe_callB (call_isiQ K) (by rfl) T.m_isinstance (by decide +kernel) (pa_cons (pv 0) (pa_cons (pe_bltn (v := .ty "list") (by rfl) T.m_list (by decide +kernel) rfl) pa_nil))))))))))) (pss_one (ps_ret pe_bl)) pss_nil)
      (pss_cons (ps_if (pt_cmpR op_ne (pe_callB (call_lenK K) (by rfl) T.m_len PySem.boot_len (pa_cons (pv 0) pa_nil)) (pe_callB (call_lenK K) (by rfl) T.m_len PySem.boot_len (pa_cons (pv 1) pa_nil)) (nomark _)) (pss_one (ps_ret pe_bl)) pss_nil)
      (pss_cons (ps_for (PassesOwn.never) rfl (pi_range1 rfl T.m_range (pa_cons (pe_callB (call_lenK K) (by rfl) T.m_len PySem.boot_len (pa_cons (pv 1) pa_nil)) pa_nil)) (pg_name (i := 3) sc__law_numbers.nd rfl (Or.inl rfl)) (pss_one (ps_if (PW.pt (pw_or (pt_not (pt_val (pe_callD D__law_is_integer (hr.mono (by decide)) pass0 (pa_cons (pe_ix (ix_seqK K) (pv 0) (pv 3) (fun _ _ => rfl)) pa_nil)))) (pw_or1 (pt_cmpR op_ne (pe_ix (ix_seqK K) (pv 0) (pv 3) (fun _ _ => rfl)) (pe_ix (ix_listK K) (pv 1) (pv 3) (fun _ _ => rfl)) (nomark _))))) (pss_one (ps_ret pe_bl)) pss_nil)))
      (pss_one (ps_ret pe_bl))))), ?_⟩
    have hlen : SqL K H a (xs.map V.int) ∨ SqT K H a (xs.map V.int) := by
      cases b with
      | true => exact .inr (SqT.of ha)
      | false => exact .inl (SqL.of ha)
    have hix : ∀ (i : Nat) (Q : VK), i < xs.length → Q (.int (xs.getD i 0)) H → rIx K (.ref a) (.int (i : Int)) H Q := fun i Q hi h => by
      cases b with
      | true => exact .inr (.inl (g_ixT (SqT.of ha) (at_int hi) h))
      | false => exact .inl (g_ixL (SqL.of ha) (at_int hi) h)
    have step : ∀ (i : Nat), i < ys.length → i < xs.length → (∀ j, j < i → xs.getD j 0 = ys.getD j 0) → xs.getD i 0 = ys.getD i 0 → ∀ j, j < i + 1 → xs.getD j 0 = ys.getD j 0 := fun i _ _ h h2 j hj => by
      rcases Nat.lt_succ_iff_lt_or_eq.mp hj with z | z
      · exact h j z
      · rw [z]; exact h2
    cases b
    all_goals
      walk_at "rd"
      refine g_isi (b := true) (.base (by first | exact .tup ha | exact .lst ha)) (by decide +kernel) ?_
      walk_at "rd"
      refine ⟨a, _, rfl, hlen, ?_⟩
      walk_at "rd"
      refine ⟨l, _, rfl, .inl hs, ?_⟩
      rw [List.length_map, List.length_map]
      walk_at "rd"
      refine g_ite (fun e => ?_) (fun e => ?_)
      · walk_at "rd"
        have ne : ¬ xs = ys := fun z => by
          rw [z] at e; simp at e
        rw [decide_eq_false ne] at q
        exact q
      · have el : xs.length = ys.length := by
          have := e; simp at this
          omega
        walk_at "rd"
        refine ⟨l, _, rfl, .inl hs, ?_⟩
        rw [List.length_map]
        walk_at "rd"
        refine ⟨_, rfl, by omega, by omega, ?_⟩
        refine for_range (lo := 0) (fun i σ H' => ∃ v3 : Option V, σ = [some (.ref a), some (.ref l), some (.bl _), v3] ∧ H' = H ∧ ∀ j, j < i → xs.getD j 0 = ys.getD j 0) ⟨none, rfl, rfl, fun j h => absurd h (Nat.not_lt_zero j)⟩ ?_ ?_
        · rintro i σ H' hi ⟨v3, rfl, rfl, hin⟩
          have hi' : i < ys.length := by simpa using hi
          rw [Int.zero_add]
          walk_at "rd"
          refine hix i _ (by omega) ?_
          walk_at "rd"
          refine ⟨_, rfl, ?_⟩
          walk_at "rd"
          refine hix i _ (by omega) ?_
          walk_at "rd"
          refine g_ixL hs (at_int hi') ?_
          walk_at "rd"
          refine g_ite (fun e2 => ?_) (fun e2 => ?_)
          · walk_at "rd"
            have ne : ¬ xs = ys := fun z => by
              rw [z] at e2; simp at e2
            rw [decide_eq_false ne] at q
            exact q
          · walk_at "rd"
            have h2 : xs.getD i 0 = ys.getD i 0 := by simpa using e2
            exact ⟨_, rfl, rfl, step i hi' (by omega) hin h2⟩
        · rintro σ H' ⟨v3, rfl, rfl, hin⟩
          walk_at "rd"
          have e3 : xs = ys := ext_getD el fun i hi => hin i (by simpa using (by omega : i < ys.length))
          rw [decide_eq_true e3] at q
          exact q
/-! ### -/
end
end Rt
set_option Elab.async false
set_option linter.all false
set_option maxRecDepth 100000
set_option maxHeartbeats 4000000
namespace Rt
open PySem PySem.Spec L2
open PyProof.Rows (envOfC)
local macro_rules | `(tactic| walk_at "rd1") => `(tactic| (with_reducible first
  | refine g_var (by with_unfolding_all rfl) ?_
  | refine g_c ?_
  | refine g_op ?_
  | refine g_I0 ?_
  | refine g_eqI ?_
  | refine g_neI ?_
  | refine g_eqB ?_
  | refine g_neB ?_
  | refine g_cons ?_
  | refine g_nil ?_
  | refine g_seq ?_
  | refine g_asg ?_
  | refine g_name ?_
  | refine g_ret ?_
  | refine g_retN ?_
  | refine g_drop ?_
  | refine g_next ?_
  | refine g_if ?_
  | refine g_test ?_
  | refine g_tB ?_
  | refine g_bl ?_
  | refine g_and ?_
  | refine g_or ?_
  | refine g_not ?_
  | refine g_andV ?_
  | refine g_orV ?_
  | refine g_notV ?_
  | refine g_ifE ?_
  | refine g_cb ?_
  | refine g_meth ?_
  | refine g_rev ?_
  | refine g_gcons ?_
  | refine g_gnil ?_
  | refine g_isB' ?_
  | refine g_gsub ?_
  | refine g_call ?_
  | refine g_callS ?_
  | refine g_bm ?_
  | refine g_un ?_
  | refine g_U ?_
  | refine g_chain ?_
  | refine g_sl ?_
  | refine g_brk ?_
  | refine g_ct ?_
  | refine g_ipI ?_
  | refine g_fld ?_
  | refine g_lst ?_
  | refine g_int ?_
  | refine g_for ?_
  | refine g_rg1 ?_
  | refine g_rg2 ?_
  | refine g_il ?_
  | refine g_it ?_
  | refine g_lc ?_
  | refine g_yes ?_
  | refine g_tup ?_
  | refine g_part ?_
  | refine g_xf ?_
  | refine g_nn ?_
  | refine g_mko ?_
  | refine g_lrg ?_
  | refine g_tr1 ?_
  | refine g_tr2 ?_
  | refine g_oi2 ?_
  | refine g_mk ?_
  | refine g_sfld ?_
  | refine g_ost ?_
  | refine g_oi ?_
  | refine g_nopart ?_
  | refine g_tt ?_
  | refine g_ff ?_
  | refine g_nt ?_
  | refine g_nf ?_
  | refine g_drn ?_
  | refine g_din ?_
  | refine g_dnn ?_
  | refine g_nrn ?_
  | refine g_nin ?_
  | refine g_nnn ?_))
local macro_rules | `(tactic| walk_at "rd") => `(tactic| (repeat walk_at "rd1"))

/-! ### a standing in the heap -/
def bfs (ts tl : Addr) (r : Bool) : List (Str × V) := putF "ring" (.bl r) (putF "lengths" (.ref tl) (putF "strengths" (.ref ts) []))
structure BAt (C : Addr) (H : Hp) (b ts tl : Addr) (r : Bool) (ss ls : List Int) : Prop where
  ob : ∃ dx, H b = some (.ins C dx (bfs ts tl r))
  st : H ts = some (.tup (ss.map V.int))
  ln : H tl = some (.tup (ls.map V.int))
theorem BAt.mono {C : Addr} {H H' : Hp} {b ts tl : Addr} {r : Bool} {ss ls : List Int} (h : BAt C H b ts tl r ss ls) (S : Same H H') : BAt C H' b ts tl r ss ls :=
  ⟨let ⟨dx, e⟩ := h.ob; ⟨dx, S _ _ e⟩, S _ _ h.st, S _ _ h.ln⟩
theorem kne1 : ¬ (("strengths" : Str) = "ring") := by decide +kernel
theorem kne2 : ¬ (("strengths" : Str) = "lengths") := by decide +kernel
theorem kne3 : ¬ (("lengths" : Str) = "ring") := by decide +kernel
theorem bfs_s {ts tl : Addr} {r : Bool} : (bfs ts tl r).lookup ("strengths" : Str) = some (.ref ts) := by
  unfold bfs; rw [lookup_putF, if_neg kne1, lookup_putF, if_neg kne2, lookup_putF, if_pos rfl]
theorem bfs_l {ts tl : Addr} {r : Bool} : (bfs ts tl r).lookup ("lengths" : Str) = some (.ref tl) := by
  unfold bfs; rw [lookup_putF, if_neg kne3, lookup_putF, if_pos rfl]
theorem kne4 : ¬ (("with_strength" : Str) = "ring") := by decide +kernel
theorem kne5 : ¬ (("with_strength" : Str) = "lengths") := by decide +kernel
theorem kne6 : ¬ (("with_strength" : Str) = "strengths") := by decide +kernel
theorem bfs_w {ts tl : Addr} {r : Bool} : (bfs ts tl r).lookup ("with_strength" : Str) = none := by
  unfold bfs; rw [lookup_putF, if_neg kne4, lookup_putF, if_neg kne5, lookup_putF, if_neg kne6]; rfl
theorem bfs_r {ts tl : Addr} {r : Bool} : (bfs ts tl r).lookup ("ring" : Str) = some (.bl r) := by
  unfold bfs; rw [lookup_putF, if_pos rfl]
section
variable {P : Program} {w : World} {K : PySem.W.Frag} {mg : Str → Option Value} {base : Heap} {f : Addr} {fd : FuncData} {A : Ad}
section
variable {H : Hp} {b ts tl : Addr} {r : Bool} {ss ls : List Int} {R : V → Prop}
theorem f_s (T : Txt K mg A) (B : BAt A.Beads H b ts tl r ss ls) (h : R (.ref ts)) : ∃ a C dx fs v, V.ref b = .ref a ∧ H a = some (.ins C dx fs) ∧ Cls K C ∧ NoAttr K C "strengths" ∧ fs.lookup ("strengths" : Str) = some v ∧ R v :=
  let ⟨dx, e⟩ := B.ob; ⟨b, A.Beads, dx, _, _, rfl, e, T.cl, T.nS, bfs_s, h⟩
theorem f_l (T : Txt K mg A) (B : BAt A.Beads H b ts tl r ss ls) (h : R (.ref tl)) : ∃ a C dx fs v, V.ref b = .ref a ∧ H a = some (.ins C dx fs) ∧ Cls K C ∧ NoAttr K C "lengths" ∧ fs.lookup ("lengths" : Str) = some v ∧ R v :=
  let ⟨dx, e⟩ := B.ob; ⟨b, A.Beads, dx, _, _, rfl, e, T.cl, T.nL, bfs_l, h⟩
theorem f_r (T : Txt K mg A) (B : BAt A.Beads H b ts tl r ss ls) (h : R (.bl r)) : ∃ a C dx fs v, V.ref b = .ref a ∧ H a = some (.ins C dx fs) ∧ Cls K C ∧ NoAttr K C "ring" ∧ fs.lookup ("ring" : Str) = some v ∧ R v :=
  let ⟨dx, e⟩ := B.ob; ⟨b, A.Beads, dx, _, _, rfl, e, T.cl, T.nR, bfs_r, h⟩
end
/-! ### BadPlace.__init__, check_place -/
theorem ok_BadPlace (F : Fun K "__init__" "BadPlace.__init__" s_BadPlace_init f fd) : FnOk P w K mg base CX0 1 f fd ["self", "place"] (spExc1 K A.BadPlace "place") := by
  refine F.ok sc_BadPlace_init (fun vs H Q E h => ?_) (fun cdv A1 outer s H vs Q E hr h => ?_)
  · obtain ⟨a, v, rfl, _⟩ := h
    rfl
  · obtain ⟨a, v, rfl, ha, T, no, q⟩ := h
    refine ⟨_, (pss_one (ps_ostK K (pv 0) (pv 1))), ?_⟩
    walk_at "rd"
    exact ⟨a, _, rfl, T, no, .inl ⟨ha, fun dx n ne => q dx n ne⟩⟩
/-- BadPlace(p) goes out -/
def BadP (A : Ad) (H : Hp) (E : XK) (p : Int) : Prop := ∀ d H', H d = none → Same H H' → H' d = some (.xd [("place", V.int p)]) → E (.ref A.BadPlace) (some d) H'
theorem BadP.mono {H H1 : Hp} {E : XK} {p : Int} (h : BadP A H E p) (S : Same H H1) : BadP A H1 E p := fun d H' n S' e => h d H' (S.free n) (S.trans S') e
def spCheck (A : Ad) : Sp := fun vs H Q E => ∃ n p : Int, vs = [.int n, .int p] ∧ (0 ≤ p ∧ p < n → Q .non H) ∧ (¬ (0 ≤ p ∧ p < n) → BadP A H E p)
theorem ok_check (F : Fun K "check_place" "check_place" s_check_place f fd) (T : Txt K mg A) (X_BadPlace : ExcDef P w K mg base "BadPlace" A.BadPlace "place") : FnOk P w K mg base (L2N.CX P w) 4 f fd ["many", "place"] (spCheck A) := by
  refine okN F sc_check_place (fun vs H Q E h => ?_) (fun cdv A1 outer s H vs Q E hr h => ?_)
  · obtain ⟨n, p, rfl, _⟩ := h
    rfl
  · obtain ⟨n, p, rfl, h1, h2⟩ := h
    refine ⟨_, (pss_one (ps_if (pt_not (pt_chain op_le op_lt pe_int (pv 1) (pv 0))) (pss_one (L2N.ps_raise rfl (takes_ofN rfl rfl rfl rfl) (pmk_D X_BadPlace (hr.mono (by decide)) (pa_cons (pv 1) pa_nil)))) pss_nil)), ?_⟩
    walk_at "rd"
    have bad : ¬ (0 ≤ p ∧ p < n) → MkO A.BadPlace (spExc1 K A.BadPlace "place") [V.int p] H E := fun z => mk1 T.oBP T.no_BadPlace_place (h2 z)
    refine g_ite (fun e => ?_) (fun e => ?_)
    · walk_at "rd"
      refine g_ite (fun e2 => ?_) (fun e2 => ?_)
      · walk_at "rd"
        have := of_decide_eq_true e
        exact bad (by simp at e2; omega)
      · walk_at "rd"
        have := of_decide_eq_true e
        exact h1 (by simp at e2; omega)
    · walk_at "rd"
      have := of_decide_eq_false e
      exact bad (by omega)
/-! ### Beads.__len__ -/
def spLen (A : Ad) : Sp := fun vs H Q _ => ∃ (b ts tl : Addr) (r : Bool) (ss ls : List Int), vs = [.ref b] ∧ BAt A.Beads H b ts tl r ss ls ∧ Q (.int (ss.length : Int)) H
theorem ok_len (F : Fun K "__len__" "Beads.__len__" s_Beads_len f fd) (T : Txt K mg A) : FnOk P w K mg base CX0 1 f fd ["self"] (spLen A) := by
  refine F.ok sc_Beads_len (fun vs H Q E h => ?_) (fun cdv A1 outer s H vs Q E hr h => ?_)
  · obtain ⟨b, ts, tl, r, ss, ls, rfl, _⟩ := h
    rfl
  · obtain ⟨b, ts, tl, r, ss, ls, rfl, B, q⟩ := h
    refine ⟨_, (pss_one (ps_ret (pe_callB (call_lenK K) (by rfl) T.m_len PySem.boot_len (pa_cons (pe_fldK K (pv 0) rfl) pa_nil)))), ?_⟩
    walk_at "rd"
    refine f_s T B ?_
    walk_at "rd"
    refine ⟨ts, _, rfl, .inr (SqT.of B.st), ?_⟩
    rw [List.length_map]
    exact q
theorem g_lenB {H : Hp} {b ts tl : Addr} {r : Bool} {ss ls : List Int} {Q : VK} (B : BAt A.Beads H b ts tl r ss ls) (hn : ss.length ≤ 1000) (h : Q (.int (ss.length : Int)) H) : rLenO A.Beads (spLen A) E0 [.ref b] H Q := by
  obtain ⟨dx, e⟩ := B.ob
  exact ⟨b, dx, _, rfl, e, b, ts, tl, r, ss, ls, rfl, B, (ss.length : Int), rfl, by omega, by omega, h⟩
/-! ### run_after -/
def spRun (A : Ad) : Sp := fun vs H Q _ => ∃ (b ts tl : Addr) (r : Bool) (ss ls : List Int) (p : Nat), vs = [.ref b, .int (p : Int)] ∧ BAt A.Beads H b ts tl r ss ls ∧ p < ss.length ∧ ss.length ≤ 1000 ∧
  ∀ (a : Addr) (H' : Hp), H a = none → Same H H' → H' a = some (.lst (nI (run r ss.length p))) → Q (.ref a) H'
theorem ok_run (F : Fun K "run_after" "run_after" s_run_after f fd) (T : Txt K mg A) (LN : LenD P w K mg base A.Beads (spLen A)) : FnOk P w K mg base CX0 4 f fd ["beads", "place"] (spRun A) := by
  refine F.ok sc_run_after (fun vs H Q E h => ?_) (fun cdv A1 outer s H vs Q E hr h => ?_)
  · obtain ⟨b, ts, tl, r, ss, ls, p, rfl, _⟩ := h
    rfl
  · obtain ⟨b, ts, tl, r, ss, ls, p, rfl, B, hp, hn, q⟩ := h
    refine ⟨_, (pss_cons (ps_set (i := 2) sc_run_after.nd rfl (Or.inl rfl) (pe_listRg rfl (by rfl) T.m_list (prg_2 (by rfl) T.m_range (pe_op op_add (pv 1) pe_int) (pe_callB (call_lenD LN (hr.mono (by decide))) (by rfl) T.m_len PySem.boot_len (pa_cons (pv 0) pa_nil)))))
      (pss_cons (ps_if (pt_val (pe_fldK K (pv 0) rfl)) (pss_one (ps_ret (pe_op op_cat (pv 2) (pe_listRg rfl (by rfl) T.m_list (prg_1 (by rfl) T.m_range (pv 1)))))) pss_nil)
      (pss_one (ps_ret (pv 2))))), ?_⟩
    walk_at "rd"
    refine g_lenB B hn ?_
    walk_at "rd"
    refine newRg (a := p + 1) (b := ss.length) (by omega) (by omega) fun a Ha na Sa ha => ?_
    have ea : ((List.range (ss.length - (p + 1))).map fun i => V.int ((p + 1 + i : Nat) : Int)) = nI ((List.range (ss.length - (p + 1))).map fun i => p + 1 + i) := by unfold nI; rw [List.map_map]; rfl
    rw [ea] at ha
    walk_at "rd"
    refine f_r T (B.mono Sa) ?_
    walk_at "rd"
    refine g_ite (fun e => ?_) (fun e => ?_)
    · subst e
      walk_at "rd"
      refine newRg (a := 0) (b := p) (by omega) (by omega) fun a2 Ha2 na2 Sa2 ha2 => ?_
      have eb : ((List.range (p - 0)).map fun i => V.int ((0 + i : Nat) : Int)) = nI (List.range p) := by unfold nI; rw [Nat.sub_zero]; simp
      rw [eb] at ha2
      have ha' := Sa2 _ _ ha
      rw [nI_eq] at ha' ha2
      refine g_cat ha' ha2 (by unfold iI; simp; omega) fun a3 Ha3 na3 Sa3 ha3 => ?_
      refine q a3 Ha3 ((Sa.trans Sa2).free na3) ((Sa.trans Sa2).trans Sa3) ?_
      rw [ha3, nI_eq]
      unfold run iI
      simp only [if_true, List.map_append]
    · subst e
      walk_at "rd"
      refine q a Ha na Sa ?_
      rw [ha]
      unfold run
      simp
/-! ### train_of -/
/-- what a def with a place promises: P if it is a place, BadPlace if not -/
def spPl (A : Ad) (R : Bool → List Int → List Int → Nat → Hp → VK → Prop) : Sp := fun vs H Q E => ∃ (b ts tl : Addr) (r : Bool) (ss ls : List Int) (p : Int), vs = [.ref b, .int p] ∧ BAt A.Beads H b ts tl r ss ls ∧ ls.length = ss.length ∧ ss.length ≤ 1000 ∧
  (0 ≤ p ∧ p < (ss.length : Int) → R r ss ls p.toNat H Q) ∧ (¬ (0 ≤ p ∧ p < (ss.length : Int)) → BadP A H E p)
def RTrain : Bool → List Int → List Int → Nat → Hp → VK → Prop := fun r ss _ p H Q => ∀ (t : Addr) (H' : Hp), H t = none → Same H H' → H' t = some (.lst (nI (trn r ss p))) → Q (.ref t) H'
def RReach : Bool → List Int → List Int → Nat → Hp → VK → Prop := fun r ss ls p H Q => ∀ H' : Hp, Same H H' → Q (.int (rch r ss ls p)) H'
def RStop : Bool → List Int → List Int → Nat → Hp → VK → Prop := fun r ss _ p H Q => ∀ H' : Hp, Same H H' → Q (oV (stp r ss p)) H'
theorem ok_train (F : Fun K "train_of" "train_of" s_train_of f fd) (T : Txt K mg A) (LN : LenD P w K mg base A.Beads (spLen A))
    (D_check_place : DefOk P w K mg base (L2N.CX P w) 4 "check_place" ["many", "place"] (spCheck A)) (D_run_after : DefOk P w K mg base CX0 4 "run_after" ["beads", "place"] (spRun A)) :
    FnOk P w K mg base (L2N.CX P w) 5 f fd ["beads", "place"] (spPl A RTrain) := by
  refine okN F sc_train_of (fun vs H Q E h => ?_) (fun cdv A1 outer s H vs Q E hr h => ?_)
  · obtain ⟨b, ts, tl, r, ss, ls, p, rfl, _⟩ := h
    rfl
  · obtain ⟨b, ts, tl, r, ss, ls, p, rfl, B, hl, hn, q1, q2⟩ := h
    refine ⟨_, (pss_cons (ps_expr (pe_callD D_check_place (hr.mono (by decide)) (passes_callN (takes_ofN rfl rfl rfl rfl)) (pa_cons (pe_callB (call_lenD LN (hr.mono (by decide))) (by rfl) T.m_len PySem.boot_len (pa_cons (pv 0) pa_nil)) (pa_cons (pv 1) pa_nil))))
      (pss_cons (ps_set (i := 2) sc_train_of.nd rfl (Or.inl rfl) (pe_lst pa_nil))
      (pss_cons (ps_for (passes_ofN rfl) rfl (pi_listK K (pe_callD D_run_after (hr.mono (by decide)) pass0 (pa_cons (pv 0) (pa_cons (pv 1) pa_nil)))) (pg_name (i := 3) sc_train_of.nd rfl (Or.inl rfl)) (pss_cons (ps_if (pt_cmpR op_ge (pe_ix (ix_tupK K) (pe_fldK K (pv 0) rfl) (pv 3) (fun _ _ => rfl)) (pe_ix (ix_tupK K) (pe_fldK K (pv 0) rfl) (pv 1) (fun _ _ => rfl)) (nomark _)) (pss_one ps_break) pss_nil)
      (pss_one (ps_expr (pe_appK K (pv 2) (pa_cons (pv 3) pa_nil))))))
      (pss_one (ps_ret (pv 2)))))), ?_⟩
    walk_at "rd"
    refine g_lenB B hn ?_
    walk_at "rd"
    refine ⟨_, p, rfl, fun hp => ?_, q2⟩
    obtain ⟨o, rfl⟩ : ∃ o : Nat, p = (o : Int) := ⟨p.toNat, by omega⟩
    have hp' : o < ss.length := by omega
    have q := q1 hp
    rw [Int.toNat_natCast] at q
    walk_at "rd"
    refine newL fun t Ht nt St ht => ?_
    walk_at "rd"
    refine ⟨b, ts, tl, r, ss, ls, o, rfl, B.mono St, hp', hn, fun a Ha na Sa ha => ?_⟩
    refine ⟨a, rfl, ⟨_, SqL.of ha⟩, for_list (xs := nI (run r ss.length o)) (fun i σ H' => ∃ v4 : Option V, σ = [some (.ref b), some (.int (o : Int)), some (.ref t), v4] ∧ Same H H' ∧ H' a = some (.lst (nI (run r ss.length o))) ∧ H' t = some (.lst (nI ((run r ss.length o).take i))) ∧ Wkd r ss o i)
      ⟨none, rfl, St.trans Sa, ha, Sa _ _ ht, Wkd.zero⟩ (fun i σ H' _ ⟨_, _, _, h, _⟩ => SqL.of h) ?_ ?_⟩
    · rintro i x σ H' hi ⟨v4, rfl, S', ha', ht', wkd⟩
      obtain ⟨j, hj, rfl⟩ : ∃ j, (run r ss.length o)[i]? = some j ∧ x = V.int (j : Int) := by
        rw [List.getElem?_map] at hi
        cases e : (run r ss.length o)[i]? with
        | none => rw [e] at hi; cases hi
        | some j => rw [e] at hi; exact ⟨j, rfl, (Option.some.inj hi).symm⟩
      have hjl : j < ss.length := run_lt hp' j (List.mem_of_getElem? hj)
      have B' := B.mono S'
      walk_at "rd"
      refine f_s T B' ?_
      walk_at "rd"
      refine g_ixT (SqT.of B'.st) (at_int hjl) ?_
      walk_at "rd"
      refine f_s T B' ?_
      walk_at "rd"
      refine g_ixT (SqT.of B'.st) (at_int hp') ?_
      walk_at "rd"
      have nat : a ≠ t := fun z => by
        rw [z, ht] at na; cases na
      refine g_ite (fun e3 => ?_) (fun e3 => ?_)
      · have stop := wkd.stop hj (wk_f e3)
        walk_at "rd"
        rw [← stop.1] at ht'
        exact q t H' nt S' ht'
      · walk_at "rd"
        refine ⟨ty_l ht', ?_⟩
        walk_at "rd"
        refine g_app ht' (by rw [List.length_map, List.length_take]; exact slt1000 (by have := run_le (r := r) hp'; omega)) ?_
        walk_at "rd"
        exact ⟨_, rfl, S'.mut nt, by rw [upd_ne nat]; exact ha', by rw [upd_same, take_more hj]; unfold nI; rw [List.map_append]; rfl, wkd.more hj (wk_t e3)⟩
    · rintro σ H' ⟨v4, rfl, S', ha', ht', wkd⟩
      have full := wkd.full (by unfold nI; rw [List.length_map]; exact Nat.le_refl _)
      walk_at "rd"
      rw [← full.1] at ht'
      exact q t H' nt S' ht'
/-! ### reach_of -/
theorem ok_reachOf (F : Fun K "reach_of" "reach_of" s_reach_of f fd) (T : Txt K mg A)
    (D_train_of : DefOk P w K mg base (L2N.CX P w) 5 "train_of" ["beads", "place"] (spPl A RTrain)) : FnOk P w K mg base (L2N.CX P w) 6 f fd ["beads", "place"] (spPl A RReach) := by
  refine okN F sc_reach_of (fun vs H Q E h => ?_) (fun cdv A1 outer s H vs Q E hr h => ?_)
  · obtain ⟨b, ts, tl, r, ss, ls, p, rfl, _⟩ := h
    rfl
  · obtain ⟨b, ts, tl, r, ss, ls, p, rfl, B, hl, hn, q1, q2⟩ := h
    refine ⟨_, (pss_cons (ps_set (i := 2) sc_reach_of.nd rfl (Or.inl rfl) (pe_callD D_train_of (hr.mono (by decide)) (passes_callN (takes_ofN rfl rfl rfl rfl)) (pa_cons (pv 0) (pa_cons (pv 1) pa_nil))))
      (pss_one (ps_ret (pe_op op_add (pe_ix (ix_tupK K) (pe_fldK K (pv 0) rfl) (pv 1) (fun _ _ => rfl)) (pe_callB (cr_sumK K rfl) (by rfl) T.m_sum (by decide +kernel) (pa_cons (pe_lc (own := [("other", 3)]) (g := gName 3) (tt := tYes) rfl sc_reach_of.nd (pi_listK K (pv 2)) (blkOk_by (N := ["beads", "place", "train", "other"]) (sc := defScope s_reach_of) (by decide +kernel)) (fun _ _ _ _ _ => (by exact (pg_name (i := 3) sc_reach_of.nd rfl (Or.inl rfl)))) (fun _ _ _ _ _ => (by exact pts_nil)) (fun _ _ _ _ _ => (by exact (pe_ix (ix_tupK K) (pe_fldK K (pv 0) rfl) (pv 3) (fun _ _ => rfl))))) pa_nil)))))), ?_⟩
    walk_at "rd"
    refine ⟨b, ts, tl, r, ss, ls, p, rfl, B, hl, hn, fun hp => ?_, q2⟩
    obtain ⟨o, rfl⟩ : ∃ o : Nat, p = (o : Int) := ⟨p.toNat, by omega⟩
    have hp' : o < ss.length := by omega
    have q := q1 hp
    rw [Int.toNat_natCast] at q ⊢
    intro t Ht nt St ht
    walk_at "rd"
    refine f_l T (B.mono St) ?_
    walk_at "rd"
    refine g_ixT (SqT.of (B.mono St).ln) (at_int (by omega)) ?_
    walk_at "rd"
    rw [nI_eq] at ht
    refine ⟨t, rfl, ⟨_, SqL.of ht⟩, fun D nD => ?_⟩
    refine lc_ints (fun x => ls.getD x.toNat 0) (SqL.of ht) nD (by unfold iI; rw [List.length_map]; have := run_le (r := r) hp'; have := trn_len (r := r) (ss := ss) (p := o); omega) (fun i x H' hx S' Q' hq => ?_) (fun H' S' h' => ?_)
    · obtain ⟨j, hj, rfl⟩ : ∃ j : Nat, j ∈ trn r ss o ∧ x = (j : Int) := by
        have := List.mem_of_getElem? hx
        obtain ⟨j, hj, e⟩ := List.mem_map.mp this
        exact ⟨j, hj, e.symm⟩
      have hjl := trn_lt hp' j hj
      have B' := B.mono (St.trans S')
      walk_at "rd"
      refine ⟨rfl, ?_⟩
      walk_at "rd"
      refine f_l T B' ?_
      walk_at "rd"
      refine g_ixT (SqT.of B'.ln) (at_int (by omega)) ?_
      exact hq H' (Same.refl _)
    · walk_at "rd"
      refine ⟨D, _, rfl, SqL.of h', ?_⟩
      walk_at "rd"
      have e : ls.getD o 0 + ((iI (trn r ss o)).map fun x => ls.getD x.toNat 0).sum = rch r ss ls o := by
        unfold rch iI
        rw [List.map_map]
        rfl
      rw [e]
      exact q H' (St.trans S')
/-! ### _check_beads, Beads.__init__ -/
def spChk : Sp := fun vs H Q _ => ∃ (ts tl : Addr) (ss ls : List Int), vs = [.ref ts, .ref tl] ∧ H ts = some (.tup (ss.map V.int)) ∧ H tl = some (.tup (ls.map V.int)) ∧ 0 < ss.length ∧ ls.length = ss.length ∧ ss.length ≤ 1000 ∧ (∀ x ∈ ss, 0 ≤ x) ∧ (∀ x ∈ ls, 1 ≤ x) ∧ Q .non H
theorem ok_chk (F : Fun K "_check_beads" "_check_beads" s__check_beads f fd) (T : Txt K mg A) : FnOk P w K mg base CX0 1 f fd ["strengths", "lengths"] spChk := by
  refine F.ok sc__check_beads (fun vs H Q E h => ?_) (fun cdv A1 outer s H vs Q E hr h => ?_)
  · obtain ⟨ts, tl, ss, ls, rfl, _⟩ := h
    rfl
  · obtain ⟨ts, tl, ss, ls, rfl, h1, h2, h0, hl, hn, hs, hx, q⟩ := h
    refine ⟨_, (pss_cons (ps_if (PW.pt (pw_or (pt_cmpR op_eq (pe_callB (call_lenK K) (by rfl) T.m_len PySem.boot_len (pa_cons (pv 0) pa_nil)) pe_int (nomark _)) (pw_or1 (pt_cmpR op_ne (pe_callB (call_lenK K) (by rfl) T.m_len PySem.boot_len (pa_cons (pv 1) pa_nil)) (pe_callB (call_lenK K) (by rfl) T.m_len PySem.boot_len (pa_cons (pv 0) pa_nil)) (nomark _))))) (pss_one ps_never) pss_nil)
      (pss_one (ps_for (PassesOwn.never) rfl (pi_range1 rfl T.m_range (pa_cons (pe_callB (call_lenK K) (by rfl) T.m_len PySem.boot_len (pa_cons (pv 0) pa_nil)) pa_nil)) (pg_name (i := 2) sc__check_beads.nd rfl (Or.inl rfl)) (pss_one (ps_if (PW.pt (pw_or (pt_cmpR op_lt (pe_ix (ix_tupK K) (pv 0) (pv 2) (fun _ _ => rfl)) pe_int (nomark _)) (pw_or1 (pt_cmpR op_lt (pe_ix (ix_tupK K) (pv 1) (pv 2) (fun _ _ => rfl)) pe_int (nomark _))))) (pss_one ps_never) pss_nil))))), ?_⟩
    walk_at "rd"
    refine ⟨ts, _, rfl, .inr (SqT.of h1), ?_⟩
    rw [List.length_map]
    walk_at "rd"
    refine g_iff (decide_eq_false (by omega)) ?_
    walk_at "rd"
    refine ⟨tl, _, rfl, .inr (SqT.of h2), ?_⟩
    rw [List.length_map]
    walk_at "rd"
    refine ⟨ts, _, rfl, .inr (SqT.of h1), ?_⟩
    rw [List.length_map]
    walk_at "rd"
    refine g_iff (by rw [decide_eq_true (by omega)]; rfl) ?_
    walk_at "rd"
    refine ⟨ts, _, rfl, .inr (SqT.of h1), ?_⟩
    rw [List.length_map]
    walk_at "rd"
    refine ⟨_, rfl, by omega, by omega, for_range (lo := 0) (fun i σ H' => ∃ v2 : Option V, σ = [some (.ref ts), some (.ref tl), v2] ∧ H' = H) ⟨none, rfl, rfl⟩ ?_ ?_⟩
    · rintro i σ H' hi ⟨v2, rfl, rfl⟩
      have hi' : i < ss.length := by simpa using hi
      rw [Int.zero_add]
      walk_at "rd"
      refine g_ixT (SqT.of h1) (at_int hi') ?_
      walk_at "rd"
      have a1 := hs _ (getD_mem hi')
      have a2 := hx _ (getD_mem (l := ls) (i := i) (by omega))
      refine g_iff (decide_eq_false (by omega)) ?_
      walk_at "rd"
      refine g_ixT (SqT.of h2) (at_int (by omega)) ?_
      walk_at "rd"
      refine g_iff (decide_eq_false (by omega)) ?_
      walk_at "rd"
      exact ⟨_, rfl, rfl⟩
    · rintro σ H' ⟨v2, rfl, rfl⟩
      walk_at "rd"
      exact q
/-- a new standing of two lists -/
def spInit (K : PySem.W.Frag) (A : Ad) : Sp := fun vs H Q _ => ∃ (b dx sa la : Addr) (r : Bool) (ss ls : List Int), vs = [.ref b, .ref sa, .ref la, .bl r] ∧ H b = some (.ins A.Beads dx []) ∧ SqL K H sa (ss.map V.int) ∧ SqL K H la (ls.map V.int) ∧
  0 < ss.length ∧ ls.length = ss.length ∧ ss.length ≤ 1000 ∧ (∀ x ∈ ss, 0 ≤ x) ∧ (∀ x ∈ ls, 1 ≤ x) ∧ ∀ (ts tl : Addr) (H' : Hp), (∀ a o, a ≠ b → H a = some o → H' a = some o) → BAt A.Beads H' b ts tl r ss ls → Q .non H'
theorem ok_init (F : FunD K "__init__" "Beads.__init__" (defArgs s_Beads_init) (defBody s_Beads_init) (defScope s_Beads_init) [V.non] [("ring", V.bl true)] f fd) (T : Txt K mg A) (D__check_beads : DefOk P w K mg base CX0 1 "_check_beads" ["strengths", "lengths"] spChk) :
    FnOk P w K mg base CX0 2 f fd ["self", "strengths", "lengths", "ring"] (spInit K A) := by
  refine F.ok (CX := CX0) sc_Beads_init (fun vs H Q E h => ?_) (fun cdv A1 outer s H vs Q E hr h => ?_)
  · obtain ⟨b, dx, sa, la, r, ss, ls, rfl, _⟩ := h
    rfl
  · obtain ⟨b, dx, sa, la, r, ss, ls, rfl, hb, hs, hl, h0, hlen, hn, h1, h2, q⟩ := h
    refine ⟨_, (pss_cons (ps_fldK K (pv 0) (pe_callTy (call_tupleK K) (by rfl) T.m_tuple (by decide +kernel) (pa_cons (pv 1) pa_nil)) rfl)
      (pss_cons (ps_fldK K (pv 0) (pe_ifExp (pt_cmpR op_isN (pv 2) pe_non (nomark _)) (pe_op (op_repTK K) (pe_tup (pa_cons pe_int pa_nil)) (pe_callB (call_lenK K) (by rfl) T.m_len PySem.boot_len (pa_cons (pv 1) pa_nil))) (pe_callTy (call_tupleK K) (by rfl) T.m_tuple (by decide +kernel) (pa_cons (pv 2) pa_nil))) rfl)
      (pss_cons (ps_fldK K (pv 0) (pv 3) rfl)
      (pss_one (ps_expr (pe_callD D__check_beads (hr.mono (by decide)) pass0 (pa_cons (pe_fldK K (pv 0) rfl) (pa_cons (pe_fldK K (pv 0) rfl) pa_nil)))))))), ?_⟩
    walk_at "rd"
    refine ⟨sa, _, rfl, .inl ⟨hs, fun ts nts => ?_⟩⟩
    have nbt : b ≠ ts := ne_of_none hb nts
    walk_at "rd"
    refine ⟨b, _, dx, [], rfl, by rw [upd_ne nbt]; exact hb, T.cl, T.nS, by decide, ?_⟩
    walk_at "rd"
    have lift : ∀ (o o1 : HO), SqL K (upd (upd H ts o) b o1) la (ls.map V.int) := fun o o1 => by
      rcases hl with (h | ⟨z, h⟩) | h
      · have n1 : la ≠ ts := ne_of_none h nts
        have n2 : la ≠ b := fun e => by rw [e, hb] at h; cases h
        exact .inl (.inl (by rw [upd_ne n2, upd_ne n1]; exact h))
      · have n1 : la ≠ ts := ne_of_none h nts
        have n2 : la ≠ b := fun e => by rw [e, hb] at h; cases h
        exact .inl (.inr ⟨z, by rw [upd_ne n2, upd_ne n1]; exact h⟩)
      · exact .inr h
    refine ⟨la, _, rfl, .inl ⟨lift _ _, fun tl ntl => ?_⟩⟩
    have nbl : b ≠ tl := fun e => by rw [← e, upd_same] at ntl; cases ntl
    have ntl' : ts ≠ tl := fun e => by rw [← e, upd_ne nbt.symm, upd_same] at ntl; cases ntl
    walk_at "rd"
    refine ⟨b, _, dx, _, rfl, by rw [upd_ne nbl, upd_same], T.cl, T.nL, (by show 1 < 1000; decide), ?_⟩
    walk_at "rd"
    refine ⟨b, _, dx, _, rfl, upd_same, T.cl, T.nR, (Nat.lt_of_le_of_lt (length_putF _ _ _) (by show 1 + 1 < 1000; decide)), ?_⟩
    walk_at "rd"
    generalize hH : (upd (upd (upd (upd (upd H ts (.tup (ss.map V.int))) b _) tl (.tup (ls.map V.int))) b _) b _ : Hp) = H5
    have B5 : BAt A.Beads H5 b ts tl r ss ls := by
      refine ⟨⟨dx, by rw [← hH, upd_same]; rfl⟩, ?_, ?_⟩
      · rw [← hH, upd_ne nbt.symm, upd_ne nbt.symm, upd_ne ntl', upd_ne nbt.symm, upd_same]
      · rw [← hH, upd_ne nbl.symm, upd_ne nbl.symm, upd_same]
    have keep : ∀ a o, a ≠ b → H a = some o → H5 a = some o := fun a o nab ha => by
      have n1 : a ≠ ts := ne_of_none ha nts
      have n2 : a ≠ tl := fun z => by
        rw [← z, upd_ne nab, upd_ne n1, ha] at ntl; cases ntl
      rw [← hH, upd_ne nab, upd_ne nab, upd_ne n2, upd_ne nab, upd_ne n1]
      exact ha
    refine f_s T B5 ?_
    walk_at "rd"
    refine f_l T B5 ?_
    walk_at "rd"
    refine ⟨ts, tl, ss, ls, rfl, B5.st, B5.ln, h0, hlen, hn, h1, h2, ?_⟩
    walk_at "rd"
    exact q ts tl H5 keep B5
/-! ### is it a Beads -/
theorem g_isB (T : Txt K mg A) {H : Hp} {b ts tl : Addr} {r : Bool} {ss ls : List Int} {Q : VK} (B : BAt A.Beads H b ts tl r ss ls) (h : Q (.bl true) H) : rIsi K [.ref b, .ref A.Beads] H Q := by
  obtain ⟨dx, e⟩ := B.ob
  exact ⟨.ref b, .ref A.Beads, _, _, true, rfl, .own _, .base (.ins e T.cl T.iB1 T.iB2 T.iB3 T.iB4), T.iB5, h⟩
/-! ### _law_is_standing -/
def spStanding (K : PySem.W.Frag) (A : Ad) : Sp := fun vs H Q _ => ∃ (b ts tl la sa : Addr) (r : Bool) (ss ls : List Int), vs = [.ref b, .bl r, .ref la, .ref sa] ∧ BAt A.Beads H b ts tl r ss ls ∧ SqL K H la (ls.map V.int) ∧ SqL K H sa (ss.map V.int) ∧ ls.length ≤ 1000 ∧ ss.length ≤ 1000 ∧ Q (.bl true) H
theorem ok_standing (F : Fun K "_law_is_standing" "_law_is_standing" s__law_is_standing f fd) (T : Txt K mg A) (D__law_numbers : DefOk P w K mg base CX0 2 "_law_numbers" ["actual", "due", "as_tuple"] (Rt.spNumbers K)) : FnOk P w K mg base CX0 3 f fd ["actual", "round_flag", "sizes", "strengths"] (spStanding K A) := by
  refine F.ok sc__law_is_standing (fun vs H Q E h => ?_) (fun cdv A1 outer s H vs Q E hr h => ?_)
  · obtain ⟨b, ts, tl, la, sa, r, ss, ls, rfl, _⟩ := h
    rfl
  · obtain ⟨b, ts, tl, la, sa, r, ss, ls, rfl, B, hl, hs, nl, ns, q⟩ := h
    refine ⟨_, (pss_cons (ps_if (PW.pt (pw_or (pt_not (pt_val (pe_callB (call_isiQ K) (by rfl) T.m_isinstance (by decide +kernel) (pa_cons (pv 0) (pa_cons (pe_glob (v := .ref A.Beads) rfl T.g_Beads rfl) pa_nil))))) (pw_or (pt_not (pt_val (pe_callB (call_isiQ K) (by rfl) T.m_isinstance (by decide +kernel) (pa_cons (pe_fldK K (pv 0) rfl) (pa_cons (pe_bltn (v := .ty "bool") (by rfl) T.m_bool (by decide +kernel) rfl) pa_nil))))) (pw_or1 (pt_cmpR op_ne (pe_fldK K (pv 0) rfl) (pv 1) (nomark _)))))) (pss_one (ps_ret pe_bl)) pss_nil)
      (pss_one (ps_ret (pe_and (pe_callD D__law_numbers (hr.mono (by decide)) pass0 (pa_cons (pe_fldK K (pv 0) rfl) (pa_cons (pv 2) (pa_cons pe_bl pa_nil)))) (pe_one (pe_callD D__law_numbers (hr.mono (by decide)) pass0 (pa_cons (pe_fldK K (pv 0) rfl) (pa_cons (pv 3) (pa_cons pe_bl pa_nil))))))))), ?_⟩
    walk_at "rd"
    refine g_isB T B ?_
    walk_at "rd"
    refine f_r T B ?_
    walk_at "rd"
    refine g_isi (b := true) (.base (.bl r)) (by decide +kernel) ?_
    walk_at "rd"
    refine f_r T B ?_
    walk_at "rd"
    refine g_iff (by rw [decide_eq_true rfl]; rfl) ?_
    walk_at "rd"
    refine f_l T B ?_
    walk_at "rd"
    refine ⟨tl, la, true, ls, ls, rfl, B.ln, hl, by omega, ?_⟩
    rw [decide_eq_true rfl]
    walk_at "rd"
    refine f_s T B ?_
    walk_at "rd"
    refine ⟨ts, sa, true, ss, ss, rfl, B.st, hs, by omega, ?_⟩
    rw [decide_eq_true rfl]
    exact q
/-! ### -/
end
end Rt
set_option Elab.async false
set_option linter.all false
set_option maxRecDepth 100000
set_option maxHeartbeats 4000000
namespace Rt
open PySem PySem.Spec L2
open PyProof.Rows (envOfC)
local macro_rules | `(tactic| walk_at "rd1") => `(tactic| (with_reducible first
  | refine g_var (by with_unfolding_all rfl) ?_
  | refine g_c ?_
  | refine g_op ?_
  | refine g_I0 ?_
  | refine g_eqI ?_
  | refine g_neI ?_
  | refine g_eqB ?_
  | refine g_neB ?_
  | refine g_cons ?_
  | refine g_nil ?_
  | refine g_seq ?_
  | refine g_asg ?_
  | refine g_name ?_
  | refine g_ret ?_
  | refine g_retN ?_
  | refine g_drop ?_
  | refine g_next ?_
  | refine g_if ?_
  | refine g_test ?_
  | refine g_tB ?_
  | refine g_bl ?_
  | refine g_and ?_
  | refine g_or ?_
  | refine g_not ?_
  | refine g_andV ?_
  | refine g_orV ?_
  | refine g_notV ?_
  | refine g_ifE ?_
  | refine g_cb ?_
  | refine g_meth ?_
  | refine g_rev ?_
  | refine g_gcons ?_
  | refine g_gnil ?_
  | refine g_isB' ?_
  | refine g_gsub ?_
  | refine g_call ?_
  | refine g_callS ?_
  | refine g_bm ?_
  | refine g_un ?_
  | refine g_U ?_
  | refine g_chain ?_
  | refine g_sl ?_
  | refine g_brk ?_
  | refine g_ct ?_
  | refine g_ipI ?_
  | refine g_fld ?_
  | refine g_lst ?_
  | refine g_int ?_
  | refine g_for ?_
  | refine g_rg1 ?_
  | refine g_rg2 ?_
  | refine g_il ?_
  | refine g_it ?_
  | refine g_lc ?_
  | refine g_yes ?_
  | refine g_tup ?_
  | refine g_part ?_
  | refine g_xf ?_
  | refine g_nn ?_
  | refine g_mko ?_
  | refine g_lrg ?_
  | refine g_tr1 ?_
  | refine g_tr2 ?_
  | refine g_oi2 ?_
  | refine g_mk ?_
  | refine g_sfld ?_
  | refine g_ost ?_
  | refine g_oi ?_
  | refine g_nopart ?_
  | refine g_tt ?_
  | refine g_ff ?_
  | refine g_nt ?_
  | refine g_nf ?_
  | refine g_drn ?_
  | refine g_din ?_
  | refine g_dnn ?_
  | refine g_nrn ?_
  | refine g_nin ?_
  | refine g_nnn ?_))
local macro_rules | `(tactic| walk_at "rd") => `(tactic| (repeat walk_at "rd1"))

local macro_rules | `(tactic| walk_at "rd1") => `(tactic| (with_reducible first
  | refine g_lrev ?_
  | refine g_enum ?_
  | refine g_ckw ?_
  | refine g_max2 ?_
  | refine g_min2 ?_))
section
variable {P : Program} {w : World} {K : PySem.W.Frag} {mg : Str → Option Value} {base : Heap} {f : Addr} {fd : FuncData} {A : Ad}
/-! ### a standing, in numbers -/
structure StOk (ss ls : List Int) : Prop where
  n0 : 0 < ss.length
  n1 : ss.length ≤ 1000
  len : ls.length = ss.length
  s0 : ∀ x ∈ ss, 0 ≤ x
  l1 : ∀ x ∈ ls, 1 ≤ x
theorem StOk.pos {ss ls : List Int} (h : StOk ss ls) : Pos' ss ls := ⟨h.len, fun o ho => h.l1 _ (getD_mem (by rw [h.len]; exact ho))⟩
theorem StOk.rnd {ss ls : List Int} (r : Bool) (h : StOk ss ls) : StOk (rnd r ls ss) ls where
  n0 := by rw [rnd_len]; exact h.n0
  n1 := by rw [rnd_len]; exact h.n1
  len := by rw [rnd_len]; exact h.len
  s0 := fun x hx => by
    obtain ⟨p, hp, rfl⟩ := List.mem_map.mp hx
    have hp' := List.mem_range.mp hp
    have a := h.pos.pos p hp'
    have b := sm_ge0 (ls := ls) (trn r ss p) fun o ho => by have := h.pos.pos o (trn_lt hp' o ho); omega
    rw [rch_eq]; omega
  l1 := h.l1
theorem StOk.row {ss ls : List Int} (r : Bool) (h : StOk ss ls) : ∀ k, StOk (row r ls ss k) ls
  | 0 => h
  | k + 1 => (h.row r k).rnd r
/-! ### Beads.__init__ : a new standing of two tuples, of a list and a tuple -/
def spInitX (A : Ad) (c : Bool) : Sp := fun vs H Q _ => ∃ (b dx sa tl : Addr) (r : Bool) (ss ls : List Int), vs = [.ref b, .ref sa, .ref tl, .bl r] ∧ H b = some (.ins A.Beads dx []) ∧ H sa = some (if c = true then .tup (ss.map V.int) else .lst (ss.map V.int)) ∧ H tl = some (.tup (ls.map V.int)) ∧ StOk ss ls ∧
  ∀ (ts : Addr) (H' : Hp), (c = true → ts = sa) → (∀ a o, a ≠ b → H a = some o → H' a = some o) → BAt A.Beads H' b ts tl r ss ls → Q .non H'
theorem ok_initT (F : FunD K "__init__" "Beads.__init__" (defArgs s_Beads_init) (defBody s_Beads_init) (defScope s_Beads_init) [V.non] [("ring", V.bl true)] f fd) (T : Txt K mg A) (D__check_beads : DefOk P w K mg base CX0 1 "_check_beads" ["strengths", "lengths"] spChk) :
    FnOk P w K mg base CX0 2 f fd ["self", "strengths", "lengths", "ring"] (spInitX A true) := by
  refine F.ok (CX := CX0) sc_Beads_init (fun vs H Q E h => ?_) (fun cdv A1 outer s H vs Q E hr h => ?_)
  · obtain ⟨b, dx, sa, la, r, ss, ls, rfl, _⟩ := h
    rfl
  · obtain ⟨b, dx, ts, tl, r, ss, ls, rfl, hb, hs, hl, ok, q⟩ := h
    have hs : H ts = some (.tup (ss.map V.int)) := hs
    have n1 : ts ≠ b := fun z => by rw [z, hb] at hs; cases hs
    have n2 : tl ≠ b := fun z => by rw [z, hb] at hl; cases hl
    refine ⟨_, (pss_cons (ps_fldK K (pv 0) (pe_callTy (call_tupleK K) (by rfl) T.m_tuple (by decide +kernel) (pa_cons (pv 1) pa_nil)) rfl)
      (pss_cons (ps_fldK K (pv 0) (pe_ifExp (pt_cmpR op_isN (pv 2) pe_non (nomark _)) (pe_op (op_repTK K) (pe_tup (pa_cons pe_int pa_nil)) (pe_callB (call_lenK K) (by rfl) T.m_len PySem.boot_len (pa_cons (pv 1) pa_nil))) (pe_callTy (call_tupleK K) (by rfl) T.m_tuple (by decide +kernel) (pa_cons (pv 2) pa_nil))) rfl)
      (pss_cons (ps_fldK K (pv 0) (pv 3) rfl)
      (pss_one (ps_expr (pe_callD D__check_beads (hr.mono (by decide)) pass0 (pa_cons (pe_fldK K (pv 0) rfl) (pa_cons (pe_fldK K (pv 0) rfl) pa_nil)))))))), ?_⟩
    walk_at "rd"
    refine ⟨ts, _, rfl, .inr ⟨SqT.of hs, ?_⟩⟩
    walk_at "rd"
    refine ⟨b, _, dx, [], rfl, hb, T.cl, T.nS, by decide, ?_⟩
    walk_at "rd"
    refine ⟨tl, _, rfl, .inr ⟨SqT.of (by rw [upd_ne n2]; exact hl), ?_⟩⟩
    walk_at "rd"
    refine ⟨b, _, dx, _, rfl, upd_same, T.cl, T.nL, (by show 1 < 1000; decide), ?_⟩
    walk_at "rd"
    refine ⟨b, _, dx, _, rfl, upd_same, T.cl, T.nR, (Nat.lt_of_le_of_lt (length_putF _ _ _) (by show 1 + 1 < 1000; decide)), ?_⟩
    walk_at "rd"
    generalize hH : (upd (upd (upd H b _) b _) b _ : Hp) = H5
    have B5 : BAt A.Beads H5 b ts tl r ss ls := by
      refine ⟨⟨dx, by rw [← hH, upd_same]; rfl⟩, ?_, ?_⟩
      · rw [← hH, upd_ne n1, upd_ne n1, upd_ne n1]; exact hs
      · rw [← hH, upd_ne n2, upd_ne n2, upd_ne n2]; exact hl
    have keep : ∀ a o, a ≠ b → H a = some o → H5 a = some o := fun a o nab ha => by
      rw [← hH, upd_ne nab, upd_ne nab, upd_ne nab]
      exact ha
    refine f_s T B5 ?_
    walk_at "rd"
    refine f_l T B5 ?_
    walk_at "rd"
    refine ⟨ts, tl, ss, ls, rfl, B5.st, B5.ln, ok.n0, ok.len, ok.n1, ok.s0, ok.l1, ?_⟩
    walk_at "rd"
    exact q ts H5 (fun _ => rfl) keep B5
theorem ok_initM (F : FunD K "__init__" "Beads.__init__" (defArgs s_Beads_init) (defBody s_Beads_init) (defScope s_Beads_init) [V.non] [("ring", V.bl true)] f fd) (T : Txt K mg A) (D__check_beads : DefOk P w K mg base CX0 1 "_check_beads" ["strengths", "lengths"] spChk) :
    FnOk P w K mg base CX0 2 f fd ["self", "strengths", "lengths", "ring"] (spInitX A false) := by
  refine F.ok (CX := CX0) sc_Beads_init (fun vs H Q E h => ?_) (fun cdv A1 outer s H vs Q E hr h => ?_)
  · obtain ⟨b, dx, sa, la, r, ss, ls, rfl, _⟩ := h
    rfl
  · obtain ⟨b, dx, sa, tl, r, ss, ls, rfl, hb, hs, hl, ok, q⟩ := h
    have hs : H sa = some (.lst (ss.map V.int)) := hs
    have n2 : tl ≠ b := fun z => by rw [z, hb] at hl; cases hl
    refine ⟨_, (pss_cons (ps_fldK K (pv 0) (pe_callTy (call_tupleK K) (by rfl) T.m_tuple (by decide +kernel) (pa_cons (pv 1) pa_nil)) rfl)
      (pss_cons (ps_fldK K (pv 0) (pe_ifExp (pt_cmpR op_isN (pv 2) pe_non (nomark _)) (pe_op (op_repTK K) (pe_tup (pa_cons pe_int pa_nil)) (pe_callB (call_lenK K) (by rfl) T.m_len PySem.boot_len (pa_cons (pv 1) pa_nil))) (pe_callTy (call_tupleK K) (by rfl) T.m_tuple (by decide +kernel) (pa_cons (pv 2) pa_nil))) rfl)
      (pss_cons (ps_fldK K (pv 0) (pv 3) rfl)
      (pss_one (ps_expr (pe_callD D__check_beads (hr.mono (by decide)) pass0 (pa_cons (pe_fldK K (pv 0) rfl) (pa_cons (pe_fldK K (pv 0) rfl) pa_nil)))))))), ?_⟩
    walk_at "rd"
    refine ⟨sa, _, rfl, .inl ⟨SqL.of hs, fun ts nts => ?_⟩⟩
    have nbt : b ≠ ts := ne_of_none hb nts
    have n3 : tl ≠ ts := ne_of_none hl nts
    walk_at "rd"
    refine ⟨b, _, dx, [], rfl, by rw [upd_ne nbt]; exact hb, T.cl, T.nS, by decide, ?_⟩
    walk_at "rd"
    refine ⟨tl, _, rfl, .inr ⟨SqT.of (by rw [upd_ne n2, upd_ne n3]; exact hl), ?_⟩⟩
    walk_at "rd"
    refine ⟨b, _, dx, _, rfl, upd_same, T.cl, T.nL, (by show 1 < 1000; decide), ?_⟩
    walk_at "rd"
    refine ⟨b, _, dx, _, rfl, upd_same, T.cl, T.nR, (Nat.lt_of_le_of_lt (length_putF _ _ _) (by show 1 + 1 < 1000; decide)), ?_⟩
    walk_at "rd"
    generalize hH : (upd (upd (upd (upd H ts _) b _) b _) b _ : Hp) = H5
    have B5 : BAt A.Beads H5 b ts tl r ss ls := by
      refine ⟨⟨dx, by rw [← hH, upd_same]; rfl⟩, ?_, ?_⟩
      · rw [← hH, upd_ne nbt.symm, upd_ne nbt.symm, upd_ne nbt.symm, upd_same]
      · rw [← hH, upd_ne n2, upd_ne n2, upd_ne n2, upd_ne n3]; exact hl
    have keep : ∀ a o, a ≠ b → H a = some o → H5 a = some o := fun a o nab ha => by
      rw [← hH, upd_ne nab, upd_ne nab, upd_ne nab, upd_ne (ne_of_none ha nts)]
      exact ha
    refine f_s T B5 ?_
    walk_at "rd"
    refine f_l T B5 ?_
    walk_at "rd"
    refine ⟨ts, tl, ss, ls, rfl, B5.st, B5.ln, ok.n0, ok.len, ok.n1, ok.s0, ok.l1, ?_⟩
    walk_at "rd"
    exact q ts H5 (fun z => by cases z) keep B5
/-- a new standing, of two lists, of two tuples, of a list and a tuple -/
def spNew (K : PySem.W.Frag) (A : Ad) : Sp := fun vs H Q E => spInit K A vs H Q E ∨ (spInitX A true vs H Q E ∨ spInitX A false vs H Q E)
def gBeads (vs zs : List V) : List V := vs ++ zs
theorem mk_newL {H : Hp} {Q : VK} {E : XK} {g1 g2 : Addr} {r : Bool} {ss ls : List Int} (h1 : H g1 = some (.lst (ss.map V.int))) (h2 : H g2 = some (.lst (ls.map V.int))) (ok : StOk ss ls)
    (q : ∀ (x ts tl : Addr) (H' : Hp), H x = none → Same H H' → BAt A.Beads H' x ts tl r ss ls → Q (.ref x) H') : MakeK A.Beads (spNew K A) 2 1 gBeads E [.ref g1, .ref g2] [.bl r] H Q := by
  refine ⟨rfl, rfl, fun x dx nx ndx ne => ?_⟩
  have SM : Same H (upd (upd H dx (.own x)) x (.ins A.Beads dx [])) := (L2.Same.new ndx).trans (L2.Same.new (by rw [upd_ne ne.symm]; exact nx))
  exact .inl ⟨x, dx, g1, g2, r, ss, ls, rfl, upd_same, SqL.of (SM _ _ h1), SqL.of (SM _ _ h2), ok.n0, ok.len, ok.n1, ok.s0, ok.l1, fun ts tl H8 kp B => ⟨rfl, q x ts tl H8 nx (L2.Same.made nx ndx (fun b o h1 h2 => kp b o h2 h1)) B⟩⟩
theorem mk_newX {H : Hp} {Q : VK} {E : XK} {c : Bool} {g1 g2 : Addr} {r : Bool} {ss ls : List Int} (h1 : H g1 = some (if c = true then .tup (ss.map V.int) else .lst (ss.map V.int))) (h2 : H g2 = some (.tup (ls.map V.int))) (ok : StOk ss ls)
    (q : ∀ (x ts : Addr) (H' : Hp), H x = none → Same H H' → (c = true → ts = g1) → BAt A.Beads H' x ts g2 r ss ls → Q (.ref x) H') : MakeK A.Beads (spNew K A) 2 1 gBeads E [.ref g1, .ref g2] [.bl r] H Q := by
  refine ⟨rfl, rfl, fun x dx nx ndx ne => ?_⟩
  have SM : Same H (upd (upd H dx (.own x)) x (.ins A.Beads dx [])) := (L2.Same.new ndx).trans (L2.Same.new (by rw [upd_ne ne.symm]; exact nx))
  have goal : spInitX A c [.ref x, .ref g1, .ref g2, .bl r] (upd (upd H dx (.own x)) x (.ins A.Beads dx [])) (fun v H' => v = .non ∧ Q (.ref x) H') E :=
    ⟨x, dx, g1, g2, r, ss, ls, rfl, upd_same, SM _ _ h1, SM _ _ h2, ok, fun ts H8 ec kp B => ⟨rfl, q x ts H8 nx (L2.Same.made nx ndx (fun b o h1 h2 => kp b o h2 h1)) ec B⟩⟩
  cases c with
  | true => exact .inr (.inl goal)
  | false => exact .inr (.inr goal)
/-! ### -/
end
end Rt
set_option Elab.async false
set_option linter.all false
set_option maxRecDepth 100000
set_option maxHeartbeats 4000000
namespace Rt
open PySem PySem.Spec L2
open PyProof.Rows (envOfC)
open LamX (CodeO TabS Tabs TabB)
local macro_rules | `(tactic| walk_at "rd1") => `(tactic| (with_reducible first
  | refine g_var (by with_unfolding_all rfl) ?_
  | refine g_c ?_
  | refine g_op ?_
  | refine g_I0 ?_
  | refine g_eqI ?_
  | refine g_neI ?_
  | refine g_eqB ?_
  | refine g_neB ?_
  | refine g_cons ?_
  | refine g_nil ?_
  | refine g_seq ?_
  | refine g_asg ?_
  | refine g_name ?_
  | refine g_ret ?_
  | refine g_retN ?_
  | refine g_drop ?_
  | refine g_next ?_
  | refine g_if ?_
  | refine g_test ?_
  | refine g_tB ?_
  | refine g_bl ?_
  | refine g_and ?_
  | refine g_or ?_
  | refine g_not ?_
  | refine g_andV ?_
  | refine g_orV ?_
  | refine g_notV ?_
  | refine g_ifE ?_
  | refine g_cb ?_
  | refine g_meth ?_
  | refine g_rev ?_
  | refine g_gcons ?_
  | refine g_gnil ?_
  | refine g_isB' ?_
  | refine g_gsub ?_
  | refine g_call ?_
  | refine g_callS ?_
  | refine g_bm ?_
  | refine g_un ?_
  | refine g_U ?_
  | refine g_chain ?_
  | refine g_sl ?_
  | refine g_brk ?_
  | refine g_ct ?_
  | refine g_ipI ?_
  | refine g_fld ?_
  | refine g_lst ?_
  | refine g_int ?_
  | refine g_for ?_
  | refine g_rg1 ?_
  | refine g_rg2 ?_
  | refine g_il ?_
  | refine g_it ?_
  | refine g_lc ?_
  | refine g_yes ?_
  | refine g_tup ?_
  | refine g_part ?_
  | refine g_xf ?_
  | refine g_nn ?_
  | refine g_mko ?_
  | refine g_lrg ?_
  | refine g_tr1 ?_
  | refine g_tr2 ?_
  | refine g_oi2 ?_
  | refine g_mk ?_
  | refine g_sfld ?_
  | refine g_ost ?_
  | refine g_oi ?_
  | refine g_nopart ?_
  | refine g_tt ?_
  | refine g_ff ?_
  | refine g_nt ?_
  | refine g_nf ?_
  | refine g_drn ?_
  | refine g_din ?_
  | refine g_dnn ?_
  | refine g_nrn ?_
  | refine g_nin ?_
  | refine g_nnn ?_))
local macro_rules | `(tactic| walk_at "rd") => `(tactic| (repeat walk_at "rd1"))

local macro_rules | `(tactic| walk_at "rd1") => `(tactic| (with_reducible first
  | refine g_lam3 ?_))
section
variable {P : Program} {w : World} {K : PySem.W.Frag} {mg : Str → Option Value} {base : Heap} {f : Addr} {fd : FuncData} {A : Ad}
/-! ### check_handful -/
def spChkH (K : PySem.W.Frag) (A : Ad) : Sp := fun vs H Q E => ∃ (n : Int) (ha : Addr) (c : Bool) (qs : List Int), vs = [.int n, .ref ha] ∧ SqB K c H ha (qs.map V.int) ∧ (badQ n qs = none → Q .non H) ∧ (∀ q, badQ n qs = some q → BadP A H E q)
theorem ok_chkH (F : Fun K "check_handful" "check_handful" s_check_handful f fd) (T : Txt K mg A) (D_check_place : DefOk P w K mg base (L2N.CX P w) 4 "check_place" ["many", "place"] (spCheck A)) : FnOk P w K mg base (L2N.CX P w) 5 f fd ["many", "handful"] (spChkH K A) := by
  refine okN F sc_check_handful (fun vs H Q E h => ?_) (fun cdv A1 outer s H vs Q E hr h => ?_)
  · obtain ⟨n, ha, c, qs, rfl, _⟩ := h
    rfl
  · obtain ⟨n, ha, c, qs, rfl, hs, h1, h2⟩ := h
    refine ⟨_, (pss_one (ps_for (passes_ofN rfl) rfl (pi_or (pi_listK K (pv 1)) (pi_tupK K (pv 1))) (pg_name (i := 2) sc_check_handful.nd rfl (Or.inl rfl)) (pss_one (ps_expr (pe_callD D_check_place (hr.mono (by decide)) (passes_callN (takes_ofN rfl rfl rfl rfl)) (pa_cons (pv 0) (pa_cons (pv 2) pa_nil))))))), ?_⟩
    refine g_for ?_
    have turn : ∀ (i : Nat) (x : V) (σ : L2.St) (H' : Hp) (D : Ends), (qs.map V.int)[i]? = some x → (∃ v3 : Option V, σ = [some (.int n), some (.ref ha), v3] ∧ H' = H ∧ badQ n (qs.take i) = none) → (∀ σ2 H2, (∃ v3 : Option V, σ2 = [some (.int n), some (.ref ha), v3] ∧ H2 = H ∧ badQ n (qs.take (i + 1)) = none) → D.nx σ2 H2) →
        (tDrop (tCall (spCheck A) [] E (tCons (tVar 0) (tCons (tVar 2) tNil)))) D (σ.set 2 (some x)) H' := by
      rintro i x σ H' D hx ⟨v3, rfl, rfl, hb⟩ hD
      obtain ⟨li, rfl⟩ := map_at hx
      have st : badQ n (qs.take (i + 1)) = if 0 ≤ qs.getD i 0 ∧ qs.getD i 0 < n then none else some (qs.getD i 0) := by
        unfold badQ at hb ⊢
        rw [take_getD li, List.find?_append, hb, Option.none_or]
        by_cases z : 0 ≤ qs.getD i 0 ∧ qs.getD i 0 < n
        · rw [if_pos z, List.find?_cons, decide_eq_true z.1, decide_eq_true z.2]; rfl
        · rw [if_neg z, List.find?_cons]
          have : (!(decide (0 ≤ qs.getD i 0) && decide (qs.getD i 0 < n))) = true := by
            simp only [Bool.not_eq_true', Bool.and_eq_false_iff, decide_eq_false_iff_not]
            omega
          rw [this]
      walk_at "rd"
      refine ⟨n, qs.getD i 0, rfl, fun z => ?_, fun z => ?_⟩
      · rw [if_pos z] at st
        exact hD _ _ ⟨_, rfl, rfl, st⟩
      · rw [if_neg z] at st
        refine h2 _ ?_
        unfold badQ at st ⊢
        have e : qs.find? (fun q => !(decide (0 ≤ q) && decide (q < n))) = (qs.take (i + 1) ++ qs.drop (i + 1)).find? (fun q => !(decide (0 ≤ q) && decide (q < n))) := by rw [List.take_append_drop]
        rw [e, List.find?_append, st]; rfl
    have done : ∀ (i : Nat), i = qs.length → badQ n (qs.take i) = none → badQ n qs = none := fun i e h => by rw [e, List.take_length] at h; exact h
    cases c with
    | false =>
      refine .inl ?_
      walk_at "rd"
      refine ⟨ha, rfl, ⟨_, hs⟩, for_list (xs := qs.map V.int) (fun i σ H' => ∃ v3 : Option V, σ = [some (.int n), some (.ref ha), v3] ∧ H' = H ∧ badQ n (qs.take i) = none) ⟨none, rfl, rfl, rfl⟩ (fun i σ H' _ ⟨_, _, e, _⟩ => by rw [e]; exact hs) ?_ ?_⟩
      · rintro i x σ H' hx hP
        refine g_name ?_
        exact turn i x σ H' _ hx hP fun σ2 H2 z => z
      · rintro σ H' ⟨v3, rfl, rfl, hb⟩
        walk_at "rd"
        exact h1 (done _ (List.length_map _) hb)
    | true =>
      refine .inr ?_
      walk_at "rd"
      refine ⟨ha, rfl, ⟨_, hs⟩, for_tup (xs := qs.map V.int) (fun i σ H' => ∃ v3 : Option V, σ = [some (.int n), some (.ref ha), v3] ∧ H' = H ∧ badQ n (qs.take i) = none) ⟨none, rfl, rfl, rfl⟩ (fun i σ H' _ ⟨_, _, e, _⟩ => by rw [e]; exact hs) ?_ ?_⟩
      · rintro i x σ H' hx hP
        refine g_name ?_
        exact turn i x σ H' _ hx hP fun σ2 H2 z => z
      · rintro σ H' ⟨v3, rfl, rfl, hb⟩
        walk_at "rd"
        exact h1 (done _ (List.length_map _) hb)
/-! ### changes_at -/
def ttCh (K : PySem.W.Frag) : (V → Hp → VK → Prop) → V → V → Hp → VK → Prop := fun tl v1 v2 H Q => ∃ (sa ha : Addr) (ss : List Int) (c : Bool) (qs : List Int) (aft : Int → Int), v1 = .ref sa ∧ v2 = .ref ha ∧ SqT K H sa (ss.map V.int) ∧ SqB K c H ha (qs.map V.int) ∧ qs.length < 1000 ∧ (∀ q ∈ qs, 0 ≤ q ∧ q < (ss.length : Int)) ∧
  (∀ (q : Int) (H1 : Hp) (Q1 : VK), q ∈ qs → Same H H1 → (∀ H2, Same H1 H2 → Q1 (.int (aft q)) H2) → tl (.int q) H1 Q1) ∧
  ∀ (a : Addr) (xs : List V) (H' : Hp), H a = none → Same H H' → H' a = some (.lst xs) → RW (fun t => H t = none ∧ t ≠ a) true H' xs (chgL ss aft qs) → Q (.ref a) H'
theorem gives_chAt {g : Addr} (T : Txt K mg A) (cdv : Value) (A0 : Around) (stk : List Env) (q : Str) : Gives3 P w K mg base A0 stk ["strengths", "handful", "tell", "changes", "place", "before", "after"] "changes_at" (defScope s_changes_at) g cdv (defBody s_changes_at) "tell" q 0 (ttCh K) := by
  rintro f c' v1 v2 s H Q tl hr TL hco ⟨sa, ha, ss, c, qs, aft, rfl, rfl, hs, hh, h1000, hq, ht, k⟩
  refine ⟨_, (pss_cons (ps_set (i := 3) sc_changes_at.nd rfl (Or.inl rfl) (pe_lst pa_nil))
      (pss_cons (ps_for (PassesOwn.never) rfl (pi_listK K (pe_callB (cr_sortW (w := w) rfl) (by rfl) T.m_sorted (by decide +kernel) (pa_cons (pe_callTy (cr_or (cr_setL (w := w) K rfl) (cr_setT1 (w := w) K rfl)) (by rfl) T.m_set (by decide +kernel) (pa_cons (pv 1) pa_nil)) pa_nil))) (pg_name (i := 4) sc_changes_at.nd rfl (Or.inl rfl)) (pss_cons (ps_set (i := 5) sc_changes_at.nd rfl (Or.inl rfl) (pe_ix (ix_tupK K) (pv 0) (pv 4) (fun _ _ => rfl)))
      (pss_cons (ps_set (i := 6) sc_changes_at.nd rfl (Or.inl rfl) (TL _ _ _ _ (pa_cons (pv 4) pa_nil) rfl))
      (pss_one (ps_if (pt_cmpR op_ne (pv 6) (pv 5) (nomark _)) (pss_one (ps_expr (pe_appK K (pv 3) (pa_cons (pe_tup (pa_cons (pv 4) (pa_cons (pv 5) (pa_cons (pv 6) pa_nil)))) pa_nil)))) pss_nil)))))
      (pss_one (ps_ret (pv 3))))), ?_⟩
  walk_at "rd"
  refine newL fun ch H1 nch S1 hch => ?_
  walk_at "rd"
  refine g_setB (c := c) (SqB.mono S1 hh) h1000 fun S cc nS hcc => ?_
  walk_at "rd"
  refine ⟨S, _, cc, rfl, upd_same, by omega, fun vs a3 pw mem len na3 => ?_⟩
  have ev : vs = ascI qs := ascI_eq pw fun v => by rw [mem]; exact decide_eq_true_iff
  subst ev
  have S2 : Same H1 (upd H1 S (SetO w S (fun j => decide (j ∈ qs)) cc)) := Same.new nS
  have S3 : Same (upd H1 S (SetO w S (fun j => decide (j ∈ qs)) cc)) (upd (upd H1 S (SetO w S (fun j => decide (j ∈ qs)) cc)) a3 (.lst ((ascI qs).map V.int))) := Same.new na3
  have n3 : a3 ≠ ch := fun z => by rw [z, S2 _ _ hch] at na3; cases na3
  generalize hH3 : upd (upd H1 S (SetO w S (fun j => decide (j ∈ qs)) cc)) a3 (.lst ((ascI qs).map V.int)) = H3 at S3 ⊢
  have h3 : H3 a3 = some (.lst ((ascI qs).map V.int)) := by rw [← hH3, upd_same]
  have S13 : Same H1 H3 := S2.trans S3
  walk_at "rd"
  refine ⟨a3, rfl, ⟨_, SqL.of h3⟩, for_list (xs := (ascI qs).map V.int) (fun i σ H' => ∃ (v4 v5 v6 : Option V) (zs : List V), σ = [some (.ref sa), some (.ref ha), some (.ref f), some (.ref ch), v4, v5, v6] ∧ Same H H' ∧ H' a3 = some (.lst ((ascI qs).map V.int)) ∧ H' ch = some (.lst zs) ∧ RW (fun u => H u = none ∧ u ≠ ch) true H' zs (chgP ss aft qs i))
    ⟨none, none, none, [], rfl, S1.trans S13, h3, S13 _ _ hch, RW.nil⟩ (fun i σ H' _ ⟨_, _, _, _, _, _, e, _⟩ => SqL.of e) ?_ ?_⟩
  · rintro i x σ H' hx ⟨v4, v5, v6, zs, rfl, S', h3', hch', hP⟩
    obtain ⟨v, hv, rfl⟩ : ∃ v, (ascI qs)[i]? = some v ∧ x = V.int v := by
      rw [List.getElem?_map] at hx
      obtain ⟨v, a, b⟩ := Option.map_eq_some_iff.mp hx
      exact ⟨v, a, b.symm⟩
    have hvq : v ∈ qs := (ascI_mem qs).mp (List.mem_of_getElem? hv)
    obtain ⟨v0, v1⟩ := hq v hvq
    walk_at "rd"
    refine g_ixT (L2.Same.tup S' hs) (at_toNat v0 v1) ?_
    walk_at "rd"
    refine g_tell rfl ?_
    walk_at "rd"
    refine ⟨_, rfl, S' _ _ hco, ht v H' _ hvq S' fun H4 S4 => ?_⟩
    walk_at "rd"
    have st := chgP_step (ss := ss) (aft := aft) hv
    have hch4 := S4 _ _ hch'
    refine g_ite (fun e => ?_) (fun e => ?_)
    · have ne : ¬ aft v = ss.getD v.toNat 0 := by simpa using e
      rw [if_neg ne] at st
      walk_at "rd"
      refine ⟨ty_l hch4, ?_⟩
      walk_at "rd"
      refine newT fun u H5 nu S5 hu => ?_
      walk_at "rd"
      refine g_app (S5 _ _ hch4) (by rw [hP.len]; exact slt1000 (by have := chgP_len (ss := ss) (aft := aft) (qs := qs) i; omega)) ?_
      have S45 := S4.trans S5
      have uch : u ≠ ch := fun z => by rw [z, hch4] at nu; cases nu
      refine ⟨_, _, _, _, rfl, (S'.trans S45).mut nch, by rw [upd_ne n3]; exact S45 _ _ h3', upd_same, ?_⟩
      rw [st]
      exact ((hP.mono S45).more (row := [v, ss.getD v.toNat 0, aft v]) ⟨S'.free (S4.free nu), uch⟩ hu).upd fun t c => c.2
    · have eq : aft v = ss.getD v.toNat 0 := by simpa using e
      rw [if_pos eq, List.append_nil] at st
      walk_at "rd"
      exact ⟨_, _, _, zs, rfl, S'.trans S4, S4 _ _ h3', hch4, by rw [st]; exact hP.mono S4⟩
  · rintro σ H' ⟨v4, v5, v6, zs, rfl, S', h3', hch', hP⟩
    walk_at "rd"
    rw [List.length_map] at hP
    exact k ch zs H' nch S' hch' hP
/-! ### strengths_after -/
def spAfter (K : PySem.W.Frag) : Sp := fun vs H Q _ => ∃ (sa ca : Addr) (ss : List Int) (xs : List V) (l : List (List Int)), vs = [.ref sa, .ref ca] ∧ SqT K H sa (ss.map V.int) ∧ H ca = some (.lst xs) ∧ RW (fun _ => True) true H xs l ∧ (∀ row ∈ l, ∃ (p : Nat) (b a : Int), row = [(p : Int), b, a] ∧ p < ss.length) ∧
  ∀ (t : Addr) (H' : Hp), H t = none → Same H H' → H' t = some (.lst ((doC ss l).map V.int)) → Q (.ref t) H'
theorem ok_after (F : Fun K "strengths_after" "strengths_after" s_strengths_after f fd) (T : Txt K mg A) : FnOk P w K mg base CX0 1 f fd ["strengths", "changes"] (spAfter K) := by
  refine F.ok sc_strengths_after (fun vs H Q E h => ?_) (fun cdv A1 outer s H vs Q E hr h => ?_)
  · obtain ⟨sa, ca, ss, xs, l, rfl, _⟩ := h
    rfl
  · obtain ⟨sa, ca, ss, xs, l, rfl, hs, hc, hP, hl, q⟩ := h
    refine ⟨_, (pss_cons (ps_set (i := 2) sc_strengths_after.nd rfl (Or.inl rfl) (pe_callTy (call_listK K) (by rfl) T.m_list (by decide +kernel) (pa_cons (pv 0) pa_nil)))
      (pss_cons (ps_for (PassesOwn.never) rfl (pi_listK K (pv 1)) (pg_tup rfl (pgs_cons (pg_name (i := 3) sc_strengths_after.nd rfl (Or.inl rfl)) (pgs_cons (pg_name (i := 4) sc_strengths_after.nd rfl (Or.inl rfl)) (pgs_cons (pg_name (i := 5) sc_strengths_after.nd rfl (Or.inl rfl)) pgs_nil)))) (pss_one (ps_asg (pv 5) (pg_sub (pv 2) (pv 3) set_list))))
      (pss_one (ps_ret (pv 2))))), ?_⟩
    walk_at "rd"
    refine g_lo (.inr hs) fun t H1 nt S1 ht => ?_
    walk_at "rd"
    refine ⟨ca, rfl, ⟨_, SqL.of (S1 _ _ hc)⟩, for_list (xs := xs) (fun i σ H' => ∃ (v3 v4 v5 : Option V), σ = [some (.ref sa), some (.ref ca), some (.ref t), v3, v4, v5] ∧ Same H H' ∧ H' t = some (.lst ((doC ss (l.take i)).map V.int)))
      ⟨none, none, none, rfl, S1, ht⟩ (fun i σ H' _ ⟨_, _, _, _, S, _⟩ => SqL.of (S _ _ hc)) ?_ ?_⟩
    · rintro i x σ H' hx ⟨v3, v4, v5, rfl, S', ht'⟩
      obtain ⟨row, u, hrow, rfl, _, hu⟩ := hP.of hx
      obtain ⟨p, b, a, rfl, hp⟩ := hl row (List.mem_of_getElem? hrow)
      refine g_gtup (SqT.of (S' _ _ hu)) rfl ?_
      refine g_gcons ?_
      refine g_name ?_
      refine g_gcons ?_
      refine g_name ?_
      refine g_gcons ?_
      refine g_name ?_
      refine g_gnil ?_
      walk_at "rd"
      refine g_set ht' (by rw [doC_len]; exact hp) ?_
      refine ⟨_, _, _, rfl, S'.mut nt, ?_⟩
      rw [upd_same, take_more hrow, doC_app]; rfl
    · rintro σ H' ⟨v3, v4, v5, rfl, S', ht'⟩
      walk_at "rd"
      rw [hP.len, List.take_length] at ht'
      exact q t H' nt S' ht'
/-! ### changed -/
def spChanged (K : PySem.W.Frag) (A : Ad) : Sp := fun vs H Q _ => ∃ (b ts tl ca : Addr) (r : Bool) (ss ls : List Int) (xs : List V) (l : List (List Int)), vs = [.ref b, .ref ca] ∧ BAt A.Beads H b ts tl r ss ls ∧ StOk ss ls ∧ H ca = some (.lst xs) ∧ RW (fun _ => True) true H xs l ∧ (∀ row ∈ l, ∃ (p : Nat) (b a : Int), row = [(p : Int), b, a] ∧ p < ss.length) ∧ StOk (doC ss l) ls ∧
  ∀ (nb ts' : Addr) (H' : Hp), H nb = none → Same H H' → BAt A.Beads H' nb ts' tl r (doC ss l) ls → Q (.ref nb) H'
theorem ok_changed (F : Fun K "changed" "changed" s_changed f fd) (T : Txt K mg A) (D_strengths_after : DefOk P w K mg base CX0 1 "strengths_after" ["strengths", "changes"] (spAfter K)) (MK_Beads : CtorD P w K mg base CX0 2 "Beads" A.Beads 2 ["ring"] gBeads (spNew K A)) : FnOk P w K mg base CX0 4 f fd ["beads", "changes"] (spChanged K A) := by
  refine F.ok sc_changed (fun vs H Q E h => ?_) (fun cdv A1 outer s H vs Q E hr h => ?_)
  · obtain ⟨b, ts, tl, ca, r, ss, ls, xs, l, rfl, _⟩ := h
    rfl
  · obtain ⟨b, ts, tl, ca, r, ss, ls, xs, l, rfl, B, ok, hc, hP, hl, ok2, q⟩ := h
    refine ⟨_, (pss_one (ps_ret (pe_makeD MK_Beads (hr.mono (by decide)) pass0 (pa_cons (pe_callD D_strengths_after (hr.mono (by decide)) pass0 (pa_cons (pe_fldK K (pv 0) rfl) (pa_cons (pv 1) pa_nil))) (pa_cons (pe_fldK K (pv 0) rfl) pa_nil)) (pk_cons (pe_fldK K (pv 0) rfl) pk_nil)))), ?_⟩
    walk_at "rd"
    refine f_s T B ?_
    walk_at "rd"
    refine ⟨ts, ca, ss, xs, l, rfl, SqT.of B.st, hc, hP, hl, fun t H1 nt S1 ht => ?_⟩
    have B1 := B.mono S1
    walk_at "rd"
    refine f_l T B1 ?_
    walk_at "rd"
    refine f_r T B1 ?_
    walk_at "rd"
    refine mk_newX (c := false) (ss := doC ss l) ht B1.ln ok2 fun x ts' H' nx S' _ B' => ?_
    exact q x ts' H' (S1.free nx) (S1.trans S') B'
/-! ### changes_of -/
theorem BAt.monoT {H H' : Hp} {b ts tl : Addr} {r : Bool} {ss ls : List Int} (B : BAt A.Beads H b ts tl r ss ls) (S : SameT H H') : BAt A.Beads H' b ts tl r ss ls := by
  obtain ⟨dx, e⟩ := B.ob
  exact ⟨⟨dx, S.ins e⟩, S.tup B.st, S.tup B.ln⟩
def spChOf (K : PySem.W.Frag) (A : Ad) (TL : List (Addr × Str)) : Sp := fun vs H Q E => ∃ (b ts tl ha : Addr) (r : Bool) (ss ls : List Int) (c : Bool) (qs : List Int), vs = [.ref b, .ref ha] ∧ BAt A.Beads H b ts tl r ss ls ∧ StOk ss ls ∧ SqB K c H ha (qs.map V.int) ∧ qs.length < 1000 ∧ Tabs TL H ∧
  (badQ ss.length qs = none → ∀ (a : Addr) (xs : List V) (H' : Hp), H a = none → SameT H H' → Tabs TL H' → H' a = some (.lst xs) → RW (fun t => H t = none ∧ t ≠ a) true H' xs (chgL ss (fun q => rch r ss ls q.toNat) qs) → Q (.ref a) H') ∧ (∀ q, badQ ss.length qs = some q → BadP A H E q)
theorem ok_chOf {c Pt : Addr} {TL : List (Addr × Str)} (F : Fun K "changes_of" "changes_of" s_changes_of f fd) (T : Txt K mg A) (hc : codeAt K f c = true) (TB : TabB base mg c Pt) (LT : LamT TL Pt ((("changes_of" : Str) ++ ".<locals>.") ++ "<lambda>")) (LN : LenD P w K mg base A.Beads (spLen A))
    (D_check_handful : DefOk P w K mg base (L2N.CX P w) 5 "check_handful" ["many", "handful"] (spChkH K A)) (G_changes_at : GivesD P w K mg base 0 "changes_at" "tell" (ttCh K)) (D_reach_of : DefOk P w K mg base (L2N.CX P w) 6 "reach_of" ["beads", "place"] (spPl A RReach)) : FnOk P w K mg base (L2N.CX P w) 9 f fd ["beads", "handful"] (spChOf K A TL) := by
  refine okLN F sc_changes_of hc (fun vs H Q E h => ?_) (fun A1 outer s H vs Q E hr h => ?_)
  · obtain ⟨b, ts, tl, ha, r, ss, ls, c, qs, rfl, _⟩ := h
    rfl
  · obtain ⟨b, ts, tl, ha, r, ss, ls, cb, qs, rfl, B, ok, hs, h1000, hT, h1, h2⟩ := h
    have n1 := ok.n1
    refine ⟨_, (pss_cons (ps_expr (pe_callD D_check_handful (hr.mono (by decide)) (passes_callN (takes_ofN rfl rfl rfl rfl)) (pa_cons (pe_callB (call_lenD LN (hr.mono (by decide))) (by rfl) T.m_len PySem.boot_len (pa_cons (pv 0) pa_nil)) (pa_cons (pv 1) pa_nil))))
      (pss_one (ps_ret (pe_lamD (k := 6) G_changes_at (by decide) TB LT (hr.mono (by decide)) (lamP_by (a := "place") (show lamPB (defScope s_changes_of) _ _ = true from (by decide +kernel))) (show ¬ ("place" : Str) ∈ (["beads", "handful"] : List Str) from (by decide)) (pe_fldK K (pv 0) rfl) (pv 1) (fun _ _ _ _ _ _ hr => (by exact (pe_callD D_reach_of (hr.mono (by decide)) passN (pa_cons (pv 0) (pa_cons (pv 2) pa_nil))))))))), ?_⟩
    walk_at "rd"
    refine g_lenB B n1 ?_
    walk_at "rd"
    refine ⟨ss.length, ha, cb, qs, rfl, hs, fun z => ?_, fun q z => ?_⟩
    · walk_at "rd"
      refine f_s T B ?_
      walk_at "rd"
      refine ⟨hT, fun H3 S3 T3 => ?_⟩
      have B3 := B.monoT S3
      have hs3 : SqB K cb H3 ha (qs.map V.int) := by
        cases cb with
        | true => exact S3.sqt hs
        | false => exact S3.seq hs
      have good := good_of z
      refine ⟨ts, ha, ss, cb, qs, fun q => rch r ss ls q.toNat, rfl, rfl, SqT.of B3.st, hs3, h1000, good, fun q H4 Q4 hq S4 k4 => ?_, fun a xs H4 na S4 ha4 hP => ?_⟩
      · obtain ⟨q0, q1⟩ := good q hq
        walk_at "rd"
        refine ⟨b, ts, tl, r, ss, ls, q, rfl, B3.mono S4, ok.len, n1, fun _ => fun H5 S5 => k4 H5 S5, fun y => absurd ⟨q0, q1⟩ y⟩
      · exact h1 z a xs H4 (S3.free na) (S3.trans (SameT.of S4)) (T3.ext S4) ha4 (hP.weak fun t c => ⟨S3.free c.1, c.2⟩)
    · exact h2 q z
/-! ### -/
end
end Rt
set_option Elab.async false
set_option linter.all false
set_option maxRecDepth 100000
set_option maxHeartbeats 4000000
namespace Rt
open PySem PySem.Spec L2
open PyProof.Rows (envOfC)
open LamX (CodeO TabS Tabs TabB)
local macro_rules | `(tactic| walk_at "rd1") => `(tactic| (with_reducible first
  | refine g_var (by with_unfolding_all rfl) ?_
  | refine g_c ?_
  | refine g_op ?_
  | refine g_I0 ?_
  | refine g_eqI ?_
  | refine g_neI ?_
  | refine g_eqB ?_
  | refine g_neB ?_
  | refine g_cons ?_
  | refine g_nil ?_
  | refine g_seq ?_
  | refine g_asg ?_
  | refine g_name ?_
  | refine g_ret ?_
  | refine g_retN ?_
  | refine g_drop ?_
  | refine g_next ?_
  | refine g_if ?_
  | refine g_test ?_
  | refine g_tB ?_
  | refine g_bl ?_
  | refine g_and ?_
  | refine g_or ?_
  | refine g_not ?_
  | refine g_andV ?_
  | refine g_orV ?_
  | refine g_notV ?_
  | refine g_ifE ?_
  | refine g_cb ?_
  | refine g_meth ?_
  | refine g_rev ?_
  | refine g_gcons ?_
  | refine g_gnil ?_
  | refine g_isB' ?_
  | refine g_gsub ?_
  | refine g_call ?_
  | refine g_callS ?_
  | refine g_bm ?_
  | refine g_un ?_
  | refine g_U ?_
  | refine g_chain ?_
  | refine g_sl ?_
  | refine g_brk ?_
  | refine g_ct ?_
  | refine g_ipI ?_
  | refine g_fld ?_
  | refine g_lst ?_
  | refine g_int ?_
  | refine g_for ?_
  | refine g_rg1 ?_
  | refine g_rg2 ?_
  | refine g_il ?_
  | refine g_it ?_
  | refine g_lc ?_
  | refine g_yes ?_
  | refine g_tup ?_
  | refine g_part ?_
  | refine g_xf ?_
  | refine g_nn ?_
  | refine g_mko ?_
  | refine g_lrg ?_
  | refine g_tr1 ?_
  | refine g_tr2 ?_
  | refine g_oi2 ?_
  | refine g_mk ?_
  | refine g_sfld ?_
  | refine g_ost ?_
  | refine g_oi ?_
  | refine g_nopart ?_
  | refine g_tt ?_
  | refine g_ff ?_
  | refine g_nt ?_
  | refine g_nf ?_
  | refine g_drn ?_
  | refine g_din ?_
  | refine g_dnn ?_
  | refine g_nrn ?_
  | refine g_nin ?_
  | refine g_nnn ?_))
local macro_rules | `(tactic| walk_at "rd") => `(tactic| (repeat walk_at "rd1"))

section
variable {P : Program} {w : World} {K : PySem.W.Frag} {mg : Str → Option Value} {base : Heap} {f : Addr} {fd : FuncData} {A : Ad}
/-! ### -/
end
end Rt
set_option Elab.async false
set_option linter.all false
set_option maxRecDepth 100000
set_option maxHeartbeats 4000000
namespace Rt
open PySem PySem.Spec L2
open PyProof.Rows (envOfC)
open LamX (CodeO TabS Tabs TabB)
local macro_rules | `(tactic| walk_at "rd1") => `(tactic| (with_reducible first
  | refine g_var (by with_unfolding_all rfl) ?_
  | refine g_c ?_
  | refine g_op ?_
  | refine g_I0 ?_
  | refine g_eqI ?_
  | refine g_neI ?_
  | refine g_eqB ?_
  | refine g_neB ?_
  | refine g_cons ?_
  | refine g_nil ?_
  | refine g_seq ?_
  | refine g_asg ?_
  | refine g_name ?_
  | refine g_ret ?_
  | refine g_retN ?_
  | refine g_drop ?_
  | refine g_next ?_
  | refine g_if ?_
  | refine g_test ?_
  | refine g_tB ?_
  | refine g_bl ?_
  | refine g_and ?_
  | refine g_or ?_
  | refine g_not ?_
  | refine g_andV ?_
  | refine g_orV ?_
  | refine g_notV ?_
  | refine g_ifE ?_
  | refine g_cb ?_
  | refine g_meth ?_
  | refine g_rev ?_
  | refine g_gcons ?_
  | refine g_gnil ?_
  | refine g_isB' ?_
  | refine g_gsub ?_
  | refine g_call ?_
  | refine g_callS ?_
  | refine g_bm ?_
  | refine g_un ?_
  | refine g_U ?_
  | refine g_chain ?_
  | refine g_sl ?_
  | refine g_brk ?_
  | refine g_ct ?_
  | refine g_ipI ?_
  | refine g_fld ?_
  | refine g_lst ?_
  | refine g_int ?_
  | refine g_for ?_
  | refine g_rg1 ?_
  | refine g_rg2 ?_
  | refine g_il ?_
  | refine g_it ?_
  | refine g_lc ?_
  | refine g_yes ?_
  | refine g_tup ?_
  | refine g_part ?_
  | refine g_xf ?_
  | refine g_nn ?_
  | refine g_mko ?_
  | refine g_lrg ?_
  | refine g_tr1 ?_
  | refine g_tr2 ?_
  | refine g_oi2 ?_
  | refine g_mk ?_
  | refine g_sfld ?_
  | refine g_ost ?_
  | refine g_oi ?_
  | refine g_nopart ?_
  | refine g_tt ?_
  | refine g_ff ?_
  | refine g_nt ?_
  | refine g_nf ?_
  | refine g_drn ?_
  | refine g_din ?_
  | refine g_dnn ?_
  | refine g_nrn ?_
  | refine g_nin ?_
  | refine g_nnn ?_))
local macro_rules | `(tactic| walk_at "rd") => `(tactic| (repeat walk_at "rd1"))

section
variable {P : Program} {w : World} {K : PySem.W.Frag} {mg : Str → Option Value} {base : Heap} {f : Addr} {fd : FuncData} {A : Ad} {TL : List (Addr × Str)}
/-! ### run_order -/
/-- BadPlace(p) goes out, tables grown -/
def BadPT (A : Ad) (TL : List (Addr × Str)) (H : Hp) (E : XK) (p : Int) : Prop := ∀ d H', H d = none → SameT H H' → Tabs TL H' → H' d = some (.xd [("place", V.int p)]) → E (.ref A.BadPlace) (some d) H'
theorem BAt.updL {C : Addr} {H : Hp} {b ts tl ol : Addr} {r : Bool} {ss ls : List Int} {xs ys : List V} (h : BAt C H b ts tl r ss ls) (ho : H ol = some (.lst xs)) : BAt C (upd H ol (.lst ys)) b ts tl r ss ls := by
  obtain ⟨dx, e⟩ := h.ob
  have n1 : b ≠ ol := fun z => by rw [z, ho] at e; cases e
  have n2 : ts ≠ ol := fun z => by have := h.st; rw [z, ho] at this; cases this
  have n3 : tl ≠ ol := fun z => by have := h.ln; rw [z, ho] at this; cases this
  exact ⟨⟨dx, by rw [upd_ne n1]; exact e⟩, by rw [upd_ne n2]; exact h.st, by rw [upd_ne n3]; exact h.ln⟩
theorem BadPT.at_ {TL : List (Addr × Str)} {H H1 : Hp} {E : XK} {p : Int} (h : BadPT A TL H E p) (S : SameT H H1) (T1 : Tabs TL H1) : BadP A H1 E p := fun d H' n S' e => h d H' (S.free n) (S.trans (SameT.of S')) (T1.ext S') e
theorem StOk.wkS {ss ls : List Int} (r : Bool) (qs : List Int) (h : StOk ss ls) : StOk (wkS r ss ls qs) ls where
  n0 := by rw [wkS_len]; exact h.n0
  n1 := by rw [wkS_len]; exact h.n1
  len := by rw [wkS_len]; exact h.len
  s0 := fun x hx => by
    obtain ⟨k, hk, rfl⟩ := mem_getD hx
    rw [wkS_len] at hk
    rw [wkS_at hk]
    split
    · have a := h.pos.pos k hk
      have b := sm_ge0 (ls := ls) (trn r ss k) fun o ho => by have := h.pos.pos o (trn_lt hk o ho); omega
      rw [rch_eq]; omega
    · exact h.s0 _ (getD_mem hk)
  l1 := h.l1
theorem StOk.runS {r : Bool} {ls : List Int} : ∀ (hs : List (List Int)) {ss : List Int}, StOk ss ls → StOk (runS r ls ss hs) ls
  | [], _, h => h
  | a :: hs, _, h => StOk.runS hs (h.wkS r a)
def spRunO (K : PySem.W.Frag) (A : Ad) (TL : List (Addr × Str)) : Sp := fun vs H Q E => ∃ (b ts tl oa : Addr) (r c : Bool) (ss ls : List Int) (xs : List V) (hs : List (List Int)), vs = [.ref b, .ref oa] ∧ BAt A.Beads H b ts tl r ss ls ∧ StOk ss ls ∧ SqB K c H oa xs ∧ HBs K H xs hs ∧ (∀ row ∈ hs, row.length < 1000) ∧ hs.length ≤ 900 ∧ Tabs TL H ∧
  ((∀ row ∈ hs, badQ ss.length row = none) → ∀ (t nb ts' la : Addr) (zs : List V) (H' : Hp), H t = none → H la = none → SameT H H' → Tabs TL H' → BAt A.Beads H' nb ts' tl r (runS r ls ss hs) ls → H' la = some (.lst zs) → LogA (fun a => H a = none ∧ a ≠ la) H' zs (logS r ls ss hs) → H' t = some (.tup [.ref nb, .ref la]) → Q (.ref t) H') ∧
  (∀ (i : Nat) (row : List Int) (q : Int), hs[i]? = some row → (∀ j, j < i → ∀ row', hs[j]? = some row' → badQ ss.length row' = none) → badQ ss.length row = some q → BadPT A TL H E q)
theorem ok_runO (F : Fun K "run_order" "run_order" s_run_order f fd) (T : Txt K mg A) (D_changes_of : DefOk P w K mg base (L2N.CX P w) 9 "changes_of" ["beads", "handful"] (spChOf K A TL)) (D_changed : DefOk P w K mg base CX0 4 "changed" ["beads", "changes"] (spChanged K A)) : FnOk P w K mg base (L2N.CX P w) 10 f fd ["beads", "order"] (spRunO K A TL) := by
  refine okN F sc_run_order (fun vs H Q E h => ?_) (fun cdv A1 outer s H vs Q E hr h => ?_)
  · obtain ⟨b, ts, tl, oa, r, c, ss, ls, xs, hs, rfl, _⟩ := h
    rfl
  · obtain ⟨b, ts, tl, oa, r, c, ss, ls, xs, hs, rfl, B, ok, ho, hB, h1000, h900, hT, hgood, hbad⟩ := h
    refine ⟨_, (pss_cons (ps_set (i := 2) sc_run_order.nd rfl (Or.inl rfl) (pv 0))
      (pss_cons (ps_set (i := 3) sc_run_order.nd rfl (Or.inl rfl) (pe_lst pa_nil))
      (pss_cons (ps_for (passes_ofN rfl) rfl (pi_or (pi_listK K (pv 1)) (pi_tupK K (pv 1))) (pg_name (i := 4) sc_run_order.nd rfl (Or.inl rfl)) (pss_cons (ps_set (i := 5) sc_run_order.nd rfl (Or.inl rfl) (pe_callD D_changes_of (hr.mono (by decide)) (passes_callN (takes_ofN rfl rfl rfl rfl)) (pa_cons (pv 2) (pa_cons (pv 4) pa_nil))))
      (pss_cons (ps_expr (pe_appK K (pv 3) (pa_cons (pe_tup (pa_cons (pe_callTy (call_tupleK K) (by rfl) T.m_tuple (by decide +kernel) (pa_cons (pe_callB (cr_sortW (w := w) rfl) (by rfl) T.m_sorted (by decide +kernel) (pa_cons (pe_callTy (cr_or (cr_setL (w := w) K rfl) (cr_setT1 (w := w) K rfl)) (by rfl) T.m_set (by decide +kernel) (pa_cons (pv 4) pa_nil)) pa_nil)) pa_nil)) (pa_cons (pv 5) pa_nil))) pa_nil)))
      (pss_one (ps_set (i := 2) sc_run_order.nd rfl (Or.inl rfl) (pe_callD D_changed (hr.mono (by decide)) pass0 (pa_cons (pv 2) (pa_cons (pv 5) pa_nil))))))))
      (pss_one (ps_ret (pe_tup (pa_cons (pv 2) (pa_cons (pv 3) pa_nil)))))))), ?_⟩
    walk_at "rd"
    refine newL fun la H1 nla S1 hla => ?_
    refine g_name ?_
    dsimp only
    refine g_seq ?_
    refine g_for ?_
    cases c with
    | false =>
      refine .inl ?_
      walk_at "rd"
      refine ⟨oa, rfl, ⟨_, (SameT.of S1).seq ho⟩, for_list (xs := xs) (fun i σ H' => ∃ (v4 v5 : Option V) (nb ts' : Addr) (zs : List V), σ = [some (.ref b), some (.ref oa), some (.ref nb), some (.ref la), v4, v5] ∧ SameT H H' ∧ Tabs TL H' ∧ BAt A.Beads H' nb ts' tl r (runS r ls ss (hs.take i)) ls ∧ H' la = some (.lst zs) ∧ LogA (fun a => H a = none ∧ a ≠ la) H' zs (logS r ls ss (hs.take i)) ∧ ∀ j, j < i → ∀ row', hs[j]? = some row' → badQ ss.length row' = none)
        ⟨none, none, b, ts, [], rfl, SameT.of S1, hT.ext S1, B.mono S1, hla, LogA.nil, fun j h => absurd h (Nat.not_lt_zero j)⟩ (fun i σ H' _ ⟨_, _, _, _, _, _, S, _⟩ => S.seq ho) ?_ ?_⟩
      · rintro i x σ H' hx ⟨v4, v5, nb, ts', zs, rfl, S', T', B', hla', hL, hg⟩
        obtain ⟨row, t, d, hrow, rfl, ht⟩ := (hB.monoT S').at_ hx
        have rowm := List.mem_of_getElem? hrow
        have r9 := h1000 row rowm
        have okr : StOk (runS r ls ss (hs.take i)) ls := StOk.runS _ ok
        have rl : (runS r ls ss (hs.take i)).length = ss.length := runS_len _
        have ll : zs.length ≤ 900 := by
          rw [hL.1, logS_len, List.length_take]; omega
        refine g_name ?_
        walk_at "rd"
        refine ⟨nb, ts', tl, t, r, _, ls, d, row, rfl, B', okr, ht, r9, T', fun z a ys H2 na S2 T2 hys hP => ?_, fun q z => ?_⟩
        · have good := good_of z
          walk_at "rd"
          have hla2 := S2.lst hla'
          refine ⟨ty_l hla2, ?_⟩
          walk_at "rd"
          refine g_setB (c := d) (ht.monoT S2) r9 fun e2 cc ne2 hcc => ?_
          walk_at "rd"
          refine ⟨e2, _, cc, rfl, upd_same, by omega, fun vs e3 pw mem len ne3 => ?_⟩
          have ev : vs = ascI row := ascI_eq pw fun v => by rw [mem]; exact decide_eq_true_iff
          subst ev
          have S3 : Same H2 (upd H2 e2 (SetO w e2 (fun j => decide (j ∈ row)) cc)) := Same.new ne2
          have S4 : Same (upd H2 e2 (SetO w e2 (fun j => decide (j ∈ row)) cc)) (upd (upd H2 e2 (SetO w e2 (fun j => decide (j ∈ row)) cc)) e3 (.lst ((ascI row).map V.int))) := Same.new ne3
          generalize hG : upd (upd H2 e2 (SetO w e2 (fun j => decide (j ∈ row)) cc)) e3 (.lst ((ascI row).map V.int)) = H4 at S4 ⊢
          have h3 : H4 e3 = some (.lst ((ascI row).map V.int)) := by rw [← hG, upd_same]
          have S24 := S3.trans S4
          clear hG
          walk_at "rd"
          refine ⟨e3, _, rfl, .inl ⟨SqL.of h3, fun pt npt => ?_⟩⟩
          have S5 : Same H4 (upd H4 pt (.tup ((ascI row).map V.int))) := Same.new npt
          generalize hG : upd H4 pt (.tup ((ascI row).map V.int)) = H5 at S5 ⊢
          have h5 : H5 pt = some (.tup ((ascI row).map V.int)) := by rw [← hG, upd_same]
          clear hG
          walk_at "rd"
          refine newT fun u H6 nu S6 hu => ?_
          walk_at "rd"
          have S26 := S24.trans (S5.trans S6)
          have SN := S'.trans S2
          have ext : ∀ {Y : Hp} {a : Addr}, Same H2 Y → Y a = none → H a = none ∧ a ≠ la := fun S n => ⟨SN.free (S.free n), fun z => by rw [z, S _ _ hla2] at n; cases n⟩
          have hla6 := S26 _ _ hla2
          have aok : H a = none ∧ a ≠ la := ⟨S'.free na, fun z => by rw [z, hla'] at na; cases na⟩
          have ent : EnA (fun a => H a = none ∧ a ≠ la) H6 (.ref u) (entS r ls (runS r ls ss (hs.take i)) row) := ⟨u, pt, a, ys, rfl, ext (S24.trans S5) nu, ext S24 npt, aok, hu, S6 _ _ h5, S26 _ _ hys, (hP.mono S26).weak fun t c => ⟨S'.free c.1, fun z => by have := c.1; rw [z, hla'] at this; cases this⟩⟩
          refine g_app hla6 (slt1000 (by omega)) ?_
          have S7 : SameT H (upd H6 la (.lst (zs ++ [V.ref u]))) := (SN.trans (SameT.of S26)).mut nla
          have T7 : Tabs TL (upd H6 la (.lst (zs ++ [V.ref u]))) := by
            exact Tabs.updL (T2.ext S26) hla6
          have hL7 := (((hL.monoT S2).mono S26).more ent).upd (a := la) (o := .lst (zs ++ [V.ref u])) fun t c => c.2
          have B7 := ((B'.monoT S2).mono S26).updL (ys := zs ++ [V.ref u]) hla6
          have hys7 : (upd H6 la (.lst (zs ++ [V.ref u]))) a = some (.lst ys) := by rw [upd_ne aok.2]; exact S26 _ _ hys
          have hP7 := ((hP.weak (M := fun t => t ≠ la) fun t c => fun z => by have := c.1; rw [z, hla'] at this; cases this).mono S26).upd (a := la) (o := .lst (zs ++ [V.ref u])) fun t c => c
          have hla7 : (upd H6 la (.lst (zs ++ [V.ref u]))) la = some (.lst (zs ++ [V.ref u])) := upd_same
          generalize upd H6 la (.lst (zs ++ [V.ref u])) = H7 at S7 T7 hL7 B7 hys7 hP7 hla7 ⊢
          walk_at "rd"
          refine ⟨nb, ts', tl, a, r, _, ls, ys, _, rfl, B7, okr, hys7, hP7.weak fun _ _ => trivial, ?_, ?_, fun nb2 ts2 H8 nnb S8 B8 => ?_⟩
          · rw [chg_wkS good]; exact chgR_row (Nat.le_refl _)
          · rw [doC_wkS good]; exact okr.wkS r row
          · rw [doC_wkS good] at B8
            refine ⟨_, _, nb2, ts2, _, rfl, S7.trans (SameT.of S8), T7.ext S8, ?_, S8 _ _ hla7, ?_, fun j hj row' hr' => ?_⟩
            · rw [take_more hrow, runS_app]; exact B8
            · rw [take_more hrow, logS_app]; exact hL7.mono S8
            · rcases Nat.lt_succ_iff_lt_or_eq.mp hj with y | y
              · exact hg j y row' hr'
              · rw [y, hrow] at hr'
                cases hr'
                rw [← rl]; exact z
        · exact (hbad i row q hrow hg (by rw [← rl]; exact z)).at_ S' T'
      · rintro σ H' ⟨v4, v5, nb, ts', zs, rfl, S', T', B', hla', hL, hg⟩
        have el : xs.length = hs.length := hB.1
        rw [el, List.take_of_length_le (Nat.le_refl _)] at B' hL
        walk_at "rd"
        refine newT fun u H2 nu S2 hu => ?_
        have allg : ∀ row ∈ hs, badQ ss.length row = none := fun row hr => by
          obtain ⟨j, hj⟩ := List.mem_iff_getElem?.mp hr
          exact hg j (by rw [el]; exact (List.getElem?_eq_some_iff.mp hj).1) row hj
        exact hgood allg u nb ts' la zs H2 (S'.free nu) nla (S'.trans (SameT.of S2)) (T'.ext S2) (B'.mono S2) (S2 _ _ hla') (hL.mono S2) hu
    | true =>
      refine .inr ?_
      walk_at "rd"
      refine ⟨oa, rfl, ⟨_, (SameT.of S1).sqt ho⟩, for_tup (xs := xs) (fun i σ H' => ∃ (v4 v5 : Option V) (nb ts' : Addr) (zs : List V), σ = [some (.ref b), some (.ref oa), some (.ref nb), some (.ref la), v4, v5] ∧ SameT H H' ∧ Tabs TL H' ∧ BAt A.Beads H' nb ts' tl r (runS r ls ss (hs.take i)) ls ∧ H' la = some (.lst zs) ∧ LogA (fun a => H a = none ∧ a ≠ la) H' zs (logS r ls ss (hs.take i)) ∧ ∀ j, j < i → ∀ row', hs[j]? = some row' → badQ ss.length row' = none)
        ⟨none, none, b, ts, [], rfl, SameT.of S1, hT.ext S1, B.mono S1, hla, LogA.nil, fun j h => absurd h (Nat.not_lt_zero j)⟩ (fun i σ H' _ ⟨_, _, _, _, _, _, S, _⟩ => S.sqt ho) ?_ ?_⟩
      · rintro i x σ H' hx ⟨v4, v5, nb, ts', zs, rfl, S', T', B', hla', hL, hg⟩
        obtain ⟨row, t, d, hrow, rfl, ht⟩ := (hB.monoT S').at_ hx
        have rowm := List.mem_of_getElem? hrow
        have r9 := h1000 row rowm
        have okr : StOk (runS r ls ss (hs.take i)) ls := StOk.runS _ ok
        have rl : (runS r ls ss (hs.take i)).length = ss.length := runS_len _
        have ll : zs.length ≤ 900 := by
          rw [hL.1, logS_len, List.length_take]; omega
        refine g_name ?_
        walk_at "rd"
        refine ⟨nb, ts', tl, t, r, _, ls, d, row, rfl, B', okr, ht, r9, T', fun z a ys H2 na S2 T2 hys hP => ?_, fun q z => ?_⟩
        · have good := good_of z
          walk_at "rd"
          have hla2 := S2.lst hla'
          refine ⟨ty_l hla2, ?_⟩
          walk_at "rd"
          refine g_setB (c := d) (ht.monoT S2) r9 fun e2 cc ne2 hcc => ?_
          walk_at "rd"
          refine ⟨e2, _, cc, rfl, upd_same, by omega, fun vs e3 pw mem len ne3 => ?_⟩
          have ev : vs = ascI row := ascI_eq pw fun v => by rw [mem]; exact decide_eq_true_iff
          subst ev
          have S3 : Same H2 (upd H2 e2 (SetO w e2 (fun j => decide (j ∈ row)) cc)) := Same.new ne2
          have S4 : Same (upd H2 e2 (SetO w e2 (fun j => decide (j ∈ row)) cc)) (upd (upd H2 e2 (SetO w e2 (fun j => decide (j ∈ row)) cc)) e3 (.lst ((ascI row).map V.int))) := Same.new ne3
          generalize hG : upd (upd H2 e2 (SetO w e2 (fun j => decide (j ∈ row)) cc)) e3 (.lst ((ascI row).map V.int)) = H4 at S4 ⊢
          have h3 : H4 e3 = some (.lst ((ascI row).map V.int)) := by rw [← hG, upd_same]
          have S24 := S3.trans S4
          clear hG
          walk_at "rd"
          refine ⟨e3, _, rfl, .inl ⟨SqL.of h3, fun pt npt => ?_⟩⟩
          have S5 : Same H4 (upd H4 pt (.tup ((ascI row).map V.int))) := Same.new npt
          generalize hG : upd H4 pt (.tup ((ascI row).map V.int)) = H5 at S5 ⊢
          have h5 : H5 pt = some (.tup ((ascI row).map V.int)) := by rw [← hG, upd_same]
          clear hG
          walk_at "rd"
          refine newT fun u H6 nu S6 hu => ?_
          walk_at "rd"
          have S26 := S24.trans (S5.trans S6)
          have SN := S'.trans S2
          have ext : ∀ {Y : Hp} {a : Addr}, Same H2 Y → Y a = none → H a = none ∧ a ≠ la := fun S n => ⟨SN.free (S.free n), fun z => by rw [z, S _ _ hla2] at n; cases n⟩
          have hla6 := S26 _ _ hla2
          have aok : H a = none ∧ a ≠ la := ⟨S'.free na, fun z => by rw [z, hla'] at na; cases na⟩
          have ent : EnA (fun a => H a = none ∧ a ≠ la) H6 (.ref u) (entS r ls (runS r ls ss (hs.take i)) row) := ⟨u, pt, a, ys, rfl, ext (S24.trans S5) nu, ext S24 npt, aok, hu, S6 _ _ h5, S26 _ _ hys, (hP.mono S26).weak fun t c => ⟨S'.free c.1, fun z => by have := c.1; rw [z, hla'] at this; cases this⟩⟩
          refine g_app hla6 (slt1000 (by omega)) ?_
          have S7 : SameT H (upd H6 la (.lst (zs ++ [V.ref u]))) := (SN.trans (SameT.of S26)).mut nla
          have T7 : Tabs TL (upd H6 la (.lst (zs ++ [V.ref u]))) := by
            exact Tabs.updL (T2.ext S26) hla6
          have hL7 := (((hL.monoT S2).mono S26).more ent).upd (a := la) (o := .lst (zs ++ [V.ref u])) fun t c => c.2
          have B7 := ((B'.monoT S2).mono S26).updL (ys := zs ++ [V.ref u]) hla6
          have hys7 : (upd H6 la (.lst (zs ++ [V.ref u]))) a = some (.lst ys) := by rw [upd_ne aok.2]; exact S26 _ _ hys
          have hP7 := ((hP.weak (M := fun t => t ≠ la) fun t c => fun z => by have := c.1; rw [z, hla'] at this; cases this).mono S26).upd (a := la) (o := .lst (zs ++ [V.ref u])) fun t c => c
          have hla7 : (upd H6 la (.lst (zs ++ [V.ref u]))) la = some (.lst (zs ++ [V.ref u])) := upd_same
          generalize upd H6 la (.lst (zs ++ [V.ref u])) = H7 at S7 T7 hL7 B7 hys7 hP7 hla7 ⊢
          walk_at "rd"
          refine ⟨nb, ts', tl, a, r, _, ls, ys, _, rfl, B7, okr, hys7, hP7.weak fun _ _ => trivial, ?_, ?_, fun nb2 ts2 H8 nnb S8 B8 => ?_⟩
          · rw [chg_wkS good]; exact chgR_row (Nat.le_refl _)
          · rw [doC_wkS good]; exact okr.wkS r row
          · rw [doC_wkS good] at B8
            refine ⟨_, _, nb2, ts2, _, rfl, S7.trans (SameT.of S8), T7.ext S8, ?_, S8 _ _ hla7, ?_, fun j hj row' hr' => ?_⟩
            · rw [take_more hrow, runS_app]; exact B8
            · rw [take_more hrow, logS_app]; exact hL7.mono S8
            · rcases Nat.lt_succ_iff_lt_or_eq.mp hj with y | y
              · exact hg j y row' hr'
              · rw [y, hrow] at hr'
                cases hr'
                rw [← rl]; exact z
        · exact (hbad i row q hrow hg (by rw [← rl]; exact z)).at_ S' T'
      · rintro σ H' ⟨v4, v5, nb, ts', zs, rfl, S', T', B', hla', hL, hg⟩
        have el : xs.length = hs.length := hB.1
        rw [el, List.take_of_length_le (Nat.le_refl _)] at B' hL
        walk_at "rd"
        refine newT fun u H2 nu S2 hu => ?_
        have allg : ∀ row ∈ hs, badQ ss.length row = none := fun row hr => by
          obtain ⟨j, hj⟩ := List.mem_iff_getElem?.mp hr
          exact hg j (by rw [el]; exact (List.getElem?_eq_some_iff.mp hj).1) row hj
        exact hgood allg u nb ts' la zs H2 (S'.free nu) nla (S'.trans (SameT.of S2)) (T'.ext S2) (B'.mono S2) (S2 _ _ hla') (hL.mono S2) hu
/-! ### -/
end
end Rt
set_option Elab.async false
set_option linter.all false
set_option maxRecDepth 100000
set_option maxHeartbeats 4000000
namespace Rt
open PySem PySem.Spec L2
open PyProof.Rows (envOfC)
open LamX (CodeO TabS Tabs TabB)
local macro_rules | `(tactic| walk_at "rd1") => `(tactic| (with_reducible first
  | refine g_var (by with_unfolding_all rfl) ?_
  | refine g_c ?_
  | refine g_op ?_
  | refine g_I0 ?_
  | refine g_eqI ?_
  | refine g_neI ?_
  | refine g_eqB ?_
  | refine g_neB ?_
  | refine g_cons ?_
  | refine g_nil ?_
  | refine g_seq ?_
  | refine g_asg ?_
  | refine g_name ?_
  | refine g_ret ?_
  | refine g_retN ?_
  | refine g_drop ?_
  | refine g_next ?_
  | refine g_if ?_
  | refine g_test ?_
  | refine g_tB ?_
  | refine g_bl ?_
  | refine g_and ?_
  | refine g_or ?_
  | refine g_not ?_
  | refine g_andV ?_
  | refine g_orV ?_
  | refine g_notV ?_
  | refine g_ifE ?_
  | refine g_cb ?_
  | refine g_meth ?_
  | refine g_rev ?_
  | refine g_gcons ?_
  | refine g_gnil ?_
  | refine g_isB' ?_
  | refine g_gsub ?_
  | refine g_call ?_
  | refine g_callS ?_
  | refine g_bm ?_
  | refine g_un ?_
  | refine g_U ?_
  | refine g_chain ?_
  | refine g_sl ?_
  | refine g_brk ?_
  | refine g_ct ?_
  | refine g_ipI ?_
  | refine g_fld ?_
  | refine g_lst ?_
  | refine g_int ?_
  | refine g_for ?_
  | refine g_rg1 ?_
  | refine g_rg2 ?_
  | refine g_il ?_
  | refine g_it ?_
  | refine g_lc ?_
  | refine g_yes ?_
  | refine g_tup ?_
  | refine g_part ?_
  | refine g_xf ?_
  | refine g_nn ?_
  | refine g_mko ?_
  | refine g_lrg ?_
  | refine g_tr1 ?_
  | refine g_tr2 ?_
  | refine g_oi2 ?_
  | refine g_mk ?_
  | refine g_sfld ?_
  | refine g_ost ?_
  | refine g_oi ?_
  | refine g_nopart ?_
  | refine g_tt ?_
  | refine g_ff ?_
  | refine g_nt ?_
  | refine g_nf ?_
  | refine g_drn ?_
  | refine g_din ?_
  | refine g_dnn ?_
  | refine g_nrn ?_
  | refine g_nin ?_
  | refine g_nnn ?_))
local macro_rules | `(tactic| walk_at "rd") => `(tactic| (repeat walk_at "rd1"))

section
variable {P : Program} {w : World} {K : PySem.W.Frag} {mg : Str → Option Value} {base : Heap} {f : Addr} {fd : FuncData} {A : Ad} {TL : List (Addr × Str)}
/-! ### what an entry's changes ask -/
def endB (ss : List Int) (row : List Int) : Bool := (decide (0 ≤ row.getD 0 0) && decide (row.getD 0 0 < (ss.length : Int))) && decide (ss.getD (row.getD 0 0).toNat 0 = row.getD 2 0)
def endsIn (l : List (List Int)) (ss : List Int) : Bool := l.all (endB ss)
theorem all_take {l : List (List Int)} {ss : List Int} {i : Nat} {row : List Int} (h : l[i]? = some row) : (l.take (i + 1)).all (endB ss) = ((l.take i).all (endB ss) && endB ss row) := by
  rw [take_more h, List.all_append]
  simp
/-! ### _ends_in -/
def spEnds (K : PySem.W.Frag) : Sp := fun vs H Q _ => ∃ (ca sa : Addr) (xs : List V) (l : List (List Int)) (ss : List Int), vs = [.ref ca, .ref sa] ∧ H ca = some (.lst xs) ∧ RW (fun _ => True) true H xs l ∧ (∀ row ∈ l, row.length = 3) ∧ H sa = some (.lst (ss.map V.int)) ∧ ss.length ≤ 1000 ∧ Q (.bl (endsIn l ss)) H
theorem ok_ends (F : Fun K "_ends_in" "_ends_in" s__ends_in f fd) (T : Txt K mg A) : FnOk P w K mg base CX0 1 f fd ["changes", "strengths"] (spEnds K) := by
  refine F.ok sc__ends_in (fun vs H Q E h => ?_) (fun cdv A1 outer s H vs Q E hr h => ?_)
  · obtain ⟨ca, sa, xs, l, ss, rfl, _⟩ := h
    rfl
  · obtain ⟨ca, sa, xs, l, ss, rfl, hc, hP, h3, hs, n1, q⟩ := h
    refine ⟨_, (pss_cons (ps_for (PassesOwn.never) rfl (pi_listK K (pv 0)) (pg_tup rfl (pgs_cons (pg_name (i := 2) sc__ends_in.nd rfl (Or.inl rfl)) (pgs_cons (pg_name (i := 3) sc__ends_in.nd rfl (Or.inl rfl)) (pgs_cons (pg_name (i := 4) sc__ends_in.nd rfl (Or.inl rfl)) pgs_nil)))) (pss_one (ps_if (PW.pt (pw_or (pt_not (pt_chain op_le op_lt pe_int (pv 2) (pe_callB (call_lenK K) (by rfl) T.m_len PySem.boot_len (pa_cons (pv 1) pa_nil)))) (pw_or1 (pt_cmpR op_ne (pe_ix (ix_listK K) (pv 1) (pv 2) (fun _ _ => rfl)) (pv 4) (nomark _))))) (pss_one (ps_ret pe_bl)) pss_nil)))
      (pss_one (ps_ret pe_bl))), ?_⟩
    walk_at "rd"
    refine ⟨ca, rfl, ⟨_, SqL.of hc⟩, for_list (xs := xs) (fun i σ H' => ∃ v2 v3 v4 : Option V, σ = [some (.ref ca), some (.ref sa), v2, v3, v4] ∧ H' = H ∧ (l.take i).all (endB ss) = true) ⟨none, none, none, rfl, rfl, rfl⟩ (fun i σ H' _ ⟨_, _, _, _, e, _⟩ => by rw [e]; exact SqL.of hc) ?_ ?_⟩
    · rintro i x σ H' hx ⟨v2, v3, v4, rfl, rfl, hall⟩
      obtain ⟨row, u, hrow, rfl, _, hu⟩ := hP.of hx
      have r3 := h3 row (List.mem_of_getElem? hrow)
      have no : endB ss row = false → endsIn l ss = false := fun z => by
        unfold endsIn
        rw [List.all_eq_false]
        exact ⟨row, List.mem_of_getElem? hrow, by rw [z]; exact Bool.false_ne_true⟩
      obtain ⟨p, b, a, rfl⟩ : ∃ p b a, row = [p, b, a] := by
        match row, r3 with
        | [p, b, a], _ => exact ⟨p, b, a, rfl⟩
      refine g_gtup (SqT.of hu) rfl ?_
      refine g_gcons ?_
      refine g_name ?_
      refine g_gcons ?_
      refine g_name ?_
      refine g_gcons ?_
      refine g_name ?_
      refine g_gnil ?_
      walk_at "rd"
      refine g_ite (fun e => ?_) (fun e => ?_)
      · have p0 := of_decide_eq_true e
        walk_at "rd"
        refine ⟨sa, _, rfl, .inl (SqL.of hs), ?_⟩
        rw [List.length_map]
        walk_at "rd"
        refine g_ite (fun e2 => ?_) (fun e2 => ?_)
        · walk_at "rd"
          have z : endB ss [p, b, a] = false := by
            unfold endB
            have : ¬ p < (ss.length : Int) := by simpa using e2
            show ((decide (0 ≤ p) && decide (p < (ss.length : Int))) && _) = false
            rw [decide_eq_false this]; simp
          rw [no z] at q
          exact q
        · have p1 : p < (ss.length : Int) := by simpa using e2
          walk_at "rd"
          obtain ⟨k, ek, hk⟩ : ∃ k : Nat, p = (k : Int) ∧ k < ss.length := ⟨p.toNat, by omega, by omega⟩
          subst ek
          refine g_ixL (SqL.of hs) (at_int hk) ?_
          walk_at "rd"
          have be : endB ss [(k : Int), b, a] = decide (ss.getD k 0 = a) := by
            unfold endB
            show ((decide (0 ≤ (k : Int)) && decide ((k : Int) < (ss.length : Int))) && decide (ss.getD ((k : Int)).toNat 0 = a)) = _
            rw [decide_eq_true p0, decide_eq_true p1, Int.toNat_natCast]; rfl
          refine g_ite (fun e3 => ?_) (fun e3 => ?_)
          · walk_at "rd"
            have z : endB ss [(k : Int), b, a] = false := by
              rw [be]
              cases c : decide (ss.getD k 0 = a) with
              | true => rw [c] at e3; cases e3
              | false => rfl
            rw [no z] at q
            exact q
          · walk_at "rd"
            have z : endB ss [(k : Int), b, a] = true := by
              rw [be]
              cases c : decide (ss.getD k 0 = a) with
              | false => rw [c] at e3; cases e3
              | true => rfl
            exact ⟨_, _, _, rfl, rfl, by rw [all_take hrow, hall, z]; rfl⟩
      · walk_at "rd"
        have z : endB ss [p, b, a] = false := by
          unfold endB
          have : ¬ 0 ≤ p := of_decide_eq_false e
          show ((decide (0 ≤ p) && decide (p < (ss.length : Int))) && _) = false
          rw [decide_eq_false this]; rfl
        rw [no z] at q
        exact q
    · rintro σ H' ⟨v2, v3, v4, rfl, rfl, hall⟩
      rw [hP.len, List.take_length] at hall
      walk_at "rd"
      unfold endsIn at q
      rw [hall] at q
      exact q
/-! ### BadLog -/
theorem ok_BadLog (F : Fun K "__init__" "BadLog.__init__" s_BadLog_init f fd) : FnOk P w K mg base CX0 1 f fd ["self", "index"] (spExc1 K A.BadLog "index") := by
  refine F.ok sc_BadLog_init (fun vs H Q E h => ?_) (fun cdv A1 outer s H vs Q E hr h => ?_)
  · obtain ⟨a, v, rfl, _⟩ := h
    rfl
  · obtain ⟨a, v, rfl, ha, T, no, q⟩ := h
    refine ⟨_, (pss_one (ps_ostK K (pv 0) (pv 1))), ?_⟩
    walk_at "rd"
    exact ⟨a, _, rfl, T, no, .inl ⟨ha, fun dx n ne => q dx n ne⟩⟩
/-- BadLog(i) goes out -/
def BadG (A : Ad) (H : Hp) (E : XK) (i : Int) : Prop := ∀ d H', H d = none → Same H H' → H' d = some (.xd [("index", V.int i)]) → E (.ref A.BadLog) (some d) H'
theorem BadG.mono {H H1 : Hp} {E : XK} {i : Int} (h : BadG A H E i) (S : Same H H1) : BadG A H1 E i := fun d H' n S' e => h d H' (S.free n) (S.trans S') e
/-! ### unwind -/
def undoL (ss : List Int) (l : List (List Int)) : List Int := l.foldl (fun s row => s.set (row.getD 0 0).toNat (row.getD 1 0)) ss
theorem undoL_len : ∀ (l : List (List Int)) {ss : List Int}, (undoL ss l).length = ss.length
  | [], _ => rfl
  | row :: l, ss => by
    show (undoL (ss.set _ _) l).length = _
    rw [undoL_len l, List.length_set]
theorem undoL_app {ss : List Int} {l : List (List Int)} {row : List Int} : undoL ss (l ++ [row]) = (undoL ss l).set (row.getD 0 0).toNat (row.getD 1 0) := by
  unfold undoL; rw [List.foldl_append]; rfl
theorem undoL_ok {ls : List Int} : ∀ (l : List (List Int)) {ss : List Int}, (∀ row ∈ l, 0 ≤ row.getD 1 0) → StOk ss ls → StOk (undoL ss l) ls
  | [], _, _, h => h
  | row :: l, ss, hb, h => undoL_ok l (fun r hr => hb r (List.mem_cons_of_mem _ hr)) ⟨by rw [List.length_set]; exact h.n0, by rw [List.length_set]; exact h.n1, by rw [List.length_set]; exact h.len, fun x hx => by
      rcases List.mem_or_eq_of_mem_set hx with z | z
      · exact h.s0 x z
      · rw [z]; exact hb row List.mem_cons_self, h.l1⟩
def unwF (L : List Ent) : Nat → List Int → Option Nat × List Int
  | 0, ss => (none, ss)
  | k + 1, ss => if endsIn (L.getD k ([], [])).2 ss = true then unwF L k (undoL ss (L.getD k ([], [])).2) else (some k, ss)
theorem unwF_step {L : List Ent} {k : Nat} {ss : List Int} : unwF L (k + 1) ss = if endsIn (L.getD k ([], [])).2 ss = true then unwF L k (undoL ss (L.getD k ([], [])).2) else (some k, ss) := rfl
def spUnw (K : PySem.W.Frag) (A : Ad) : Sp := fun vs H Q E => ∃ (b ts tl ga : Addr) (r : Bool) (ss ls : List Int) (xs : List V) (L : List Ent), vs = [.ref b, .ref ga] ∧ BAt A.Beads H b ts tl r ss ls ∧ StOk ss ls ∧ H ga = some (.lst xs) ∧ LogA (fun _ => True) H xs L ∧ (∀ e ∈ L, ∀ row ∈ e.2, row.length = 3 ∧ 0 ≤ row.getD 1 0) ∧ L.length ≤ 900 ∧
  (∀ es, unwF L L.length ss = (none, es) → ∀ (nb ts' : Addr) (H' : Hp), H nb = none → Same H H' → BAt A.Beads H' nb ts' tl r es ls → Q (.ref nb) H') ∧ (∀ (i : Nat) es, unwF L L.length ss = (some i, es) → BadG A H E (i : Nat))
theorem ok_unw (F : Fun K "unwind" "unwind" s_unwind f fd) (T : Txt K mg A) (D__ends_in : DefOk P w K mg base CX0 1 "_ends_in" ["changes", "strengths"] (spEnds K)) (MK_Beads : CtorD P w K mg base CX0 2 "Beads" A.Beads 2 ["ring"] gBeads (spNew K A)) (X_BadLog : ExcDef P w K mg base "BadLog" A.BadLog "index") : FnOk P w K mg base (L2N.CX P w) 5 f fd ["beads", "log"] (spUnw K A) := by
  refine okN F sc_unwind (fun vs H Q E h => ?_) (fun cdv A1 outer s H vs Q E hr h => ?_)
  · obtain ⟨b, ts, tl, ga, r, ss, ls, xs, L, rfl, _⟩ := h
    rfl
  · obtain ⟨b, ts, tl, ga, r, ss, ls, xs, L, rfl, B, ok, hg, hL, h3, h9, q1, q2⟩ := h
    have xl : xs.length = L.length := hL.1
    refine ⟨_, (pss_cons (ps_set (i := 2) sc_unwind.nd rfl (Or.inl rfl) (pe_callTy (call_listK K) (by rfl) T.m_list (by decide +kernel) (pa_cons (pe_fldK K (pv 0) rfl) pa_nil)))
      (pss_cons (ps_for (passes_ofN rfl) rfl (pi_revR (by rfl) T.m_reversed (prg_1 (by rfl) T.m_range (pe_callB (call_lenK K) (by rfl) T.m_len PySem.boot_len (pa_cons (pv 1) pa_nil)))) (pg_name (i := 3) sc_unwind.nd rfl (Or.inl rfl)) (pss_cons (ps_set (i := 4) sc_unwind.nd rfl (Or.inl rfl) (pe_ix (ix_tupK K) (pe_ix (ix_listK K) (pv 1) (pv 3) (fun _ _ => rfl)) pe_int (fun _ _ => rfl)))
      (pss_cons (ps_if (pt_not (pt_val (pe_callD D__ends_in (hr.mono (by decide)) pass0 (pa_cons (pv 4) (pa_cons (pv 2) pa_nil))))) (pss_one (L2N.ps_raise rfl (takes_ofN rfl rfl rfl rfl) (pmk_D X_BadLog (hr.mono (by decide)) (pa_cons (pv 3) pa_nil)))) pss_nil)
      (pss_one (ps_for (passes_ofN rfl) rfl (pi_listK K (pv 4)) (pg_tup rfl (pgs_cons (pg_name (i := 5) sc_unwind.nd rfl (Or.inl rfl)) (pgs_cons (pg_name (i := 6) sc_unwind.nd rfl (Or.inl rfl)) (pgs_cons (pg_name (i := 7) sc_unwind.nd rfl (Or.inl rfl)) pgs_nil)))) (pss_one (ps_asg (pv 6) (pg_sub (pv 2) (pv 5) set_list))))))))
      (pss_one (ps_ret (pe_makeD MK_Beads (hr.mono (by decide)) pass0 (pa_cons (pv 2) (pa_cons (pe_fldK K (pv 0) rfl) pa_nil)) (pk_cons (pe_fldK K (pv 0) rfl) pk_nil)))))), ?_⟩
    walk_at "rd"
    refine f_s T B ?_
    walk_at "rd"
    refine g_lo (.inr (SqT.of B.st)) fun sa H1 nsa S1 hsa => ?_
    walk_at "rd"
    refine ⟨ga, _, rfl, .inl (SqL.of (S1 _ _ hg)), ?_⟩
    rw [xl]
    walk_at "rd"
    refine ⟨by decide, by decide, by omega, by omega, ?_⟩
    have en : ((L.length : Int) - 0).toNat = L.length := by omega
    rw [en]
    refine for_down (fun i σ H' => ∃ (v3 v4 v5 v6 v7 : Option V) (es : List Int), σ = [some (.ref b), some (.ref ga), some (.ref sa), v3, v4, v5, v6, v7] ∧ Same H H' ∧ H' sa = some (.lst (es.map V.int)) ∧ StOk es ls ∧ es.length = ss.length ∧ unwF L (L.length - i) es = unwF L L.length ss)
      ⟨none, none, none, none, none, ss, rfl, S1, hsa, ok, rfl, rfl⟩ ?_ ?_
    · rintro i σ H' hi ⟨v3, v4, v5, v6, v7, es, rfl, S', hsa', oke, le, hu⟩
      obtain ⟨k, ek⟩ : ∃ k, L.length - i = k + 1 := ⟨L.length - i - 1, by omega⟩
      have kl : k < L.length := by omega
      rw [show (0 : Int) + (L.length : Int) - 1 + (i : Int) * -1 = ((k : Nat) : Int) by omega]
      obtain ⟨e, he⟩ : ∃ e, L[k]? = some e := ⟨L[k], List.getElem?_eq_getElem kl⟩
      have eD : L.getD k ([], []) = e := by rw [List.getD_eq_getElem?_getD, he]; rfl
      obtain ⟨x, hx, t, pa, ca, ys, rfl, _, _, _, ht0, hpa0, hca0, hR0⟩ := hL.at_ he
      have ht := S' _ _ ht0
      have hca := S' _ _ hca0
      have hR := hR0.mono S'
      have nca : ca ≠ sa := fun z => by rw [z, nsa] at hca0; cases hca0
      have e3 := h3 e (List.mem_of_getElem? he)
      rw [ek, unwF_step, eD] at hu
      refine g_name ?_
      walk_at "rd"
      refine g_ixL (SqL.of (S' _ _ hg)) (atI_nat hx) ?_
      walk_at "rd"
      refine g_ixT (SqT.of ht) (atI_nat (j := 1) (v := V.ref ca) rfl) ?_
      walk_at "rd"
      have n1 := oke.n1
      refine ⟨ca, sa, ys, e.2, es, rfl, hca, hR, fun row hr => (e3 row hr).1, hsa', n1, ?_⟩
      walk_at "rd"
      cases hend : endsIn e.2 es with
      | false =>
        rw [hend, if_neg Bool.false_ne_true] at hu
        walk_at "rd"
        exact mk1 T.oBL T.no_BadLog_index ((q2 k es hu.symm).mono S')
      | true =>
        rw [hend, if_pos rfl] at hu
        walk_at "rd"
        refine ⟨ca, rfl, ⟨_, SqL.of hca⟩, for_list (xs := ys) (fun j σ H2 => ∃ (v5 v6 v7 : Option V), σ = [some (.ref b), some (.ref ga), some (.ref sa), some (.int (k : Int)), some (.ref ca), v5, v6, v7] ∧ Same H H2 ∧ H2 ca = some (.lst ys) ∧ H2 sa = some (.lst ((undoL es (e.2.take j)).map V.int)) ∧ RW (fun t => t ≠ sa) true H2 ys e.2) ⟨v5, v6, v7, rfl, S', hca, hsa', ?_⟩ (fun j σ H2 _ ⟨_, _, _, _, _, e, _⟩ => SqL.of e) ?_ ?_⟩
        · refine ⟨hR.1, fun j hj => ?_⟩
          obtain ⟨u, a1, a2, a3⟩ := hR.2 j hj
          exact ⟨u, a1, (fun z => by rw [z, hsa'] at a3; cases a3), a3⟩
        · rintro j y σ H2 hy ⟨v5, v6, v7, rfl, S2, hca2, hsa2, hR2⟩
          obtain ⟨row, u, hrow, rfl, nu, hu2⟩ := hR2.of hy
          have rm := List.mem_of_getElem? hrow
          have r3 := (e3 row rm).1
          have eb : endB es row = true := List.all_eq_true.mp hend row rm
          obtain ⟨p, b0, a0, rfl⟩ : ∃ p b a, row = [p, b, a] := by
            match row, r3 with
            | [p, b, a], _ => exact ⟨p, b, a, rfl⟩
          have pr : 0 ≤ p ∧ p < (es.length : Int) := by
            unfold endB at eb
            have := (Bool.and_eq_true_iff.mp (Bool.and_eq_true_iff.mp eb).1)
            exact ⟨of_decide_eq_true this.1, of_decide_eq_true this.2⟩
          obtain ⟨m, em, hm⟩ : ∃ m : Nat, p = (m : Int) ∧ m < es.length := ⟨p.toNat, by omega, by omega⟩
          subst em
          refine g_gtup (SqT.of hu2) rfl ?_
          refine g_gcons ?_
          refine g_name ?_
          refine g_gcons ?_
          refine g_name ?_
          refine g_gcons ?_
          refine g_name ?_
          refine g_gnil ?_
          walk_at "rd"
          refine g_set hsa2 (by rw [undoL_len]; exact hm) ?_
          refine ⟨_, _, _, rfl, S2.mut nsa, by rw [upd_ne nca]; exact hca2, ?_, hR2.upd fun t c => c⟩
          rw [upd_same, take_more hrow, undoL_app]; rfl
        · rintro σ H2 ⟨v5, v6, v7, rfl, S2, hca2, hsa2, hR2⟩
          rw [hR2.len, List.take_length] at hsa2
          refine ⟨_, _, _, _, _, _, rfl, S2, hsa2, undoL_ok _ (fun row hr => (e3 row hr).2) oke, by rw [undoL_len]; exact le, ?_⟩
          rw [show L.length - (i + 1) = k by omega]
          exact hu
    · rintro σ H' ⟨v3, v4, v5, v6, v7, es, rfl, S', hsa', oke, le, hu⟩
      rw [Nat.sub_self] at hu
      walk_at "rd"
      have B' := B.mono S'
      refine f_l T B' ?_
      walk_at "rd"
      refine f_r T B' ?_
      walk_at "rd"
      refine mk_newX (c := false) hsa' B'.ln oke fun x ts' H2 nx S2 _ B2 => ?_
      exact q1 es hu.symm x ts' H2 (S'.free nx) (S'.trans S2) B2
/-! ### -/
end
end Rt
set_option Elab.async false
set_option linter.all false
set_option maxRecDepth 100000
set_option maxHeartbeats 4000000
namespace Rt
open PySem PySem.Spec L2
open PyProof.Rows (envOfC)
local macro_rules | `(tactic| walk_at "rd1") => `(tactic| (with_reducible first
  | refine g_var (by with_unfolding_all rfl) ?_
  | refine g_c ?_
  | refine g_op ?_
  | refine g_I0 ?_
  | refine g_eqI ?_
  | refine g_neI ?_
  | refine g_eqB ?_
  | refine g_neB ?_
  | refine g_cons ?_
  | refine g_nil ?_
  | refine g_seq ?_
  | refine g_asg ?_
  | refine g_name ?_
  | refine g_ret ?_
  | refine g_retN ?_
  | refine g_drop ?_
  | refine g_next ?_
  | refine g_if ?_
  | refine g_test ?_
  | refine g_tB ?_
  | refine g_bl ?_
  | refine g_and ?_
  | refine g_or ?_
  | refine g_not ?_
  | refine g_andV ?_
  | refine g_orV ?_
  | refine g_notV ?_
  | refine g_ifE ?_
  | refine g_cb ?_
  | refine g_meth ?_
  | refine g_rev ?_
  | refine g_gcons ?_
  | refine g_gnil ?_
  | refine g_isB' ?_
  | refine g_gsub ?_
  | refine g_call ?_
  | refine g_callS ?_
  | refine g_bm ?_
  | refine g_un ?_
  | refine g_U ?_
  | refine g_chain ?_
  | refine g_sl ?_
  | refine g_brk ?_
  | refine g_ct ?_
  | refine g_ipI ?_
  | refine g_fld ?_
  | refine g_lst ?_
  | refine g_int ?_
  | refine g_for ?_
  | refine g_rg1 ?_
  | refine g_rg2 ?_
  | refine g_il ?_
  | refine g_it ?_
  | refine g_lc ?_
  | refine g_yes ?_
  | refine g_tup ?_
  | refine g_part ?_
  | refine g_xf ?_
  | refine g_nn ?_
  | refine g_mko ?_
  | refine g_lrg ?_
  | refine g_tr1 ?_
  | refine g_tr2 ?_
  | refine g_oi2 ?_
  | refine g_mk ?_
  | refine g_sfld ?_
  | refine g_ost ?_
  | refine g_oi ?_
  | refine g_nopart ?_
  | refine g_tt ?_
  | refine g_ff ?_
  | refine g_nt ?_
  | refine g_nf ?_
  | refine g_drn ?_
  | refine g_din ?_
  | refine g_dnn ?_
  | refine g_nrn ?_
  | refine g_nin ?_
  | refine g_nnn ?_))
local macro_rules | `(tactic| walk_at "rd") => `(tactic| (repeat walk_at "rd1"))

section
variable {P : Program} {w : World} {K : PySem.W.Frag} {mg : Str → Option Value} {base : Heap} {f : Addr} {fd : FuncData} {A : Ad}
/-! ### _law_lengths -/
def spLengths : Sp := fun vs H Q _ => ∃ (c : Int) (n : Nat), vs = [.int c, .int (n : Int)] ∧ n ≤ 900 ∧
  ∀ (p : Addr) (H' : Hp) (ls : List Int), H p = none → Same H H' → H' p = some (.lst (ls.map V.int)) → ls.length = n → (∀ x ∈ ls, 1 ≤ x ∧ x ≤ 1000000000) → Q (.ref p) H'
theorem ok_lengths (F : Fun K "_law_lengths" "_law_lengths" s__law_lengths f fd) (T : Txt K mg A) (D__law_draws : DefOk P w K mg base CX0 1 "_law_draws" ["cell", "sizes"] (Rt.spDraws K)) : FnOk P w K mg base CX0 2 f fd ["cell", "many"] Rt.spLengths := by
  refine F.ok sc__law_lengths (fun vs H Q E h => ?_) (fun cdv A1 outer s H vs Q E hr h => ?_)
  · obtain ⟨c, n, rfl, _⟩ := h
    rfl
  · obtain ⟨c, n, rfl, hn, q⟩ := h
    refine ⟨_, (pss_cons (ps_set (i := 2) sc__law_lengths.nd rfl (Or.inl rfl) (pe_ix (ix_listK K) (pe_callD D__law_draws (hr.mono (by decide)) pass0 (pa_cons (pv 0) (pa_cons (pe_lst (pa_cons pe_int pa_nil)) pa_nil))) pe_int (fun _ _ => rfl)))
      (pss_cons (ps_set (i := 3) sc__law_lengths.nd rfl (Or.inl rfl) (pe_ix (ix_listK K) (pe_lst (pa_cons pe_int (pa_cons pe_int (pa_cons pe_int (pa_cons (pe_op op_pow pe_int pe_int) pa_nil))))) (pv 2) (fun _ _ => rfl)))
      (pss_one (ps_ret (pe_lc (own := [("draw", 4)]) (g := gName 4) (tt := tYes) rfl sc__law_lengths.nd (pi_listK K (pe_slice (sl_listK K) (pe_callD D__law_draws (hr.mono (by decide)) pass0 (pa_cons (pv 0) (pa_cons (pe_op op_cat (pe_lst (pa_cons pe_int pa_nil)) (pe_op op_rep (pe_lst (pa_cons (pv 3) pa_nil)) (pv 1))) pa_nil))) (po_some pe_int) po_none)) (blkOk_by (N := ["cell", "many", "flavour", "size", "draw"]) (sc := defScope s__law_lengths) (by decide +kernel)) (fun _ _ _ _ _ => (by exact (pg_name (i := 4) sc__law_lengths.nd rfl (Or.inl rfl)))) (fun _ _ _ _ _ => (by exact pts_nil)) (fun _ _ _ _ _ => (by exact (pe_op op_add pe_int (pv 4))))))))), ?_⟩
    walk_at "rd"
    refine newL fun a Ha na Sa ha => ?_
    walk_at "rd"
    refine ⟨a, c, [4], rfl, SqL.of ha, by decide, fun i hi => ?_, fun p1 H1 ds np1 S1 h1 dr => ?_⟩
    · have : i = 0 := by simpa using hi
      subst this; decide
    have f0 := dr.at_ 0 (by decide)
    have f0b : ds.getD 0 0 < 4 := f0.2
    refine g_ixL (SqL.of h1) (at_int (o := 0) (by rw [dr.len]; decide)) ?_
    walk_at "rd"
    refine g_I ⟨by decide, by decide, by decide⟩ ?_
    walk_at "rd"
    refine newL fun a2 Ha2 na2 Sa2 ha2 => ?_
    walk_at "rd"
    generalize hfl : ds.getD 0 0 = fl at f0 f0b
    have hm := at_toNat (zs := [1, 1, 4, 10 ^ (9 : Int).toNat]) f0.1 (by simpa using f0b)
    generalize hsz : ([1, 1, 4, 10 ^ (9 : Int).toNat] : List Int).getD fl.toNat 0 = sz at hm
    have hsz2 : 1 ≤ sz ∧ sz ≤ 1000000000 := by
      have hc : fl = 0 ∨ fl = 1 ∨ fl = 2 ∨ fl = 3 := by omega
      rcases hc with z | z | z | z <;> (subst z; subst hsz; decide)
    refine g_ixL (xs := ([1, 1, 4, 10 ^ (9 : Int).toNat] : List Int).map V.int) (SqL.of ha2) hm ?_
    walk_at "rd"
    refine newL fun a3 Ha3 na3 Sa3 ha3 => ?_
    walk_at "rd"
    refine newL fun a4 Ha4 na4 Sa4 ha4 => ?_
    walk_at "rd"
    refine g_rep1 (k := n) ha4 (by omega) fun a5 Ha5 na5 Sa5 ha5 => ?_
    have S5 : Same Ha3 Ha5 := Sa4.trans Sa5
    refine g_cat (xs := [4]) (S5 _ _ ha3) ha5 (by rw [List.length_replicate]; simp; omega) fun a6 Ha6 na6 Sa6 ha6 => ?_
    walk_at "rd"
    refine ⟨a6, c, _, rfl, SqL.of ha6, by simp; omega, fun i hi => ?_, fun p2 H2 es np2 S2 h2 dr2 => ?_⟩
    · cases i with
      | zero => exact (by decide : (0 : Int) < 4 ∧ (4 : Int) < 2 ^ 64)
      | succ i =>
        have hi' : i < n := by simpa using hi
        have e : (([4] : List Int) ++ List.replicate n sz).getD (i + 1) 0 = sz := getD_rep hi'
        rw [e]; omega
    walk_at "rd"
    have dt : Dr (List.replicate n sz) (es.drop 1) := Dr.tail dr2
    refine g_sl1 (SqL.of h2) (by rw [dr2.len]; simp) fun p3 H3 np3 S3 h3 => ?_
    refine ⟨p3, rfl, ⟨_, SqL.of h3⟩, fun D nD => ?_⟩
    have hl : (es.drop 1).length = n := by rw [dt.len, List.length_replicate]
    have ST : Same H H3 := (((((((Sa.trans S1).trans Sa2).trans Sa3).trans Sa4).trans Sa5).trans Sa6).trans S2).trans S3
    refine lc_ints (fun x => 1 + x) (SqL.of h3) nD (by omega) (fun i x H' hx S' Q' hq => ?_) (fun H' S' h' => ?_)
    · walk_at "rd"
      refine ⟨rfl, ?_⟩
      walk_at "rd"
      exact hq H' (Same.refl _)
    · refine q D H' _ (ST.free nD) (ST.trans S') h' (by rw [List.length_map, hl]) fun y hy => ?_
      obtain ⟨x, hx, rfl⟩ := List.mem_map.mp hy
      obtain ⟨i, hi, rfl⟩ := mem_getD hx
      have hb := dt.at_ i (by rw [List.length_replicate]; omega)
      rw [getD_rep (by omega)] at hb
      show 1 ≤ 1 + _ ∧ 1 + _ ≤ _
      omega
/-! ### _law_strengths -/
theorem sl_draw {Q : VK} {p2 : Addr} {es ms : List Int} {H0 H2 : Hp} (ST : Same H0 H2) (h2 : H2 p2 = some (.lst (es.map V.int))) {m : Int} (dr : Dr (m :: ms) es) (hm : ∀ i, i < ms.length → ms.getD i 0 < 2 ^ 64)
    (q : ∀ (p : Addr) (H' : Hp) (ss : List Int), H0 p = none → Same H0 H' → H' p = some (.lst (ss.map V.int)) → ss.length = ms.length → (∀ x ∈ ss, 0 ≤ x ∧ x < 2 ^ 64) → Q (.ref p) H') : rSlL K (.ref p2) (some 1) none H2 Q := by
  refine g_sl1 (SqL.of h2) (by rw [dr.len]; simp) fun p3 H3 np3 S3 h3 => ?_
  have dt := Dr.tail dr
  refine q p3 H3 _ (ST.free np3) (ST.trans S3) h3 dt.len fun x hx => ?_
  obtain ⟨i, hi, rfl⟩ := mem_getD hx
  have hb := dt.at_ i (by rw [← dt.len]; exact hi)
  have hc := hm i (by rw [← dt.len]; exact hi)
  omega
def spStrengths (K : PySem.W.Frag) : Sp := fun vs H Q _ => ∃ (c : Int) (l : Addr) (ls : List Int), vs = [.int c, .ref l] ∧ SqL K H l (ls.map V.int) ∧ ls.length ≤ 900 ∧ (∀ x ∈ ls, 1 ≤ x ∧ x ≤ 1000000000) ∧
  ∀ (p : Addr) (H' : Hp) (ss : List Int), H p = none → Same H H' → H' p = some (.lst (ss.map V.int)) → ss.length = ls.length → (∀ x ∈ ss, 0 ≤ x ∧ x < 2 ^ 64) → Q (.ref p) H'
theorem ok_strengths (F : Fun K "_law_strengths" "_law_strengths" s__law_strengths f fd) (T : Txt K mg A) (D__law_draws : DefOk P w K mg base CX0 1 "_law_draws" ["cell", "sizes"] (Rt.spDraws K)) : FnOk P w K mg base CX0 2 f fd ["cell", "sizes"] (Rt.spStrengths K) := by
  refine F.ok sc__law_strengths (fun vs H Q E h => ?_) (fun cdv A1 outer s H vs Q E hr h => ?_)
  · obtain ⟨c, l, ls, rfl, _⟩ := h
    rfl
  · obtain ⟨c, l, ls, rfl, hs, hn, hb, q⟩ := h
    have t0 : 0 ≤ ls.sum := sum_ge fun x hx => by have := hb x hx; omega
    have t1 : ls.sum ≤ 1000000000 * ls.length := sum_le fun x hx => (hb x hx).2
    have t2 : ls.sum ≤ 900000000000 := by omega
    refine ⟨_, (pss_cons (ps_set (i := 2) sc__law_strengths.nd rfl (Or.inl rfl) (pe_ix (ix_listK K) (pe_callD D__law_draws (hr.mono (by decide)) pass0 (pa_cons (pv 0) (pa_cons (pe_lst (pa_cons pe_int pa_nil)) pa_nil))) pe_int (fun _ _ => rfl)))
      (pss_cons (ps_set (i := 3) sc__law_strengths.nd rfl (Or.inl rfl) (pe_callB (cr_sumK K rfl) (by rfl) T.m_sum (by decide +kernel) (pa_cons (pv 1) pa_nil)))
      (pss_cons (ps_if (pt_cmpR op_eq (pv 2) pe_int (nomark _)) (pss_one (ps_ret (pe_slice (sl_listK K) (pe_callD D__law_draws (hr.mono (by decide)) pass0 (pa_cons (pv 0) (pa_cons (pe_op op_cat (pe_lst (pa_cons pe_int pa_nil)) (pe_lc (own := [("size", 4)]) (g := gName 4) (tt := tYes) rfl sc__law_strengths.nd (pi_listK K (pv 1)) (blkOk_by (N := ["cell", "sizes", "flavour", "total", "size", "level", "most"]) (sc := defScope s__law_strengths) (by decide +kernel)) (fun _ _ _ _ _ => (by exact (pg_name (i := 4) sc__law_strengths.nd rfl (Or.inl rfl)))) (fun _ _ _ _ _ => (by exact pts_nil)) (fun _ _ _ _ _ => (by exact (pe_op op_add (pv 4) pe_int))))) pa_nil))) (po_some pe_int) po_none))) pss_nil)
      (pss_cons (ps_if (pt_cmpR op_eq (pv 2) pe_int (nomark _)) (pss_cons (ps_set (i := 5) sc__law_strengths.nd rfl (Or.inr rfl) (pe_ix (ix_listK K) (pe_callD D__law_draws (hr.mono (by decide)) pass0 (pa_cons (pv 0) (pa_cons (pe_lst (pa_cons pe_int (pa_cons (pe_op op_add (pv 3) pe_int) pa_nil))) pa_nil))) pe_int (fun _ _ => rfl)))
      (pss_one (ps_ret (pe_lc (own := [("size", 4)]) (g := gName 4) (tt := tYes) rfl sc__law_strengths.nd (pi_listK K (pv 1)) (blkOk_by (N := ["cell", "sizes", "flavour", "total", "size", "level", "most"]) (sc := defScope s__law_strengths) (by decide +kernel)) (fun _ _ _ _ _ => (by exact (pg_name (i := 4) sc__law_strengths.nd rfl (Or.inl rfl)))) (fun _ _ _ _ _ => (by exact pts_nil)) (fun _ _ _ _ _ => (by exact (pv 5))))))) pss_nil)
      (pss_cons (ps_set (i := 6) sc__law_strengths.nd rfl (Or.inl rfl) (pe_ix (ix_listK K) (pe_lst (pa_cons pe_int (pa_cons (pe_op op_add (pe_callB (call_lenK K) (by rfl) T.m_len PySem.boot_len (pa_cons (pv 1) pa_nil)) pe_int) (pa_cons (pe_op op_add (pv 3) pe_int) (pa_cons pe_int (pa_cons pe_int (pa_cons (pe_op op_add (pe_op op_pow pe_int pe_int) pe_int) pa_nil))))))) (pv 2) (fun _ _ => rfl)))
      (pss_one (ps_ret (pe_slice (sl_listK K) (pe_callD D__law_draws (hr.mono (by decide)) pass0 (pa_cons (pv 0) (pa_cons (pe_op op_cat (pe_lst (pa_cons pe_int pa_nil)) (pe_op op_rep (pe_lst (pa_cons (pv 6) pa_nil)) (pe_callB (call_lenK K) (by rfl) T.m_len PySem.boot_len (pa_cons (pv 1) pa_nil)))) pa_nil))) (po_some pe_int) po_none)))))))), ?_⟩
    walk_at "rd"
    refine newL fun a Ha na Sa ha => ?_
    walk_at "rd"
    refine ⟨a, c, [6], rfl, SqL.of ha, by decide, fun i hi => ?_, fun p1 H1 ds np1 S1 h1 dr => ?_⟩
    · have : i = 0 := by simpa using hi
      subst this; decide
    have f0 := dr.at_ 0 (by decide)
    have f0b : ds.getD 0 0 < 6 := f0.2
    refine g_ixL (SqL.of h1) (at_int (o := 0) (by rw [dr.len]; decide)) ?_
    generalize hfl : ds.getD 0 0 = fl at f0 f0b
    walk_at "rd"
    have SA : Same H H1 := Sa.trans S1
    refine ⟨l, ls, rfl, SA.seq hs, ?_⟩
    walk_at "rd"
    refine g_ite (fun e => ?_) (fun e => ?_)
    · walk_at "rd"
      refine newL fun a4 Ha4 na4 Sa4 ha4 => ?_
      walk_at "rd"
      have SB : Same H Ha4 := SA.trans Sa4
      refine ⟨l, rfl, ⟨_, SB.seq hs⟩, fun D nD => ?_⟩
      refine lc_ints (fun x => x + 1) (SB.seq hs) nD (by omega) (fun i x H' hx S' Q' hq => ?_) (fun H' S' h' => ?_)
      · walk_at "rd"
        refine ⟨rfl, ?_⟩
        walk_at "rd"
        exact hq H' (Same.refl _)
      · refine g_cat (xs := [6]) (S' _ _ ha4) h' (by simp; omega) fun a6 Ha6 na6 Sa6 ha6 => ?_
        walk_at "rd"
        refine ⟨a6, c, _, rfl, SqL.of ha6, by simp; omega, fun i hi => ?_, fun p2 H2 es np2 S2 h2 dr2 => ?_⟩
        · cases i with
          | zero => exact (by decide : (0 : Int) < 6 ∧ (6 : Int) < 2 ^ 64)
          | succ i =>
            have hi' : i < ls.length := by simpa using hi
            have e : (([6] : List Int) ++ ls.map fun x => x + 1).getD (i + 1) 0 = ls.getD i 0 + 1 := getD_map hi'
            have := hb _ (getD_mem hi')
            rw [e]; omega
        walk_at "rd"
        refine sl_draw (m := 6) (ms := ls.map fun x => x + 1) (((SB.trans S').trans Sa6).trans S2) h2 dr2 (fun i hi => ?_) fun p H' ss np S h hl hx => q p H' ss np S h (by rw [hl, List.length_map]) hx
        have hi' : i < ls.length := by simpa using hi
        have := hb _ (getD_mem hi')
        rw [getD_map hi']; omega
    · walk_at "rd"
      refine g_ite (fun e4 => ?_) (fun e4 => ?_)
      · walk_at "rd"
        refine newL fun a6 Ha6 na6 Sa6 ha6 => ?_
        walk_at "rd"
        refine ⟨a6, c, [6, ls.sum + 3], rfl, SqL.of ha6, by simp, fun i hi => ?_, fun p2 H2 es np2 S2 h2 dr2 => ?_⟩
        · have : i = 0 ∨ i = 1 := by have : i < 2 := by simpa using hi
                                     omega
          rcases this with z | z <;> subst z
          · exact (by decide : (0 : Int) < 6 ∧ (6 : Int) < 2 ^ 64)
          · exact (by omega : (0 : Int) < ls.sum + 3 ∧ ls.sum + 3 < 2 ^ 64)
        have g1 := dr2.at_ 1 (by simp)
        have g1b : es.getD 1 0 < ls.sum + 3 := g1.2
        refine g_ixL (SqL.of h2) (at_int (o := 1) (by rw [dr2.len]; simp)) ?_
        generalize hlv : es.getD 1 0 = lv at g1 g1b
        walk_at "rd"
        have SB : Same H H2 := (SA.trans Sa6).trans S2
        refine ⟨l, rfl, ⟨_, SB.seq hs⟩, fun D nD => ?_⟩
        refine lc_ints (fun _ => lv) (SB.seq hs) nD (by omega) (fun i x H' hx S' Q' hq => ?_) (fun H' S' h' => ?_)
        · walk_at "rd"
          refine ⟨rfl, ?_⟩
          walk_at "rd"
          exact hq H' (Same.refl _)
        · refine q D H' _ (SB.free nD) (SB.trans S') h' (by rw [List.length_map]) fun y hy => ?_
          obtain ⟨x, hx, rfl⟩ := List.mem_map.mp hy
          show 0 ≤ lv ∧ lv < _
          omega
      · walk_at "rd"
        refine ⟨l, _, rfl, .inl (SA.seq hs), ?_⟩
        rw [List.length_map]
        walk_at "rd"
        refine g_I ⟨by decide, by decide, by decide⟩ ?_
        walk_at "rd"
        refine newL fun a5 Ha5 na5 Sa5 ha5 => ?_
        walk_at "rd"
        have hm := at_toNat (zs := [3, (ls.length : Int) + 2, ls.sum + 3, 0, 0, 10 ^ (12 : Int).toNat + 1]) f0.1 (by simpa using f0b)
        generalize hsz : ([3, (ls.length : Int) + 2, ls.sum + 3, 0, 0, 10 ^ (12 : Int).toNat + 1] : List Int).getD fl.toNat 0 = sz at hm
        have hsz2 : 0 < sz ∧ sz < 2 ^ 64 := by
          have n3 : fl ≠ 3 := by simpa using e
          have n4 : fl ≠ 4 := by simpa using e4
          have hc : fl = 0 ∨ fl = 1 ∨ fl = 2 ∨ fl = 5 := by omega
          rcases hc with z | z | z | z <;> (subst z; subst hsz)
          · exact (by decide : (0 : Int) < 3 ∧ (3 : Int) < 2 ^ 64)
          · exact (by omega : (0 : Int) < (ls.length : Int) + 2 ∧ (ls.length : Int) + 2 < 2 ^ 64)
          · exact (by omega : (0 : Int) < ls.sum + 3 ∧ ls.sum + 3 < 2 ^ 64)
          · exact (by decide : (0 : Int) < 10 ^ (12 : Int).toNat + 1 ∧ (10 : Int) ^ (12 : Int).toNat + 1 < 2 ^ 64)
        refine g_ixL (xs := ([3, (ls.length : Int) + 2, ls.sum + 3, 0, 0, 10 ^ (12 : Int).toNat + 1] : List Int).map V.int) (SqL.of ha5) hm ?_
        walk_at "rd"
        refine newL fun a3 Ha3 na3 Sa3 ha3 => ?_
        walk_at "rd"
        refine newL fun a4 Ha4 na4 Sa4 ha4 => ?_
        walk_at "rd"
        have SC : Same H Ha4 := (((SA.trans Sa5).trans Sa3).trans Sa4)
        refine ⟨l, _, rfl, .inl (SC.seq hs), ?_⟩
        rw [List.length_map]
        refine g_rep1 (k := ls.length) ha4 (by omega) fun a7 Ha7 na7 Sa7 ha7 => ?_
        have S5 : Same Ha3 Ha7 := Sa4.trans Sa7
        refine g_cat (xs := [6]) (S5 _ _ ha3) ha7 (by rw [List.length_replicate]; simp; omega) fun a6 Ha6 na6 Sa6 ha6 => ?_
        walk_at "rd"
        refine ⟨a6, c, _, rfl, SqL.of ha6, by simp; omega, fun i hi => ?_, fun p2 H2 es np2 S2 h2 dr2 => ?_⟩
        · cases i with
          | zero => exact (by decide : (0 : Int) < 6 ∧ (6 : Int) < 2 ^ 64)
          | succ i =>
            have hi' : i < ls.length := by simpa using hi
            have e : (([6] : List Int) ++ List.replicate ls.length sz).getD (i + 1) 0 = sz := getD_rep hi'
            rw [e]; omega
        walk_at "rd"
        refine sl_draw (m := 6) (ms := List.replicate ls.length sz) (((SC.trans Sa7).trans Sa6).trans S2) h2 dr2 (fun i hi => ?_) fun p H' ss np S h hl hx => q p H' ss np S h (by rw [hl, List.length_replicate]) hx
        have hi' : i < ls.length := by simpa using hi
        rw [getD_rep hi']; omega
/-! ### _law_reach @!k56 -/
def spReach (K : PySem.W.Frag) : Sp := fun vs H Q _ => ∃ (r : Bool) (la sa : Addr) (ls ss : List Int) (p : Nat), vs = [.bl r, .ref la, .ref sa, .int (p : Int)] ∧ SqL K H la (ls.map V.int) ∧ SqL K H sa (ss.map V.int) ∧ ls.length = ss.length ∧ p < ss.length ∧ ss.length ≤ 1000 ∧ Q (.int (rch r ss ls p)) H
theorem ok_reach (F : Fun K "_law_reach" "_law_reach" s__law_reach f fd) (T : Txt K mg A) : FnOk P w K mg base CX0 1 f fd ["round_flag", "sizes", "strengths", "place"] (Rt.spReach K) := by
  refine F.ok sc__law_reach (fun vs H Q E h => ?_) (fun cdv A1 outer s H vs Q E hr h => ?_)
  · obtain ⟨r, la, sa, ls, ss, p, rfl, _⟩ := h
    rfl
  · obtain ⟨r, la, sa, ls, ss, p, rfl, hl, hs, el, hp, hn, q⟩ := h
    refine ⟨_, (pss_cons (ps_set (i := 4) sc__law_reach.nd rfl (Or.inl rfl) (pe_ix (ix_listK K) (pv 1) (pv 3) (fun _ _ => rfl)))
      (pss_cons (ps_for (PassesOwn.never) rfl (pi_range2 rfl T.m_range (pa_cons pe_int (pa_cons (pe_callB (call_lenK K) (by rfl) T.m_len PySem.boot_len (pa_cons (pv 1) pa_nil)) pa_nil))) (pg_name (i := 5) sc__law_reach.nd rfl (Or.inl rfl)) (pss_cons (ps_set (i := 6) sc__law_reach.nd rfl (Or.inl rfl) (pe_op op_add (pv 3) (pv 5)))
      (pss_cons (ps_if (pt_cmpR op_ge (pv 6) (pe_callB (call_lenK K) (by rfl) T.m_len PySem.boot_len (pa_cons (pv 1) pa_nil)) (nomark _)) (pss_cons (ps_if (pt_not (pt_val (pv 0))) (pss_one ps_break) pss_nil)
      (pss_one (ps_set (i := 6) sc__law_reach.nd rfl (Or.inl rfl) (pe_op op_sub (pv 6) (pe_callB (call_lenK K) (by rfl) T.m_len PySem.boot_len (pa_cons (pv 1) pa_nil)))))) pss_nil)
      (pss_cons (ps_if (pt_cmpR op_ge (pe_ix (ix_listK K) (pv 2) (pv 6) (fun _ _ => rfl)) (pe_ix (ix_listK K) (pv 2) (pv 3) (fun _ _ => rfl)) (nomark _)) (pss_one ps_break) pss_nil)
      (pss_one (ps_set (i := 4) sc__law_reach.nd rfl (Or.inl rfl) (pe_op op_add (pv 4) (pe_ix (ix_listK K) (pv 1) (pv 6) (fun _ _ => rfl)))))))))
      (pss_one (ps_ret (pv 4))))), ?_⟩
    walk_at "rd"
    refine g_ixL hl (at_int (by omega)) ?_
    walk_at "rd"
    refine ⟨la, _, rfl, .inl hl, ?_⟩
    rw [List.length_map, el]
    walk_at "rd"
    refine ⟨1, _, rfl, ⟨by decide, by decide, by omega, by omega⟩, ?_⟩
    have en : ((ss.length : Int) - 1).toNat = ss.length - 1 := by omega
    rw [en]
    refine for_range (lo := 1) (fun i σ H' => ∃ v5 v6 : Option V, σ = [some (.bl r), some (.ref la), some (.ref sa), some (.int (p : Int)), some (.int (ls.getD p 0 + (((run r ss.length p).take i).map fun o => ls.getD o 0).sum)), v5, v6] ∧ H' = H ∧ Wkd r ss p i)
      ⟨none, none, by rw [List.take_zero, List.map_nil, List.sum_nil, Int.add_zero]; rfl, rfl, Wkd.zero⟩ ?_ ?_
    · rintro i σ H' hi ⟨v5, v6, rfl, rfl, wkd⟩
      walk_at "rd"
      refine ⟨la, _, rfl, .inl hl, ?_⟩
      rw [List.length_map, el]
      walk_at "rd"
      have hrun := run_at (r := r) hp (i := i) (by omega)
      refine g_ite (fun e => ?ca) (fun e => ?cb)
      case' ca =>
        walk_at "rd"
        refine g_ite (fun e2 => ?cc) (fun e2 => ?cd)
      case cc =>
        have hge : ¬ p + 1 + i < ss.length := by have := of_decide_eq_true e; omega
        have er : r = false := by simpa using e2
        subst er
        have full := wkd.full (by rw [run_len hp, if_neg Bool.false_ne_true]; omega)
        walk_at "rd"
        have eq : ls.getD p 0 + (((run false ss.length p).take i).map fun o => ls.getD o 0).sum = rch false ss ls p := by unfold rch; rw [full.1]
        rw [eq]
        exact q
      case' cd =>
        have hge : ¬ p + 1 + i < ss.length := by have := of_decide_eq_true e; omega
        have er : r = true := by simpa using e2
        rw [if_neg hge, if_pos er] at hrun
        walk_at "rd"
        refine ⟨la, _, rfl, .inl hl, ?_⟩
        rw [List.length_map, el]
        walk_at "rd"
        obtain ⟨o, ho, hol, eo⟩ : ∃ o : Nat, (run r ss.length p)[i]? = some o ∧ o < ss.length ∧ (p : Int) + (1 + (i : Int)) - (ss.length : Int) = (o : Int) := ⟨_, hrun, by omega, by omega⟩
        rw [eo]
      case' cb =>
        have hlt : p + 1 + i < ss.length := by have := of_decide_eq_false e; omega
        rw [if_pos hlt] at hrun
        walk_at "rd"
        obtain ⟨o, ho, hol, eo⟩ : ∃ o : Nat, (run r ss.length p)[i]? = some o ∧ o < ss.length ∧ (p : Int) + (1 + (i : Int)) = (o : Int) := ⟨_, hrun, by omega, by omega⟩
        rw [eo]
      all_goals
        refine g_ixL hs (at_int hol) ?_
        walk_at "rd"
        refine g_ixL hs (at_int hp) ?_
        walk_at "rd"
        refine g_ite (fun e3 => ?_) (fun e3 => ?_)
        · have stop := wkd.stop ho (wk_f e3)
          walk_at "rd"
          have eq : ls.getD p 0 + (((run r ss.length p).take i).map fun o => ls.getD o 0).sum = rch r ss ls p := by unfold rch; rw [stop.1]
          rw [eq]
          exact q
        · walk_at "rd"
          refine g_ixL hl (at_int (by omega)) ?_
          walk_at "rd"
          exact ⟨_, _, by rw [sum_more ho, Int.add_assoc]; rfl, rfl, wkd.more ho (wk_t e3)⟩
    · rintro σ H' ⟨v5, v6, rfl, rfl, wkd⟩
      have full := wkd.full (by have := run_le (r := r) hp; omega)
      walk_at "rd"
      have eq : ls.getD p 0 + (((run r ss.length p).take (ss.length - 1)).map fun o => ls.getD o 0).sum = rch r ss ls p := by unfold rch; rw [full.1]
      rw [eq]
      exact q
/-! ### -/
end
end Rt
set_option Elab.async false
set_option linter.all false
set_option maxRecDepth 100000
set_option maxHeartbeats 4000000
namespace Rt
open PySem PySem.Spec L2
open PyProof.Rows (envOfC)
local macro_rules | `(tactic| walk_at "rd1") => `(tactic| (with_reducible first
  | refine g_var (by with_unfolding_all rfl) ?_
  | refine g_c ?_
  | refine g_op ?_
  | refine g_I0 ?_
  | refine g_eqI ?_
  | refine g_neI ?_
  | refine g_eqB ?_
  | refine g_neB ?_
  | refine g_cons ?_
  | refine g_nil ?_
  | refine g_seq ?_
  | refine g_asg ?_
  | refine g_name ?_
  | refine g_ret ?_
  | refine g_retN ?_
  | refine g_drop ?_
  | refine g_next ?_
  | refine g_if ?_
  | refine g_test ?_
  | refine g_tB ?_
  | refine g_bl ?_
  | refine g_and ?_
  | refine g_or ?_
  | refine g_not ?_
  | refine g_andV ?_
  | refine g_orV ?_
  | refine g_notV ?_
  | refine g_ifE ?_
  | refine g_cb ?_
  | refine g_meth ?_
  | refine g_rev ?_
  | refine g_gcons ?_
  | refine g_gnil ?_
  | refine g_isB' ?_
  | refine g_gsub ?_
  | refine g_call ?_
  | refine g_callS ?_
  | refine g_bm ?_
  | refine g_un ?_
  | refine g_U ?_
  | refine g_chain ?_
  | refine g_sl ?_
  | refine g_brk ?_
  | refine g_ct ?_
  | refine g_ipI ?_
  | refine g_fld ?_
  | refine g_lst ?_
  | refine g_int ?_
  | refine g_for ?_
  | refine g_rg1 ?_
  | refine g_rg2 ?_
  | refine g_il ?_
  | refine g_it ?_
  | refine g_lc ?_
  | refine g_yes ?_
  | refine g_tup ?_
  | refine g_part ?_
  | refine g_xf ?_
  | refine g_nn ?_
  | refine g_mko ?_
  | refine g_lrg ?_
  | refine g_tr1 ?_
  | refine g_tr2 ?_
  | refine g_oi2 ?_
  | refine g_mk ?_
  | refine g_sfld ?_
  | refine g_ost ?_
  | refine g_oi ?_
  | refine g_nopart ?_
  | refine g_tt ?_
  | refine g_ff ?_
  | refine g_nt ?_
  | refine g_nf ?_
  | refine g_drn ?_
  | refine g_din ?_
  | refine g_dnn ?_
  | refine g_nrn ?_
  | refine g_nin ?_
  | refine g_nnn ?_))
local macro_rules | `(tactic| walk_at "rd") => `(tactic| (repeat walk_at "rd1"))

section
variable {P : Program} {w : World} {K : PySem.W.Frag} {mg : Str → Option Value} {base : Heap} {f : Addr} {fd : FuncData} {A : Ad}
/-! ### standings that are drawn -/
theorem stOk_of {ss ls : List Int} (h0 : 0 < ls.length) (hn : ls.length ≤ 900) (e : ss.length = ls.length) (h1 : ∀ x ∈ ss, 0 ≤ x ∧ x < 1000000000001) (h2 : ∀ x ∈ ls, 1 ≤ x ∧ x ≤ 1000000000) : StOk ss ls :=
  ⟨by omega, by omega, e.symm, fun x hx => (h1 x hx).1, fun x hx => (h2 x hx).1⟩
theorem places_of {ds : List Int} {n : Nat} (h : ∀ x ∈ ds, 0 ≤ x ∧ x < (n : Int)) : ∃ ps : List Nat, ds.map V.int = nI ps ∧ ps.length = ds.length ∧ ∀ p ∈ ps, p < n := by
  refine ⟨ds.map Int.toNat, ?_, List.length_map _, fun p hp => ?_⟩
  · unfold nI
    rw [List.map_map]
    refine List.map_congr_left fun x hx => ?_
    have := (h x hx).1
    show V.int x = V.int ((x.toNat : Nat) : Int)
    rw [Int.toNat_of_nonneg this]
  · obtain ⟨x, hx, rfl⟩ := List.mem_map.mp hp
    have := h x hx
    omega
theorem Dr.all {ns ds : List Int} (h : Dr ns ds) {n : Int} (hn : ∀ x ∈ ns, x = n) : ∀ x ∈ ds, 0 ≤ x ∧ x < n := fun x hx => by
  obtain ⟨i, hi, rfl⟩ := mem_getD hx
  have hi' : i < ns.length := by rw [← h.len]; exact hi
  have a := h.at_ i hi'
  rw [hn _ (getD_mem hi')] at a
  exact a
/-! ### _law_woken -/
def wok (r : Bool) (ss ls : List Int) (ps : List Nat) : List Int := ps.foldl (fun e p => e.set p (rch r ss ls p)) ss
theorem wok_len {r : Bool} {ss ls : List Int} (ps : List Nat) : (wok r ss ls ps).length = ss.length := by
  unfold wok
  suffices h : ∀ (ps : List Nat) (e : List Int), (ps.foldl (fun e p => e.set p (rch r ss ls p)) e).length = e.length from h ps ss
  intro ps
  induction ps with
  | nil => intro e; rfl
  | cons p ps ih => intro e; rw [List.foldl_cons, ih, List.length_set]
theorem wok_app {r : Bool} {ss ls : List Int} (ps : List Nat) (p : Nat) : wok r ss ls (ps ++ [p]) = (wok r ss ls ps).set p (rch r ss ls p) := by
  unfold wok
  rw [List.foldl_append]; rfl
theorem wok_nn {r : Bool} {ss ls : List Int} (ok : StOk ss ls) (ps : List Nat) (hps : ∀ p ∈ ps, p < ss.length) : ∀ x ∈ wok r ss ls ps, 0 ≤ x := by
  unfold wok
  suffices h : ∀ (ps : List Nat) (e : List Int), (∀ p ∈ ps, p < ss.length) → (∀ x ∈ e, 0 ≤ x) → ∀ x ∈ ps.foldl (fun e p => e.set p (rch r ss ls p)) e, 0 ≤ x from h ps ss hps ok.s0
  intro ps
  induction ps with
  | nil => intro e _ h; exact h
  | cons p ps ih =>
    intro e hp h
    rw [List.foldl_cons]
    refine ih _ (fun y hy => hp y (List.mem_cons_of_mem _ hy)) fun x hx => ?_
    rcases List.mem_or_eq_of_mem_set hx with z | z
    · exact h x z
    · have hp' := hp p List.mem_cons_self
      have a := ok.pos.pos p hp'
      have b := sm_ge0 (ls := ls) (trn r ss p) fun o ho => by have := ok.pos.pos o (trn_lt hp' o ho); omega
      rw [z, rch_eq]; omega
def spWoken (K : PySem.W.Frag) : Sp := fun vs H Q _ => ∃ (r : Bool) (la sa pa : Addr) (ls ss : List Int) (ps : List Nat), vs = [.bl r, .ref la, .ref sa, .ref pa] ∧ SqL K H la (ls.map V.int) ∧ SqL K H sa (ss.map V.int) ∧ SqL K H pa (nI ps) ∧ StOk ss ls ∧ (∀ p ∈ ps, p < ss.length) ∧
  ∀ (t : Addr) (H' : Hp), H t = none → Same H H' → H' t = some (.lst ((wok r ss ls ps).map V.int)) → Q (.ref t) H'
theorem ok_woken (F : Fun K "_law_woken" "_law_woken" s__law_woken f fd) (T : Txt K mg A) (D__law_reach : DefOk P w K mg base CX0 1 "_law_reach" ["round_flag", "sizes", "strengths", "place"] (Rt.spReach K)) : FnOk P w K mg base CX0 2 f fd ["round_flag", "sizes", "strengths", "places"] (spWoken K) := by
  refine F.ok sc__law_woken (fun vs H Q E h => ?_) (fun cdv A1 outer s H vs Q E hr h => ?_)
  · obtain ⟨r, la, sa, pa, ls, ss, ps, rfl, _⟩ := h
    rfl
  · obtain ⟨r, la, sa, pa, ls, ss, ps, rfl, hl, hs, hp, ok, hps, q⟩ := h
    have n1 := ok.n1
    refine ⟨_, (pss_cons (ps_set (i := 4) sc__law_woken.nd rfl (Or.inl rfl) (pe_callTy (call_listK K) (by rfl) T.m_list (by decide +kernel) (pa_cons (pv 2) pa_nil)))
      (pss_cons (ps_for (PassesOwn.never) rfl (pi_listK K (pv 3)) (pg_name (i := 5) sc__law_woken.nd rfl (Or.inl rfl)) (pss_one (ps_asg (pe_callD D__law_reach (hr.mono (by decide)) pass0 (pa_cons (pv 0) (pa_cons (pv 1) (pa_cons (pv 2) (pa_cons (pv 5) pa_nil))))) (pg_sub (pv 4) (pv 5) set_list))))
      (pss_one (ps_ret (pv 4))))), ?_⟩
    walk_at "rd"
    refine g_lo (.inl hs) fun t H1 nt S1 ht => ?_
    walk_at "rd"
    refine ⟨pa, rfl, ⟨_, S1.seq hp⟩, for_list (xs := nI ps) (fun i σ H' => ∃ v5 : Option V, σ = [some (.bl r), some (.ref la), some (.ref sa), some (.ref pa), some (.ref t), v5] ∧ Same H H' ∧ H' t = some (.lst ((wok r ss ls (ps.take i)).map V.int)))
      ⟨none, rfl, S1, ht⟩ (fun i σ H' _ ⟨_, _, h, _⟩ => h.seq hp) ?_ ?_⟩
    · rintro i x σ H' hi ⟨v5, rfl, S', ht'⟩
      obtain ⟨p, hpi, rfl⟩ := nI_at hi
      have hpl := hps p (List.mem_of_getElem? hpi)
      walk_at "rd"
      refine ⟨r, la, sa, ls, ss, p, rfl, S'.seq hl, S'.seq hs, ok.len, hpl, by omega, ?_⟩
      walk_at "rd"
      refine g_set ht' (by rw [wok_len]; exact hpl) ?_
      refine ⟨_, rfl, S'.mut nt, ?_⟩
      rw [upd_same, take_more hpi, wok_app]
    · rintro σ H' ⟨v5, rfl, S', ht'⟩
      walk_at "rd"
      have e : ps.take (nI ps).length = ps := List.take_of_length_le (by unfold nI; rw [List.length_map]; exact Nat.le_refl _)
      rw [e] at ht'
      exact q t H' nt S' ht'
/-! ### _law_numbers, the due ones a tuple -/
def spNumbersT (K : PySem.W.Frag) : Sp := fun vs H Q _ => ∃ (a l : Addr) (b : Bool) (xs ys : List Int), vs = [.ref a, .ref l, .bl b] ∧ SeqAt' H b a xs ∧ SqT K H l (ys.map V.int) ∧ ys.length ≤ 100000 ∧ Q (.bl (decide (xs = ys))) H
theorem ok_numbersT (F : Fun K "_law_numbers" "_law_numbers" s__law_numbers f fd) (T : Txt K mg A) (D__law_is_integer : DefOk P w K mg base CX0 1 "_law_is_integer" ["actual"] Rt.spInt) : FnOk P w K mg base CX0 2 f fd ["actual", "due", "as_tuple"] (spNumbersT K) := by
  refine F.ok sc__law_numbers (fun vs H Q E h => ?_) (fun cdv A1 outer s H vs Q E hr h => ?_)
  · obtain ⟨a, l, b, xs, ys, rfl, _⟩ := h
    rfl
  · obtain ⟨a, l, b, xs, ys, rfl, ha, hs, hy, q⟩ := h
    refine ⟨_, (pss_cons (ps_if (PW.pt (pw_or (PW.pt (pw_and (pt_val (pv 2)) (pw_and1 (pt_not (pt_val (pe_callB (call_isiQ K) (by rfl) T.m_isinstance (by decide +kernel) (pa_cons (pv 0) (pa_cons (pe_bltn (v := .ty "tuple") (by rfl) T.m_tuple (by decide +kernel) rfl) pa_nil)))))))) (pw_or1 (PW.pt (pw_and (pt_not (pt_val (pv 2))) (pw_and1 (pt_not (pt_val (pe_callB (call_isiQ K) (by rfl) T.m_isinstance (by decide +kernel) (pa_cons (pv 0) (pa_cons (pe_bltn (v := .ty "list") (by rfl) T.m_list (by decide +kernel) rfl) pa_nil))))))))))) (pss_one (ps_ret pe_bl)) pss_nil)
      (pss_cons (ps_if (pt_cmpR op_ne (pe_callB (call_lenK K) (by rfl) T.m_len PySem.boot_len (pa_cons (pv 0) pa_nil)) (pe_callB (call_lenK K) (by rfl) T.m_len PySem.boot_len (pa_cons (pv 1) pa_nil)) (nomark _)) (pss_one (ps_ret pe_bl)) pss_nil)
      (pss_cons (ps_for (PassesOwn.never) rfl (pi_range1 rfl T.m_range (pa_cons (pe_callB (call_lenK K) (by rfl) T.m_len PySem.boot_len (pa_cons (pv 1) pa_nil)) pa_nil)) (pg_name (i := 3) sc__law_numbers.nd rfl (Or.inl rfl)) (pss_one (ps_if (PW.pt (pw_or (pt_not (pt_val (pe_callD D__law_is_integer (hr.mono (by decide)) pass0 (pa_cons (pe_ix (ix_seqK K) (pv 0) (pv 3) (fun _ _ => rfl)) pa_nil)))) (pw_or1 (pt_cmpR op_ne (pe_ix (ix_seqK K) (pv 0) (pv 3) (fun _ _ => rfl)) (pe_ix (ix_tupK K) (pv 1) (pv 3) (fun _ _ => rfl)) (nomark _))))) (pss_one (ps_ret pe_bl)) pss_nil)))
      (pss_one (ps_ret pe_bl))))), ?_⟩
    have hlen : SqL K H a (xs.map V.int) ∨ SqT K H a (xs.map V.int) := by
      cases b with
      | true => exact .inr (SqT.of ha)
      | false => exact .inl (SqL.of ha)
    have hix : ∀ (i : Nat) (Q : VK), i < xs.length → Q (.int (xs.getD i 0)) H → rIx K (.ref a) (.int (i : Int)) H Q := fun i Q hi h => by
      cases b with
      | true => exact .inr (.inl (g_ixT (SqT.of ha) (at_int hi) h))
      | false => exact .inl (g_ixL (SqL.of ha) (at_int hi) h)
    have step : ∀ (i : Nat), i < ys.length → i < xs.length → (∀ j, j < i → xs.getD j 0 = ys.getD j 0) → xs.getD i 0 = ys.getD i 0 → ∀ j, j < i + 1 → xs.getD j 0 = ys.getD j 0 := fun i _ _ h h2 j hj => by
      rcases Nat.lt_succ_iff_lt_or_eq.mp hj with z | z
      · exact h j z
      · rw [z]; exact h2
    cases b
    all_goals
      walk_at "rd"
      refine g_isi (b := true) (.base (by first | exact .tup ha | exact .lst ha)) (by decide +kernel) ?_
      walk_at "rd"
      refine ⟨a, _, rfl, hlen, ?_⟩
      walk_at "rd"
      refine ⟨l, _, rfl, .inr hs, ?_⟩
      rw [List.length_map, List.length_map]
      walk_at "rd"
      refine g_ite (fun e => ?_) (fun e => ?_)
      · walk_at "rd"
        have ne : ¬ xs = ys := fun z => by
          rw [z] at e; simp at e
        rw [decide_eq_false ne] at q
        exact q
      · have el : xs.length = ys.length := by
          have := e; simp at this
          omega
        walk_at "rd"
        refine ⟨l, _, rfl, .inr hs, ?_⟩
        rw [List.length_map]
        walk_at "rd"
        refine ⟨_, rfl, by omega, by omega, ?_⟩
        refine for_range (lo := 0) (fun i σ H' => ∃ v3 : Option V, σ = [some (.ref a), some (.ref l), some (.bl _), v3] ∧ H' = H ∧ ∀ j, j < i → xs.getD j 0 = ys.getD j 0) ⟨none, rfl, rfl, fun j h => absurd h (Nat.not_lt_zero j)⟩ ?_ ?_
        · rintro i σ H' hi ⟨v3, rfl, rfl, hin⟩
          have hi' : i < ys.length := by simpa using hi
          rw [Int.zero_add]
          walk_at "rd"
          refine hix i _ (by omega) ?_
          walk_at "rd"
          refine ⟨_, rfl, ?_⟩
          walk_at "rd"
          refine hix i _ (by omega) ?_
          walk_at "rd"
          refine g_ixT hs (at_int hi') ?_
          walk_at "rd"
          refine g_ite (fun e2 => ?_) (fun e2 => ?_)
          · walk_at "rd"
            have ne : ¬ xs = ys := fun z => by
              rw [z] at e2; simp at e2
            rw [decide_eq_false ne] at q
            exact q
          · walk_at "rd"
            have h2 : xs.getD i 0 = ys.getD i 0 := by simpa using e2
            exact ⟨_, rfl, rfl, step i hi' (by omega) hin h2⟩
        · rintro σ H' ⟨v3, rfl, rfl, hin⟩
          walk_at "rd"
          have e3 : xs = ys := ext_getD el fun i hi => hin i (by simpa using (by omega : i < ys.length))
          rw [decide_eq_true e3] at q
          exact q
/-! ### -/
end
end Rt
set_option Elab.async false
set_option linter.all false
set_option maxRecDepth 100000
set_option maxHeartbeats 4000000
namespace Rt
open PySem PySem.Spec L2
open PyProof.Rows (envOfC)
open LamX (CodeO TabS Tabs TabB)
local macro_rules | `(tactic| walk_at "rd1") => `(tactic| (with_reducible first
  | refine g_var (by with_unfolding_all rfl) ?_
  | refine g_c ?_
  | refine g_op ?_
  | refine g_I0 ?_
  | refine g_eqI ?_
  | refine g_neI ?_
  | refine g_eqB ?_
  | refine g_neB ?_
  | refine g_cons ?_
  | refine g_nil ?_
  | refine g_seq ?_
  | refine g_asg ?_
  | refine g_name ?_
  | refine g_ret ?_
  | refine g_retN ?_
  | refine g_drop ?_
  | refine g_next ?_
  | refine g_if ?_
  | refine g_test ?_
  | refine g_tB ?_
  | refine g_bl ?_
  | refine g_and ?_
  | refine g_or ?_
  | refine g_not ?_
  | refine g_andV ?_
  | refine g_orV ?_
  | refine g_notV ?_
  | refine g_ifE ?_
  | refine g_cb ?_
  | refine g_meth ?_
  | refine g_rev ?_
  | refine g_gcons ?_
  | refine g_gnil ?_
  | refine g_isB' ?_
  | refine g_gsub ?_
  | refine g_call ?_
  | refine g_callS ?_
  | refine g_bm ?_
  | refine g_un ?_
  | refine g_U ?_
  | refine g_chain ?_
  | refine g_sl ?_
  | refine g_brk ?_
  | refine g_ct ?_
  | refine g_ipI ?_
  | refine g_fld ?_
  | refine g_lst ?_
  | refine g_int ?_
  | refine g_for ?_
  | refine g_rg1 ?_
  | refine g_rg2 ?_
  | refine g_il ?_
  | refine g_it ?_
  | refine g_lc ?_
  | refine g_yes ?_
  | refine g_tup ?_
  | refine g_part ?_
  | refine g_xf ?_
  | refine g_nn ?_
  | refine g_mko ?_
  | refine g_lrg ?_
  | refine g_tr1 ?_
  | refine g_tr2 ?_
  | refine g_oi2 ?_
  | refine g_mk ?_
  | refine g_sfld ?_
  | refine g_ost ?_
  | refine g_oi ?_
  | refine g_nopart ?_
  | refine g_tt ?_
  | refine g_ff ?_
  | refine g_nt ?_
  | refine g_nf ?_
  | refine g_drn ?_
  | refine g_din ?_
  | refine g_dnn ?_
  | refine g_nrn ?_
  | refine g_nin ?_
  | refine g_nnn ?_))
local macro_rules | `(tactic| walk_at "rd") => `(tactic| (repeat walk_at "rd1"))

section
variable {P : Program} {w : World} {K : PySem.W.Frag} {mg : Str → Option Value} {base : Heap} {f : Addr} {fd : FuncData} {A : Ad} {TL : List (Addr × Str)}
/-! ### what is woken, by ints -/
theorem wok_at {r : Bool} {ss ls : List Int} {k : Nat} : ∀ ps : List Nat, (∀ p ∈ ps, p < ss.length) → (wok r ss ls ps).getD k 0 = if k ∈ ps then rch r ss ls k else ss.getD k 0 := by
  intro ps
  generalize hn : ps.length = n
  induction n generalizing ps with
  | zero =>
    intro _
    have e : ps = [] := List.eq_nil_of_length_eq_zero hn
    subst e
    rw [if_neg (by simp)]; rfl
  | succ n ih =>
    intro h
    have ne : ps ≠ [] := fun e => by rw [e] at hn; cases hn
    have e : ps = ps.dropLast ++ [ps.getLast ne] := (List.dropLast_concat_getLast ne).symm
    generalize ps.getLast ne = p at e
    generalize hq : ps.dropLast = qs at e
    have lq : qs.length = n := by rw [← hq, List.length_dropLast]; omega
    subst e
    have hp := h p (List.mem_append_right _ List.mem_cons_self)
    rw [wok_app, getD_set (by rw [wok_len]; exact hp), ih qs lq fun y hy => h y (List.mem_append_left _ hy)]
    by_cases c : k = p
    · subst c; rw [if_pos rfl, if_pos (by simp)]
    · rw [if_neg c]
      by_cases d : k ∈ qs
      · rw [if_pos d, if_pos (by simp [d])]
      · rw [if_neg d, if_neg (by simp [d, c])]
theorem wok_wkS {r : Bool} {ss ls : List Int} {ps : List Nat} {qs : List Int} (h : ∀ p ∈ ps, p < ss.length) (e : ∀ k : Nat, k ∈ ps ↔ (k : Int) ∈ qs) : wok r ss ls ps = wkS r ss ls qs := by
  refine ext_getD (by rw [wok_len, wkS_len]) fun k hk => ?_
  rw [wok_len] at hk
  rw [wok_at ps h, wkS_at hk]
  by_cases c : k ∈ ps
  · rw [if_pos c, if_pos ((e k).mp c)]
  · rw [if_neg c, if_neg (fun z => c ((e k).mpr z))]
theorem map_int_inj : ∀ {a b : List Int}, a.map V.int = b.map V.int → a = b
  | [], [], _ => rfl
  | [], _ :: _, h => by simp at h
  | _ :: _, [], h => by simp at h
  | x :: a, y :: b, h => by
    rw [List.map_cons, List.map_cons] at h
    injection h with h1 h2
    injection h1 with h1
    rw [h1, map_int_inj h2]
theorem mem_nI {qs : List Int} {ps : List Nat} (e : qs.map V.int = nI ps) (k : Nat) : k ∈ ps ↔ (k : Int) ∈ qs := by
  have e2 : qs = iI ps := by
    rw [nI_eq] at e
    exact map_int_inj e
  rw [e2]
  unfold iI
  rw [List.mem_map]
  constructor
  · intro h; exact ⟨k, h, rfl⟩
  · rintro ⟨j, hj, ej⟩
    rw [show k = j by omega]; exact hj
/-- _law_woken of a handful -/
def WokL (K : PySem.W.Frag) : Sp := fun vs H Q _ => ∃ (r : Bool) (la sa pa : Addr) (ls ss qs : List Int), vs = [.bl r, .ref la, .ref sa, .ref pa] ∧ SqL K H la (ls.map V.int) ∧ SqL K H sa (ss.map V.int) ∧ SqL K H pa (qs.map V.int) ∧ StOk ss ls ∧ (∀ q ∈ qs, 0 ≤ q ∧ q < (ss.length : Int)) ∧
  ∀ (a : Addr) (H' : Hp), H a = none → Same H H' → H' a = some (.lst ((wkS r ss ls qs).map V.int)) → Q (.ref a) H'
theorem wokL_of {vs : List V} {H : Hp} {Q : VK} {E : XK} (h : WokL K vs H Q E) : spWoken K vs H Q E := by
  obtain ⟨r, la, sa, pa, ls, ss, qs, e, hl, hs, hp, ok, good, q⟩ := h
  obtain ⟨ps, eps, lps, hps⟩ := places_of good
  rw [eps] at hp
  refine ⟨r, la, sa, pa, ls, ss, ps, e, hl, hs, hp, ok, hps, fun a H' na S ha => q a H' na S ?_⟩
  rw [← wok_wkS hps (mem_nI eps)]
  exact ha
/-- handfuls, lists in a list -/
def HLs (H : Hp) (xs : List V) (hs : List (List Int)) : Prop := xs.length = hs.length ∧ ∀ (k : Nat) (x : V) (row : List Int), xs[k]? = some x → hs[k]? = some row → ∃ t : Addr, x = .ref t ∧ H t = some (.lst (row.map V.int))
theorem HLs.mono {H H' : Hp} {xs : List V} {hs : List (List Int)} (h : HLs H xs hs) (S : Same H H') : HLs H' xs hs := ⟨h.1, fun k x row hx hr => by
  obtain ⟨t, e, q⟩ := h.2 k x row hx hr
  exact ⟨t, e, S _ _ q⟩⟩
theorem HLs.at_ {H : Hp} {xs : List V} {hs : List (List Int)} (h : HLs H xs hs) {k : Nat} {x : V} (hx : xs[k]? = some x) : ∃ (row : List Int) (t : Addr), hs[k]? = some row ∧ x = .ref t ∧ H t = some (.lst (row.map V.int)) := by
  have l : k < hs.length := by rw [← h.1]; exact (List.getElem?_eq_some_iff.mp hx).1
  obtain ⟨t, e, q⟩ := h.2 k x hs[k] hx (List.getElem?_eq_getElem l)
  exact ⟨hs[k], t, List.getElem?_eq_getElem l, e, q⟩
/-! ### _law_log -/
def spLogL (K : PySem.W.Frag) : Sp := fun vs H Q _ => ∃ (r : Bool) (la sa oa : Addr) (ls ss : List Int) (xs : List V) (hs : List (List Int)), vs = [.bl r, .ref la, .ref sa, .ref oa] ∧ SqL K H la (ls.map V.int) ∧ SqL K H sa (ss.map V.int) ∧ StOk ss ls ∧ ss.length ≤ 900 ∧ H oa = some (.lst xs) ∧ HLs H xs hs ∧ hs.length ≤ 900 ∧ (∀ row ∈ hs, row.length < 900 ∧ ∀ q ∈ row, 0 ≤ q ∧ q < (ss.length : Int)) ∧
  ∀ (t na ga : Addr) (zs : List V) (H' : Hp), H t = none → H na = none → H ga = none → Same H H' → H' na = some (.lst ((runS r ls ss hs).map V.int)) → H' ga = some (.lst zs) → LogA (fun a => H a = none ∧ a ≠ ga) H' zs (logS r ls ss hs) → H' t = some (.tup [.ref na, .ref ga]) → Q (.ref t) H'
theorem ok_logL (F : Fun K "_law_log" "_law_log" s__law_log f fd) (T : Txt K mg A) (D__law_woken : DefOk P w K mg base CX0 2 "_law_woken" ["round_flag", "sizes", "strengths", "places"] (spWoken K)) : FnOk P w K mg base CX0 3 f fd ["round_flag", "sizes", "strengths", "order"] (spLogL K) := by
  refine F.ok sc__law_log (fun vs H Q E h => ?_) (fun cdv A1 outer s H vs Q E hr h => ?_)
  · obtain ⟨r, la, sa, oa, ls, ss, xs, hs, rfl, _⟩ := h
    rfl
  · obtain ⟨r, la, sa, oa, ls, ss, xs, hs, rfl, hl, hsa, ok, n9, ho, hH, h9, hrow, q⟩ := h
    refine ⟨_, (pss_cons (ps_set (i := 4) sc__law_log.nd rfl (Or.inr rfl) (pe_callTy (call_listK K) (by rfl) T.m_list (by decide +kernel) (pa_cons (pv 2) pa_nil)))
      (pss_cons (ps_set (i := 5) sc__law_log.nd rfl (Or.inl rfl) (pe_lst pa_nil))
      (pss_cons (ps_for (PassesOwn.never) rfl (pi_listK K (pv 3)) (pg_name (i := 6) sc__law_log.nd rfl (Or.inl rfl)) (pss_cons (ps_set (i := 7) sc__law_log.nd rfl (Or.inl rfl) (pe_callB (cr_sortW (w := w) rfl) (by rfl) T.m_sorted (by decide +kernel) (pa_cons (pe_callTy (cr_setL (w := w) K rfl) (by rfl) T.m_set (by decide +kernel) (pa_cons (pv 6) pa_nil)) pa_nil)))
      (pss_cons (ps_set (i := 8) sc__law_log.nd rfl (Or.inr rfl) (pe_callD D__law_woken (hr.mono (by decide)) pass0 (pa_cons (pv 0) (pa_cons (pv 1) (pa_cons (pv 4) (pa_cons (pv 7) pa_nil))))))
      (pss_cons (ps_expr (pe_appK K (pv 5) (pa_cons (pe_tup (pa_cons (pe_callTy (call_tupleK K) (by rfl) T.m_tuple (by decide +kernel) (pa_cons (pv 7) pa_nil)) (pa_cons (pe_lc (own := [("k", 9)]) (g := gName 9) (tt := _) rfl sc__law_log.nd (pi_listK K (pv 7)) (blkOk_by (N := ["round_flag", "sizes", "strengths", "order", "now", "log", "handful", "places", "after", "k"]) (sc := defScope s__law_log) (by decide +kernel)) (fun _ _ _ _ _ => (by exact (pg_name (i := 9) sc__law_log.nd rfl (Or.inl rfl)))) (fun _ _ _ _ _ => (by exact (pts_one (pt_cmpR op_ne (pe_ix (ix_listK K) (pv 8) (pv 9) (fun _ _ => rfl)) (pe_ix (ix_listK K) (pv 4) (pv 9) (fun _ _ => rfl)) (nomark _))))) (fun _ _ _ _ _ => (by exact (pe_tup (pa_cons (pv 9) (pa_cons (pe_ix (ix_listK K) (pv 4) (pv 9) (fun _ _ => rfl)) (pa_cons (pe_ix (ix_listK K) (pv 8) (pv 9) (fun _ _ => rfl)) pa_nil))))))) pa_nil))) pa_nil)))
      (pss_one (ps_set (i := 4) sc__law_log.nd rfl (Or.inr rfl) (pv 8)))))))
      (pss_one (ps_ret (pe_tup (pa_cons (pv 4) (pa_cons (pv 5) pa_nil)))))))), ?_⟩
    walk_at "rd"
    refine g_lo (.inl hsa) fun na H1 nna S1 hna => ?_
    walk_at "rd"
    refine newL fun ga H2 nga S2 hga => ?_
    walk_at "rd"
    have S02 := S1.trans S2
    have nga0 : H ga = none := S1.free nga
    refine ⟨oa, rfl, ⟨_, SqL.of (S02 _ _ ho)⟩, for_list (xs := xs) (fun i σ H' => ∃ (v6 v7 v8 v9 : Option V) (na : Addr) (zs : List V), σ = [some (.bl r), some (.ref la), some (.ref sa), some (.ref oa), some (.ref na), some (.ref ga), v6, v7, v8, v9] ∧ Same H H' ∧ H na = none ∧ na ≠ ga ∧ H' na = some (.lst ((runS r ls ss (hs.take i)).map V.int)) ∧ H' ga = some (.lst zs) ∧ LogA (fun a => H a = none ∧ a ≠ ga) H' zs (logS r ls ss (hs.take i)))
      ⟨none, none, none, none, na, [], rfl, S02, nna, (fun z => by rw [z] at hna; rw [hna] at nga; cases nga), S2 _ _ hna, hga, LogA.nil⟩ (fun i σ H' _ ⟨_, _, _, _, _, _, _, S, _⟩ => SqL.of (S _ _ ho)) ?_ ?_⟩
    · clear S02 S2 S1 hna hga nga nna
      clear na
      rintro i x σ H' hx ⟨v6, v7, v8, v9, na, zs, rfl, S', nna, nng, hna, hga, hL⟩
      obtain ⟨row, t, hr, rfl, ht⟩ := (hH.mono S').at_ hx
      obtain ⟨r9, rg⟩ := hrow row (List.mem_of_getElem? hr)
      have okr : StOk (runS r ls ss (hs.take i)) ls := StOk.runS _ ok
      have rl : (runS r ls ss (hs.take i)).length = ss.length := runS_len _
      generalize hes : runS r ls ss (hs.take i) = es at hna okr rl
      have ll : zs.length ≤ 900 := by rw [hL.1, logS_len, List.length_take]; omega
      refine g_name ?_
      walk_at "rd"
      refine ⟨t, row, rfl, SqL.of ht, by omega, fun e2 cc ne2 hcc => ?_⟩
      walk_at "rd"
      refine ⟨e2, _, cc, rfl, upd_same, by omega, fun vs e3 pw mem len ne3 => ?_⟩
      have ev : vs = ascI row := ascI_eq pw fun v => by rw [mem]; exact decide_eq_true_iff
      subst ev
      have S3 : Same H' (upd H' e2 (SetO w e2 (fun j => decide (j ∈ row)) cc)) := Same.new ne2
      have S4 : Same (upd H' e2 (SetO w e2 (fun j => decide (j ∈ row)) cc)) (upd (upd H' e2 (SetO w e2 (fun j => decide (j ∈ row)) cc)) e3 (.lst ((ascI row).map V.int))) := Same.new ne3
      generalize hG : upd (upd H' e2 (SetO w e2 (fun j => decide (j ∈ row)) cc)) e3 (.lst ((ascI row).map V.int)) = H4 at S4 ⊢
      have h3 : H4 e3 = some (.lst ((ascI row).map V.int)) := by rw [← hG, upd_same]
      have S04 := S'.trans (S3.trans S4)
      have Sx := S3.trans S4
      clear hG
      walk_at "rd"
      have ag : ∀ q ∈ ascI row, 0 ≤ q ∧ q < (es.length : Int) := fun q hq => by rw [rl]; exact rg q ((ascI_mem row).mp hq)
      refine wokL_of ⟨r, la, na, e3, ls, es, ascI row, rfl, S04.seq hl, SqL.of (Sx _ _ hna), SqL.of h3, okr, ag, fun ea H5 nea S5 hea => ?_⟩
      have wc : wkS r es ls (ascI row) = wkS r es ls row := wkS_congr fun q => ascI_mem row
      rw [wc] at hea
      have Sy := Sx.trans S5
      walk_at "rd"
      refine ⟨ty_l (Sy _ _ hga), ?_⟩
      walk_at "rd"
      refine ⟨e3, _, rfl, .inl ⟨SqL.of (S5 _ _ h3), fun pt npt => ?_⟩⟩
      have S6 : Same H5 (upd H5 pt (.tup ((ascI row).map V.int))) := Same.new npt
      generalize hG : upd H5 pt (.tup ((ascI row).map V.int)) = H6 at S6 ⊢
      have h6 : H6 pt = some (.tup ((ascI row).map V.int)) := by rw [← hG, upd_same]
      clear hG
      have Sz := Sy.trans S6
      have hea6 := S6 _ _ hea
      walk_at "rd"
      have S06 := S'.trans Sz
      have nof : ∀ {Y : Hp} {a : Addr}, Same H' Y → Y a = none → H a = none ∧ a ≠ ga := fun S n => ⟨S'.free (S.free n), fun z => by rw [z, S _ _ hga] at n; cases n⟩
      have h36 := S6 _ _ (S5 _ _ h3)
      refine ⟨e3, rfl, ⟨_, SqL.of h36⟩, fun D nD => ?_⟩
      refine lc_list (xs := (ascI row).map V.int) (fun k H7 => ∃ ys : List V, Same H6 H7 ∧ H7 D = some (.lst ys) ∧ RW (fun a => (H a = none ∧ a ≠ ga) ∧ a ≠ D) true H7 ys (chgP es (fun q => rch r es ls q.toNat) row k)) ⟨[], Same.new nD, upd_same, RW.nil⟩ (fun k H7 _ ⟨_, S, _⟩ => SqL.of (S _ _ h36)) ?_ ?_
      · rintro k y H7 hy ⟨ys, S7, hD, hP⟩
        obtain ⟨v, hv, rfl⟩ : ∃ v, (ascI row)[k]? = some v ∧ y = V.int v := by
          rw [List.getElem?_map] at hy
          obtain ⟨v, a, b⟩ := Option.map_eq_some_iff.mp hy
          exact ⟨v, a, b.symm⟩
        have hvq : v ∈ row := (ascI_mem row).mp (List.mem_of_getElem? hv)
        obtain ⟨v0, v1⟩ := ag v (List.mem_of_getElem? hv)
        have wv : (wkS r es ls row).getD v.toNat 0 = rch r es ls v.toNat := by
          rw [wkS_at (by omega), if_pos (by rw [Int.toNat_of_nonneg v0]; exact hvq)]
        have wl : v < ((wkS r es ls row).length : Int) := by rw [wkS_len]; exact v1
        have hna7 := S7 _ _ (Sz _ _ hna)
        have hea7 := S7 _ _ hea6
        have st := chgP_step (ss := es) (aft := fun q => rch r es ls q.toNat) hv
        walk_at "rd"
        refine ⟨rfl, ?_⟩
        walk_at "rd"
        refine g_ixL (SqL.of hea7) (at_toNat v0 wl) ?_
        walk_at "rd"
        refine g_ixL (SqL.of hna7) (at_toNat v0 v1) ?_
        walk_at "rd"
        rw [wv]
        refine g_ite (fun e => ?_) (fun e => ?_)
        · have ne : ¬ rch r es ls v.toNat = es.getD v.toNat 0 := by simpa using e
          rw [if_neg ne] at st
          walk_at "rd"
          refine g_ixL (SqL.of hna7) (at_toNat v0 v1) ?_
          walk_at "rd"
          refine g_ixL (SqL.of hea7) (at_toNat v0 wl) ?_
          walk_at "rd"
          rw [wv]
          refine newT fun u H8 nu S8 hu => ?_
          have uD : u ≠ D := fun z => by rw [z, hD] at nu; cases nu
          refine ⟨ys, S8 _ _ hD, by rw [hP.len]; exact slt1000 (by have := chgP_len (ss := es) (aft := fun q => rch r es ls q.toNat) (qs := row) k; omega), ys ++ [V.ref u], (S7.trans S8).mut nD, upd_same, ?_⟩
          rw [st]
          exact ((hP.mono S8).more (row := [v, es.getD v.toNat 0, rch r es ls v.toNat]) ⟨nof (Sz.trans S7) nu, uD⟩ hu).upd fun t c => c.2
        · have eq : rch r es ls v.toNat = es.getD v.toNat 0 := by simpa using e
          rw [if_pos eq, List.append_nil] at st
          exact ⟨ys, S7, hD, by rw [st]; exact hP⟩
      rintro H7 ⟨ys, S7, hD, hP⟩
      rw [List.length_map] at hP
      walk_at "rd"
      refine newT fun u H8 nu S8 hu => ?_
      walk_at "rd"
      have S68 := S7.trans S8
      have Sw := Sz.trans S68
      have ent : EnA (fun a => H a = none ∧ a ≠ ga) H8 (.ref u) (entS r ls es row) := ⟨u, pt, D, ys, rfl, nof (Sz.trans S7) nu, nof Sy npt, nof Sz nD, hu, S68 _ _ h6, S8 _ _ hD, (hP.mono S8).weak fun t c => c.1⟩
      refine g_app (Sw _ _ hga) (slt1000 (by omega)) ?_
      have nea' := nof Sx nea
      walk_at "rd"
      refine ⟨_, _, _, _, ea, _, rfl, (S'.trans Sw).mut nga0, nea'.1, nea'.2, ?_, upd_same, ?_⟩
      · rw [upd_ne nea'.2, take_more hr, runS_app, hes]
        exact S68 _ _ hea6
      · rw [take_more hr, logS_app, hes]
        exact ((hL.mono Sw).more ent).upd fun t c => c.2
    · rintro σ H' ⟨v6, v7, v8, v9, na, zs, rfl, S', nna, nng, hna, hga, hL⟩
      rw [hH.1, List.take_of_length_le (Nat.le_refl _)] at hna hL
      walk_at "rd"
      refine newT fun u H2 nu S2 hu => ?_
      exact q u na ga zs H2 (S'.free nu) nna nga0 (S'.trans S2) (S2 _ _ hna) (S2 _ _ hga) (hL.mono S2) hu
/-! ### -/
end
end Rt
set_option Elab.async false
set_option linter.all false
set_option maxRecDepth 100000
set_option maxHeartbeats 4000000
namespace Rt
open PySem PySem.Spec L2
open PyProof.Rows (envOfC)
open LamX (CodeO TabS Tabs TabB)
local macro_rules | `(tactic| walk_at "rd1") => `(tactic| (with_reducible first
  | refine g_var (by with_unfolding_all rfl) ?_
  | refine g_c ?_
  | refine g_op ?_
  | refine g_I0 ?_
  | refine g_eqI ?_
  | refine g_neI ?_
  | refine g_eqB ?_
  | refine g_neB ?_
  | refine g_cons ?_
  | refine g_nil ?_
  | refine g_seq ?_
  | refine g_asg ?_
  | refine g_name ?_
  | refine g_ret ?_
  | refine g_retN ?_
  | refine g_drop ?_
  | refine g_next ?_
  | refine g_if ?_
  | refine g_test ?_
  | refine g_tB ?_
  | refine g_bl ?_
  | refine g_and ?_
  | refine g_or ?_
  | refine g_not ?_
  | refine g_andV ?_
  | refine g_orV ?_
  | refine g_notV ?_
  | refine g_ifE ?_
  | refine g_cb ?_
  | refine g_meth ?_
  | refine g_rev ?_
  | refine g_gcons ?_
  | refine g_gnil ?_
  | refine g_isB' ?_
  | refine g_gsub ?_
  | refine g_call ?_
  | refine g_callS ?_
  | refine g_bm ?_
  | refine g_un ?_
  | refine g_U ?_
  | refine g_chain ?_
  | refine g_sl ?_
  | refine g_brk ?_
  | refine g_ct ?_
  | refine g_ipI ?_
  | refine g_fld ?_
  | refine g_lst ?_
  | refine g_int ?_
  | refine g_for ?_
  | refine g_rg1 ?_
  | refine g_rg2 ?_
  | refine g_il ?_
  | refine g_it ?_
  | refine g_lc ?_
  | refine g_yes ?_
  | refine g_tup ?_
  | refine g_part ?_
  | refine g_xf ?_
  | refine g_nn ?_
  | refine g_mko ?_
  | refine g_lrg ?_
  | refine g_tr1 ?_
  | refine g_tr2 ?_
  | refine g_oi2 ?_
  | refine g_mk ?_
  | refine g_sfld ?_
  | refine g_ost ?_
  | refine g_oi ?_
  | refine g_nopart ?_
  | refine g_tt ?_
  | refine g_ff ?_
  | refine g_nt ?_
  | refine g_nf ?_
  | refine g_drn ?_
  | refine g_din ?_
  | refine g_dnn ?_
  | refine g_nrn ?_
  | refine g_nin ?_
  | refine g_nnn ?_))
local macro_rules | `(tactic| walk_at "rd") => `(tactic| (repeat walk_at "rd1"))

section
variable {P : Program} {w : World} {K : PySem.W.Frag} {mg : Str → Option Value} {base : Heap} {f : Addr} {fd : FuncData} {A : Ad} {TL : List (Addr × Str)}
/-! ### _law_unwound -/
def spUnwL (K : PySem.W.Frag) : Sp := fun vs H Q _ => ∃ (sa ga : Addr) (ss : List Int) (xs : List V) (L : List Ent), vs = [.ref sa, .ref ga] ∧ SqL K H sa (ss.map V.int) ∧ ss.length ≤ 1000 ∧ H ga = some (.lst xs) ∧ LogA (fun _ => True) H xs L ∧ (∀ e ∈ L, ∀ row ∈ e.2, row.length = 3) ∧ L.length ≤ 900 ∧
  ∀ (t na : Addr) (H' : Hp), H t = none → H na = none → Same H H' → H' na = some (.lst ((unwF L L.length ss).2.map V.int)) → H' t = some (.tup [oV (unwF L L.length ss).1, .ref na]) → Q (.ref t) H'
theorem ok_unwL (F : Fun K "_law_unwound" "_law_unwound" s__law_unwound f fd) (T : Txt K mg A) : FnOk P w K mg base CX0 1 f fd ["strengths", "log"] (spUnwL K) := by
  refine F.ok sc__law_unwound (fun vs H Q E h => ?_) (fun cdv A1 outer s H vs Q E hr h => ?_)
  · obtain ⟨sa, ga, ss, xs, L, rfl, _⟩ := h
    rfl
  · obtain ⟨sa, ga, ss, xs, L, rfl, hs, n1, hg, hL, h3, h9, q⟩ := h
    have xl : xs.length = L.length := hL.1
    refine ⟨_, (pss_cons (ps_set (i := 2) sc__law_unwound.nd rfl (Or.inl rfl) (pe_callTy (call_listK K) (by rfl) T.m_list (by decide +kernel) (pa_cons (pv 0) pa_nil)))
      (pss_cons (ps_for (PassesOwn.never) rfl (pi_range1 rfl T.m_range (pa_cons (pe_callB (call_lenK K) (by rfl) T.m_len PySem.boot_len (pa_cons (pv 1) pa_nil)) pa_nil)) (pg_name (i := 3) sc__law_unwound.nd rfl (Or.inl rfl)) (pss_cons (ps_set (i := 4) sc__law_unwound.nd rfl (Or.inl rfl) (pe_op op_sub (pe_op op_sub (pe_callB (call_lenK K) (by rfl) T.m_len PySem.boot_len (pa_cons (pv 1) pa_nil)) pe_int) (pv 3)))
      (pss_cons (ps_for (PassesOwn.never) rfl (pi_listK K (pe_ix (ix_tupK K) (pe_ix (ix_listK K) (pv 1) (pv 4) (fun _ _ => rfl)) pe_int (fun _ _ => rfl))) (pg_name (i := 5) sc__law_unwound.nd rfl (Or.inl rfl)) (pss_one (ps_if (PW.pt (pw_or (pt_cmpR op_lt (pe_ix (ix_tupK K) (pv 5) pe_int (fun _ _ => rfl)) pe_int (nomark _)) (pw_or (pt_cmpR op_ge (pe_ix (ix_tupK K) (pv 5) pe_int (fun _ _ => rfl)) (pe_callB (call_lenK K) (by rfl) T.m_len PySem.boot_len (pa_cons (pv 2) pa_nil)) (nomark _)) (pw_or1 (pt_cmpR op_ne (pe_ix (ix_listK K) (pv 2) (pe_ix (ix_tupK K) (pv 5) pe_int (fun _ _ => rfl)) (fun _ _ => rfl)) (pe_ix (ix_tupK K) (pv 5) pe_int (fun _ _ => rfl)) (nomark _)))))) (pss_one (ps_ret (pe_tup (pa_cons (pv 4) (pa_cons (pv 2) pa_nil))))) pss_nil)))
      (pss_one (ps_for (PassesOwn.never) rfl (pi_listK K (pe_ix (ix_tupK K) (pe_ix (ix_listK K) (pv 1) (pv 4) (fun _ _ => rfl)) pe_int (fun _ _ => rfl))) (pg_name (i := 5) sc__law_unwound.nd rfl (Or.inl rfl)) (pss_one (ps_asg (pe_ix (ix_tupK K) (pv 5) pe_int (fun _ _ => rfl)) (pg_sub (pv 2) (pe_ix (ix_tupK K) (pv 5) pe_int (fun _ _ => rfl)) set_list))))))))
      (pss_one (ps_ret (pe_tup (pa_cons pe_non (pa_cons (pv 2) pa_nil))))))), ?_⟩
    walk_at "rd"
    refine g_lo (.inl hs) fun na H1 nna S1 hna => ?_
    walk_at "rd"
    refine ⟨ga, _, rfl, .inl (SqL.of (S1 _ _ hg)), ?_⟩
    rw [xl]
    walk_at "rd"
    refine ⟨_, rfl, by omega, by omega, for_range (lo := 0) (fun i σ H' => ∃ (v3 v4 v5 : Option V) (es : List Int), σ = [some (.ref sa), some (.ref ga), some (.ref na), v3, v4, v5] ∧ Same H H' ∧ H' na = some (.lst (es.map V.int)) ∧ es.length = ss.length ∧ unwF L (L.length - i) es = unwF L L.length ss)
      ⟨none, none, none, ss, rfl, S1, hna, rfl, rfl⟩ ?_ ?_⟩
    · rintro i σ H' hi ⟨v3, v4, v5, es, rfl, S', hna', le, hu⟩
      have hi' : i < L.length := by simpa using hi
      obtain ⟨k, ek⟩ : ∃ k, L.length - i = k + 1 := ⟨L.length - i - 1, by omega⟩
      have kl : k < L.length := by omega
      rw [Int.zero_add]
      obtain ⟨e, he⟩ : ∃ e, L[k]? = some e := ⟨L[k], List.getElem?_eq_getElem kl⟩
      have eD : L.getD k ([], []) = e := by rw [List.getD_eq_getElem?_getD, he]; rfl
      obtain ⟨x, hx, t, pa, ca, ys, rfl, _, _, _, ht0, hpa0, hca0, hR0⟩ := hL.at_ he
      have nca : ca ≠ na := fun z => by rw [z, nna] at hca0; cases hca0
      have e3 := h3 e (List.mem_of_getElem? he)
      rw [ek, unwF_step, eD] at hu
      walk_at "rd"
      refine ⟨ga, _, rfl, .inl (SqL.of (S' _ _ hg)), ?_⟩
      rw [xl]
      walk_at "rd"
      rw [show (L.length : Int) - 1 - (i : Int) = ((k : Nat) : Int) by omega]
      refine g_ixL (SqL.of (S' _ _ hg)) (atI_nat hx) ?_
      walk_at "rd"
      refine g_ixT (SqT.of (S' _ _ ht0)) (atI_nat (j := 1) (v := V.ref ca) rfl) ?_
      have hca := S' _ _ hca0
      have hR := hR0.mono S'
      walk_at "rd"
      refine ⟨ca, rfl, ⟨_, SqL.of hca⟩, for_list (xs := ys) (fun j σ H2 => ∃ v5 : Option V, σ = [some (.ref sa), some (.ref ga), some (.ref na), some (.int (i : Int)), some (.int (k : Int)), v5] ∧ H2 = H' ∧ (e.2.take j).all (endB es) = true) ⟨v5, rfl, rfl, rfl⟩ (fun j σ H2 _ ⟨_, _, z, _⟩ => by rw [z]; exact SqL.of hca) ?_ ?_⟩
      · rintro j y σ H2 hy ⟨v5, rfl, rfl, hall⟩
        obtain ⟨row, u, hrow, rfl, _, hu2⟩ := hR.of hy
        have rm := List.mem_of_getElem? hrow
        obtain ⟨p, b0, a0, rfl⟩ : ∃ p b a, row = [p, b, a] := by
          match row, e3 row rm with
          | [p, b, a], _ => exact ⟨p, b, a, rfl⟩
        have no : endB es [p, b0, a0] = false → ∀ u H3, H t = none ∨ True → H2 u = none → Same H2 H3 → H3 u = some (.tup [.int (k : Int), .ref na]) → Q (.ref u) H3 := fun z u H3 _ nu S3 hu3 => by
          have hend : endsIn e.2 es = false := by
            unfold endsIn
            rw [List.all_eq_false]
            exact ⟨_, rm, by rw [z]; exact Bool.false_ne_true⟩
          rw [hend, if_neg Bool.false_ne_true] at hu
          refine q u na H3 (S'.free nu) nna (S'.trans S3) ?_ ?_
          · rw [← hu]; exact S3 _ _ hna'
          · rw [← hu]; exact hu3
        walk_at "rd"
        refine g_ixT (SqT.of hu2) (atI_nat (j := 0) rfl) ?_
        walk_at "rd"
        refine g_ite (fun e => ?_) (fun e => ?_)
        · have z : endB es [p, b0, a0] = false := by
            unfold endB
            have : ¬ 0 ≤ p := by have := of_decide_eq_true e; omega
            show ((decide (0 ≤ p) && decide (p < (es.length : Int))) && _) = false
            rw [decide_eq_false this]; rfl
          walk_at "rd"
          exact newT fun u H3 nu S3 hu3 => no z u H3 (.inr trivial) nu S3 hu3
        · have p0 : 0 ≤ p := by have := of_decide_eq_false e; omega
          walk_at "rd"
          refine g_ixT (SqT.of hu2) (atI_nat (j := 0) rfl) ?_
          walk_at "rd"
          refine ⟨na, _, rfl, .inl (SqL.of hna'), ?_⟩
          rw [List.length_map]
          walk_at "rd"
          refine g_ite (fun e => ?_) (fun e => ?_)
          · have z : endB es [p, b0, a0] = false := by
              unfold endB
              have : ¬ p < (es.length : Int) := by have := of_decide_eq_true e; omega
              show ((decide (0 ≤ p) && decide (p < (es.length : Int))) && _) = false
              rw [decide_eq_false this]; simp
            walk_at "rd"
            exact newT fun u H3 nu S3 hu3 => no z u H3 (.inr trivial) nu S3 hu3
          · have p1 : p < (es.length : Int) := by have := of_decide_eq_false e; omega
            obtain ⟨m, em, hm⟩ : ∃ m : Nat, p = (m : Int) ∧ m < es.length := ⟨p.toNat, by omega, by omega⟩
            subst em
            have be : endB es [(m : Int), b0, a0] = decide (es.getD m 0 = a0) := by
              unfold endB
              show ((decide (0 ≤ (m : Int)) && decide ((m : Int) < (es.length : Int))) && decide (es.getD ((m : Int)).toNat 0 = a0)) = _
              rw [decide_eq_true p0, decide_eq_true p1, Int.toNat_natCast]; rfl
            walk_at "rd"
            refine g_ixT (SqT.of hu2) (atI_nat (j := 0) rfl) ?_
            refine g_ixL (SqL.of hna') (at_int hm) ?_
            walk_at "rd"
            refine g_ixT (SqT.of hu2) (atI_nat (j := 2) rfl) ?_
            walk_at "rd"
            refine g_ite (fun e => ?_) (fun e => ?_)
            · have z : endB es [(m : Int), b0, a0] = false := by
                rw [be]; exact decide_eq_false (by simpa using e)
              walk_at "rd"
              exact newT fun u H3 nu S3 hu3 => no z u H3 (.inr trivial) nu S3 hu3
            · have z : endB es [(m : Int), b0, a0] = true := by
                rw [be]; exact decide_eq_true (by simpa using e)
              walk_at "rd"
              exact ⟨_, rfl, rfl, by rw [all_take hrow, hall, z]; rfl⟩
      · rintro σ H2 ⟨v5, rfl, rfl, hall⟩
        rw [hR.len, List.take_length] at hall
        have hend : endsIn e.2 es = true := hall
        rw [hend, if_pos rfl] at hu
        walk_at "rd"
        refine g_ixL (SqL.of (S' _ _ hg)) (atI_nat hx) ?_
        walk_at "rd"
        refine g_ixT (SqT.of (S' _ _ ht0)) (atI_nat (j := 1) (v := V.ref ca) rfl) ?_
        refine ⟨ca, rfl, ⟨_, SqL.of hca⟩, for_list (xs := ys) (fun j σ H3 => ∃ v5 : Option V, σ = [some (.ref sa), some (.ref ga), some (.ref na), some (.int (i : Int)), some (.int (k : Int)), v5] ∧ Same H H3 ∧ H3 ca = some (.lst ys) ∧ H3 na = some (.lst ((undoL es (e.2.take j)).map V.int)) ∧ RW (fun t => t ≠ na) true H3 ys e.2) ⟨v5, rfl, S', hca, hna', ?_⟩ (fun j σ H3 _ ⟨_, _, _, z, _⟩ => SqL.of z) ?_ ?_⟩
        · refine ⟨hR.1, fun j hj => ?_⟩
          obtain ⟨u, a1, a2, a3⟩ := hR.2 j hj
          exact ⟨u, a1, (fun z => by rw [z, hna'] at a3; cases a3), a3⟩
        · rintro j y σ H3 hy ⟨v5, rfl, S3, hca3, hna3, hR3⟩
          obtain ⟨row, u, hrow, rfl, nu, hu2⟩ := hR3.of hy
          have rm := List.mem_of_getElem? hrow
          have eb : endB es row = true := List.all_eq_true.mp hend row rm
          obtain ⟨p, b0, a0, rfl⟩ : ∃ p b a, row = [p, b, a] := by
            match row, e3 row rm with
            | [p, b, a], _ => exact ⟨p, b, a, rfl⟩
          have pr : 0 ≤ p ∧ p < (es.length : Int) := by
            unfold endB at eb
            have := (Bool.and_eq_true_iff.mp (Bool.and_eq_true_iff.mp eb).1)
            exact ⟨of_decide_eq_true this.1, of_decide_eq_true this.2⟩
          obtain ⟨m, em, hm⟩ : ∃ m : Nat, p = (m : Int) ∧ m < es.length := ⟨p.toNat, by omega, by omega⟩
          subst em
          walk_at "rd"
          refine g_ixT (SqT.of hu2) (atI_nat (j := 1) rfl) ?_
          walk_at "rd"
          refine g_ixT (SqT.of hu2) (atI_nat (j := 0) rfl) ?_
          refine g_set hna3 (by rw [undoL_len]; exact hm) ?_
          refine ⟨_, rfl, S3.mut nna, by rw [upd_ne nca]; exact hca3, ?_, hR3.upd fun t c => c⟩
          rw [upd_same, take_more hrow, undoL_app]; rfl
        · rintro σ H3 ⟨v5, rfl, S3, hca3, hna3, hR3⟩
          rw [hR3.len, List.take_length] at hna3
          refine ⟨_, _, _, _, rfl, S3, hna3, by rw [undoL_len]; exact le, ?_⟩
          rw [show L.length - (i + 1) = k by omega]
          exact hu
    · rintro σ H' ⟨v3, v4, v5, es, rfl, S', hna', le, hu⟩
      rw [Int.toNat_natCast, Nat.sub_self] at hu
      walk_at "rd"
      have hu' : unwF L L.length ss = (none, es) := hu.symm
      refine newT fun u H2 nu S2 hu2 => ?_
      exact q u na H2 (S'.free nu) nna (S'.trans S2) (by rw [hu']; exact S2 _ _ hna') (by rw [hu']; exact hu2)
/-! ### -/
end
end Rt
set_option Elab.async false
set_option linter.all false
set_option maxRecDepth 100000
set_option maxHeartbeats 4000000
namespace Rt
open PySem PySem.Spec L2
open PyProof.Rows (envOfC)
open LamX (CodeO TabS Tabs TabB)
local macro_rules | `(tactic| walk_at "rd1") => `(tactic| (with_reducible first
  | refine g_var (by with_unfolding_all rfl) ?_
  | refine g_c ?_
  | refine g_op ?_
  | refine g_I0 ?_
  | refine g_eqI ?_
  | refine g_neI ?_
  | refine g_eqB ?_
  | refine g_neB ?_
  | refine g_cons ?_
  | refine g_nil ?_
  | refine g_seq ?_
  | refine g_asg ?_
  | refine g_name ?_
  | refine g_ret ?_
  | refine g_retN ?_
  | refine g_drop ?_
  | refine g_next ?_
  | refine g_if ?_
  | refine g_test ?_
  | refine g_tB ?_
  | refine g_bl ?_
  | refine g_and ?_
  | refine g_or ?_
  | refine g_not ?_
  | refine g_andV ?_
  | refine g_orV ?_
  | refine g_notV ?_
  | refine g_ifE ?_
  | refine g_cb ?_
  | refine g_meth ?_
  | refine g_rev ?_
  | refine g_gcons ?_
  | refine g_gnil ?_
  | refine g_isB' ?_
  | refine g_gsub ?_
  | refine g_call ?_
  | refine g_callS ?_
  | refine g_bm ?_
  | refine g_un ?_
  | refine g_U ?_
  | refine g_chain ?_
  | refine g_sl ?_
  | refine g_brk ?_
  | refine g_ct ?_
  | refine g_ipI ?_
  | refine g_fld ?_
  | refine g_lst ?_
  | refine g_int ?_
  | refine g_for ?_
  | refine g_rg1 ?_
  | refine g_rg2 ?_
  | refine g_il ?_
  | refine g_it ?_
  | refine g_lc ?_
  | refine g_yes ?_
  | refine g_tup ?_
  | refine g_part ?_
  | refine g_xf ?_
  | refine g_nn ?_
  | refine g_mko ?_
  | refine g_lrg ?_
  | refine g_tr1 ?_
  | refine g_tr2 ?_
  | refine g_oi2 ?_
  | refine g_mk ?_
  | refine g_sfld ?_
  | refine g_ost ?_
  | refine g_oi ?_
  | refine g_nopart ?_
  | refine g_tt ?_
  | refine g_ff ?_
  | refine g_nt ?_
  | refine g_nf ?_
  | refine g_drn ?_
  | refine g_din ?_
  | refine g_dnn ?_
  | refine g_nrn ?_
  | refine g_nin ?_
  | refine g_nnn ?_))
local macro_rules | `(tactic| walk_at "rd") => `(tactic| (repeat walk_at "rd1"))

local macro_rules | `(tactic| walk_at "rd1") => `(tactic| (with_reducible first
  | refine g_xfG ?_))
section
variable {P : Program} {w : World} {K : PySem.W.Frag} {mg : Str → Option Value} {base : Heap} {f : Addr} {fd : FuncData} {A : Ad}
/-! ### _law_is_changes @k04,k05,k28 -/
def spIsChg : Sp := fun vs H Q _ => ∃ (a d : Addr) (xs ys : List V) (l : List (List Int)), vs = [.ref a, .ref d] ∧ H a = some (.lst xs) ∧ H d = some (.lst ys) ∧ RW (fun _ => True) true H xs l ∧ RW (fun _ => True) true H ys l ∧ l.length ≤ 1000 ∧ (∀ row ∈ l, row.length ≤ 10) ∧ Q (.bl true) H
theorem ok_isChg (F : Fun K "_law_is_changes" "_law_is_changes" s__law_is_changes f fd) (T : Txt K mg A) (D__law_numbers : DefOk P w K mg base CX0 2 "_law_numbers" ["actual", "due", "as_tuple"] (spNumbersT K)) : FnOk P w K mg base CX0 3 f fd ["actual", "due"] spIsChg := by
  refine F.ok sc__law_is_changes (fun vs H Q E h => ?_) (fun cdv A1 outer s H vs Q E hr h => ?_)
  · obtain ⟨a, d, xs, ys, l, rfl, _⟩ := h
    rfl
  · obtain ⟨a, d, xs, ys, l, rfl, ha, hd, hP, hD, nl, hw, q⟩ := h
    have lx := hP.len
    have ly := hD.len
    refine ⟨_, (pss_cons (ps_if (PW.pt (pw_or (pt_not (pt_val (pe_callB (call_isiQ K) (by rfl) T.m_isinstance (by decide +kernel) (pa_cons (pv 0) (pa_cons (pe_bltn (v := .ty "list") (by rfl) T.m_list (by decide +kernel) rfl) pa_nil))))) (pw_or1 (pt_cmpR op_ne (pe_callB (call_lenK K) (by rfl) T.m_len PySem.boot_len (pa_cons (pv 0) pa_nil)) (pe_callB (call_lenK K) (by rfl) T.m_len PySem.boot_len (pa_cons (pv 1) pa_nil)) (nomark _))))) (pss_one (ps_ret pe_bl)) pss_nil)
      (pss_cons (ps_for (PassesOwn.never) rfl (pi_range1 rfl T.m_range (pa_cons (pe_callB (call_lenK K) (by rfl) T.m_len PySem.boot_len (pa_cons (pv 1) pa_nil)) pa_nil)) (pg_name (i := 2) sc__law_is_changes.nd rfl (Or.inl rfl)) (pss_one (ps_if (pt_not (pt_val (pe_callD D__law_numbers (hr.mono (by decide)) pass0 (pa_cons (pe_ix (ix_listK K) (pv 0) (pv 2) (fun _ _ => rfl)) (pa_cons (pe_ix (ix_listK K) (pv 1) (pv 2) (fun _ _ => rfl)) (pa_cons pe_bl pa_nil)))))) (pss_one (ps_ret pe_bl)) pss_nil)))
      (pss_one (ps_ret pe_bl)))), ?_⟩
    walk_at "rd"
    refine g_isi (b := true) (.base (.lst ha)) (by decide +kernel) ?_
    walk_at "rd"
    refine ⟨a, _, rfl, .inl (SqL.of ha), ?_⟩
    walk_at "rd"
    refine ⟨d, _, rfl, .inl (SqL.of hd), ?_⟩
    rw [lx, ly]
    walk_at "rd"
    refine g_iff (by rw [decide_eq_true rfl]; rfl) ?_
    walk_at "rd"
    refine ⟨d, _, rfl, .inl (SqL.of hd), ?_⟩
    rw [ly]
    walk_at "rd"
    refine ⟨_, rfl, by omega, by omega, for_range (lo := 0) (fun i σ H' => ∃ v3 : Option V, σ = [some (.ref a), some (.ref d), v3] ∧ H' = H) ⟨none, rfl, rfl⟩ ?_ ?_⟩
    · rintro i σ H' hi ⟨v3, rfl, rfl⟩
      have hi' : i < l.length := by simpa using hi
      obtain ⟨t1, x1, _, h1⟩ := hP.at_ (List.getElem?_eq_getElem hi')
      obtain ⟨t0, x0, _, h0⟩ := hD.at_ (List.getElem?_eq_getElem hi')
      rw [Int.zero_add]
      walk_at "rd"
      refine g_ixL (SqL.of ha) (atI_nat x1) ?_
      walk_at "rd"
      refine g_ixL (SqL.of hd) (atI_nat x0) ?_
      walk_at "rd"
      refine ⟨t1, t0, true, l[i], l[i], rfl, h1, SqT.of h0, by have := hw _ (List.getElem_mem hi'); omega, ?_⟩
      rw [decide_eq_true rfl]
      walk_at "rd"
      exact ⟨_, rfl, rfl⟩
    · rintro σ H' ⟨v3, rfl, rfl⟩
      walk_at "rd"
      exact q
/-! ### -/
end
end Rt
set_option Elab.async false
set_option linter.all false
set_option maxRecDepth 100000
set_option maxHeartbeats 4000000
namespace Rt
open PySem PySem.Spec L2
open PyProof.Rows (envOfC)
open LamX (CodeO TabS Tabs TabB)
local macro_rules | `(tactic| walk_at "rd1") => `(tactic| (with_reducible first
  | refine g_var (by with_unfolding_all rfl) ?_
  | refine g_c ?_
  | refine g_op ?_
  | refine g_I0 ?_
  | refine g_eqI ?_
  | refine g_neI ?_
  | refine g_eqB ?_
  | refine g_neB ?_
  | refine g_cons ?_
  | refine g_nil ?_
  | refine g_seq ?_
  | refine g_asg ?_
  | refine g_name ?_
  | refine g_ret ?_
  | refine g_retN ?_
  | refine g_drop ?_
  | refine g_next ?_
  | refine g_if ?_
  | refine g_test ?_
  | refine g_tB ?_
  | refine g_bl ?_
  | refine g_and ?_
  | refine g_or ?_
  | refine g_not ?_
  | refine g_andV ?_
  | refine g_orV ?_
  | refine g_notV ?_
  | refine g_ifE ?_
  | refine g_cb ?_
  | refine g_meth ?_
  | refine g_rev ?_
  | refine g_gcons ?_
  | refine g_gnil ?_
  | refine g_isB' ?_
  | refine g_gsub ?_
  | refine g_call ?_
  | refine g_callS ?_
  | refine g_bm ?_
  | refine g_un ?_
  | refine g_U ?_
  | refine g_chain ?_
  | refine g_sl ?_
  | refine g_brk ?_
  | refine g_ct ?_
  | refine g_ipI ?_
  | refine g_fld ?_
  | refine g_lst ?_
  | refine g_int ?_
  | refine g_for ?_
  | refine g_rg1 ?_
  | refine g_rg2 ?_
  | refine g_il ?_
  | refine g_it ?_
  | refine g_lc ?_
  | refine g_yes ?_
  | refine g_tup ?_
  | refine g_part ?_
  | refine g_xf ?_
  | refine g_nn ?_
  | refine g_mko ?_
  | refine g_lrg ?_
  | refine g_tr1 ?_
  | refine g_tr2 ?_
  | refine g_oi2 ?_
  | refine g_mk ?_
  | refine g_sfld ?_
  | refine g_ost ?_
  | refine g_oi ?_
  | refine g_nopart ?_
  | refine g_tt ?_
  | refine g_ff ?_
  | refine g_nt ?_
  | refine g_nf ?_
  | refine g_drn ?_
  | refine g_din ?_
  | refine g_dnn ?_
  | refine g_nrn ?_
  | refine g_nin ?_
  | refine g_nnn ?_))
local macro_rules | `(tactic| walk_at "rd") => `(tactic| (repeat walk_at "rd1"))

section
variable {P : Program} {w : World} {K : PySem.W.Frag} {mg : Str → Option Value} {base : Heap} {f : Addr} {fd : FuncData} {A : Ad} {TL : List (Addr × Str)}
/-! ### _law_is_log -/
def spIsLog (K : PySem.W.Frag) : Sp := fun vs H Q _ => ∃ (a d : Addr) (xs ys : List V) (L : List Ent), vs = [.ref a, .ref d] ∧ H a = some (.lst xs) ∧ H d = some (.lst ys) ∧ LogA (fun _ => True) H xs L ∧ LogA (fun _ => True) H ys L ∧ L.length ≤ 1000 ∧ (∀ e ∈ L, e.1.length ≤ 1000 ∧ e.2.length ≤ 1000 ∧ ∀ row ∈ e.2, row.length ≤ 10) ∧ Q (.bl true) H
theorem ok_isLog (F : Fun K "_law_is_log" "_law_is_log" s__law_is_log f fd) (T : Txt K mg A) (D__law_numbers : DefOk P w K mg base CX0 2 "_law_numbers" ["actual", "due", "as_tuple"] (spNumbersT K)) (D__law_is_changes : DefOk P w K mg base CX0 3 "_law_is_changes" ["actual", "due"] spIsChg) : FnOk P w K mg base CX0 4 f fd ["actual", "due"] (spIsLog K) := by
  refine F.ok sc__law_is_log (fun vs H Q E h => ?_) (fun cdv A1 outer s H vs Q E hr h => ?_)
  · obtain ⟨a, d, xs, ys, L, rfl, _⟩ := h
    rfl
  · obtain ⟨a, d, xs, ys, L, rfl, ha, hd, hP, hD, nl, hw, q⟩ := h
    have lx := hP.1
    have ly := hD.1
    refine ⟨_, (pss_cons (ps_if (PW.pt (pw_or (pt_not (pt_val (pe_callB (call_isiQ K) (by rfl) T.m_isinstance (by decide +kernel) (pa_cons (pv 0) (pa_cons (pe_bltn (v := .ty "list") (by rfl) T.m_list (by decide +kernel) rfl) pa_nil))))) (pw_or1 (pt_cmpR op_ne (pe_callB (call_lenK K) (by rfl) T.m_len PySem.boot_len (pa_cons (pv 0) pa_nil)) (pe_callB (call_lenK K) (by rfl) T.m_len PySem.boot_len (pa_cons (pv 1) pa_nil)) (nomark _))))) (pss_one (ps_ret pe_bl)) pss_nil)
      (pss_cons (ps_for (PassesOwn.never) rfl (pi_range1 rfl T.m_range (pa_cons (pe_callB (call_lenK K) (by rfl) T.m_len PySem.boot_len (pa_cons (pv 1) pa_nil)) pa_nil)) (pg_name (i := 2) sc__law_is_log.nd rfl (Or.inl rfl)) (pss_cons (ps_set (i := 3) sc__law_is_log.nd rfl (Or.inl rfl) (pe_ix (ix_listK K) (pv 0) (pv 2) (fun _ _ => rfl)))
      (pss_cons (ps_if (PW.pt (pw_or (pt_not (pt_val (pe_callB (call_isiQ K) (by rfl) T.m_isinstance (by decide +kernel) (pa_cons (pv 3) (pa_cons (pe_bltn (v := .ty "tuple") (by rfl) T.m_tuple (by decide +kernel) rfl) pa_nil))))) (pw_or1 (pt_cmpR op_ne (pe_callB (call_lenK K) (by rfl) T.m_len PySem.boot_len (pa_cons (pv 3) pa_nil)) pe_int (nomark _))))) (pss_one (ps_ret pe_bl)) pss_nil)
      (pss_one (ps_if (PW.pt (pw_or (pt_not (pt_val (pe_callD D__law_numbers (hr.mono (by decide)) pass0 (pa_cons (pe_ix (ix_tupK K) (pv 3) pe_int (fun _ _ => rfl)) (pa_cons (pe_ix (ix_tupK K) (pe_ix (ix_listK K) (pv 1) (pv 2) (fun _ _ => rfl)) pe_int (fun _ _ => rfl)) (pa_cons pe_bl pa_nil)))))) (pw_or1 (pt_not (pt_val (pe_callD D__law_is_changes (hr.mono (by decide)) pass0 (pa_cons (pe_ix (ix_tupK K) (pv 3) pe_int (fun _ _ => rfl)) (pa_cons (pe_ix (ix_tupK K) (pe_ix (ix_listK K) (pv 1) (pv 2) (fun _ _ => rfl)) pe_int (fun _ _ => rfl)) pa_nil)))))))) (pss_one (ps_ret pe_bl)) pss_nil)))))
      (pss_one (ps_ret pe_bl)))), ?_⟩
    walk_at "rd"
    refine g_isi (b := true) (.base (.lst ha)) (by decide +kernel) ?_
    walk_at "rd"
    refine ⟨a, _, rfl, .inl (SqL.of ha), ?_⟩
    walk_at "rd"
    refine ⟨d, _, rfl, .inl (SqL.of hd), ?_⟩
    rw [lx, ly]
    walk_at "rd"
    refine g_iff (by rw [decide_eq_true rfl]; rfl) ?_
    walk_at "rd"
    refine ⟨d, _, rfl, .inl (SqL.of hd), ?_⟩
    rw [ly]
    walk_at "rd"
    refine ⟨_, rfl, by omega, by omega, for_range (lo := 0) (fun i σ H' => ∃ v2 v3 : Option V, σ = [some (.ref a), some (.ref d), v2, v3] ∧ H' = H) ⟨none, none, rfl, rfl⟩ ?_ ?_⟩
    · rintro i σ H' hi ⟨v2, v3, rfl, rfl⟩
      have hi' : i < L.length := by simpa using hi
      obtain ⟨x1, e1, t1, pa1, ca1, zs1, rfl, _, _, _, ht1, hp1, hc1, hR1⟩ := hP.at_ (List.getElem?_eq_getElem hi')
      obtain ⟨x0, e0, t0, pa0, ca0, zs0, rfl, _, _, _, ht0, hp0, hc0, hR0⟩ := hD.at_ (List.getElem?_eq_getElem hi')
      obtain ⟨w1, w2, w3⟩ := hw _ (List.getElem_mem hi')
      rw [Int.zero_add]
      walk_at "rd"
      refine g_ixL (SqL.of ha) (atI_nat e1) ?_
      walk_at "rd"
      refine g_isi (b := true) (.base (.tup ht1)) (by decide +kernel) ?_
      walk_at "rd"
      refine ⟨t1, _, rfl, .inr (SqT.of ht1), ?_⟩
      walk_at "rd"
      refine g_iff (by rfl) ?_
      walk_at "rd"
      refine g_ixT (SqT.of ht1) (atI_nat (j := 0) (v := V.ref pa1) rfl) ?_
      walk_at "rd"
      refine g_ixL (SqL.of hd) (atI_nat e0) ?_
      walk_at "rd"
      refine g_ixT (SqT.of ht0) (atI_nat (j := 0) (v := V.ref pa0) rfl) ?_
      walk_at "rd"
      refine ⟨pa1, pa0, true, _, _, rfl, hp1, SqT.of hp0, by omega, ?_⟩
      rw [decide_eq_true rfl]
      walk_at "rd"
      refine g_ixT (SqT.of ht1) (atI_nat (j := 1) (v := V.ref ca1) rfl) ?_
      walk_at "rd"
      refine g_ixL (SqL.of hd) (atI_nat e0) ?_
      walk_at "rd"
      refine g_ixT (SqT.of ht0) (atI_nat (j := 1) (v := V.ref ca0) rfl) ?_
      walk_at "rd"
      refine ⟨ca1, ca0, zs1, zs0, _, rfl, hc1, hc0, hR1, hR0, w2, w3, ?_⟩
      walk_at "rd"
      exact ⟨_, _, rfl, rfl⟩
    · rintro σ H' ⟨v2, v3, rfl, rfl⟩
      walk_at "rd"
      exact q
/-! ### -/
end
end Rt
set_option Elab.async false
set_option linter.all false
set_option maxRecDepth 100000
set_option maxHeartbeats 4000000
namespace Rt
open PySem PySem.Spec L2
open PyProof.Rows (envOfC)
open LamX (CodeO TabS Tabs TabB)
local macro_rules | `(tactic| walk_at "rd1") => `(tactic| (with_reducible first
  | refine g_var (by with_unfolding_all rfl) ?_
  | refine g_c ?_
  | refine g_op ?_
  | refine g_I0 ?_
  | refine g_eqI ?_
  | refine g_neI ?_
  | refine g_eqB ?_
  | refine g_neB ?_
  | refine g_cons ?_
  | refine g_nil ?_
  | refine g_seq ?_
  | refine g_asg ?_
  | refine g_name ?_
  | refine g_ret ?_
  | refine g_retN ?_
  | refine g_drop ?_
  | refine g_next ?_
  | refine g_if ?_
  | refine g_test ?_
  | refine g_tB ?_
  | refine g_bl ?_
  | refine g_and ?_
  | refine g_or ?_
  | refine g_not ?_
  | refine g_andV ?_
  | refine g_orV ?_
  | refine g_notV ?_
  | refine g_ifE ?_
  | refine g_cb ?_
  | refine g_meth ?_
  | refine g_rev ?_
  | refine g_gcons ?_
  | refine g_gnil ?_
  | refine g_isB' ?_
  | refine g_gsub ?_
  | refine g_call ?_
  | refine g_callS ?_
  | refine g_bm ?_
  | refine g_un ?_
  | refine g_U ?_
  | refine g_chain ?_
  | refine g_sl ?_
  | refine g_brk ?_
  | refine g_ct ?_
  | refine g_ipI ?_
  | refine g_fld ?_
  | refine g_lst ?_
  | refine g_int ?_
  | refine g_for ?_
  | refine g_rg1 ?_
  | refine g_rg2 ?_
  | refine g_il ?_
  | refine g_it ?_
  | refine g_lc ?_
  | refine g_yes ?_
  | refine g_tup ?_
  | refine g_part ?_
  | refine g_xf ?_
  | refine g_nn ?_
  | refine g_mko ?_
  | refine g_lrg ?_
  | refine g_tr1 ?_
  | refine g_tr2 ?_
  | refine g_oi2 ?_
  | refine g_mk ?_
  | refine g_sfld ?_
  | refine g_ost ?_
  | refine g_oi ?_
  | refine g_nopart ?_
  | refine g_tt ?_
  | refine g_ff ?_
  | refine g_nt ?_
  | refine g_nf ?_
  | refine g_drn ?_
  | refine g_din ?_
  | refine g_dnn ?_
  | refine g_nrn ?_
  | refine g_nin ?_
  | refine g_nnn ?_))
local macro_rules | `(tactic| walk_at "rd") => `(tactic| (repeat walk_at "rd1"))

section
variable {P : Program} {w : World} {K : PySem.W.Frag} {mg : Str → Option Value} {base : Heap} {f : Addr} {fd : FuncData} {A : Ad} {TL : List (Addr × Str)}
/-! ### _law_drawn @k05 -/
theorem cut_mid5 {xs : List V} {i j : Nat} (h : i + j ≤ xs.length) : cutV xs (some (i : Int)) (some ((i + j : Nat) : Int)) = (xs.drop i).take j := by
  unfold cutV
  rw [HT.sIx_nat, HT.sIx_nat, Nat.min_eq_left (show i ≤ xs.length by omega), Nat.min_eq_left h, Nat.add_sub_cancel_left]
theorem flat4 {n : Int} : ∀ (c i : Nat), i < 4 * c → ((List.replicate c [4, n, n, n]).flatten).getD i 0 = if i % 4 = 0 then 4 else n
  | 0, i, h => by omega
  | c + 1, i, h => by
    rw [List.replicate_succ, List.flatten_cons]
    rcases i with _ | _ | _ | _ | i
    · rfl
    · rfl
    · rfl
    · rfl
    · show ((List.replicate c [4, n, n, n]).flatten).getD i 0 = _
      rw [flat4 c i (by omega), show (i + 1 + 1 + 1 + 1) % 4 = i % 4 by omega]
theorem flat4_len {n : Int} (c : Nat) : ((List.replicate c [4, n, n, n]).flatten).length = 4 * c := by
  induction c with
  | zero => rfl
  | succ c ih =>
    rw [List.replicate_succ, List.flatten_cons, List.length_append, ih]
    show 4 + 4 * c = _
    omega
theorem HLs.nil {H : Hp} : HLs H [] [] := ⟨rfl, fun k x row h => by simp at h⟩
theorem HLs.more {H : Hp} {xs : List V} {hs : List (List Int)} {t : Addr} {row : List Int} (h : HLs H xs hs) (ht : H t = some (.lst (row.map V.int))) : HLs H (xs ++ [V.ref t]) (hs ++ [row]) := by
  refine ⟨by rw [List.length_append, List.length_append, h.1]; rfl, fun k x r hx hr => ?_⟩
  by_cases z : k < xs.length
  · rw [List.getElem?_append_left z] at hx
    rw [List.getElem?_append_left (by rw [← h.1]; exact z)] at hr
    exact h.2 k x r hx hr
  · rw [List.getElem?_append_right (by omega)] at hx
    rw [List.getElem?_append_right (by rw [← h.1]; omega)] at hr
    have k0 : k - xs.length = 0 := by
      have := (List.getElem?_eq_some_iff.mp hx).1
      simp at this; omega
    rw [k0] at hx
    rw [← h.1, k0] at hr
    cases hx; cases hr
    exact ⟨t, rfl, ht⟩
/-- the lists are none of D -/
theorem HLs.upd {H : Hp} {xs : List V} {hs : List (List Int)} {D : Addr} {o : HO} (h : HLs H xs hs) (hn : ∀ (k : Nat) (t : Addr), xs[k]? = some (V.ref t) → t ≠ D) : HLs (upd H D o) xs hs := ⟨h.1, fun k x row hx hr => by
  obtain ⟨t, e, q⟩ := h.2 k x row hx hr
  subst e
  exact ⟨t, rfl, by rw [upd_ne (hn k t hx)]; exact q⟩⟩
def spDrawnO : Sp := fun vs H Q _ => ∃ (c : Int) (n : Nat), vs = [.int c, .int (n : Int)] ∧ 1 ≤ n ∧ n ≤ 900 ∧ ∀ (t : Addr) (xs : List V) (hs : List (List Int)) (H' : Hp), H t = none → Same H H' → H' t = some (.lst xs) → HLs H' xs hs → hs.length ≤ 30 → (∀ row ∈ hs, row.length ≤ 3 ∧ ∀ q ∈ row, 0 ≤ q ∧ q < (n : Int)) → Q (.ref t) H'
theorem ok_drawnO (F : Fun K "_law_drawn" "_law_drawn" s__law_drawn f fd) (T : Txt K mg A) (D__law_draws : DefOk P w K mg base CX0 1 "_law_draws" ["cell", "sizes"] (Rt.spDraws K)) : FnOk P w K mg base CX0 2 f fd ["cell", "many"] spDrawnO := by
  refine F.ok sc__law_drawn (fun vs H Q E h => ?_) (fun cdv A1 outer s H vs Q E hr h => ?_)
  · obtain ⟨c, n, rfl, _⟩ := h
    rfl
  · obtain ⟨c, n, rfl, n1, n9, q⟩ := h
    refine ⟨_, (pss_cons (ps_set (i := 2) sc__law_drawn.nd rfl (Or.inl rfl) (pe_callD D__law_draws (hr.mono (by decide)) pass0 (pa_cons (pv 0) (pa_cons (pe_lst (pa_cons pe_int (pa_cons pe_int (pa_cons pe_int pa_nil)))) pa_nil))))
      (pss_cons (ps_set (i := 3) sc__law_drawn.nd rfl (Or.inl rfl) (pe_ix (ix_listK K) (pv 2) pe_int (fun _ _ => rfl)))
      (pss_cons (ps_if (pt_cmpR op_eq (pe_ix (ix_listK K) (pv 2) pe_int (fun _ _ => rfl)) pe_int (nomark _)) (pss_one (ps_set (i := 3) sc__law_drawn.nd rfl (Or.inl rfl) (pe_op op_add pe_int (pe_ix (ix_listK K) (pv 2) pe_int (fun _ _ => rfl))))) pss_nil)
      (pss_cons (ps_set (i := 4) sc__law_drawn.nd rfl (Or.inr rfl) (pe_slice (sl_listK K) (pe_callD D__law_draws (hr.mono (by decide)) pass0 (pa_cons (pv 0) (pa_cons (pe_op op_cat (pe_lst (pa_cons pe_int (pa_cons pe_int (pa_cons pe_int pa_nil)))) (pe_op op_rep (pe_lst (pa_cons pe_int (pa_cons (pv 1) (pa_cons (pv 1) (pa_cons (pv 1) pa_nil))))) (pv 3))) pa_nil))) (po_some pe_int) po_none))
      (pss_one (ps_ret (pe_lc (own := [("k", 5)]) (g := gName 5) (tt := tYes) rfl sc__law_drawn.nd (pi_range1 rfl T.m_range (pa_cons (pv 3) pa_nil)) (blkOk_by (N := ["cell", "many", "heads", "count", "draws", "k"]) (sc := defScope s__law_drawn) (by decide +kernel)) (fun _ _ _ _ _ => (by exact (pg_name (i := 5) sc__law_drawn.nd rfl (Or.inl rfl)))) (fun _ _ _ _ _ => (by exact pts_nil)) (fun _ _ _ _ _ => (by exact (pe_slice (sl_listK K) (pv 4) (po_some (pe_op op_add (pe_op op_mul pe_int (pv 5)) pe_int)) (po_some (pe_op op_add (pe_op op_add (pe_op op_mul pe_int (pv 5)) pe_int) (pe_ix (ix_listK K) (pv 4) (pe_op op_mul pe_int (pv 5)) (fun _ _ => rfl)))))))))))))), ?_⟩
    walk_at "rd"
    refine newL fun a1 H1 na1 S1 h1 => ?_
    walk_at "rd"
    refine ⟨a1, c, [9, 8, 22], rfl, SqL.of h1, by simp, fun i hi => ?_, fun da H2 ds nda S2 hda dr => ?_⟩
    · have hi' : i < 3 := hi
      have : i = 0 ∨ i = 1 ∨ i = 2 := by omega
      rcases this with z | z | z <;> subst z <;> decide
    have dl : ds.length = 3 := dr.len
    have b0 : 0 ≤ ds.getD 0 0 ∧ ds.getD 0 0 < 9 := dr.at_ 0 (by simp)
    have b2 : 0 ≤ ds.getD 2 0 ∧ ds.getD 2 0 < 22 := dr.at_ 2 (by simp)
    have S02 := S1.trans S2
    walk_at "rd"
    refine g_ixL (SqL.of hda) (at_int (o := 0) (by omega)) ?_
    walk_at "rd"
    refine g_ixL (SqL.of hda) (at_int (o := 1) (by omega)) ?_
    walk_at "rd"
    refine g_ifset (.int (9 + ds.getD 2 0)) (.int (ds.getD 0 0)) rfl (fun Q' hq => ?_) ?_
    · walk_at "rd"
      refine g_ixL (SqL.of hda) (at_int (o := 2) (by omega)) ?_
      walk_at "rd"
      exact hq
    rw [ite_int]
    obtain ⟨k, hk, ek⟩ : ∃ k : Nat, k ≤ 30 ∧ (if decide (ds.getD 1 0 = 2) = true then 9 + ds.getD 2 0 else ds.getD 0 0) = (k : Int) := by
      refine ⟨(if decide (ds.getD 1 0 = 2) = true then 9 + ds.getD 2 0 else ds.getD 0 0).toNat, ?_⟩
      split <;> omega
    rw [ek]
    walk_at "rd"
    refine newL fun a3 H3 na3 S3 h3 => ?_
    walk_at "rd"
    refine newL fun a4 H4 na4 S4 h4 => ?_
    walk_at "rd"
    refine g_repL (xs := [4, (n : Int), (n : Int), (n : Int)]) (k := k) h4 (by show 4 * k ≤ 100000; omega) (by omega) fun a5 H5 na5 S5 h5 => ?_
    have fl := flat4_len (n := (n : Int)) k
    have fa := fun i => flat4 (n := (n : Int)) k i
    generalize (List.replicate k [4, (n : Int), (n : Int), (n : Int)]).flatten = ms at h5 fl fa
    walk_at "rd"
    refine g_cat (xs := [9, 8, 22]) (zs := ms) (S5 _ _ (S4 _ _ h3)) h5 (by rw [fl]; show 3 + 4 * k ≤ 100000; omega) fun a6 H6 na6 S6 h6 => ?_
    walk_at "rd"
    refine ⟨a6, c, [9, 8, 22] ++ ms, rfl, SqL.of h6, by rw [List.length_append, fl]; show 3 + 4 * k ≤ 1000; omega, fun i hi => ?_, fun a7 H7 es na7 S7 h7 dr2 => ?_⟩
    · rw [List.length_append, fl] at hi
      rcases i with _ | _ | _ | i
      · show (0 : Int) < 9 ∧ (9 : Int) < 2 ^ 64; decide
      · show (0 : Int) < 8 ∧ (8 : Int) < 2 ^ 64; decide
      · show (0 : Int) < 22 ∧ (22 : Int) < 2 ^ 64; decide
      · show 0 < ms.getD i 0 ∧ ms.getD i 0 < 2 ^ 64
        rw [fa i (by simp at hi; omega)]
        split
        · decide
        · omega
    have le : es.length = 3 + 4 * k := by rw [dr2.len, List.length_append, fl]; rfl
    have rg : ∀ i, i < 4 * k → 0 ≤ (es.drop 3).getD i 0 ∧ (es.drop 3).getD i 0 < if i % 4 = 0 then 4 else (n : Int) := fun i hi => by
      have a := dr2.at_ (i + 3) (by rw [List.length_append, fl]; show i + 3 < 3 + 4 * k; omega)
      rw [show (([9, 8, 22] : List Int) ++ ms).getD (i + 3) 0 = ms.getD i 0 from rfl, fa i hi] at a
      rw [List.getD_eq_getElem?_getD, List.getElem?_drop, Nat.add_comm 3 i, ← List.getD_eq_getElem?_getD]
      exact a
    walk_at "rd"
    refine g_cut (SqL.of h7) fun a8 H8 na8 S8 h8 => ?_
    rw [show (3 : Int) = ((3 : Nat) : Int) from rfl, cut_lo (by rw [List.length_map]; omega), ← List.map_drop] at h8
    have gl : (es.drop 3).length = 4 * k := by rw [List.length_drop]; omega
    generalize es.drop 3 = gs at h8 rg gl
    have S08 := S02.trans (S3.trans (S4.trans (S5.trans (S6.trans (S7.trans S8)))))
    walk_at "rd"
    refine ⟨_, rfl, by omega, by omega, fun D nD => ?_⟩
    rw [Int.toNat_natCast]
    refine lc_range (fun i H' => ∃ (zs : List V) (hs : List (List Int)), Same H8 H' ∧ H' D = some (.lst zs) ∧ HLs H' zs hs ∧ (∀ (k : Nat) (t : Addr), zs[k]? = some (V.ref t) → t ≠ D) ∧ hs.length = i ∧ ∀ row ∈ hs, row.length ≤ 3 ∧ ∀ q ∈ row, 0 ≤ q ∧ q < (n : Int)) ⟨[], [], Same.new nD, upd_same, HLs.nil, fun k t h => by simp at h, rfl, fun row h => by cases h⟩ ?_ ?_
    · rintro i H' hi ⟨zs, hs, S', hD, hZ, hN, hl, hrow⟩
      have d4 := rg (4 * i) (by omega)
      rw [if_pos (by omega)] at d4
      obtain ⟨m, em, hm⟩ : ∃ m : Nat, gs.getD (4 * i) 0 = (m : Int) ∧ m ≤ 3 := ⟨(gs.getD (4 * i) 0).toNat, by omega, by omega⟩
      have hz8 := S' _ _ h8
      rw [Int.zero_add]
      walk_at "rd"
      refine ⟨rfl, ?_⟩
      walk_at "rd"
      refine g_I (.inl ⟨by decide, by decide⟩) ?_
      walk_at "rd"
      refine g_I (.inl ⟨by decide, by decide⟩) ?_
      walk_at "rd"
      refine g_I (.inl ⟨by decide, by decide⟩) ?_
      rw [show (4 : Int) * (i : Int) = ((4 * i : Nat) : Int) by omega]
      refine g_ixL (SqL.of hz8) (at_int (by omega)) ?_
      walk_at "rd"
      rw [em, show ((4 * i : Nat) : Int) + 1 + (m : Int) = ((4 * i + 1 + m : Nat) : Int) by omega, show ((4 * i : Nat) : Int) + 1 = ((4 * i + 1 : Nat) : Int) by omega]
      refine g_cut (SqL.of hz8) fun t H9 nt S9 ht => ?_
      rw [cut_mid5 (by rw [List.length_map]; omega), ← List.map_drop, ← List.map_take] at ht
      have tD : t ≠ D := fun z => by rw [z, hD] at nt; cases nt
      have SN := (S'.trans S9).mut (o := .lst (zs ++ [V.ref t])) nD
      have zl : zs.length = i := by rw [hZ.1, hl]
      have hN' : ∀ (k : Nat) (u : Addr), (zs ++ [V.ref t])[k]? = some (V.ref u) → u ≠ D := fun k u h => by
        by_cases z : k < zs.length
        · rw [List.getElem?_append_left z] at h
          exact hN k u h
        · rw [List.getElem?_append_right (by omega)] at h
          have k0 : k - zs.length = 0 := by
            have := (List.getElem?_eq_some_iff.mp h).1
            simp at this; omega
          rw [k0] at h
          cases h
          exact tD
      refine ⟨zs, S9 _ _ hD, slt1000 (by omega), zs ++ [V.ref t], hs ++ [(gs.drop (4 * i + 1)).take m], SN, upd_same, ((hZ.mono S9).more ht).upd hN', hN', by rw [List.length_append, hl]; rfl, fun row hr => ?_⟩
      rcases List.mem_append.mp hr with z | z
      · exact hrow row z
      · rw [List.mem_singleton.mp z]
        refine ⟨by rw [List.length_take]; omega, fun x hx => ?_⟩
        obtain ⟨j, hj, rfl⟩ := mem_getD hx
        rw [List.length_take, List.length_drop] at hj
        have e1 : ((gs.drop (4 * i + 1)).take m).getD j 0 = gs.getD (4 * i + 1 + j) 0 := by
          rw [List.getD_eq_getElem?_getD, List.getElem?_take_of_lt (by omega), List.getElem?_drop, List.getD_eq_getElem?_getD]
        rw [e1]
        have a := rg (4 * i + 1 + j) (by omega)
        rw [if_neg (by omega)] at a
        exact a
    · rintro H' ⟨zs, hs, S', hD, hZ, hN, hl, hrow⟩
      exact q D zs hs H' (S08.free nD) (S08.trans S') hD hZ (by omega) hrow
/-! ### -/
end
end Rt
set_option Elab.async false
set_option linter.all false
set_option maxRecDepth 100000
set_option maxHeartbeats 4000000
namespace Rt
open PySem PySem.Spec L2
open PyProof.Rows (envOfC)
open LamX (CodeO TabS Tabs TabB)
local macro_rules | `(tactic| walk_at "rd1") => `(tactic| (with_reducible first
  | refine g_var (by with_unfolding_all rfl) ?_
  | refine g_c ?_
  | refine g_op ?_
  | refine g_I0 ?_
  | refine g_eqI ?_
  | refine g_neI ?_
  | refine g_eqB ?_
  | refine g_neB ?_
  | refine g_cons ?_
  | refine g_nil ?_
  | refine g_seq ?_
  | refine g_asg ?_
  | refine g_name ?_
  | refine g_ret ?_
  | refine g_retN ?_
  | refine g_drop ?_
  | refine g_next ?_
  | refine g_if ?_
  | refine g_test ?_
  | refine g_tB ?_
  | refine g_bl ?_
  | refine g_and ?_
  | refine g_or ?_
  | refine g_not ?_
  | refine g_andV ?_
  | refine g_orV ?_
  | refine g_notV ?_
  | refine g_ifE ?_
  | refine g_cb ?_
  | refine g_meth ?_
  | refine g_rev ?_
  | refine g_gcons ?_
  | refine g_gnil ?_
  | refine g_isB' ?_
  | refine g_gsub ?_
  | refine g_call ?_
  | refine g_callS ?_
  | refine g_bm ?_
  | refine g_un ?_
  | refine g_U ?_
  | refine g_chain ?_
  | refine g_sl ?_
  | refine g_brk ?_
  | refine g_ct ?_
  | refine g_ipI ?_
  | refine g_fld ?_
  | refine g_lst ?_
  | refine g_int ?_
  | refine g_for ?_
  | refine g_rg1 ?_
  | refine g_rg2 ?_
  | refine g_il ?_
  | refine g_it ?_
  | refine g_lc ?_
  | refine g_yes ?_
  | refine g_tup ?_
  | refine g_part ?_
  | refine g_xf ?_
  | refine g_nn ?_
  | refine g_mko ?_
  | refine g_lrg ?_
  | refine g_tr1 ?_
  | refine g_tr2 ?_
  | refine g_oi2 ?_
  | refine g_mk ?_
  | refine g_sfld ?_
  | refine g_ost ?_
  | refine g_oi ?_
  | refine g_nopart ?_
  | refine g_tt ?_
  | refine g_ff ?_
  | refine g_nt ?_
  | refine g_nf ?_
  | refine g_drn ?_
  | refine g_din ?_
  | refine g_dnn ?_
  | refine g_nrn ?_
  | refine g_nin ?_
  | refine g_nnn ?_))
local macro_rules | `(tactic| walk_at "rd") => `(tactic| (repeat walk_at "rd1"))

section
variable {P : Program} {w : World} {K : PySem.W.Frag} {mg : Str → Option Value} {base : Heap} {f : Addr} {fd : FuncData} {A : Ad} {TL : List (Addr × Str)}
/-! ### _law_handed @k05 -/
/-- an order handed over: c, the whole a tuple; d, each handful a tuple -/
def FmA (N : Addr → Prop) (d : Bool) (H : Hp) (xs : List V) (hs : List (List Int)) : Prop := RW N d H xs hs
def Fm (c d : Bool) (H : Hp) (t : Addr) (hs : List (List Int)) : Prop := ∃ xs : List V, H t = some (if c = true then .tup xs else .lst xs) ∧ FmA (fun _ => True) d H xs hs
theorem Fm.mono {c d : Bool} {H H' : Hp} {t : Addr} {hs : List (List Int)} (h : Fm c d H t hs) (S : Same H H') : Fm c d H' t hs := by
  obtain ⟨xs, a, b⟩ := h
  exact ⟨xs, S _ _ a, RW.mono b S⟩
theorem Fm.hbs {K : PySem.W.Frag} {c d : Bool} {H : Hp} {t : Addr} {hs : List (List Int)} (h : Fm c d H t hs) : ∃ xs, SqB K c H t xs ∧ HBs K H xs hs := by
  obtain ⟨xs, a, b⟩ := h
  refine ⟨xs, ?_, b.1, fun k x row hx hr => ?_⟩
  · cases c with
    | true => exact SqT.of a
    | false => exact SqL.of a
  · obtain ⟨u, e, _, hu⟩ := RW.at_ b hr
    rw [e] at hx
    cases hx
    refine ⟨u, d, rfl, ?_⟩
    cases d with
    | true => exact SqT.of hu
    | false => exact SqL.of hu
def spHandO : Sp := fun vs H Q _ => ∃ (oa : Addr) (xs : List V) (hs : List (List Int)) (m : Int), vs = [.ref oa, .int m] ∧ H oa = some (.lst xs) ∧ HLs H xs hs ∧ hs.length ≤ 900 ∧
  ∀ (t : Addr) (H' : Hp), H t = none → Same H H' → Fm (decide (m = 1 ∨ m = 3)) (decide (m = 1 ∨ m = 2)) H' t hs → Q (.ref t) H'
theorem ok_handO (F : Fun K "_law_handed" "_law_handed" s__law_handed f fd) (T : Txt K mg A) : FnOk P w K mg base CX0 1 f fd ["order", "form"] spHandO := by
  refine F.ok sc__law_handed (fun vs H Q E h => ?_) (fun cdv A1 outer s H vs Q E hr h => ?_)
  · obtain ⟨oa, xs, hs, m, rfl, _⟩ := h
    rfl
  · obtain ⟨oa, xs, hs, m, rfl, ho, hH, h9, q⟩ := h
    have xl := hH.1
    refine ⟨_, (pss_cons (ps_setLc (i := 2) (own := [("handful", 3)]) (g := gName 3) (tt := tYes) rfl sc__law_handed.nd rfl rfl (sw_true rfl rfl rfl (by decide +kernel)) (pi_listK K (pv 0)) (blkOk_by (N := ["order", "form", "rows", "handful"]) (sc := defScope s__law_handed) (by decide +kernel)) (fun _ _ _ _ _ => (by exact (pg_name (i := 3) sc__law_handed.nd rfl (Or.inl rfl)))) (fun _ _ _ _ _ => (by exact pts_nil)) (fun _ _ _ _ _ => (by exact (pe_callTy (call_listK K) (by rfl) T.m_list (by decide +kernel) (pa_cons (pv 3) pa_nil)))))
      (pss_cons (ps_if (PW.pt (pw_or (pt_cmpR op_eq (pv 1) pe_int (nomark _)) (pw_or1 (pt_cmpR op_eq (pv 1) pe_int (nomark _))))) (pss_one (ps_setLc (i := 2) (own := [("handful", 3)]) (g := gName 3) (tt := tYes) rfl sc__law_handed.nd rfl rfl (sw_true rfl rfl rfl (by decide +kernel)) (pi_listK K (pv 0)) (blkOk_by (N := ["order", "form", "rows", "handful"]) (sc := defScope s__law_handed) (by decide +kernel)) (fun _ _ _ _ _ => (by exact (pg_name (i := 3) sc__law_handed.nd rfl (Or.inl rfl)))) (fun _ _ _ _ _ => (by exact pts_nil)) (fun _ _ _ _ _ => (by exact (pe_callTy (call_tupleK K) (by rfl) T.m_tuple (by decide +kernel) (pa_cons (pv 3) pa_nil)))))) pss_nil)
      (pss_cons (ps_if (PW.pt (pw_or (pt_cmpR op_eq (pv 1) pe_int (nomark _)) (pw_or1 (pt_cmpR op_eq (pv 1) pe_int (nomark _))))) (pss_one (ps_ret (pe_callTy (call_tupleK K) (by rfl) T.m_tuple (by decide +kernel) (pa_cons (pv 2) pa_nil)))) pss_nil)
      (pss_one (ps_ret (pv 2)))))), ?_⟩
    walk_at "rd"
    refine ⟨oa, rfl, ⟨_, SqL.of ho⟩, fun D nD => ?_⟩
    refine lc_list (xs := xs) (fun i H' => ∃ zs : List V, Same H H' ∧ H' D = some (.lst zs) ∧ RW (fun t => t ≠ D) false H' zs (hs.take i)) ⟨[], Same.new nD, upd_same, RW.nil⟩ (fun i H' _ ⟨_, S, _⟩ => SqL.of (S _ _ ho)) ?_ ?_
    · rintro i x H' hx ⟨zs, S', hD, hR⟩
      obtain ⟨row, t, hr, rfl, ht⟩ := (hH.mono S').at_ hx
      walk_at "rd"
      refine ⟨rfl, ?_⟩
      walk_at "rd"
      refine g_lo (.inl (SqL.of ht)) fun u H2 nu S2 hu => ?_
      have uD : u ≠ D := fun z => by rw [z, hD] at nu; cases nu
      refine ⟨zs, S2 _ _ hD, by rw [hR.len]; exact slt1000 (by rw [List.length_take]; omega), zs ++ [V.ref u], (S'.trans S2).mut nD, upd_same, ?_⟩
      rw [take_more hr]
      exact ((hR.mono S2).more uD hu).upd fun t c => c
    rintro H1 ⟨zs, S1, hD, hR⟩
    rw [xl, List.take_of_length_le (Nat.le_refl _)] at hR
    refine g_name ?_
    dsimp only
    refine g_seq ?_
    refine g_st ([some (.ref oa), some (.int m), some (.ref D), none]) rfl ?_
    refine g_join (fun σ' H' => ∃ (D : Addr) (zs : List V), σ' = [some (.ref oa), some (.int m), some (.ref D), none] ∧ Same H H' ∧ H D = none ∧ H' D = some (.lst zs) ∧ RW (fun _ => True) (decide (m = 1 ∨ m = 2)) H' zs hs) ?_ ?_
    · intro D' hD'
      have two : m = 1 ∨ m = 2 → (tAsg (tLc (iList K (tVar 0)) (gName 3) tYes (tCB (rTupO K) (tCons (tVar 3) tNil)) (List.map (fun x : Str × Nat => x.snd) [(("handful" : Str), 3)])) (gName 2)) D' [some (.ref oa), some (.int m), some (.ref D), none] H1 := fun hm => by
        walk_at "rd"
        refine ⟨oa, rfl, ⟨_, SqL.of (S1 _ _ ho)⟩, fun D2 nD2 => ?_⟩
        refine lc_list (xs := xs) (fun i H' => ∃ zs : List V, Same H1 H' ∧ H' D2 = some (.lst zs) ∧ RW (fun t => t ≠ D2) true H' zs (hs.take i)) ⟨[], Same.new nD2, upd_same, RW.nil⟩ (fun i H' _ ⟨_, S, _⟩ => SqL.of (S _ _ (S1 _ _ ho))) ?_ ?_
        · rintro i x H' hx ⟨zs, S', hD2, hR⟩
          obtain ⟨row, t, hr, rfl, ht⟩ := (hH.mono (S1.trans S')).at_ hx
          walk_at "rd"
          refine ⟨rfl, ?_⟩
          walk_at "rd"
          refine ⟨t, _, rfl, .inl ⟨SqL.of ht, fun u nu => ?_⟩⟩
          have S2 : Same H' (upd H' u (.tup (row.map V.int))) := Same.new nu
          have hu : (upd H' u (.tup (row.map V.int))) u = some (.tup (row.map V.int)) := upd_same
          have uD : u ≠ D2 := fun z => by rw [z, hD2] at nu; cases nu
          refine ⟨zs, S2 _ _ hD2, by rw [hR.len]; exact slt1000 (by rw [List.length_take]; omega), zs ++ [V.ref u], (S'.trans S2).mut nD2, upd_same, ?_⟩
          rw [take_more hr]
          exact ((hR.mono S2).more uD hu).upd fun t c => c
        · rintro H2 ⟨zs, S2, hD2, hR⟩
          rw [xl, List.take_of_length_le (Nat.le_refl _)] at hR
          walk_at "rd"
          exact hD' _ _ ⟨D2, zs, rfl, S1.trans S2, S1.free nD2, hD2, by rw [decide_eq_true hm]; exact hR.weak fun _ _ => trivial⟩
      walk_at "rd"
      refine g_ite (fun e => ?_) (fun e => ?_)
      · have e1 : m = 1 := of_decide_eq_true e
        exact two (.inl e1)
      · have e1 : ¬ m = 1 := of_decide_eq_false e
        walk_at "rd"
        refine g_ite (fun e => ?_) (fun e => ?_)
        · have e2 : m = 2 := of_decide_eq_true e
          exact two (.inr e2)
        · have e2 : ¬ m = 2 := of_decide_eq_false e
          walk_at "rd"
          exact hD' _ _ ⟨D, zs, rfl, S1, nD, hD, by rw [decide_eq_false (fun z => z.elim e1 e2)]; exact hR.weak fun _ _ => trivial⟩
    clear hR hD S1 nD
    rintro σ' H2 ⟨D, zs, rfl, S2, nD, hD, hR⟩
    have fin : ∀ (t : Addr) (H3 : Hp) (c : Bool), c = decide (m = 1 ∨ m = 3) → H t = none → Same H H3 → RW (fun _ => True) (decide (m = 1 ∨ m = 2)) H3 zs hs → H3 t = some (if c = true then .tup zs else .lst zs) → Q (.ref t) H3 := fun t H3 c e n S r h => q t H3 n S ⟨zs, by rw [← e]; exact h, r⟩
    have tup : m = 1 ∨ m = 3 → ∀ u : Addr, H2 u = none → Q (.ref u) (upd H2 u (.tup zs)) := fun hm u nu => fin u _ true (decide_eq_true hm).symm (S2.free nu) (S2.trans (Same.new nu)) (hR.mono (Same.new nu)) upd_same
    walk_at "rd"
    refine g_ite (fun e => ?_) (fun e => ?_)
    · have e1 : m = 1 := of_decide_eq_true e
      walk_at "rd"
      refine ⟨D, _, rfl, .inl ⟨SqL.of hD, fun u nu => ?_⟩⟩
      exact tup (.inl e1) u nu
    · have e1 : ¬ m = 1 := of_decide_eq_false e
      walk_at "rd"
      refine g_ite (fun e => ?_) (fun e => ?_)
      · have e2 : m = 3 := of_decide_eq_true e
        walk_at "rd"
        refine ⟨D, _, rfl, .inl ⟨SqL.of hD, fun u nu => ?_⟩⟩
        exact tup (.inr e2) u nu
      · have e2 : ¬ m = 3 := of_decide_eq_false e
        walk_at "rd"
        exact fin D H2 false (decide_eq_false (fun z => z.elim e1 e2)).symm nD S2 hR hD
/-! ### -/
end
end Rt
set_option Elab.async false
set_option linter.all false
set_option maxRecDepth 100000
set_option maxHeartbeats 4000000
namespace Rt
open PySem PySem.Spec L2
open PyProof.Rows (envOfC)
open LamX (CodeO TabS Tabs TabB)
local macro_rules | `(tactic| walk_at "rd1") => `(tactic| (with_reducible first
  | refine g_var (by with_unfolding_all rfl) ?_
  | refine g_c ?_
  | refine g_op ?_
  | refine g_I0 ?_
  | refine g_eqI ?_
  | refine g_neI ?_
  | refine g_eqB ?_
  | refine g_neB ?_
  | refine g_cons ?_
  | refine g_nil ?_
  | refine g_seq ?_
  | refine g_asg ?_
  | refine g_name ?_
  | refine g_ret ?_
  | refine g_retN ?_
  | refine g_drop ?_
  | refine g_next ?_
  | refine g_if ?_
  | refine g_test ?_
  | refine g_tB ?_
  | refine g_bl ?_
  | refine g_and ?_
  | refine g_or ?_
  | refine g_not ?_
  | refine g_andV ?_
  | refine g_orV ?_
  | refine g_notV ?_
  | refine g_ifE ?_
  | refine g_cb ?_
  | refine g_meth ?_
  | refine g_rev ?_
  | refine g_gcons ?_
  | refine g_gnil ?_
  | refine g_isB' ?_
  | refine g_gsub ?_
  | refine g_call ?_
  | refine g_callS ?_
  | refine g_bm ?_
  | refine g_un ?_
  | refine g_U ?_
  | refine g_chain ?_
  | refine g_sl ?_
  | refine g_brk ?_
  | refine g_ct ?_
  | refine g_ipI ?_
  | refine g_fld ?_
  | refine g_lst ?_
  | refine g_int ?_
  | refine g_for ?_
  | refine g_rg1 ?_
  | refine g_rg2 ?_
  | refine g_il ?_
  | refine g_it ?_
  | refine g_lc ?_
  | refine g_yes ?_
  | refine g_tup ?_
  | refine g_part ?_
  | refine g_xf ?_
  | refine g_nn ?_
  | refine g_mko ?_
  | refine g_lrg ?_
  | refine g_tr1 ?_
  | refine g_tr2 ?_
  | refine g_oi2 ?_
  | refine g_mk ?_
  | refine g_sfld ?_
  | refine g_ost ?_
  | refine g_oi ?_
  | refine g_nopart ?_
  | refine g_tt ?_
  | refine g_ff ?_
  | refine g_nt ?_
  | refine g_nf ?_
  | refine g_drn ?_
  | refine g_din ?_
  | refine g_dnn ?_
  | refine g_nrn ?_
  | refine g_nin ?_
  | refine g_nnn ?_))
local macro_rules | `(tactic| walk_at "rd") => `(tactic| (repeat walk_at "rd1"))

section
variable {P : Program} {w : World} {K : PySem.W.Frag} {mg : Str → Option Value} {base : Heap} {f : Addr} {fd : FuncData} {A : Ad} {TL : List (Addr × Str)}
/-! ### _law_unwinds -/
theorem unwF_len {L : List Ent} : ∀ (k : Nat) (ss : List Int), (unwF L k ss).2.length = ss.length
  | 0, _ => rfl
  | k + 1, ss => by
    rw [unwF_step]
    split
    · rw [unwF_len k, undoL_len]
    · rfl
def spUnws (K : PySem.W.Frag) (A : Ad) : Sp := fun vs H Q _ => ∃ (b ts tl la sa ga : Addr) (r : Bool) (ss ls : List Int) (xs : List V) (L : List Ent), vs = [.ref b, .bl r, .ref la, .ref sa, .ref ga] ∧ BAt A.Beads H b ts tl r ss ls ∧ StOk ss ls ∧ ss.length ≤ 900 ∧ SqL K H la (ls.map V.int) ∧ SqL K H sa (ss.map V.int) ∧ H ga = some (.lst xs) ∧ LogA (fun _ => True) H xs L ∧ (∀ e ∈ L, e.1.length ≤ 900 ∧ e.2.length ≤ 900 ∧ ∀ row ∈ e.2, row.length = 3 ∧ 0 ≤ row.getD 1 0) ∧ L.length ≤ 900 ∧ ∀ H', Same H H' → Q (.bl true) H'
theorem ok_unws (F : Fun K "_law_unwinds" "_law_unwinds" s__law_unwinds f fd) (T : Txt K mg A) (D__law_unwound : DefOk P w K mg base CX0 1 "_law_unwound" ["strengths", "log"] (spUnwL K)) (D_unwind : DefOk P w K mg base (L2N.CX P w) 5 "unwind" ["beads", "log"] (spUnw K A)) (D__law_is_log : DefOk P w K mg base CX0 4 "_law_is_log" ["actual", "due"] (spIsLog K))
    (D__law_is_standing : DefOk P w K mg base CX0 3 "_law_is_standing" ["actual", "round_flag", "sizes", "strengths"] (spStanding K A)) (D__law_is_integer : DefOk P w K mg base CX0 1 "_law_is_integer" ["actual"] Rt.spInt) : FnOk P w K mg base CX0 6 f fd ["beads", "round_flag", "sizes", "strengths", "log"] (spUnws K A) := by
  refine F.ok sc__law_unwinds (fun vs H Q E h => ?_) (fun cdv A1 outer s H vs Q E hr h => ?_)
  · obtain ⟨b, ts, tl, la, sa, ga, r, ss, ls, xs, L, rfl, _⟩ := h
    rfl
  · obtain ⟨b, ts, tl, la, sa, ga, r, ss, ls, xs, L, rfl, B, ok, n9, hl, hs, hg, hL, h3, h9, q⟩ := h
    refine ⟨_, (pss_cons (ps_set (i := 5) sc__law_unwinds.nd rfl (Or.inl rfl) (pe_callD D__law_unwound (hr.mono (by decide)) pass0 (pa_cons (pv 3) (pa_cons (pv 4) pa_nil))))
      (pss_cons (ps_setLc (i := 6) (own := [("entry", 7)]) (g := gName 7) (tt := tYes) rfl sc__law_unwinds.nd rfl rfl (sw_true rfl rfl rfl (by decide +kernel)) (pi_listK K (pv 4)) (blkOk_by (N := ["beads", "round_flag", "sizes", "strengths", "log", "due", "passed", "entry", "index", "actual", "e"]) (sc := defScope s__law_unwinds) (by decide +kernel)) (fun _ _ _ _ _ => (by exact (pg_name (i := 7) sc__law_unwinds.nd rfl (Or.inl rfl)))) (fun _ _ _ _ _ => (by exact pts_nil)) (fun _ _ _ _ _ => (by exact (pe_tup (pa_cons (pe_ix (ix_tupK K) (pv 7) pe_int (fun _ _ => rfl)) (pa_cons (pe_callTy (call_listK K) (by rfl) T.m_list (by decide +kernel) (pa_cons (pe_ix (ix_tupK K) (pv 7) pe_int (fun _ _ => rfl)) pa_nil)) pa_nil))))))
      (pss_cons (ps_set (i := 8) sc__law_unwinds.nd rfl (Or.inl rfl) pe_non)
      (pss_cons (ps_set (i := 9) sc__law_unwinds.nd rfl (Or.inl rfl) pe_non)
      (pss_cons (L2N.ps_try_as (i := 10) (Wout := fun _ _ _ _ => False) rfl rfl sc__law_unwinds.nd rfl rfl ⟨rfl, by decide, .inl T.g_BadLog⟩ takes0N (fun W pn xe tk _ => (pss_one (ps_set (i := 9) sc__law_unwinds.nd rfl (Or.inl rfl) (pe_callDS D_unwind (hr.mono (by decide)) (fun σ => L2N.passAt tk σ) (pa_cons (pv 0) (pa_cons (pv 6) pa_nil)))))) (fun a oe cls d pn hz hf => (pss_one (ps_set (i := 8) sc__law_unwinds.nd rfl (Or.inl rfl) (pe_xf T.x_BadLog T.no_BadLog_index hz.zc hf (pv 10))))))
      (pss_cons (ps_if (PW.pt (pw_or (pt_not (pt_val (pe_callD D__law_is_log (hr.mono (by decide)) pass0 (pa_cons (pv 6) (pa_cons (pv 4) pa_nil))))) (pw_or1 (pt_not (pt_val (pe_callD D__law_is_standing (hr.mono (by decide)) pass0 (pa_cons (pv 0) (pa_cons (pv 1) (pa_cons (pv 2) (pa_cons (pv 3) pa_nil)))))))))) (pss_one (ps_ret pe_bl)) pss_nil)
      (pss_cons (ps_if (pt_cmpR op_notN (pe_ix (ix_tupK K) (pv 5) pe_int (fun _ _ => rfl)) pe_non (nomark _)) (pss_one (ps_ret (pe_and (pe_callD D__law_is_integer (hr.mono (by decide)) pass0 (pa_cons (pv 8) pa_nil)) (pe_one (pe_cmpR op_eq (pv 8) (pe_ix (ix_tupK K) (pv 5) pe_int (fun _ _ => rfl)) (nomark _)))))) pss_nil)
      (pss_one (ps_ret (pe_and (pe_cmpR op_isN (pv 8) pe_non (nomark _)) (pe_one (pe_callD D__law_is_standing (hr.mono (by decide)) pass0 (pa_cons (pv 9) (pa_cons (pv 1) (pa_cons (pv 2) (pa_cons (pe_ix (ix_tupK K) (pv 5) pe_int (fun _ _ => rfl)) pa_nil)))))))))))))))), ?_⟩
    walk_at "rd"
    refine ⟨sa, ga, ss, xs, L, rfl, hs, by omega, hg, hL, fun e he row hr => ((h3 e he).2.2 row hr).1, h9, fun dt da H1 ndt nda S1 hda hdt => ?_⟩
    walk_at "rd"
    refine ⟨ga, rfl, ⟨_, SqL.of (S1 _ _ hg)⟩, fun pa npa => ?_⟩
    refine lc_list (xs := xs) (fun i H' => ∃ zs : List V, Same H1 H' ∧ H' pa = some (.lst zs) ∧ LogA (fun t => t ≠ pa) H' zs (L.take i)) ⟨[], Same.new npa, upd_same, LogA.nil⟩ (fun i H' _ ⟨_, S, _⟩ => SqL.of (S _ _ (S1 _ _ hg))) ?_ ?_
    · rintro i x H' hx ⟨zs, S', hD, hZ⟩
      have li : i < L.length := by rw [← hL.1]; exact (List.getElem?_eq_some_iff.mp hx).1
      have he : L[i]? = some L[i] := List.getElem?_eq_getElem li
      obtain ⟨t, p0, c0, ys, rfl, _, _, _, ht, hp0, hc0, hR⟩ := hL.2 i x L[i] hx he
      have S0 := S1.trans S'
      have old : ∀ {a : Addr} {o : HO}, H a = some o → a ≠ pa := fun e z => by rw [z] at e; rw [S1 _ _ e] at npa; cases npa
      walk_at "rd"
      refine ⟨rfl, ?_⟩
      walk_at "rd"
      refine g_ixT (SqT.of (S0 _ _ ht)) (atI_nat (j := 0) (v := V.ref p0) rfl) ?_
      walk_at "rd"
      refine g_ixT (SqT.of (S0 _ _ ht)) (atI_nat (j := 1) (v := V.ref c0) rfl) ?_
      walk_at "rd"
      refine g_lo (.inl (SqL.of (S0 _ _ hc0))) fun u H2 nu S2 hu => ?_
      walk_at "rd"
      refine newT fun v H3 nv S3 hv => ?_
      have S23 := S2.trans S3
      have hD3 := S23 _ _ hD
      have fr : ∀ {Y : Hp} {a : Addr}, Same H' Y → Y a = none → a ≠ pa := fun S n z => by rw [z, S _ _ hD] at n; cases n
      have ent : EnA (fun t => t ≠ pa) H3 (.ref v) L[i] := by
        refine ⟨v, p0, u, ys, rfl, fr S2 nv, old hp0, fr (Same.refl _) nu, hv, S23 _ _ (S0 _ _ hp0), S3 _ _ hu, hR.1, fun j hj => ?_⟩
        obtain ⟨w1, a1, a2, a3⟩ := hR.2 j hj
        exact ⟨w1, a1, old a3, S23 _ _ (S0 _ _ a3)⟩
      refine ⟨zs, hD3, by rw [hZ.1, List.length_take]; exact slt1000 (by omega), zs ++ [V.ref v], (S'.trans S23).mut npa, upd_same, ?_⟩
      rw [take_more he]
      exact ((hZ.mono S23).more ent).upd fun t c => c
    rintro H2 ⟨zs, S2, hpa, hZ⟩
    rw [hL.1, List.take_of_length_le (Nat.le_refl _)] at hZ
    have hZ' := hZ.weak (M := fun _ => True) fun _ _ => trivial
    have S02 := S1.trans S2
    walk_at "rd"
    refine ⟨b, ts, tl, pa, r, ss, ls, zs, L, rfl, B.mono S02, ok, hpa, hZ', fun e he => (h3 e he).2.2, h9, fun es hu nb ts' H3 nnb S3 B3 => ?_, fun i es hu d H3 nd S3 hd => ?_⟩
    · have esl : es.length = ss.length := by have := unwF_len (L := L) L.length ss; rw [hu] at this; exact this
      rw [hu] at hda hdt
      have S03 := S02.trans S3
      walk_at "rd"
      refine ⟨pa, ga, zs, xs, L, rfl, S3 _ _ hpa, S03 _ _ hg, hZ'.mono S3, hL.mono S03, by omega, fun e he => ⟨by have := (h3 e he).1; omega, by have := (h3 e he).2.1; omega, fun row hr => by rw [((h3 e he).2.2 row hr).1]; decide⟩, ?_⟩
      walk_at "rd"
      have el := ok.len
      refine ⟨b, ts, tl, la, sa, r, ss, ls, rfl, B.mono S03, S03.seq hl, S03.seq hs, by omega, by omega, ?_⟩
      walk_at "rd"
      have S13 := S2.trans S3
      refine g_ixT (SqT.of (S13 _ _ hdt)) (atI_nat (j := 0) (v := V.non) rfl) ?_
      walk_at "rd"
      refine g_ixT (SqT.of (S13 _ _ hdt)) (atI_nat (j := 1) (v := V.ref da) rfl) ?_
      walk_at "rd"
      refine ⟨nb, ts', tl, la, da, r, es, ls, rfl, B3, S03.seq hl, SqL.of (S13 _ _ hda), by omega, by omega, ?_⟩
      exact q H3 S03
    · rw [hu] at hda hdt
      have S03 := S02.trans S3
      refine ⟨true, T.eBL, fun _ a na => ?_, fun z => nomatch z⟩
      walk_at "rd"
      refine ⟨rfl, rfl, d, _, _, rfl, hd, rfl, ?_⟩
      walk_at "rd"
      refine ⟨pa, ga, zs, xs, L, rfl, S3 _ _ hpa, S03 _ _ hg, hZ'.mono S3, hL.mono S03, by omega, fun e he => ⟨by have := (h3 e he).1; omega, by have := (h3 e he).2.1; omega, fun row hr => by rw [((h3 e he).2.2 row hr).1]; decide⟩, ?_⟩
      walk_at "rd"
      have el := ok.len
      refine ⟨b, ts, tl, la, sa, r, ss, ls, rfl, B.mono S03, S03.seq hl, S03.seq hs, by omega, by omega, ?_⟩
      walk_at "rd"
      have S13 := S2.trans S3
      refine g_ixT (SqT.of (S13 _ _ hdt)) (atI_nat (j := 0) (v := V.int (i : Int)) rfl) ?_
      walk_at "rd"
      refine ⟨(i : Int), rfl, ?_⟩
      walk_at "rd"
      refine g_ixT (SqT.of (S13 _ _ hdt)) (atI_nat (j := 0) (v := V.int (i : Int)) rfl) ?_
      walk_at "rd"
      rw [decide_eq_true rfl]
      exact q H3 S03
/-! ### -/
end
end Rt
set_option Elab.async false
set_option linter.all false
set_option maxRecDepth 100000
set_option maxHeartbeats 4000000
namespace Rt
open PySem PySem.Spec L2
open PyProof.Rows (envOfC)
open LamX (CodeO TabS Tabs TabB)
local macro_rules | `(tactic| walk_at "rd1") => `(tactic| (with_reducible first
  | refine g_var (by with_unfolding_all rfl) ?_
  | refine g_c ?_
  | refine g_op ?_
  | refine g_I0 ?_
  | refine g_eqI ?_
  | refine g_neI ?_
  | refine g_eqB ?_
  | refine g_neB ?_
  | refine g_cons ?_
  | refine g_nil ?_
  | refine g_seq ?_
  | refine g_asg ?_
  | refine g_name ?_
  | refine g_ret ?_
  | refine g_retN ?_
  | refine g_drop ?_
  | refine g_next ?_
  | refine g_if ?_
  | refine g_test ?_
  | refine g_tB ?_
  | refine g_bl ?_
  | refine g_and ?_
  | refine g_or ?_
  | refine g_not ?_
  | refine g_andV ?_
  | refine g_orV ?_
  | refine g_notV ?_
  | refine g_ifE ?_
  | refine g_cb ?_
  | refine g_meth ?_
  | refine g_rev ?_
  | refine g_gcons ?_
  | refine g_gnil ?_
  | refine g_isB' ?_
  | refine g_gsub ?_
  | refine g_call ?_
  | refine g_callS ?_
  | refine g_bm ?_
  | refine g_un ?_
  | refine g_U ?_
  | refine g_chain ?_
  | refine g_sl ?_
  | refine g_brk ?_
  | refine g_ct ?_
  | refine g_ipI ?_
  | refine g_fld ?_
  | refine g_lst ?_
  | refine g_int ?_
  | refine g_for ?_
  | refine g_rg1 ?_
  | refine g_rg2 ?_
  | refine g_il ?_
  | refine g_it ?_
  | refine g_lc ?_
  | refine g_yes ?_
  | refine g_tup ?_
  | refine g_part ?_
  | refine g_xf ?_
  | refine g_nn ?_
  | refine g_mko ?_
  | refine g_lrg ?_
  | refine g_tr1 ?_
  | refine g_tr2 ?_
  | refine g_oi2 ?_
  | refine g_mk ?_
  | refine g_sfld ?_
  | refine g_ost ?_
  | refine g_oi ?_
  | refine g_nopart ?_
  | refine g_tt ?_
  | refine g_ff ?_
  | refine g_nt ?_
  | refine g_nf ?_
  | refine g_drn ?_
  | refine g_din ?_
  | refine g_dnn ?_
  | refine g_nrn ?_
  | refine g_nin ?_
  | refine g_nnn ?_))
local macro_rules | `(tactic| walk_at "rd") => `(tactic| (repeat walk_at "rd1"))

section
variable {P : Program} {w : World} {K : PySem.W.Frag} {mg : Str → Option Value} {base : Heap} {f : Addr} {fd : FuncData} {A : Ad} {TL : List (Addr × Str)}
/-! ### _law_spoilt_order -/
/-- lists of at most b ints each, none of them outside N -/
def RwB (N : Addr → Prop) (H : Hp) (zs : List V) (b : Nat) : Prop := ∀ (k : Nat) (x : V), zs[k]? = some x → ∃ (t : Addr) (row : List Int), x = .ref t ∧ N t ∧ H t = some (.lst (row.map V.int)) ∧ row.length ≤ b
theorem RwB.hls {N : Addr → Prop} {H : Hp} {b : Nat} : ∀ {zs : List V}, RwB N H zs b → ∃ hs, HLs H zs hs ∧ ∀ row ∈ hs, row.length ≤ b
  | [], _ => ⟨[], HLs.nil, fun row h => by cases h⟩
  | x :: zs, h => by
    obtain ⟨t, row, e, _, ht, hb⟩ := h 0 x rfl
    obtain ⟨hs, g, gb⟩ := RwB.hls (zs := zs) fun k y hy => h (k + 1) y hy
    refine ⟨row :: hs, ⟨by rw [List.length_cons, List.length_cons, g.1], fun k y r hy hr => ?_⟩, fun r hr => ?_⟩
    · cases k with
      | zero => cases hy; cases hr; exact ⟨t, e, ht⟩
      | succ k => exact g.2 k y r hy hr
    · rcases List.mem_cons.mp hr with z | z
      · rw [z]; exact hb
      · exact gb r z
theorem RwB.mono {N : Addr → Prop} {H H' : Hp} {b : Nat} {zs : List V} (h : RwB N H zs b) (S : Same H H') : RwB N H' zs b := fun k x hx => by
  obtain ⟨t, row, e, n, ht, hb⟩ := h k x hx
  exact ⟨t, row, e, n, S _ _ ht, hb⟩
theorem RwB.put {N : Addr → Prop} {H : Hp} {b : Nat} {zs : List V} {a : Addr} {r : List Int} (h : RwB N H zs b) (hr : r.length ≤ b + 1) : RwB N (upd H a (.lst (r.map V.int))) zs (b + 1) := fun k x hx => by
  obtain ⟨t, row, e, n, ht, hb⟩ := h k x hx
  by_cases z : t = a
  · exact ⟨t, r, e, n, by rw [z, upd_same], hr⟩
  · exact ⟨t, row, e, n, by rw [upd_ne z]; exact ht, by omega⟩
theorem eqv_nil_cons {d : PyData} {ds : List PyData} : PyData.eqv (.list (d :: ds)) (.list []) = false := by simp [PyData.eqv, PyData.eqvAll]
theorem HLs.dp {K : PySem.W.Frag} {H : Hp} {xs : List V} {hs : List (List Int)} {a : Addr} (h : HLs H xs hs) (ha : SqL K H a xs) : Dp K H (.ref a) (.list (hs.map fun r => PyData.list (r.map PyData.int))) := by
  refine .lst ha (dpAll_of (by rw [List.length_map]; exact h.1) fun k x d hx hd => ?_)
  rw [List.getElem?_map] at hd
  obtain ⟨r, hr, rfl⟩ := Option.map_eq_some_iff.mp hd
  obtain ⟨t, e, ht⟩ := h.2 k x r hx hr
  subst e
  exact .lst (SqL.of ht) (dpI r)
theorem canLs : ∀ l : List (List Int), PyData.canLayAll0 (l.map fun r => PyData.list (r.map PyData.int)) = true
  | [] => by simp [PyData.canLayAll0]
  | r :: l => by simp [PyData.canLayAll0, PyData.canLay0, canI, canLs l]
theorem depLs : ∀ l : List (List Int), PyData.depthAll (l.map fun r => PyData.list (r.map PyData.int)) ≤ 1
  | [] => by simp [PyData.depthAll]
  | r :: l => by
    have := depLs l
    simp [PyData.depthAll, PyData.depth, depI]
    omega
theorem shLs (l : List (List Int)) : PyData.canLay0 (.list (l.map fun r => PyData.list (r.map PyData.int))) = true ∧ SeqAt.shaped (.list (l.map fun r => PyData.list (r.map PyData.int))) = true := by
  have c : PyData.canLay0 (.list (l.map fun r => PyData.list (r.map PyData.int))) = true := by simp [PyData.canLay0, canLs]
  refine ⟨c, ?_⟩
  unfold SeqAt.shaped
  rw [c]
  have := depLs l
  simp [PyData.depth]
  omega
/-- rows == [] -/
theorem g_eqNil {K : PySem.W.Frag} {H : Hp} {Q : VK} {a b : Addr} {xs : List V} {hs : List (List Int)} (h : HLs H xs hs) (ha : SqL K H a xs) (hb : SqL K H b []) (q : Q (.bl (decide (hs = []))) H) : rEqD K (.ref a) (.ref b) H Q := by
  refine ⟨_, _, h.dp ha, .lst hb .nil, (shLs hs).2, (shLs []).2, ?_⟩
  cases hs with
  | nil => exact q
  | cons r hs =>
    rw [List.map_cons, eqv_nil_cons]
    exact q
def spSpoO : Sp := fun vs H Q _ => ∃ (c : Int) (n : Nat) (oa : Addr) (xs : List V) (hs : List (List Int)), vs = [.int c, .int (n : Int), .ref oa] ∧ H oa = some (.lst xs) ∧ HLs H xs hs ∧ hs.length ≤ 30 ∧ (∀ row ∈ hs, row.length ≤ 3) ∧
  ∀ (t : Addr) (zs : List V) (gs : List (List Int)) (H' : Hp), H t = none → Same H H' → H' t = some (.lst zs) → HLs H' zs gs → gs.length ≤ 30 → (∀ row ∈ gs, row.length ≤ 5) → Q (.ref t) H'
theorem ok_spoO (F : Fun K "_law_spoilt_order" "_law_spoilt_order" s__law_spoilt_order f fd) (T : Txt K mg A) (D__law_draws : DefOk P w K mg base CX0 1 "_law_draws" ["cell", "sizes"] (Rt.spDraws K)) : FnOk P w K mg base CX0 2 f fd ["cell", "many", "order"] spSpoO := by
  refine F.ok sc__law_spoilt_order (fun vs H Q E h => ?_) (fun cdv A1 outer s H vs Q E hr h => ?_)
  · obtain ⟨c, n, oa, xs, hs, rfl, _⟩ := h
    rfl
  · obtain ⟨c, n, oa, xs, hs, rfl, ho, hH, h30, h3, q⟩ := h
    have xl := hH.1
    refine ⟨_, (pss_cons (ps_set (i := 3) sc__law_spoilt_order.nd rfl (Or.inl rfl) (pe_callD D__law_draws (hr.mono (by decide)) pass0 (pa_cons (pv 0) (pa_cons (pe_lst (pa_cons pe_int (pa_cons pe_int (pa_cons pe_int (pa_cons pe_int (pa_cons pe_int (pa_cons pe_int (pa_cons pe_int (pa_cons pe_int (pa_cons (pe_op op_pow pe_int pe_int) pa_nil)))))))))) pa_nil))))
      (pss_cons (ps_setLc (i := 4) (own := [("handful", 5)]) (g := gName 5) (tt := tYes) rfl sc__law_spoilt_order.nd rfl rfl (sw_true rfl rfl rfl (by decide +kernel)) (pi_listK K (pv 2)) (blkOk_by (N := ["cell", "many", "order", "draws", "spoilt", "handful", "turn", "row", "bad"]) (sc := defScope s__law_spoilt_order) (by decide +kernel)) (fun _ _ _ _ _ => (by exact (pg_name (i := 5) sc__law_spoilt_order.nd rfl (Or.inl rfl)))) (fun _ _ _ _ _ => (by exact pts_nil)) (fun _ _ _ _ _ => (by exact (pe_callTy (call_listK K) (by rfl) T.m_list (by decide +kernel) (pa_cons (pv 5) pa_nil)))))
      (pss_cons (ps_if (PW.pt (pw_or (pt_cmpR op_ne (pe_ix (ix_listK K) (pv 3) pe_int (fun _ _ => rfl)) pe_int (nomark _)) (pw_or1 (pt_cmpR (op_eqDK K hr.units) (pv 2) (pe_lst pa_nil) (nomark _))))) (pss_one (ps_ret (pv 4))) pss_nil)
      (pss_cons (ps_for (PassesOwn.never) rfl (pi_range1 rfl T.m_range (pa_cons (pe_op op_add pe_int (pe_ix (ix_listK K) (pv 3) pe_int (fun _ _ => rfl))) pa_nil)) (pg_name (i := 6) sc__law_spoilt_order.nd rfl (Or.inl rfl)) (pss_cons (ps_set (i := 7) sc__law_spoilt_order.nd rfl (Or.inl rfl) (pe_ix (ix_listK K) (pv 4) (pe_op op_mod (pe_callTy call_int1 (by rfl) T.m_int (by decide +kernel) (pa_cons (pe_ix (ix_listK K) (pv 3) (pe_op op_add pe_int (pe_op op_mul pe_int (pv 6))) (fun _ _ => rfl)) pa_nil)) (pe_callB (call_lenK K) (by rfl) T.m_len PySem.boot_len (pa_cons (pv 4) pa_nil))) (fun _ _ => rfl)))
      (pss_cons (ps_set (i := 8) sc__law_spoilt_order.nd rfl (Or.inl rfl) (pe_ix (ix_listK K) (pe_lst (pa_cons (pe_un un_neg pe_int) (pa_cons (pv 1) (pa_cons (pe_op op_add (pe_op op_add (pv 1) pe_int) (pe_ix (ix_listK K) (pv 3) pe_int (fun _ _ => rfl))) (pa_cons (pe_op op_sub (pe_un un_neg pe_int) (pe_ix (ix_listK K) (pv 3) pe_int (fun _ _ => rfl))) pa_nil))))) (pe_ix (ix_listK K) (pv 3) (pe_op op_add pe_int (pe_op op_mul pe_int (pv 6))) (fun _ _ => rfl)) (fun _ _ => rfl)))
      (pss_one (ps_expr (pe_insK K (pv 7) (pa_cons (pe_op op_mod (pe_callTy call_int1 (by rfl) T.m_int (by decide +kernel) (pa_cons (pe_ix (ix_listK K) (pv 3) (pe_op op_add pe_int (pe_op op_mul pe_int (pv 6))) (fun _ _ => rfl)) pa_nil)) (pe_op op_add (pe_callB (call_lenK K) (by rfl) T.m_len PySem.boot_len (pa_cons (pv 7) pa_nil)) pe_int)) (pa_cons (pv 8) pa_nil))))))))
      (pss_one (ps_ret (pv 4))))))), ?_⟩
    walk_at "rd"
    refine g_I ⟨by decide, by decide, by decide⟩ ?_
    walk_at "rd"
    refine newL fun a1 H1 na1 S1 h1 => ?_
    walk_at "rd"
    refine ⟨a1, c, [6, 2, 30, 4, 4, 30, 4, 4, 1000000], rfl, SqL.of h1, by simp, fun i hi => ?_, fun da H2 ds nda S2 hda dr => ?_⟩
    · have hi' : i < 9 := hi
      have : i = 0 ∨ i = 1 ∨ i = 2 ∨ i = 3 ∨ i = 4 ∨ i = 5 ∨ i = 6 ∨ i = 7 ∨ i = 8 := by omega
      rcases this with z | z | z | z | z | z | z | z | z <;> subst z <;> decide
    have dl : ds.length = 9 := dr.len
    have b1 : 0 ≤ ds.getD 1 0 ∧ ds.getD 1 0 < 2 := dr.at_ 1 (by simp)
    have b2 : 0 ≤ ds.getD 2 0 ∧ ds.getD 2 0 < 30 := dr.at_ 2 (by simp)
    have b3 : 0 ≤ ds.getD 3 0 ∧ ds.getD 3 0 < 4 := dr.at_ 3 (by simp)
    have b4 : 0 ≤ ds.getD 4 0 ∧ ds.getD 4 0 < 4 := dr.at_ 4 (by simp)
    have b5 : 0 ≤ ds.getD 5 0 ∧ ds.getD 5 0 < 30 := dr.at_ 5 (by simp)
    have b6 : 0 ≤ ds.getD 6 0 ∧ ds.getD 6 0 < 4 := dr.at_ 6 (by simp)
    have b7 : 0 ≤ ds.getD 7 0 ∧ ds.getD 7 0 < 4 := dr.at_ 7 (by simp)
    have S02 := S1.trans S2
    walk_at "rd"
    refine ⟨oa, rfl, ⟨_, SqL.of (S02 _ _ ho)⟩, fun D nD => ?_⟩
    refine lc_list (xs := xs) (fun i H' => ∃ zs : List V, Same H2 H' ∧ H' D = some (.lst zs) ∧ zs.length = i ∧ RwB (fun t => H2 t = none ∧ t ≠ D) H' zs 3) ⟨[], Same.new nD, upd_same, rfl, fun k x h => by simp at h⟩ (fun i H' _ ⟨_, S, _⟩ => SqL.of (S _ _ (S02 _ _ ho))) ?_ ?_
    · rintro i x H' hx ⟨zs, S', hD, zl, hR⟩
      obtain ⟨row, t, hr, rfl, ht⟩ := (hH.mono (S02.trans S')).at_ hx
      have li : i < hs.length := (List.getElem?_eq_some_iff.mp hr).1
      walk_at "rd"
      refine ⟨rfl, ?_⟩
      walk_at "rd"
      refine g_lo (.inl (SqL.of ht)) fun u H3 nu S3 hu => ?_
      have uD : u ≠ D := fun z => by rw [z, hD] at nu; cases nu
      refine ⟨zs, S3 _ _ hD, slt1000 (by omega), zs ++ [V.ref u], (S'.trans S3).mut nD, upd_same, by rw [List.length_append, zl]; rfl, fun k y hy => ?_⟩
      by_cases z : k < zs.length
      · rw [List.getElem?_append_left z] at hy
        obtain ⟨t1, r1, e1, n1, h1, l1⟩ := hR k y hy
        exact ⟨t1, r1, e1, n1, by rw [upd_ne n1.2]; exact S3 _ _ h1, l1⟩
      · rw [List.getElem?_append_right (by omega)] at hy
        have k0 : k - zs.length = 0 := by
          have := (List.getElem?_eq_some_iff.mp hy).1
          simp at this; omega
        rw [k0] at hy
        cases hy
        exact ⟨u, row, rfl, ⟨S'.free nu, uD⟩, by rw [upd_ne uD]; exact hu, h3 row (List.mem_of_getElem? hr)⟩
    rintro H3 ⟨zs, S3, hD, zl, hR⟩
    have S03 := S02.trans S3
    have nD0 : H D = none := S02.free nD
    have hda3 := S3 _ _ hda
    have done : ∀ {H' : Hp} {N : Addr → Prop} {b : Nat}, Same H H' → H' D = some (.lst zs) → b ≤ 5 → RwB N H' zs b → Q (.ref D) H' := fun {H' N b} S h hb r => by
      obtain ⟨gs, g1, g2⟩ := r.hls
      exact q D zs gs H' nD0 S h g1 (by rw [← g1.1]; omega) fun row hr => by have := g2 row hr; omega
    walk_at "rd"
    refine g_ixL (SqL.of hda3) (at_int (o := 0) (by omega)) ?_
    walk_at "rd"
    refine g_ite (fun e => ?_) (fun e => ?_)
    · walk_at "rd"
      exact done S03 hD (by omega) hR
    walk_at "rd"
    refine newL fun e0 H4 ne0 S4 he0 => ?_
    have S04 := S03.trans S4
    refine g_eqNil (hH.mono S04) (SqL.of (S04 _ _ ho)) (SqL.of he0) ?_
    walk_at "rd"
    refine g_ite (fun e => ?_) (fun e => ?_)
    · walk_at "rd"
      exact done S04 (S4 _ _ hD) (by omega) (hR.mono S4)
    have ne : hs ≠ [] := of_decide_eq_false e
    have hl0 : 0 < hs.length := List.length_pos_iff.mpr ne
    have zl0 : 0 < zs.length := by omega
    have hda4 := S4 _ _ hda3
    walk_at "rd"
    refine g_ixL (SqL.of hda4) (at_int (o := 1) (by omega)) ?_
    walk_at "rd"
    have hN : ∀ t, (H2 t = none ∧ t ≠ D) → (H t = none ∧ t ≠ da ∧ t ≠ D) := fun t h => ⟨S02.free h.1, (fun z => by rw [z, hda] at h; cases h.1), h.2⟩
    refine ⟨_, rfl, by omega, by omega, for_range (lo := 0) (fun i σ H' => ∃ v5 v6 v7 v8 : Option V, σ = [some (.int c), some (.int (n : Int)), some (.ref oa), some (.ref da), some (.ref D), v5, v6, v7, v8] ∧ Same H H' ∧ H' da = some (.lst (ds.map V.int)) ∧ H' D = some (.lst zs) ∧ RwB (fun t => H t = none ∧ t ≠ da ∧ t ≠ D) H' zs (3 + i)) ⟨none, none, none, none, rfl, S04, hda4, S4 _ _ hD, fun k x hx => by
        obtain ⟨t, row, e1, n1, h1, l1⟩ := (hR.mono S4) k x hx
        exact ⟨t, row, e1, hN t n1, h1, by omega⟩⟩ ?_ ?_⟩
    · rintro i σ H' hi ⟨v5, v6, v7, v8, rfl, S', hda', hD', hR'⟩
      have i2 : i < 2 := by omega
      rw [Int.zero_add]
      have at3 : ∀ (o : Nat) (b : Int), (o = 2 ∧ b = 30 ∨ o = 3 ∧ b = 4 ∨ o = 4 ∧ b = 4) → 0 ≤ ds.getD (o + 3 * i) 0 ∧ ds.getD (o + 3 * i) 0 < b := fun o b h => by
        have : i = 0 ∨ i = 1 := by omega
        rcases this with z | z <;> subst z <;> rcases h with ⟨z1, z2⟩ | ⟨z1, z2⟩ | ⟨z1, z2⟩ <;> subst z1 <;> subst z2
        · exact b2
        · exact b3
        · exact b4
        · exact b5
        · exact b6
        · exact b7
      have p2 := at3 2 30 (by omega)
      have p3 := at3 3 4 (by omega)
      have p4 := at3 4 4 (by omega)
      walk_at "rd"
      refine g_I (.inl ⟨by decide, by decide⟩) ?_
      walk_at "rd"
      rw [show (2 : Int) + 3 * (i : Int) = ((2 + 3 * i : Nat) : Int) by omega]
      refine g_ixL (SqL.of hda') (at_int (by omega)) ?_
      walk_at "rd"
      refine ⟨D, _, rfl, .inl (SqL.of hD'), ?_⟩
      refine g_I (by omega) ?_
      walk_at "rd"
      have c1 := Int.emod_nonneg (ds.getD (2 + 3 * i) 0) (show (zs.length : Int) ≠ 0 by omega)
      have c2 := Int.emod_lt_of_pos (ds.getD (2 + 3 * i) 0) (show 0 < (zs.length : Int) by omega)
      obtain ⟨j, ej, hj⟩ : ∃ j : Nat, ds.getD (2 + 3 * i) 0 % (zs.length : Int) = (j : Int) ∧ j < zs.length := ⟨(ds.getD (2 + 3 * i) 0 % (zs.length : Int)).toNat, by omega, by omega⟩
      rw [ej]
      obtain ⟨t, row, et, nt, ht, hb⟩ := hR' j _ (List.getElem?_eq_getElem hj)
      refine g_ixL (SqL.of hD') (atI_nat (List.getElem?_eq_getElem hj)) ?_
      rw [et]
      walk_at "rd"
      refine g_ixL (SqL.of hda') (at_int (o := 8) (by omega)) ?_
      walk_at "rd"
      refine g_ixL (SqL.of hda') (at_int (o := 8) (by omega)) ?_
      walk_at "rd"
      refine newL fun u H5 nu S5 hu => ?_
      walk_at "rd"
      refine g_I (.inl ⟨by decide, by decide⟩) ?_
      walk_at "rd"
      rw [show (4 : Int) + 3 * (i : Int) = ((4 + 3 * i : Nat) : Int) by omega]
      refine g_ixL (SqL.of (S5 _ _ hda')) (at_int (by omega)) ?_
      walk_at "rd"
      obtain ⟨k4, ek4, hk4⟩ : ∃ k : Nat, ds.getD (4 + 3 * i) 0 = (k : Int) ∧ k < 4 := ⟨(ds.getD (4 + 3 * i) 0).toNat, by omega, by omega⟩
      rw [ek4]
      obtain ⟨y, hy⟩ : ∃ y : Int, ([V.int (-1), V.int (n : Int), V.int ((n : Int) + 1 + ds.getD 8 0), V.int (-2 - ds.getD 8 0)] : List V)[k4]? = some (.int y) := by
        rcases k4 with _ | _ | _ | _ | k4
        · exact ⟨_, rfl⟩
        · exact ⟨_, rfl⟩
        · exact ⟨_, rfl⟩
        · exact ⟨_, rfl⟩
        · omega
      refine g_ixL (SqL.of hu) (atI_nat hy) ?_
      walk_at "rd"
      refine ⟨ty_l (S5 _ _ ht), ?_⟩
      walk_at "rd"
      refine g_I (.inl ⟨by decide, by decide⟩) ?_
      walk_at "rd"
      rw [show (3 : Int) + 3 * (i : Int) = ((3 + 3 * i : Nat) : Int) by omega]
      refine g_ixL (SqL.of (S5 _ _ hda')) (at_int (by omega)) ?_
      walk_at "rd"
      refine ⟨t, _, rfl, .inl (SqL.of (S5 _ _ ht)), ?_⟩
      rw [List.length_map]
      walk_at "rd"
      refine g_I (by omega) ?_
      walk_at "rd"
      have d1 := Int.emod_nonneg (ds.getD (3 + 3 * i) 0) (show ((row.length : Int) + 1) ≠ 0 by omega)
      have d2 := Int.emod_lt_of_pos (ds.getD (3 + 3 * i) 0) (show 0 < ((row.length : Int) + 1) by omega)
      obtain ⟨m, em, hm⟩ : ∃ m : Nat, ds.getD (3 + 3 * i) 0 % ((row.length : Int) + 1) = (m : Int) ∧ m ≤ row.length := ⟨(ds.getD (3 + 3 * i) 0 % ((row.length : Int) + 1)).toNat, by omega, by omega⟩
      rw [em]
      refine g_ins (S5 _ _ ht) (by omega) hm ?_
      refine ⟨_, _, _, _, rfl, (S'.trans S5).mut nt.1, by rw [upd_ne (fun z => nt.2.1 z.symm)]; exact S5 _ _ hda', by rw [upd_ne (fun z => nt.2.2 z.symm)]; exact S5 _ _ hD', ?_⟩
      exact (hR'.mono S5).put (by rw [List.length_append, List.length_append, List.length_take, List.length_drop, List.length_singleton]; omega)
    · rintro σ H' ⟨v5, v6, v7, v8, rfl, S', hda', hD', hR'⟩
      walk_at "rd"
      exact done S' hD' (by omega) hR'
/-! ### -/
end
end Rt
set_option Elab.async false
set_option linter.all false
set_option maxRecDepth 100000
set_option maxHeartbeats 4000000
namespace Rt
open PySem PySem.Spec L2
open PyProof.Rows (envOfC)
open LamX (CodeO TabS Tabs TabB)
local macro_rules | `(tactic| walk_at "rd1") => `(tactic| (with_reducible first
  | refine g_var (by with_unfolding_all rfl) ?_
  | refine g_c ?_
  | refine g_op ?_
  | refine g_I0 ?_
  | refine g_eqI ?_
  | refine g_neI ?_
  | refine g_eqB ?_
  | refine g_neB ?_
  | refine g_cons ?_
  | refine g_nil ?_
  | refine g_seq ?_
  | refine g_asg ?_
  | refine g_name ?_
  | refine g_ret ?_
  | refine g_retN ?_
  | refine g_drop ?_
  | refine g_next ?_
  | refine g_if ?_
  | refine g_test ?_
  | refine g_tB ?_
  | refine g_bl ?_
  | refine g_and ?_
  | refine g_or ?_
  | refine g_not ?_
  | refine g_andV ?_
  | refine g_orV ?_
  | refine g_notV ?_
  | refine g_ifE ?_
  | refine g_cb ?_
  | refine g_meth ?_
  | refine g_rev ?_
  | refine g_gcons ?_
  | refine g_gnil ?_
  | refine g_isB' ?_
  | refine g_gsub ?_
  | refine g_call ?_
  | refine g_callS ?_
  | refine g_bm ?_
  | refine g_un ?_
  | refine g_U ?_
  | refine g_chain ?_
  | refine g_sl ?_
  | refine g_brk ?_
  | refine g_ct ?_
  | refine g_ipI ?_
  | refine g_fld ?_
  | refine g_lst ?_
  | refine g_int ?_
  | refine g_for ?_
  | refine g_rg1 ?_
  | refine g_rg2 ?_
  | refine g_il ?_
  | refine g_it ?_
  | refine g_lc ?_
  | refine g_yes ?_
  | refine g_tup ?_
  | refine g_part ?_
  | refine g_xf ?_
  | refine g_nn ?_
  | refine g_mko ?_
  | refine g_lrg ?_
  | refine g_tr1 ?_
  | refine g_tr2 ?_
  | refine g_oi2 ?_
  | refine g_mk ?_
  | refine g_sfld ?_
  | refine g_ost ?_
  | refine g_oi ?_
  | refine g_nopart ?_
  | refine g_tt ?_
  | refine g_ff ?_
  | refine g_nt ?_
  | refine g_nf ?_
  | refine g_drn ?_
  | refine g_din ?_
  | refine g_dnn ?_
  | refine g_nrn ?_
  | refine g_nin ?_
  | refine g_nnn ?_))
local macro_rules | `(tactic| walk_at "rd") => `(tactic| (repeat walk_at "rd1"))

section
variable {P : Program} {w : World} {K : PySem.W.Frag} {mg : Str → Option Value} {base : Heap} {f : Addr} {fd : FuncData} {A : Ad} {TL : List (Addr × Str)}
/-! ### _law_handed within a suite -/
theorem ok_handOH (F : Fun K "_law_handed" "_law_handed" s__law_handed f fd) (T : Txt K mg A) : L2H.FnH P w K mg base CX0 1 f fd ["order", "form"] spHandO := by
  refine okH F sc__law_handed (fun vs H Q E h => ?_) (fun cdv A1 outer s H vs Q E p hot hr h => ?_)
  · obtain ⟨oa, xs, hs, m, rfl, _⟩ := h
    rfl
  · obtain ⟨oa, xs, hs, m, rfl, ho, hH, h9, q⟩ := h
    have xl := hH.1
    refine ⟨_, (pss_cons (HotW.ps_setLcW (i := 2) (own := [("handful", 3)]) (g := gName 3) (tt := tYes) (show L2H.HotC _ from ⟨p, hot, List.mem_cons_self⟩) sc__law_handed.nd rfl rfl (sw_true rfl rfl rfl (by decide +kernel)) (HotW.pi_listW K (pv 0)) (blkOk_by (N := ["order", "form", "rows", "handful"]) (sc := defScope s__law_handed) (by decide +kernel)) (fun _ _ _ _ _ => (by exact (pg_name (i := 3) sc__law_handed.nd rfl (Or.inl rfl)))) (fun _ _ _ _ _ => (by exact pts_nil)) (fun _ _ _ _ _ => (by exact (pe_callTy (call_listK K) (by rfl) T.m_list (by decide +kernel) (pa_cons (pv 3) pa_nil)))))
      (pss_cons (ps_if (PW.pt (pw_or (pt_cmpR op_eq (pv 1) pe_int (nomark _)) (pw_or1 (pt_cmpR op_eq (pv 1) pe_int (nomark _))))) (pss_one (HotW.ps_setLcW (i := 2) (own := [("handful", 3)]) (g := gName 3) (tt := tYes) (show L2H.HotC _ from ⟨p, hot, List.mem_cons_self⟩) sc__law_handed.nd rfl rfl (sw_true rfl rfl rfl (by decide +kernel)) (HotW.pi_listW K (pv 0)) (blkOk_by (N := ["order", "form", "rows", "handful"]) (sc := defScope s__law_handed) (by decide +kernel)) (fun _ _ _ _ _ => (by exact (pg_name (i := 3) sc__law_handed.nd rfl (Or.inl rfl)))) (fun _ _ _ _ _ => (by exact pts_nil)) (fun _ _ _ _ _ => (by exact (pe_callTy (call_tupleK K) (by rfl) T.m_tuple (by decide +kernel) (pa_cons (pv 3) pa_nil)))))) pss_nil)
      (pss_cons (ps_if (PW.pt (pw_or (pt_cmpR op_eq (pv 1) pe_int (nomark _)) (pw_or1 (pt_cmpR op_eq (pv 1) pe_int (nomark _))))) (pss_one (ps_ret (pe_callTy (call_tupleK K) (by rfl) T.m_tuple (by decide +kernel) (pa_cons (pv 2) pa_nil)))) pss_nil)
      (pss_one (ps_ret (pv 2)))))), ?_⟩
    walk_at "rd"
    refine ⟨oa, rfl, ⟨_, SqL.of ho⟩, fun D nD => ?_⟩
    refine lc_list (xs := xs) (fun i H' => ∃ zs : List V, Same H H' ∧ H' D = some (.lst zs) ∧ RW (fun t => t ≠ D) false H' zs (hs.take i)) ⟨[], Same.new nD, upd_same, RW.nil⟩ (fun i H' _ ⟨_, S, _⟩ => SqL.of (S _ _ ho)) ?_ ?_
    · rintro i x H' hx ⟨zs, S', hD, hR⟩
      obtain ⟨row, t, hr, rfl, ht⟩ := (hH.mono S').at_ hx
      walk_at "rd"
      refine ⟨rfl, ?_⟩
      walk_at "rd"
      refine g_lo (.inl (SqL.of ht)) fun u H2 nu S2 hu => ?_
      have uD : u ≠ D := fun z => by rw [z, hD] at nu; cases nu
      refine ⟨zs, S2 _ _ hD, by rw [hR.len]; exact slt1000 (by rw [List.length_take]; omega), zs ++ [V.ref u], (S'.trans S2).mut nD, upd_same, ?_⟩
      rw [take_more hr]
      exact ((hR.mono S2).more uD hu).upd fun t c => c
    rintro H1 ⟨zs, S1, hD, hR⟩
    rw [xl, List.take_of_length_le (Nat.le_refl _)] at hR
    refine g_name ?_
    dsimp only
    refine g_seq ?_
    refine g_st ([some (.ref oa), some (.int m), some (.ref D), none]) rfl ?_
    refine g_join (fun σ' H' => ∃ (D : Addr) (zs : List V), σ' = [some (.ref oa), some (.int m), some (.ref D), none] ∧ Same H H' ∧ H D = none ∧ H' D = some (.lst zs) ∧ RW (fun _ => True) (decide (m = 1 ∨ m = 2)) H' zs hs) ?_ ?_
    · intro D' hD'
      have two : m = 1 ∨ m = 2 → (tAsg (tLc (iList K (tVar 0)) (gName 3) tYes (tCB (rTupO K) (tCons (tVar 3) tNil)) (List.map (fun x : Str × Nat => x.snd) [(("handful" : Str), 3)])) (gName 2)) D' [some (.ref oa), some (.int m), some (.ref D), none] H1 := fun hm => by
        walk_at "rd"
        refine ⟨oa, rfl, ⟨_, SqL.of (S1 _ _ ho)⟩, fun D2 nD2 => ?_⟩
        refine lc_list (xs := xs) (fun i H' => ∃ zs : List V, Same H1 H' ∧ H' D2 = some (.lst zs) ∧ RW (fun t => t ≠ D2) true H' zs (hs.take i)) ⟨[], Same.new nD2, upd_same, RW.nil⟩ (fun i H' _ ⟨_, S, _⟩ => SqL.of (S _ _ (S1 _ _ ho))) ?_ ?_
        · rintro i x H' hx ⟨zs, S', hD2, hR⟩
          obtain ⟨row, t, hr, rfl, ht⟩ := (hH.mono (S1.trans S')).at_ hx
          walk_at "rd"
          refine ⟨rfl, ?_⟩
          walk_at "rd"
          refine ⟨t, _, rfl, .inl ⟨SqL.of ht, fun u nu => ?_⟩⟩
          have S2 : Same H' (upd H' u (.tup (row.map V.int))) := Same.new nu
          have hu : (upd H' u (.tup (row.map V.int))) u = some (.tup (row.map V.int)) := upd_same
          have uD : u ≠ D2 := fun z => by rw [z, hD2] at nu; cases nu
          refine ⟨zs, S2 _ _ hD2, by rw [hR.len]; exact slt1000 (by rw [List.length_take]; omega), zs ++ [V.ref u], (S'.trans S2).mut nD2, upd_same, ?_⟩
          rw [take_more hr]
          exact ((hR.mono S2).more uD hu).upd fun t c => c
        · rintro H2 ⟨zs, S2, hD2, hR⟩
          rw [xl, List.take_of_length_le (Nat.le_refl _)] at hR
          walk_at "rd"
          exact hD' _ _ ⟨D2, zs, rfl, S1.trans S2, S1.free nD2, hD2, by rw [decide_eq_true hm]; exact hR.weak fun _ _ => trivial⟩
      walk_at "rd"
      refine g_ite (fun e => ?_) (fun e => ?_)
      · have e1 : m = 1 := of_decide_eq_true e
        exact two (.inl e1)
      · have e1 : ¬ m = 1 := of_decide_eq_false e
        walk_at "rd"
        refine g_ite (fun e => ?_) (fun e => ?_)
        · have e2 : m = 2 := of_decide_eq_true e
          exact two (.inr e2)
        · have e2 : ¬ m = 2 := of_decide_eq_false e
          walk_at "rd"
          exact hD' _ _ ⟨D, zs, rfl, S1, nD, hD, by rw [decide_eq_false (fun z => z.elim e1 e2)]; exact hR.weak fun _ _ => trivial⟩
    clear hR hD S1 nD
    rintro σ' H2 ⟨D, zs, rfl, S2, nD, hD, hR⟩
    have fin : ∀ (t : Addr) (H3 : Hp) (c : Bool), c = decide (m = 1 ∨ m = 3) → H t = none → Same H H3 → RW (fun _ => True) (decide (m = 1 ∨ m = 2)) H3 zs hs → H3 t = some (if c = true then .tup zs else .lst zs) → Q (.ref t) H3 := fun t H3 c e n S r h => q t H3 n S ⟨zs, by rw [← e]; exact h, r⟩
    have tup : m = 1 ∨ m = 3 → ∀ u : Addr, H2 u = none → Q (.ref u) (upd H2 u (.tup zs)) := fun hm u nu => fin u _ true (decide_eq_true hm).symm (S2.free nu) (S2.trans (Same.new nu)) (hR.mono (Same.new nu)) upd_same
    walk_at "rd"
    refine g_ite (fun e => ?_) (fun e => ?_)
    · have e1 : m = 1 := of_decide_eq_true e
      walk_at "rd"
      refine ⟨D, _, rfl, .inl ⟨SqL.of hD, fun u nu => ?_⟩⟩
      exact tup (.inl e1) u nu
    · have e1 : ¬ m = 1 := of_decide_eq_false e
      walk_at "rd"
      refine g_ite (fun e => ?_) (fun e => ?_)
      · have e2 : m = 3 := of_decide_eq_true e
        walk_at "rd"
        refine ⟨D, _, rfl, .inl ⟨SqL.of hD, fun u nu => ?_⟩⟩
        exact tup (.inr e2) u nu
      · have e2 : ¬ m = 3 := of_decide_eq_false e
        walk_at "rd"
        exact fin D H2 false (decide_eq_false (fun z => z.elim e1 e2)).symm nD S2 hR hD
/-! ### -/
end
end Rt
set_option Elab.async false
set_option linter.all false
set_option maxRecDepth 100000
set_option maxHeartbeats 4000000
namespace Rt
open PySem PySem.Spec L2
open PyProof.Rows (envOfC)
open LamX (CodeO TabS Tabs TabB)
local macro_rules | `(tactic| walk_at "rd1") => `(tactic| (with_reducible first
  | refine g_var (by with_unfolding_all rfl) ?_
  | refine g_c ?_
  | refine g_op ?_
  | refine g_I0 ?_
  | refine g_eqI ?_
  | refine g_neI ?_
  | refine g_eqB ?_
  | refine g_neB ?_
  | refine g_cons ?_
  | refine g_nil ?_
  | refine g_seq ?_
  | refine g_asg ?_
  | refine g_name ?_
  | refine g_ret ?_
  | refine g_retN ?_
  | refine g_drop ?_
  | refine g_next ?_
  | refine g_if ?_
  | refine g_test ?_
  | refine g_tB ?_
  | refine g_bl ?_
  | refine g_and ?_
  | refine g_or ?_
  | refine g_not ?_
  | refine g_andV ?_
  | refine g_orV ?_
  | refine g_notV ?_
  | refine g_ifE ?_
  | refine g_cb ?_
  | refine g_meth ?_
  | refine g_rev ?_
  | refine g_gcons ?_
  | refine g_gnil ?_
  | refine g_isB' ?_
  | refine g_gsub ?_
  | refine g_call ?_
  | refine g_callS ?_
  | refine g_bm ?_
  | refine g_un ?_
  | refine g_U ?_
  | refine g_chain ?_
  | refine g_sl ?_
  | refine g_brk ?_
  | refine g_ct ?_
  | refine g_ipI ?_
  | refine g_fld ?_
  | refine g_lst ?_
  | refine g_int ?_
  | refine g_for ?_
  | refine g_rg1 ?_
  | refine g_rg2 ?_
  | refine g_il ?_
  | refine g_it ?_
  | refine g_lc ?_
  | refine g_yes ?_
  | refine g_tup ?_
  | refine g_part ?_
  | refine g_xf ?_
  | refine g_nn ?_
  | refine g_mko ?_
  | refine g_lrg ?_
  | refine g_tr1 ?_
  | refine g_tr2 ?_
  | refine g_oi2 ?_
  | refine g_mk ?_
  | refine g_sfld ?_
  | refine g_ost ?_
  | refine g_oi ?_
  | refine g_nopart ?_
  | refine g_tt ?_
  | refine g_ff ?_
  | refine g_nt ?_
  | refine g_nf ?_
  | refine g_drn ?_
  | refine g_din ?_
  | refine g_dnn ?_
  | refine g_nrn ?_
  | refine g_nin ?_
  | refine g_nnn ?_))
local macro_rules | `(tactic| walk_at "rd") => `(tactic| (repeat walk_at "rd1"))

section
variable {P : Program} {w : World} {K : PySem.W.Frag} {mg : Str → Option Value} {base : Heap} {f : Addr} {fd : FuncData} {A : Ad} {TL : List (Addr × Str)}
/-! ### what is handed over, as data -/
def dRow (d : Bool) (r : List Int) : PyData := if d = true then .tuple (r.map PyData.int) else .list (r.map PyData.int)
def dFm (c d : Bool) (hs : List (List Int)) : PyData := if c = true then .tuple (hs.map (dRow d)) else .list (hs.map (dRow d))
theorem canRow (d : Bool) : ∀ l : List (List Int), PyData.canLayAll0 (l.map (dRow d)) = true
  | [] => by simp [PyData.canLayAll0]
  | r :: l => by cases d <;> simp [PyData.canLayAll0, PyData.canLay0, dRow, canI] <;> exact canRow _ l
theorem depRow (d : Bool) : ∀ l : List (List Int), PyData.depthAll (l.map (dRow d)) ≤ 1
  | [] => by simp [PyData.depthAll]
  | r :: l => by
    have := depRow d l
    cases d <;> simp [PyData.depthAll, PyData.depth, dRow, depI] <;> omega
theorem shFm (c d : Bool) (hs : List (List Int)) : PyData.canLay0 (dFm c d hs) = true ∧ SeqAt.shaped (dFm c d hs) = true := by
  have e : PyData.canLay0 (dFm c d hs) = true := by cases c <;> simp [PyData.canLay0, dFm, canRow]
  refine ⟨e, ?_⟩
  unfold SeqAt.shaped
  rw [e]
  have := depRow d hs
  cases c <;> simp [PyData.depth, dFm] <;> omega
theorem Fm.dp {K : PySem.W.Frag} {c d : Bool} {H : Hp} {t : Addr} {hs : List (List Int)} (h : Fm c d H t hs) : Dp K H (.ref t) (dFm c d hs) := by
  obtain ⟨xs, a, b⟩ := h
  have al : DpAll K H xs (hs.map (dRow d)) := dpAll_of (by rw [List.length_map]; exact RW.len b) fun k x e hx he => by
    rw [List.getElem?_map] at he
    obtain ⟨r, hr, rfl⟩ := Option.map_eq_some_iff.mp he
    obtain ⟨u, e1, _, hu⟩ := RW.at_ b hr
    rw [e1] at hx
    cases hx
    cases d with
    | true => exact .tup (SqT.of hu) (dpI r)
    | false => exact .lst (SqL.of hu) (dpI r)
  cases c with
  | true => exact .tup (SqT.of a) al
  | false => exact .lst (SqL.of a) al
theorem RW.monoT' {N : Addr → Prop} {b : Bool} {H H' : Hp} {xs : List V} {l : List (List Int)} (h : RW N b H xs l) (S : SameT H H') : RW N b H' xs l := RA.monoT h S
theorem Fm.monoT {c d : Bool} {H H' : Hp} {t : Addr} {hs : List (List Int)} (h : Fm c d H t hs) (S : SameT H H') : Fm c d H' t hs := by
  obtain ⟨xs, a, b⟩ := h
  refine ⟨xs, ?_, RW.monoT' b S⟩
  cases c with
  | true => exact S.tup a
  | false => exact S.lst a
theorem badAll {n : Int} {q : Int} : ∀ {hs : List (List Int)} {i : Nat} {row : List Int}, (∀ j, j < i → ∀ row', hs[j]? = some row' → badQ n row' = none) → hs[i]? = some row → badQ n row = some q → (hs.flatten.filter (badP n)).head? = some q
  | [], i, row, _, h, _ => by simp at h
  | r :: hs, 0, row, _, h, hq => by
    cases h
    rw [badQ_head] at hq
    rw [List.flatten_cons, List.filter_append, List.head?_append, hq]; rfl
  | r :: hs, i + 1, row, hj, h, hq => by
    have e : r.filter (badP n) = [] := by
      have := hj 0 (Nat.succ_pos _) r rfl
      rw [badQ_head] at this
      exact List.head?_eq_none_iff.mp this
    rw [List.flatten_cons, List.filter_append, e, List.nil_append]
    exact badAll (fun j l row' hr => hj (j + 1) (Nat.succ_lt_succ l) row' hr) h hq
theorem badNone {n : Int} {hs : List (List Int)} (h : ∀ row ∈ hs, badQ n row = none) : hs.flatten.filter (badP n) = [] := by
  refine List.filter_eq_nil_iff.mpr fun q hq => ?_
  obtain ⟨row, hr, hqr⟩ := List.mem_flatten.mp hq
  have := good_of (h row hr) q hqr
  unfold badP
  simp [this.1, this.2]
theorem flat_take {hs : List (List Int)} {i : Nat} {row : List Int} (h : hs[i]? = some row) : (hs.take (i + 1)).flatten = (hs.take i).flatten ++ row := by
  rw [take_more h, List.flatten_append]; simp
theorem flat_len {b : Nat} : ∀ {hs : List (List Int)}, (∀ row ∈ hs, row.length ≤ b) → hs.flatten.length ≤ b * hs.length
  | [], _ => by simp
  | r :: hs, h => by
    have a := flat_len (hs := hs) fun row hr => h row (List.mem_cons_of_mem _ hr)
    have c := h r List.mem_cons_self
    rw [List.flatten_cons, List.length_append, List.length_cons, Nat.mul_succ]; omega
/-! ### _law_refuses -/
def spRefO (K : PySem.W.Frag) (A : Ad) (TL : List (Addr × Str)) : Sp := fun vs H Q _ => ∃ (b ts tl sa : Addr) (r : Bool) (ss ls : List Int) (xs : List V) (hs : List (List Int)) (m : Int), vs = [.ref b, .int (ss.length : Int), .ref sa, .int m] ∧ BAt A.Beads H b ts tl r ss ls ∧ StOk ss ls ∧ H sa = some (.lst xs) ∧ HLs H xs hs ∧ hs.length ≤ 30 ∧ (∀ row ∈ hs, row.length ≤ 5) ∧ Tabs TL H ∧ ∀ H', SameT H H' → Tabs TL H' → Q (.bl true) H'
theorem ok_refO (F : Fun K "_law_refuses" "_law_refuses" s__law_refuses f fd) (T : Txt K mg A) (D__law_handed : DefOk P w K mg base CX0 1 "_law_handed" ["order", "form"] spHandO) (D_run_order : DefOk P w K mg base (L2N.CX P w) 10 "run_order" ["beads", "order"] (spRunO K A TL))
    (H__law_is_integer : DefOkH P w K mg base CX0 1 "_law_is_integer" ["actual"] Rt.spInt) (H__law_handed : DefOkH P w K mg base CX0 1 "_law_handed" ["order", "form"] spHandO) : FnOk P w K mg base CX0 11 f fd ["beads", "many", "spoilt", "form"] (spRefO K A TL) := by
  refine F.ok sc__law_refuses (fun vs H Q E h => ?_) (fun cdv A1 outer s H vs Q E hr h => ?_)
  · obtain ⟨b, ts, tl, sa, r, ss, ls, xs, hs, m, rfl, _⟩ := h
    rfl
  · obtain ⟨b, ts, tl, sa, r, ss, ls, xs, hs, m, rfl, B, ok, hsa, hH, h30, h5, hT, q⟩ := h
    have xl := hH.1
    refine ⟨_, (pss_cons (ps_set (i := 4) sc__law_refuses.nd rfl (Or.inl rfl) (pe_lst pa_nil))
      (pss_cons (ps_for (PassesOwn.never) rfl (pi_listK K (pv 2)) (pg_name (i := 5) sc__law_refuses.nd rfl (Or.inl rfl)) (pss_one (ps_set (i := 4) sc__law_refuses.nd rfl (Or.inl rfl) (pe_op op_cat (pv 4) (pe_lc (own := [("place", 6)]) (g := gName 6) (tt := _) rfl sc__law_refuses.nd (pi_listK K (pv 5)) (blkOk_by (N := ["beads", "many", "spoilt", "form", "bad", "handful", "place", "passed", "e"]) (sc := defScope s__law_refuses) (by decide +kernel)) (fun _ _ _ _ _ => (by exact (pg_name (i := 6) sc__law_refuses.nd rfl (Or.inl rfl)))) (fun _ _ _ _ _ => (by exact (pts_one (PW.pt (pw_or (pt_cmpR op_lt (pv 6) pe_int (nomark _)) (pw_or1 (pt_cmpR op_ge (pv 6) (pv 1) (nomark _)))))))) (fun _ _ _ _ _ => (by exact (pv 6))))))))
      (pss_cons (ps_if (pt_cmpR (op_eqDK K hr.units) (pv 4) (pe_lst pa_nil) (nomark _)) (pss_one (ps_ret pe_bl)) pss_nil)
      (pss_cons (ps_set (i := 7) sc__law_refuses.nd rfl (Or.inl rfl) (pe_callD D__law_handed (hr.mono (by decide)) pass0 (pa_cons (pv 2) (pa_cons (pv 3) pa_nil))))
      (pss_cons (L2N.ps_try_as (i := 8) (Wout := fun _ _ _ _ => False) rfl rfl sc__law_refuses.nd rfl rfl ⟨rfl, by decide, .inl T.g_BadPlace⟩ takes0N (fun W pn xe tk _ => (pss_one (ps_expr (pe_callDS D_run_order (hr.mono (by decide)) (fun σ => L2N.passAt tk σ) (pa_cons (pv 0) (pa_cons (pv 7) pa_nil)))))) (fun a oe cls d pn hz hf => (pss_one (ps_ret (pe_and (pe_callHD H__law_is_integer (L2H.roomH_mark (hr.mono (by decide)) _) (hotC_of hz hf) (E := fun _ => E0) (fun _ => pass0S) (pa_cons (pe_xf T.x_BadPlace T.no_BadPlace_place hz.zc hf (pv 8)) pa_nil)) (pe_and (pe_cmpR op_eq (pe_xf T.x_BadPlace T.no_BadPlace_place hz.zc hf (pv 8)) (pe_ix (ix_listK K) (pv 4) pe_int (fun _ _ => rfl)) (nomark _)) (pe_one (pe_cmpR (op_eqDK K hr.units) (pv 7) (pe_callHD H__law_handed (L2H.roomH_mark (hr.mono (by decide)) _) (hotC_of hz hf) (E := fun _ => E0) (fun _ => pass0S) (pa_cons (pv 2) (pa_cons (pv 3) pa_nil))) (nomark _)))))))))
      (pss_one (ps_ret pe_bl))))))), ?_⟩
    walk_at "rd"
    refine newL fun b0 H0 nb0 S0 hb0 => ?_
    walk_at "rd"
    refine ⟨sa, rfl, ⟨_, SqL.of (S0 _ _ hsa)⟩, for_list (xs := xs) (fun i σ H' => ∃ (v5 v6 v7 v8 : Option V) (ba : Addr), σ = [some (.ref b), some (.int (ss.length : Int)), some (.ref sa), some (.int m), some (.ref ba), v5, v6, v7, v8] ∧ Same H H' ∧ H' ba = some (.lst (((hs.take i).flatten.filter (badP ss.length)).map V.int)))
      ⟨none, none, none, none, b0, rfl, S0, hb0⟩ (fun i σ H' _ ⟨_, _, _, _, _, _, S, _⟩ => SqL.of (S _ _ hsa)) ?_ ?_⟩
    · clear S0 hb0 nb0
      rintro i x σ H' hx ⟨v5, v6, v7, v8, ba, rfl, S', hba⟩
      obtain ⟨row, t, hr, rfl, ht⟩ := (hH.mono S').at_ hx
      have r5 := h5 row (List.mem_of_getElem? hr)
      refine g_name ?_
      walk_at "rd"
      refine ⟨t, rfl, ⟨_, SqL.of ht⟩, fun D nD => ?_⟩
      refine lc_list (xs := row.map V.int) (fun k H2 => Same H' H2 ∧ H2 D = some (.lst (((row.take k).filter (badP ss.length)).map V.int))) ⟨Same.new nD, upd_same⟩ (fun k H2 _ ⟨S, _⟩ => SqL.of (S _ _ ht)) ?_ ?_
      · rintro k x H2 hx ⟨S2, hD⟩
        obtain ⟨li, rfl⟩ := map_at hx
        have st : (row.take (k + 1)).filter (badP ss.length) = (row.take k).filter (badP ss.length) ++ (if badP ss.length (row.getD k 0) = true then [row.getD k 0] else []) := by
          rw [take_getD li, List.filter_append]
          congr 1
          rw [List.filter_cons]
          split <;> rfl
        walk_at "rd"
        refine ⟨rfl, ?_⟩
        walk_at "rd"
        have yes : badP ss.length (row.getD k 0) = true → ∃ acc, H2 D = some (.lst acc) ∧ acc.length < sizeLine ∧ (Same H' (upd H2 D (.lst (acc ++ [V.int (row.getD k 0)]))) ∧ (upd H2 D (.lst (acc ++ [V.int (row.getD k 0)]))) D = some (.lst (((row.take (k + 1)).filter (badP ss.length)).map V.int))) := fun e => by
          refine ⟨_, hD, ?_, S2.mut nD, ?_⟩
          · rw [List.length_map]
            exact slt1000 (by have a := List.length_filter_le (badP ss.length) (row.take k); rw [List.length_take] at a; omega)
          · rw [upd_same, st, if_pos e, List.map_append]; rfl
        have po := badP_or (n := ss.length) (q := row.getD k 0)
        refine g_ite (fun e => ?_) (fun e => ?_)
        · rw [e, Bool.true_or] at po
          walk_at "rd"
          exact yes po.symm
        · rw [e, Bool.false_or] at po
          walk_at "rd"
          refine g_ite (fun e2 => ?_) (fun e2 => ?_)
          · rw [e2] at po
            walk_at "rd"
            exact yes po.symm
          · rw [e2] at po
            refine ⟨S2, ?_⟩
            rw [st, ← po, if_neg Bool.false_ne_true, List.append_nil]; exact hD
      · rintro H2 ⟨S2, hD⟩
        rw [List.length_map, List.take_length] at hD
        have l1 : (hs.take i).flatten.length ≤ 5 * (hs.take i).length := flat_len fun r hr => h5 r (List.mem_of_mem_take hr)
        have l2 := List.length_filter_le (badP ss.length) (hs.take i).flatten
        have l3 := List.length_filter_le (badP ss.length) row
        rw [List.length_take] at l1
        walk_at "rd"
        refine g_cat (S2 _ _ hba) hD (by omega) fun ba2 H3 nba2 S3 hba2 => ?_
        refine ⟨_, _, _, _, ba2, rfl, S'.trans (S2.trans S3), ?_⟩
        rw [flat_take hr, List.filter_append]; exact hba2
    · clear S0 hb0 nb0
      rintro σ H1 ⟨v5, v6, v7, v8, ba, rfl, S1, hba⟩
      rw [xl, List.take_of_length_le (Nat.le_refl _)] at hba
      have gd : (∀ row ∈ hs, badQ ss.length row = none) → hs.flatten.filter (badP ss.length) = [] := fun h => badNone h
      have bd : ∀ i row q, hs[i]? = some row → (∀ j, j < i → ∀ row', hs[j]? = some row' → badQ ss.length row' = none) → badQ ss.length row = some q → (hs.flatten.filter (badP ss.length)).head? = some q := fun i row q h1 h2 h3 => badAll h2 h1 h3
      have l1 : hs.flatten.length ≤ 5 * hs.length := flat_len h5
      have l2 := List.length_filter_le (badP ss.length) hs.flatten
      generalize hs.flatten.filter (badP ss.length) = bs at hba gd bd l2
      refine g_st ([some (.ref b), some (.int (ss.length : Int)), some (.ref sa), some (.int m), some (.ref ba), v5, v6, v7, v8]) rfl ?_
      walk_at "rd"
      refine newL fun e0 H2 ne0 S2 he0 => ?_
      have S12 := S1.trans S2
      refine g_eqL (xs := bs) (ys := []) (SqL.of (S2 _ _ hba)) (SqL.of he0) ?_
      walk_at "rd"
      refine g_ite (fun e => ?_) (fun e => ?_)
      · walk_at "rd"
        exact q H2 (SameT.of S12) (hT.ext S12)
      · have ne : bs ≠ [] := by simpa using e
        obtain ⟨p, bs', rfl⟩ : ∃ p bs', bs = p :: bs' := by
          cases bs with
          | nil => exact absurd rfl ne
          | cons p bs' => exact ⟨p, bs', rfl⟩
        walk_at "rd"
        refine ⟨sa, xs, hs, m, rfl, S12 _ _ hsa, hH.mono S12, by omega, fun pa H3 npa S3 hF => ?_⟩
        obtain ⟨ys, hy, hB⟩ := hF.hbs (K := K)
        have S13 := S12.trans S3
        walk_at "rd"
        refine ⟨b, ts, tl, pa, r, _, ss, ls, ys, hs, rfl, B.mono S13, ok, hy, hB, fun row hr => by have := h5 row hr; omega, by omega, hT.ext S13, fun h => absurd (gd h) ne, fun i row p2 h1 h2 h3 d H4 nd S4 T4 hd => ?_⟩
        have ep := bd i row p2 h1 h2 h3
        cases ep
        refine ⟨true, T.eBP, fun _ a na => ?_, fun z => nomatch z⟩
        walk_at "rd"
        refine ⟨rfl, rfl, d, _, _, rfl, hd, rfl, ?_⟩
        walk_at "rd"
        refine ⟨p, rfl, ?_⟩
        walk_at "rd"
        have S24 := (SameT.of S3).trans S4
        have S04 := (SameT.of S12).trans S24
        refine ⟨rfl, rfl, d, _, _, rfl, hd, rfl, ?_⟩
        walk_at "rd"
        refine g_ixL (SqL.of (S24.lst (S2 _ _ hba))) (atI_nat (j := 0) (v := V.int p) rfl) ?_
        walk_at "rd"
        refine g_itt (decide_eq_true rfl) ?_
        walk_at "rd"
        refine ⟨sa, xs, hs, m, rfl, S04.lst hsa, ?_, by omega, fun pb H5 npb S5 hG => ?_⟩
        · exact ⟨xl, fun k x row hx hr => by
            obtain ⟨t, e, ht⟩ := hH.2 k x row hx hr
            exact ⟨t, e, S04.lst ht⟩⟩
        walk_at "rd"
        refine g_eqD (hF.monoT (S4.trans (SameT.of S5))).dp hG.dp (shFm _ _ _) ?_
        walk_at "rd"
        exact q H5 (S04.trans (SameT.of S5)) (T4.ext S5)
/-! ### -/
end
end Rt
set_option Elab.async false
set_option linter.all false
set_option maxRecDepth 100000
set_option maxHeartbeats 4000000
namespace Rt
open PySem PySem.Spec L2
open PyProof.Rows (envOfC)
open LamX (CodeO TabS Tabs TabB)
local macro_rules | `(tactic| walk_at "rd1") => `(tactic| (with_reducible first
  | refine g_var (by with_unfolding_all rfl) ?_
  | refine g_c ?_
  | refine g_op ?_
  | refine g_I0 ?_
  | refine g_eqI ?_
  | refine g_neI ?_
  | refine g_eqB ?_
  | refine g_neB ?_
  | refine g_cons ?_
  | refine g_nil ?_
  | refine g_seq ?_
  | refine g_asg ?_
  | refine g_name ?_
  | refine g_ret ?_
  | refine g_retN ?_
  | refine g_drop ?_
  | refine g_next ?_
  | refine g_if ?_
  | refine g_test ?_
  | refine g_tB ?_
  | refine g_bl ?_
  | refine g_and ?_
  | refine g_or ?_
  | refine g_not ?_
  | refine g_andV ?_
  | refine g_orV ?_
  | refine g_notV ?_
  | refine g_ifE ?_
  | refine g_cb ?_
  | refine g_meth ?_
  | refine g_rev ?_
  | refine g_gcons ?_
  | refine g_gnil ?_
  | refine g_isB' ?_
  | refine g_gsub ?_
  | refine g_call ?_
  | refine g_callS ?_
  | refine g_bm ?_
  | refine g_un ?_
  | refine g_U ?_
  | refine g_chain ?_
  | refine g_sl ?_
  | refine g_brk ?_
  | refine g_ct ?_
  | refine g_ipI ?_
  | refine g_fld ?_
  | refine g_lst ?_
  | refine g_int ?_
  | refine g_for ?_
  | refine g_rg1 ?_
  | refine g_rg2 ?_
  | refine g_il ?_
  | refine g_it ?_
  | refine g_lc ?_
  | refine g_yes ?_
  | refine g_tup ?_
  | refine g_part ?_
  | refine g_xf ?_
  | refine g_nn ?_
  | refine g_mko ?_
  | refine g_lrg ?_
  | refine g_tr1 ?_
  | refine g_tr2 ?_
  | refine g_oi2 ?_
  | refine g_mk ?_
  | refine g_sfld ?_
  | refine g_ost ?_
  | refine g_oi ?_
  | refine g_nopart ?_
  | refine g_tt ?_
  | refine g_ff ?_
  | refine g_nt ?_
  | refine g_nf ?_
  | refine g_drn ?_
  | refine g_din ?_
  | refine g_dnn ?_
  | refine g_nrn ?_
  | refine g_nin ?_
  | refine g_nnn ?_))
local macro_rules | `(tactic| walk_at "rd") => `(tactic| (repeat walk_at "rd1"))

section
variable {P : Program} {w : World} {K : PySem.W.Frag} {mg : Str → Option Value} {base : Heap} {f : Addr} {fd : FuncData} {A : Ad} {TL : List (Addr × Str)}
/-! ### an order is unwound to where it began -/
theorem chgR_mem {ss es : List Int} {n : Nat} {row : List Int} (h : row ∈ chgR ss es n) : ∃ k : Nat, k < n ∧ row = [(k : Int), ss.getD k 0, es.getD k 0] := by
  unfold chgR at h
  obtain ⟨k, hk, rfl⟩ := List.mem_map.mp h
  exact ⟨k, List.mem_range.mp (List.mem_filter.mp hk).1, rfl⟩
theorem endsIn_chgR {ss es : List Int} : endsIn (chgR ss es es.length) es = true := by
  refine List.all_eq_true.mpr fun row hr => ?_
  obtain ⟨k, hk, rfl⟩ := chgR_mem hr
  unfold endB
  show ((decide (0 ≤ (k : Int)) && decide ((k : Int) < (es.length : Int))) && decide (es.getD ((k : Int)).toNat 0 = es.getD k 0)) = true
  rw [decide_eq_true (by omega), decide_eq_true (by omega), Int.toNat_natCast, decide_eq_true rfl]; rfl
theorem undo_chgR {ss es : List Int} (l : ss.length = es.length) : ∀ m, m ≤ es.length → ∀ k, k < es.length → (undoL es (chgR ss es m)).getD k 0 = if k < m then ss.getD k 0 else es.getD k 0
  | 0, _, k, _ => by
    rw [if_neg (Nat.not_lt_zero k)]; rfl
  | m + 1, hm, k, hk => by
    have ih := undo_chgR l m (by omega) k hk
    rw [chgR_step]
    by_cases c : es.getD m 0 = ss.getD m 0
    · rw [if_pos c, List.append_nil, ih]
      by_cases d : k < m
      · rw [if_pos d, if_pos (by omega)]
      · rw [if_neg d]
        by_cases e : k = m
        · subst e; rw [if_pos (by omega), c]
        · rw [if_neg (by omega)]
    · rw [if_neg c, undoL_app]
      show ((undoL es (chgR ss es m)).set ((m : Int)).toNat (ss.getD m 0)).getD k 0 = _
      rw [Int.toNat_natCast, getD_set (by rw [undoL_len]; omega), ih]
      by_cases d : k = m
      · subst d; rw [if_pos rfl, if_pos (by omega)]
      · rw [if_neg d]
        by_cases e : k < m
        · rw [if_pos e, if_pos (by omega)]
        · rw [if_neg e, if_neg (by omega)]
theorem unwF_take {L : List Ent} {e : Ent} : ∀ (k : Nat) (ss : List Int), k ≤ L.length → unwF (L ++ [e]) k ss = unwF L k ss
  | 0, _, _ => rfl
  | k + 1, ss, h => by
    have g : (L ++ [e]).getD k ([], []) = L.getD k ([], []) := by
      rw [List.getD_eq_getElem?_getD, List.getElem?_append_left (by omega), ← List.getD_eq_getElem?_getD]
    rw [unwF_step, unwF_step, g, unwF_take k _ (by omega)]
theorem unw_logS {r : Bool} {ls : List Int} : ∀ (n : Nat) (hs : List (List Int)) (ss : List Int), hs.length = n → (∀ row ∈ hs, ∀ q ∈ row, 0 ≤ q ∧ q < (ss.length : Int)) → unwF (logS r ls ss hs) hs.length (runS r ls ss hs) = (none, ss)
  | 0, hs, ss, hn, _ => by
    have e : hs = [] := List.eq_nil_of_length_eq_zero hn
    subst e; rfl
  | n + 1, hs, ss, hn, hg => by
    have ne : hs ≠ [] := fun z => by rw [z] at hn; cases hn
    have e : hs = hs.dropLast ++ [hs.getLast ne] := (List.dropLast_concat_getLast ne).symm
    generalize hs.getLast ne = h at e
    generalize hq : hs.dropLast = gs at e
    have lg : gs.length = n := by rw [← hq, List.length_dropLast]; omega
    subst e
    have ih := unw_logS (r := r) (ls := ls) n gs ss lg fun row hr => hg row (List.mem_append_left _ hr)
    have g1 := hg h (List.mem_append_right _ List.mem_cons_self)
    have rl : (runS r ls ss gs).length = ss.length := runS_len _
    have ll : (logS r ls ss gs).length = gs.length := logS_len _
    have g2 : ∀ q ∈ h, 0 ≤ q ∧ q < ((runS r ls ss gs).length : Int) := fun q hq => by rw [rl]; exact g1 q hq
    have wl : (wkS r (runS r ls ss gs) ls h).length = (runS r ls ss gs).length := wkS_len
    rw [List.length_append, List.length_singleton, logS_app, runS_app, unwF_step]
    have gd : (logS r ls ss gs ++ [entS r ls (runS r ls ss gs) h]).getD gs.length ([], []) = entS r ls (runS r ls ss gs) h := by
      rw [List.getD_eq_getElem?_getD, List.getElem?_append_right (by omega), ll, Nat.sub_self]; rfl
    rw [gd]
    have ch : (entS r ls (runS r ls ss gs) h).2 = chgR (runS r ls ss gs) (wkS r (runS r ls ss gs) ls h) (wkS r (runS r ls ss gs) ls h).length := by
      rw [wl]; exact chg_wkS g2
    rw [ch, if_pos endsIn_chgR, unwF_take _ _ (by omega)]
    have un : undoL (wkS r (runS r ls ss gs) ls h) (chgR (runS r ls ss gs) (wkS r (runS r ls ss gs) ls h) (wkS r (runS r ls ss gs) ls h).length) = runS r ls ss gs := by
      refine ext_getD (by rw [undoL_len, wl]) fun k hk => ?_
      rw [undoL_len] at hk
      rw [undo_chgR wl.symm _ (Nat.le_refl _) k hk, if_pos hk]
    rw [un]
    exact ih
theorem chgL_row {ss : List Int} {aft : Int → Int} {qs : List Int} : ∀ row ∈ chgL ss aft qs, ∃ q, row = [q, ss.getD q.toNat 0, aft q] := fun row hr => by
  unfold chgL chgP at hr
  obtain ⟨q, _, rfl⟩ := List.mem_map.mp hr
  exact ⟨q, rfl⟩
theorem getD_ge0 {ss : List Int} (h : ∀ x ∈ ss, 0 ≤ x) (k : Nat) : 0 ≤ ss.getD k 0 := by
  by_cases hk : k < ss.length
  · exact h _ (getD_mem hk)
  · rw [List.getD_eq_getElem?_getD, List.getElem?_eq_none (by omega)]; exact Int.le_refl _
theorem logS_bound {r : Bool} {ls : List Int} {b : Nat} : ∀ (hs : List (List Int)) (ss : List Int), StOk ss ls → (∀ row ∈ hs, row.length ≤ b) → ∀ e ∈ logS r ls ss hs, e.1.length ≤ b ∧ e.2.length ≤ b ∧ ∀ row ∈ e.2, row.length = 3 ∧ 0 ≤ row.getD 1 0
  | [], _, _, _, e, h => by cases h
  | h :: hs, ss, ok, hb, e, he => by
    have b1 := hb h List.mem_cons_self
    rcases List.mem_cons.mp he with z | z
    · subst z
      refine ⟨Nat.le_trans (ascI_len h) b1, Nat.le_trans (chgP_len _) b1, fun row hr => ?_⟩
      obtain ⟨q, rfl⟩ := chgL_row row hr
      exact ⟨rfl, getD_ge0 ok.s0 _⟩
    · exact logS_bound hs _ (ok.wkS r h) (fun row hr => hb row (List.mem_cons_of_mem _ hr)) e z
/-! ### _law_runs -/
/-- entries whose lists of changes may have grown -/
def Grown (N : Addr → Prop) (H : Hp) (zs : List V) (b : Nat) : Prop := ∀ (k : Nat) (x : V), zs[k]? = some x → ∃ (t pa ca : Addr) (ys : List V), x = .ref t ∧ N ca ∧ H t = some (.tup [.ref pa, .ref ca]) ∧ H ca = some (.lst ys) ∧ ys.length ≤ b
theorem Grown.put {N : Addr → Prop} {H : Hp} {zs : List V} {b : Nat} {a : Addr} {ys ws : List V} (h : Grown N H zs b) (ha : H a = some (.lst ys)) (hw : ws.length ≤ b + 1) : Grown N (upd H a (.lst ws)) zs (b + 1) := fun k x hx => by
  obtain ⟨t, pa, ca, us, e, n, ht, hc, hb⟩ := h k x hx
  have ta : t ≠ a := fun z => by rw [z, ha] at ht; cases ht
  by_cases z : ca = a
  · exact ⟨t, pa, ca, ws, e, n, by rw [upd_ne ta]; exact ht, by rw [z, upd_same], hw⟩
  · exact ⟨t, pa, ca, us, e, n, by rw [upd_ne ta]; exact ht, by rw [upd_ne z]; exact hc, by omega⟩
theorem Grown.mono {N : Addr → Prop} {H H' : Hp} {zs : List V} {b : Nat} (h : Grown N H zs b) (S : Same H H') : Grown N H' zs b := fun k x hx => by
  obtain ⟨t, pa, ca, us, e, n, ht, hc, hb⟩ := h k x hx
  exact ⟨t, pa, ca, us, e, n, S _ _ ht, S _ _ hc, hb⟩
def spRunsO (K : PySem.W.Frag) (A : Ad) (TL : List (Addr × Str)) : Sp := fun vs H Q _ => ∃ (b ts tl la sa oa : Addr) (r : Bool) (ss ls : List Int) (xs : List V) (hs : List (List Int)) (m : Int), vs = [.ref b, .bl r, .ref la, .ref sa, .ref oa, .int m] ∧ BAt A.Beads H b ts tl r ss ls ∧ StOk ss ls ∧ ss.length ≤ 900 ∧ SqL K H la (ls.map V.int) ∧ SqL K H sa (ss.map V.int) ∧ H oa = some (.lst xs) ∧ HLs H xs hs ∧ hs.length ≤ 900 ∧ (∀ row ∈ hs, row.length < 900 ∧ ∀ q ∈ row, 0 ≤ q ∧ q < (ss.length : Int)) ∧ Tabs TL H ∧ ∀ H', SameT H H' → Tabs TL H' → Q (.bl true) H'
theorem ok_runsO (F : Fun K "_law_runs" "_law_runs" s__law_runs f fd) (T : Txt K mg A) (D__law_log : DefOk P w K mg base CX0 3 "_law_log" ["round_flag", "sizes", "strengths", "order"] (spLogL K)) (D__law_handed : DefOk P w K mg base CX0 1 "_law_handed" ["order", "form"] spHandO) (D_run_order : DefOk P w K mg base (L2N.CX P w) 10 "run_order" ["beads", "order"] (spRunO K A TL))
    (D__law_is_standing : DefOk P w K mg base CX0 3 "_law_is_standing" ["actual", "round_flag", "sizes", "strengths"] (spStanding K A)) (D__law_is_log : DefOk P w K mg base CX0 4 "_law_is_log" ["actual", "due"] (spIsLog K)) (D_unwind : DefOk P w K mg base (L2N.CX P w) 5 "unwind" ["beads", "log"] (spUnw K A)) : FnOk P w K mg base CX0 11 f fd ["beads", "round_flag", "sizes", "strengths", "order", "form"] (spRunsO K A TL) := by
  refine F.ok sc__law_runs (fun vs H Q E h => ?_) (fun cdv A1 outer s H vs Q E hr h => ?_)
  · obtain ⟨b, ts, tl, la, sa, oa, r, ss, ls, xs, hs, m, rfl, _⟩ := h
    rfl
  · obtain ⟨b, ts, tl, la, sa, oa, r, ss, ls, xs, hs, m, rfl, B, ok, n9, hl, hsa, ho, hH, h9, hrow, hT, q⟩ := h
    have el := ok.len
    have okE : StOk (runS r ls ss hs) ls := StOk.runS hs ok
    have lE : (runS r ls ss hs).length = ss.length := runS_len hs
    have lL : (logS r ls ss hs).length = hs.length := logS_len hs
    have bd := logS_bound (r := r) (b := 900) hs ss ok fun row hr => by have := (hrow row hr).1; omega
    have un := unw_logS (r := r) (ls := ls) hs.length hs ss rfl fun row hr => (hrow row hr).2
    have good : ∀ row ∈ hs, badQ ss.length row = none := fun row hr => badQ_none (hrow row hr).2
    generalize hEs : runS r ls ss hs = es at okE lE un
    generalize hLs : logS r ls ss hs = L at lL bd un
    refine ⟨_, (pss_cons (ps_set (i := 6) sc__law_runs.nd rfl (Or.inl rfl) (pe_callD D__law_log (hr.mono (by decide)) pass0 (pa_cons (pv 1) (pa_cons (pv 2) (pa_cons (pv 3) (pa_cons (pv 4) pa_nil))))))
      (pss_cons (ps_set (i := 7) sc__law_runs.nd rfl (Or.inl rfl) (pe_callD D__law_handed (hr.mono (by decide)) pass0 (pa_cons (pv 4) (pa_cons (pv 5) pa_nil))))
      (pss_cons (ps_set (i := 8) sc__law_runs.nd rfl (Or.inl rfl) (pe_callD D_run_order (hr.mono (by decide)) passN (pa_cons (pv 0) (pa_cons (pv 7) pa_nil))))
      (pss_cons (ps_if (PW.pt (pw_or (pt_not (pt_val (pe_callB (call_isiQ K) (by rfl) T.m_isinstance (by decide +kernel) (pa_cons (pv 8) (pa_cons (pe_bltn (v := .ty "tuple") (by rfl) T.m_tuple (by decide +kernel) rfl) pa_nil))))) (pw_or (pt_cmpR op_ne (pe_callB (call_lenK K) (by rfl) T.m_len PySem.boot_len (pa_cons (pv 8) pa_nil)) pe_int (nomark _)) (pw_or1 (pt_cmpR (op_neDK K hr.units) (pv 7) (pe_callD D__law_handed (hr.mono (by decide)) pass0 (pa_cons (pv 4) (pa_cons (pv 5) pa_nil))) (nomark _)))))) (pss_one (ps_ret pe_bl)) pss_nil)
      (pss_cons (ps_if (PW.pt (pw_or (pt_not (pt_val (pe_callD D__law_is_standing (hr.mono (by decide)) pass0 (pa_cons (pe_ix (ix_tupK K) (pv 8) pe_int (fun _ _ => rfl)) (pa_cons (pv 1) (pa_cons (pv 2) (pa_cons (pe_ix (ix_tupK K) (pv 6) pe_int (fun _ _ => rfl)) pa_nil))))))) (pw_or1 (pt_not (pt_val (pe_callD D__law_is_log (hr.mono (by decide)) pass0 (pa_cons (pe_ix (ix_tupK K) (pv 8) pe_int (fun _ _ => rfl)) (pa_cons (pe_ix (ix_tupK K) (pv 6) pe_int (fun _ _ => rfl)) pa_nil)))))))) (pss_one (ps_ret pe_bl)) pss_nil)
      (pss_cons (ps_if (pt_not (pt_val (pe_callD D__law_is_standing (hr.mono (by decide)) pass0 (pa_cons (pe_callD D_unwind (hr.mono (by decide)) passN (pa_cons (pe_ix (ix_tupK K) (pv 8) pe_int (fun _ _ => rfl)) (pa_cons (pe_ix (ix_tupK K) (pv 8) pe_int (fun _ _ => rfl)) pa_nil))) (pa_cons (pv 1) (pa_cons (pv 2) (pa_cons (pv 3) pa_nil))))))) (pss_one (ps_ret pe_bl)) pss_nil)
      (pss_cons (ps_if (pt_not (pt_val (pe_callD D__law_is_log (hr.mono (by decide)) pass0 (pa_cons (pe_ix (ix_tupK K) (pv 8) pe_int (fun _ _ => rfl)) (pa_cons (pe_ix (ix_tupK K) (pv 6) pe_int (fun _ _ => rfl)) pa_nil))))) (pss_one (ps_ret pe_bl)) pss_nil)
      (pss_cons (ps_for (PassesOwn.never) rfl (pi_listK K (pe_ix (ix_tupK K) (pv 8) pe_int (fun _ _ => rfl))) (pg_name (i := 9) sc__law_runs.nd rfl (Or.inl rfl)) (pss_one (ps_expr (pe_appK K (pe_ix (ix_tupK K) (pv 9) pe_int (fun _ _ => rfl)) (pa_cons (pe_tup (pa_cons pe_int (pa_cons pe_int (pa_cons pe_int pa_nil)))) pa_nil)))))
      (pss_cons (ps_expr (pe_appK K (pe_ix (ix_tupK K) (pv 8) pe_int (fun _ _ => rfl)) (pa_cons (pe_tup (pa_cons (pe_tup pa_nil) (pa_cons (pe_lst pa_nil) pa_nil))) pa_nil)))
      (pss_one (ps_ret (pe_callD D__law_is_standing (hr.mono (by decide)) pass0 (pa_cons (pv 0) (pa_cons (pv 1) (pa_cons (pv 2) (pa_cons (pv 3) pa_nil)))))))))))))))), ?_⟩
    walk_at "rd"
    refine ⟨r, la, sa, oa, ls, ss, xs, hs, rfl, hl, hsa, ok, n9, ho, hH, h9, hrow, fun t na ga zs H1 nt nna nga S1 hna hga hLg ht => ?_⟩
    rw [hEs] at hna
    rw [hLs] at hLg
    walk_at "rd"
    refine ⟨oa, xs, hs, m, rfl, S1 _ _ ho, hH.mono S1, h9, fun pa H2 npa S2 hF => ?_⟩
    obtain ⟨ys, hy, hB⟩ := hF.hbs (K := K)
    have S02 := S1.trans S2
    have hga2 := S2 _ _ hga
    have hna2 := S2 _ _ hna
    have ht2 := S2 _ _ ht
    have hL2 := hLg.mono S2
    walk_at "rd"
    refine ⟨b, ts, tl, pa, r, _, ss, ls, ys, hs, rfl, B.mono S02, ok, hy, hB, fun row hr => by have := (hrow row hr).1; omega, h9, hT.ext S02, fun _ u nb ts' la2 ws H3 nu nla2 S3 T3 B3 hla2 hLu hu => ?_, fun i row p h1 _ h3 => by rw [good row (List.mem_of_getElem? h1)] at h3; cases h3⟩
    rw [hEs] at B3
    rw [hLs] at hLu
    have S03 := (SameT.of S02).trans S3
    clear S1 S2 hna hga ht hLg hy hB
    walk_at "rd"
    refine g_isi (b := true) (.base (.tup hu)) (by decide +kernel) ?_
    walk_at "rd"
    refine ⟨u, _, rfl, .inr (SqT.of hu), ?_⟩
    walk_at "rd"
    refine g_iff (by rfl) ?_
    walk_at "rd"
    have hH3 : HLs H3 xs hs := ⟨hH.1, fun k x row hx hr => by
      obtain ⟨t, e, ht⟩ := hH.2 k x row hx hr
      exact ⟨t, e, S03.lst ht⟩⟩
    refine ⟨oa, xs, hs, m, rfl, S03.lst ho, hH3, h9, fun pb H4 npb S4 hG => ?_⟩
    refine g_neD (hF.monoT (S3.trans (SameT.of S4))).dp hG.dp (shFm _ _ _) ?_
    walk_at "rd"
    have S24 := S3.trans (SameT.of S4)
    have S04 := S03.trans (SameT.of S4)
    have hu4 := S4 _ _ hu
    have ht4 := S24.tup ht2
    have hla4 := S4 _ _ hla2
    have hLu4 := hLu.mono S4
    have B4 := B3.mono S4
    have hga4 := S24.lst hga2
    have hna4 := S24.lst hna2
    have hLg4 := hL2.monoT S24
    clear hu hla2 hLu B3 hga2 hna2 hL2 hG npb hF hH3
    have tr : ∀ a : Addr, (fun _ : Addr => True) a := fun _ => trivial
    have bL : ∀ e ∈ L, e.1.length ≤ 1000 ∧ e.2.length ≤ 1000 ∧ ∀ row ∈ e.2, row.length ≤ 10 := fun e he => ⟨by have := (bd e he).1; omega, by have := (bd e he).2.1; omega, fun row hr => by rw [((bd e he).2.2 row hr).1]; decide⟩
    refine g_ixT (SqT.of hu4) (atI_nat (j := 0) (v := V.ref nb) rfl) ?_
    walk_at "rd"
    refine g_ixT (SqT.of ht4) (atI_nat (j := 0) (v := V.ref na) rfl) ?_
    walk_at "rd"
    refine ⟨nb, ts', tl, la, na, r, es, ls, rfl, B4, S04.seq hl, SqL.of hna4, by omega, by omega, ?_⟩
    walk_at "rd"
    refine g_ixT (SqT.of hu4) (atI_nat (j := 1) (v := V.ref la2) rfl) ?_
    walk_at "rd"
    refine g_ixT (SqT.of ht4) (atI_nat (j := 1) (v := V.ref ga) rfl) ?_
    walk_at "rd"
    refine ⟨la2, ga, ws, zs, L, rfl, hla4, hga4, hLu4.weak fun _ _ => trivial, hLg4.weak fun _ _ => trivial, by omega, bL, ?_⟩
    walk_at "rd"
    refine g_ixT (SqT.of hu4) (atI_nat (j := 0) (v := V.ref nb) rfl) ?_
    walk_at "rd"
    refine g_ixT (SqT.of hu4) (atI_nat (j := 1) (v := V.ref la2) rfl) ?_
    walk_at "rd"
    refine ⟨nb, ts', tl, la2, r, es, ls, ws, L, rfl, B4, okE, hla4, hLu4.weak fun _ _ => trivial, fun e he => (bd e he).2.2, by omega, fun es2 he nb2 ts2 H5 nnb2 S5 B5 => ?_, fun i es2 he => ?_⟩
    · rw [lL, un] at he
      cases he
      have S05 := S04.trans (SameT.of S5)
      walk_at "rd"
      refine ⟨nb2, ts2, tl, la, sa, r, ss, ls, rfl, B5, S05.seq hl, S05.seq hsa, by omega, by omega, ?_⟩
      walk_at "rd"
      have hu5 := S5 _ _ hu4
      have ht5 := S5 _ _ ht4
      have hla5 := S5 _ _ hla4
      refine g_ixT (SqT.of hu5) (atI_nat (j := 1) (v := V.ref la2) rfl) ?_
      walk_at "rd"
      refine g_ixT (SqT.of ht5) (atI_nat (j := 1) (v := V.ref ga) rfl) ?_
      walk_at "rd"
      refine ⟨la2, ga, ws, zs, L, rfl, hla5, S5 _ _ hga4, (hLu4.mono S5).weak fun _ _ => trivial, (hLg4.mono S5).weak fun _ _ => trivial, by omega, bL, ?_⟩
      walk_at "rd"
      refine g_ixT (SqT.of hu5) (atI_nat (j := 1) (v := V.ref la2) rfl) ?_
      have T5 : Tabs TL H5 := (T3.ext S4).ext S5
      have nla0 : H la2 = none := S02.free nla2
      have gr : Grown (fun a => H a = none ∧ a ≠ la2) H5 ws (900 + 0) := fun k x hx => by
        have l : k < L.length := by rw [← hLu4.1]; exact (List.getElem?_eq_some_iff.mp hx).1
        obtain ⟨t, p0, c0, ys, e, _, _, nc, h1, _, h2, h3⟩ := (hLu4.mono S5).2 k x L[k] hx (List.getElem?_eq_getElem l)
        refine ⟨t, p0, c0, ys, e, ⟨S02.free nc.1, nc.2⟩, h1, h2, ?_⟩
        have := (bd L[k] (List.getElem_mem l)).2.1
        rw [h3.1]; omega
      have wl : ws.length ≤ 900 := by rw [hLu4.1]; omega
      refine ⟨la2, rfl, ⟨_, SqL.of hla5⟩, for_list (xs := ws) (fun i σ H' => ∃ v9 : Option V, σ = [some (.ref b), some (.bl r), some (.ref la), some (.ref sa), some (.ref oa), some (.int m), some (.ref t), some (.ref pa), some (.ref u), v9] ∧ SameT H H' ∧ Tabs TL H' ∧ H' la2 = some (.lst ws) ∧ H' u = some (.tup [.ref nb, .ref la2]) ∧ Grown (fun a => H a = none ∧ a ≠ la2) H' ws (900 + i)) ⟨none, rfl, S05, T5, hla5, hu5, gr⟩ (fun i σ H' _ ⟨_, _, _, _, e, _⟩ => SqL.of e) ?_ ?_⟩
      · rintro i x σ H' hx ⟨v9, rfl, S', T', hla', hu', hg⟩
        have il : i < ws.length := (List.getElem?_eq_some_iff.mp hx).1
        obtain ⟨t1, p1, c1, us, rfl, nc, h1, h2, h3⟩ := hg i x hx
        refine g_name ?_
        walk_at "rd"
        refine g_ixT (SqT.of h1) (atI_nat (j := 1) (v := V.ref c1) rfl) ?_
        refine ⟨ty_l h2, ?_⟩
        walk_at "rd"
        refine newT fun v H6 nv S6 hv => ?_
        walk_at "rd"
        refine g_app (S6 _ _ h2) (slt1000 (by omega)) ?_
        have uc : u ≠ c1 := fun z => by rw [z, h2] at hu'; cases hu'
        refine ⟨_, rfl, (S'.trans (SameT.of S6)).mut nc.1, Tabs.updL (T'.ext S6) (S6 _ _ h2), by rw [upd_ne nc.2.symm]; exact S6 _ _ hla', by rw [upd_ne uc]; exact S6 _ _ hu', ?_⟩
        exact (hg.mono S6).put (S6 _ _ h2) (by rw [List.length_append]; show us.length + 1 ≤ _; omega)
      · rintro σ H' ⟨v9, rfl, S', T', hla', hu', hg⟩
        walk_at "rd"
        refine g_ixT (SqT.of hu') (atI_nat (j := 1) (v := V.ref la2) rfl) ?_
        refine ⟨ty_l hla', ?_⟩
        walk_at "rd"
        refine newT fun v H6 nv S6 hv => ?_
        walk_at "rd"
        refine newL fun v2 H7 nv2 S7 hv2 => ?_
        walk_at "rd"
        refine newT fun v3 H8 nv3 S8 hv3 => ?_
        walk_at "rd"
        have S68 := S6.trans (S7.trans S8)
        refine g_app (S68 _ _ hla') (slt1000 (by omega)) ?_
        have SZ := (S'.trans (SameT.of S68)).mut (o := .lst (ws ++ [V.ref v3])) nla0
        have TZ := Tabs.updL (ys := ws ++ [V.ref v3]) (T'.ext S68) (S68 _ _ hla')
        walk_at "rd"
        refine ⟨b, ts, tl, la, sa, r, ss, ls, rfl, B.monoT SZ, SZ.seq hl, SZ.seq hsa, by omega, by omega, ?_⟩
        exact q _ SZ TZ
    · rw [lL, un] at he
      cases he
/-! ### -/
end
end Rt
set_option Elab.async false
set_option linter.all false
set_option maxRecDepth 100000
set_option maxHeartbeats 4000000
namespace Rt
open PySem PySem.Spec L2
open PyProof.Rows (envOfC)
open LamX (CodeO TabS Tabs TabB)
local macro_rules | `(tactic| walk_at "rd1") => `(tactic| (with_reducible first
  | refine g_var (by with_unfolding_all rfl) ?_
  | refine g_c ?_
  | refine g_op ?_
  | refine g_I0 ?_
  | refine g_eqI ?_
  | refine g_neI ?_
  | refine g_eqB ?_
  | refine g_neB ?_
  | refine g_cons ?_
  | refine g_nil ?_
  | refine g_seq ?_
  | refine g_asg ?_
  | refine g_name ?_
  | refine g_ret ?_
  | refine g_retN ?_
  | refine g_drop ?_
  | refine g_next ?_
  | refine g_if ?_
  | refine g_test ?_
  | refine g_tB ?_
  | refine g_bl ?_
  | refine g_and ?_
  | refine g_or ?_
  | refine g_not ?_
  | refine g_andV ?_
  | refine g_orV ?_
  | refine g_notV ?_
  | refine g_ifE ?_
  | refine g_cb ?_
  | refine g_meth ?_
  | refine g_rev ?_
  | refine g_gcons ?_
  | refine g_gnil ?_
  | refine g_isB' ?_
  | refine g_gsub ?_
  | refine g_call ?_
  | refine g_callS ?_
  | refine g_bm ?_
  | refine g_un ?_
  | refine g_U ?_
  | refine g_chain ?_
  | refine g_sl ?_
  | refine g_brk ?_
  | refine g_ct ?_
  | refine g_ipI ?_
  | refine g_fld ?_
  | refine g_lst ?_
  | refine g_int ?_
  | refine g_for ?_
  | refine g_rg1 ?_
  | refine g_rg2 ?_
  | refine g_il ?_
  | refine g_it ?_
  | refine g_lc ?_
  | refine g_yes ?_
  | refine g_tup ?_
  | refine g_part ?_
  | refine g_xf ?_
  | refine g_nn ?_
  | refine g_mko ?_
  | refine g_lrg ?_
  | refine g_tr1 ?_
  | refine g_tr2 ?_
  | refine g_oi2 ?_
  | refine g_mk ?_
  | refine g_sfld ?_
  | refine g_ost ?_
  | refine g_oi ?_
  | refine g_nopart ?_
  | refine g_tt ?_
  | refine g_ff ?_
  | refine g_nt ?_
  | refine g_nf ?_
  | refine g_drn ?_
  | refine g_din ?_
  | refine g_dnn ?_
  | refine g_nrn ?_
  | refine g_nin ?_
  | refine g_nnn ?_))
local macro_rules | `(tactic| walk_at "rd") => `(tactic| (repeat walk_at "rd1"))

section
variable {P : Program} {w : World} {K : PySem.W.Frag} {mg : Str → Option Value} {base : Heap} {f : Addr} {fd : FuncData} {A : Ad} {TL : List (Addr × Str)}
/-! ### lists of changes that are set in place -/
abbrev RT := RW (fun _ => True) true
theorem RT.updK {H : Hp} {xs ws us : List V} {l : List (List Int)} {a : Addr} (h : RT H xs l) (ha : H a = some (.lst us)) : RT (upd H a (.lst ws)) xs l := by
  refine ⟨h.1, fun k hk => ?_⟩
  obtain ⟨u, a1, a2, a3⟩ := h.2 k hk
  exact ⟨u, a1, a2, by rw [upd_ne (fun z => by rw [z, ha] at a3; cases a3)]; exact a3⟩
theorem RT.set {H : Hp} {xs : List V} {l : List (List Int)} {t : Addr} {row : List Int} {j : Nat} (h : RT H xs l) (ht : H t = some (.tup (row.map V.int))) : RT H (xs.set j (V.ref t)) (l.set j row) := by
  have hl := RW.len h
  refine ⟨by rw [List.length_set, List.length_set]; exact hl, fun k hk => ?_⟩
  rw [List.length_set] at hk
  by_cases z : j = k
  · subst z
    refine ⟨t, by rw [List.getElem?_set_self (by omega)], trivial, ?_⟩
    show H t = some (if true = true then HO.tup (((l.set j row).getD j []).map V.int) else _)
    rw [if_pos rfl, List.getD_eq_getElem?_getD, List.getElem?_set_self (by omega)]
    exact ht
  · obtain ⟨u, a1, a2, a3⟩ := h.2 k hk
    refine ⟨u, by rw [List.getElem?_set_ne z]; exact a1, trivial, ?_⟩
    show H u = some (if true = true then HO.tup (((l.set j row).getD k []).map V.int) else HO.lst _)
    rw [if_pos rfl, List.getD_eq_getElem?_getD, List.getElem?_set_ne z, ← List.getD_eq_getElem?_getD]
    exact a3
def Chg3 (rows : List (List Int)) : Prop := ∀ row ∈ rows, row.length = 3 ∧ 0 ≤ row.getD 1 0
/-- lists of changes, as long as ns tells -/
def RwG (N : Addr → Prop) (H : Hp) (zs : List V) (ns : List Nat) : Prop := zs.length = ns.length ∧ ∀ (k : Nat) (x : V), zs[k]? = some x → ∃ (t : Addr) (ys : List V) (rows : List (List Int)), x = .ref t ∧ N t ∧ H t = some (.lst ys) ∧ ys.length = ns.getD k 0 ∧ RT H ys rows ∧ Chg3 rows
theorem RwG.mono {N : Addr → Prop} {H H' : Hp} {zs : List V} {ns : List Nat} (h : RwG N H zs ns) (S : Same H H') : RwG N H' zs ns := ⟨h.1, fun k x hx => by
  obtain ⟨t, ys, rows, e, n, ht, l, r, c⟩ := h.2 k x hx
  exact ⟨t, ys, rows, e, n, S _ _ ht, l, RW.mono r S, c⟩⟩
theorem RwG.put {N : Addr → Prop} {H : Hp} {zs : List V} {ns : List Nat} {a : Addr} {us ws : List V} {rw' : List (List Int)} (h : RwG N H zs ns) (ha : H a = some (.lst us)) (hl : ws.length = us.length) (hr : RT H ws rw') (hc : Chg3 rw') : RwG N (upd H a (.lst ws)) zs ns := ⟨h.1, fun k x hx => by
  obtain ⟨t, ys, rows, e, n, ht, l, r, c⟩ := h.2 k x hx
  by_cases z : t = a
  · subst z
    rw [ht] at ha
    cases ha
    exact ⟨t, ws, rw', e, n, upd_same, by rw [hl]; exact l, RT.updK hr ht, hc⟩
  · exact ⟨t, ys, rows, e, n, by rw [upd_ne z]; exact ht, l, RT.updK r ha, c⟩⟩
theorem g_neNil {K : PySem.W.Frag} {H : Hp} {Q : VK} {a b : Addr} {xs : List V} {l : List (List Int)} (h : RT H xs l) (ha : SqL K H a xs) (hb : SqL K H b []) (q : Q (.bl (decide (l ≠ []))) H) : rNeD K (.ref a) (.ref b) H Q := by
  have al : DpAll K H xs (l.map (dRow true)) := dpAll_of (by rw [List.length_map]; exact RW.len h) fun k x e hx he => by
    rw [List.getElem?_map] at he
    obtain ⟨r, hr, rfl⟩ := Option.map_eq_some_iff.mp he
    obtain ⟨u, e1, _, hu⟩ := RW.at_ h hr
    rw [e1] at hx
    cases hx
    exact .tup (SqT.of hu) (dpI r)
  refine ⟨_, _, .lst ha al, .lst hb .nil, (shFm false true l).2, (shFm false true []).2, ?_⟩
  cases l with
  | nil => exact q
  | cons r l =>
    rw [List.map_cons, eqv_nil_cons]
    exact q
/-! ### _law_spoilt_log -/
def spSpoL (K : PySem.W.Frag) : Sp := fun vs H Q _ => ∃ (c : Int) (n : Nat) (ga : Addr) (xs : List V) (L : List Ent), vs = [.int c, .int (n : Int), .ref ga] ∧ H ga = some (.lst xs) ∧ LogA (fun _ => True) H xs L ∧ (∀ e ∈ L, e.1.length ≤ 900 ∧ e.2.length ≤ 900 ∧ Chg3 e.2) ∧ L.length ≤ 900 ∧
  ∀ (t : Addr) (zs : List V) (L' : List Ent) (H' : Hp), H t = none → Same H H' → H' t = some (.lst zs) → LogA (fun _ => True) H' zs L' → (∀ e ∈ L', e.1.length ≤ 900 ∧ e.2.length ≤ 900 ∧ Chg3 e.2) → L'.length ≤ 900 → Q (.ref t) H'
theorem ok_spoL (F : Fun K "_law_spoilt_log" "_law_spoilt_log" s__law_spoilt_log f fd) (T : Txt K mg A) (D__law_draws : DefOk P w K mg base CX0 1 "_law_draws" ["cell", "sizes"] (Rt.spDraws K)) : FnOk P w K mg base CX0 2 f fd ["cell", "many", "log"] (spSpoL K) := by
  refine F.ok sc__law_spoilt_log (fun vs H Q E h => ?_) (fun cdv A1 outer s H vs Q E hr h => ?_)
  · obtain ⟨c, n, ga, xs, L, rfl, _⟩ := h
    rfl
  · obtain ⟨c, n, ga, xs, L, rfl, hg, hL, hb, h9, q⟩ := h
    have xl : xs.length = L.length := hL.1
    refine ⟨_, (pss_cons (ps_set (i := 3) sc__law_spoilt_log.nd rfl (Or.inl rfl) (pe_callD D__law_draws (hr.mono (by decide)) pass0 (pa_cons (pv 0) (pa_cons (pe_op op_cat (pe_lst (pa_cons pe_int (pa_cons pe_int pa_nil))) (pe_op op_rep (pe_lst (pa_cons pe_int (pa_cons pe_int (pa_cons pe_int (pa_cons (pe_op op_pow pe_int pe_int) pa_nil))))) pe_int)) pa_nil))))
      (pss_cons (ps_set (i := 4) sc__law_spoilt_log.nd rfl (Or.inr rfl) (pe_lc (own := [("entry", 5)]) (g := gName 5) (tt := tYes) rfl sc__law_spoilt_log.nd (pi_listK K (pv 2)) (blkOk_by (N := ["cell", "many", "log", "draws", "rows", "entry", "full", "k", "at", "turn", "bits", "row", "place", "before", "after"]) (sc := defScope s__law_spoilt_log) (by decide +kernel)) (fun _ _ _ _ _ => (by exact (pg_name (i := 5) sc__law_spoilt_log.nd rfl (Or.inl rfl)))) (fun _ _ _ _ _ => (by exact pts_nil)) (fun _ _ _ _ _ => (by exact (pe_callTy (call_listK K) (by rfl) T.m_list (by decide +kernel) (pa_cons (pe_ix (ix_tupK K) (pv 5) pe_int (fun _ _ => rfl)) pa_nil))))))
      (pss_cons (ps_setLc (i := 6) (own := [("k", 7)]) (g := gName 7) (tt := _) rfl sc__law_spoilt_log.nd rfl rfl (sw_true rfl rfl rfl (by decide +kernel)) (pi_range1 rfl T.m_range (pa_cons (pe_callB (call_lenK K) (by rfl) T.m_len PySem.boot_len (pa_cons (pv 4) pa_nil)) pa_nil)) (blkOk_by (N := ["cell", "many", "log", "draws", "rows", "entry", "full", "k", "at", "turn", "bits", "row", "place", "before", "after"]) (sc := defScope s__law_spoilt_log) (by decide +kernel)) (fun _ _ _ _ _ => (by exact (pg_name (i := 7) sc__law_spoilt_log.nd rfl (Or.inl rfl)))) (fun _ _ _ _ _ => (by exact (pts_one (pt_cmpR (op_neDK K hr.units) (pe_ix (ix_listK K) (pv 4) (pv 7) (fun _ _ => rfl)) (pe_lst pa_nil) (nomark _))))) (fun _ _ _ _ _ => (by exact (pv 7))))
      (pss_cons (ps_if (PW.pt (pw_and (pt_cmpR op_eq (pe_ix (ix_listK K) (pv 3) pe_int (fun _ _ => rfl)) pe_int (nomark _)) (pw_and1 (pt_cmpR (op_neDK K hr.units) (pv 6) (pe_lst pa_nil) (nomark _))))) (pss_cons (ps_set (i := 8) sc__law_spoilt_log.nd rfl (Or.inl rfl) (pe_op op_mod (pe_callTy call_int1 (by rfl) T.m_int (by decide +kernel) (pa_cons (pe_ix (ix_listK K) (pv 3) pe_int (fun _ _ => rfl)) pa_nil)) (pe_callB (call_lenK K) (by rfl) T.m_len PySem.boot_len (pa_cons (pv 6) pa_nil))))
      (pss_one (ps_for (PassesOwn.never) rfl (pi_range1 rfl T.m_range (pa_cons (pe_op op_add pe_int (pe_ix (ix_listK K) (pv 3) pe_int (fun _ _ => rfl))) pa_nil)) (pg_name (i := 9) sc__law_spoilt_log.nd rfl (Or.inl rfl)) (pss_cons (ps_set (i := 10) sc__law_spoilt_log.nd rfl (Or.inl rfl) (pe_slice (sl_listK K) (pv 3) (po_some (pe_op op_add pe_int (pe_op op_mul pe_int (pv 9)))) (po_some (pe_op op_add pe_int (pe_op op_mul pe_int (pv 9))))))
      (pss_cons (ps_set (i := 11) sc__law_spoilt_log.nd rfl (Or.inl rfl) (pe_ix (ix_listK K) (pv 4) (pe_ix (ix_listK K) (pv 6) (pe_op op_mod (pe_callTy call_int1 (by rfl) T.m_int (by decide +kernel) (pa_cons (pe_op op_add (pv 8) (pv 9)) pa_nil)) (pe_callB (call_lenK K) (by rfl) T.m_len PySem.boot_len (pa_cons (pv 6) pa_nil))) (fun _ _ => rfl)) (fun _ _ => rfl)))
      (pss_cons (ps_set (i := 7) sc__law_spoilt_log.nd rfl (Or.inl rfl) (pe_op op_mod (pe_callTy call_int1 (by rfl) T.m_int (by decide +kernel) (pa_cons (pe_op op_add (pe_ix (ix_listK K) (pv 10) pe_int (fun _ _ => rfl)) (pe_op op_mul (pv 9) (pe_ix (ix_listK K) (pv 10) pe_int (fun _ _ => rfl)))) pa_nil)) (pe_callB (call_lenK K) (by rfl) T.m_len PySem.boot_len (pa_cons (pv 11) pa_nil))))
      (pss_cons (ps_asg (pe_ix (ix_listK K) (pv 11) (pv 7) (fun _ _ => rfl)) (pg_tup rfl (pgs_cons (pg_name (i := 12) sc__law_spoilt_log.nd rfl (Or.inl rfl)) (pgs_cons (pg_name (i := 13) sc__law_spoilt_log.nd rfl (Or.inl rfl)) (pgs_cons (pg_name (i := 14) sc__law_spoilt_log.nd rfl (Or.inl rfl)) pgs_nil)))))
      (pss_cons (ps_if (pt_cmpR op_lt (pe_ix (ix_listK K) (pv 10) pe_int (fun _ _ => rfl)) pe_int (nomark _)) (pss_one (ps_set (i := 12) sc__law_spoilt_log.nd rfl (Or.inl rfl) (pe_ix (ix_listK K) (pe_lst (pa_cons (pv 1) (pa_cons (pe_op op_add (pe_op op_add (pv 1) pe_int) (pe_ix (ix_listK K) (pv 10) pe_int (fun _ _ => rfl))) (pa_cons (pe_un un_neg pe_int) pa_nil)))) (pe_ix (ix_listK K) (pv 10) pe_int (fun _ _ => rfl)) (fun _ _ => rfl)))) (pss_one (ps_if (pt_cmpR op_eq (pe_ix (ix_listK K) (pv 10) pe_int (fun _ _ => rfl)) pe_int (nomark _)) (pss_one (ps_set (i := 13) sc__law_spoilt_log.nd rfl (Or.inl rfl) (pe_ix (ix_listK K) (pv 10) pe_int (fun _ _ => rfl)))) (pss_one (ps_set (i := 14) sc__law_spoilt_log.nd rfl (Or.inl rfl) (pe_ix (ix_listK K) (pe_lst (pa_cons (pe_op op_add (pv 14) pe_int) (pa_cons (pe_op op_sub (pv 14) pe_int) (pa_cons (pe_ix (ix_listK K) (pv 10) pe_int (fun _ _ => rfl)) pa_nil)))) (pe_op op_sub (pe_ix (ix_listK K) (pv 10) pe_int (fun _ _ => rfl)) pe_int) (fun _ _ => rfl)))))))
      (pss_one (ps_if (PW.pt (pw_or (pt_cmpR op_eq (pv 9) pe_int (nomark _)) (pw_or1 (pt_cmpR op_gt (pe_callB (call_lenK K) (by rfl) T.m_len PySem.boot_len (pa_cons (pv 6) pa_nil)) pe_int (nomark _))))) (pss_one (ps_asg (pe_tup (pa_cons (pv 12) (pa_cons (pv 13) (pa_cons (pv 14) pa_nil)))) (pg_sub (pv 11) (pv 7) set_list))) pss_nil)))))))))) pss_nil)
      (pss_one (ps_ret (pe_lc (own := [("k", 7)]) (g := gName 7) (tt := tYes) rfl sc__law_spoilt_log.nd (pi_range1 rfl T.m_range (pa_cons (pe_callB (call_lenK K) (by rfl) T.m_len PySem.boot_len (pa_cons (pv 2) pa_nil)) pa_nil)) (blkOk_by (N := ["cell", "many", "log", "draws", "rows", "entry", "full", "k", "at", "turn", "bits", "row", "place", "before", "after"]) (sc := defScope s__law_spoilt_log) (by decide +kernel)) (fun _ _ _ _ _ => (by exact (pg_name (i := 7) sc__law_spoilt_log.nd rfl (Or.inl rfl)))) (fun _ _ _ _ _ => (by exact pts_nil)) (fun _ _ _ _ _ => (by exact (pe_tup (pa_cons (pe_ix (ix_tupK K) (pe_ix (ix_listK K) (pv 2) (pv 7) (fun _ _ => rfl)) pe_int (fun _ _ => rfl)) (pa_cons (pe_ix (ix_listK K) (pv 4) (pv 7) (fun _ _ => rfl)) pa_nil)))))))))))), ?_⟩
    walk_at "rd"
    refine newL fun a1 H1 na1 S1 h1 => ?_
    walk_at "rd"
    refine g_I ⟨by decide, by decide, by decide⟩ ?_
    walk_at "rd"
    refine newL fun a2 H2 na2 S2 h2 => ?_
    walk_at "rd"
    refine g_repL (xs := [60, 24, 7, 1000000000000]) (k := 2) h2 (by decide) (by decide) fun a3 H3 na3 S3 h3 => ?_
    walk_at "rd"
    refine g_cat (xs := [3, 2]) (zs := [60, 24, 7, 1000000000000, 60, 24, 7, 1000000000000]) (S3 _ _ (S2 _ _ h1)) h3 (by decide) fun a4 H4 na4 S4 h4 => ?_
    walk_at "rd"
    refine ⟨a4, c, [3, 2, 60, 24, 7, 1000000000000, 60, 24, 7, 1000000000000], rfl, SqL.of h4, by simp, fun i hi => ?_, fun da H5 ds nda S5 hda dr => ?_⟩
    · have hi' : i < 10 := hi
      have : i = 0 ∨ i = 1 ∨ i = 2 ∨ i = 3 ∨ i = 4 ∨ i = 5 ∨ i = 6 ∨ i = 7 ∨ i = 8 ∨ i = 9 := by omega
      rcases this with z | z | z | z | z | z | z | z | z | z <;> subst z <;> decide
    have dl : ds.length = 10 := dr.len
    have b1 : 0 ≤ ds.getD 1 0 ∧ ds.getD 1 0 < 2 := dr.at_ 1 (by simp)
    have b2 : 0 ≤ ds.getD 2 0 ∧ ds.getD 2 0 < 60 := dr.at_ 2 (by simp)
    have b3 : 0 ≤ ds.getD 3 0 ∧ ds.getD 3 0 < 24 := dr.at_ 3 (by simp)
    have b4 : 0 ≤ ds.getD 4 0 ∧ ds.getD 4 0 < 7 := dr.at_ 4 (by simp)
    have b5 : 0 ≤ ds.getD 5 0 ∧ ds.getD 5 0 < 1000000000000 := dr.at_ 5 (by simp)
    have b6 : 0 ≤ ds.getD 6 0 ∧ ds.getD 6 0 < 60 := dr.at_ 6 (by simp)
    have b7 : 0 ≤ ds.getD 7 0 ∧ ds.getD 7 0 < 24 := dr.at_ 7 (by simp)
    have b8 : 0 ≤ ds.getD 8 0 ∧ ds.getD 8 0 < 7 := dr.at_ 8 (by simp)
    have b9 : 0 ≤ ds.getD 9 0 ∧ ds.getD 9 0 < 1000000000000 := dr.at_ 9 (by simp)
    have S05 := S1.trans (S2.trans (S3.trans (S4.trans S5)))
    clear S1 S2 S3 S4 S5 h1 h2 h3 h4 na1 na2 na3 na4 dr nda
    walk_at "rd"
    refine ⟨ga, rfl, ⟨_, SqL.of (S05 _ _ hg)⟩, fun D nD => ?_⟩
    refine lc_list (xs := xs) (fun i H' => ∃ zs : List V, Same H5 H' ∧ H' D = some (.lst zs) ∧ RwG (fun t => H5 t = none ∧ t ≠ D) H' zs ((L.take i).map fun e => e.2.length)) ⟨[], Same.new nD, upd_same, rfl, fun k x h => by simp at h⟩ (fun i H' _ ⟨_, S, _⟩ => SqL.of (S _ _ (S05 _ _ hg))) ?_ ?_
    · rintro i x H' hx ⟨zs, S', hD, hR⟩
      have li : i < L.length := by rw [← xl]; exact (List.getElem?_eq_some_iff.mp hx).1
      have he : L[i]? = some L[i] := List.getElem?_eq_getElem li
      have S0 := S05.trans S'
      obtain ⟨t, p0, c0, ys, rfl, _, _, _, ht, _, hc0, hRw⟩ := (hL.mono S0).2 i x L[i] hx he
      walk_at "rd"
      refine ⟨rfl, ?_⟩
      walk_at "rd"
      refine g_ixT (SqT.of ht) (atI_nat (j := 1) (v := V.ref c0) rfl) ?_
      walk_at "rd"
      refine g_lo (.inl (SqL.of hc0)) fun u H6 nu S6 hu => ?_
      have uD : u ≠ D := fun z => by rw [z, hD] at nu; cases nu
      have zl : zs.length = i := by rw [hR.1, List.length_map, List.length_take]; omega
      refine ⟨zs, S6 _ _ hD, slt1000 (by omega), zs ++ [V.ref u], (S'.trans S6).mut nD, upd_same, by rw [List.length_append, hR.1, take_more he, List.map_append, List.length_append]; rfl, fun k y hy => ?_⟩
      rw [take_more he, List.map_append]
      by_cases z : k < zs.length
      · rw [List.getElem?_append_left z] at hy
        obtain ⟨t1, ys1, r1, e1, n1, h1, l1, rr, cc⟩ := hR.2 k y hy
        refine ⟨t1, ys1, r1, e1, n1, by rw [upd_ne n1.2]; exact S6 _ _ h1, ?_, RT.updK (RW.mono rr S6) (S6 _ _ hD), cc⟩
        rw [l1, List.getD_eq_getElem?_getD, List.getD_eq_getElem?_getD, List.getElem?_append_left (by rw [← hR.1]; exact z)]
      · rw [List.getElem?_append_right (by omega)] at hy
        have k0 : k = zs.length := by
          have := (List.getElem?_eq_some_iff.mp hy).1
          simp at this; omega
        subst k0
        rw [Nat.sub_self] at hy
        cases hy
        refine ⟨u, ys, L[i].2, rfl, ⟨S'.free nu, uD⟩, by rw [upd_ne uD]; exact hu, ?_, RT.updK (RW.mono hRw S6) (S6 _ _ hD), (hb _ (List.getElem_mem li)).2.2⟩
        rw [RW.len hRw, List.getD_eq_getElem?_getD, List.getElem?_append_right (by rw [← hR.1]; exact Nat.le_refl _), ← hR.1, Nat.sub_self]; rfl
    rintro H6 ⟨zs, S6, hD, hR⟩
    rw [xl, List.take_of_length_le (Nat.le_refl _)] at hR
    have S06 := S05.trans S6
    have nD0 : H D = none := S05.free nD
    have hda6 := S6 _ _ hda
    have hR0 : RwG (fun t => H t = none ∧ t ≠ D ∧ t ≠ da) H6 zs (L.map fun e => e.2.length) := ⟨hR.1, fun k x hx => by
      obtain ⟨t, ys, rows, e, n, ht, l, r, c⟩ := hR.2 k x hx
      exact ⟨t, ys, rows, e, ⟨S05.free n.1, n.2, fun z => by have := n.1; rw [z, hda] at this; cases this⟩, ht, l, r, c⟩⟩
    have hns : ∀ k, (L.map fun e => e.2.length).getD k 0 ≤ 900 := fun k => by
      by_cases hk : k < L.length
      · rw [List.getD_eq_getElem?_getD, List.getElem?_map, List.getElem?_eq_getElem hk]
        exact (hb _ (List.getElem_mem hk)).2.1
      · rw [List.getD_eq_getElem?_getD, List.getElem?_eq_none (by rw [List.length_map]; omega)]; exact Nat.zero_le _
    have nl : (L.map fun e => e.2.length).length = L.length := List.length_map _
    generalize (L.map fun e => e.2.length) = ns at hR0 hns nl
    clear hR
    have zl : zs.length = L.length := by rw [hR0.1, nl]
    walk_at "rd"
    refine ⟨D, _, rfl, .inl (SqL.of hD), ?_⟩
    walk_at "rd"
    refine ⟨_, rfl, by omega, by omega, fun D2 nD2 => ?_⟩
    rw [Int.toNat_natCast]
    have hN2 : ∀ (k : Nat) (t : Addr), zs[k]? = some (V.ref t) → t ≠ D2 := fun k t hx z => by
      obtain ⟨t1, _, _, e, _, h1, _⟩ := hR0.2 k _ hx
      cases e
      rw [z, nD2] at h1; cases h1
    have fl : ∀ n, ((List.range n).filter fun k => decide (ns.getD k 0 ≠ 0)).length ≤ n := fun n => filt_len
    refine lc_range (fun i H' => Same H6 H' ∧ H' D2 = some (.lst (nI ((List.range i).filter fun k => decide (ns.getD k 0 ≠ 0))))) ⟨Same.new nD2, upd_same⟩ ?_ ?_
    · rintro i H' hi ⟨S', hD2⟩
      have hx : zs[i]? = some zs[i] := List.getElem?_eq_getElem hi
      obtain ⟨t, ys, rows, e, _, ht, l, r, _⟩ := (hR0.mono S').2 i _ hx
      rw [Int.zero_add]
      walk_at "rd"
      refine ⟨rfl, ?_⟩
      walk_at "rd"
      refine g_ixL (SqL.of (S' _ _ hD)) (atI_nat hx) ?_
      rw [e]
      walk_at "rd"
      refine newL fun e0 H7 ne0 S7 he0 => ?_
      have eD : e0 ≠ D2 := fun z => by rw [z, hD2] at ne0; cases ne0
      refine g_neNil (RW.mono r S7) (SqL.of (S7 _ _ ht)) (SqL.of he0) ?_
      have rl : rows.length = ns.getD i 0 := by rw [← RW.len r, l]
      have be : decide (rows ≠ []) = decide (ns.getD i 0 ≠ 0) := by
        rw [← rl]
        cases rows <;> simp
      rw [be]
      have st := filt_step (p := fun k => decide (ns.getD k 0 ≠ 0)) (n := i)
      walk_at "rd"
      refine g_ite (fun e => ?_) (fun e => ?_)
      · rw [if_pos e] at st
        walk_at "rd"
        refine ⟨_, S7 _ _ hD2, by rw [nI_len]; exact slt1000 (by have := fl i; omega), (S'.trans S7).mut nD2, ?_⟩
        rw [upd_same, st, nI_app]; rfl
      · rw [if_neg (by rw [e]; exact Bool.false_ne_true), List.append_nil] at st
        exact ⟨S'.trans S7, by rw [st]; exact S7 _ _ hD2⟩
    rintro H7 ⟨S7, hD2⟩
    have hD7 := S7 _ _ hD
    have hda7 := S7 _ _ hda6
    have hR7 := hR0.mono S7
    have S07 := S06.trans S7
    have fz := fl zs.length
    have fm : ∀ k ∈ (List.range zs.length).filter (fun k => decide (ns.getD k 0 ≠ 0)), k < zs.length ∧ ns.getD k 0 ≠ 0 := fun k hk => by
      obtain ⟨a, b⟩ := List.mem_filter.mp hk
      exact ⟨List.mem_range.mp a, of_decide_eq_true b⟩
    generalize (List.range zs.length).filter (fun k => decide (ns.getD k 0 ≠ 0)) = fs at hD2 fm fz
    have nD27 : D2 ≠ D := fun z => by rw [z, hD] at nD2; cases nD2
    have nD20 : H D2 = none := S06.free nD2
    have nDa : D ≠ da := fun z => by rw [z, hda] at nD; cases nD
    clear S7 hD hda6 hR0 fl
    refine g_name ?_
    dsimp only
    refine g_seq ?_
    refine g_st ([some (.int c), some (.int (n : Int)), some (.ref ga), some (.ref da), some (.ref D), none, some (.ref D2), none, none, none, none, none, none, none, none]) rfl ?_
    refine g_join (fun σ' H' => ∃ v5 v7 v8 v9 v10 v11 v12 v13 v14 : Option V, σ' = [some (.int c), some (.int (n : Int)), some (.ref ga), some (.ref da), some (.ref D), v5, some (.ref D2), v7, v8, v9, v10, v11, v12, v13, v14] ∧ Same H H' ∧ H' D = some (.lst zs) ∧ RwG (fun t => H t = none ∧ t ≠ D ∧ t ≠ da) H' zs ns) ?_ ?_
    · intro D' hD'
      walk_at "rd"
      refine g_ixL (SqL.of hda7) (at_int (o := 0) (by omega)) ?_
      walk_at "rd"
      refine g_ite (fun e => ?_) (fun e => ?_)
      rotate_left
      · walk_at "rd"
        exact hD' _ _ ⟨_, _, _, _, _, _, _, _, _, rfl, S07, hD7, hR7⟩
      walk_at "rd"
      refine newL fun e0 H8 ne0 S8 he0 => ?_
      refine g_neL (xs := iI fs) (ys := []) (SqL.of (by rw [← nI_eq]; exact S8 _ _ hD2)) (SqL.of he0) ?_
      walk_at "rd"
      have hD8 := S8 _ _ hD7
      have S08 := S07.trans S8
      have hR8 := hR7.mono S8
      refine g_ite (fun e => ?_) (fun e => ?_)
      rotate_left
      · walk_at "rd"
        exact hD' _ _ ⟨_, _, _, _, _, _, _, _, _, rfl, S08, hD8, hR8⟩
      have fne : fs ≠ [] := fun z => by rw [z] at e; simp [iI] at e
      have fl0 : 0 < fs.length := List.length_pos_iff.mpr fne
      have hda8 := S8 _ _ hda7
      have hf8 := S8 _ _ hD2
      walk_at "rd"
      refine g_ixL (SqL.of hda8) (at_int (o := 2) (by omega)) ?_
      walk_at "rd"
      refine ⟨D2, _, rfl, .inl (SqL.of hf8), ?_⟩
      rw [nI_len]
      refine g_I (by omega) ?_
      walk_at "rd"
      obtain ⟨a8, ea8⟩ : ∃ a : Int, ds.getD 2 0 % (fs.length : Int) = a := ⟨_, rfl⟩
      rw [ea8]
      refine g_ixL (SqL.of hda8) (at_int (o := 1) (by omega)) ?_
      walk_at "rd"
      refine ⟨_, rfl, by omega, by omega, for_range (lo := 0) (fun i σ H' => ∃ v7 v9 v10 v11 v12 v13 v14 : Option V, σ = [some (.int c), some (.int (n : Int)), some (.ref ga), some (.ref da), some (.ref D), none, some (.ref D2), v7, some (.int a8), v9, v10, v11, v12, v13, v14] ∧ Same H H' ∧ H' da = some (.lst (ds.map V.int)) ∧ H' D = some (.lst zs) ∧ H' D2 = some (.lst (nI fs)) ∧ RwG (fun t => H t = none ∧ t ≠ D ∧ t ≠ da ∧ t ≠ D2) H' zs ns) ⟨none, none, none, none, none, none, none, rfl, S08, hda8, hD8, hf8, hR8.1, fun k x hx => ?_⟩ ?_ ?_⟩
      · obtain ⟨t, ys, rows, e, n, ht, l, r, c⟩ := hR8.2 k x hx
        refine ⟨t, ys, rows, e, ⟨n.1, n.2.1, n.2.2, ?_⟩, ht, l, r, c⟩
        intro z
        rw [z, hf8] at ht
        exact hN2 k t (by rw [← e]; exact hx) z
      · rintro i σ H' hi ⟨v7, v9, v10, v11, v12, v13, v14, rfl, S', hda', hD', hf', hR'⟩
        have i2 : i < 2 := by omega
        rw [Int.zero_add]
        walk_at "rd"
        refine g_I (.inl ⟨by decide, by decide⟩) ?_
        walk_at "rd"
        refine g_I (.inl ⟨by decide, by decide⟩) ?_
        walk_at "rd"
        rw [show (2 : Int) + 4 * (i : Int) = ((2 + 4 * i : Nat) : Int) by omega, show (6 : Int) + 4 * (i : Int) = ((2 + 4 * i + 4 : Nat) : Int) by omega]
        refine g_cut (SqL.of hda') fun u H9 nu S9 hu => ?_
        rw [cut_mid5 (by rw [List.length_map]; omega), ← List.map_drop, ← List.map_take] at hu
        have bt : ∀ j, j < 4 → ((ds.drop (2 + 4 * i)).take 4).getD j 0 = ds.getD (2 + 4 * i + j) 0 := fun j hj => by
          rw [List.getD_eq_getElem?_getD, List.getElem?_take_of_lt hj, List.getElem?_drop, List.getD_eq_getElem?_getD]
        have bl : ((ds.drop (2 + 4 * i)).take 4).length = 4 := by rw [List.length_take, List.length_drop]; omega
        have c2 : ds.getD (2 + 4 * i + 2) 0 < 7 ∧ 0 ≤ ds.getD (2 + 4 * i + 2) 0 ∧ 0 ≤ ds.getD (2 + 4 * i + 3) 0 := by
          have : i = 0 ∨ i = 1 := by omega
          rcases this with z | z <;> subst z
          · exact ⟨b4.2, b4.1, b5.1⟩
          · exact ⟨b8.2, b8.1, b9.1⟩
        rw [← bt 2 (by decide), ← bt 3 (by decide)] at c2
        generalize (ds.drop (2 + 4 * i)).take 4 = bs at hu bl c2
        clear bt
        have hf9 := S9 _ _ hf'
        have hD9 := S9 _ _ hD'
        have hR9 := hR'.mono S9
        walk_at "rd"
        refine ⟨D2, _, rfl, .inl (SqL.of hf9), ?_⟩
        rw [nI_len]
        refine g_I (by omega) ?_
        walk_at "rd"
        have m1 := Int.emod_nonneg (a8 + (i : Int)) (show (fs.length : Int) ≠ 0 by omega)
        have m2 := Int.emod_lt_of_pos (a8 + (i : Int)) (show 0 < (fs.length : Int) by omega)
        obtain ⟨j, ej, hj⟩ : ∃ j : Nat, (a8 + (i : Int)) % (fs.length : Int) = (j : Int) ∧ j < fs.length := ⟨((a8 + (i : Int)) % (fs.length : Int)).toNat, by omega, by omega⟩
        rw [ej]
        refine g_ixL (SqL.of hf9) (atI_nat (v := V.int (fs[j] : Int)) (by unfold nI; rw [List.getElem?_map, List.getElem?_eq_getElem hj]; rfl)) ?_
        obtain ⟨fz1, fz2⟩ := fm _ (List.getElem_mem hj)
        generalize fs[j] = k0 at fz1 fz2
        have hx0 : zs[k0]? = some zs[k0] := List.getElem?_eq_getElem fz1
        obtain ⟨t, ys, rows, et, nt, ht, lt, rt, ct⟩ := hR9.2 k0 _ hx0
        refine g_ixL (SqL.of hD9) (atI_nat hx0) ?_
        rw [et]
        have rl : rows.length = ns.getD k0 0 := by rw [← RW.len rt, lt]
        walk_at "rd"
        refine g_ixL (SqL.of hu) (at_int (o := 1) (by omega)) ?_
        walk_at "rd"
        refine g_ixL (SqL.of hu) (at_int (o := 0) (by omega)) ?_
        walk_at "rd"
        refine g_I (.inl ⟨by omega, by omega⟩) ?_
        walk_at "rd"
        refine ⟨t, _, rfl, .inl (SqL.of ht), ?_⟩
        refine g_I (by omega) ?_
        walk_at "rd"
        have p1 := Int.emod_nonneg (bs.getD 1 0 + (i : Int) * bs.getD 0 0) (show (ys.length : Int) ≠ 0 by omega)
        have p2 := Int.emod_lt_of_pos (bs.getD 1 0 + (i : Int) * bs.getD 0 0) (show 0 < (ys.length : Int) by omega)
        obtain ⟨k, ek, hk⟩ : ∃ k : Nat, (bs.getD 1 0 + (i : Int) * bs.getD 0 0) % (ys.length : Int) = (k : Int) ∧ k < ys.length := ⟨((bs.getD 1 0 + (i : Int) * bs.getD 0 0) % (ys.length : Int)).toNat, by omega, by omega⟩
        rw [ek]
        obtain ⟨row, v, hrow, hyk, _, hv⟩ := RW.of rt (List.getElem?_eq_getElem hk)
        refine g_ixL (SqL.of ht) (atI_nat (List.getElem?_eq_getElem hk)) ?_
        rw [hyk]
        have r3 := ct row (List.mem_of_getElem? hrow)
        obtain ⟨p, b0, a0, rfl⟩ : ∃ p b a, row = [p, b, a] := by
          match row, r3.1 with
          | [p, b, a], _ => exact ⟨p, b, a, rfl⟩
        have bge : 0 ≤ b0 := r3.2
        refine g_gtup (SqT.of hv) rfl ?_
        refine g_gcons ?_
        refine g_name ?_
        refine g_gcons ?_
        refine g_name ?_
        refine g_gcons ?_
        refine g_name ?_
        refine g_gnil ?_
        dsimp only
        refine g_seq ?_
        refine g_st ([some (.int c), some (.int (n : Int)), some (.ref ga), some (.ref da), some (.ref D), none, some (.ref D2), some (.int (k : Int)), some (.int a8), some (.int (i : Int)), some (.ref u), some (.ref t), some (.int p), some (.int b0), some (.int a0)]) rfl ?_
        refine g_join (fun σ' H' => ∃ p b a : Int, 0 ≤ b ∧ σ' = [some (.int c), some (.int (n : Int)), some (.ref ga), some (.ref da), some (.ref D), none, some (.ref D2), some (.int (k : Int)), some (.int a8), some (.int (i : Int)), some (.ref u), some (.ref t), some (.int p), some (.int b), some (.int a)] ∧ Same H9 H') ?_ ?_
        · intro D3 hD3
          walk_at "rd"
          refine g_ixL (SqL.of hu) (at_int (o := 2) (by omega)) ?_
          walk_at "rd"
          refine g_ite (fun e => ?_) (fun e => ?_)
          · have c3 : bs.getD 2 0 < 3 := of_decide_eq_true e
            walk_at "rd"
            refine g_ixL (SqL.of hu) (at_int (o := 3) (by omega)) ?_
            walk_at "rd"
            refine newL fun x H10 nx S10 hx => ?_
            walk_at "rd"
            refine g_ixL (SqL.of (S10 _ _ hu)) (at_int (o := 2) (by omega)) ?_
            obtain ⟨k2, ek2, hk2⟩ : ∃ k : Nat, bs.getD 2 0 = (k : Int) ∧ k < 3 := ⟨(bs.getD 2 0).toNat, by omega, by omega⟩
            rw [ek2]
            obtain ⟨y, hy⟩ : ∃ y : Int, ([V.int (n : Int), V.int ((n : Int) + 1 + bs.getD 3 0), V.int (-1)] : List V)[k2]? = some (.int y) := by
              rcases k2 with _ | _ | _ | k2
              · exact ⟨_, rfl⟩
              · exact ⟨_, rfl⟩
              · exact ⟨_, rfl⟩
              · omega
            refine g_ixL (SqL.of hx) (atI_nat hy) ?_
            walk_at "rd"
            exact hD3 _ _ ⟨y, b0, a0, bge, rfl, S10⟩
          · have c3 : ¬ bs.getD 2 0 < 3 := of_decide_eq_false e
            walk_at "rd"
            refine g_ixL (SqL.of hu) (at_int (o := 2) (by omega)) ?_
            walk_at "rd"
            refine g_ite (fun e2 => ?_) (fun e2 => ?_)
            · walk_at "rd"
              refine g_ixL (SqL.of hu) (at_int (o := 3) (by omega)) ?_
              walk_at "rd"
              exact hD3 _ _ ⟨p, _, a0, c2.2.2, rfl, Same.refl _⟩
            · have c6 : ¬ bs.getD 2 0 = 6 := of_decide_eq_false e2
              walk_at "rd"
              refine g_ixL (SqL.of hu) (at_int (o := 3) (by omega)) ?_
              walk_at "rd"
              refine newL fun x H10 nx S10 hx => ?_
              walk_at "rd"
              refine g_ixL (SqL.of (S10 _ _ hu)) (at_int (o := 2) (by omega)) ?_
              walk_at "rd"
              obtain ⟨k2, ek2, hk2⟩ : ∃ k : Nat, bs.getD 2 0 - 3 = (k : Int) ∧ k < 3 := ⟨(bs.getD 2 0 - 3).toNat, by omega, by omega⟩
              rw [ek2]
              obtain ⟨y, hy⟩ : ∃ y : Int, ([V.int (a0 + 1), V.int (a0 - 1), V.int (bs.getD 3 0)] : List V)[k2]? = some (.int y) := by
                rcases k2 with _ | _ | _ | k2
                · exact ⟨_, rfl⟩
                · exact ⟨_, rfl⟩
                · exact ⟨_, rfl⟩
                · omega
              refine g_ixL (SqL.of hx) (atI_nat hy) ?_
              walk_at "rd"
              exact hD3 _ _ ⟨p, b0, y, bge, rfl, S10⟩
        · clear hrow hyk hv r3 bge
          clear p b0 a0
          rintro σ' H10 ⟨p, b1, a1, bge, rfl, S10⟩
          have ht10 := S10 _ _ ht
          have S010 := S'.trans (S9.trans S10)
          have stay : ∃ v7 v9 v10 v11 v12 v13 v14 : Option V, ([some (.int c), some (.int (n : Int)), some (.ref ga), some (.ref da), some (.ref D), none, some (.ref D2), some (.int (k : Int)), some (.int a8), some (.int (i : Int)), some (.ref u), some (.ref t), some (.int p), some (.int b1), some (.int a1)] : L2.St) = [some (.int c), some (.int (n : Int)), some (.ref ga), some (.ref da), some (.ref D), none, some (.ref D2), v7, some (.int a8), v9, v10, v11, v12, v13, v14] ∧ Same H H10 ∧ H10 da = some (.lst (ds.map V.int)) ∧ H10 D = some (.lst zs) ∧ H10 D2 = some (.lst (nI fs)) ∧ RwG (fun t => H t = none ∧ t ≠ D ∧ t ≠ da ∧ t ≠ D2) H10 zs ns := ⟨_, _, _, _, _, _, _, rfl, S010, S10 _ _ (S9 _ _ hda'), S10 _ _ hD9, S10 _ _ hf9, hR9.mono S10⟩
          have put : tAsg (tTup (tCons (tVar 12) (tCons (tVar 13) (tCons (tVar 14) tNil)))) (gSub (tVar 11) (tVar 7) L2.rSetL) { nx := fun σ H' => ∃ v7 v9 v10 v11 v12 v13 v14 : Option V, σ = [some (.int c), some (.int (n : Int)), some (.ref ga), some (.ref da), some (.ref D), none, some (.ref D2), v7, some (.int a8), v9, v10, v11, v12, v13, v14] ∧ Same H H' ∧ H' da = some (.lst (ds.map V.int)) ∧ H' D = some (.lst zs) ∧ H' D2 = some (.lst (nI fs)) ∧ RwG (fun t => H t = none ∧ t ≠ D ∧ t ≠ da ∧ t ≠ D2) H' zs ns, rt := Q } [some (.int c), some (.int (n : Int)), some (.ref ga), some (.ref da), some (.ref D), none, some (.ref D2), some (.int (k : Int)), some (.int a8), some (.int (i : Int)), some (.ref u), some (.ref t), some (.int p), some (.int b1), some (.int a1)] H10 := by
            walk_at "rd"
            refine newT fun v H11 nv S11 hv => ?_
            walk_at "rd"
            have ht11 := S11 _ _ ht10
            refine ⟨t, _, (k : Int), k, rfl, rfl, ht11, (by unfold ixN; simp; omega), ?_⟩
            have S911 := S10.trans S11
            have rt11 := RW.mono rt S911
            refine ⟨_, _, _, _, _, _, _, rfl, (S010.trans S11).mut nt.1, ?_, ?_, ?_, ?_⟩
            · rw [upd_ne nt.2.2.1.symm]; exact S11 _ _ (S10 _ _ (S9 _ _ hda'))
            · rw [upd_ne nt.2.1.symm]; exact S911 _ _ hD9
            · rw [upd_ne nt.2.2.2.symm]; exact S911 _ _ hf9
            · refine (hR9.mono S911).put (rw' := rows.set k [p, b1, a1]) ht11 (List.length_set) (RT.set rt11 hv) fun row hr => ?_
              rcases List.mem_or_eq_of_mem_set hr with z | z
              · exact ct row z
              · rw [z]; exact ⟨rfl, bge⟩
          walk_at "rd"
          refine g_ite (fun e => ?_) (fun e => ?_)
          · exact put
          · walk_at "rd"
            refine ⟨D2, _, rfl, .inl (SqL.of (S10 _ _ hf9)), ?_⟩
            walk_at "rd"
            refine g_ite (fun e => ?_) (fun e => ?_)
            · exact put
            · walk_at "rd"
              exact stay
      · rintro σ H' ⟨v7, v9, v10, v11, v12, v13, v14, rfl, S', hda', hD'', hf', hR'⟩
        refine hD' _ _ ⟨_, _, _, _, _, _, _, _, _, rfl, S', hD'', hR'.1, fun k x hx => ?_⟩
        obtain ⟨t, ys, rows, e, n, ht, l, r, c⟩ := hR'.2 k x hx
        exact ⟨t, ys, rows, e, ⟨n.1, n.2.1, n.2.2.1⟩, ht, l, r, c⟩
    · clear hR7 hda7 hD7 S07 hD2
      rintro σ' H8 ⟨v5, v7, v8, v9, v10, v11, v12, v13, v14, rfl, S8, hD8, hR8⟩
      have hg8 := S8 _ _ hg
      have hL8 := hL.mono S8
      have ch : ∀ k : Nat, ∃ rows : List (List Int), ∀ x, zs[k]? = some x → ∃ (t : Addr) (ys : List V), x = .ref t ∧ H8 t = some (.lst ys) ∧ RT H8 ys rows ∧ Chg3 rows ∧ rows.length ≤ 900 := fun k => by
        by_cases hk : k < zs.length
        · obtain ⟨t, ys, rows, e, _, ht, l, r, c⟩ := hR8.2 k _ (List.getElem?_eq_getElem hk)
          refine ⟨rows, fun x hx => ?_⟩
          rw [List.getElem?_eq_getElem hk] at hx
          cases hx
          exact ⟨t, ys, e, ht, r, c, by rw [← RW.len r, l]; exact hns k⟩
        · refine ⟨[], fun x hx => ?_⟩
          exact absurd (List.getElem?_eq_some_iff.mp hx).1 hk
      obtain ⟨fr, hfr⟩ := Classical.axiomOfChoice ch
      walk_at "rd"
      refine ⟨ga, _, rfl, .inl (SqL.of hg8), ?_⟩
      rw [xl]
      walk_at "rd"
      refine ⟨_, rfl, by omega, by omega, fun D3 nD3 => ?_⟩
      rw [Int.toNat_natCast]
      refine lc_range (fun i H' => ∃ us : List V, Same H8 H' ∧ H' D3 = some (.lst us) ∧ LogA (fun t => t ≠ D3) H' us ((List.range i).map fun k => ((L.getD k ([], [])).1, fr k))) ⟨[], Same.new nD3, upd_same, LogA.nil⟩ ?_ ?_
      · rintro i H' hi ⟨us, S', hD3, hU⟩
        have he : L[i]? = some L[i] := List.getElem?_eq_getElem hi
        obtain ⟨x, hx, t, p0, c0, ys, rfl, _, _, _, ht, hp0, hc0, _⟩ := (hL8.mono S').at_ he
        have hz : zs[i]? = some zs[i] := List.getElem?_eq_getElem (by omega)
        obtain ⟨u, ws, eu, hu, hru, hcu, _⟩ := hfr i _ hz
        have old : ∀ {a : Addr} {o : HO}, H8 a = some o → a ≠ D3 := fun e z => by rw [z, nD3] at e; cases e
        have oldp : p0 ≠ D3 := fun z => by rw [z, hD3] at hp0; cases hp0
        have gd : (L.getD i ([], [])) = L[i] := by rw [List.getD_eq_getElem?_getD, he]; rfl
        rw [Int.zero_add]
        walk_at "rd"
        refine ⟨rfl, ?_⟩
        walk_at "rd"
        refine g_ixL (SqL.of (S' _ _ hg8)) (atI_nat hx) ?_
        walk_at "rd"
        refine g_ixT (SqT.of ht) (atI_nat (j := 0) (v := V.ref p0) rfl) ?_
        walk_at "rd"
        refine g_ixL (SqL.of (S' _ _ hD8)) (atI_nat hz) ?_
        rw [eu]
        walk_at "rd"
        refine newT fun v H9 nv S9 hv => ?_
        have vD : v ≠ D3 := fun z => by rw [z, hD3] at nv; cases nv
        have S89 := S'.trans S9
        have hru9 : RW (fun t => t ≠ D3) true H9 ws (fr i) := by
          refine ⟨hru.1, fun k hk => ?_⟩
          obtain ⟨u1, a1, _, a3⟩ := hru.2 k hk
          exact ⟨u1, a1, old a3, S89 _ _ a3⟩
        have ent : EnA (fun t => t ≠ D3) H9 (.ref v) (L[i].1, fr i) := ⟨v, p0, u, ws, rfl, vD, oldp, old hu, hv, S9 _ _ hp0, S89 _ _ hu, hru9⟩
        have ul : us.length = i := by rw [hU.1, List.length_map, List.length_range]
        refine ⟨us, S9 _ _ hD3, slt1000 (by omega), us ++ [V.ref v], S89.mut nD3, upd_same, ?_⟩
        rw [List.range_succ, List.map_append]
        show LogA _ _ _ (_ ++ [((L.getD i ([], [])).1, fr i)])
        rw [gd]
        exact ((hU.mono S9).more ent).upd fun t c => c
      · rintro H9 ⟨us, S9, hD3, hU⟩
        refine q D3 us _ H9 (S8.free nD3) (S8.trans S9) hD3 (hU.weak fun _ _ => trivial) (fun e he => ?_) (by rw [List.length_map, List.length_range]; exact h9)
        obtain ⟨k, hk, rfl⟩ := List.mem_map.mp he
        have kl := List.mem_range.mp hk
        obtain ⟨_, _, _, _, _, c3, l3⟩ := hfr k _ (List.getElem?_eq_getElem (by omega))
        have gd : (L.getD k ([], [])) = L[k] := by rw [List.getD_eq_getElem?_getD, List.getElem?_eq_getElem kl]; rfl
        refine ⟨?_, l3, c3⟩
        show (L.getD k ([], [])).1.length ≤ 900
        rw [gd]
        exact (hb _ (List.getElem_mem kl)).1
/-! ### -/
end
end Rt
set_option Elab.async false
set_option linter.all false
set_option maxRecDepth 100000
set_option maxHeartbeats 4000000
namespace Rt
open PySem PySem.Spec L2
open PyProof.Rows (envOfC)
open LamX (CodeO TabS Tabs TabB)
local macro_rules | `(tactic| walk_at "rd1") => `(tactic| (with_reducible first
  | refine g_var (by with_unfolding_all rfl) ?_
  | refine g_c ?_
  | refine g_op ?_
  | refine g_I0 ?_
  | refine g_eqI ?_
  | refine g_neI ?_
  | refine g_eqB ?_
  | refine g_neB ?_
  | refine g_cons ?_
  | refine g_nil ?_
  | refine g_seq ?_
  | refine g_asg ?_
  | refine g_name ?_
  | refine g_ret ?_
  | refine g_retN ?_
  | refine g_drop ?_
  | refine g_next ?_
  | refine g_if ?_
  | refine g_test ?_
  | refine g_tB ?_
  | refine g_bl ?_
  | refine g_and ?_
  | refine g_or ?_
  | refine g_not ?_
  | refine g_andV ?_
  | refine g_orV ?_
  | refine g_notV ?_
  | refine g_ifE ?_
  | refine g_cb ?_
  | refine g_meth ?_
  | refine g_rev ?_
  | refine g_gcons ?_
  | refine g_gnil ?_
  | refine g_isB' ?_
  | refine g_gsub ?_
  | refine g_call ?_
  | refine g_callS ?_
  | refine g_bm ?_
  | refine g_un ?_
  | refine g_U ?_
  | refine g_chain ?_
  | refine g_sl ?_
  | refine g_brk ?_
  | refine g_ct ?_
  | refine g_ipI ?_
  | refine g_fld ?_
  | refine g_lst ?_
  | refine g_int ?_
  | refine g_for ?_
  | refine g_rg1 ?_
  | refine g_rg2 ?_
  | refine g_il ?_
  | refine g_it ?_
  | refine g_lc ?_
  | refine g_yes ?_
  | refine g_tup ?_
  | refine g_part ?_
  | refine g_xf ?_
  | refine g_nn ?_
  | refine g_mko ?_
  | refine g_lrg ?_
  | refine g_tr1 ?_
  | refine g_tr2 ?_
  | refine g_oi2 ?_
  | refine g_mk ?_
  | refine g_sfld ?_
  | refine g_ost ?_
  | refine g_oi ?_
  | refine g_nopart ?_
  | refine g_tt ?_
  | refine g_ff ?_
  | refine g_nt ?_
  | refine g_nf ?_
  | refine g_drn ?_
  | refine g_din ?_
  | refine g_dnn ?_
  | refine g_nrn ?_
  | refine g_nin ?_
  | refine g_nnn ?_))
local macro_rules | `(tactic| walk_at "rd") => `(tactic| (repeat walk_at "rd1"))

section
variable {P : Program} {w : World} {K : PySem.W.Frag} {mg : Str → Option Value} {base : Heap} {f : Addr} {fd : FuncData} {A : Ad} {TL : List (Addr × Str)}
theorem HLs.monoT {H H' : Hp} {xs : List V} {hs : List (List Int)} (h : HLs H xs hs) (S : SameT H H') : HLs H' xs hs := ⟨h.1, fun k x row hx hr => by
  obtain ⟨t, e, q⟩ := h.2 k x row hx hr
  exact ⟨t, e, S.lst q⟩⟩
theorem HLs.drop {H : Hp} {xs : List V} {hs : List (List Int)} (h : HLs H xs hs) (j : Nat) : HLs H (xs.drop j) (hs.drop j) := ⟨by rw [List.length_drop, List.length_drop, h.1], fun k x row hx hr => by
  rw [List.getElem?_drop] at hx hr
  exact h.2 _ x row hx hr⟩
theorem cut_1 {xs : List V} : cutV xs (some 1) none = xs.drop 1 := by
  cases xs with
  | nil => simp [cutV]
  | cons x xs => exact cut_lo (k := 1) (by simp)
/-! ### law -/
def spLaw (K : PySem.W.Frag) (TL : List (Addr × Str)) : Sp := fun vs H Q _ => ∃ (a : Addr) (ns : List Int), vs = [.ref a] ∧ SqL K H a (ns.map V.int) ∧ ns.length ≤ 63 ∧ Tabs TL H ∧ ∀ H', Q (.bl true) H'
theorem ok_law (F : Fun K "law" "law" s_law f fd) (T : Txt K mg A)
    (D__law_cell : DefOk P w K mg base CX0 1 "_law_cell" ["script", "k"] (Rt.spCell K)) (D__law_draws : DefOk P w K mg base CX0 1 "_law_draws" ["cell", "sizes"] (Rt.spDraws K)) (D__law_lengths : DefOk P w K mg base CX0 2 "_law_lengths" ["cell", "many"] Rt.spLengths) (D__law_strengths : DefOk P w K mg base CX0 2 "_law_strengths" ["cell", "sizes"] (spStrengths K))
    (D__law_drawn : DefOk P w K mg base CX0 2 "_law_drawn" ["cell", "many"] spDrawnO) (D__law_spoilt_order : DefOk P w K mg base CX0 2 "_law_spoilt_order" ["cell", "many", "order"] spSpoO)
    (MK_Beads : CtorD P w K mg base CX0 2 "Beads" A.Beads 2 ["ring"] gBeads (spNew K A)) (D__law_refuses : DefOk P w K mg base CX0 11 "_law_refuses" ["beads", "many", "spoilt", "form"] (spRefO K A TL)) (D__law_runs : DefOk P w K mg base CX0 11 "_law_runs" ["beads", "round_flag", "sizes", "strengths", "order", "form"] (spRunsO K A TL))
    (D__law_log : DefOk P w K mg base CX0 3 "_law_log" ["round_flag", "sizes", "strengths", "order"] (spLogL K)) (D__law_spoilt_log : DefOk P w K mg base CX0 2 "_law_spoilt_log" ["cell", "many", "log"] (spSpoL K)) (D__law_unwinds : DefOk P w K mg base CX0 6 "_law_unwinds" ["beads", "round_flag", "sizes", "strengths", "log"] (spUnws K A)) : FnOk P w K mg base CX0 12 f fd ["script"] (spLaw K TL) := by
  refine F.ok sc_law (fun vs H Q E h => ?_) (fun cdv A1 outer s H vs Q E hr h => ?_)
  · obtain ⟨a, ns, rfl, _⟩ := h
    rfl
  · obtain ⟨sc, ns, rfl, hsc, hns, hT0, q⟩ := h
    refine ⟨_, (pss_cons (ps_set (i := 1) sc_law.nd rfl (Or.inl rfl) (pe_callD D__law_draws (hr.mono (by decide)) pass0 (pa_cons (pe_callD D__law_cell (hr.mono (by decide)) pass0 (pa_cons (pv 0) (pa_cons pe_int pa_nil))) (pa_cons (pe_lst (pa_cons pe_int (pa_cons pe_int (pa_cons pe_int pa_nil)))) pa_nil))))
      (pss_cons (ps_set (i := 2) sc_law.nd rfl (Or.inr rfl) (pe_op op_add pe_int (pe_ix (ix_listK K) (pv 1) pe_int (fun _ _ => rfl))))
      (pss_cons (ps_set (i := 3) sc_law.nd rfl (Or.inl rfl) (pe_cmpR op_ne (pe_ix (ix_listK K) (pv 1) pe_int (fun _ _ => rfl)) pe_int (nomark _)))
      (pss_cons (ps_set (i := 4) sc_law.nd rfl (Or.inl rfl) (pe_callD D__law_lengths (hr.mono (by decide)) pass0 (pa_cons (pe_callD D__law_cell (hr.mono (by decide)) pass0 (pa_cons (pv 0) (pa_cons pe_int pa_nil))) (pa_cons (pv 2) pa_nil))))
      (pss_cons (ps_set (i := 5) sc_law.nd rfl (Or.inl rfl) (pe_callD D__law_strengths (hr.mono (by decide)) pass0 (pa_cons (pe_callD D__law_cell (hr.mono (by decide)) pass0 (pa_cons (pv 0) (pa_cons pe_int pa_nil))) (pa_cons (pv 4) pa_nil))))
      (pss_cons (ps_set (i := 6) sc_law.nd rfl (Or.inl rfl) (pe_callD D__law_drawn (hr.mono (by decide)) pass0 (pa_cons (pe_callD D__law_cell (hr.mono (by decide)) pass0 (pa_cons (pv 0) (pa_cons pe_int pa_nil))) (pa_cons (pv 2) pa_nil))))
      (pss_cons (ps_set (i := 7) sc_law.nd rfl (Or.inl rfl) (pe_callD D__law_spoilt_order (hr.mono (by decide)) pass0 (pa_cons (pe_callD D__law_cell (hr.mono (by decide)) pass0 (pa_cons (pv 0) (pa_cons pe_int pa_nil))) (pa_cons (pv 2) (pa_cons (pv 6) pa_nil)))))
      (pss_cons (ps_set (i := 8) sc_law.nd rfl (Or.inl rfl) (pe_makeD MK_Beads (hr.mono (by decide)) pass0 (pa_cons (pe_callTy (call_listK K) (by rfl) T.m_list (by decide +kernel) (pa_cons (pv 5) pa_nil)) (pa_cons (pe_callTy (call_listK K) (by rfl) T.m_list (by decide +kernel) (pa_cons (pv 4) pa_nil)) pa_nil)) (pk_cons (pv 3) pk_nil)))
      (pss_cons (ps_if (pt_not (pt_val (pe_callD D__law_refuses (hr.mono (by decide)) pass0 (pa_cons (pv 8) (pa_cons (pv 2) (pa_cons (pv 7) (pa_cons (pe_ix (ix_listK K) (pv 1) pe_int (fun _ _ => rfl)) pa_nil))))))) (pss_one (ps_ret pe_bl)) pss_nil)
      (pss_cons (ps_for (PassesOwn.never) rfl (pi_listK K (pe_lst (pa_cons (pv 6) (pa_cons (pe_slice (sl_listK K) (pv 6) (po_some pe_int) po_none) (pa_cons (pv 6) pa_nil))))) (pg_name (i := 9) sc_law.nd rfl (Or.inl rfl)) (pss_one (ps_if (pt_not (pt_val (pe_callD D__law_runs (hr.mono (by decide)) pass0 (pa_cons (pv 8) (pa_cons (pv 3) (pa_cons (pv 4) (pa_cons (pv 5) (pa_cons (pv 9) (pa_cons (pe_ix (ix_listK K) (pv 1) pe_int (fun _ _ => rfl)) pa_nil))))))))) (pss_one (ps_ret pe_bl)) pss_nil)))
      (pss_cons (ps_set (i := 10) sc_law.nd rfl (Or.inr rfl) (pe_callD D__law_log (hr.mono (by decide)) pass0 (pa_cons (pv 3) (pa_cons (pv 4) (pa_cons (pv 5) (pa_cons (pv 6) pa_nil))))))
      (pss_cons (ps_set (i := 11) sc_law.nd rfl (Or.inl rfl) (pe_makeD MK_Beads (hr.mono (by decide)) pass0 (pa_cons (pe_callTy (call_listK K) (by rfl) T.m_list (by decide +kernel) (pa_cons (pe_ix (ix_tupK K) (pv 10) pe_int (fun _ _ => rfl)) pa_nil)) (pa_cons (pe_callTy (call_listK K) (by rfl) T.m_list (by decide +kernel) (pa_cons (pv 4) pa_nil)) pa_nil)) (pk_cons (pv 3) pk_nil)))
      (pss_cons (ps_setLc (i := 12) (own := [("k", 13)]) (g := gName 13) (tt := tYes) rfl sc_law.nd rfl rfl (sw_true rfl rfl rfl (by decide +kernel)) (pi_range1 rfl T.m_range (pa_cons (pe_callB (call_lenK K) (by rfl) T.m_len PySem.boot_len (pa_cons (pe_ix (ix_tupK K) (pv 10) pe_int (fun _ _ => rfl)) pa_nil)) pa_nil)) (blkOk_by (N := ["script", "heads", "many", "round_flag", "sizes", "strengths", "order", "spoilt", "beads", "rows", "ended", "last", "unread", "k", "spoilt_log", "log"]) (sc := defScope s_law) (by decide +kernel)) (fun _ _ _ _ _ => (by exact (pg_name (i := 13) sc_law.nd rfl (Or.inl rfl)))) (fun _ _ _ _ _ => (by exact pts_nil)) (fun _ _ _ _ _ => (by exact (pe_tup (pa_cons (pe_tup (pa_cons (pe_op op_add (pv 2) (pv 13)) (pa_cons pe_int pa_nil))) (pa_cons (pe_ix (ix_tupK K) (pe_ix (ix_listK K) (pe_ix (ix_tupK K) (pv 10) pe_int (fun _ _ => rfl)) (pv 13) (fun _ _ => rfl)) pe_int (fun _ _ => rfl)) pa_nil))))))
      (pss_cons (ps_set (i := 14) sc_law.nd rfl (Or.inl rfl) (pe_callD D__law_spoilt_log (hr.mono (by decide)) pass0 (pa_cons (pe_callD D__law_cell (hr.mono (by decide)) pass0 (pa_cons (pv 0) (pa_cons pe_int pa_nil))) (pa_cons (pv 2) (pa_cons (pe_ix (ix_tupK K) (pv 10) pe_int (fun _ _ => rfl)) pa_nil)))))
      (pss_cons (ps_for (PassesOwn.never) rfl (pi_listK K (pe_lst (pa_cons (pe_ix (ix_tupK K) (pv 10) pe_int (fun _ _ => rfl)) (pa_cons (pv 14) (pa_cons (pv 12) pa_nil))))) (pg_name (i := 15) sc_law.nd rfl (Or.inl rfl)) (pss_one (ps_if (pt_not (pt_val (pe_callD D__law_unwinds (hr.mono (by decide)) pass0 (pa_cons (pv 11) (pa_cons (pv 3) (pa_cons (pv 4) (pa_cons (pe_ix (ix_tupK K) (pv 10) pe_int (fun _ _ => rfl)) (pa_cons (pv 15) pa_nil)))))))) (pss_one (ps_ret pe_bl)) pss_nil)))
      (pss_one (ps_ret (pe_callD D__law_unwinds (hr.mono (by decide)) pass0 (pa_cons (pv 8) (pa_cons (pv 3) (pa_cons (pv 4) (pa_cons (pv 5) (pa_cons (pe_ix (ix_tupK K) (pv 10) pe_int (fun _ _ => rfl)) pa_nil))))))))))))))))))))))), ?_⟩
    walk_at "rd"
    refine ⟨sc, ns, 0, rfl, hsc, ?_⟩
    walk_at "rd"
    refine newL fun a1 H1 na1 S1 h1 => ?_
    walk_at "rd"
    refine ⟨a1, cellI ns 0, [8, 3, 4], rfl, SqL.of h1, by simp, fun i hi => ?_, fun da H2 sh nda S2 h2 dr => ?_⟩
    · have hi' : i < 3 := hi
      have : i = 0 ∨ i = 1 ∨ i = 2 := by omega
      rcases this with z | z | z <;> subst z <;> decide
    have shl : sh.length = 3 := dr.len
    have b0 : 0 ≤ sh.getD 0 0 ∧ sh.getD 0 0 < 8 := dr.at_ 0 (by simp)
    have b2 : 0 ≤ sh.getD 2 0 ∧ sh.getD 2 0 < 4 := dr.at_ 2 (by simp)
    have SA : Same H H2 := S1.trans S2
    walk_at "rd"
    refine g_ixL (SqL.of h2) (at_int (o := 0) (by omega)) ?_
    walk_at "rd"
    obtain ⟨n, hn0, hn1, en⟩ : ∃ n : Nat, 1 ≤ n ∧ n ≤ 8 ∧ 1 + sh.getD 0 0 = (n : Int) := ⟨(1 + sh.getD 0 0).toNat, by omega, by omega, by omega⟩
    rw [en]
    refine g_ixL (SqL.of h2) (at_int (o := 1) (by omega)) ?_
    walk_at "rd"
    generalize (!decide (sh.getD 1 0 = 0)) = rf
    refine ⟨sc, ns, 1, rfl, SA.seq hsc, ?_⟩
    walk_at "rd"
    refine ⟨cellI ns 1, n, rfl, by omega, fun la H3 ls nla S3 hla lsl lsb => ?_⟩
    have SB : Same H H3 := SA.trans S3
    walk_at "rd"
    refine ⟨sc, ns, 2, rfl, SB.seq hsc, ?_⟩
    walk_at "rd"
    refine ⟨cellI ns 2, la, ls, rfl, SqL.of hla, by omega, lsb, fun sa H4 ss nsa S4 hsa ssl ssb => ?_⟩
    have SC : Same H H4 := SB.trans S4
    have ok : StOk ss ls := ⟨by omega, by omega, ssl.symm, fun x hx => (ssb x hx).1, fun x hx => (lsb x hx).1⟩
    have ln : ss.length = n := by omega
    have el := ok.len
    walk_at "rd"
    refine ⟨sc, ns, 3, rfl, SC.seq hsc, ?_⟩
    walk_at "rd"
    refine ⟨cellI ns 3, n, rfl, hn0, by omega, fun oa xs hs H5 noa S5 hoa hH h30 hrow => ?_⟩
    have SD : Same H H5 := SC.trans S5
    walk_at "rd"
    refine ⟨sc, ns, 4, rfl, SD.seq hsc, ?_⟩
    walk_at "rd"
    refine ⟨cellI ns 4, n, oa, xs, hs, rfl, hoa, hH, h30, fun row hr => (hrow row hr).1, fun pa zs gs H6 npa S6 hpa hG g30 g5 => ?_⟩
    have SE : Same H H6 := SD.trans S6
    have hsa6 := S6 _ _ (S5 _ _ hsa)
    have hla6 := S6 _ _ (S5 _ _ (S4 _ _ hla))
    have hda6 := S6 _ _ (S5 _ _ (S4 _ _ (S3 _ _ h2)))
    have hoa6 := S6 _ _ hoa
    have hH6 := hH.mono S6
    walk_at "rd"
    refine g_lo (.inl (SqL.of hsa6)) fun g1 H7 ng1 S7 hg1 => ?_
    walk_at "rd"
    refine g_lo (.inl (SqL.of (S7 _ _ hla6))) fun g2 H8 ng2 S8 hg2 => ?_
    walk_at "rd"
    refine mk_newL (S8 _ _ hg1) hg2 ok fun b ts tl H9 nb S9 B => ?_
    have S69 := S7.trans (S8.trans S9)
    have SF := SE.trans S69
    have hsa9 := S69 _ _ hsa6
    have hla9 := S69 _ _ hla6
    have hda9 := S69 _ _ hda6
    have hoa9 := S69 _ _ hoa6
    have hpa9 := S69 _ _ hpa
    have hH9 := hH6.mono S69
    have hG9 := hG.mono S69
    have hT := hT0.ext SF
    clear S69 SE SD SC SB SA S7 S8 S9 S6 S5 S4 S3 S2 S1 hg1 hg2 hsa hla hoa hH hpa hG hsa6 hla6 hda6 hoa6 hH6 h2 h1 en dr nb npa noa nsa nla
    refine g_name ?_
    dsimp only
    refine g_seq ?_
    refine g_st ([some (.ref sc), some (.ref da), some (.int (n : Int)), some (.bl rf), some (.ref la), some (.ref sa), some (.ref oa), some (.ref pa), some (.ref b), none, none, none, none, none, none, none]) rfl ?_
    walk_at "rd"
    refine g_ixL (SqL.of hda9) (at_int (o := 2) (by omega)) ?_
    walk_at "rd"
    rw [← ln]
    refine ⟨b, ts, tl, pa, rf, ss, ls, zs, gs, _, rfl, B, ok, hpa9, hG9, g30, g5, hT, fun H10 S10 T10 => ?_⟩
    walk_at "rd"
    refine g_cut (SqL.of (S10.lst hoa9)) fun o2 H11 no2 S11 ho2 => ?_
    rw [cut_1] at ho2
    walk_at "rd"
    refine newL fun ra H12 nra S12 hra => ?_
    have U := (S10.trans (SameT.of S11)).trans (SameT.of S12)
    have T12 := (T10.ext S11).ext S12
    have ho2' := S12 _ _ ho2
    have hoa12 := U.lst hoa9
    have hda12 := U.lst hda9
    have hla12 := U.lst hla9
    have hsa12 := U.lst hsa9
    have hH12 := hH9.monoT U
    have B12 := B.monoT U
    have SG := (SameT.of SF).trans U
    clear U S10 T10 S11 S12 hoa9 hda9 hla9 hsa9 hH9 hG9 hpa9 B ho2 hT
    have hrow' : ∀ row ∈ hs, row.length < 900 ∧ ∀ q ∈ row, 0 ≤ q ∧ q < (ss.length : Int) := fun row hr => ⟨by have := (hrow row hr).1; omega, by rw [ln]; exact (hrow row hr).2⟩
    have hit : ∀ x ∈ ([V.ref oa, V.ref o2, V.ref oa] : List V), ∃ (t : Addr) (ys : List V) (gs : List (List Int)), x = .ref t ∧ H12 t = some (.lst ys) ∧ HLs H12 ys gs ∧ gs.length ≤ 900 ∧ ∀ row ∈ gs, row.length < 900 ∧ ∀ q ∈ row, 0 ≤ q ∧ q < (ss.length : Int) := fun x hx => by
      have two : ∃ (t : Addr) (ys : List V) (gs : List (List Int)), V.ref oa = .ref t ∧ H12 t = some (.lst ys) ∧ HLs H12 ys gs ∧ gs.length ≤ 900 ∧ ∀ row ∈ gs, row.length < 900 ∧ ∀ q ∈ row, 0 ≤ q ∧ q < (ss.length : Int) := ⟨oa, xs, hs, rfl, hoa12, hH12, by omega, hrow'⟩
      rcases List.mem_cons.mp hx with z | hx
      · rw [z]; exact two
      rcases List.mem_cons.mp hx with z | hx
      · rw [z]; exact ⟨o2, xs.drop 1, hs.drop 1, rfl, ho2', hH12.drop 1, by rw [List.length_drop]; omega, fun row hr => hrow' row (List.mem_of_mem_drop hr)⟩
      · rw [List.mem_singleton.mp hx]; exact two
    refine ⟨ra, rfl, ⟨_, SqL.of hra⟩, for_list (xs := [V.ref oa, V.ref o2, V.ref oa]) (fun i σ H' => ∃ v9 : Option V, σ = [some (.ref sc), some (.ref da), some (.int (n : Int)), some (.bl rf), some (.ref la), some (.ref sa), some (.ref oa), some (.ref pa), some (.ref b), v9, none, none, none, none, none, none] ∧ SameT H12 H' ∧ Tabs TL H') ⟨none, by rw [ln], SameT.refl _, T12⟩ (fun i σ H' _ ⟨_, _, S, _⟩ => SqL.of (S.lst hra)) ?_ ?_⟩
    · rintro i x σ H' hx ⟨v9, rfl, S', T'⟩
      obtain ⟨t, ys, gs, rfl, ht, hY, h9, hr9⟩ := hit x (List.mem_of_getElem? hx)
      refine g_name ?_
      walk_at "rd"
      refine g_ixL (SqL.of (S'.lst hda12)) (at_int (o := 2) (by omega)) ?_
      walk_at "rd"
      refine ⟨b, ts, tl, la, sa, t, rf, ss, ls, ys, gs, _, rfl, B12.monoT S', ok, by omega, SqL.of (S'.lst hla12), SqL.of (S'.lst hsa12), S'.lst ht, hY.monoT S', h9, hr9, T', fun H13 S13 T13 => ?_⟩
      walk_at "rd"
      exact ⟨_, rfl, S'.trans S13, T13⟩
    rintro σ H13 ⟨v9, rfl, S13, T13⟩
    have hoa13 := S13.lst hoa12
    have hla13 := S13.lst hla12
    have hsa13 := S13.lst hsa12
    have hH13 := hH12.monoT S13
    have B13 := B12.monoT S13
    have SH := SG.trans S13
    clear S13 hoa12 hda12 hla12 hsa12 hH12 B12 SG hit ho2' hra
    have okE : StOk (runS rf ls ss hs) ls := StOk.runS hs ok
    have lE : (runS rf ls ss hs).length = ss.length := runS_len hs
    have lL : (logS rf ls ss hs).length = hs.length := logS_len hs
    have bd := logS_bound (r := rf) (b := 900) hs ss ok fun row hr => by have := (hrow row hr).1; omega
    generalize hEs : runS rf ls ss hs = es at okE lE
    generalize hLs : logS rf ls ss hs = L at lL bd
    walk_at "rd"
    refine ⟨rf, la, sa, oa, ls, ss, xs, hs, rfl, SqL.of hla13, SqL.of hsa13, ok, by omega, hoa13, hH13, by omega, hrow', fun t na ga zs' H14 nt nna nga S14 hna hga hLg ht => ?_⟩
    rw [hEs] at hna
    rw [hLs] at hLg
    have hLg' := hLg.weak (M := fun _ => True) fun _ _ => trivial
    clear hLg
    walk_at "rd"
    refine g_ixT (SqT.of ht) (atI_nat (j := 0) (v := V.ref na) rfl) ?_
    walk_at "rd"
    refine g_lo (.inl (SqL.of hna)) fun g1 H15 ng1 S15 hg1 => ?_
    walk_at "rd"
    have S35 := S14.trans S15
    refine g_lo (.inl (SqL.of (S35 _ _ hla13))) fun g2 H16 ng2 S16 hg2 => ?_
    walk_at "rd"
    refine mk_newL (S16 _ _ hg1) hg2 okE fun b2 ts2 tl2 H17 nb2 S17 B2 => ?_
    have S47 := S15.trans (S16.trans S17)
    have S37 := S14.trans S47
    have ht17 := S47 _ _ ht
    have hna17 := S47 _ _ hna
    have hga17 := S47 _ _ hga
    have hLg17 := hLg'.mono S47
    have hla17 := S37 _ _ hla13
    have hsa17 := S37 _ _ hsa13
    have B17 := B13.mono S37
    have SI := SH.trans (SameT.of S37)
    clear S47 S37 S35 S14 S15 S16 S17 hg1 hg2 ht hna hga hLg' hla13 hsa13 B13 SH hoa13 hH13
    refine g_name ?_
    dsimp only
    refine g_seq ?_
    refine g_st ([some (.ref sc), some (.ref da), some (.int (n : Int)), some (.bl rf), some (.ref la), some (.ref sa), some (.ref oa), some (.ref pa), some (.ref b), v9, some (.ref t), some (.ref b2), none, none, none, none]) rfl ?_
    walk_at "rd"
    refine g_ixT (SqT.of ht17) (atI_nat (j := 1) (v := V.ref ga) rfl) ?_
    walk_at "rd"
    refine ⟨ga, _, rfl, .inl (SqL.of hga17), ?_⟩
    have zl' : zs'.length = L.length := hLg17.1
    rw [zl']
    walk_at "rd"
    refine ⟨_, rfl, by omega, by omega, fun D nD => ?_⟩
    rw [Int.toNat_natCast]
    refine lc_range (fun i H' => ∃ us : List V, Same H17 H' ∧ H' D = some (.lst us) ∧ LogA (fun t => t ≠ D) H' us ((List.range i).map fun k : Nat => ([(n : Int) + (k : Int), 0], (L.getD k ([], [])).2))) ⟨[], Same.new nD, upd_same, LogA.nil⟩ ?_ ?_
    · rintro i H' hi ⟨us, S', hD, hU⟩
      have he : L[i]? = some L[i] := List.getElem?_eq_getElem hi
      obtain ⟨x, hx, t1, p1, c1, ys1, rfl, _, _, _, ht1, _, hc1, hR1⟩ := (hLg17.mono S').at_ he
      have gd : (L.getD i ([], [])) = L[i] := by rw [List.getD_eq_getElem?_getD, he]; rfl
      have cD : c1 ≠ D := fun z => by
        obtain ⟨x2, hx2, t2, p2, c2, ys2, e2, _, _, _, ht2, _, hc2, _⟩ := hLg17.at_ he
        rw [hx] at hx2
        cases hx2
        cases e2
        have e3 := S' _ _ ht2
        rw [ht1] at e3
        cases e3
        rw [z, nD] at hc2; cases hc2
      have hR1' : RW (fun t => t ≠ D) true H' ys1 L[i].2 := by
        refine ⟨hR1.1, fun k hk => ?_⟩
        obtain ⟨u1, a1, _, a3⟩ := hR1.2 k hk
        exact ⟨u1, a1, (fun z => by rw [z, hD] at a3; cases a3), a3⟩
      rw [Int.zero_add]
      walk_at "rd"
      refine ⟨rfl, ?_⟩
      walk_at "rd"
      refine newT fun u H18 nu S18 hu => ?_
      have uD : u ≠ D := fun z => by rw [z, hD] at nu; cases nu
      walk_at "rd"
      have S'' := S'.trans S18
      refine g_ixT (SqT.of (S'' _ _ ht17)) (atI_nat (j := 1) (v := V.ref ga) rfl) ?_
      walk_at "rd"
      refine g_ixL (SqL.of (S'' _ _ hga17)) (atI_nat hx) ?_
      walk_at "rd"
      refine g_ixT (SqT.of (S18 _ _ ht1)) (atI_nat (j := 1) (v := V.ref c1) rfl) ?_
      walk_at "rd"
      refine newT fun v H19 nv S19 hv => ?_
      have hD19 := S19 _ _ (S18 _ _ hD)
      have vD : v ≠ D := fun z => by rw [z, S18 _ _ hD] at nv; cases nv
      have S89 := S18.trans S19
      have ent : EnA (fun t => t ≠ D) H19 (.ref v) ([(n : Int) + (i : Int), 0], L[i].2) := ⟨v, u, c1, ys1, rfl, vD, uD, cD, hv, S19 _ _ hu, S89 _ _ hc1, RW.mono hR1' S89⟩
      have ul : us.length = i := by rw [hU.1, List.length_map, List.length_range]
      refine ⟨us, hD19, slt1000 (by omega), us ++ [V.ref v], (S'.trans S89).mut nD, upd_same, ?_⟩
      rw [List.range_succ, List.map_append]
      show LogA _ _ _ (_ ++ [([(n : Int) + (i : Int), 0], (L.getD i ([], [])).2)])
      rw [gd]
      exact ((hU.mono S89).more ent).upd fun t c => c
    rintro H18 ⟨us, S18, hD, hU⟩
    have hU' := hU.weak (M := fun _ => True) fun _ _ => trivial
    have bU : ∀ e ∈ (List.range L.length).map (fun k : Nat => (([(n : Int) + (k : Int), 0], (L.getD k ([], [])).2) : Ent)), e.1.length ≤ 900 ∧ e.2.length ≤ 900 ∧ ∀ row ∈ e.2, row.length = 3 ∧ 0 ≤ row.getD 1 0 := fun e he => by
      obtain ⟨k, hk, rfl⟩ := List.mem_map.mp he
      have kl := List.mem_range.mp hk
      have gd : (L.getD k ([], [])) = L[k] := by rw [List.getD_eq_getElem?_getD, List.getElem?_eq_getElem kl]; rfl
      have := bd L[k] (List.getElem_mem kl)
      show 2 ≤ 900 ∧ (L.getD k ([], [])).2.length ≤ 900 ∧ ∀ row ∈ (L.getD k ([], [])).2, row.length = 3 ∧ 0 ≤ row.getD 1 0
      rw [gd]
      exact ⟨by decide, this.2⟩
    have lU : ((List.range L.length).map (fun k : Nat => (([(n : Int) + (k : Int), 0], (L.getD k ([], [])).2) : Ent))).length ≤ 900 := by rw [List.length_map, List.length_range]; omega
    generalize (List.range L.length).map (fun k : Nat => (([(n : Int) + (k : Int), 0], (L.getD k ([], [])).2) : Ent)) = LU at hU' bU lU
    clear hU
    have ht18 := S18 _ _ ht17
    have hna18 := S18 _ _ hna17
    have hga18 := S18 _ _ hga17
    have hLg18 := hLg17.mono S18
    have hla18 := S18 _ _ hla17
    have hsa18 := S18 _ _ hsa17
    have B18 := B17.mono S18
    have B218 := B2.mono S18
    have SJ := SI.trans (SameT.of S18)
    clear S18 ht17 hna17 hga17 hLg17 hla17 hsa17 B17 B2 SI
    refine g_name ?_
    dsimp only
    refine g_seq ?_
    refine g_st ([some (.ref sc), some (.ref da), some (.int (n : Int)), some (.bl rf), some (.ref la), some (.ref sa), some (.ref oa), some (.ref pa), some (.ref b), v9, some (.ref t), some (.ref b2), some (.ref D), none, none, none]) rfl ?_
    walk_at "rd"
    refine ⟨sc, ns, 5, rfl, SJ.seq hsc, ?_⟩
    walk_at "rd"
    refine g_ixT (SqT.of ht18) (atI_nat (j := 1) (v := V.ref ga) rfl) ?_
    walk_at "rd"
    refine ⟨cellI ns 5, n, ga, zs', L, rfl, hga18, hLg18, bd, by omega, fun spa zs3 L3 H19 nspa S19 hspa hL3 b3 l3 => ?_⟩
    walk_at "rd"
    refine g_ixT (SqT.of (S19 _ _ ht18)) (atI_nat (j := 1) (v := V.ref ga) rfl) ?_
    walk_at "rd"
    refine newL fun ra2 H20 nra2 S20 hra2 => ?_
    have S80 := S19.trans S20
    have ht20 := S80 _ _ ht18
    have hna20 := S80 _ _ hna18
    have hga20 := S80 _ _ hga18
    have hLg20 := hLg18.mono S80
    have hla20 := S80 _ _ hla18
    have hsa20 := S80 _ _ hsa18
    have B20 := B18.mono S80
    have B220 := B218.mono S80
    have hspa20 := S20 _ _ hspa
    have hL320 := hL3.mono S20
    have hD20 := S80 _ _ hD
    have hU20 := hU'.mono S80
    clear S80 S19 S20 ht18 hna18 hga18 hLg18 hla18 hsa18 B18 B218 hspa hL3 hD hU' SJ
    have hit : ∀ x ∈ ([V.ref ga, V.ref spa, V.ref D] : List V), ∃ (t : Addr) (ys : List V) (M : List Ent), x = .ref t ∧ H20 t = some (.lst ys) ∧ LogA (fun _ => True) H20 ys M ∧ (∀ e ∈ M, e.1.length ≤ 900 ∧ e.2.length ≤ 900 ∧ ∀ row ∈ e.2, row.length = 3 ∧ 0 ≤ row.getD 1 0) ∧ M.length ≤ 900 := fun x hx => by
      rcases List.mem_cons.mp hx with z | hx
      · rw [z]; exact ⟨ga, zs', L, rfl, hga20, hLg20, bd, by omega⟩
      rcases List.mem_cons.mp hx with z | hx
      · rw [z]; exact ⟨spa, zs3, L3, rfl, hspa20, hL320, b3, l3⟩
      · rw [List.mem_singleton.mp hx]; exact ⟨D, us, LU, rfl, hD20, hU20, bU, lU⟩
    refine ⟨ra2, rfl, ⟨_, SqL.of hra2⟩, for_list (xs := [V.ref ga, V.ref spa, V.ref D]) (fun i σ H' => ∃ v15 : Option V, σ = [some (.ref sc), some (.ref da), some (.int (n : Int)), some (.bl rf), some (.ref la), some (.ref sa), some (.ref oa), some (.ref pa), some (.ref b), v9, some (.ref t), some (.ref b2), some (.ref D), none, some (.ref spa), v15] ∧ Same H20 H') ⟨none, rfl, Same.refl _⟩ (fun i σ H' _ ⟨_, _, S⟩ => SqL.of (S _ _ hra2)) ?_ ?_⟩
    · rintro i x σ H' hx ⟨v15, rfl, S'⟩
      obtain ⟨u, ys, M, rfl, hu, hM, bM, lM⟩ := hit x (List.mem_of_getElem? hx)
      refine g_name ?_
      walk_at "rd"
      refine g_ixT (SqT.of (S' _ _ ht20)) (atI_nat (j := 0) (v := V.ref na) rfl) ?_
      walk_at "rd"
      refine ⟨b2, ts2, tl2, la, na, u, rf, es, ls, ys, M, rfl, B220.mono S', okE, by omega, SqL.of (S' _ _ hla20), SqL.of (S' _ _ hna20), S' _ _ hu, hM.mono S', bM, lM, fun H21 S21 => ?_⟩
      walk_at "rd"
      exact ⟨_, rfl, S'.trans S21⟩
    rintro σ H21 ⟨v15, rfl, S21⟩
    walk_at "rd"
    refine g_ixT (SqT.of (S21 _ _ ht20)) (atI_nat (j := 1) (v := V.ref ga) rfl) ?_
    walk_at "rd"
    exact ⟨b, ts, tl, la, sa, ga, rf, ss, ls, zs', L, rfl, B20.mono S21, ok, by omega, SqL.of (S21 _ _ hla20), SqL.of (S21 _ _ hsa20), S21 _ _ hga20, hLg20.mono S21, bd, by omega, fun H22 S22 => q H22⟩
/-! ### -/
end
end Rt
set_option Elab.async false
set_option linter.all false
set_option maxRecDepth 100000
set_option maxHeartbeats 0
namespace Rt
open PySem PySem.Spec L2 He
def fn : List He.DefD := [
  ⟨("_ends_in", none), "_ends_in", "_ends_in", defArgs s__ends_in, defBody s__ends_in, defScope s__ends_in, [], []⟩,
  ⟨("_law_cell", none), "_law_cell", "_law_cell", defArgs s__law_cell, defBody s__law_cell, defScope s__law_cell, [], []⟩,
  ⟨("_law_drawn", none), "_law_drawn", "_law_drawn", defArgs s__law_drawn, defBody s__law_drawn, defScope s__law_drawn, [], []⟩,
  ⟨("_law_draws", none), "_law_draws", "_law_draws", defArgs s__law_draws, defBody s__law_draws, defScope s__law_draws, [], []⟩,
  ⟨("_law_handed", none), "_law_handed", "_law_handed", defArgs s__law_handed, defBody s__law_handed, defScope s__law_handed, [], []⟩,
  ⟨("_law_is_changes", none), "_law_is_changes", "_law_is_changes", defArgs s__law_is_changes, defBody s__law_is_changes, defScope s__law_is_changes, [], []⟩,
  ⟨("_law_is_integer", none), "_law_is_integer", "_law_is_integer", defArgs s__law_is_integer, defBody s__law_is_integer, defScope s__law_is_integer, [], []⟩,
  ⟨("_law_is_log", none), "_law_is_log", "_law_is_log", defArgs s__law_is_log, defBody s__law_is_log, defScope s__law_is_log, [], []⟩,
  ⟨("_law_is_standing", none), "_law_is_standing", "_law_is_standing", defArgs s__law_is_standing, defBody s__law_is_standing, defScope s__law_is_standing, [], []⟩,
  ⟨("_law_lengths", none), "_law_lengths", "_law_lengths", defArgs s__law_lengths, defBody s__law_lengths, defScope s__law_lengths, [], []⟩,
  ⟨("_law_log", none), "_law_log", "_law_log", defArgs s__law_log, defBody s__law_log, defScope s__law_log, [], []⟩,
  ⟨("_law_numbers", none), "_law_numbers", "_law_numbers", defArgs s__law_numbers, defBody s__law_numbers, defScope s__law_numbers, [], []⟩,
  ⟨("_law_reach", none), "_law_reach", "_law_reach", defArgs s__law_reach, defBody s__law_reach, defScope s__law_reach, [], []⟩,
  ⟨("_law_refuses", none), "_law_refuses", "_law_refuses", defArgs s__law_refuses, defBody s__law_refuses, defScope s__law_refuses, [], []⟩,
  ⟨("_law_runs", none), "_law_runs", "_law_runs", defArgs s__law_runs, defBody s__law_runs, defScope s__law_runs, [], []⟩,
  ⟨("_law_spoilt_log", none), "_law_spoilt_log", "_law_spoilt_log", defArgs s__law_spoilt_log, defBody s__law_spoilt_log, defScope s__law_spoilt_log, [], []⟩,
  ⟨("_law_spoilt_order", none), "_law_spoilt_order", "_law_spoilt_order", defArgs s__law_spoilt_order, defBody s__law_spoilt_order, defScope s__law_spoilt_order, [], []⟩,
  ⟨("_law_strengths", none), "_law_strengths", "_law_strengths", defArgs s__law_strengths, defBody s__law_strengths, defScope s__law_strengths, [], []⟩,
  ⟨("_law_unwinds", none), "_law_unwinds", "_law_unwinds", defArgs s__law_unwinds, defBody s__law_unwinds, defScope s__law_unwinds, [], []⟩,
  ⟨("_law_unwound", none), "_law_unwound", "_law_unwound", defArgs s__law_unwound, defBody s__law_unwound, defScope s__law_unwound, [], []⟩,
  ⟨("_law_woken", none), "_law_woken", "_law_woken", defArgs s__law_woken, defBody s__law_woken, defScope s__law_woken, [], []⟩,
  ⟨("changed", none), "changed", "changed", defArgs s_changed, defBody s_changed, defScope s_changed, [], []⟩,
  ⟨("changes_at", none), "changes_at", "changes_at", defArgs s_changes_at, defBody s_changes_at, defScope s_changes_at, [], []⟩,
  ⟨("changes_of", none), "changes_of", "changes_of", defArgs s_changes_of, defBody s_changes_of, defScope s_changes_of, [], []⟩,
  ⟨("check_handful", none), "check_handful", "check_handful", defArgs s_check_handful, defBody s_check_handful, defScope s_check_handful, [], []⟩,
  ⟨("check_place", none), "check_place", "check_place", defArgs s_check_place, defBody s_check_place, defScope s_check_place, [], []⟩,
  ⟨("law", none), "law", "law", defArgs s_law, defBody s_law, defScope s_law, [], []⟩,
  ⟨("reach_of", none), "reach_of", "reach_of", defArgs s_reach_of, defBody s_reach_of, defScope s_reach_of, [], []⟩,
  ⟨("run_after", none), "run_after", "run_after", defArgs s_run_after, defBody s_run_after, defScope s_run_after, [], []⟩,
  ⟨("run_order", none), "run_order", "run_order", defArgs s_run_order, defBody s_run_order, defScope s_run_order, [], []⟩,
  ⟨("strengths_after", none), "strengths_after", "strengths_after", defArgs s_strengths_after, defBody s_strengths_after, defScope s_strengths_after, [], []⟩,
  ⟨("train_of", none), "train_of", "train_of", defArgs s_train_of, defBody s_train_of, defScope s_train_of, [], []⟩,
  ⟨("unwind", none), "unwind", "unwind", defArgs s_unwind, defBody s_unwind, defScope s_unwind, [], []⟩,
  ⟨("_check_beads", none), "_check_beads", "_check_beads", defArgs s__check_beads, defBody s__check_beads, defScope s__check_beads, [], []⟩,
  ⟨("Beads", some "__init__"), "__init__", "Beads.__init__", defArgs s_Beads_init, defBody s_Beads_init, defScope s_Beads_init, [.non], [("ring", .bl true)]⟩,
  ⟨("Beads", some "__len__"), "__len__", "Beads.__len__", defArgs s_Beads_len, defBody s_Beads_len, defScope s_Beads_len, [], []⟩,
  ⟨("BadPlace", some "__init__"), "__init__", "BadPlace.__init__", defArgs s_BadPlace_init, defBody s_BadPlace_init, defScope s_BadPlace_init, [], []⟩,
  ⟨("BadLog", some "__init__"), "__init__", "BadLog.__init__", defArgs s_BadLog_init, defBody s_BadLog_init, defScope s_BadLog_init, [], []⟩]
def fa : List He.Fa := [.glo "_ends_in", .glo "_law_cell", .glo "_law_drawn", .glo "_law_draws", .glo "_law_handed", .glo "_law_is_changes", .glo "_law_is_integer", .glo "_law_is_log", .glo "_law_is_standing", .glo "_law_lengths", .glo "_law_log", .glo "_law_numbers", .glo "_law_reach", .glo "_law_refuses", .glo "_law_runs", .glo "_law_spoilt_log", .glo "_law_spoilt_order", .glo "_law_strengths", .glo "_law_unwinds", .glo "_law_unwound", .glo "_law_woken", .glo "changed", .glo "changes_at", .glo "changes_of", .glo "check_handful", .glo "check_place", .glo "law", .glo "reach_of", .glo "run_after", .glo "run_order", .glo "strengths_after", .glo "train_of", .glo "unwind", .glo "_check_beads", .free "len", .free "int", .free "bool", .free "tuple", .free "list", .free "range", .free "isinstance", .free "sum", .free "set", .free "sorted", .free "reversed", .free "iter", .glo "Beads", .glo "BadPlace", .glo "WrongKind", .glo "BadLog", .glo "BadBeads", .cls "Beads", .noat "Beads" "strengths", .noat "Beads" "lengths", .noat "Beads" "ring", .exm "BadPlace" "BadPlace" true, .exm "WrongKind" "WrongKind" true, .exm "BadLog" "BadLog" true, .meth "Beads" "__len__", .mkr "Beads"]
def more (K : PySem.W.Frag) : Bool := (isiB K "Beads") && (excB K "BadPlace" "place" && (excB K "WrongKind" "ring" && (excB K "BadLog" "index" && (decide (PySem.W.kitOne K (.ref (ga K "BadPlace")) (.ref (ga K "BadBeads")) = some false)))))
def loose : List Str := (["_wall", "__name__", "RetinueError", "BadBeads", "BadPlace", "WrongKind", "BadLog", "check_place", "check_handful", "Beads", "_check_beads", "run_after", "train_of", "reach_of", "changes_at", "strengths_after", "changes_of", "changed", "run_order", "unwind", "_ends_in", "_law_is_integer", "_law_numbers", "_law_is_standing", "_law_cell", "_law_draws", "_law_lengths", "_law_strengths", "_law_reach", "_law_woken"] : List Str) ++ (["_law_drawn", "_law_spoilt_order", "_law_handed", "_law_log", "_law_is_changes", "_law_is_log", "_law_refuses", "_law_runs", "_law_spoilt_log", "_law_unwound", "_law_unwinds"] : List Str)
abbrev R : PySem.W.OpenRow := PySem.W.OpenLaw.row PySem.Challenge.rw_retinue_k05_orders_run_and_unwound
abbrev hk : PySem.W.Hook := hookL ["changes_of"] 5 fa fn more
def ob (s : PySem.W.SharedT) : AlM := obsLG ["changes_of"] 5 fa fn more (HandSHeadRun.getT s)
theorem ob_eq (s : PySem.W.SharedT) : ob s = hk.obs s.abs := obsLG_eq (HandSHeadRun.getT_eq s)
theorem run_ (w : World) : HandSHeadRun.RunEq R (PySem.W.view R.prog [46]) hk ob 6000 loose w := by
  intro os
  kernel_rfl
theorem facts {P : Program} {w : World} {K : PySem.W.Frag} {h : Heap} {mg : Str → Option Value} {f : Addr} (X : K.In h) (G : h.Ns mainGlobals mg) (hfa : mg ("law" : Str) = some (.ref f)) (c : He.SaysD fa fn K) (m : more K = true) {c0 P0 : Addr} {TL : List (Addr × Str)} (hcA : codeAt K (ga K "changes_of") c0 = true) (LT : LamT TL P0 ((("changes_of" : Str) ++ ".<locals>.") ++ "<lambda>")) :
    ∃ fd : FuncData, (∀ (s : Shared) (v : Value), BindsTo s fd ⟨[v], []⟩ [("script", v)]) ∧ ∀ base : Heap, K.In base → base.Ns mainGlobals mg → LamX.TabB base mg c0 P0 → FnOk P w K mg base CX0 12 f fd ["script"] (spLaw K TL) := by
  obtain ⟨mI, m1⟩ := ba m
  have mI0 := mI
  obtain ⟨mE0, m2⟩ := ba m1
  have E_BadPlace := excB_ok mE0
  obtain ⟨mE1, m3⟩ := ba m2
  have E_WrongKind := excB_ok mE1
  obtain ⟨mE2, m4⟩ := ba m3
  have E_BadLog := excB_ok mE2
  have mE3 := m4
  obtain ⟨i1, i2, i3, i4, i5⟩ := isiB_ok mI0
  obtain ⟨fd__ends_in, F__ends_in⟩ := c.def_ 0 (d := ⟨("_ends_in", none), "_ends_in", "_ends_in", defArgs s__ends_in, defBody s__ends_in, defScope s__ends_in, [], []⟩) rfl
  have U__ends_in := fun_of (st := s__ends_in) F__ends_in
  have b__ends_in := U__ends_in.binds (ps := ["changes", "strengths"]) fun _ _ _ _ _ _ us hl => match us, hl with | [_, _], _ => rfl
  have g__ends_in := He.glo_ok X G (c.fact 0 (f := .glo "_ends_in") rfl)
  obtain ⟨fd__law_cell, F__law_cell⟩ := c.def_ 1 (d := ⟨("_law_cell", none), "_law_cell", "_law_cell", defArgs s__law_cell, defBody s__law_cell, defScope s__law_cell, [], []⟩) rfl
  have U__law_cell := fun_of (st := s__law_cell) F__law_cell
  have b__law_cell := U__law_cell.binds (ps := ["script", "k"]) fun _ _ _ _ _ _ us hl => match us, hl with | [_, _], _ => rfl
  have g__law_cell := He.glo_ok X G (c.fact 1 (f := .glo "_law_cell") rfl)
  obtain ⟨fd__law_drawn, F__law_drawn⟩ := c.def_ 2 (d := ⟨("_law_drawn", none), "_law_drawn", "_law_drawn", defArgs s__law_drawn, defBody s__law_drawn, defScope s__law_drawn, [], []⟩) rfl
  have U__law_drawn := fun_of (st := s__law_drawn) F__law_drawn
  have b__law_drawn := U__law_drawn.binds (ps := ["cell", "many"]) fun _ _ _ _ _ _ us hl => match us, hl with | [_, _], _ => rfl
  have g__law_drawn := He.glo_ok X G (c.fact 2 (f := .glo "_law_drawn") rfl)
  obtain ⟨fd__law_draws, F__law_draws⟩ := c.def_ 3 (d := ⟨("_law_draws", none), "_law_draws", "_law_draws", defArgs s__law_draws, defBody s__law_draws, defScope s__law_draws, [], []⟩) rfl
  have U__law_draws := fun_of (st := s__law_draws) F__law_draws
  have b__law_draws := U__law_draws.binds (ps := ["cell", "sizes"]) fun _ _ _ _ _ _ us hl => match us, hl with | [_, _], _ => rfl
  have g__law_draws := He.glo_ok X G (c.fact 3 (f := .glo "_law_draws") rfl)
  obtain ⟨fd__law_handed, F__law_handed⟩ := c.def_ 4 (d := ⟨("_law_handed", none), "_law_handed", "_law_handed", defArgs s__law_handed, defBody s__law_handed, defScope s__law_handed, [], []⟩) rfl
  have U__law_handed := fun_of (st := s__law_handed) F__law_handed
  have b__law_handed := U__law_handed.binds (ps := ["order", "form"]) fun _ _ _ _ _ _ us hl => match us, hl with | [_, _], _ => rfl
  have g__law_handed := He.glo_ok X G (c.fact 4 (f := .glo "_law_handed") rfl)
  obtain ⟨fd__law_is_changes, F__law_is_changes⟩ := c.def_ 5 (d := ⟨("_law_is_changes", none), "_law_is_changes", "_law_is_changes", defArgs s__law_is_changes, defBody s__law_is_changes, defScope s__law_is_changes, [], []⟩) rfl
  have U__law_is_changes := fun_of (st := s__law_is_changes) F__law_is_changes
  have b__law_is_changes := U__law_is_changes.binds (ps := ["actual", "due"]) fun _ _ _ _ _ _ us hl => match us, hl with | [_, _], _ => rfl
  have g__law_is_changes := He.glo_ok X G (c.fact 5 (f := .glo "_law_is_changes") rfl)
  obtain ⟨fd__law_is_integer, F__law_is_integer⟩ := c.def_ 6 (d := ⟨("_law_is_integer", none), "_law_is_integer", "_law_is_integer", defArgs s__law_is_integer, defBody s__law_is_integer, defScope s__law_is_integer, [], []⟩) rfl
  have U__law_is_integer := fun_of (st := s__law_is_integer) F__law_is_integer
  have b__law_is_integer := U__law_is_integer.binds (ps := ["actual"]) fun _ _ _ _ _ _ us hl => match us, hl with | [_], _ => rfl
  have g__law_is_integer := He.glo_ok X G (c.fact 6 (f := .glo "_law_is_integer") rfl)
  obtain ⟨fd__law_is_log, F__law_is_log⟩ := c.def_ 7 (d := ⟨("_law_is_log", none), "_law_is_log", "_law_is_log", defArgs s__law_is_log, defBody s__law_is_log, defScope s__law_is_log, [], []⟩) rfl
  have U__law_is_log := fun_of (st := s__law_is_log) F__law_is_log
  have b__law_is_log := U__law_is_log.binds (ps := ["actual", "due"]) fun _ _ _ _ _ _ us hl => match us, hl with | [_, _], _ => rfl
  have g__law_is_log := He.glo_ok X G (c.fact 7 (f := .glo "_law_is_log") rfl)
  obtain ⟨fd__law_is_standing, F__law_is_standing⟩ := c.def_ 8 (d := ⟨("_law_is_standing", none), "_law_is_standing", "_law_is_standing", defArgs s__law_is_standing, defBody s__law_is_standing, defScope s__law_is_standing, [], []⟩) rfl
  have U__law_is_standing := fun_of (st := s__law_is_standing) F__law_is_standing
  have b__law_is_standing := U__law_is_standing.binds (ps := ["actual", "round_flag", "sizes", "strengths"]) fun _ _ _ _ _ _ us hl => match us, hl with | [_, _, _, _], _ => rfl
  have g__law_is_standing := He.glo_ok X G (c.fact 8 (f := .glo "_law_is_standing") rfl)
  obtain ⟨fd__law_lengths, F__law_lengths⟩ := c.def_ 9 (d := ⟨("_law_lengths", none), "_law_lengths", "_law_lengths", defArgs s__law_lengths, defBody s__law_lengths, defScope s__law_lengths, [], []⟩) rfl
  have U__law_lengths := fun_of (st := s__law_lengths) F__law_lengths
  have b__law_lengths := U__law_lengths.binds (ps := ["cell", "many"]) fun _ _ _ _ _ _ us hl => match us, hl with | [_, _], _ => rfl
  have g__law_lengths := He.glo_ok X G (c.fact 9 (f := .glo "_law_lengths") rfl)
  obtain ⟨fd__law_log, F__law_log⟩ := c.def_ 10 (d := ⟨("_law_log", none), "_law_log", "_law_log", defArgs s__law_log, defBody s__law_log, defScope s__law_log, [], []⟩) rfl
  have U__law_log := fun_of (st := s__law_log) F__law_log
  have b__law_log := U__law_log.binds (ps := ["round_flag", "sizes", "strengths", "order"]) fun _ _ _ _ _ _ us hl => match us, hl with | [_, _, _, _], _ => rfl
  have g__law_log := He.glo_ok X G (c.fact 10 (f := .glo "_law_log") rfl)
  obtain ⟨fd__law_numbers, F__law_numbers⟩ := c.def_ 11 (d := ⟨("_law_numbers", none), "_law_numbers", "_law_numbers", defArgs s__law_numbers, defBody s__law_numbers, defScope s__law_numbers, [], []⟩) rfl
  have U__law_numbers := fun_of (st := s__law_numbers) F__law_numbers
  have b__law_numbers := U__law_numbers.binds (ps := ["actual", "due", "as_tuple"]) fun _ _ _ _ _ _ us hl => match us, hl with | [_, _, _], _ => rfl
  have g__law_numbers := He.glo_ok X G (c.fact 11 (f := .glo "_law_numbers") rfl)
  obtain ⟨fd__law_reach, F__law_reach⟩ := c.def_ 12 (d := ⟨("_law_reach", none), "_law_reach", "_law_reach", defArgs s__law_reach, defBody s__law_reach, defScope s__law_reach, [], []⟩) rfl
  have U__law_reach := fun_of (st := s__law_reach) F__law_reach
  have b__law_reach := U__law_reach.binds (ps := ["round_flag", "sizes", "strengths", "place"]) fun _ _ _ _ _ _ us hl => match us, hl with | [_, _, _, _], _ => rfl
  have g__law_reach := He.glo_ok X G (c.fact 12 (f := .glo "_law_reach") rfl)
  obtain ⟨fd__law_refuses, F__law_refuses⟩ := c.def_ 13 (d := ⟨("_law_refuses", none), "_law_refuses", "_law_refuses", defArgs s__law_refuses, defBody s__law_refuses, defScope s__law_refuses, [], []⟩) rfl
  have U__law_refuses := fun_of (st := s__law_refuses) F__law_refuses
  have b__law_refuses := U__law_refuses.binds (ps := ["beads", "many", "spoilt", "form"]) fun _ _ _ _ _ _ us hl => match us, hl with | [_, _, _, _], _ => rfl
  have g__law_refuses := He.glo_ok X G (c.fact 13 (f := .glo "_law_refuses") rfl)
  obtain ⟨fd__law_runs, F__law_runs⟩ := c.def_ 14 (d := ⟨("_law_runs", none), "_law_runs", "_law_runs", defArgs s__law_runs, defBody s__law_runs, defScope s__law_runs, [], []⟩) rfl
  have U__law_runs := fun_of (st := s__law_runs) F__law_runs
  have b__law_runs := U__law_runs.binds (ps := ["beads", "round_flag", "sizes", "strengths", "order", "form"]) fun _ _ _ _ _ _ us hl => match us, hl with | [_, _, _, _, _, _], _ => rfl
  have g__law_runs := He.glo_ok X G (c.fact 14 (f := .glo "_law_runs") rfl)
  obtain ⟨fd__law_spoilt_log, F__law_spoilt_log⟩ := c.def_ 15 (d := ⟨("_law_spoilt_log", none), "_law_spoilt_log", "_law_spoilt_log", defArgs s__law_spoilt_log, defBody s__law_spoilt_log, defScope s__law_spoilt_log, [], []⟩) rfl
  have U__law_spoilt_log := fun_of (st := s__law_spoilt_log) F__law_spoilt_log
  have b__law_spoilt_log := U__law_spoilt_log.binds (ps := ["cell", "many", "log"]) fun _ _ _ _ _ _ us hl => match us, hl with | [_, _, _], _ => rfl
  have g__law_spoilt_log := He.glo_ok X G (c.fact 15 (f := .glo "_law_spoilt_log") rfl)
  obtain ⟨fd__law_spoilt_order, F__law_spoilt_order⟩ := c.def_ 16 (d := ⟨("_law_spoilt_order", none), "_law_spoilt_order", "_law_spoilt_order", defArgs s__law_spoilt_order, defBody s__law_spoilt_order, defScope s__law_spoilt_order, [], []⟩) rfl
  have U__law_spoilt_order := fun_of (st := s__law_spoilt_order) F__law_spoilt_order
  have b__law_spoilt_order := U__law_spoilt_order.binds (ps := ["cell", "many", "order"]) fun _ _ _ _ _ _ us hl => match us, hl with | [_, _, _], _ => rfl
  have g__law_spoilt_order := He.glo_ok X G (c.fact 16 (f := .glo "_law_spoilt_order") rfl)
  obtain ⟨fd__law_strengths, F__law_strengths⟩ := c.def_ 17 (d := ⟨("_law_strengths", none), "_law_strengths", "_law_strengths", defArgs s__law_strengths, defBody s__law_strengths, defScope s__law_strengths, [], []⟩) rfl
  have U__law_strengths := fun_of (st := s__law_strengths) F__law_strengths
  have b__law_strengths := U__law_strengths.binds (ps := ["cell", "sizes"]) fun _ _ _ _ _ _ us hl => match us, hl with | [_, _], _ => rfl
  have g__law_strengths := He.glo_ok X G (c.fact 17 (f := .glo "_law_strengths") rfl)
  obtain ⟨fd__law_unwinds, F__law_unwinds⟩ := c.def_ 18 (d := ⟨("_law_unwinds", none), "_law_unwinds", "_law_unwinds", defArgs s__law_unwinds, defBody s__law_unwinds, defScope s__law_unwinds, [], []⟩) rfl
  have U__law_unwinds := fun_of (st := s__law_unwinds) F__law_unwinds
  have b__law_unwinds := U__law_unwinds.binds (ps := ["beads", "round_flag", "sizes", "strengths", "log"]) fun _ _ _ _ _ _ us hl => match us, hl with | [_, _, _, _, _], _ => rfl
  have g__law_unwinds := He.glo_ok X G (c.fact 18 (f := .glo "_law_unwinds") rfl)
  obtain ⟨fd__law_unwound, F__law_unwound⟩ := c.def_ 19 (d := ⟨("_law_unwound", none), "_law_unwound", "_law_unwound", defArgs s__law_unwound, defBody s__law_unwound, defScope s__law_unwound, [], []⟩) rfl
  have U__law_unwound := fun_of (st := s__law_unwound) F__law_unwound
  have b__law_unwound := U__law_unwound.binds (ps := ["strengths", "log"]) fun _ _ _ _ _ _ us hl => match us, hl with | [_, _], _ => rfl
  have g__law_unwound := He.glo_ok X G (c.fact 19 (f := .glo "_law_unwound") rfl)
  obtain ⟨fd__law_woken, F__law_woken⟩ := c.def_ 20 (d := ⟨("_law_woken", none), "_law_woken", "_law_woken", defArgs s__law_woken, defBody s__law_woken, defScope s__law_woken, [], []⟩) rfl
  have U__law_woken := fun_of (st := s__law_woken) F__law_woken
  have b__law_woken := U__law_woken.binds (ps := ["round_flag", "sizes", "strengths", "places"]) fun _ _ _ _ _ _ us hl => match us, hl with | [_, _, _, _], _ => rfl
  have g__law_woken := He.glo_ok X G (c.fact 20 (f := .glo "_law_woken") rfl)
  obtain ⟨fd_changed, F_changed⟩ := c.def_ 21 (d := ⟨("changed", none), "changed", "changed", defArgs s_changed, defBody s_changed, defScope s_changed, [], []⟩) rfl
  have U_changed := fun_of (st := s_changed) F_changed
  have b_changed := U_changed.binds (ps := ["beads", "changes"]) fun _ _ _ _ _ _ us hl => match us, hl with | [_, _], _ => rfl
  have g_changed := He.glo_ok X G (c.fact 21 (f := .glo "changed") rfl)
  obtain ⟨fd_changes_at, F_changes_at⟩ := c.def_ 22 (d := ⟨("changes_at", none), "changes_at", "changes_at", defArgs s_changes_at, defBody s_changes_at, defScope s_changes_at, [], []⟩) rfl
  have U_changes_at := fun_of (st := s_changes_at) F_changes_at
  have b_changes_at := U_changes_at.binds (ps := ["strengths", "handful", "tell"]) fun _ _ _ _ _ _ us hl => match us, hl with | [_, _, _], _ => rfl
  have g_changes_at := He.glo_ok X G (c.fact 22 (f := .glo "changes_at") rfl)
  obtain ⟨fd_changes_of, F_changes_of⟩ := c.def_ 23 (d := ⟨("changes_of", none), "changes_of", "changes_of", defArgs s_changes_of, defBody s_changes_of, defScope s_changes_of, [], []⟩) rfl
  have U_changes_of := fun_of (st := s_changes_of) F_changes_of
  have b_changes_of := U_changes_of.binds (ps := ["beads", "handful"]) fun _ _ _ _ _ _ us hl => match us, hl with | [_, _], _ => rfl
  have g_changes_of := He.glo_ok X G (c.fact 23 (f := .glo "changes_of") rfl)
  obtain ⟨fd_check_handful, F_check_handful⟩ := c.def_ 24 (d := ⟨("check_handful", none), "check_handful", "check_handful", defArgs s_check_handful, defBody s_check_handful, defScope s_check_handful, [], []⟩) rfl
  have U_check_handful := fun_of (st := s_check_handful) F_check_handful
  have b_check_handful := U_check_handful.binds (ps := ["many", "handful"]) fun _ _ _ _ _ _ us hl => match us, hl with | [_, _], _ => rfl
  have g_check_handful := He.glo_ok X G (c.fact 24 (f := .glo "check_handful") rfl)
  obtain ⟨fd_check_place, F_check_place⟩ := c.def_ 25 (d := ⟨("check_place", none), "check_place", "check_place", defArgs s_check_place, defBody s_check_place, defScope s_check_place, [], []⟩) rfl
  have U_check_place := fun_of (st := s_check_place) F_check_place
  have b_check_place := U_check_place.binds (ps := ["many", "place"]) fun _ _ _ _ _ _ us hl => match us, hl with | [_, _], _ => rfl
  have g_check_place := He.glo_ok X G (c.fact 25 (f := .glo "check_place") rfl)
  obtain ⟨fd_law, F_law⟩ := c.def_ 26 (d := ⟨("law", none), "law", "law", defArgs s_law, defBody s_law, defScope s_law, [], []⟩) rfl
  have U_law := fun_of (st := s_law) F_law
  have b_law := U_law.binds (ps := ["script"]) fun _ _ _ _ _ _ us hl => match us, hl with | [_], _ => rfl
  have g_law := He.glo_ok X G (c.fact 26 (f := .glo "law") rfl)
  obtain ⟨fd_reach_of, F_reach_of⟩ := c.def_ 27 (d := ⟨("reach_of", none), "reach_of", "reach_of", defArgs s_reach_of, defBody s_reach_of, defScope s_reach_of, [], []⟩) rfl
  have U_reach_of := fun_of (st := s_reach_of) F_reach_of
  have b_reach_of := U_reach_of.binds (ps := ["beads", "place"]) fun _ _ _ _ _ _ us hl => match us, hl with | [_, _], _ => rfl
  have g_reach_of := He.glo_ok X G (c.fact 27 (f := .glo "reach_of") rfl)
  obtain ⟨fd_run_after, F_run_after⟩ := c.def_ 28 (d := ⟨("run_after", none), "run_after", "run_after", defArgs s_run_after, defBody s_run_after, defScope s_run_after, [], []⟩) rfl
  have U_run_after := fun_of (st := s_run_after) F_run_after
  have b_run_after := U_run_after.binds (ps := ["beads", "place"]) fun _ _ _ _ _ _ us hl => match us, hl with | [_, _], _ => rfl
  have g_run_after := He.glo_ok X G (c.fact 28 (f := .glo "run_after") rfl)
  obtain ⟨fd_run_order, F_run_order⟩ := c.def_ 29 (d := ⟨("run_order", none), "run_order", "run_order", defArgs s_run_order, defBody s_run_order, defScope s_run_order, [], []⟩) rfl
  have U_run_order := fun_of (st := s_run_order) F_run_order
  have b_run_order := U_run_order.binds (ps := ["beads", "order"]) fun _ _ _ _ _ _ us hl => match us, hl with | [_, _], _ => rfl
  have g_run_order := He.glo_ok X G (c.fact 29 (f := .glo "run_order") rfl)
  obtain ⟨fd_strengths_after, F_strengths_after⟩ := c.def_ 30 (d := ⟨("strengths_after", none), "strengths_after", "strengths_after", defArgs s_strengths_after, defBody s_strengths_after, defScope s_strengths_after, [], []⟩) rfl
  have U_strengths_after := fun_of (st := s_strengths_after) F_strengths_after
  have b_strengths_after := U_strengths_after.binds (ps := ["strengths", "changes"]) fun _ _ _ _ _ _ us hl => match us, hl with | [_, _], _ => rfl
  have g_strengths_after := He.glo_ok X G (c.fact 30 (f := .glo "strengths_after") rfl)
  obtain ⟨fd_train_of, F_train_of⟩ := c.def_ 31 (d := ⟨("train_of", none), "train_of", "train_of", defArgs s_train_of, defBody s_train_of, defScope s_train_of, [], []⟩) rfl
  have U_train_of := fun_of (st := s_train_of) F_train_of
  have b_train_of := U_train_of.binds (ps := ["beads", "place"]) fun _ _ _ _ _ _ us hl => match us, hl with | [_, _], _ => rfl
  have g_train_of := He.glo_ok X G (c.fact 31 (f := .glo "train_of") rfl)
  obtain ⟨fd_unwind, F_unwind⟩ := c.def_ 32 (d := ⟨("unwind", none), "unwind", "unwind", defArgs s_unwind, defBody s_unwind, defScope s_unwind, [], []⟩) rfl
  have U_unwind := fun_of (st := s_unwind) F_unwind
  have b_unwind := U_unwind.binds (ps := ["beads", "log"]) fun _ _ _ _ _ _ us hl => match us, hl with | [_, _], _ => rfl
  have g_unwind := He.glo_ok X G (c.fact 32 (f := .glo "unwind") rfl)
  obtain ⟨fd__check_beads, F__check_beads⟩ := c.def_ 33 (d := ⟨("_check_beads", none), "_check_beads", "_check_beads", defArgs s__check_beads, defBody s__check_beads, defScope s__check_beads, [], []⟩) rfl
  have U__check_beads := fun_of (st := s__check_beads) F__check_beads
  have b__check_beads := U__check_beads.binds (ps := ["strengths", "lengths"]) fun _ _ _ _ _ _ us hl => match us, hl with | [_, _], _ => rfl
  have g__check_beads := He.glo_ok X G (c.fact 33 (f := .glo "_check_beads") rfl)
  obtain ⟨fd_Beads_init, F_Beads_init⟩ := c.def_ 34 (d := ⟨("Beads", some "__init__"), "__init__", "Beads.__init__", defArgs s_Beads_init, defBody s_Beads_init, defScope s_Beads_init, [.non], [("ring", .bl true)]⟩) rfl
  obtain ⟨fd_Beads_len, F_Beads_len⟩ := c.def_ 35 (d := ⟨("Beads", some "__len__"), "__len__", "Beads.__len__", defArgs s_Beads_len, defBody s_Beads_len, defScope s_Beads_len, [], []⟩) rfl
  have U_Beads_len := fun_of (st := s_Beads_len) F_Beads_len
  have b_Beads_len := U_Beads_len.binds (ps := ["self"]) fun _ _ _ _ _ _ us hl => match us, hl with | [_], _ => rfl
  obtain ⟨fd_BadPlace_init, F_BadPlace_init⟩ := c.def_ 36 (d := ⟨("BadPlace", some "__init__"), "__init__", "BadPlace.__init__", defArgs s_BadPlace_init, defBody s_BadPlace_init, defScope s_BadPlace_init, [], []⟩) rfl
  have U_BadPlace_init := fun_of (st := s_BadPlace_init) F_BadPlace_init
  have b_BadPlace_init := U_BadPlace_init.binds (ps := ["self", "place"]) fun _ _ _ _ _ _ us hl => match us, hl with | [_, _], _ => rfl
  obtain ⟨fd_BadLog_init, F_BadLog_init⟩ := c.def_ 37 (d := ⟨("BadLog", some "__init__"), "__init__", "BadLog.__init__", defArgs s_BadLog_init, defBody s_BadLog_init, defScope s_BadLog_init, [], []⟩) rfl
  have U_BadLog_init := fun_of (st := s_BadLog_init) F_BadLog_init
  have b_BadLog_init := U_BadLog_init.binds (ps := ["self", "index"]) fun _ _ _ _ _ _ us hl => match us, hl with | [_, _], _ => rfl
  obtain ⟨its, mv, kb⟩ := FunD.kbinds (ps := ["self", "strengths", "lengths", "ring"]) F_Beads_init 3 ["ring"] [] (fun us its mv ws => us ++ ws) (by simp [DefD.dvs]) (by simp [DefD.kws]) (fun q h => by cases h) (fun r1 r2 r3 r4 => r1.append r4)
    (fun T D doc pm an cdv ct us its mv ws h1 h2 h3 h4 => match us, its, mv, ws, h1, h2, h3, h4 with | [_, _, _], [_], [], [_], _, _, _, _ => ⟨_, rfl, rfl⟩)
  have eL := hfa.symm.trans g_law
  cases eL
  have A0 : ∃ A : Ad, A = { Beads := ga K "Beads", BadPlace := ga K "BadPlace", WrongKind := ga K "WrongKind", BadLog := ga K "BadLog", BadBeads := ga K "BadBeads" } := ⟨_, rfl⟩
  obtain ⟨A, hA⟩ := A0
  have T : Txt K mg A := by
    subst hA
    exact {
      m_len := He.free_ok X G (c.fact 34 (f := .free "len") rfl)
      m_int := He.free_ok X G (c.fact 35 (f := .free "int") rfl)
      m_bool := He.free_ok X G (c.fact 36 (f := .free "bool") rfl)
      m_tuple := He.free_ok X G (c.fact 37 (f := .free "tuple") rfl)
      m_list := He.free_ok X G (c.fact 38 (f := .free "list") rfl)
      m_range := He.free_ok X G (c.fact 39 (f := .free "range") rfl)
      m_isinstance := He.free_ok X G (c.fact 40 (f := .free "isinstance") rfl)
      m_sum := He.free_ok X G (c.fact 41 (f := .free "sum") rfl)
      m_set := He.free_ok X G (c.fact 42 (f := .free "set") rfl)
      m_sorted := He.free_ok X G (c.fact 43 (f := .free "sorted") rfl)
      m_reversed := He.free_ok X G (c.fact 44 (f := .free "reversed") rfl)
      m_iter := He.free_ok X G (c.fact 45 (f := .free "iter") rfl)
      g_Beads := He.glo_ok X G (c.fact 46 (f := .glo "Beads") rfl)
      g_BadPlace := He.glo_ok X G (c.fact 47 (f := .glo "BadPlace") rfl)
      g_WrongKind := He.glo_ok X G (c.fact 48 (f := .glo "WrongKind") rfl)
      g_BadLog := He.glo_ok X G (c.fact 49 (f := .glo "BadLog") rfl)
      g_BadBeads := He.glo_ok X G (c.fact 50 (f := .glo "BadBeads") rfl)
      cl := He.cls_ok (c.fact 51 (f := .cls "Beads") rfl)
      nS := He.noat_ok (c.fact 52 (f := .noat "Beads" "strengths") rfl)
      nL := He.noat_ok (c.fact 53 (f := .noat "Beads" "lengths") rfl)
      nR := He.noat_ok (c.fact 54 (f := .noat "Beads" "ring") rfl)
      oBP := E_BadPlace.o
      no_BadPlace_place := E_BadPlace.no
      x_BadPlace := E_BadPlace.xf
      eBP := He.exm_ok (c.fact 55 (f := .exm "BadPlace" "BadPlace" true) rfl)
      oWK := E_WrongKind.o
      no_WrongKind_ring := E_WrongKind.no
      x_WrongKind := E_WrongKind.xf
      eWK := He.exm_ok (c.fact 56 (f := .exm "WrongKind" "WrongKind" true) rfl)
      oBL := E_BadLog.o
      no_BadLog_index := E_BadLog.no
      x_BadLog := E_BadLog.xf
      eBL := He.exm_ok (c.fact 57 (f := .exm "BadLog" "BadLog" true) rfl)
      iB1 := i1
      iB2 := i2
      iB3 := i3
      iB4 := i4
      iB5 := i5
      nW := True.intro
      kBPb := of_decide_eq_true mE3 }
  have ML_len := He.meth_ok (c.fact 58 (f := .meth "Beads" "__len__") rfl)
  have MK := He.mkr_ok (c.fact 59 (f := .mkr "Beads") rfl)
  refine ⟨_, fun s v => FunD.bindsA (ps := ["script"]) F_law (fun _ _ _ _ _ _ us hl => match us, hl with | [_], _ => rfl) s [v] rfl, fun base hKb hGb TB0 => ?_⟩
  have eA_Beads : A.Beads = ga K "Beads" := by rw [hA]
  have eA_BadPlace : A.BadPlace = ga K "BadPlace" := by rw [hA]
  have eA_WrongKind : A.WrongKind = ga K "WrongKind" := by rw [hA]
  have eA_BadLog : A.BadLog = ga K "BadLog" := by rw [hA]
  have eA_BadBeads : A.BadBeads = ga K "BadBeads" := by rw [hA]
  have X_BadPlace : ExcDef P w K mg base "BadPlace" A.BadPlace "place" := by
    have o := ok_BadPlace (P := P) (w := w) (mg := mg) (base := base) (A := A) U_BadPlace_init
    rw [eA_BadPlace] at o ⊢
    exact ⟨_, fd_BadPlace_init, E_BadPlace.o, E_BadPlace.i, E_BadPlace.t, o, b_BadPlace_init, He.glo_ok X G (c.fact 47 (f := .glo "BadPlace") rfl), E_BadPlace.no⟩
  have X_BadLog : ExcDef P w K mg base "BadLog" A.BadLog "index" := by
    have o := ok_BadLog (P := P) (w := w) (mg := mg) (base := base) (A := A) U_BadLog_init
    rw [eA_BadLog] at o ⊢
    exact ⟨_, fd_BadLog_init, E_BadLog.o, E_BadLog.i, E_BadLog.t, o, b_BadLog_init, He.glo_ok X G (c.fact 49 (f := .glo "BadLog") rfl), E_BadLog.no⟩
  have LN : LenD P w K mg base A.Beads (spLen A) := by
    rw [eA_Beads]
    exact ⟨_, fd_Beads_len, ⟨ML_len.at_, ML_len.fn⟩, ok_len U_Beads_len T, b_Beads_len⟩
  have D16 : DefOk P w K mg base CX0 1 "_check_beads" ["strengths", "lengths"] spChk := defOk g__check_beads U__check_beads (ok_chk U__check_beads T) b__check_beads
  have o := FnOk.or (ok_init (P := P) (w := w) (base := base) F_Beads_init T D16) (FnOk.or (ok_initT (P := P) (w := w) (base := base) F_Beads_init T D16) (ok_initM (P := P) (w := w) (base := base) F_Beads_init T D16))
  have MKB : CtorD P w K mg base CX0 2 "Beads" A.Beads 2 ["ring"] gBeads (spNew K A) := by
    have g := T.g_Beads
    rw [eA_Beads] at g ⊢
    exact ⟨_, fd_Beads_init, _, _, g, MK, o, kb⟩
  have E1_law_cell : DefOk P w K mg base CX0 1 "_law_cell" ["script", "k"] (spCell K) := defOk g__law_cell U__law_cell ((ok_cell (P := P) (w := w) (base := base) U__law_cell T).mono (by decide)) b__law_cell
  have E2_law_draws : DefOk P w K mg base CX0 1 "_law_draws" ["cell", "sizes"] (spDraws K) := defOk g__law_draws U__law_draws ((ok_draws (P := P) (w := w) (base := base) U__law_draws T).mono (by decide)) b__law_draws
  have E3_law_lengths : DefOk P w K mg base CX0 2 "_law_lengths" ["cell", "many"] spLengths := defOk g__law_lengths U__law_lengths ((ok_lengths (P := P) (w := w) (base := base) U__law_lengths T E2_law_draws).mono (by decide)) b__law_lengths
  have E4_law_strengths : DefOk P w K mg base CX0 2 "_law_strengths" ["cell", "sizes"] (spStrengths K) := defOk g__law_strengths U__law_strengths ((ok_strengths (P := P) (w := w) (base := base) U__law_strengths T E2_law_draws).mono (by decide)) b__law_strengths
  have E5_law_drawn : DefOk P w K mg base CX0 2 "_law_drawn" ["cell", "many"] spDrawnO := defOk g__law_drawn U__law_drawn ((ok_drawnO (P := P) (w := w) (base := base) U__law_drawn T E2_law_draws).mono (by decide)) b__law_drawn
  have E6_law_spoilt_order : DefOk P w K mg base CX0 2 "_law_spoilt_order" ["cell", "many", "order"] spSpoO := defOk g__law_spoilt_order U__law_spoilt_order ((ok_spoO (P := P) (w := w) (base := base) U__law_spoilt_order T E2_law_draws).mono (by decide)) b__law_spoilt_order
  have E8_law_handed : DefOk P w K mg base CX0 1 "_law_handed" ["order", "form"] spHandO := defOk g__law_handed U__law_handed ((ok_handO (P := P) (w := w) (base := base) U__law_handed T).mono (by decide)) b__law_handed
  have E12_check_place : DefOk P w K mg base (L2N.CX P w) 4 "check_place" ["many", "place"] (spCheck A) := defOk g_check_place U_check_place ((ok_check (P := P) (w := w) (base := base) U_check_place T X_BadPlace).mono (by decide)) b_check_place
  have E11_check_handful : DefOk P w K mg base (L2N.CX P w) 5 "check_handful" ["many", "handful"] (spChkH K A) := defOk g_check_handful U_check_handful ((ok_chkH (P := P) (w := w) (base := base) U_check_handful T E12_check_place).mono (by decide)) b_check_handful
  have E13_changes_at := givesD g_changes_at U_changes_at b_changes_at sc_changes_at rfl (Or.inl rfl) (fun cdv A0 stk q => gives_chAt (P := P) (w := w) (base := base) T cdv A0 stk q)
  have E16_run_after : DefOk P w K mg base CX0 4 "run_after" ["beads", "place"] (spRun A) := defOk g_run_after U_run_after ((ok_run (P := P) (w := w) (base := base) U_run_after T LN).mono (by decide)) b_run_after
  have E15_train_of : DefOk P w K mg base (L2N.CX P w) 5 "train_of" ["beads", "place"] (spPl A RTrain) := defOk g_train_of U_train_of ((ok_train (P := P) (w := w) (base := base) U_train_of T LN E12_check_place E16_run_after).mono (by decide)) b_train_of
  have E14_reach_of : DefOk P w K mg base (L2N.CX P w) 6 "reach_of" ["beads", "place"] (spPl A RReach) := defOk g_reach_of U_reach_of ((ok_reachOf (P := P) (w := w) (base := base) U_reach_of T E15_train_of).mono (by decide)) b_reach_of
  have E10_changes_of : DefOk P w K mg base (L2N.CX P w) 9 "changes_of" ["beads", "handful"] (spChOf K A TL) := defOk g_changes_of U_changes_of ((ok_chOf (P := P) (w := w) (base := base) (TL := TL) U_changes_of T hcA TB0 LT LN E11_check_handful E13_changes_at E14_reach_of).mono (by decide)) b_changes_of
  have E18_strengths_after : DefOk P w K mg base CX0 1 "strengths_after" ["strengths", "changes"] (spAfter K) := defOk g_strengths_after U_strengths_after ((ok_after (P := P) (w := w) (base := base) U_strengths_after T).mono (by decide)) b_strengths_after
  have E17_changed : DefOk P w K mg base CX0 4 "changed" ["beads", "changes"] (spChanged K A) := defOk g_changed U_changed ((ok_changed (P := P) (w := w) (base := base) U_changed T E18_strengths_after MKB).mono (by decide)) b_changed
  have E9_run_order : DefOk P w K mg base (L2N.CX P w) 10 "run_order" ["beads", "order"] (spRunO K A TL) := defOk g_run_order U_run_order ((ok_runO (P := P) (w := w) (base := base) (TL := TL) U_run_order T E10_changes_of E17_changed).mono (by decide)) b_run_order
  have E19_law_is_integer : DefOkH P w K mg base CX0 1 "_law_is_integer" ["actual"] spInt := defOkH g__law_is_integer U__law_is_integer (ok_intH (P := P) (w := w) (base := base) U__law_is_integer T) b__law_is_integer
  have E20_law_handed : DefOkH P w K mg base CX0 1 "_law_handed" ["order", "form"] spHandO := defOkH g__law_handed U__law_handed (ok_handOH (P := P) (w := w) (base := base) U__law_handed T) b__law_handed
  have E7_law_refuses : DefOk P w K mg base CX0 11 "_law_refuses" ["beads", "many", "spoilt", "form"] (spRefO K A TL) := defOk g__law_refuses U__law_refuses ((ok_refO (P := P) (w := w) (base := base) (TL := TL) U__law_refuses T E8_law_handed E9_run_order E19_law_is_integer E20_law_handed).mono (by decide)) b__law_refuses
  have E24_law_reach : DefOk P w K mg base CX0 1 "_law_reach" ["round_flag", "sizes", "strengths", "place"] (spReach K) := defOk g__law_reach U__law_reach ((ok_reach (P := P) (w := w) (base := base) U__law_reach T).mono (by decide)) b__law_reach
  have E23_law_woken : DefOk P w K mg base CX0 2 "_law_woken" ["round_flag", "sizes", "strengths", "places"] (spWoken K) := defOk g__law_woken U__law_woken ((ok_woken (P := P) (w := w) (base := base) U__law_woken T E24_law_reach).mono (by decide)) b__law_woken
  have E22_law_log : DefOk P w K mg base CX0 3 "_law_log" ["round_flag", "sizes", "strengths", "order"] (spLogL K) := defOk g__law_log U__law_log ((ok_logL (P := P) (w := w) (base := base) U__law_log T E23_law_woken).mono (by decide)) b__law_log
  have E27_law_is_integer : DefOk P w K mg base CX0 1 "_law_is_integer" ["actual"] spInt := defOk g__law_is_integer U__law_is_integer ((ok_int (P := P) (w := w) (base := base) U__law_is_integer T).mono (by decide)) b__law_is_integer
  have E26_law_numbers : DefOk P w K mg base CX0 2 "_law_numbers" ["actual", "due", "as_tuple"] (spNumbers K) := defOk g__law_numbers U__law_numbers ((ok_numbers (P := P) (w := w) (base := base) U__law_numbers T E27_law_is_integer).mono (by decide)) b__law_numbers
  have E25_law_is_standing : DefOk P w K mg base CX0 3 "_law_is_standing" ["actual", "round_flag", "sizes", "strengths"] (spStanding K A) := defOk g__law_is_standing U__law_is_standing ((ok_standing (P := P) (w := w) (base := base) U__law_is_standing T E26_law_numbers).mono (by decide)) b__law_is_standing
  have E29_law_numbers : DefOk P w K mg base CX0 2 "_law_numbers" ["actual", "due", "as_tuple"] (spNumbersT K) := defOk g__law_numbers U__law_numbers ((ok_numbersT (P := P) (w := w) (base := base) U__law_numbers T E27_law_is_integer).mono (by decide)) b__law_numbers
  have E30_law_is_changes : DefOk P w K mg base CX0 3 "_law_is_changes" ["actual", "due"] spIsChg := defOk g__law_is_changes U__law_is_changes ((ok_isChg (P := P) (w := w) (base := base) U__law_is_changes T E29_law_numbers).mono (by decide)) b__law_is_changes
  have E28_law_is_log : DefOk P w K mg base CX0 4 "_law_is_log" ["actual", "due"] (spIsLog K) := defOk g__law_is_log U__law_is_log ((ok_isLog (P := P) (w := w) (base := base) U__law_is_log T E29_law_numbers E30_law_is_changes).mono (by decide)) b__law_is_log
  have E32_ends_in : DefOk P w K mg base CX0 1 "_ends_in" ["changes", "strengths"] (spEnds K) := defOk g__ends_in U__ends_in ((ok_ends (P := P) (w := w) (base := base) U__ends_in T).mono (by decide)) b__ends_in
  have E31_unwind : DefOk P w K mg base (L2N.CX P w) 5 "unwind" ["beads", "log"] (spUnw K A) := defOk g_unwind U_unwind ((ok_unw (P := P) (w := w) (base := base) U_unwind T E32_ends_in MKB X_BadLog).mono (by decide)) b_unwind
  have E21_law_runs : DefOk P w K mg base CX0 11 "_law_runs" ["beads", "round_flag", "sizes", "strengths", "order", "form"] (spRunsO K A TL) := defOk g__law_runs U__law_runs ((ok_runsO (P := P) (w := w) (base := base) (TL := TL) U__law_runs T E22_law_log E8_law_handed E9_run_order E25_law_is_standing E28_law_is_log E31_unwind).mono (by decide)) b__law_runs
  have E33_law_spoilt_log : DefOk P w K mg base CX0 2 "_law_spoilt_log" ["cell", "many", "log"] (spSpoL K) := defOk g__law_spoilt_log U__law_spoilt_log ((ok_spoL (P := P) (w := w) (base := base) U__law_spoilt_log T E2_law_draws).mono (by decide)) b__law_spoilt_log
  have E35_law_unwound : DefOk P w K mg base CX0 1 "_law_unwound" ["strengths", "log"] (spUnwL K) := defOk g__law_unwound U__law_unwound ((ok_unwL (P := P) (w := w) (base := base) U__law_unwound T).mono (by decide)) b__law_unwound
  have E34_law_unwinds : DefOk P w K mg base CX0 6 "_law_unwinds" ["beads", "round_flag", "sizes", "strengths", "log"] (spUnws K A) := defOk g__law_unwinds U__law_unwinds ((ok_unws (P := P) (w := w) (base := base) U__law_unwinds T E35_law_unwound E31_unwind E28_law_is_log E25_law_is_standing E27_law_is_integer).mono (by decide)) b__law_unwinds
  exact (ok_law (P := P) (w := w) (base := base) (TL := TL) U_law T E1_law_cell E2_law_draws E3_law_lengths E4_law_strengths E5_law_drawn E6_law_spoilt_order MKB E7_law_refuses E21_law_runs E22_law_log E33_law_spoilt_log E34_law_unwinds).mono (by decide)
end Rt
open PySem PySem.W PySem.Calls PyProof.Rows
set_option maxHeartbeats 0 in
theorem PySem.Challenge.cw_retinue_k05_orders_run_and_unwound_holds : PySem.Challenge.rw_retinue_k05_orders_run_and_unwound.Holds := by
  w_on; o_law
  refine HandSHeadRun.head_any (r := OpenLaw.row PySem.Challenge.rw_retinue_k05_orders_run_and_unwound) (q := view (OpenLaw.row PySem.Challenge.rw_retinue_k05_orders_run_and_unwound).prog [46]) (H := Rt.hk) (ob := Rt.ob) (M := 6000) (loose := Rt.loose) (d := HandSHeadRun.topDef (OpenLaw.row PySem.Challenge.rw_retinue_k05_orders_run_and_unwound).prog 46) (kwd := []) Rt.ob_eq
    (by kernel_rfl) (fun s => by kernel_rfl) Rt.run_ (by kernel_rfl) (by kernel_rfl) (by kernel_rfl) (by rfl) (by first | assumption | decide +kernel) (by decide +kernel) ⟨rfl, rfl, rfl, rfl, rfl, by decide +kernel⟩ ?hw ?hc
  case hw => w_witness2
  case hc =>
    refine LamX.walk_ofTsE (l := PySem.Challenge.rw_retinue_k05_orders_run_and_unwound) (n := 63) (k := 12) (x := "script") (CX := fun _ => L2.CX0) rfl (by decide) (by kernel_rfl) ⟨rfl, by decide, by decide⟩ ?F (fun _ _ _ _ _ z => z)
    intro w mg fa h Y G hmg0
    obtain ⟨K, cs, KX, hl, c, m, hat, hno, hcs⟩ := Y.ex
    obtain ⟨⟨c0, P0⟩, rfl⟩ : ∃ p, cs = [p] := match cs, hl with
      | [p], _ => ⟨p, rfl⟩
    have hmg : mg ("law" : PySem.Str) = some (.ref fa) := by
      have e : (HandSHeadRun.topDef (OpenLaw.row PySem.Challenge.rw_retinue_k05_orders_run_and_unwound).prog 46).name = ("law" : PySem.Str) := by kernel_rfl
      rw [← e]
      exact hmg0
    obtain ⟨fd, hb, hF⟩ := Rt.facts (P := (PySem.Challenge.rw_retinue_k05_orders_run_and_unwound).prog) (w := w) KX G hmg c m (hat 0 _ _ rfl rfl) (TL := [(P0, ((("changes_of" : PySem.Str) ++ ".<locals>.") ++ "<lambda>"))]) ⟨List.mem_singleton.mpr rfl, fun p hp _ => by rw [List.mem_singleton.mp hp]⟩
    exact ⟨K, KX, fd, [(c0, P0)], Rt.spLaw K [(P0, ((("changes_of" : PySem.Str) ++ ".<locals>.") ++ "<lambda>"))], fun p hp => (hcs p hp).1, hno, fun p hp => (hcs p hp).2, hb, fun H a ns hl _ hT hS => ⟨a, ns, rfl, hS, hl, fun p hp => by
      rw [List.mem_singleton.mp hp]
      exact LamX.TabS.nil (hT (c0, P0) (List.mem_singleton.mpr rfl)), fun _ => rfl⟩, fun base hK hG hTB => hF base hK hG (hTB _ (List.mem_singleton.mpr rfl))⟩
