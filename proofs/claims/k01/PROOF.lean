import PyProof.Rows.All
import Wide.All
import OpenK.AllK
import Wide.FinOn
import PyProof.EqAt
import PyProof.EqKinds
import PyProof.TupleCall
import HandS.ForMost
import HandS.ForExc
import HandS.Conv
import HandS.IsInst
import HandS.MakeKwOnly
import HandS.TupMul
import HandS.TupAny
import HandS.Wide
import HandS.ExcInit
import HandS.ExcField
import HandS.ExcIs
import HandS.Evl
import HandS.OwnIter
import HandS.ExcCtx
import HandS.HotCalls
import HandS.ExcInitHot
import HandS.Head0
import HandS.Head1
import HandS.Head2
import HandS.HeadEnd
import HandS.HeadHook1
import HandS.HeadHook2
import PySem.Challenge.RW_retinue_k01_trains_and_reaches
set_option Elab.async false
set_option linter.all false
set_option maxRecDepth 100000
set_option maxHeartbeats 4000000
/-! Rules of our own, for every law of this program: len of an instance by its own __len__; a def of the top known by its promise. -/
namespace Rt
open PySem PySem.Spec PyProof.Rows L2

/-! ### a def of the top, known by its promise -/
structure DefOk (P : Program) (w : World) (K : PySem.W.Frag) (mg : Str → Option Value) (base : Heap) (CX : CXT) (k : Nat) (x : Str) (ps : List Str) (sp : Sp) : Prop where
  ex : ∃ (f : Addr) (fd : FuncData), mg x = some (.ref f) ∧ PySem.W.keepIn K (.ref f) = true ∧ FnOk P w K mg base CX k f fd ps sp ∧ Binds K fd ps []
section
variable {X : Cx} {CX : CXT} {k j : Nat} {x : Str} {ps : List Str} {sp : Sp} {E : XK} {p pos : Pos} {e : Expr} {es : List Expr} {t : TA}
theorem DefOk.mono {P : Program} {w : World} {K : PySem.W.Frag} {mg : Str → Option Value} {base : Heap} (D : DefOk P w K mg base CX j x ps sp) (h : j ≤ k) : DefOk P w K mg base CX k x ps sp := by
  obtain ⟨f, fd, a, b, c, d⟩ := D.ex
  exact ⟨f, fd, a, b, c.mono h, d⟩
theorem pe_callD (D : DefOk X.prog X.w X.K X.mg X.base CX k x ps sp) (hr : Room k X.A) (hx : Passes CX X E) (ha : PA X (e :: es) t) (hg : Gl X x := by rfl) (hdb : (x == ("__debug__" : Str)) = false := by decide)
    (he : starEach (e :: es) X.env = (false, eval e X.env) :: starEach es X.env := by rfl) (hpl : (backTo pos (starEach es X.env)).any (·.1) = false := by rfl) : PE X (.Call (.Name x p) (e :: es) [] pos) (tCall sp [] E t) := by
  obtain ⟨f, fd, a, b, c, d⟩ := D.ex
  exact pe_call c hr hg a b d .nil hx ha hdb he hpl
theorem pe_callDS {E : L2.St → XK} (D : DefOk X.prog X.w X.K X.mg X.base CX k x ps sp) (hr : Room k X.A) (hx : ∀ σ : L2.St, PassesAt CX X σ (E σ)) (ha : PA X (e :: es) t) (hg : Gl X x := by rfl) (hdb : (x == ("__debug__" : Str)) = false := by decide)
    (he : starEach (e :: es) X.env = (false, eval e X.env) :: starEach es X.env := by rfl) (hpl : (backTo pos (starEach es X.env)).any (·.1) = false := by rfl) : PE X (.Call (.Name x p) (e :: es) [] pos) (tCallS sp E t) := by
  obtain ⟨f, fd, a, b, c, d⟩ := D.ex
  exact pe_callS c hr hg a b d hx ha hdb he hpl
end

/-! ### len of an instance whose class has __len__ -/
/-- the def at f is the __len__ of the class at C -/
structure LenC (K : PySem.W.Frag) (C f : Addr) : Prop where
  ln : PySem.W.findIn K (.ref C) "__len__" = some (some (.ref f))
  lnF : PySem.W.isFn K (.ref f) = true
section
variable {X : Cx} {CX : CXT} {k : Nat} {f C : Addr} {fd : FuncData} {ps : List Str} {sp : Sp} {E : XK}
theorem run_fn' {pins : List (Addr × Obj)} {σ : L2.St} {H : Hp} {s : Shared} {Q : VK} {us : List Value} {vs : List V} {A1 : Around} (F : FnOk X.prog X.w X.K X.mg X.base CX k f fd ps sp) (hr : Room k A1) (hA : A1.frames = X.A.frames) (hb : Binds X.K fd ps []) (hx : Passes CX X E)
    (I : Inv X pins σ H s) (r : Vals vs us) (h : sp vs H Q E) : wpAny (model X.prog X.w) A1 (call (.ref f) us) (EP X pins σ Q) X.xe s := by
  have hl : us.length = ps.length := by rw [← r.length]; exact F.len _ _ _ _ h
  have e0 : Env0 X.prog X.w X.K X.mg X.base A1 X.stack s H := by
    have e := I.env0
    exact ⟨by rw [hA]; exact e.frames, e.mod, e.bs, e.bsz, e.funs, e.frf, e.hok, e.bare⟩
  refine wpAny_call (codeAny_mono (F.run A1 X.stack s H ⟨us, []⟩ us vs Q E hr e0 (by have := hb s us I.kIn (by simpa using hl); simpa using this) r h) fun r s' hq => ?_)
  cases r with
  | error e => exact hx pins σ H s e s' I hq
  | ok fl =>
    cases fl with
    | ret u => exact I.after hq
    | next => exact False.elim hq
    | brk => exact False.elim hq
    | cont => exact False.elim hq
def rLenO (C : Addr) (sp : Sp) (E : XK) : List V → Hp → VK → Prop := fun xs H Q => ∃ (a dx : Addr) (fs : List (Str × V)), xs = [.ref a] ∧ H a = some (.ins C dx fs) ∧ sp [.ref a] H (fun v H' => ∃ n : Int, v = .int n ∧ 0 ≤ n ∧ n < 2 ^ 63 ∧ Q (.int n) H') E
theorem call_lenO (c : LenC X.K C f) (F : FnOk X.prog X.w X.K X.mg X.base CX k f fd ps sp) (hr : Room (k + 1) X.A) (hb : Binds X.K fd ps []) (hx : Passes CX X E) : CallR X (.builtin "len") (rLenO C sp E) := by
  intro pins s σ H xs us Q I r h
  obtain ⟨a, dx, fs, rfl, ha, hsp⟩ := h
  obtain ⟨u, rfl, rx⟩ := vals1 r
  cases rx
  obtain ⟨mA, J, _⟩ := ins_get I.hok ha
  obtain ⟨od, J, _⟩ := J.look
  have hK := I.kIn
  refine Calls.call_function_entry PySem.kind_len PySem.plain_len PySem.entry_len (PySem.args_len1 _) ?_
  unfold Builtin.«len»
  refine wpAny_bind (m := oneArg "len" _) (wpAny_pure ?_)
  have fin : wpAny (model X.prog X.w) X.A.in1 (call (.ref f) [.ref a]) (EP X pins σ (fun v H' => ∃ n : Int, v = .int n ∧ 0 ≤ n ∧ n < 2 ^ 63 ∧ Q (.int n) H')) X.xe s := run_fn' F hr.in1 rfl hb hx I (us := [.ref a]) (vs := [V.ref a]) (.cons rfl .nil) hsp
  refine wpAny_bind (m := callSpecial? (.ref a) (Str.ofString "__len__")) ?_
  unfold callSpecial?
  refine wpAny_bind (wpAny_bind (J.type.here ((PySem.W.looks_findIn hK c.ln).here ?_)))
  refine wpAny_holding (wpAny_bind ((PySem.W.bind_fn hK _ (beq_iff_eq.mp c.lnF)).here ?_))
  refine wpAny_bind (wpAny_mono fin (fun v s' hv => ?_) fun _ _ z => z)
  obtain ⟨y, H', I', rv, n, rfl, h0, h1, q⟩ := hv
  obtain ⟨t, rfl⟩ := rv
  refine wpAny_pure ?_
  refine wpAny_bind (wpAny_holding (wpAny_pure ?_))
  refine wpAny_bind (wpAny_letGo ?_)
  show wpAny _ _ (if n < 0 then _ else _) _ _ _
  rw [if_neg (by omega)]
  refine wpAny_bind (wpAny_pure ?_)
  show wpAny _ _ (if n ≥ 2 ^ 63 then _ else _) _ _ _
  rw [if_neg (by omega)]
  refine wpAny_bind (wpAny_mkInt (wpAny_pure ⟨_, rfl, V.int n, H', I'.tok _, ⟨_, rfl⟩, ?_⟩))
  exact q
end

/-! ### C(e, ..) of an own exception class, raised where nothing is handled: its context is None -/
/-- the heap with the arguments' tuple and the bare exception of class C behind it -/
def born (hp : Heap) (C : Addr) (us : List Value) : Heap := (hp.push (PySem.W.kdv_tup us)).push (PySem.HandSPX.excO C hp.objs.size)
/-- where that exception stands -/
def bornAt (hp : Heap) : Addr := hp.objs.size + 1
theorem born_old {hp : Heap} {C : Addr} {us : List Value} {b : Addr} {o : Obj} (h : hp.get? b = some o) : (born hp C us).get? b = some o := by
  unfold born; exact Heap.get?_push_of_some _ (Heap.get?_push_of_some _ h)
theorem born_new {hp : Heap} {C : Addr} {us : List Value} : (born hp C us).get? (bornAt hp) = some (PySem.HandSPX.excO C hp.objs.size) := by
  unfold born bornAt; heap_get
section
variable {X : Cx} {pins : List (Addr × Obj)} {σ : L2.St} {H : Hp} {hp : Heap} {g : Array GenState} {dr : Drawn} {tk : Nat} {os : OsState} {C : Addr} {us : List Value}
theorem born_free (I : L2.Inv X pins σ H ⟨hp, g, dr, tk, os⟩) : H (bornAt hp) = none := I.hok.fresh (Nat.le_succ _)
theorem born_inv (I : L2.Inv X pins σ H ⟨hp, g, dr, tk, os⟩) : L2.Inv X pins σ (upd H (bornAt hp) (exo (bornAt hp) C none)) ⟨born hp C us, g, dr, tk, os⟩ := by
  refine I.laid (a := bornAt hp) (o := exo (bornAt hp) C none) (t' := tk) (h' := born hp C us) ?_ ?_ ?_
  · intro b o h; exact born_old h
  · exact Nat.le_succ _
  · exact exo_ok born_new
end
section
variable {X : Cx} {x : Str} {e : Expr} {es : List Expr} {ta : TA} {p pos : Pos} {C fI : Addr} {k : Nat} {fd : FuncData} {ps : List Str} {sp : Sp} {CX : CXT}
/-- calling the class with values us: the exception is made by its own __init__ -/
theorem oexN_call (T : OexC X.K C) (iC : PySem.W.findIn X.K (.ref C) "__init__" = some (some (.ref fI))) (tI : PySem.W.typeIn X.K (.ref fI) = some (.type "function")) (FI : FnOk X.prog X.w X.K X.mg X.base CX k fI fd ps sp) (room : Room (k + 1) X.A) (bI : L2.Binds X.K fd ps [])
    (px : L2.Passes CX X (fun _ _ _ => False)) {pins : List (Addr × Obj)} {σ : L2.St} {H : Hp} {s : Shared} {us : List Value} {vs : List V} {Q : XK} (I : L2.Inv X pins σ H s) (rv : L2.Vals vs us) (few : vs.length ≤ 1000)
    (want : ∀ a, H a = none → sp (.ref a :: vs) (upd H a (exo a C none))
      (fun v G => v = .non ∧ ∃ (d : Addr) (fs : List (Str × V)), G a = some (exo a C (some d)) ∧ G d = some (exd d fs) ∧ H d = none ∧ Q (.ref C) (some d) (upd (del G a) d (.xd fs))) (fun _ _ _ => False)) :
    wpAny (model X.prog X.w) X.A (call (.ref C) us) (L2N.MkP X pins σ Q) X.xe s := by
  cases s with
  | mk hp g dr tk os =>
  have here := want (bornAt hp) (born_free I)
  have J : L2.Inv X pins σ (upd H (bornAt hp) (exo (bornAt hp) C none)) ⟨born hp C us, g, dr, tk, os⟩ := born_inv I
  have rv1 : L2.Vals (V.ref (bornAt hp) :: vs) (Value.ref (bornAt hp) :: us) := .cons rfl rv
  have nargs : (Value.ref (bornAt hp) :: us).length = ps.length := rv1.length.symm.trans (FI.len _ _ _ _ here)
  have nus : us.length ≤ sizeLine := by have z := rv.length; have y := sizeLine_eq; omega
  have bnd := bI ⟨born hp C us, g, dr, tk, os⟩ (Value.ref (bornAt hp) :: us) J.kIn (by simpa using nargs)
  simp only [List.append_nil] at bnd
  obtain ⟨_, _, _, _, bm, _, _, _, _, _, _, _, _, _, _, atC, bases⟩ := T.cls
  have init := FI.run (X.A.under (.builtin "type.__call__" ⟨.ref C :: us, []⟩)) X.stack _ _ ⟨Value.ref (bornAt hp) :: us, []⟩ _ _ _ (fun _ _ _ => False) (room.make C us []) (J.env0.make C us []) bnd rv1 here
  refine wpAny_call (PySem.HandSPX.call_own F.excBase_ValueError (fun Y => PySem.HandSPX.refsVE_contains Y bm bases) (I.kIn _ _ atC) (PySem.W.looks_findIn I.kIn iC) (fun self => PySem.W.bind_fn I.kIn self tI) nus (codeAny_mono init ?_))
  intro res s2 got
  match res, got with
  | .error er, got => exact px pins σ _ _ er s2 J got
  | .ok (.ret u), got =>
    obtain ⟨v, G, osG, bareG, unG, hokG, ru, isN, d, fs, atE, atD, dNew, fin⟩ := got
    subst isN
    cases s2 with
    | mk h2 g2 d2 t2 o2 =>
    obtain ⟨_, B, K2, keepB, goneB, objE, noE⟩ := mk_end0 (d2 := d2) (t2 := t2) I (Nat.le_succ _) (fun b o h => born_old h) unG hokG osG bareG atE atD dNew
    refine ⟨ru, bornAt hp, _, _, ⟨B, g2, d2, t2, o2⟩, _, .ref C, some d, rfl, K2, keepB, goneB, objE, ⟨rfl, rfl, ?_⟩, rfl, rfl, noE, rfl, bareG, raises_own T.exC T.tyC, fin⟩
    intro fields is
    cases is; rfl
  | .ok .next, got => exact got.elim
  | .ok .brk, got => exact got.elim
  | .ok .cont, got => exact got.elim
theorem pmk_oexN (T : OexC X.K C) (iC : PySem.W.findIn X.K (.ref C) "__init__" = some (some (.ref fI))) (tI : PySem.W.typeIn X.K (.ref fI) = some (.type "function")) (FI : FnOk X.prog X.w X.K X.mg X.base CX k fI fd ps sp) (room : Room (k + 1) X.A) (bI : L2.Binds X.K fd ps [])
    (px : L2.Passes CX X (fun _ _ _ => False)) (hg : Gl X x) (hm : X.mg x = some (.ref C)) (ha : PA X (e :: es) ta) (hdb : (x == ("__debug__" : Str)) = false := by decide)
    (st : starEach (e :: es) X.env = (false, eval e X.env) :: starEach es X.env := by rfl) (pl : (backTo pos (starEach es X.env)).any (·.1) = false := by rfl) : L2N.PMk X (.Call (.Name x p) (e :: es) [] pos) (tMkO C sp [] ta) := by
  intro pins s σ H Q I h
  have step := ha.run pos pins s σ H _ I h
  refine wpAny_Call_Name_kw (ld_glob I hg hm (PySem.W.callWith_K (h₀ := X.base) I.ok.mod.kin T.kC (thn step fun us s1 got => ?_) st pl) hdb)
  obtain ⟨vs, H1, I1, rv, few, want⟩ := got
  simp only [List.append_nil] at want
  exact ⟨I1.kIn, oexN_call T iC tI FI room bI px I1 rv few want⟩
end
end Rt
set_option Elab.async false
set_option linter.all false
set_option maxRecDepth 100000
set_option maxHeartbeats 4000000
/-! Readings step by step: one lemma a construct, its conclusion the construct's reading. -/
namespace Rt
open PySem PySem.Spec L2
open PyProof.Rows (envOfC)
abbrev St0 := L2.St

/-! ### heaps that grow -/
theorem _root_.L2.Same.new {H : Hp} {p : Addr} {o : HO} (h : H p = none) : Same H (upd H p o) := fun a u e => by
  rw [upd_ne (ne_of_none e h)]; exact e
theorem _root_.L2.Same.newS {H H' : Hp} {p : Addr} {o : HO} (s : Same H H') (h : H' p = none) : Same H (upd H' p o) := s.trans (Same.new h)
theorem _root_.L2.Same.mut {H H' : Hp} {p : Addr} {o : HO} (s : Same H H') (h : H p = none) : Same H (upd H' p o) := fun a u e => by
  rw [upd_ne (ne_of_none e h)]; exact s a u e
theorem _root_.L2.Same.tup {K : PySem.W.Frag} {H H' : Hp} {a : Addr} {xs : List V} (e : Same H H') (h : SqT K H a xs) : SqT K H' a xs := by
  rcases h with (h | ⟨o, h⟩) | h
  · exact .inl (.inl (e _ _ h))
  · exact .inl (.inr ⟨o, e _ _ h⟩)
  · exact .inr h

section
variable {σ : L2.St} {H : Hp} {D : Ends} {Q : VK} {QT : Bool → Hp → Prop} {QA : List V → Hp → Prop} {QS : L2.St → Hp → Prop} {ta tb tc te : TE} {t u : TS} {tt uu : TT} {QO : Option Int → Hp → Prop} {v x y : V} {r r' : R2} {i : Nat} {K : PySem.W.Frag} {aa : TA}
theorem g_seq (h : t { D with nx := u D } σ H) : tSeq t u D σ H := h
theorem g_next (h : D.nx σ H) : tNext D σ H := h
theorem g_asg {g : TG} (h : te σ H fun x H1 => g x σ H1 D.nx) : tAsg te g D σ H := h
theorem g_name (h : QS (σ.set i (some v)) H) : gName i v σ H QS := h
theorem g_drop (h : te σ H fun _ H1 => D.nx σ H1) : tDrop te D σ H := h
theorem g_ret (h : te σ H D.rt) : tRet te D σ H := h
theorem g_retN (h : D.rt .non H) : tRetN D σ H := h
theorem g_brk (h : D.bk σ H) : tBreak D σ H := h
theorem g_ct (h : D.ct σ H) : tCont D σ H := h
theorem g_if (h : tt σ H fun b H1 => if b = true then t D σ H1 else u D σ H1) : tIfS tt t u D σ H := h
theorem g_var (e : σ[i]? = some (some v)) (h : Q v H) : tVar i σ H Q := ⟨v, e, h⟩
theorem g_c (h : Q v H) : tC v σ H Q := h
theorem g_op (h : ta σ H fun x H1 => tb σ H1 fun y H2 => r x y H2 Q) : tOp r ta tb σ H Q := h
theorem g_un {f : V → Hp → VK → Prop} (h : ta σ H fun x H1 => f x H1 Q) : tUn f ta σ H Q := h
theorem g_I0 {g : Int → Int → V} {a b : Int} (h : Q (g a b) H) : rI0 g (.int a) (.int b) H Q := ⟨a, b, rfl, rfl, h⟩
theorem g_I {C : Int → Int → Prop} {g : Int → Int → V} {a b : Int} (c : C a b) (h : Q (g a b) H) : rI C g (.int a) (.int b) H Q := ⟨a, b, rfl, rfl, c, h⟩
theorem g_U {g : Int → V} {a : Int} (h : Q (g a) H) : rU g (.int a) H Q := ⟨a, rfl, h⟩
theorem dec_I {a b : Int} : decide (V.int a = V.int b) = decide (a = b) := by
  by_cases h : a = b
  · subst h; rw [decide_eq_true rfl, decide_eq_true rfl]
  · rw [decide_eq_false h, decide_eq_false (fun z => h (by injection z))]
theorem dec_B {a b : Bool} : decide (V.bl a = V.bl b) = decide (a = b) := by
  by_cases h : a = b
  · subst h; rw [decide_eq_true rfl, decide_eq_true rfl]
  · rw [decide_eq_false h, decide_eq_false (fun z => h (by injection z))]
theorem g_eqI {a b : Int} (h : Q (.bl (decide (a = b))) H) : rEq (.int a) (.int b) H Q := ⟨rfl, by rw [dec_I]; exact h⟩
theorem g_neI {a b : Int} (h : Q (.bl (!decide (a = b))) H) : rNe (.int a) (.int b) H Q := ⟨rfl, by rw [dec_I]; exact h⟩
theorem g_eqB {a b : Bool} (h : Q (.bl (decide (a = b))) H) : rEq (.bl a) (.bl b) H Q := ⟨rfl, by rw [dec_B]; exact h⟩
theorem g_neB {a b : Bool} (h : Q (.bl (!decide (a = b))) H) : rNe (.bl a) (.bl b) H Q := ⟨rfl, by rw [dec_B]; exact h⟩
theorem g_test (h : te σ H fun x H' => ∃ k, x = .bl k ∧ QT k H') : tTest te σ H QT := h
theorem g_tB (h : te σ H fun x H' => ∃ k, x = .bl k ∧ QT k H') : tB te σ H QT := h
theorem g_bl {b : Bool} {R : Bool → Prop} (h : R b) : ∃ k, V.bl b = .bl k ∧ R k := ⟨b, rfl, h⟩
theorem g_and (h : tt σ H fun c H1 => if c = true then uu σ H1 QT else QT false H1) : tAnd tt uu σ H QT := h
theorem g_or (h : tt σ H fun c H1 => if c = true then QT true H1 else uu σ H1 QT) : tOr tt uu σ H QT := h
theorem g_not (h : tt σ H fun c H1 => QT (!c) H1) : tNot tt σ H QT := h
theorem g_andV (h : ta σ H fun x H1 => ∃ c, x = .bl c ∧ if c = true then tb σ H1 Q else Q (.bl false) H1) : tAndV ta tb σ H Q := h
theorem g_orV (h : ta σ H fun x H1 => ∃ c, x = .bl c ∧ if c = true then Q (.bl true) H1 else tb σ H1 Q) : tOrV ta tb σ H Q := h
theorem g_notV (h : ta σ H fun x H1 => ∃ c, x = .bl c ∧ Q (.bl (!c)) H1) : tNotV ta σ H Q := h
theorem g_ifE (h : tt σ H fun c H1 => if c = true then ta σ H1 Q else tb σ H1 Q) : tIf tt ta tb σ H Q := h
theorem g_nil (h : QA [] H) : tNil σ H QA := h
theorem g_cons (h : te σ H fun x H1 => aa σ H1 fun xs H2 => QA (x :: xs) H2) : tCons te aa σ H QA := h
def NewL (xs : List V) (H : Hp) (Q : VK) : Prop := xs.length ≤ sizeLine ∧ ∀ p, H p = none → Q (.ref p) (upd H p (.lst xs))
def NewT (xs : List V) (H : Hp) (Q : VK) : Prop := xs.length ≤ sizeLine ∧ ∀ p, H p = none → Q (.ref p) (upd H p (.tup xs))
theorem g_lst (h : aa σ H fun xs H1 => NewL xs H1 Q) : tLst aa σ H Q := h
theorem g_tup (h : aa σ H fun xs H1 => NewT xs H1 Q) : tTup aa σ H Q := h
theorem newL {xs : List V} (h : ∀ p H', H p = none → Same H H' → H' p = some (.lst xs) → Q (.ref p) H') (sz : xs.length ≤ sizeLine := by first | decide | (simp only [List.length_cons, List.length_nil]; decide)) : NewL xs H Q := ⟨sz, fun p np => h p _ np (Same.new np) upd_same⟩
theorem newT {xs : List V} (h : ∀ p H', H p = none → Same H H' → H' p = some (.tup xs) → Q (.ref p) H') (sz : xs.length ≤ sizeLine := by first | decide | (simp only [List.length_cons, List.length_nil]; decide)) : NewT xs H Q := ⟨sz, fun p np => h p _ np (Same.new np) upd_same⟩
theorem g_part (h : te σ H fun x H1 => ∃ i, x = .int i ∧ QO (some i) H1) : tPart te σ H QO := h
theorem g_nopart (h : QO none H) : tNoPart σ H QO := h
theorem g_cb {f : List V → Hp → VK → Prop} (h : aa σ H fun vs H1 => f vs H1 Q) : tCB f aa σ H Q := h
theorem g_call {sp : Sp} {E : XK} (h : aa σ H fun vs H1 => sp vs H1 Q E) : tCall sp [] E aa σ H Q := by
  have e : (fun vs H1 => sp (vs ++ []) H1 Q E) = fun vs H1 => sp vs H1 Q E := by funext vs H1; rw [List.append_nil]
  show aa σ H fun vs H1 => sp (vs ++ []) H1 Q E
  rw [e]; exact h
theorem g_callS {sp : Sp} {E : L2.St → XK} (h : aa σ H fun vs H1 => sp vs H1 Q (E σ)) : tCallS sp E aa σ H Q := h
theorem g_fld {f : Str} (h : ta σ H fun x H1 => ∃ a C dx fs v, x = .ref a ∧ H1 a = some (.ins C dx fs) ∧ Cls K C ∧ NoAttr K C f ∧ fs.lookup f = some v ∧ Q v H1) : tFld K ta f σ H Q := h
theorem g_bm {T : String} {f : V → List V → Hp → VK → Prop} (h : ta σ H fun x H1 => tyV K T x H1 ∧ aa σ H1 fun xs H2 => f x xs H2 Q) : tBM K T f ta aa σ H Q := h
theorem g_isN (h : Q (.bl (decide (x = .non))) H) : (fun x y H Q => y = .non ∧ Q (.bl (decide (x = .non))) H : R2) x .non H Q := ⟨rfl, h⟩
theorem g_rng1 {a b : Nat} {R : It → Hp → Prop} {n : Int} (h1 : -(2 ^ 62) ≤ n) (h2 : n < 2 ^ 62) (h : R (Itr 0 n.toNat) H) : ∃ j : Int, [V.int n] = [V.int j] ∧ -(2 ^ 62) ≤ j ∧ j < 2 ^ 62 ∧ R (Itr 0 j.toNat) H := ⟨n, rfl, h1, h2, h⟩
theorem g_chain {r r' : R2} (h : ta σ H fun x H1 => tb σ H1 fun y H2 => r x y H2 fun z H3 => ∃ k, z = .bl k ∧ (if k = true then tc σ H3 fun w' H4 => r' y w' H4 Q else Q (.bl false) H3)) : tChain r r' ta tb tc σ H Q := h
theorem g_int {n : Int} {R : Int → Prop} {S : Bool → Prop} (h : R n) : (∃ i, [V.int n] = [V.int i] ∧ R i) ∨ ∃ k, [V.int n] = [V.bl k] ∧ S k := .inl ⟨n, rfl, h⟩
theorem g_itt {c : Bool} {A B : Prop} (e : c = true) (h : A) : if c = true then A else B := by rw [if_pos e]; exact h
theorem g_iff {c : Bool} {A B : Prop} (e : c = false) (h : B) : if c = true then A else B := by rw [e]; exact h
theorem g_ite {c : Bool} {A B : Prop} (h1 : c = true → A) (h2 : c = false → B) : if c = true then A else B := by
  cases e : c with
  | true => exact h1 e
  | false => exact h2 e
theorem g_isi {t n : String} {b : Bool} (ty : TyX K H x (.type t)) (kb : kitB t n = some b) (h : Q (.bl b) H) : rIsi K [x, .ty n] H Q := ⟨x, .ty n, _, _, b, rfl, .ty n, ty, kit_ty kb, h⟩
theorem g_len {ys : List V} {a : Addr} {R : Int → Prop} {G : Addr → List V → Prop} (hs : G a ys) (h : R (ys.length : Int)) : ∃ p zs, [V.ref a] = [V.ref p] ∧ G p zs ∧ R (zs.length : Int) := ⟨a, ys, rfl, hs, h⟩
theorem g_aug {ti : TIp} {z : V} (e : σ[i]? = some (some z)) (h : te σ H fun y H1 => ti z y H1 fun z H2 => D.nx (σ.set i (some z)) H2) : tAug i te ti D σ H := ⟨z, e, h⟩
theorem g_ipI {f : Int → Int → Int} {a b : Int} (h : Q (.int (f a b)) H) : ipI f (.int a) (.int b) H Q := ⟨a, b, rfl, rfl, h⟩
theorem g_sl {f : V → Option Int → Option Int → Hp → VK → Prop} {tl th : TO} (h : te σ H fun x H1 => tl σ H1 fun l H2 => th σ H2 fun u H3 => f x l u H3 Q) : tSl f te tl th σ H Q := h
end
theorem g_for {σ : L2.St} {H : Hp} {D : Ends} {wi : TI} {g : TG} {tb : TS} (h : wi σ H fun J H1 => ∃ W : Nat → Nat → L2.St → Hp → Prop, (∃ m, W 0 m σ H1) ∧ ∀ i m σ H, W i m σ H →
    (J.stop i H ∧ D.nx σ H) ∨ (J.go i H ∧ ∃ N : L2.St → Hp → Prop, (∀ σ' H', N σ' H' → ∃ m', m' < m ∧ W (i + 1) m' σ' H') ∧ ∀ x H', J.yld i H x H' → g x σ H' fun σ2 H2 => tb { D with nx := N, ct := N, bk := D.nx } σ2 H2)) : tFor wi g tb D σ H := h
theorem g_rg1 {σ : L2.St} {H : Hp} {aa : TA} {R : It → Hp → Prop} (h : aa σ H fun vs H1 => ∃ j : Int, vs = [.int j] ∧ -(2 ^ 62) ≤ j ∧ j < 2 ^ 62 ∧ R (Itr 0 j.toNat) H1) : iRng1 aa σ H R := h
theorem g_rg2 {σ : L2.St} {H : Hp} {aa : TA} {R : It → Hp → Prop} (h : aa σ H fun vs H1 => ∃ i j : Int, vs = [.int i, .int j] ∧ (-(2 ^ 62) ≤ i ∧ i < 2 ^ 62 ∧ -(2 ^ 62) ≤ j ∧ j < 2 ^ 62) ∧ R (Itr i (j - i).toNat) H1) : iRng2 aa σ H R := h
theorem g_il {σ : L2.St} {H : Hp} {K : PySem.W.Frag} {tl : TE} {R : It → Hp → Prop} (h : tl σ H fun x H1 => ∃ a, x = .ref a ∧ (∃ xs, SqL K H1 a xs) ∧ R (Itl K a) H1) : iList K tl σ H R := h
theorem g_it {σ : L2.St} {H : Hp} {K : PySem.W.Frag} {tl : TE} {R : It → Hp → Prop} (h : tl σ H fun x H1 => ∃ a, x = .ref a ∧ (∃ xs, SqT K H1 a xs) ∧ R (Itt K a) H1) : iTup K tl σ H R := h
theorem g_lc {σ : L2.St} {H : Hp} {wi : TI} {g : TG} {tt : TT} {te : TE} {vs : List Nat} {Q : VK} (h : wi σ H fun J H1 => ∀ D, H1 D = none → ∃ W : Nat → Nat → Hp → Prop, (∃ m, W 0 m (upd H1 D (.lst []))) ∧ ∀ i m H, W i m H →
    (J.stop i H ∧ Q (.ref D) H) ∨ (J.go i H ∧ ∃ Nx : Hp → Prop, (∀ H', Nx H' → ∃ m', m' < m ∧ W (i + 1) m' H') ∧ ∀ x H', J.yld i H x H' → g x (wipe σ vs) H' fun σ2 H2 => wipe σ2 vs = wipe σ vs ∧ tt σ2 H2 fun b H3 =>
      if b = true then te σ2 H3 fun y H4 => ∃ acc, H4 D = some (.lst acc) ∧ acc.length < sizeLine ∧ Nx (upd H4 D (.lst (acc ++ [y]))) else Nx H3)) : tLc wi g tt te vs σ H Q := h
theorem g_yes {σ : L2.St} {H : Hp} {QT : Bool → Hp → Prop} (h : QT true H) : tYes σ H QT := h
theorem g_ixL {K : PySem.W.Frag} {H : Hp} {p : Addr} {xs : List V} {i : Int} {v : V} {Q : VK} (hs : SqL K H p xs) (ha : atI xs i = some v) (h : Q v H) : rIxL K (.ref p) (.int i) H Q := ⟨p, xs, i, v, rfl, rfl, hs, ha, h⟩
theorem g_ixT {K : PySem.W.Frag} {H : Hp} {p : Addr} {xs : List V} {i : Int} {v : V} {Q : VK} (hs : SqT K H p xs) (ha : atI xs i = some v) (h : Q v H) : rIxT K (.ref p) (.int i) H Q := ⟨p, xs, i, v, rfl, rfl, hs, ha, h⟩
theorem g_app {H : Hp} {l : Addr} {xs : List V} {y : V} {Q : VK} (h : H l = some (.lst xs)) (sz : xs.length < sizeLine) (q : Q .non (upd H l (.lst (xs ++ [y])))) : rAppend (.ref l) [y] H Q := ⟨l, xs, y, rfl, rfl, h, sz, q⟩
theorem ty_l {K : PySem.W.Frag} {H : Hp} {l : Addr} {xs : List V} (h : H l = some (.lst xs)) : tyV K "list" (.ref l) H := .inl ⟨rfl, _, SqL.of h⟩
theorem map_app {ds : List Int} {d : Int} : ds.map V.int ++ [V.int d] = (ds ++ [d]).map V.int := by rw [List.map_append]; rfl
theorem g_nn {R : Prop} (h : R) : V.non = V.non ∧ R := ⟨rfl, h⟩
theorem g_ifset {D : Ends} {σ : L2.St} {H : Hp} {te : TE} {i : Nat} {b : Bool} (x old : V) (ho : σ[i]? = some (some old)) (ht : ∀ Q : VK, Q x H → te σ H Q) (h : D.nx (σ.set i (some (if b = true then x else old))) H) : if b = true then tAsg te (gName i) D σ H else tNext D σ H := by
  cases b with
  | true => rw [if_pos rfl]; exact ht _ h
  | false =>
    rw [if_neg Bool.false_ne_true]
    rw [if_neg Bool.false_ne_true] at h
    have e : σ.set i (some old) = σ := by
      obtain ⟨hi, e⟩ := List.getElem?_eq_some_iff.mp ho
      rw [← e]; exact List.set_getElem_self hi
    rw [e] at h; exact h
theorem ite_int {b : Bool} {m n : Int} : (if b = true then V.int m else V.int n) = V.int (if b = true then m else n) := by cases b <;> rfl
theorem g_oi {n : Int} {R : Int → Prop} (h : R n) : ∃ i, V.int n = .int i ∧ R i := ⟨n, rfl, h⟩
theorem g_cat {H : Hp} {Q : VK} {l b : Addr} {xs zs : List Int} (h1 : H l = some (.lst (xs.map V.int))) (h2 : H b = some (.lst (zs.map V.int))) (sz : xs.length + zs.length ≤ 100000)
    (h : ∀ p H', H p = none → Same H H' → H' p = some (.lst ((xs ++ zs).map V.int)) → Q (.ref p) H') : rCat (.ref l) (.ref b) H Q :=
  ⟨l, b, _, _, rfl, rfl, h1, h2, by rw [List.length_map, List.length_map]; rw [sizeLine_eq]; omega, fun p np => h p _ np (L2.Same.new np) (by rw [upd_same, List.map_append])⟩
/-! ### items -/
theorem at_int {ss : List Int} {o : Nat} (h : o < ss.length) : atI (ss.map V.int) (o : Int) = some (.int (ss.getD o 0)) := by
  refine atI_nat ?_
  rw [List.getElem?_map, List.getElem?_eq_getElem h, List.getD_eq_getElem?_getD, List.getElem?_eq_getElem h]; rfl

theorem getD_app {l : List Int} {v : Int} {i : Nat} : (l ++ [v]).getD i 0 = if i < l.length then l.getD i 0 else if i = l.length then v else 0 := by
  rw [List.getD_eq_getElem?_getD]
  by_cases h : i < l.length
  · rw [List.getElem?_append_left h, if_pos h, List.getD_eq_getElem?_getD]
  · rw [if_neg h, List.getElem?_append_right (by omega)]
    by_cases h2 : i = l.length
    · subst h2; simp
    · rw [if_neg h2, List.getElem?_eq_none (by simp; omega)]; rfl
theorem sl1000 {n : Nat} (h : n ≤ 100000) : n ≤ sizeLine := by rw [sizeLine_eq]; omega
theorem slt1000 {n : Nat} (h : n ≤ 100000) : n < sizeLine := by rw [sizeLine_eq]; omega
/-! ### exceptions whose context is None, short -/
theorem takes_ofN {X : Cx} {E : XK} (hs : X.stack = X.env :: X.outer) (hf : X.env.frame = some X.env.locals) (hex : X.ex = []) {E₁ : Value → Shared → Prop}
    (hx : X.xe = fun e s' => wpAny (model X.prog X.w) X.A (leaving X.env e) (fun _ s'' => L2N.CX X.prog X.w X.outer X.H_0 X.s_0 E e s'') E₁ s') : L2N.Takes X (fun cls d _ H => E cls d H) := L2N.takes_of hs hf hex hx
theorem passes_callN {X : Cx} {E : XK} (tk : L2N.Takes X (fun cls d _ H => E cls d H)) : L2.Passes (L2N.CX X.prog X.w) X E := L2N.passes_call tk (fun _ _ _ _ h => h)
theorem passN {X : Cx} : L2.Passes (L2N.CX X.prog X.w) X E0 := fun _ _ _ _ _ _ _ h => by
  obtain ⟨_, _, _, _, _, _, _, _, _, _, _, _, z⟩ := h
  exact z.elim
theorem takes0N {X : Cx} : L2N.Takes X (fun _ _ _ _ => False) := fun _ _ x => by
  obtain ⟨_, _, _, _, _, _, _, _, _, _, _, _, _, _, _, _, z⟩ := x
  exact z.elim
theorem pass0S {X : Cx} {σ : L2.St} {E : XK} : PassesAt CX0 X σ E := fun _ _ _ _ _ _ h => h.elim
theorem passes_ofN {X : Cx} {K : Value → Shared → Prop} {E₁ : Value → Shared → Prop} (hx : X.xe = fun e s' => wpAny (model X.prog X.w) X.A (leaving X.env e) (fun _ s'' => K e s'') E₁ s') : PassesOwn (model X.prog X.w) X.A X.env X.xe := passes_of hx
/-- as Fun.ok, for a def that may raise; the context of what is raised is None -/
theorem okN {P : Program} {w : World} {K : PySem.W.Frag} {mg : Str → Option Value} {base : Heap} {x qual : Str} {st : Stmt} {f : Addr} {fd : FuncData} {N ps : List Str} {k : Nat} {sp : Sp} (F : Fun K x qual st f fd) (S : FnScope N ps (defScope st)) (len : ∀ vs H Q E, sp vs H Q E → vs.length = ps.length)
    (hbody : ∀ (cdv : Value) (A : Around) (outer : List Env) (s : Shared) (H : Hp) (vs : List V) (Q : VK) (E : XK), Room k (A.deeper (envOfC qual (defScope st) s.heap.objs.size f cdv)) → sp vs H Q E →
      ∃ t, PSs (cxOf (L2N.CX P w) P w K mg base N qual (defScope st) f cdv A outer s H E) (defBody st) t ∧ t { nx := fun _ H' => Q .non H', rt := Q } (L2.start N vs) H) : FnOk P w K mg base (L2N.CX P w) (k + 1) f fd ps sp := by
  obtain ⟨oc, od, kV, doc, pm, an, cdv, ct, osl, rfl, lk, hcd⟩ := F.ex
  exact fn_of lk hcd S len fun A outer s H vs Q E hr hsp => hbody cdv A outer s H vs Q E hr hsp
/-- .. called within an except suite; nothing leaves it -/
theorem okH {P : Program} {w : World} {K : PySem.W.Frag} {mg : Str → Option Value} {base : Heap} {x qual : Str} {st : Stmt} {f : Addr} {fd : FuncData} {N ps : List Str} {k : Nat} {sp : Sp} (F : Fun K x qual st f fd) (S : FnScope N ps (defScope st)) (len : ∀ vs H Q E, sp vs H Q E → vs.length = ps.length)
    (hbody : ∀ (cdv : Value) (A : Around) (outer : List Env) (s : Shared) (H : Hp) (vs : List V) (Q : VK) (E : XK) (p : Addr × Obj), L2H.Hot1 A p → L2H.RoomH k (A.deeper (envOfC qual (defScope st) s.heap.objs.size f cdv)) → sp vs H Q E →
      ∃ t, PSs (L2H.cxH CX0 P w K mg base N qual (defScope st) f cdv A outer s H E p) (defBody st) t ∧ t { nx := fun _ H' => Q .non H', rt := Q } (L2.start N vs) H) : L2H.FnH P w K mg base CX0 (k + 1) f fd ps sp := by
  obtain ⟨oc, od, kV, doc, pm, an, cdv, ct, osl, rfl, lk, hcd⟩ := F.ex
  exact L2H.fn_ofH lk hcd S len fun A outer s H vs Q E p hot hr hsp => hbody cdv A outer s H vs Q E p hot hr hsp
structure DefOkH (P : Program) (w : World) (K : PySem.W.Frag) (mg : Str → Option Value) (base : Heap) (CX : CXT) (k : Nat) (x : Str) (ps : List Str) (sp : Sp) : Prop where
  ex : ∃ (f : Addr) (fd : FuncData), mg x = some (.ref f) ∧ PySem.W.keepIn K (.ref f) = true ∧ L2H.FnH P w K mg base CX k f fd ps sp ∧ L2.Binds K fd ps []
theorem pe_callHD {X : Cx} {CX : CXT} {k : Nat} {x : Str} {ps : List Str} {sp : Sp} {E : L2.St → XK} {p pos : Pos} {e : Expr} {es : List Expr} {t : TA} (D : DefOkH X.prog X.w X.K X.mg X.base CX k x ps sp) (hr : L2H.RoomH k X.A) (hc : L2H.HotC X) (hx : ∀ σ : L2.St, PassesAt CX X σ (E σ)) (ha : PA X (e :: es) t) (hg : Gl X x := by rfl) (hdb : (x == ("__debug__" : Str)) = false := by decide)
    (he : starEach (e :: es) X.env = (false, eval e X.env) :: starEach es X.env := by rfl) (hpl : (backTo pos (starEach es X.env)).any (·.1) = false := by rfl) : PE X (.Call (.Name x p) (e :: es) [] pos) (tCallS sp E t) := by
  obtain ⟨f, fd, a, b, c, d⟩ := D.ex
  exact L2H.pe_callH c hr hc hg a b d hx ha hdb he hpl
theorem hotC_of {X : Cx} {a : Addr} {oe : Obj} {cls : Value} {d : Option Addr} {pn : List (Addr × Obj)} (hz : L2N.Zn cls d oe) (hf : ∃ vs, oe.data = .fields vs) : L2H.HotC (X.suite a ((a, oe) :: pn)) := by
  obtain ⟨vs, e⟩ := hf
  exact ⟨(a, oe), ⟨rfl, vs, e, hz.2.2 vs e⟩, List.mem_cons_self⟩

/-! ### own exceptions with one field; len, making of an instance: by what is known of the def -/
def spExc1 (K : PySem.W.Frag) (C : Addr) (fld : Str) : Sp := fun vs H Q _ => ∃ (a : Addr) (v : V), vs = [.ref a, v] ∧ H a = some (exo a C none) ∧ OexC K C ∧ PySem.W.findIn K (.ref C) fld = some none ∧
  ∀ dx : Addr, H dx = none → dx ≠ a → Q .non (upd (upd H dx (exd dx [(fld, v)])) a (exo a C (some dx)))
structure ExcDef (P : Program) (w : World) (K : PySem.W.Frag) (mg : Str → Option Value) (base : Heap) (x : Str) (C : Addr) (fld : Str) : Prop where
  ex : ∃ (fI : Addr) (fd : FuncData), OexC K C ∧ PySem.W.findIn K (.ref C) "__init__" = some (some (.ref fI)) ∧ PySem.W.typeIn K (.ref fI) = some (.type "function") ∧ FnOk P w K mg base CX0 1 fI fd ["self", fld] (spExc1 K C fld) ∧ L2.Binds K fd ["self", fld] [] ∧ mg x = some (.ref C) ∧ PySem.W.findIn K (.ref C) fld = some none
theorem pmk_D {X : Cx} {x : Str} {e : Expr} {es : List Expr} {ta : TA} {p pos : Pos} {C : Addr} {fld : Str} (D : ExcDef X.prog X.w X.K X.mg X.base x C fld) (hr : Room 2 X.A) (ha : PA X (e :: es) ta) (hg : Gl X x := by rfl)
    (hdb : (x == ("__debug__" : Str)) = false := by decide) (he : starEach (e :: es) X.env = (false, eval e X.env) :: starEach es X.env := by rfl) (hpl : (backTo pos (starEach es X.env)).any (·.1) = false := by rfl) :
    L2N.PMk X (.Call (.Name x p) (e :: es) [] pos) (tMkO C (spExc1 X.K C fld) [] ta) := by
  obtain ⟨fI, fd, T, iC, tI, F, b, m, no⟩ := D.ex
  exact pmk_oexN T iC tI F hr b pass0 hg m ha hdb he hpl
def MkO (C : Addr) (sp : Sp) (vs : List V) (H1 : Hp) (Q : XK) : Prop := vs.length ≤ 1000 ∧ ∀ a, H1 a = none → sp (.ref a :: (vs ++ [])) (upd H1 a (exo a C none))
  (fun v H2 => v = .non ∧ ∃ (d : Addr) (fs : List (Str × V)), H2 a = some (exo a C (some d)) ∧ H2 d = some (exd d fs) ∧ H1 d = none ∧ Q (.ref C) (some d) (upd (del H2 a) d (.xd fs))) (fun _ _ _ => False)
theorem g_mko {C : Addr} {sp : Sp} {aa : TA} {σ : L2.St} {H : Hp} {Q : XK} (h : aa σ H fun vs H1 => MkO C sp vs H1 Q) : tMkO C sp [] aa σ H Q := h
theorem mk1 {K : PySem.W.Frag} {C : Addr} {fld : Str} {v : V} {H : Hp} {Q : XK} (T : OexC K C) (no : PySem.W.findIn K (.ref C) fld = some none)
    (h : ∀ d H', H d = none → Same H H' → H' d = some (.xd [(fld, v)]) → Q (.ref C) (some d) H') : MkO C (spExc1 K C fld) [v] H Q := by
  refine ⟨by simp, fun a na => ⟨a, v, rfl, upd_same, T, no, fun dx hdx ne => ⟨rfl, dx, [(fld, v)], upd_same, ?_, ?_, ?_⟩⟩⟩
  · rw [upd_ne ne, upd_same]
  · rw [upd_ne ne] at hdx; exact hdx
  · rw [upd_ne ne] at hdx
    refine h dx _ hdx (fun b o hb => ?_) upd_same
    have nb : b ≠ dx := ne_of_none hb hdx
    have na' : b ≠ a := ne_of_none hb na
    rw [upd_ne nb, del_ne na', upd_ne na', upd_ne nb, upd_ne na']
    exact hb
structure LenD (P : Program) (w : World) (K : PySem.W.Frag) (mg : Str → Option Value) (base : Heap) (C : Addr) (sp : Sp) : Prop where
  ex : ∃ (f : Addr) (fd : FuncData), LenC K C f ∧ FnOk P w K mg base CX0 1 f fd ["self"] sp ∧ L2.Binds K fd ["self"] []
theorem call_lenD {X : Cx} {C : Addr} {sp : Sp} (D : LenD X.prog X.w X.K X.mg X.base C sp) (hr : Room 2 X.A) : CallR X (.builtin "len") (rLenO C sp E0) := by
  obtain ⟨f, fd, a, b, c⟩ := D.ex
  exact call_lenO a b hr c pass0
structure CtorD (P : Program) (w : World) (K : PySem.W.Frag) (mg : Str → Option Value) (base : Heap) (CX : CXT) (k : Nat) (x : Str) (C : Addr) (n : Nat) (ks : List Str) (gV : List V → List V → List V) (sp : Sp) : Prop where
  ex : ∃ (f : Addr) (fd : FuncData) (ps : List Str) (g : List Value → List Value → List Value), mg x = some (.ref C) ∧ Mk K C f ∧ FnOk P w K mg base CX k f fd ps sp ∧ KBn K fd ps (n + 1) ks g gV
theorem pe_makeD {X : Cx} {CX : CXT} {k n : Nat} {C : Addr} {ks : List Str} {sp : Sp} {E : XK} {x : Str} {p pos : Pos} {e : Expr} {es : List Expr} {kws : List Keyword} {t tk : TA} {gV : List V → List V → List V}
    (D : CtorD X.prog X.w X.K X.mg X.base CX k x C n ks gV sp) (hr : Room (k + 1) X.A) (hx : L2.Passes CX X E) (ha : PA X (e :: es) t) (hkw : PK X kws tk) (hg : Gl X x := by rfl)
    (hall : (backToKw pos (keywordEach kws X.env)).all (·.1.isSome) = true := by rfl) (hks : (backToKw pos (keywordEach kws X.env)).filterMap (·.1) = ks := by rfl) (hdb : (x == ("__debug__" : Str)) = false := by decide)
    (he : starEach (e :: es) X.env = (false, eval e X.env) :: starEach es X.env := by rfl) (hpl : ((backTo pos (starEach (e :: es) X.env)).any (·.1) || (backToKw pos (keywordEach kws X.env)).any (·.1.isNone)) = false := by rfl) :
    PE X (.Call (.Name x p) (e :: es) kws pos) (tMakeK C n ks.length sp gV E t tk) := by
  obtain ⟨f, fd, ps, g, m, M, F, b⟩ := D.ex
  exact pe_makeK M F hr hg m b hx ha hkw hall hks hdb he hpl
def NewRg (a b : Int) (H : Hp) (Q : VK) : Prop := RgOk a b ∧ ∀ q, H q = none → Q (.ref q) (upd H q (.lst (rgV a b)))
theorem g_lrg {te : L2.St → Hp → (Int → Int → Hp → Prop) → Prop} {σ : L2.St} {H : Hp} {Q : VK} (h : te σ H fun a b H1 => NewRg a b H1 Q) : tLstRg te σ H Q := h
theorem g_tr1 {ta : TE} {σ : L2.St} {H : Hp} {Q : Int → Int → Hp → Prop} (h : ta σ H fun x H1 => ∃ n, x = .int n ∧ Q 0 n H1) : tRg1 ta σ H Q := h
theorem g_tr2 {ta tb : TE} {σ : L2.St} {H : Hp} {Q : Int → Int → Hp → Prop} (h : ta σ H fun x H1 => tb σ H1 fun y H2 => ∃ i j, x = .int i ∧ y = .int j ∧ Q i j H2) : tRg2 ta tb σ H Q := h
theorem g_oi2 {n m : Int} {R : Int → Int → Prop} (h : R n m) : ∃ i j, V.int n = .int i ∧ V.int m = .int j ∧ R i j := ⟨n, m, rfl, rfl, h⟩
theorem newRg {a b : Nat} {H : Hp} {Q : VK} (h0 : a ≤ 100000) (h1 : b ≤ 100000) (h : ∀ p H', H p = none → Same H H' → H' p = some (.lst ((List.range (b - a)).map fun i => V.int ((a + i : Nat) : Int))) → Q (.ref p) H') : NewRg (a : Int) (b : Int) H Q := by
  refine ⟨RgOk.of_le (by omega) (by omega) (by omega) (by omega), fun q nq => h q _ nq (L2.Same.new nq) ?_⟩
  rw [upd_same]
  unfold rgV
  rw [show ((b : Int) - (a : Int)).toNat = b - a by omega]
  have e : (fun i : Nat => V.int ((a : Int) + (i : Int))) = fun i : Nat => V.int ((a + i : Nat) : Int) := by funext i; rw [Int.natCast_add]
  rw [e]
def MakeK (C : Addr) (sp : Sp) (n m : Nat) (gV : List V → List V → List V) (E : XK) (vs zs : List V) (H2 : Hp) (Q : VK) : Prop := vs.length = n ∧ zs.length = m ∧ ∀ x dx, H2 x = none → H2 dx = none → dx ≠ x →
  sp (gV (.ref x :: vs) zs) (upd (upd H2 dx (.own x)) x (.ins C dx [])) (fun v H3 => v = .non ∧ Q (.ref x) H3) E
theorem g_mk {C : Addr} {n m : Nat} {sp : Sp} {gV : List V → List V → List V} {E : XK} {t tk : TA} {σ : L2.St} {H : Hp} {Q : VK} (h : t σ H fun vs H1 => tk σ H1 fun zs H2 => MakeK C sp n m gV E vs zs H2 Q) : tMakeK C n m sp gV E t tk σ H Q := h
theorem pmk_u {t : L2.St → Hp → XK → Prop} {W : WX} {D : Ends} {σ : L2.St} {H : Hp} (h : t σ H fun cls d H' => W cls d σ H') : (fun (_ : Ends) σ H => t σ H fun cls d H' => W cls d σ H') D σ H := h
theorem g_sfld {K : PySem.W.Frag} {ta tv : TE} {f : Str} {D : Ends} {σ : L2.St} {H : Hp} (h : tv σ H fun y H1 => ta σ H1 fun x H2 => ∃ a C dx fs, x = .ref a ∧ H2 a = some (.ins C dx fs) ∧ Cls K C ∧ NoAttr K C f ∧ fs.length < 1000 ∧ D.nx σ (upd H2 a (.ins C dx (putF f y fs)))) : sFld K ta tv f D σ H := h
theorem g_ost {K : PySem.W.Frag} {f : Str} {to te : TE} {D : Ends} {σ : L2.St} {H : Hp} (h : te σ H fun y H1 => to σ H1 fun x H2 => ∃ a C : Addr, x = .ref a ∧ OexC K C ∧ PySem.W.findIn K (.ref C) f = some none ∧
  ((H2 a = some (exo a C none) ∧ ∀ dx, H2 dx = none → dx ≠ a → D.nx σ (upd (upd H2 dx (exd dx [(f, y)])) a (exo a C (some dx)))) ∨
    ∃ (dx : Addr) (fs : List (Str × V)), H2 a = some (exo a C (some dx)) ∧ H2 dx = some (exd dx fs) ∧ fs.length ≤ 900 ∧ D.nx σ (upd H2 dx (exd dx ((f, y) :: fs))))) : tOst K f to te D σ H := h

/-! ### the rules with the written part named (within a comprehension it must not hang on the block) -/
section
variable {X : Cx} (K : PySem.W.Frag)
theorem ix_tupK (h : X.K = K := by rfl) : IxR X (rIxT K) := by subst h; exact ix_tup
theorem ix_listK (h : X.K = K := by rfl) : IxR X (rIxL K) := by subst h; exact ix_list
theorem ix_seqK (h : X.K = K := by rfl) : IxR X (rIx K) := by subst h; exact ix_seq
theorem sl_listK (h : X.K = K := by rfl) : SlR X (rSlL K) := by subst h; exact sl_list
theorem sl_tupK (h : X.K = K := by rfl) : SlR X (rSlA K) := by subst h; exact sl_tupA
theorem cr_sumK (hc : X.calm = true) (h : X.K = K := by rfl) : CallR X (.builtin "sum") (rSum K) := by subst h; exact cr_sum hc
theorem call_isiQ (h : X.K = K := by rfl) : CallR X (.builtin "isinstance") (rIsi K) := by subst h; exact call_isi
def rLenQ (K : PySem.W.Frag) : List V → Hp → VK → Prop := fun xs H Q => ∃ p ys, xs = [.ref p] ∧ (SqL K H p ys ∨ SqT K H p ys) ∧ Q (.int ys.length) H
def rListO (K : PySem.W.Frag) : List V → Hp → VK → Prop := fun xs H Q => ∃ p ys, xs = [.ref p] ∧ (SqL K H p ys ∨ SqT K H p ys) ∧ ∀ l, H l = none → Q (.ref l) (upd H l (.lst ys))
def rTupO (K : PySem.W.Frag) : List V → Hp → VK → Prop := fun xs H Q => ∃ p ys, xs = [.ref p] ∧ ((SqL K H p ys ∧ ∀ l, H l = none → Q (.ref l) (upd H l (.tup ys))) ∨ (SqT K H p ys ∧ Q (.ref p) H))
theorem call_lenK (h : X.K = K := by rfl) : CallR X (.builtin "len") (rLenQ K) := by subst h; exact call_len_seq
theorem call_listK (h : X.K = K := by rfl) : CallR X (.type "list") (rListO K) := by subst h; exact call_list_of
theorem call_tupleK (h : X.K = K := by rfl) : CallR X (.type "tuple") (rTupO K) := by subst h; exact call_tuple_of
theorem op_repTK (h : X.K = K := by rfl) : OpR X (binaryOp .Mult) (rRepT K) := by subst h; exact op_repT
theorem op_catTK (h : X.K = K := by rfl) : OpR X (binaryOp .Add) (rCatT K) := by subst h; exact op_catT
theorem op_eqDK (hu : X.A.units + 64 < cLine) (h : X.K = K := by rfl) : OpR X (compareOp .Eq) (rEqD K) := by subst h; exact op_eqD hu
theorem op_neDK (hu : X.A.units + 64 < cLine) (h : X.K = K := by rfl) : OpR X (compareOp .NotEq) (rNeD K) := by subst h; exact op_neD hu
variable {e o l : Expr} {te ta tv tl : TE} {f : Str} {pos pos' apos cpos : Pos} {tg : Expr} {es : List Expr} {t : TA} {T id : String} {r : V → List V → Hp → VK → Prop} {name : Str} {value : Expr}
theorem pe_fldK (he : PE X e ta) (hb : attributeBase e f X.env (eval e X.env) = eval e X.env) (h : X.K = K := by rfl) : PE X (.Attribute e f pos) (tFld K ta f) := by subst h; exact pe_fld he hb
theorem pi_listK (hl : PE X l tl) (h : X.K = K := by rfl) : PI X tg l (iList K tl) := by subst h; exact pi_list hl
theorem pi_tupK (hl : PE X l tl) (h : X.K = K := by rfl) : PI X tg l (iTup K tl) := by subst h; exact pi_tup hl
theorem ps_fldK (ha : PE X o ta) (hv : PE X value tv) (hs : swapsWith value (some (.Attribute o f pos')) pos.line X.env = pure false) (h : X.K = K := by rfl) : PS X (.Assign [.Attribute o f pos'] value pos) (sFld K ta tv f) := by subst h; exact ps_fld ha hv hs
theorem ps_ostK (ho : PE X o ta) (he : PE X e te) (hs : swapsWith e (some (.Attribute o f pos')) pos.line X.env = pure false := by rfl) (h : X.K = K := by rfl) : PS X (.Assign [.Attribute o f pos'] e pos) (tOst K f ta te) := by subst h; exact ps_ost ho he hs
theorem pe_appK {e : Expr} (ho : PE X o ta) (ha : PA X (e :: es) t) (h : X.K = K := by rfl)
    (hbase : attributeBase o "append" X.env (eval o X.env) = eval o X.env := by rfl)
    (hfew : ((backTo cpos (starEach (e :: es) X.env)).all (fun x => !x.1) && (backToKw cpos (keywordEach [] X.env)).all (fun x => x.1.isSome)
      && decide ((e :: es).length + ([] : List Keyword).length + (if ([] : List Keyword).isEmpty then 0 else 1) < 30)) = true := by rfl)
    (hline : (apos.endLine == cpos.line) = true := by rfl) (hs : starEach (e :: es) X.env = (false, eval e X.env) :: starEach es X.env := by rfl) (hplain : (backTo cpos (starEach es X.env)).any (·.1) = false := by rfl) :
    PE X (.Call (.Attribute o "append" apos) (e :: es) [] cpos) (tBM K "list" rAppend ta t) := by
  subst h; exact pe_bm PySem.F.plainAttrs_list PySem.F.slot_list_append PySem.F.type_list_append mt_append ho ha hbase hfew hline hs hplain
end
theorem g_xf {a : Addr} {cls : Value} {d : Option Addr} {C : Addr} {f : Str} {te : TE} {σ : L2.St} {H : Hp} {Q : VK} (h : te σ H fun x H1 => x = .ref a ∧ cls = .ref C ∧ ∃ (dd : Addr) (fs : List (Str × V)) (v : V), d = some dd ∧ H1 dd = some (.xd fs) ∧ fs.lookup f = some v ∧ Q v H1) : tXf a cls d C f te σ H Q := h
theorem g_lo {K : PySem.W.Frag} {H : Hp} {p : Addr} {ys : List V} {Q : VK} (hs : SqL K H p ys ∨ SqT K H p ys) (h : ∀ l H', H l = none → Same H H' → H' l = some (.lst ys) → Q (.ref l) H') : rListO K [.ref p] H Q := ⟨p, ys, rfl, hs, fun l nl => h l _ nl (L2.Same.new nl) upd_same⟩
theorem g_tt {A B : Prop} (h : A) : if true = true then A else B := by rw [if_pos rfl]; exact h
theorem g_ff {A B : Prop} (h : B) : if false = true then A else B := by rw [if_neg Bool.false_ne_true]; exact h
theorem g_nt {A B : Prop} (h : B) : if (!true) = true then A else B := g_ff h
theorem g_nf {A B : Prop} (h : A) : if (!false) = true then A else B := g_tt h
theorem g_drn {a : Addr} {A B : Prop} (h : B) : if decide (V.ref a = V.non) = true then A else B := g_ff h
theorem g_din {a : Int} {A B : Prop} (h : B) : if decide (V.int a = V.non) = true then A else B := g_ff h
theorem g_dnn {A B : Prop} (h : A) : if decide (V.non = V.non) = true then A else B := g_tt h
theorem g_nrn {a : Addr} {A B : Prop} (h : A) : if (!decide (V.ref a = V.non)) = true then A else B := g_tt h
theorem g_nin {a : Int} {A B : Prop} (h : A) : if (!decide (V.int a = V.non)) = true then A else B := g_tt h
theorem g_nnn {A B : Prop} (h : B) : if (!decide (V.non = V.non)) = true then A else B := g_ff h
end Rt
set_option Elab.async false
set_option linter.all false
set_option maxRecDepth 100000
set_option maxHeartbeats 4000000
/-! The mathematics: runs, trains, reaches over plain lists. -/
namespace Rt
open PySem PySem.Spec L2
theorem tw_all {α : Type} {q : α → Bool} : ∀ {l : List α}, (∀ x ∈ l, q x = true) → l.takeWhile q = l
  | [], _ => rfl
  | a :: l, h => by
    rw [List.takeWhile_cons, if_pos (h a List.mem_cons_self), tw_all fun x hx => h x (List.mem_cons_of_mem _ hx)]
theorem tw_stop {α : Type} {q : α → Bool} : ∀ {l : List α} {i : Nat} {x : α}, (∀ y ∈ l.take i, q y = true) → l[i]? = some x → q x = false → l.takeWhile q = l.take i
  | [], i, x, _, h, _ => by simp at h
  | a :: l, 0, x, _, h, hq => by
    have e : a = x := Option.some.inj h
    subst e
    rw [List.takeWhile_cons, if_neg (by rw [hq]; exact Bool.false_ne_true)]; rfl
  | a :: l, i + 1, x, ha, h, hq => by
    rw [List.takeWhile_cons, if_pos (ha a (by rw [List.take_succ_cons]; exact List.mem_cons_self)), List.take_succ_cons,
      tw_stop (l := l) (i := i) (x := x) (fun y hy => ha y (by rw [List.take_succ_cons]; exact List.mem_cons_of_mem _ hy)) h hq]
theorem take_more {α : Type} : ∀ {l : List α} {i : Nat} {x : α}, l[i]? = some x → l.take (i + 1) = l.take i ++ [x]
  | [], i, x, h => by simp at h
  | a :: l, 0, x, h => by
    have e : a = x := Option.some.inj h
    subst e
    rfl
  | a :: l, i + 1, x, h => by
    have ih := take_more (l := l) (i := i) (x := x) h
    show a :: l.take (i + 1) = a :: l.take i ++ [x]
    rw [ih]; rfl
/-- the run after the place p, among n places -/
def run (r : Bool) (n p : Nat) : List Nat := (List.range (n - (p + 1))).map (fun i => p + 1 + i) ++ (if r = true then List.range p else [])
theorem run_at {r : Bool} {n p i : Nat} (hp : p < n) (hi : i + 1 < n) : (run r n p)[i]? = if p + 1 + i < n then some (p + 1 + i) else if r = true then some (p + 1 + i - n) else none := by
  unfold run
  by_cases h : p + 1 + i < n
  · rw [if_pos h, List.getElem?_append_left (by rw [List.length_map, List.length_range]; omega), List.getElem?_map, List.getElem?_range (by omega)]; rfl
  · rw [if_neg h, List.getElem?_append_right (by rw [List.length_map, List.length_range]; omega), List.length_map, List.length_range]
    cases r with
    | true =>
      rw [if_pos rfl, if_pos rfl, List.getElem?_range (by omega)]
      congr 1; omega
    | false => simp
theorem run_len {r : Bool} {n p : Nat} (hp : p < n) : (run r n p).length = if r = true then n - 1 else n - (p + 1) := by
  unfold run
  cases r with
  | true => rw [if_pos rfl, if_pos rfl, List.length_append, List.length_map, List.length_range, List.length_range]; omega
  | false => simp
theorem run_lt {r : Bool} {n p : Nat} (hp : p < n) : ∀ o ∈ run r n p, o < n := by
  intro o ho
  unfold run at ho
  rcases List.mem_append.mp ho with h | h
  · obtain ⟨i, hi, rfl⟩ := List.mem_map.mp h
    have := List.mem_range.mp hi; omega
  · cases r with
    | true => rw [if_pos rfl] at h; have := List.mem_range.mp h; omega
    | false => simp at h
abbrev nI (l : List Nat) : List V := l.map fun (k : Nat) => V.int (k : Int)
abbrev iI (l : List Nat) : List Int := l.map fun (k : Nat) => (k : Int)
theorem nI_eq (l : List Nat) : nI l = (iI l).map V.int := by unfold nI iI; rw [List.map_map]; rfl
def wk (ss : List Int) (p : Nat) : Nat → Bool := fun o => decide (ss.getD o 0 < ss.getD p 0)
/-- the train of the bead at p -/
def trn (r : Bool) (ss : List Int) (p : Nat) : List Nat := (run r ss.length p).takeWhile (wk ss p)
def stp (r : Bool) (ss : List Int) (p : Nat) : Option Nat := (run r ss.length p)[(trn r ss p).length]?
def oV : Option Nat → V
  | none => .non
  | some o => .int (o : Int)
def rch (r : Bool) (ss ls : List Int) (p : Nat) : Int := ls.getD p 0 + ((trn r ss p).map fun o => ls.getD o 0).sum
theorem trn_lt {r : Bool} {ss : List Int} {p : Nat} (hp : p < ss.length) : ∀ o ∈ trn r ss p, o < ss.length := fun o ho => run_lt hp o ((List.takeWhile_sublist _).subset ho)
theorem trn_len {r : Bool} {ss : List Int} {p : Nat} : (trn r ss p).length ≤ (run r ss.length p).length := (List.takeWhile_sublist _).length_le
theorem run_le {r : Bool} {n p : Nat} (hp : p < n) : (run r n p).length < n := by
  rw [run_len hp]; split <;> omega
theorem sum_app (l : List Int) (x : Int) : (l ++ [x]).sum = l.sum + x := by
  rw [List.sum_append, List.sum_cons, List.sum_nil]; omega
theorem sum_le {l : List Int} {b : Int} (h : ∀ x ∈ l, x ≤ b) : l.sum ≤ b * l.length := by
  induction l with
  | nil => simp
  | cons a l ih =>
    have h1 := h a List.mem_cons_self
    have h2 := ih fun x hx => h x (List.mem_cons_of_mem _ hx)
    rw [List.sum_cons, List.length_cons, Int.natCast_add, Int.mul_add]
    omega
theorem sum_ge {l : List Int} (h : ∀ x ∈ l, 0 ≤ x) : 0 ≤ l.sum := by
  induction l with
  | nil => simp
  | cons a l ih =>
    have h1 := h a List.mem_cons_self
    have h2 := ih fun x hx => h x (List.mem_cons_of_mem _ hx)
    rw [List.sum_cons]; omega
theorem getD_mem {l : List Int} {i : Nat} (h : i < l.length) : l.getD i 0 ∈ l := by
  rw [List.getD_eq_getElem?_getD, List.getElem?_eq_getElem h]
  exact List.getElem_mem h
theorem ext_getD {l m : List Int} (hl : l.length = m.length) (h : ∀ i, i < l.length → l.getD i 0 = m.getD i 0) : l = m := by
  refine List.ext_getElem hl fun i h1 h2 => ?_
  have := h i h1
  rw [List.getD_eq_getElem?_getD, List.getD_eq_getElem?_getD, List.getElem?_eq_getElem h1, List.getElem?_eq_getElem h2] at this
  exact this

/-! ### the walk of a law along a run -/
structure Wkd (r : Bool) (ss : List Int) (p i : Nat) : Prop where
  all : ∀ y ∈ (run r ss.length p).take i, wk ss p y = true
  le : i ≤ (run r ss.length p).length
theorem Wkd.zero {r : Bool} {ss : List Int} {p : Nat} : Wkd r ss p 0 := ⟨fun y h => by simp at h, Nat.zero_le _⟩
theorem Wkd.more {r : Bool} {ss : List Int} {p i o : Nat} (w : Wkd r ss p i) (ho : (run r ss.length p)[i]? = some o) (hw : wk ss p o = true) : Wkd r ss p (i + 1) := by
  refine ⟨fun y h => ?_, (List.getElem?_eq_some_iff.mp ho).1⟩
  rw [take_more ho] at h
  rcases List.mem_append.mp h with z | z
  · exact w.all y z
  · have e : y = o := by simpa using z
    subst e; exact hw
theorem Wkd.full {r : Bool} {ss : List Int} {p i : Nat} (w : Wkd r ss p i) (h : (run r ss.length p).length ≤ i) : trn r ss p = (run r ss.length p).take i ∧ stp r ss p = none := by
  have e : (run r ss.length p).take i = run r ss.length p := List.take_of_length_le h
  have t : trn r ss p = run r ss.length p := tw_all fun x hx => w.all x (by rw [e]; exact hx)
  refine ⟨t.trans e.symm, ?_⟩
  unfold stp
  rw [t, List.getElem?_eq_none (Nat.le_refl _)]
theorem Wkd.stop {r : Bool} {ss : List Int} {p i o : Nat} (w : Wkd r ss p i) (ho : (run r ss.length p)[i]? = some o) (hw : wk ss p o = false) : trn r ss p = (run r ss.length p).take i ∧ stp r ss p = some o := by
  have t : trn r ss p = (run r ss.length p).take i := tw_stop w.all ho hw
  refine ⟨t, ?_⟩
  unfold stp
  rw [t, List.length_take, Nat.min_eq_left w.le, ho]
theorem sum_more {r : Bool} {n p i o : Nat} {ls : List Int} (ho : (run r n p)[i]? = some o) : (((run r n p).take (i + 1)).map fun o => ls.getD o 0).sum = (((run r n p).take i).map fun o => ls.getD o 0).sum + ls.getD o 0 := by
  rw [take_more ho, List.map_append]
  exact sum_app _ _
theorem wk_eq {ss : List Int} {p o : Nat} : wk ss p o = decide (ss.getD o 0 < ss.getD p 0) := rfl
theorem wk_f {ss : List Int} {p o : Nat} (h : decide (ss.getD p 0 ≤ ss.getD o 0) = true) : wk ss p o = false := by
  have := of_decide_eq_true h; rw [wk_eq]; exact decide_eq_false (by omega)
theorem wk_t {ss : List Int} {p o : Nat} (h : decide (ss.getD p 0 ≤ ss.getD o 0) = false) : wk ss p o = true := by
  have := of_decide_eq_false h; rw [wk_eq]; exact decide_eq_true (by omega)
/-! ### lists of ints -/
theorem at_toNat {zs : List Int} {f : Int} (h0 : 0 ≤ f) (h1 : f < (zs.length : Int)) : atI (zs.map V.int) f = some (.int (zs.getD f.toNat 0)) := by
  have e : f = ((f.toNat : Nat) : Int) := by omega
  rw [e]
  have := at_int (ss := zs) (o := f.toNat) (by omega)
  rw [Int.toNat_natCast]
  exact this
theorem rep_flat {α : Type} (x : α) : ∀ k : Nat, (List.replicate k [x]).flatten = List.replicate k x
  | 0 => rfl
  | k + 1 => by rw [List.replicate_succ, List.flatten_cons, rep_flat x k, List.replicate_succ]; rfl
theorem cut1 (xs : List V) (h : 0 < xs.length) : cutV xs (some 1) none = xs.drop 1 := by
  unfold cutV
  have e1 : HT.sIx xs.length 0 (some 1) = 1 := by
    unfold HT.sIx; simp; omega
  have e2 : HT.sIx xs.length xs.length none = xs.length := by
    unfold HT.sIx; rfl
  rw [e1, e2]
  exact List.take_of_length_le (by rw [List.length_drop]; omega)
structure Dr (ns ds : List Int) : Prop where
  len : ds.length = ns.length
  at_ : ∀ i, i < ns.length → 0 ≤ ds.getD i 0 ∧ ds.getD i 0 < ns.getD i 0
theorem getD_drop1 (ds : List Int) (i : Nat) : (ds.drop 1).getD i 0 = ds.getD (i + 1) 0 := by
  rw [List.getD_eq_getElem?_getD, List.getD_eq_getElem?_getD, List.getElem?_drop, Nat.add_comm]
theorem Dr.tail {m : Int} {ms ds : List Int} (h : Dr (m :: ms) ds) : Dr ms (ds.drop 1) := by
  refine ⟨by rw [List.length_drop, h.len]; rfl, fun i hi => ?_⟩
  rw [getD_drop1]
  have := h.at_ (i + 1) (by rw [List.length_cons]; omega)
  exact this
theorem getD_map {l : List Int} {g : Int → Int} {i : Nat} (h : i < l.length) : (l.map g).getD i 0 = g (l.getD i 0) := by
  rw [List.getD_eq_getElem?_getD, List.getElem?_map, List.getElem?_eq_getElem h, List.getD_eq_getElem?_getD, List.getElem?_eq_getElem h]; rfl
theorem getD_rep {n : Nat} {x : Int} {i : Nat} (h : i < n) : (List.replicate n x).getD i 0 = x := by
  rw [List.getD_eq_getElem?_getD, List.getElem?_replicate, if_pos h]; rfl
theorem mem_getD {l : List Int} {x : Int} (h : x ∈ l) : ∃ i, i < l.length ∧ l.getD i 0 = x := by
  obtain ⟨i, hi, e⟩ := List.mem_iff_getElem.mp h
  exact ⟨i, hi, by rw [List.getD_eq_getElem?_getD, List.getElem?_eq_getElem hi]; exact e⟩

theorem g_rep1 {H : Hp} {Q : VK} {l : Addr} {x : Int} {k : Nat} (h1 : H l = some (.lst [V.int x])) (sz : k ≤ 100000)
    (h : ∀ p H', H p = none → Same H H' → H' p = some (.lst ((List.replicate k x).map V.int)) → Q (.ref p) H') : rRep (.ref l) (.int (k : Int)) H Q :=
  ⟨l, (k : Int), [V.int x], rfl, rfl, h1, by omega, by omega, by rw [Int.toNat_natCast, sizeLine_eq, List.length_singleton]; omega, fun p np => h p _ np (L2.Same.new np) (by rw [upd_same, Int.toNat_natCast, rep_flat, List.map_replicate])⟩
theorem g_sl1 {K : PySem.W.Frag} {H : Hp} {Q : VK} {l : Addr} {xs : List Int} (h1 : SqL K H l (xs.map V.int)) (h0 : 0 < xs.length)
    (h : ∀ p H', H p = none → Same H H' → H' p = some (.lst ((xs.drop 1).map V.int)) → Q (.ref p) H') : rSlL K (.ref l) (some 1) none H Q :=
  ⟨l, _, rfl, h1, fun p np => h p _ np (L2.Same.new np) (by rw [upd_same, cut1 _ (by rw [List.length_map]; exact h0), List.map_drop])⟩
/-! ### comprehensions over ints -/
theorem lc_ints {K : PySem.W.Frag} {a : Addr} {xs : List Int} {g : TG} {te : TE} {vs : List Nat} {σ : L2.St} {H1 : Hp} {D : Addr} {Qd : Hp → Prop} (f : Int → Int) (hs : SqL K H1 a (xs.map V.int)) (hD : H1 D = none) (sz : xs.length ≤ 100000)
    (turn : ∀ (i : Nat) (x : Int) (H' : Hp), xs[i]? = some x → Same H1 H' → ∀ Q : VK, (∀ H2, Same H' H2 → Q (.int (f x)) H2) → g (.int x) (wipe σ vs) H' fun σ2 H2 => wipe σ2 vs = wipe σ vs ∧ te σ2 H2 Q)
    (done : ∀ H', Same H1 H' → H' D = some (.lst ((xs.map f).map V.int)) → Qd H') :
    ∃ W : Nat → Nat → Hp → Prop, (∃ m, W 0 m (upd H1 D (.lst []))) ∧ ∀ i m H, W i m H →
      ((Itl K a).stop i H ∧ Qd H) ∨ ((Itl K a).go i H ∧ ∃ Nx : Hp → Prop, (∀ H', Nx H' → ∃ m', m' < m ∧ W (i + 1) m' H') ∧ ∀ x H', (Itl K a).yld i H x H' → g x (wipe σ vs) H' fun σ2 H2 => wipe σ2 vs = wipe σ vs ∧ tYes σ2 H2 fun b H3 =>
        if b = true then te σ2 H3 fun y H4 => ∃ acc, H4 D = some (.lst acc) ∧ acc.length < sizeLine ∧ Nx (upd H4 D (.lst (acc ++ [y]))) else Nx H3) := by
  refine lc_list (xs := xs.map V.int) (fun i H' => Same H1 H' ∧ H' D = some (.lst (((xs.take i).map f).map V.int))) ⟨Same.new hD, upd_same⟩ (fun i H' _ h => h.1.seq hs) ?_ ?_
  · rintro i y H' hi ⟨S1, hd⟩
    obtain ⟨x, hx, rfl⟩ : ∃ x, xs[i]? = some x ∧ y = V.int x := by
      rw [List.getElem?_map] at hi
      cases e : xs[i]? with
      | none => rw [e] at hi; cases hi
      | some x => rw [e] at hi; exact ⟨x, rfl, (Option.some.inj hi).symm⟩
    have hil : i < xs.length := (List.getElem?_eq_some_iff.mp hx).1
    refine turn i x H' hx S1 _ fun H2 S2 => ⟨_, S2 _ _ hd, ?_, (S1.trans S2).mut hD, ?_⟩
    · rw [List.length_map, List.length_map, List.length_take]; exact slt1000 (by omega)
    · rw [upd_same, take_more hx, List.map_append, List.map_append]; rfl
  · rintro H' ⟨S1, hd⟩
    rw [List.length_map, List.take_length] at hd
    exact done H' S1 hd
theorem lc_rangeI {lo : Int} {n : Nat} {g : TG} {te : TE} {vs : List Nat} {σ : L2.St} {H1 : Hp} {D : Addr} {Qd : Hp → Prop} (f : Nat → Int) (hD : H1 D = none) (sz : n ≤ 100000)
    (turn : ∀ (i : Nat) (H' : Hp), i < n → Same H1 H' → ∀ Q : VK, (∀ H2, Same H' H2 → Q (.int (f i)) H2) → g (.int (lo + i)) (wipe σ vs) H' fun σ2 H2 => wipe σ2 vs = wipe σ vs ∧ te σ2 H2 Q)
    (done : ∀ H', Same H1 H' → H' D = some (.lst (((List.range n).map f).map V.int)) → Qd H') :
    ∃ W : Nat → Nat → Hp → Prop, (∃ m, W 0 m (upd H1 D (.lst []))) ∧ ∀ i m H, W i m H →
      ((Itr lo n).stop i H ∧ Qd H) ∨ ((Itr lo n).go i H ∧ ∃ Nx : Hp → Prop, (∀ H', Nx H' → ∃ m', m' < m ∧ W (i + 1) m' H') ∧ ∀ x H', (Itr lo n).yld i H x H' → g x (wipe σ vs) H' fun σ2 H2 => wipe σ2 vs = wipe σ vs ∧ tYes σ2 H2 fun b H3 =>
        if b = true then te σ2 H3 fun y H4 => ∃ acc, H4 D = some (.lst acc) ∧ acc.length < sizeLine ∧ Nx (upd H4 D (.lst (acc ++ [y]))) else Nx H3) := by
  refine lc_range (fun i H' => Same H1 H' ∧ H' D = some (.lst (((List.range i).map f).map V.int))) ⟨Same.new hD, upd_same⟩ ?_ ?_
  · rintro i H' hi ⟨S1, hd⟩
    refine turn i H' hi S1 _ fun H2 S2 => ⟨_, S2 _ _ hd, ?_, (S1.trans S2).mut hD, ?_⟩
    · rw [List.length_map, List.length_map, List.length_range]; exact slt1000 (by omega)
    · rw [upd_same, List.range_succ, List.map_append, List.map_append]; rfl
  · rintro H' ⟨S1, hd⟩
    exact done H' S1 hd
/-! ### data -/
theorem canI : ∀ xs : List Int, PyData.canLayAll0 (xs.map PyData.int) = true
  | [] => rfl
  | x :: xs => by simp [PyData.canLayAll0, PyData.canLay0, canI xs]
theorem depI : ∀ xs : List Int, PyData.depthAll (xs.map PyData.int) = 0
  | [] => rfl
  | x :: xs => by simp [PyData.depthAll, PyData.depth, depI xs]
theorem dpI {K : PySem.W.Frag} {H : Hp} : ∀ xs : List Int, DpAll K H (xs.map V.int) (xs.map PyData.int)
  | [] => .nil
  | x :: xs => .cons (.int x) (dpI xs)
/-- [xs, ys] == [xs, ys] -/
theorem g_eq2 {K : PySem.W.Frag} {H : Hp} {Q : VK} {a b a1 a2 b1 b2 : Addr} {xs ys : List Int} (ha : SqL K H a [.ref a1, .ref a2]) (hb : SqL K H b [.ref b1, .ref b2]) (h1 : SqL K H a1 (xs.map V.int)) (h2 : SqL K H a2 (ys.map V.int)) (h3 : SqL K H b1 (xs.map V.int)) (h4 : SqL K H b2 (ys.map V.int))
    (q : Q (.bl true) H) : rEqD K (.ref a) (.ref b) H Q := by
  have can : PyData.canLay0 (.list [.list (xs.map PyData.int), .list (ys.map PyData.int)]) = true := by simp [PyData.canLay0, PyData.canLayAll0, canI]
  have sh : SeqAt.shaped (.list [.list (xs.map PyData.int), .list (ys.map PyData.int)]) = true := by
    unfold SeqAt.shaped
    rw [can]
    simp [PyData.depth, PyData.depthAll, depI]
  exact ⟨_, _, .lst ha (.cons (.lst h1 (dpI xs)) (.cons (.lst h2 (dpI ys)) .nil)), .lst hb (.cons (.lst h3 (dpI xs)) (.cons (.lst h4 (dpI ys)) .nil)), sh, sh, by rw [SeqAt.eqv_refl _ can]; exact q⟩
end Rt
set_option Elab.async false
set_option linter.all false
set_option maxRecDepth 100000
set_option maxHeartbeats 4000000
namespace Rt
open PySem PySem.Spec L2
open PyProof.Rows (envOfC)
def top (i : Nat) : Stmt := PySem.Challenge.pw_retinue_k01_trains_and_reaches.main.body.getD i (.Pass ⟨0, 0, 0, 0⟩)
abbrev s_BadBeads_init : Stmt := inClass (top 3) 0
theorem sc_BadBeads_init : FnScope ["self", "place"] ["self", "place"] (defScope s_BadBeads_init) := ⟨rfl, rfl, rfl, by decide +kernel, rfl, by decide +kernel, by decide +kernel⟩
abbrev s_BadPlace_init : Stmt := inClass (top 4) 0
theorem sc_BadPlace_init : FnScope ["self", "place"] ["self", "place"] (defScope s_BadPlace_init) := ⟨rfl, rfl, rfl, by decide +kernel, rfl, by decide +kernel, by decide +kernel⟩
abbrev s_WrongKind_init : Stmt := inClass (top 5) 0
theorem sc_WrongKind_init : FnScope ["self", "ring"] ["self", "ring"] (defScope s_WrongKind_init) := ⟨rfl, rfl, rfl, by decide +kernel, rfl, by decide +kernel, by decide +kernel⟩
abbrev s_check_place : Stmt := top 7
theorem sc_check_place : FnScope ["many", "place"] ["many", "place"] (defScope s_check_place) := ⟨rfl, rfl, rfl, by decide +kernel, rfl, by decide +kernel, by decide +kernel⟩
abbrev s_run_after : Stmt := top 9
theorem sc_run_after : FnScope ["beads", "place", "after"] ["beads", "place"] (defScope s_run_after) := ⟨rfl, rfl, rfl, by decide +kernel, rfl, by decide +kernel, by decide +kernel⟩
abbrev s_train_of : Stmt := top 10
theorem sc_train_of : FnScope ["beads", "place", "train", "other"] ["beads", "place"] (defScope s_train_of) := ⟨rfl, rfl, rfl, by decide +kernel, rfl, by decide +kernel, by decide +kernel⟩
abbrev s_reach_of : Stmt := top 11
theorem sc_reach_of : FnScope ["beads", "place", "train", "other"] ["beads", "place"] (defScope s_reach_of) := ⟨rfl, rfl, rfl, by decide +kernel, rfl, by decide +kernel, by decide +kernel⟩
abbrev s_stopper_of : Stmt := top 12
theorem sc_stopper_of : FnScope ["beads", "place", "train", "run"] ["beads", "place"] (defScope s_stopper_of) := ⟨rfl, rfl, rfl, by decide +kernel, rfl, by decide +kernel, by decide +kernel⟩
abbrev s_reaches : Stmt := top 13
theorem sc_reaches : FnScope ["beads", "place"] ["beads"] (defScope s_reaches) := ⟨rfl, rfl, rfl, by decide +kernel, rfl, by decide +kernel, by decide +kernel⟩
abbrev s_Beads_init : Stmt := inClass (top 15) 0
theorem sc_Beads_init : FnScope ["self", "strengths", "lengths", "ring"] ["self", "strengths", "lengths", "ring"] (defScope s_Beads_init) := ⟨rfl, rfl, rfl, by decide +kernel, rfl, by decide +kernel, by decide +kernel⟩
abbrev s_Beads_len : Stmt := inClass (top 15) 1
theorem sc_Beads_len : FnScope ["self"] ["self"] (defScope s_Beads_len) := ⟨rfl, rfl, rfl, by decide +kernel, rfl, by decide +kernel, by decide +kernel⟩
abbrev s_Beads_iter : Stmt := inClass (top 15) 2
theorem sc_Beads_iter : FnScope ["self"] ["self"] (defScope s_Beads_iter) := ⟨rfl, rfl, rfl, by decide +kernel, rfl, by decide +kernel, by decide +kernel⟩
abbrev s_Beads_eq : Stmt := inClass (top 15) 3
theorem sc_Beads_eq : FnScope ["self", "other"] ["self", "other"] (defScope s_Beads_eq) := ⟨rfl, rfl, rfl, by decide +kernel, rfl, by decide +kernel, by decide +kernel⟩
abbrev s_Beads_add : Stmt := inClass (top 15) 4
theorem sc_Beads_add : FnScope ["self", "other"] ["self", "other"] (defScope s_Beads_add) := ⟨rfl, rfl, rfl, by decide +kernel, rfl, by decide +kernel, by decide +kernel⟩
abbrev s_Beads_mul : Stmt := inClass (top 15) 5
theorem sc_Beads_mul : FnScope ["self", "other"] ["self", "other"] (defScope s_Beads_mul) := ⟨rfl, rfl, rfl, by decide +kernel, rfl, by decide +kernel, by decide +kernel⟩
abbrev s_Beads_total : Stmt := inClass (top 15) 6
theorem sc_Beads_total : FnScope ["self"] ["self"] (defScope s_Beads_total) := ⟨rfl, rfl, rfl, by decide +kernel, rfl, by decide +kernel, by decide +kernel⟩
abbrev s__check_beads : Stmt := top 16
theorem sc__check_beads : FnScope ["strengths", "lengths", "place"] ["strengths", "lengths"] (defScope s__check_beads) := ⟨rfl, rfl, rfl, by decide +kernel, rfl, by decide +kernel, by decide +kernel⟩
abbrev s__law_cell : Stmt := top 18
theorem sc__law_cell : FnScope ["script", "k"] ["script", "k"] (defScope s__law_cell) := ⟨rfl, rfl, rfl, by decide +kernel, rfl, by decide +kernel, by decide +kernel⟩
abbrev s__law_draws : Stmt := top 19
theorem sc__law_draws : FnScope ["cell", "sizes", "left", "draws", "k", "mixed"] ["cell", "sizes"] (defScope s__law_draws) := ⟨rfl, rfl, rfl, by decide +kernel, rfl, by decide +kernel, by decide +kernel⟩
abbrev s__law_lengths : Stmt := top 20
theorem sc__law_lengths : FnScope ["cell", "many", "flavour", "size", "draw"] ["cell", "many"] (defScope s__law_lengths) := ⟨rfl, rfl, rfl, by decide +kernel, rfl, by decide +kernel, by decide +kernel⟩
abbrev s__law_strengths : Stmt := top 21
theorem sc__law_strengths : FnScope ["cell", "sizes", "flavour", "total", "size", "level", "most"] ["cell", "sizes"] (defScope s__law_strengths) := ⟨rfl, rfl, rfl, by decide +kernel, rfl, by decide +kernel, by decide +kernel⟩
abbrev s__law_reach : Stmt := top 22
theorem sc__law_reach : FnScope ["round_flag", "sizes", "strengths", "place", "total", "step", "at"] ["round_flag", "sizes", "strengths", "place"] (defScope s__law_reach) := ⟨rfl, rfl, rfl, by decide +kernel, rfl, by decide +kernel, by decide +kernel⟩
abbrev s__law_is_integer : Stmt := top 23
theorem sc__law_is_integer : FnScope ["actual"] ["actual"] (defScope s__law_is_integer) := ⟨rfl, rfl, rfl, by decide +kernel, rfl, by decide +kernel, by decide +kernel⟩
abbrev s__law_numbers : Stmt := top 24
theorem sc__law_numbers : FnScope ["actual", "due", "as_tuple", "k"] ["actual", "due", "as_tuple"] (defScope s__law_numbers) := ⟨rfl, rfl, rfl, by decide +kernel, rfl, by decide +kernel, by decide +kernel⟩
abbrev s__law_is_standing : Stmt := top 25
theorem sc__law_is_standing : FnScope ["actual", "round_flag", "sizes", "strengths"] ["actual", "round_flag", "sizes", "strengths"] (defScope s__law_is_standing) := ⟨rfl, rfl, rfl, by decide +kernel, rfl, by decide +kernel, by decide +kernel⟩
abbrev s__law_walk : Stmt := top 26
theorem sc__law_walk : FnScope ["round_flag", "strengths", "place", "train", "step", "at"] ["round_flag", "strengths", "place"] (defScope s__law_walk) := ⟨rfl, rfl, rfl, by decide +kernel, rfl, by decide +kernel, by decide +kernel⟩
abbrev s__law_is_told : Stmt := top 27
theorem sc__law_is_told : FnScope ["beads", "sizes", "place", "walk", "told", "stopper", "reach", "at"] ["beads", "sizes", "place", "walk"] (defScope s__law_is_told) := ⟨rfl, rfl, rfl, by decide +kernel, rfl, by decide +kernel, by decide +kernel⟩
abbrev s__law_is_refused : Stmt := top 28
theorem sc__law_is_refused : FnScope ["beads", "place", "which", "e"] ["beads", "place", "which"] (defScope s__law_is_refused) := ⟨rfl, rfl, rfl, by decide +kernel, rfl, by decide +kernel, by decide +kernel⟩
abbrev s_law : Stmt := top 29
theorem sc_law : FnScope ["script", "shape", "many", "round_flag", "sizes", "strengths", "given", "beads", "due", "place", "told", "asked", "k", "which"] ["script"] (defScope s_law) := ⟨rfl, rfl, rfl, by decide +kernel, rfl, by decide +kernel, by decide +kernel⟩
structure Ad where
  Beads : Addr
  BadPlace : Addr
structure Txt (K : PySem.W.Frag) (mg : Str → Option Value) (A : Ad) : Prop where
  m_len : mg "len" = none
  m_int : mg "int" = none
  m_bool : mg "bool" = none
  m_tuple : mg "tuple" = none
  m_list : mg "list" = none
  m_range : mg "range" = none
  m_isinstance : mg "isinstance" = none
  m_sum : mg "sum" = none
  g_Beads : mg "Beads" = some (.ref A.Beads)
  g_BadPlace : mg "BadPlace" = some (.ref A.BadPlace)
  cl : Cls K A.Beads
  nS : NoAttr K A.Beads "strengths"
  nL : NoAttr K A.Beads "lengths"
  nR : NoAttr K A.Beads "ring"
  oBP : OexC K A.BadPlace
  no_BadPlace_place : PySem.W.findIn K (.ref A.BadPlace) "place" = some none
  x_BadPlace : XfC K A.BadPlace
  eBP : PySem.W.exmOne K (.ref A.BadPlace) (.ref A.BadPlace) = some true
  iB1 : PySem.W.findIn K (.ref A.Beads) "__class__" = some (some (.builtin "object.__class__"))
  iB2 : PySem.W.specialIn K (.builtin "object.__class__") "__get__" = some (some (.builtin "getset_descriptor.__get__"))
  iB3 : PySem.W.takesIn K (.builtin "object.__class__") = some true
  iB4 : PySem.W.mroIn K A.Beads (.type "object") = some true
  iB5 : PySem.W.kitOne K (.ref A.Beads) (.ref A.Beads) = some true
local macro_rules | `(tactic| walk_at "rd1") => `(tactic| (with_reducible first
  | refine g_var (by with_unfolding_all rfl) ?_
  | refine g_c ?_
  | refine g_op ?_
  | refine g_I0 ?_
  | refine g_eqI ?_
  | refine g_neI ?_
  | refine g_eqB ?_
  | refine g_neB ?_
  | refine g_cons ?_
  | refine g_nil ?_
  | refine g_seq ?_
  | refine g_asg ?_
  | refine g_name ?_
  | refine g_ret ?_
  | refine g_retN ?_
  | refine g_drop ?_
  | refine g_next ?_
  | refine g_if ?_
  | refine g_test ?_
  | refine g_tB ?_
  | refine g_bl ?_
  | refine g_and ?_
  | refine g_or ?_
  | refine g_not ?_
  | refine g_andV ?_
  | refine g_orV ?_
  | refine g_notV ?_
  | refine g_ifE ?_
  | refine g_cb ?_
  | refine g_call ?_
  | refine g_callS ?_
  | refine g_bm ?_
  | refine g_un ?_
  | refine g_U ?_
  | refine g_chain ?_
  | refine g_sl ?_
  | refine g_brk ?_
  | refine g_ct ?_
  | refine g_ipI ?_
  | refine g_fld ?_
  | refine g_lst ?_
  | refine g_int ?_
  | refine g_for ?_
  | refine g_rg1 ?_
  | refine g_rg2 ?_
  | refine g_il ?_
  | refine g_it ?_
  | refine g_lc ?_
  | refine g_yes ?_
  | refine g_tup ?_
  | refine g_part ?_
  | refine g_xf ?_
  | refine g_nn ?_
  | refine g_mko ?_
  | refine g_lrg ?_
  | refine g_tr1 ?_
  | refine g_tr2 ?_
  | refine g_oi2 ?_
  | refine g_mk ?_
  | refine g_sfld ?_
  | refine g_ost ?_
  | refine g_oi ?_
  | refine g_nopart ?_
  | refine g_tt ?_
  | refine g_ff ?_
  | refine g_nt ?_
  | refine g_nf ?_
  | refine g_drn ?_
  | refine g_din ?_
  | refine g_dnn ?_
  | refine g_nrn ?_
  | refine g_nin ?_
  | refine g_nnn ?_))
local macro_rules | `(tactic| walk_at "rd") => `(tactic| (repeat walk_at "rd1"))

section
variable {P : Program} {w : World} {K : PySem.W.Frag} {mg : Str → Option Value} {base : Heap} {f : Addr} {fd : FuncData} {A : Ad}
/-! ### _law_cell -/
def cellI (ns : List Int) (k : Nat) : Int := ns.getD k 0
def spCell (K : PySem.W.Frag) : Sp := fun vs H Q _ => ∃ (a : Addr) (ns : List Int) (k : Nat), vs = [.ref a, .int (k : Int)] ∧ SqL K H a (ns.map V.int) ∧ Q (.int (cellI ns k)) H
theorem ok_cell (F : Fun K "_law_cell" "_law_cell" s__law_cell f fd) (T : Txt K mg A) : FnOk P w K mg base CX0 1 f fd ["script", "k"] (Rt.spCell K) := by
  refine F.ok sc__law_cell (fun vs H Q E h => ?_) (fun cdv A1 outer s H vs Q E hr h => ?_)
  · obtain ⟨a, ns, k, rfl, _⟩ := h
    rfl
  · obtain ⟨a, ns, k, rfl, hs, q⟩ := h
    refine ⟨_, (pss_cons (ps_if (pt_cmpR op_lt (pv 1) (pe_callB (call_lenK K) (by rfl) T.m_len PySem.boot_len (pa_cons (pv 0) pa_nil)) (nomark _)) (pss_one (ps_ret (pe_callTy call_int1 (by rfl) T.m_int (by decide +kernel) (pa_cons (pe_ix (ix_listK K) (pv 0) (pv 1) (fun _ _ => rfl)) pa_nil)))) pss_nil)
      (pss_one (ps_ret pe_int))), ?_⟩
    walk_at "rd"
    refine ⟨a, _, rfl, .inl hs, ?_⟩
    walk_at "rd"
    refine g_ite (fun e => ?_) (fun e => ?_)
    · have hk : k < ns.length := by have := of_decide_eq_true e; rw [List.length_map] at this; omega
      walk_at "rd"
      refine ⟨a, _, _, _, rfl, rfl, hs, at_int hk, ?_⟩
      walk_at "rd"
      exact q
    · have hk : ns.length ≤ k := by have := of_decide_eq_false e; rw [List.length_map] at this; omega
      walk_at "rd"
      have e0 : cellI ns k = 0 := by unfold cellI; rw [List.getD_eq_getElem?_getD, List.getElem?_eq_none hk]; rfl
      rw [e0] at q
      exact q
/-! ### _law_draws -/
def spDraws (K : PySem.W.Frag) : Sp := fun vs H Q _ => ∃ (l : Addr) (c : Int) (ns : List Int), vs = [.int c, .ref l] ∧ SqL K H l (ns.map V.int) ∧ ns.length ≤ 1000 ∧ (∀ i, i < ns.length → 0 < ns.getD i 0 ∧ ns.getD i 0 < 2 ^ 64) ∧
  ∀ (p : Addr) (H' : Hp) (ds : List Int), H p = none → Same H H' → H' p = some (.lst (ds.map V.int)) → Dr ns ds → Q (.ref p) H'
theorem ok_draws (F : Fun K "_law_draws" "_law_draws" s__law_draws f fd) (T : Txt K mg A) : FnOk P w K mg base CX0 1 f fd ["cell", "sizes"] (Rt.spDraws K) := by
  refine F.ok sc__law_draws (fun vs H Q E h => ?_) (fun cdv A1 outer s H vs Q E hr h => ?_)
  · obtain ⟨l, c, ns, rfl, _⟩ := h
    rfl
  · obtain ⟨l, c, ns, rfl, hs, hl, hp, q⟩ := h
    refine ⟨_, (pss_cons (ps_set (i := 2) sc__law_draws.nd rfl (Or.inl rfl) (pe_callTy call_int1 (by rfl) T.m_int (by decide +kernel) (pa_cons (pv 0) pa_nil)))
      (pss_cons (ps_set (i := 3) sc__law_draws.nd rfl (Or.inl rfl) (pe_lst pa_nil))
      (pss_cons (ps_for (PassesOwn.never) rfl (pi_range1 rfl T.m_range (pa_cons (pe_callB (call_lenK K) (by rfl) T.m_len PySem.boot_len (pa_cons (pv 1) pa_nil)) pa_nil)) (pg_name (i := 4) sc__law_draws.nd rfl (Or.inl rfl)) (pss_one (ps_if (pt_cmpR op_ge (pv 0) (pe_op op_pow pe_int pe_int) (nomark _)) (pss_cons (ps_expr (pe_appK K (pv 3) (pa_cons (pe_op op_mod (pe_callTy call_int1 (by rfl) T.m_int (by decide +kernel) (pa_cons (pv 2) pa_nil)) (pe_ix (ix_listK K) (pv 1) (pv 4) (fun _ _ => rfl))) pa_nil)))
      (pss_one (ps_set (i := 2) sc__law_draws.nd rfl (Or.inl rfl) (pe_op op_fdivW (pe_callTy call_int1 (by rfl) T.m_int (by decide +kernel) (pa_cons (pv 2) pa_nil)) (pe_ix (ix_listK K) (pv 1) (pv 4) (fun _ _ => rfl)))))) (pss_cons (ps_set (i := 5) sc__law_draws.nd rfl (Or.inl rfl) (pe_op op_mod (pe_callTy call_int1 (by rfl) T.m_int (by decide +kernel) (pa_cons (pe_op op_add (pe_op op_add (pv 0) (pe_op op_mul pe_int (pv 4))) pe_int) pa_nil)) pe_int))
      (pss_cons (ps_set (i := 5) sc__law_draws.nd rfl (Or.inl rfl) (pe_op op_mod (pe_callTy call_int1 (by rfl) T.m_int (by decide +kernel) (pa_cons (pe_op op_mul (pv 5) (pe_op op_add (pv 5) pe_int)) pa_nil)) pe_int))
      (pss_cons (ps_set (i := 5) sc__law_draws.nd rfl (Or.inl rfl) (pe_op op_mod (pe_callTy call_int1 (by rfl) T.m_int (by decide +kernel) (pa_cons (pe_op op_add (pe_op op_mul (pv 5) (pe_op op_add (pv 5) pe_int)) (pe_op op_mul pe_int (pv 4))) pa_nil)) pe_int))
      (pss_one (ps_expr (pe_appK K (pv 3) (pa_cons (pe_op op_mod (pe_callTy call_int1 (by rfl) T.m_int (by decide +kernel) (pa_cons (pe_op op_fdiv (pv 5) pe_int) pa_nil)) (pe_ix (ix_listK K) (pv 1) (pv 4) (fun _ _ => rfl))) pa_nil))))))))))
      (pss_one (ps_ret (pv 3)))))), ?_⟩
    walk_at "rd"
    refine ⟨by decide, fun p np => ?_⟩
    walk_at "rd"
    have S0 : Same H (upd H p (.lst [])) := Same.new np
    refine ⟨l, _, rfl, .inl (S0.seq hs), ?_⟩
    walk_at "rd"
    refine ⟨_, rfl, by omega, by rw [List.length_map]; omega, ?_⟩
    rw [List.length_map]
    refine for_range (lo := 0) (fun i σ H' => ∃ (left : Int) (ds : List Int) (v5 v6 : Option V), σ = [some (.int c), some (.ref l), some (.int left), some (.ref p), v5, v6] ∧ Same H H' ∧ H' p = some (.lst (ds.map V.int)) ∧ ds.length = i ∧
      ∀ j, j < i → 0 ≤ ds.getD j 0 ∧ ds.getD j 0 < ns.getD j 0) ⟨c, [], none, none, rfl, S0, upd_same, rfl, fun j h => absurd h (Nat.not_lt_zero j)⟩ ?_ ?_
    · rintro i σ H' hi ⟨left, ds, v5, v6, rfl, S1, hd, hdl, hin⟩
      have hi' : i < ns.length := by simpa using hi
      have hs1 := S1.seq hs
      obtain ⟨hp0, hp1⟩ := hp i hi'
      have step : ∀ (d : Int), 0 ≤ d → d < ns.getD i 0 → ∀ j, j < i + 1 → 0 ≤ (ds ++ [d]).getD j 0 ∧ (ds ++ [d]).getD j 0 < ns.getD j 0 := by
        intro d h0 h1 j hj
        rw [getD_app, hdl]
        by_cases h : j < i
        · rw [if_pos h]; exact hin j h
        · have e : j = i := by omega
          subst e
          rw [if_neg h, if_pos rfl]; exact ⟨h0, h1⟩
      rw [Int.zero_add]
      walk_at "rd"
      refine g_I ⟨by decide, by decide, by decide⟩ ?_
      walk_at "rd"
      refine g_ite (fun e => ?_) (fun e => ?_)
      · walk_at "rd"
        refine ⟨ty_l hd, ?_⟩
        walk_at "rd"
        refine g_ixL hs1 (at_int hi') ?_
        refine g_I hp0 ?_
        walk_at "rd"
        refine g_app hd (by rw [List.length_map, hdl]; exact slt1000 (by omega)) ?_
        walk_at "rd"
        have S2 : Same H (upd H' p (.lst (ds.map V.int ++ [V.int (left % ns.getD i 0)]))) := S1.mut np
        refine g_ixL (S2.seq hs) (at_int hi') ?_
        refine g_I (wide_div hp0 (b := 64) (by omega) (by decide) (by decide)) ?_
        walk_at "rd"
        exact ⟨_, ds ++ [left % ns.getD i 0], _, _, rfl, S2, by rw [upd_same, map_app], by rw [List.length_append, hdl]; rfl, step _ (Int.emod_nonneg _ (by omega)) (Int.emod_lt_of_pos _ hp0)⟩
      · walk_at "rd"
        refine g_I (.inl ⟨by decide, by decide⟩) ?_
        walk_at "rd"
        refine g_I (by decide) ?_
        walk_at "rd"
        have a1 := Int.emod_nonneg (c + 7919 * (i : Int) + 13) (show (2147483647 : Int) ≠ 0 by decide)
        have a2 := Int.emod_lt_of_pos (c + 7919 * (i : Int) + 13) (show (0 : Int) < 2147483647 by decide)
        generalize (c + 7919 * (i : Int) + 13) % 2147483647 = m1 at a1 a2
        refine g_I (.inl ⟨by omega, by omega⟩) ?_
        walk_at "rd"
        refine g_I (by decide) ?_
        walk_at "rd"
        have b1 := Int.emod_nonneg (m1 * (m1 + 48271)) (show (2147483629 : Int) ≠ 0 by decide)
        have b2 := Int.emod_lt_of_pos (m1 * (m1 + 48271)) (show (0 : Int) < 2147483629 by decide)
        generalize (m1 * (m1 + 48271)) % 2147483629 = m2 at b1 b2
        refine g_I (.inl ⟨by omega, by omega⟩) ?_
        walk_at "rd"
        refine g_I (.inl ⟨by decide, by decide⟩) ?_
        walk_at "rd"
        refine g_I (by decide) ?_
        walk_at "rd"
        refine ⟨ty_l hd, ?_⟩
        walk_at "rd"
        refine g_I ⟨by decide, by decide⟩ ?_
        walk_at "rd"
        refine g_ixL hs1 (at_int hi') ?_
        refine g_I hp0 ?_
        walk_at "rd"
        refine g_app hd (by rw [List.length_map, hdl]; exact slt1000 (by omega)) ?_
        walk_at "rd"
        exact ⟨_, ds ++ [_], _, _, rfl, S1.mut np, by rw [upd_same, map_app], by rw [List.length_append, hdl]; rfl, step _ (Int.emod_nonneg _ (by omega)) (Int.emod_lt_of_pos _ hp0)⟩
    · rintro σ H' ⟨left, ds, v5, v6, rfl, S1, hd, hdl, hin⟩
      walk_at "rd"
      exact q p H' ds np S1 hd ⟨by simpa using hdl, fun i hi => hin i (by simpa using hi)⟩
/-! ### _law_is_integer -/
def spInt : Sp := fun vs H Q _ => ∃ i : Int, vs = [.int i] ∧ Q (.bl true) H
theorem ok_int (F : Fun K "_law_is_integer" "_law_is_integer" s__law_is_integer f fd) (T : Txt K mg A) : FnOk P w K mg base CX0 1 f fd ["actual"] Rt.spInt := by
  refine F.ok sc__law_is_integer (fun vs H Q E h => ?_) (fun cdv A1 outer s H vs Q E hr h => ?_)
  · obtain ⟨i, rfl, _⟩ := h
    rfl
  · obtain ⟨i, rfl, q⟩ := h
    refine ⟨_, (pss_one (ps_ret (pe_and (pe_callB (call_isiQ K) (by rfl) T.m_isinstance (by decide +kernel) (pa_cons (pv 0) (pa_cons (pe_bltn (v := .ty "int") (by rfl) T.m_int (by decide +kernel) rfl) pa_nil))) (pe_one (pe_not (pe_callB (call_isiQ K) (by rfl) T.m_isinstance (by decide +kernel) (pa_cons (pv 0) (pa_cons (pe_bltn (v := .ty "bool") (by rfl) T.m_bool (by decide +kernel) rfl) pa_nil)))))))), ?_⟩
    walk_at "rd"
    refine ⟨_, _, _, _, _, rfl, .ty _, .base (.int i), kit_ty (r := true) (by decide +kernel), ?_⟩
    refine ⟨_, rfl, g_itt rfl ?_⟩
    walk_at "rd"
    refine ⟨_, _, _, _, _, rfl, .ty _, .base (.int i), kit_ty (r := false) (by decide +kernel), ?_⟩
    exact ⟨_, rfl, q⟩
theorem ok_intH (F : Fun K "_law_is_integer" "_law_is_integer" s__law_is_integer f fd) (T : Txt K mg A) : L2H.FnH P w K mg base CX0 1 f fd ["actual"] Rt.spInt := by
  refine okH F sc__law_is_integer (fun vs H Q E h => ?_) (fun cdv A1 outer s H vs Q E p hot hr h => ?_)
  · obtain ⟨i, rfl, _⟩ := h
    rfl
  · obtain ⟨i, rfl, q⟩ := h
    refine ⟨_, (pss_one (ps_ret (pe_and (pe_callB (call_isiQ K) (by rfl) T.m_isinstance (by decide +kernel) (pa_cons (pv 0) (pa_cons (pe_bltn (v := .ty "int") (by rfl) T.m_int (by decide +kernel) rfl) pa_nil))) (pe_one (pe_not (pe_callB (call_isiQ K) (by rfl) T.m_isinstance (by decide +kernel) (pa_cons (pv 0) (pa_cons (pe_bltn (v := .ty "bool") (by rfl) T.m_bool (by decide +kernel) rfl) pa_nil)))))))), ?_⟩
    walk_at "rd"
    refine ⟨_, _, _, _, _, rfl, .ty _, .base (.int i), kit_ty (r := true) (by decide +kernel), ?_⟩
    refine ⟨_, rfl, g_itt rfl ?_⟩
    walk_at "rd"
    refine ⟨_, _, _, _, _, rfl, .ty _, .base (.int i), kit_ty (r := false) (by decide +kernel), ?_⟩
    exact ⟨_, rfl, q⟩
/-! ### _law_numbers -/
/-- a list or, with b, a tuple of the ints xs at a -/
def SeqAt' (H : Hp) (b : Bool) (a : Addr) (xs : List Int) : Prop := H a = some (if b = true then .tup (xs.map V.int) else .lst (xs.map V.int))
def spNumbers (K : PySem.W.Frag) : Sp := fun vs H Q _ => ∃ (a l : Addr) (b : Bool) (xs ys : List Int), vs = [.ref a, .ref l, .bl b] ∧ SeqAt' H b a xs ∧ SqL K H l (ys.map V.int) ∧ ys.length ≤ 100000 ∧ Q (.bl (decide (xs = ys))) H
theorem ok_numbers (F : Fun K "_law_numbers" "_law_numbers" s__law_numbers f fd) (T : Txt K mg A) (D__law_is_integer : DefOk P w K mg base CX0 1 "_law_is_integer" ["actual"] Rt.spInt) : FnOk P w K mg base CX0 2 f fd ["actual", "due", "as_tuple"] (Rt.spNumbers K) := by
  refine F.ok sc__law_numbers (fun vs H Q E h => ?_) (fun cdv A1 outer s H vs Q E hr h => ?_)
  · obtain ⟨a, l, b, xs, ys, rfl, _⟩ := h
    rfl
  · obtain ⟨a, l, b, xs, ys, rfl, ha, hs, hy, q⟩ := h
    refine ⟨_, (pss_cons (ps_if (PW.pt (pw_or (PW.pt (pw_and (pt_val (pv 2)) (pw_and1 (pt_not (pt_val (pe_callB (call_isiQ K) (by rfl) T.m_isinstance (by decide +kernel) (pa_cons (pv 0) (pa_cons (pe_bltn (v := .ty "tuple") (by rfl) T.m_tuple (by decide +kernel) rfl) pa_nil)))))))) (pw_or1 (PW.pt (pw_and (pt_not (pt_val (pv 2))) (pw_and1 (pt_not (pt_val (pe_callB (call_isiQ K) (by rfl) T.m_isinstance (by decide +kernel) (pa_cons (pv 0) (pa_cons (pe_bltn (v := .ty "list") (by rfl) T.m_list (by decide +kernel) rfl) pa_nil))))))))))) (pss_one (ps_ret pe_bl)) pss_nil)
      (pss_cons (ps_if (pt_cmpR op_ne (pe_callB (call_lenK K) (by rfl) T.m_len PySem.boot_len (pa_cons (pv 0) pa_nil)) (pe_callB (call_lenK K) (by rfl) T.m_len PySem.boot_len (pa_cons (pv 1) pa_nil)) (nomark _)) (pss_one (ps_ret pe_bl)) pss_nil)
      (pss_cons (ps_for (PassesOwn.never) rfl (pi_range1 rfl T.m_range (pa_cons (pe_callB (call_lenK K) (by rfl) T.m_len PySem.boot_len (pa_cons (pv 1) pa_nil)) pa_nil)) (pg_name (i := 3) sc__law_numbers.nd rfl (Or.inl rfl)) (pss_one (ps_if (PW.pt (pw_or (pt_not (pt_val (pe_callD D__law_is_integer (hr.mono (by decide)) pass0 (pa_cons (pe_ix (ix_seqK K) (pv 0) (pv 3) (fun _ _ => rfl)) pa_nil)))) (pw_or1 (pt_cmpR op_ne (pe_ix (ix_seqK K) (pv 0) (pv 3) (fun _ _ => rfl)) (pe_ix (ix_listK K) (pv 1) (pv 3) (fun _ _ => rfl)) (nomark _))))) (pss_one (ps_ret pe_bl)) pss_nil)))
      (pss_one (ps_ret pe_bl))))), ?_⟩
    have hlen : SqL K H a (xs.map V.int) ∨ SqT K H a (xs.map V.int) := by
      cases b with
      | true => exact .inr (SqT.of ha)
      | false => exact .inl (SqL.of ha)
    have hix : ∀ (i : Nat) (Q : VK), i < xs.length → Q (.int (xs.getD i 0)) H → rIx K (.ref a) (.int (i : Int)) H Q := fun i Q hi h => by
      cases b with
      | true => exact .inr (.inl (g_ixT (SqT.of ha) (at_int hi) h))
      | false => exact .inl (g_ixL (SqL.of ha) (at_int hi) h)
    have step : ∀ (i : Nat), i < ys.length → i < xs.length → (∀ j, j < i → xs.getD j 0 = ys.getD j 0) → xs.getD i 0 = ys.getD i 0 → ∀ j, j < i + 1 → xs.getD j 0 = ys.getD j 0 := fun i _ _ h h2 j hj => by
      rcases Nat.lt_succ_iff_lt_or_eq.mp hj with z | z
      · exact h j z
      · rw [z]; exact h2
    cases b
    all_goals
      walk_at "rd"
      refine g_isi (b := true) (.base (by first | exact .tup ha | exact .lst ha)) (by decide +kernel) ?_
      walk_at "rd"
      refine ⟨a, _, rfl, hlen, ?_⟩
      walk_at "rd"
      refine ⟨l, _, rfl, .inl hs, ?_⟩
      rw [List.length_map, List.length_map]
      walk_at "rd"
      refine g_ite (fun e => ?_) (fun e => ?_)
      · walk_at "rd"
        have ne : ¬ xs = ys := fun z => by
          rw [z] at e; simp at e
        rw [decide_eq_false ne] at q
        exact q
      · have el : xs.length = ys.length := by
          have := e; simp at this
          omega
        walk_at "rd"
        refine ⟨l, _, rfl, .inl hs, ?_⟩
        rw [List.length_map]
        walk_at "rd"
        refine ⟨_, rfl, by omega, by omega, ?_⟩
        refine for_range (lo := 0) (fun i σ H' => ∃ v3 : Option V, σ = [some (.ref a), some (.ref l), some (.bl _), v3] ∧ H' = H ∧ ∀ j, j < i → xs.getD j 0 = ys.getD j 0) ⟨none, rfl, rfl, fun j h => absurd h (Nat.not_lt_zero j)⟩ ?_ ?_
        · rintro i σ H' hi ⟨v3, rfl, rfl, hin⟩
          have hi' : i < ys.length := by simpa using hi
          rw [Int.zero_add]
          walk_at "rd"
          refine hix i _ (by omega) ?_
          walk_at "rd"
          refine ⟨_, rfl, ?_⟩
          walk_at "rd"
          refine hix i _ (by omega) ?_
          walk_at "rd"
          refine g_ixL hs (at_int hi') ?_
          walk_at "rd"
          refine g_ite (fun e2 => ?_) (fun e2 => ?_)
          · walk_at "rd"
            have ne : ¬ xs = ys := fun z => by
              rw [z] at e2; simp at e2
            rw [decide_eq_false ne] at q
            exact q
          · walk_at "rd"
            have h2 : xs.getD i 0 = ys.getD i 0 := by simpa using e2
            exact ⟨_, rfl, rfl, step i hi' (by omega) hin h2⟩
        · rintro σ H' ⟨v3, rfl, rfl, hin⟩
          walk_at "rd"
          have e3 : xs = ys := ext_getD el fun i hi => hin i (by simpa using (by omega : i < ys.length))
          rw [decide_eq_true e3] at q
          exact q
end
end Rt
set_option Elab.async false
set_option linter.all false
set_option maxRecDepth 100000
set_option maxHeartbeats 4000000
namespace Rt
open PySem PySem.Spec L2
open PyProof.Rows (envOfC)
local macro_rules | `(tactic| walk_at "rd1") => `(tactic| (with_reducible first
  | refine g_var (by with_unfolding_all rfl) ?_
  | refine g_c ?_
  | refine g_op ?_
  | refine g_I0 ?_
  | refine g_eqI ?_
  | refine g_neI ?_
  | refine g_eqB ?_
  | refine g_neB ?_
  | refine g_cons ?_
  | refine g_nil ?_
  | refine g_seq ?_
  | refine g_asg ?_
  | refine g_name ?_
  | refine g_ret ?_
  | refine g_retN ?_
  | refine g_drop ?_
  | refine g_next ?_
  | refine g_if ?_
  | refine g_test ?_
  | refine g_tB ?_
  | refine g_bl ?_
  | refine g_and ?_
  | refine g_or ?_
  | refine g_not ?_
  | refine g_andV ?_
  | refine g_orV ?_
  | refine g_notV ?_
  | refine g_ifE ?_
  | refine g_cb ?_
  | refine g_call ?_
  | refine g_callS ?_
  | refine g_bm ?_
  | refine g_un ?_
  | refine g_U ?_
  | refine g_chain ?_
  | refine g_sl ?_
  | refine g_brk ?_
  | refine g_ct ?_
  | refine g_ipI ?_
  | refine g_fld ?_
  | refine g_lst ?_
  | refine g_int ?_
  | refine g_for ?_
  | refine g_rg1 ?_
  | refine g_rg2 ?_
  | refine g_il ?_
  | refine g_it ?_
  | refine g_lc ?_
  | refine g_yes ?_
  | refine g_tup ?_
  | refine g_part ?_
  | refine g_xf ?_
  | refine g_nn ?_
  | refine g_mko ?_
  | refine g_lrg ?_
  | refine g_tr1 ?_
  | refine g_tr2 ?_
  | refine g_oi2 ?_
  | refine g_mk ?_
  | refine g_sfld ?_
  | refine g_ost ?_
  | refine g_oi ?_
  | refine g_nopart ?_
  | refine g_tt ?_
  | refine g_ff ?_
  | refine g_nt ?_
  | refine g_nf ?_
  | refine g_drn ?_
  | refine g_din ?_
  | refine g_dnn ?_
  | refine g_nrn ?_
  | refine g_nin ?_
  | refine g_nnn ?_))
local macro_rules | `(tactic| walk_at "rd") => `(tactic| (repeat walk_at "rd1"))

section
variable {P : Program} {w : World} {K : PySem.W.Frag} {mg : Str → Option Value} {base : Heap} {f : Addr} {fd : FuncData} {A : Ad}
/-! ### _law_lengths -/
def spLengths : Sp := fun vs H Q _ => ∃ (c : Int) (n : Nat), vs = [.int c, .int (n : Int)] ∧ n ≤ 900 ∧
  ∀ (p : Addr) (H' : Hp) (ls : List Int), H p = none → Same H H' → H' p = some (.lst (ls.map V.int)) → ls.length = n → (∀ x ∈ ls, 1 ≤ x ∧ x ≤ 1000000000) → Q (.ref p) H'
theorem ok_lengths (F : Fun K "_law_lengths" "_law_lengths" s__law_lengths f fd) (T : Txt K mg A) (D__law_draws : DefOk P w K mg base CX0 1 "_law_draws" ["cell", "sizes"] (Rt.spDraws K)) : FnOk P w K mg base CX0 2 f fd ["cell", "many"] Rt.spLengths := by
  refine F.ok sc__law_lengths (fun vs H Q E h => ?_) (fun cdv A1 outer s H vs Q E hr h => ?_)
  · obtain ⟨c, n, rfl, _⟩ := h
    rfl
  · obtain ⟨c, n, rfl, hn, q⟩ := h
    refine ⟨_, (pss_cons (ps_set (i := 2) sc__law_lengths.nd rfl (Or.inl rfl) (pe_ix (ix_listK K) (pe_callD D__law_draws (hr.mono (by decide)) pass0 (pa_cons (pv 0) (pa_cons (pe_lst (pa_cons pe_int pa_nil)) pa_nil))) pe_int (fun _ _ => rfl)))
      (pss_cons (ps_set (i := 3) sc__law_lengths.nd rfl (Or.inl rfl) (pe_ix (ix_listK K) (pe_lst (pa_cons pe_int (pa_cons pe_int (pa_cons pe_int (pa_cons (pe_op op_pow pe_int pe_int) pa_nil))))) (pv 2) (fun _ _ => rfl)))
      (pss_one (ps_ret (pe_lc (own := [("draw", 4)]) (g := gName 4) (tt := tYes) rfl sc__law_lengths.nd (pi_listK K (pe_slice (sl_listK K) (pe_callD D__law_draws (hr.mono (by decide)) pass0 (pa_cons (pv 0) (pa_cons (pe_op op_cat (pe_lst (pa_cons pe_int pa_nil)) (pe_op op_rep (pe_lst (pa_cons (pv 3) pa_nil)) (pv 1))) pa_nil))) (po_some pe_int) po_none)) (blkOk_by (N := ["cell", "many", "flavour", "size", "draw"]) (sc := defScope s__law_lengths) (by decide +kernel)) (fun _ _ _ _ _ => (by exact (pg_name (i := 4) sc__law_lengths.nd rfl (Or.inl rfl)))) (fun _ _ _ _ _ => (by exact pts_nil)) (fun _ _ _ _ _ => (by exact (pe_op op_add pe_int (pv 4))))))))), ?_⟩
    walk_at "rd"
    refine newL fun a Ha na Sa ha => ?_
    walk_at "rd"
    refine ⟨a, c, [4], rfl, SqL.of ha, by decide, fun i hi => ?_, fun p1 H1 ds np1 S1 h1 dr => ?_⟩
    · have : i = 0 := by simpa using hi
      subst this; decide
    have f0 := dr.at_ 0 (by decide)
    have f0b : ds.getD 0 0 < 4 := f0.2
    refine g_ixL (SqL.of h1) (at_int (o := 0) (by rw [dr.len]; decide)) ?_
    walk_at "rd"
    refine g_I ⟨by decide, by decide, by decide⟩ ?_
    walk_at "rd"
    refine newL fun a2 Ha2 na2 Sa2 ha2 => ?_
    walk_at "rd"
    generalize hfl : ds.getD 0 0 = fl at f0 f0b
    have hm := at_toNat (zs := [1, 1, 4, 10 ^ (9 : Int).toNat]) f0.1 (by simpa using f0b)
    generalize hsz : ([1, 1, 4, 10 ^ (9 : Int).toNat] : List Int).getD fl.toNat 0 = sz at hm
    have hsz2 : 1 ≤ sz ∧ sz ≤ 1000000000 := by
      have hc : fl = 0 ∨ fl = 1 ∨ fl = 2 ∨ fl = 3 := by omega
      rcases hc with z | z | z | z <;> (subst z; subst hsz; decide)
    refine g_ixL (xs := ([1, 1, 4, 10 ^ (9 : Int).toNat] : List Int).map V.int) (SqL.of ha2) hm ?_
    walk_at "rd"
    refine newL fun a3 Ha3 na3 Sa3 ha3 => ?_
    walk_at "rd"
    refine newL fun a4 Ha4 na4 Sa4 ha4 => ?_
    walk_at "rd"
    refine g_rep1 (k := n) ha4 (by omega) fun a5 Ha5 na5 Sa5 ha5 => ?_
    have S5 : Same Ha3 Ha5 := Sa4.trans Sa5
    refine g_cat (xs := [4]) (S5 _ _ ha3) ha5 (by rw [List.length_replicate]; simp; omega) fun a6 Ha6 na6 Sa6 ha6 => ?_
    walk_at "rd"
    refine ⟨a6, c, _, rfl, SqL.of ha6, by simp; omega, fun i hi => ?_, fun p2 H2 es np2 S2 h2 dr2 => ?_⟩
    · cases i with
      | zero => exact (by decide : (0 : Int) < 4 ∧ (4 : Int) < 2 ^ 64)
      | succ i =>
        have hi' : i < n := by simpa using hi
        have e : (([4] : List Int) ++ List.replicate n sz).getD (i + 1) 0 = sz := getD_rep hi'
        rw [e]; omega
    walk_at "rd"
    have dt : Dr (List.replicate n sz) (es.drop 1) := Dr.tail dr2
    refine g_sl1 (SqL.of h2) (by rw [dr2.len]; simp) fun p3 H3 np3 S3 h3 => ?_
    refine ⟨p3, rfl, ⟨_, SqL.of h3⟩, fun D nD => ?_⟩
    have hl : (es.drop 1).length = n := by rw [dt.len, List.length_replicate]
    have ST : Same H H3 := (((((((Sa.trans S1).trans Sa2).trans Sa3).trans Sa4).trans Sa5).trans Sa6).trans S2).trans S3
    refine lc_ints (fun x => 1 + x) (SqL.of h3) nD (by omega) (fun i x H' hx S' Q' hq => ?_) (fun H' S' h' => ?_)
    · walk_at "rd"
      refine ⟨rfl, ?_⟩
      walk_at "rd"
      exact hq H' (Same.refl _)
    · refine q D H' _ (ST.free nD) (ST.trans S') h' (by rw [List.length_map, hl]) fun y hy => ?_
      obtain ⟨x, hx, rfl⟩ := List.mem_map.mp hy
      obtain ⟨i, hi, rfl⟩ := mem_getD hx
      have hb := dt.at_ i (by rw [List.length_replicate]; omega)
      rw [getD_rep (by omega)] at hb
      show 1 ≤ 1 + _ ∧ 1 + _ ≤ _
      omega
/-! ### _law_strengths -/
theorem sl_draw {Q : VK} {p2 : Addr} {es ms : List Int} {H0 H2 : Hp} (ST : Same H0 H2) (h2 : H2 p2 = some (.lst (es.map V.int))) {m : Int} (dr : Dr (m :: ms) es) (hm : ∀ i, i < ms.length → ms.getD i 0 < 2 ^ 64)
    (q : ∀ (p : Addr) (H' : Hp) (ss : List Int), H0 p = none → Same H0 H' → H' p = some (.lst (ss.map V.int)) → ss.length = ms.length → (∀ x ∈ ss, 0 ≤ x ∧ x < 2 ^ 64) → Q (.ref p) H') : rSlL K (.ref p2) (some 1) none H2 Q := by
  refine g_sl1 (SqL.of h2) (by rw [dr.len]; simp) fun p3 H3 np3 S3 h3 => ?_
  have dt := Dr.tail dr
  refine q p3 H3 _ (ST.free np3) (ST.trans S3) h3 dt.len fun x hx => ?_
  obtain ⟨i, hi, rfl⟩ := mem_getD hx
  have hb := dt.at_ i (by rw [← dt.len]; exact hi)
  have hc := hm i (by rw [← dt.len]; exact hi)
  omega
def spStrengths (K : PySem.W.Frag) : Sp := fun vs H Q _ => ∃ (c : Int) (l : Addr) (ls : List Int), vs = [.int c, .ref l] ∧ SqL K H l (ls.map V.int) ∧ ls.length ≤ 900 ∧ (∀ x ∈ ls, 1 ≤ x ∧ x ≤ 1000000000) ∧
  ∀ (p : Addr) (H' : Hp) (ss : List Int), H p = none → Same H H' → H' p = some (.lst (ss.map V.int)) → ss.length = ls.length → (∀ x ∈ ss, 0 ≤ x ∧ x < 2 ^ 64) → Q (.ref p) H'
theorem ok_strengths (F : Fun K "_law_strengths" "_law_strengths" s__law_strengths f fd) (T : Txt K mg A) (D__law_draws : DefOk P w K mg base CX0 1 "_law_draws" ["cell", "sizes"] (Rt.spDraws K)) : FnOk P w K mg base CX0 2 f fd ["cell", "sizes"] (Rt.spStrengths K) := by
  refine F.ok sc__law_strengths (fun vs H Q E h => ?_) (fun cdv A1 outer s H vs Q E hr h => ?_)
  · obtain ⟨c, l, ls, rfl, _⟩ := h
    rfl
  · obtain ⟨c, l, ls, rfl, hs, hn, hb, q⟩ := h
    have t0 : 0 ≤ ls.sum := sum_ge fun x hx => by have := hb x hx; omega
    have t1 : ls.sum ≤ 1000000000 * ls.length := sum_le fun x hx => (hb x hx).2
    have t2 : ls.sum ≤ 900000000000 := by omega
    refine ⟨_, (pss_cons (ps_set (i := 2) sc__law_strengths.nd rfl (Or.inl rfl) (pe_ix (ix_listK K) (pe_callD D__law_draws (hr.mono (by decide)) pass0 (pa_cons (pv 0) (pa_cons (pe_lst (pa_cons pe_int pa_nil)) pa_nil))) pe_int (fun _ _ => rfl)))
      (pss_cons (ps_set (i := 3) sc__law_strengths.nd rfl (Or.inl rfl) (pe_callB (cr_sumK K rfl) (by rfl) T.m_sum (by decide +kernel) (pa_cons (pv 1) pa_nil)))
      (pss_cons (ps_if (pt_cmpR op_eq (pv 2) pe_int (nomark _)) (pss_one (ps_ret (pe_slice (sl_listK K) (pe_callD D__law_draws (hr.mono (by decide)) pass0 (pa_cons (pv 0) (pa_cons (pe_op op_cat (pe_lst (pa_cons pe_int pa_nil)) (pe_lc (own := [("size", 4)]) (g := gName 4) (tt := tYes) rfl sc__law_strengths.nd (pi_listK K (pv 1)) (blkOk_by (N := ["cell", "sizes", "flavour", "total", "size", "level", "most"]) (sc := defScope s__law_strengths) (by decide +kernel)) (fun _ _ _ _ _ => (by exact (pg_name (i := 4) sc__law_strengths.nd rfl (Or.inl rfl)))) (fun _ _ _ _ _ => (by exact pts_nil)) (fun _ _ _ _ _ => (by exact (pe_op op_add (pv 4) pe_int))))) pa_nil))) (po_some pe_int) po_none))) pss_nil)
      (pss_cons (ps_if (pt_cmpR op_eq (pv 2) pe_int (nomark _)) (pss_cons (ps_set (i := 5) sc__law_strengths.nd rfl (Or.inr rfl) (pe_ix (ix_listK K) (pe_callD D__law_draws (hr.mono (by decide)) pass0 (pa_cons (pv 0) (pa_cons (pe_lst (pa_cons pe_int (pa_cons (pe_op op_add (pv 3) pe_int) pa_nil))) pa_nil))) pe_int (fun _ _ => rfl)))
      (pss_one (ps_ret (pe_lc (own := [("size", 4)]) (g := gName 4) (tt := tYes) rfl sc__law_strengths.nd (pi_listK K (pv 1)) (blkOk_by (N := ["cell", "sizes", "flavour", "total", "size", "level", "most"]) (sc := defScope s__law_strengths) (by decide +kernel)) (fun _ _ _ _ _ => (by exact (pg_name (i := 4) sc__law_strengths.nd rfl (Or.inl rfl)))) (fun _ _ _ _ _ => (by exact pts_nil)) (fun _ _ _ _ _ => (by exact (pv 5))))))) pss_nil)
      (pss_cons (ps_set (i := 6) sc__law_strengths.nd rfl (Or.inl rfl) (pe_ix (ix_listK K) (pe_lst (pa_cons pe_int (pa_cons (pe_op op_add (pe_callB (call_lenK K) (by rfl) T.m_len PySem.boot_len (pa_cons (pv 1) pa_nil)) pe_int) (pa_cons (pe_op op_add (pv 3) pe_int) (pa_cons pe_int (pa_cons pe_int (pa_cons (pe_op op_add (pe_op op_pow pe_int pe_int) pe_int) pa_nil))))))) (pv 2) (fun _ _ => rfl)))
      (pss_one (ps_ret (pe_slice (sl_listK K) (pe_callD D__law_draws (hr.mono (by decide)) pass0 (pa_cons (pv 0) (pa_cons (pe_op op_cat (pe_lst (pa_cons pe_int pa_nil)) (pe_op op_rep (pe_lst (pa_cons (pv 6) pa_nil)) (pe_callB (call_lenK K) (by rfl) T.m_len PySem.boot_len (pa_cons (pv 1) pa_nil)))) pa_nil))) (po_some pe_int) po_none)))))))), ?_⟩
    walk_at "rd"
    refine newL fun a Ha na Sa ha => ?_
    walk_at "rd"
    refine ⟨a, c, [6], rfl, SqL.of ha, by decide, fun i hi => ?_, fun p1 H1 ds np1 S1 h1 dr => ?_⟩
    · have : i = 0 := by simpa using hi
      subst this; decide
    have f0 := dr.at_ 0 (by decide)
    have f0b : ds.getD 0 0 < 6 := f0.2
    refine g_ixL (SqL.of h1) (at_int (o := 0) (by rw [dr.len]; decide)) ?_
    generalize hfl : ds.getD 0 0 = fl at f0 f0b
    walk_at "rd"
    have SA : Same H H1 := Sa.trans S1
    refine ⟨l, ls, rfl, SA.seq hs, ?_⟩
    walk_at "rd"
    refine g_ite (fun e => ?_) (fun e => ?_)
    · walk_at "rd"
      refine newL fun a4 Ha4 na4 Sa4 ha4 => ?_
      walk_at "rd"
      have SB : Same H Ha4 := SA.trans Sa4
      refine ⟨l, rfl, ⟨_, SB.seq hs⟩, fun D nD => ?_⟩
      refine lc_ints (fun x => x + 1) (SB.seq hs) nD (by omega) (fun i x H' hx S' Q' hq => ?_) (fun H' S' h' => ?_)
      · walk_at "rd"
        refine ⟨rfl, ?_⟩
        walk_at "rd"
        exact hq H' (Same.refl _)
      · refine g_cat (xs := [6]) (S' _ _ ha4) h' (by simp; omega) fun a6 Ha6 na6 Sa6 ha6 => ?_
        walk_at "rd"
        refine ⟨a6, c, _, rfl, SqL.of ha6, by simp; omega, fun i hi => ?_, fun p2 H2 es np2 S2 h2 dr2 => ?_⟩
        · cases i with
          | zero => exact (by decide : (0 : Int) < 6 ∧ (6 : Int) < 2 ^ 64)
          | succ i =>
            have hi' : i < ls.length := by simpa using hi
            have e : (([6] : List Int) ++ ls.map fun x => x + 1).getD (i + 1) 0 = ls.getD i 0 + 1 := getD_map hi'
            have := hb _ (getD_mem hi')
            rw [e]; omega
        walk_at "rd"
        refine sl_draw (m := 6) (ms := ls.map fun x => x + 1) (((SB.trans S').trans Sa6).trans S2) h2 dr2 (fun i hi => ?_) fun p H' ss np S h hl hx => q p H' ss np S h (by rw [hl, List.length_map]) hx
        have hi' : i < ls.length := by simpa using hi
        have := hb _ (getD_mem hi')
        rw [getD_map hi']; omega
    · walk_at "rd"
      refine g_ite (fun e4 => ?_) (fun e4 => ?_)
      · walk_at "rd"
        refine newL fun a6 Ha6 na6 Sa6 ha6 => ?_
        walk_at "rd"
        refine ⟨a6, c, [6, ls.sum + 3], rfl, SqL.of ha6, by simp, fun i hi => ?_, fun p2 H2 es np2 S2 h2 dr2 => ?_⟩
        · have : i = 0 ∨ i = 1 := by have : i < 2 := by simpa using hi
                                     omega
          rcases this with z | z <;> subst z
          · exact (by decide : (0 : Int) < 6 ∧ (6 : Int) < 2 ^ 64)
          · exact (by omega : (0 : Int) < ls.sum + 3 ∧ ls.sum + 3 < 2 ^ 64)
        have g1 := dr2.at_ 1 (by simp)
        have g1b : es.getD 1 0 < ls.sum + 3 := g1.2
        refine g_ixL (SqL.of h2) (at_int (o := 1) (by rw [dr2.len]; simp)) ?_
        generalize hlv : es.getD 1 0 = lv at g1 g1b
        walk_at "rd"
        have SB : Same H H2 := (SA.trans Sa6).trans S2
        refine ⟨l, rfl, ⟨_, SB.seq hs⟩, fun D nD => ?_⟩
        refine lc_ints (fun _ => lv) (SB.seq hs) nD (by omega) (fun i x H' hx S' Q' hq => ?_) (fun H' S' h' => ?_)
        · walk_at "rd"
          refine ⟨rfl, ?_⟩
          walk_at "rd"
          exact hq H' (Same.refl _)
        · refine q D H' _ (SB.free nD) (SB.trans S') h' (by rw [List.length_map]) fun y hy => ?_
          obtain ⟨x, hx, rfl⟩ := List.mem_map.mp hy
          show 0 ≤ lv ∧ lv < _
          omega
      · walk_at "rd"
        refine ⟨l, _, rfl, .inl (SA.seq hs), ?_⟩
        rw [List.length_map]
        walk_at "rd"
        refine g_I ⟨by decide, by decide, by decide⟩ ?_
        walk_at "rd"
        refine newL fun a5 Ha5 na5 Sa5 ha5 => ?_
        walk_at "rd"
        have hm := at_toNat (zs := [3, (ls.length : Int) + 2, ls.sum + 3, 0, 0, 10 ^ (12 : Int).toNat + 1]) f0.1 (by simpa using f0b)
        generalize hsz : ([3, (ls.length : Int) + 2, ls.sum + 3, 0, 0, 10 ^ (12 : Int).toNat + 1] : List Int).getD fl.toNat 0 = sz at hm
        have hsz2 : 0 < sz ∧ sz < 2 ^ 64 := by
          have n3 : fl ≠ 3 := by simpa using e
          have n4 : fl ≠ 4 := by simpa using e4
          have hc : fl = 0 ∨ fl = 1 ∨ fl = 2 ∨ fl = 5 := by omega
          rcases hc with z | z | z | z <;> (subst z; subst hsz)
          · exact (by decide : (0 : Int) < 3 ∧ (3 : Int) < 2 ^ 64)
          · exact (by omega : (0 : Int) < (ls.length : Int) + 2 ∧ (ls.length : Int) + 2 < 2 ^ 64)
          · exact (by omega : (0 : Int) < ls.sum + 3 ∧ ls.sum + 3 < 2 ^ 64)
          · exact (by decide : (0 : Int) < 10 ^ (12 : Int).toNat + 1 ∧ (10 : Int) ^ (12 : Int).toNat + 1 < 2 ^ 64)
        refine g_ixL (xs := ([3, (ls.length : Int) + 2, ls.sum + 3, 0, 0, 10 ^ (12 : Int).toNat + 1] : List Int).map V.int) (SqL.of ha5) hm ?_
        walk_at "rd"
        refine newL fun a3 Ha3 na3 Sa3 ha3 => ?_
        walk_at "rd"
        refine newL fun a4 Ha4 na4 Sa4 ha4 => ?_
        walk_at "rd"
        have SC : Same H Ha4 := (((SA.trans Sa5).trans Sa3).trans Sa4)
        refine ⟨l, _, rfl, .inl (SC.seq hs), ?_⟩
        rw [List.length_map]
        refine g_rep1 (k := ls.length) ha4 (by omega) fun a7 Ha7 na7 Sa7 ha7 => ?_
        have S5 : Same Ha3 Ha7 := Sa4.trans Sa7
        refine g_cat (xs := [6]) (S5 _ _ ha3) ha7 (by rw [List.length_replicate]; simp; omega) fun a6 Ha6 na6 Sa6 ha6 => ?_
        walk_at "rd"
        refine ⟨a6, c, _, rfl, SqL.of ha6, by simp; omega, fun i hi => ?_, fun p2 H2 es np2 S2 h2 dr2 => ?_⟩
        · cases i with
          | zero => exact (by decide : (0 : Int) < 6 ∧ (6 : Int) < 2 ^ 64)
          | succ i =>
            have hi' : i < ls.length := by simpa using hi
            have e : (([6] : List Int) ++ List.replicate ls.length sz).getD (i + 1) 0 = sz := getD_rep hi'
            rw [e]; omega
        walk_at "rd"
        refine sl_draw (m := 6) (ms := List.replicate ls.length sz) (((SC.trans Sa7).trans Sa6).trans S2) h2 dr2 (fun i hi => ?_) fun p H' ss np S h hl hx => q p H' ss np S h (by rw [hl, List.length_replicate]) hx
        have hi' : i < ls.length := by simpa using hi
        rw [getD_rep hi']; omega
/-! ### _law_reach -/
def spReach (K : PySem.W.Frag) : Sp := fun vs H Q _ => ∃ (r : Bool) (la sa : Addr) (ls ss : List Int) (p : Nat), vs = [.bl r, .ref la, .ref sa, .int (p : Int)] ∧ SqL K H la (ls.map V.int) ∧ SqL K H sa (ss.map V.int) ∧ ls.length = ss.length ∧ p < ss.length ∧ ss.length ≤ 1000 ∧ Q (.int (rch r ss ls p)) H
theorem ok_reach (F : Fun K "_law_reach" "_law_reach" s__law_reach f fd) (T : Txt K mg A) : FnOk P w K mg base CX0 1 f fd ["round_flag", "sizes", "strengths", "place"] (Rt.spReach K) := by
  refine F.ok sc__law_reach (fun vs H Q E h => ?_) (fun cdv A1 outer s H vs Q E hr h => ?_)
  · obtain ⟨r, la, sa, ls, ss, p, rfl, _⟩ := h
    rfl
  · obtain ⟨r, la, sa, ls, ss, p, rfl, hl, hs, el, hp, hn, q⟩ := h
    refine ⟨_, (pss_cons (ps_set (i := 4) sc__law_reach.nd rfl (Or.inl rfl) (pe_ix (ix_listK K) (pv 1) (pv 3) (fun _ _ => rfl)))
      (pss_cons (ps_for (PassesOwn.never) rfl (pi_range2 rfl T.m_range (pa_cons pe_int (pa_cons (pe_callB (call_lenK K) (by rfl) T.m_len PySem.boot_len (pa_cons (pv 1) pa_nil)) pa_nil))) (pg_name (i := 5) sc__law_reach.nd rfl (Or.inl rfl)) (pss_cons (ps_set (i := 6) sc__law_reach.nd rfl (Or.inl rfl) (pe_op op_add (pv 3) (pv 5)))
      (pss_cons (ps_if (pt_cmpR op_ge (pv 6) (pe_callB (call_lenK K) (by rfl) T.m_len PySem.boot_len (pa_cons (pv 1) pa_nil)) (nomark _)) (pss_cons (ps_if (pt_not (pt_val (pv 0))) (pss_one ps_break) pss_nil)
      (pss_one (ps_set (i := 6) sc__law_reach.nd rfl (Or.inl rfl) (pe_op op_sub (pv 6) (pe_callB (call_lenK K) (by rfl) T.m_len PySem.boot_len (pa_cons (pv 1) pa_nil)))))) pss_nil)
      (pss_cons (ps_if (pt_cmpR op_ge (pe_ix (ix_listK K) (pv 2) (pv 6) (fun _ _ => rfl)) (pe_ix (ix_listK K) (pv 2) (pv 3) (fun _ _ => rfl)) (nomark _)) (pss_one ps_break) pss_nil)
      (pss_one (ps_set (i := 4) sc__law_reach.nd rfl (Or.inl rfl) (pe_op op_add (pv 4) (pe_ix (ix_listK K) (pv 1) (pv 6) (fun _ _ => rfl)))))))))
      (pss_one (ps_ret (pv 4))))), ?_⟩
    walk_at "rd"
    refine g_ixL hl (at_int (by omega)) ?_
    walk_at "rd"
    refine ⟨la, _, rfl, .inl hl, ?_⟩
    rw [List.length_map, el]
    walk_at "rd"
    refine ⟨1, _, rfl, ⟨by decide, by decide, by omega, by omega⟩, ?_⟩
    have en : ((ss.length : Int) - 1).toNat = ss.length - 1 := by omega
    rw [en]
    refine for_range (lo := 1) (fun i σ H' => ∃ v5 v6 : Option V, σ = [some (.bl r), some (.ref la), some (.ref sa), some (.int (p : Int)), some (.int (ls.getD p 0 + (((run r ss.length p).take i).map fun o => ls.getD o 0).sum)), v5, v6] ∧ H' = H ∧ Wkd r ss p i)
      ⟨none, none, by rw [List.take_zero, List.map_nil, List.sum_nil, Int.add_zero]; rfl, rfl, Wkd.zero⟩ ?_ ?_
    · rintro i σ H' hi ⟨v5, v6, rfl, rfl, wkd⟩
      walk_at "rd"
      refine ⟨la, _, rfl, .inl hl, ?_⟩
      rw [List.length_map, el]
      walk_at "rd"
      have hrun := run_at (r := r) hp (i := i) (by omega)
      refine g_ite (fun e => ?ca) (fun e => ?cb)
      case' ca =>
        walk_at "rd"
        refine g_ite (fun e2 => ?cc) (fun e2 => ?cd)
      case cc =>
        have hge : ¬ p + 1 + i < ss.length := by have := of_decide_eq_true e; omega
        have er : r = false := by simpa using e2
        subst er
        have full := wkd.full (by rw [run_len hp, if_neg Bool.false_ne_true]; omega)
        walk_at "rd"
        have eq : ls.getD p 0 + (((run false ss.length p).take i).map fun o => ls.getD o 0).sum = rch false ss ls p := by unfold rch; rw [full.1]
        rw [eq]
        exact q
      case' cd =>
        have hge : ¬ p + 1 + i < ss.length := by have := of_decide_eq_true e; omega
        have er : r = true := by simpa using e2
        rw [if_neg hge, if_pos er] at hrun
        walk_at "rd"
        refine ⟨la, _, rfl, .inl hl, ?_⟩
        rw [List.length_map, el]
        walk_at "rd"
        obtain ⟨o, ho, hol, eo⟩ : ∃ o : Nat, (run r ss.length p)[i]? = some o ∧ o < ss.length ∧ (p : Int) + (1 + (i : Int)) - (ss.length : Int) = (o : Int) := ⟨_, hrun, by omega, by omega⟩
        rw [eo]
      case' cb =>
        have hlt : p + 1 + i < ss.length := by have := of_decide_eq_false e; omega
        rw [if_pos hlt] at hrun
        walk_at "rd"
        obtain ⟨o, ho, hol, eo⟩ : ∃ o : Nat, (run r ss.length p)[i]? = some o ∧ o < ss.length ∧ (p : Int) + (1 + (i : Int)) = (o : Int) := ⟨_, hrun, by omega, by omega⟩
        rw [eo]
      all_goals
        refine g_ixL hs (at_int hol) ?_
        walk_at "rd"
        refine g_ixL hs (at_int hp) ?_
        walk_at "rd"
        refine g_ite (fun e3 => ?_) (fun e3 => ?_)
        · have stop := wkd.stop ho (wk_f e3)
          walk_at "rd"
          have eq : ls.getD p 0 + (((run r ss.length p).take i).map fun o => ls.getD o 0).sum = rch r ss ls p := by unfold rch; rw [stop.1]
          rw [eq]
          exact q
        · walk_at "rd"
          refine g_ixL hl (at_int (by omega)) ?_
          walk_at "rd"
          exact ⟨_, _, by rw [sum_more ho, Int.add_assoc]; rfl, rfl, wkd.more ho (wk_t e3)⟩
    · rintro σ H' ⟨v5, v6, rfl, rfl, wkd⟩
      have full := wkd.full (by have := run_le (r := r) hp; omega)
      walk_at "rd"
      have eq : ls.getD p 0 + (((run r ss.length p).take (ss.length - 1)).map fun o => ls.getD o 0).sum = rch r ss ls p := by unfold rch; rw [full.1]
      rw [eq]
      exact q
/-! ### _law_walk -/
def spWalk (K : PySem.W.Frag) : Sp := fun vs H Q _ => ∃ (r : Bool) (sa : Addr) (ss : List Int) (p : Nat), vs = [.bl r, .ref sa, .int (p : Int)] ∧ SqL K H sa (ss.map V.int) ∧ p < ss.length ∧ ss.length ≤ 1000 ∧
  ∀ (a t : Addr) (H' : Hp), H a = none → H t = none → Same H H' → H' a = some (.lst [.ref t, oV (stp r ss p)]) → H' t = some (.lst (nI (trn r ss p))) → Q (.ref a) H'
theorem ok_walk (F : Fun K "_law_walk" "_law_walk" s__law_walk f fd) (T : Txt K mg A) : FnOk P w K mg base CX0 1 f fd ["round_flag", "strengths", "place"] (Rt.spWalk K) := by
  refine F.ok sc__law_walk (fun vs H Q E h => ?_) (fun cdv A1 outer s H vs Q E hr h => ?_)
  · obtain ⟨r, sa, ss, p, rfl, _⟩ := h
    rfl
  · obtain ⟨r, sa, ss, p, rfl, hs, hp, hn, q⟩ := h
    refine ⟨_, (pss_cons (ps_set (i := 3) sc__law_walk.nd rfl (Or.inl rfl) (pe_lst pa_nil))
      (pss_cons (ps_for (PassesOwn.never) rfl (pi_range2 rfl T.m_range (pa_cons pe_int (pa_cons (pe_callB (call_lenK K) (by rfl) T.m_len PySem.boot_len (pa_cons (pv 1) pa_nil)) pa_nil))) (pg_name (i := 4) sc__law_walk.nd rfl (Or.inl rfl)) (pss_cons (ps_set (i := 5) sc__law_walk.nd rfl (Or.inl rfl) (pe_op op_add (pv 2) (pv 4)))
      (pss_cons (ps_if (pt_cmpR op_ge (pv 5) (pe_callB (call_lenK K) (by rfl) T.m_len PySem.boot_len (pa_cons (pv 1) pa_nil)) (nomark _)) (pss_cons (ps_if (pt_not (pt_val (pv 0))) (pss_one ps_break) pss_nil)
      (pss_one (ps_set (i := 5) sc__law_walk.nd rfl (Or.inl rfl) (pe_op op_sub (pv 5) (pe_callB (call_lenK K) (by rfl) T.m_len PySem.boot_len (pa_cons (pv 1) pa_nil)))))) pss_nil)
      (pss_cons (ps_if (pt_cmpR op_ge (pe_ix (ix_listK K) (pv 1) (pv 5) (fun _ _ => rfl)) (pe_ix (ix_listK K) (pv 1) (pv 2) (fun _ _ => rfl)) (nomark _)) (pss_one (ps_ret (pe_lst (pa_cons (pv 3) (pa_cons (pv 5) pa_nil))))) pss_nil)
      (pss_one (ps_expr (pe_appK K (pv 3) (pa_cons (pv 5) pa_nil))))))))
      (pss_one (ps_ret (pe_lst (pa_cons (pv 3) (pa_cons pe_non pa_nil))))))), ?_⟩
    walk_at "rd"
    refine newL fun t Ht nt St ht => ?_
    walk_at "rd"
    refine ⟨sa, _, rfl, .inl (St.seq hs), ?_⟩
    rw [List.length_map]
    walk_at "rd"
    refine ⟨1, _, rfl, ⟨by decide, by decide, by omega, by omega⟩, ?_⟩
    have en : ((ss.length : Int) - 1).toNat = ss.length - 1 := by omega
    rw [en]
    refine for_range (lo := 1) (fun i σ H' => ∃ v5 v6 : Option V, σ = [some (.bl r), some (.ref sa), some (.int (p : Int)), some (.ref t), v5, v6] ∧ Same H H' ∧ H' t = some (.lst (nI ((run r ss.length p).take i))) ∧ Wkd r ss p i)
      ⟨none, none, rfl, St, ht, Wkd.zero⟩ ?_ ?_
    · rintro i σ H' hi ⟨v5, v6, rfl, S', ht', wkd⟩
      have hs' := S'.seq hs
      walk_at "rd"
      refine ⟨sa, _, rfl, .inl hs', ?_⟩
      rw [List.length_map]
      walk_at "rd"
      have hrun := run_at (r := r) hp (i := i) (by omega)
      refine g_ite (fun e => ?ca) (fun e => ?cb)
      case' ca =>
        walk_at "rd"
        refine g_ite (fun e2 => ?cc) (fun e2 => ?cd)
      case cc =>
        have hge : ¬ p + 1 + i < ss.length := by have := of_decide_eq_true e; omega
        have er : r = false := by simpa using e2
        subst er
        have full := wkd.full (by rw [run_len hp, if_neg Bool.false_ne_true]; omega)
        walk_at "rd"
        refine newL fun a Ha na Sa ha => ?_
        rw [← full.1] at ht'
        exact q a t Ha (S'.free na) nt (S'.trans Sa) (by rw [full.2]; exact ha) (Sa _ _ ht')
      case' cd =>
        have hge : ¬ p + 1 + i < ss.length := by have := of_decide_eq_true e; omega
        have er : r = true := by simpa using e2
        rw [if_neg hge, if_pos er] at hrun
        walk_at "rd"
        refine ⟨sa, _, rfl, .inl hs', ?_⟩
        rw [List.length_map]
        walk_at "rd"
        obtain ⟨o, ho, hol, eo⟩ : ∃ o : Nat, (run r ss.length p)[i]? = some o ∧ o < ss.length ∧ (p : Int) + (1 + (i : Int)) - (ss.length : Int) = (o : Int) := ⟨_, hrun, by omega, by omega⟩
        rw [eo]
      case' cb =>
        have hlt : p + 1 + i < ss.length := by have := of_decide_eq_false e; omega
        rw [if_pos hlt] at hrun
        walk_at "rd"
        obtain ⟨o, ho, hol, eo⟩ : ∃ o : Nat, (run r ss.length p)[i]? = some o ∧ o < ss.length ∧ (p : Int) + (1 + (i : Int)) = (o : Int) := ⟨_, hrun, by omega, by omega⟩
        rw [eo]
      all_goals
        refine g_ixL hs' (at_int hol) ?_
        walk_at "rd"
        refine g_ixL hs' (at_int hp) ?_
        walk_at "rd"
        refine g_ite (fun e3 => ?_) (fun e3 => ?_)
        · have stop := wkd.stop ho (wk_f e3)
          walk_at "rd"
          refine newL fun a Ha na Sa ha => ?_
          rw [← stop.1] at ht'
          exact q a t Ha (S'.free na) nt (S'.trans Sa) (by rw [stop.2]; exact ha) (Sa _ _ ht')
        · walk_at "rd"
          refine ⟨ty_l ht', ?_⟩
          walk_at "rd"
          refine g_app ht' (by rw [List.length_map, List.length_take]; exact slt1000 (by omega)) ?_
          walk_at "rd"
          exact ⟨_, _, rfl, S'.mut nt, by rw [upd_same, take_more ho]; unfold nI; rw [List.map_append]; rfl, wkd.more ho (wk_t e3)⟩
    · rintro σ H' ⟨v5, v6, rfl, S', ht', wkd⟩
      have full := wkd.full (by have := run_le (r := r) hp; omega)
      walk_at "rd"
      refine newL fun a Ha na Sa ha => ?_
      rw [← full.1] at ht'
      exact q a t Ha (S'.free na) nt (S'.trans Sa) (by rw [full.2]; exact ha) (Sa _ _ ht')
end
end Rt
set_option Elab.async false
set_option linter.all false
set_option maxRecDepth 100000
set_option maxHeartbeats 4000000
namespace Rt
open PySem PySem.Spec L2
open PyProof.Rows (envOfC)
local macro_rules | `(tactic| walk_at "rd1") => `(tactic| (with_reducible first
  | refine g_var (by with_unfolding_all rfl) ?_
  | refine g_c ?_
  | refine g_op ?_
  | refine g_I0 ?_
  | refine g_eqI ?_
  | refine g_neI ?_
  | refine g_eqB ?_
  | refine g_neB ?_
  | refine g_cons ?_
  | refine g_nil ?_
  | refine g_seq ?_
  | refine g_asg ?_
  | refine g_name ?_
  | refine g_ret ?_
  | refine g_retN ?_
  | refine g_drop ?_
  | refine g_next ?_
  | refine g_if ?_
  | refine g_test ?_
  | refine g_tB ?_
  | refine g_bl ?_
  | refine g_and ?_
  | refine g_or ?_
  | refine g_not ?_
  | refine g_andV ?_
  | refine g_orV ?_
  | refine g_notV ?_
  | refine g_ifE ?_
  | refine g_cb ?_
  | refine g_call ?_
  | refine g_callS ?_
  | refine g_bm ?_
  | refine g_un ?_
  | refine g_U ?_
  | refine g_chain ?_
  | refine g_sl ?_
  | refine g_brk ?_
  | refine g_ct ?_
  | refine g_ipI ?_
  | refine g_fld ?_
  | refine g_lst ?_
  | refine g_int ?_
  | refine g_for ?_
  | refine g_rg1 ?_
  | refine g_rg2 ?_
  | refine g_il ?_
  | refine g_it ?_
  | refine g_lc ?_
  | refine g_yes ?_
  | refine g_tup ?_
  | refine g_part ?_
  | refine g_xf ?_
  | refine g_nn ?_
  | refine g_mko ?_
  | refine g_lrg ?_
  | refine g_tr1 ?_
  | refine g_tr2 ?_
  | refine g_oi2 ?_
  | refine g_mk ?_
  | refine g_sfld ?_
  | refine g_ost ?_
  | refine g_oi ?_
  | refine g_nopart ?_
  | refine g_tt ?_
  | refine g_ff ?_
  | refine g_nt ?_
  | refine g_nf ?_
  | refine g_drn ?_
  | refine g_din ?_
  | refine g_dnn ?_
  | refine g_nrn ?_
  | refine g_nin ?_
  | refine g_nnn ?_))
local macro_rules | `(tactic| walk_at "rd") => `(tactic| (repeat walk_at "rd1"))

/-! ### a standing in the heap -/
def bfs (ts tl : Addr) (r : Bool) : List (Str × V) := putF "ring" (.bl r) (putF "lengths" (.ref tl) (putF "strengths" (.ref ts) []))
structure BAt (C : Addr) (H : Hp) (b ts tl : Addr) (r : Bool) (ss ls : List Int) : Prop where
  ob : ∃ dx, H b = some (.ins C dx (bfs ts tl r))
  st : H ts = some (.tup (ss.map V.int))
  ln : H tl = some (.tup (ls.map V.int))
theorem BAt.mono {C : Addr} {H H' : Hp} {b ts tl : Addr} {r : Bool} {ss ls : List Int} (h : BAt C H b ts tl r ss ls) (S : Same H H') : BAt C H' b ts tl r ss ls :=
  ⟨let ⟨dx, e⟩ := h.ob; ⟨dx, S _ _ e⟩, S _ _ h.st, S _ _ h.ln⟩
theorem kne1 : ¬ (("strengths" : Str) = "ring") := by decide +kernel
theorem kne2 : ¬ (("strengths" : Str) = "lengths") := by decide +kernel
theorem kne3 : ¬ (("lengths" : Str) = "ring") := by decide +kernel
theorem bfs_s {ts tl : Addr} {r : Bool} : (bfs ts tl r).lookup ("strengths" : Str) = some (.ref ts) := by
  unfold bfs; rw [lookup_putF, if_neg kne1, lookup_putF, if_neg kne2, lookup_putF, if_pos rfl]
theorem bfs_l {ts tl : Addr} {r : Bool} : (bfs ts tl r).lookup ("lengths" : Str) = some (.ref tl) := by
  unfold bfs; rw [lookup_putF, if_neg kne3, lookup_putF, if_pos rfl]
theorem bfs_r {ts tl : Addr} {r : Bool} : (bfs ts tl r).lookup ("ring" : Str) = some (.bl r) := by
  unfold bfs; rw [lookup_putF, if_pos rfl]
section
variable {P : Program} {w : World} {K : PySem.W.Frag} {mg : Str → Option Value} {base : Heap} {f : Addr} {fd : FuncData} {A : Ad}
section
variable {H : Hp} {b ts tl : Addr} {r : Bool} {ss ls : List Int} {R : V → Prop}
theorem f_s (T : Txt K mg A) (B : BAt A.Beads H b ts tl r ss ls) (h : R (.ref ts)) : ∃ a C dx fs v, V.ref b = .ref a ∧ H a = some (.ins C dx fs) ∧ Cls K C ∧ NoAttr K C "strengths" ∧ fs.lookup ("strengths" : Str) = some v ∧ R v :=
  let ⟨dx, e⟩ := B.ob; ⟨b, A.Beads, dx, _, _, rfl, e, T.cl, T.nS, bfs_s, h⟩
theorem f_l (T : Txt K mg A) (B : BAt A.Beads H b ts tl r ss ls) (h : R (.ref tl)) : ∃ a C dx fs v, V.ref b = .ref a ∧ H a = some (.ins C dx fs) ∧ Cls K C ∧ NoAttr K C "lengths" ∧ fs.lookup ("lengths" : Str) = some v ∧ R v :=
  let ⟨dx, e⟩ := B.ob; ⟨b, A.Beads, dx, _, _, rfl, e, T.cl, T.nL, bfs_l, h⟩
theorem f_r (T : Txt K mg A) (B : BAt A.Beads H b ts tl r ss ls) (h : R (.bl r)) : ∃ a C dx fs v, V.ref b = .ref a ∧ H a = some (.ins C dx fs) ∧ Cls K C ∧ NoAttr K C "ring" ∧ fs.lookup ("ring" : Str) = some v ∧ R v :=
  let ⟨dx, e⟩ := B.ob; ⟨b, A.Beads, dx, _, _, rfl, e, T.cl, T.nR, bfs_r, h⟩
end
/-! ### BadPlace.__init__, check_place -/
theorem ok_BadPlace (F : Fun K "__init__" "BadPlace.__init__" s_BadPlace_init f fd) : FnOk P w K mg base CX0 1 f fd ["self", "place"] (spExc1 K A.BadPlace "place") := by
  refine F.ok sc_BadPlace_init (fun vs H Q E h => ?_) (fun cdv A1 outer s H vs Q E hr h => ?_)
  · obtain ⟨a, v, rfl, _⟩ := h
    rfl
  · obtain ⟨a, v, rfl, ha, T, no, q⟩ := h
    refine ⟨_, (pss_one (ps_ostK K (pv 0) (pv 1))), ?_⟩
    walk_at "rd"
    exact ⟨a, _, rfl, T, no, .inl ⟨ha, fun dx n ne => q dx n ne⟩⟩
/-- BadPlace(p) goes out -/
def BadP (A : Ad) (H : Hp) (E : XK) (p : Int) : Prop := ∀ d H', H d = none → Same H H' → H' d = some (.xd [("place", V.int p)]) → E (.ref A.BadPlace) (some d) H'
theorem BadP.mono {H H1 : Hp} {E : XK} {p : Int} (h : BadP A H E p) (S : Same H H1) : BadP A H1 E p := fun d H' n S' e => h d H' (S.free n) (S.trans S') e
def spCheck (A : Ad) : Sp := fun vs H Q E => ∃ n p : Int, vs = [.int n, .int p] ∧ (0 ≤ p ∧ p < n → Q .non H) ∧ (¬ (0 ≤ p ∧ p < n) → BadP A H E p)
theorem ok_check (F : Fun K "check_place" "check_place" s_check_place f fd) (T : Txt K mg A) (X_BadPlace : ExcDef P w K mg base "BadPlace" A.BadPlace "place") : FnOk P w K mg base (L2N.CX P w) 4 f fd ["many", "place"] (spCheck A) := by
  refine okN F sc_check_place (fun vs H Q E h => ?_) (fun cdv A1 outer s H vs Q E hr h => ?_)
  · obtain ⟨n, p, rfl, _⟩ := h
    rfl
  · obtain ⟨n, p, rfl, h1, h2⟩ := h
    refine ⟨_, (pss_one (ps_if (pt_not (pt_chain op_le op_lt pe_int (pv 1) (pv 0))) (pss_one (L2N.ps_raise rfl (takes_ofN rfl rfl rfl rfl) (pmk_D X_BadPlace (hr.mono (by decide)) (pa_cons (pv 1) pa_nil)))) pss_nil)), ?_⟩
    walk_at "rd"
    have bad : ¬ (0 ≤ p ∧ p < n) → MkO A.BadPlace (spExc1 K A.BadPlace "place") [V.int p] H E := fun z => mk1 T.oBP T.no_BadPlace_place (h2 z)
    refine g_ite (fun e => ?_) (fun e => ?_)
    · walk_at "rd"
      refine g_ite (fun e2 => ?_) (fun e2 => ?_)
      · walk_at "rd"
        have := of_decide_eq_true e
        exact bad (by simp at e2; omega)
      · walk_at "rd"
        have := of_decide_eq_true e
        exact h1 (by simp at e2; omega)
    · walk_at "rd"
      have := of_decide_eq_false e
      exact bad (by omega)
/-! ### Beads.__len__ -/
def spLen (A : Ad) : Sp := fun vs H Q _ => ∃ (b ts tl : Addr) (r : Bool) (ss ls : List Int), vs = [.ref b] ∧ BAt A.Beads H b ts tl r ss ls ∧ Q (.int (ss.length : Int)) H
theorem ok_len (F : Fun K "__len__" "Beads.__len__" s_Beads_len f fd) (T : Txt K mg A) : FnOk P w K mg base CX0 1 f fd ["self"] (spLen A) := by
  refine F.ok sc_Beads_len (fun vs H Q E h => ?_) (fun cdv A1 outer s H vs Q E hr h => ?_)
  · obtain ⟨b, ts, tl, r, ss, ls, rfl, _⟩ := h
    rfl
  · obtain ⟨b, ts, tl, r, ss, ls, rfl, B, q⟩ := h
    refine ⟨_, (pss_one (ps_ret (pe_callB (call_lenK K) (by rfl) T.m_len PySem.boot_len (pa_cons (pe_fldK K (pv 0) rfl) pa_nil)))), ?_⟩
    walk_at "rd"
    refine f_s T B ?_
    walk_at "rd"
    refine ⟨ts, _, rfl, .inr (SqT.of B.st), ?_⟩
    rw [List.length_map]
    exact q
theorem g_lenB {H : Hp} {b ts tl : Addr} {r : Bool} {ss ls : List Int} {Q : VK} (B : BAt A.Beads H b ts tl r ss ls) (hn : ss.length ≤ 1000) (h : Q (.int (ss.length : Int)) H) : rLenO A.Beads (spLen A) E0 [.ref b] H Q := by
  obtain ⟨dx, e⟩ := B.ob
  exact ⟨b, dx, _, rfl, e, b, ts, tl, r, ss, ls, rfl, B, (ss.length : Int), rfl, by omega, by omega, h⟩
/-! ### run_after -/
def spRun (A : Ad) : Sp := fun vs H Q _ => ∃ (b ts tl : Addr) (r : Bool) (ss ls : List Int) (p : Nat), vs = [.ref b, .int (p : Int)] ∧ BAt A.Beads H b ts tl r ss ls ∧ p < ss.length ∧ ss.length ≤ 1000 ∧
  ∀ (a : Addr) (H' : Hp), H a = none → Same H H' → H' a = some (.lst (nI (run r ss.length p))) → Q (.ref a) H'
theorem ok_run (F : Fun K "run_after" "run_after" s_run_after f fd) (T : Txt K mg A) (LN : LenD P w K mg base A.Beads (spLen A)) : FnOk P w K mg base CX0 4 f fd ["beads", "place"] (spRun A) := by
  refine F.ok sc_run_after (fun vs H Q E h => ?_) (fun cdv A1 outer s H vs Q E hr h => ?_)
  · obtain ⟨b, ts, tl, r, ss, ls, p, rfl, _⟩ := h
    rfl
  · obtain ⟨b, ts, tl, r, ss, ls, p, rfl, B, hp, hn, q⟩ := h
    refine ⟨_, (pss_cons (ps_set (i := 2) sc_run_after.nd rfl (Or.inl rfl) (pe_listRg rfl (by rfl) T.m_list (prg_2 (by rfl) T.m_range (pe_op op_add (pv 1) pe_int) (pe_callB (call_lenD LN (hr.mono (by decide))) (by rfl) T.m_len PySem.boot_len (pa_cons (pv 0) pa_nil)))))
      (pss_cons (ps_if (pt_val (pe_fldK K (pv 0) rfl)) (pss_one (ps_ret (pe_op op_cat (pv 2) (pe_listRg rfl (by rfl) T.m_list (prg_1 (by rfl) T.m_range (pv 1)))))) pss_nil)
      (pss_one (ps_ret (pv 2))))), ?_⟩
    walk_at "rd"
    refine g_lenB B hn ?_
    walk_at "rd"
    refine newRg (a := p + 1) (b := ss.length) (by omega) (by omega) fun a Ha na Sa ha => ?_
    have ea : ((List.range (ss.length - (p + 1))).map fun i => V.int ((p + 1 + i : Nat) : Int)) = nI ((List.range (ss.length - (p + 1))).map fun i => p + 1 + i) := by unfold nI; rw [List.map_map]; rfl
    rw [ea] at ha
    walk_at "rd"
    refine f_r T (B.mono Sa) ?_
    walk_at "rd"
    refine g_ite (fun e => ?_) (fun e => ?_)
    · subst e
      walk_at "rd"
      refine newRg (a := 0) (b := p) (by omega) (by omega) fun a2 Ha2 na2 Sa2 ha2 => ?_
      have eb : ((List.range (p - 0)).map fun i => V.int ((0 + i : Nat) : Int)) = nI (List.range p) := by unfold nI; rw [Nat.sub_zero]; simp
      rw [eb] at ha2
      have ha' := Sa2 _ _ ha
      rw [nI_eq] at ha' ha2
      refine g_cat ha' ha2 (by unfold iI; simp; omega) fun a3 Ha3 na3 Sa3 ha3 => ?_
      refine q a3 Ha3 ((Sa.trans Sa2).free na3) ((Sa.trans Sa2).trans Sa3) ?_
      rw [ha3, nI_eq]
      unfold run iI
      simp only [if_true, List.map_append]
    · subst e
      walk_at "rd"
      refine q a Ha na Sa ?_
      rw [ha]
      unfold run
      simp
/-! ### train_of -/
/-- what a def with a place promises: P if it is a place, BadPlace if not -/
def spPl (A : Ad) (R : Bool → List Int → List Int → Nat → Hp → VK → Prop) : Sp := fun vs H Q E => ∃ (b ts tl : Addr) (r : Bool) (ss ls : List Int) (p : Int), vs = [.ref b, .int p] ∧ BAt A.Beads H b ts tl r ss ls ∧ ls.length = ss.length ∧ ss.length ≤ 1000 ∧
  (0 ≤ p ∧ p < (ss.length : Int) → R r ss ls p.toNat H Q) ∧ (¬ (0 ≤ p ∧ p < (ss.length : Int)) → BadP A H E p)
def RTrain : Bool → List Int → List Int → Nat → Hp → VK → Prop := fun r ss _ p H Q => ∀ (t : Addr) (H' : Hp), H t = none → Same H H' → H' t = some (.lst (nI (trn r ss p))) → Q (.ref t) H'
def RReach : Bool → List Int → List Int → Nat → Hp → VK → Prop := fun r ss ls p H Q => ∀ H' : Hp, Same H H' → Q (.int (rch r ss ls p)) H'
def RStop : Bool → List Int → List Int → Nat → Hp → VK → Prop := fun r ss _ p H Q => ∀ H' : Hp, Same H H' → Q (oV (stp r ss p)) H'
theorem ok_train (F : Fun K "train_of" "train_of" s_train_of f fd) (T : Txt K mg A) (LN : LenD P w K mg base A.Beads (spLen A))
    (D_check_place : DefOk P w K mg base (L2N.CX P w) 4 "check_place" ["many", "place"] (spCheck A)) (D_run_after : DefOk P w K mg base CX0 4 "run_after" ["beads", "place"] (spRun A)) :
    FnOk P w K mg base (L2N.CX P w) 5 f fd ["beads", "place"] (spPl A RTrain) := by
  refine okN F sc_train_of (fun vs H Q E h => ?_) (fun cdv A1 outer s H vs Q E hr h => ?_)
  · obtain ⟨b, ts, tl, r, ss, ls, p, rfl, _⟩ := h
    rfl
  · obtain ⟨b, ts, tl, r, ss, ls, p, rfl, B, hl, hn, q1, q2⟩ := h
    refine ⟨_, (pss_cons (ps_expr (pe_callD D_check_place (hr.mono (by decide)) (passes_callN (takes_ofN rfl rfl rfl rfl)) (pa_cons (pe_callB (call_lenD LN (hr.mono (by decide))) (by rfl) T.m_len PySem.boot_len (pa_cons (pv 0) pa_nil)) (pa_cons (pv 1) pa_nil))))
      (pss_cons (ps_set (i := 2) sc_train_of.nd rfl (Or.inl rfl) (pe_lst pa_nil))
      (pss_cons (ps_for (passes_ofN rfl) rfl (pi_listK K (pe_callD D_run_after (hr.mono (by decide)) pass0 (pa_cons (pv 0) (pa_cons (pv 1) pa_nil)))) (pg_name (i := 3) sc_train_of.nd rfl (Or.inl rfl)) (pss_cons (ps_if (pt_cmpR op_ge (pe_ix (ix_tupK K) (pe_fldK K (pv 0) rfl) (pv 3) (fun _ _ => rfl)) (pe_ix (ix_tupK K) (pe_fldK K (pv 0) rfl) (pv 1) (fun _ _ => rfl)) (nomark _)) (pss_one ps_break) pss_nil)
      (pss_one (ps_expr (pe_appK K (pv 2) (pa_cons (pv 3) pa_nil))))))
      (pss_one (ps_ret (pv 2)))))), ?_⟩
    walk_at "rd"
    refine g_lenB B hn ?_
    walk_at "rd"
    refine ⟨_, p, rfl, fun hp => ?_, q2⟩
    obtain ⟨o, rfl⟩ : ∃ o : Nat, p = (o : Int) := ⟨p.toNat, by omega⟩
    have hp' : o < ss.length := by omega
    have q := q1 hp
    rw [Int.toNat_natCast] at q
    walk_at "rd"
    refine newL fun t Ht nt St ht => ?_
    walk_at "rd"
    refine ⟨b, ts, tl, r, ss, ls, o, rfl, B.mono St, hp', hn, fun a Ha na Sa ha => ?_⟩
    refine ⟨a, rfl, ⟨_, SqL.of ha⟩, for_list (xs := nI (run r ss.length o)) (fun i σ H' => ∃ v4 : Option V, σ = [some (.ref b), some (.int (o : Int)), some (.ref t), v4] ∧ Same H H' ∧ H' a = some (.lst (nI (run r ss.length o))) ∧ H' t = some (.lst (nI ((run r ss.length o).take i))) ∧ Wkd r ss o i)
      ⟨none, rfl, St.trans Sa, ha, Sa _ _ ht, Wkd.zero⟩ (fun i σ H' _ ⟨_, _, _, h, _⟩ => SqL.of h) ?_ ?_⟩
    · rintro i x σ H' hi ⟨v4, rfl, S', ha', ht', wkd⟩
      obtain ⟨j, hj, rfl⟩ : ∃ j, (run r ss.length o)[i]? = some j ∧ x = V.int (j : Int) := by
        rw [List.getElem?_map] at hi
        cases e : (run r ss.length o)[i]? with
        | none => rw [e] at hi; cases hi
        | some j => rw [e] at hi; exact ⟨j, rfl, (Option.some.inj hi).symm⟩
      have hjl : j < ss.length := run_lt hp' j (List.mem_of_getElem? hj)
      have B' := B.mono S'
      walk_at "rd"
      refine f_s T B' ?_
      walk_at "rd"
      refine g_ixT (SqT.of B'.st) (at_int hjl) ?_
      walk_at "rd"
      refine f_s T B' ?_
      walk_at "rd"
      refine g_ixT (SqT.of B'.st) (at_int hp') ?_
      walk_at "rd"
      have nat : a ≠ t := fun z => by
        rw [z, ht] at na; cases na
      refine g_ite (fun e3 => ?_) (fun e3 => ?_)
      · have stop := wkd.stop hj (wk_f e3)
        walk_at "rd"
        rw [← stop.1] at ht'
        exact q t H' nt S' ht'
      · walk_at "rd"
        refine ⟨ty_l ht', ?_⟩
        walk_at "rd"
        refine g_app ht' (by rw [List.length_map, List.length_take]; exact slt1000 (by have := run_le (r := r) hp'; omega)) ?_
        walk_at "rd"
        exact ⟨_, rfl, S'.mut nt, by rw [upd_ne nat]; exact ha', by rw [upd_same, take_more hj]; unfold nI; rw [List.map_append]; rfl, wkd.more hj (wk_t e3)⟩
    · rintro σ H' ⟨v4, rfl, S', ha', ht', wkd⟩
      have full := wkd.full (by unfold nI; rw [List.length_map]; exact Nat.le_refl _)
      walk_at "rd"
      rw [← full.1] at ht'
      exact q t H' nt S' ht'
/-! ### reach_of -/
theorem ok_reachOf (F : Fun K "reach_of" "reach_of" s_reach_of f fd) (T : Txt K mg A)
    (D_train_of : DefOk P w K mg base (L2N.CX P w) 5 "train_of" ["beads", "place"] (spPl A RTrain)) : FnOk P w K mg base (L2N.CX P w) 6 f fd ["beads", "place"] (spPl A RReach) := by
  refine okN F sc_reach_of (fun vs H Q E h => ?_) (fun cdv A1 outer s H vs Q E hr h => ?_)
  · obtain ⟨b, ts, tl, r, ss, ls, p, rfl, _⟩ := h
    rfl
  · obtain ⟨b, ts, tl, r, ss, ls, p, rfl, B, hl, hn, q1, q2⟩ := h
    refine ⟨_, (pss_cons (ps_set (i := 2) sc_reach_of.nd rfl (Or.inl rfl) (pe_callD D_train_of (hr.mono (by decide)) (passes_callN (takes_ofN rfl rfl rfl rfl)) (pa_cons (pv 0) (pa_cons (pv 1) pa_nil))))
      (pss_one (ps_ret (pe_op op_add (pe_ix (ix_tupK K) (pe_fldK K (pv 0) rfl) (pv 1) (fun _ _ => rfl)) (pe_callB (cr_sumK K rfl) (by rfl) T.m_sum (by decide +kernel) (pa_cons (pe_lc (own := [("other", 3)]) (g := gName 3) (tt := tYes) rfl sc_reach_of.nd (pi_listK K (pv 2)) (blkOk_by (N := ["beads", "place", "train", "other"]) (sc := defScope s_reach_of) (by decide +kernel)) (fun _ _ _ _ _ => (by exact (pg_name (i := 3) sc_reach_of.nd rfl (Or.inl rfl)))) (fun _ _ _ _ _ => (by exact pts_nil)) (fun _ _ _ _ _ => (by exact (pe_ix (ix_tupK K) (pe_fldK K (pv 0) rfl) (pv 3) (fun _ _ => rfl))))) pa_nil)))))), ?_⟩
    walk_at "rd"
    refine ⟨b, ts, tl, r, ss, ls, p, rfl, B, hl, hn, fun hp => ?_, q2⟩
    obtain ⟨o, rfl⟩ : ∃ o : Nat, p = (o : Int) := ⟨p.toNat, by omega⟩
    have hp' : o < ss.length := by omega
    have q := q1 hp
    rw [Int.toNat_natCast] at q ⊢
    intro t Ht nt St ht
    walk_at "rd"
    refine f_l T (B.mono St) ?_
    walk_at "rd"
    refine g_ixT (SqT.of (B.mono St).ln) (at_int (by omega)) ?_
    walk_at "rd"
    rw [nI_eq] at ht
    refine ⟨t, rfl, ⟨_, SqL.of ht⟩, fun D nD => ?_⟩
    refine lc_ints (fun x => ls.getD x.toNat 0) (SqL.of ht) nD (by unfold iI; rw [List.length_map]; have := run_le (r := r) hp'; have := trn_len (r := r) (ss := ss) (p := o); omega) (fun i x H' hx S' Q' hq => ?_) (fun H' S' h' => ?_)
    · obtain ⟨j, hj, rfl⟩ : ∃ j : Nat, j ∈ trn r ss o ∧ x = (j : Int) := by
        have := List.mem_of_getElem? hx
        obtain ⟨j, hj, e⟩ := List.mem_map.mp this
        exact ⟨j, hj, e.symm⟩
      have hjl := trn_lt hp' j hj
      have B' := B.mono (St.trans S')
      walk_at "rd"
      refine ⟨rfl, ?_⟩
      walk_at "rd"
      refine f_l T B' ?_
      walk_at "rd"
      refine g_ixT (SqT.of B'.ln) (at_int (by omega)) ?_
      exact hq H' (Same.refl _)
    · walk_at "rd"
      refine ⟨D, _, rfl, SqL.of h', ?_⟩
      walk_at "rd"
      have e : ls.getD o 0 + ((iI (trn r ss o)).map fun x => ls.getD x.toNat 0).sum = rch r ss ls o := by
        unfold rch iI
        rw [List.map_map]
        rfl
      rw [e]
      exact q H' (St.trans S')
/-! ### stopper_of -/
theorem ok_stop (F : Fun K "stopper_of" "stopper_of" s_stopper_of f fd) (T : Txt K mg A) (D_run_after : DefOk P w K mg base CX0 4 "run_after" ["beads", "place"] (spRun A))
    (D_train_of : DefOk P w K mg base (L2N.CX P w) 5 "train_of" ["beads", "place"] (spPl A RTrain)) : FnOk P w K mg base (L2N.CX P w) 6 f fd ["beads", "place"] (spPl A RStop) := by
  refine okN F sc_stopper_of (fun vs H Q E h => ?_) (fun cdv A1 outer s H vs Q E hr h => ?_)
  · obtain ⟨b, ts, tl, r, ss, ls, p, rfl, _⟩ := h
    rfl
  · obtain ⟨b, ts, tl, r, ss, ls, p, rfl, B, hl, hn, q1, q2⟩ := h
    refine ⟨_, (pss_cons (ps_set (i := 2) sc_stopper_of.nd rfl (Or.inl rfl) (pe_callD D_train_of (hr.mono (by decide)) (passes_callN (takes_ofN rfl rfl rfl rfl)) (pa_cons (pv 0) (pa_cons (pv 1) pa_nil))))
      (pss_cons (ps_set (i := 3) sc_stopper_of.nd rfl (Or.inl rfl) (pe_callD D_run_after (hr.mono (by decide)) pass0 (pa_cons (pv 0) (pa_cons (pv 1) pa_nil))))
      (pss_cons (ps_if (pt_cmpR op_eq (pe_callB (call_lenK K) (by rfl) T.m_len PySem.boot_len (pa_cons (pv 2) pa_nil)) (pe_callB (call_lenK K) (by rfl) T.m_len PySem.boot_len (pa_cons (pv 3) pa_nil)) (nomark _)) (pss_one (ps_ret pe_non)) pss_nil)
      (pss_one (ps_ret (pe_ix (ix_listK K) (pv 3) (pe_callB (call_lenK K) (by rfl) T.m_len PySem.boot_len (pa_cons (pv 2) pa_nil)) (fun _ _ => rfl))))))), ?_⟩
    walk_at "rd"
    refine ⟨b, ts, tl, r, ss, ls, p, rfl, B, hl, hn, fun hp => ?_, q2⟩
    obtain ⟨o, rfl⟩ : ∃ o : Nat, p = (o : Int) := ⟨p.toNat, by omega⟩
    have hp' : o < ss.length := by omega
    have q := q1 hp
    rw [Int.toNat_natCast] at q ⊢
    intro t Ht nt St ht
    walk_at "rd"
    refine ⟨b, ts, tl, r, ss, ls, o, rfl, B.mono St, hp', hn, fun a Ha na Sa ha => ?_⟩
    walk_at "rd"
    have ht' := Sa _ _ ht
    have S2 := St.trans Sa
    refine ⟨t, _, rfl, .inl (SqL.of ht'), ?_⟩
    walk_at "rd"
    refine ⟨a, _, rfl, .inl (SqL.of ha), ?_⟩
    unfold nI
    rw [List.length_map, List.length_map]
    walk_at "rd"
    refine g_ite (fun e => ?_) (fun e => ?_)
    · walk_at "rd"
      have e2 : (trn r ss o).length = (run r ss.length o).length := by have := of_decide_eq_true e; omega
      have e3 : stp r ss o = none := by unfold stp; rw [List.getElem?_eq_none (by omega)]
      have := q Ha S2
      rw [e3] at this
      exact this
    · walk_at "rd"
      refine ⟨t, _, rfl, .inl (SqL.of ht'), ?_⟩
      have e2 : (trn r ss o).length < (run r ss.length o).length := by have := of_decide_eq_false e; have := trn_len (r := r) (ss := ss) (p := o); omega
      have e3 : stp r ss o = some ((run r ss.length o)[(trn r ss o).length]'e2) := by unfold stp; rw [List.getElem?_eq_getElem e2]
      have := q Ha S2
      rw [e3] at this
      unfold nI
      rw [List.length_map]
      refine g_ixL (SqL.of ha) (atI_nat ?_) this
      unfold nI
      rw [List.getElem?_map, List.getElem?_eq_getElem e2]
      rfl
/-! ### reaches -/
def spReaches (A : Ad) : Sp := fun vs H Q _ => ∃ (b ts tl : Addr) (r : Bool) (ss ls : List Int), vs = [.ref b] ∧ BAt A.Beads H b ts tl r ss ls ∧ ls.length = ss.length ∧ ss.length ≤ 1000 ∧
  ∀ (a : Addr) (H' : Hp), H a = none → Same H H' → H' a = some (.lst (((List.range ss.length).map fun p => rch r ss ls p).map V.int)) → Q (.ref a) H'
theorem ok_reaches (F : Fun K "reaches" "reaches" s_reaches f fd) (T : Txt K mg A) (LN : LenD P w K mg base A.Beads (spLen A))
    (D_reach_of : DefOk P w K mg base (L2N.CX P w) 6 "reach_of" ["beads", "place"] (spPl A RReach)) : FnOk P w K mg base CX0 7 f fd ["beads"] (spReaches A) := by
  refine F.ok sc_reaches (fun vs H Q E h => ?_) (fun cdv A1 outer s H vs Q E hr h => ?_)
  · obtain ⟨b, ts, tl, r, ss, ls, rfl, _⟩ := h
    rfl
  · obtain ⟨b, ts, tl, r, ss, ls, rfl, B, hl, hn, q⟩ := h
    refine ⟨_, (pss_one (ps_ret (pe_lc (own := [("place", 1)]) (g := gName 1) (tt := tYes) rfl sc_reaches.nd (pi_range1 rfl T.m_range (pa_cons (pe_callB (call_lenD LN (hr.mono (by decide))) (by rfl) T.m_len PySem.boot_len (pa_cons (pv 0) pa_nil)) pa_nil)) (blkOk_by (N := ["beads", "place"]) (sc := defScope s_reaches) (by decide +kernel)) (fun _ _ _ _ _ => (by exact (pg_name (i := 1) sc_reaches.nd rfl (Or.inl rfl)))) (fun _ _ _ _ _ => (by exact pts_nil)) (fun _ _ _ _ _ => (by exact (pe_callD D_reach_of (hr.mono (by decide)) passN (pa_cons (pv 0) (pa_cons (pv 1) pa_nil)))))))), ?_⟩
    walk_at "rd"
    refine g_lenB B hn ?_
    walk_at "rd"
    refine ⟨_, rfl, by omega, by omega, fun D nD => ?_⟩
    rw [Int.toNat_natCast]
    refine lc_rangeI (fun p => rch r ss ls p) nD (by omega) (fun i H' hi S' Q' hq => ?_) (fun H' S' h' => ?_)
    · rw [Int.zero_add]
      walk_at "rd"
      refine ⟨rfl, ?_⟩
      walk_at "rd"
      refine ⟨b, ts, tl, r, ss, ls, (i : Int), rfl, B.mono S', hl, hn, fun _ => ?_, fun z => absurd ⟨by omega, by omega⟩ z⟩
      rw [Int.toNat_natCast]
      exact fun H2 S2 => hq H2 S2
    · exact q D H' nD S' h'
/-! ### _check_beads, Beads.__init__ -/
def spChk : Sp := fun vs H Q _ => ∃ (ts tl : Addr) (ss ls : List Int), vs = [.ref ts, .ref tl] ∧ H ts = some (.tup (ss.map V.int)) ∧ H tl = some (.tup (ls.map V.int)) ∧ 0 < ss.length ∧ ls.length = ss.length ∧ ss.length ≤ 1000 ∧ (∀ x ∈ ss, 0 ≤ x) ∧ (∀ x ∈ ls, 1 ≤ x) ∧ Q .non H
theorem ok_chk (F : Fun K "_check_beads" "_check_beads" s__check_beads f fd) (T : Txt K mg A) : FnOk P w K mg base CX0 1 f fd ["strengths", "lengths"] spChk := by
  refine F.ok sc__check_beads (fun vs H Q E h => ?_) (fun cdv A1 outer s H vs Q E hr h => ?_)
  · obtain ⟨ts, tl, ss, ls, rfl, _⟩ := h
    rfl
  · obtain ⟨ts, tl, ss, ls, rfl, h1, h2, h0, hl, hn, hs, hx, q⟩ := h
    refine ⟨_, (pss_cons (ps_if (PW.pt (pw_or (pt_cmpR op_eq (pe_callB (call_lenK K) (by rfl) T.m_len PySem.boot_len (pa_cons (pv 0) pa_nil)) pe_int (nomark _)) (pw_or1 (pt_cmpR op_ne (pe_callB (call_lenK K) (by rfl) T.m_len PySem.boot_len (pa_cons (pv 1) pa_nil)) (pe_callB (call_lenK K) (by rfl) T.m_len PySem.boot_len (pa_cons (pv 0) pa_nil)) (nomark _))))) (pss_one ps_never) pss_nil)
      (pss_one (ps_for (PassesOwn.never) rfl (pi_range1 rfl T.m_range (pa_cons (pe_callB (call_lenK K) (by rfl) T.m_len PySem.boot_len (pa_cons (pv 0) pa_nil)) pa_nil)) (pg_name (i := 2) sc__check_beads.nd rfl (Or.inl rfl)) (pss_one (ps_if (PW.pt (pw_or (pt_cmpR op_lt (pe_ix (ix_tupK K) (pv 0) (pv 2) (fun _ _ => rfl)) pe_int (nomark _)) (pw_or1 (pt_cmpR op_lt (pe_ix (ix_tupK K) (pv 1) (pv 2) (fun _ _ => rfl)) pe_int (nomark _))))) (pss_one ps_never) pss_nil))))), ?_⟩
    walk_at "rd"
    refine ⟨ts, _, rfl, .inr (SqT.of h1), ?_⟩
    rw [List.length_map]
    walk_at "rd"
    refine g_iff (decide_eq_false (by omega)) ?_
    walk_at "rd"
    refine ⟨tl, _, rfl, .inr (SqT.of h2), ?_⟩
    rw [List.length_map]
    walk_at "rd"
    refine ⟨ts, _, rfl, .inr (SqT.of h1), ?_⟩
    rw [List.length_map]
    walk_at "rd"
    refine g_iff (by rw [decide_eq_true (by omega)]; rfl) ?_
    walk_at "rd"
    refine ⟨ts, _, rfl, .inr (SqT.of h1), ?_⟩
    rw [List.length_map]
    walk_at "rd"
    refine ⟨_, rfl, by omega, by omega, for_range (lo := 0) (fun i σ H' => ∃ v2 : Option V, σ = [some (.ref ts), some (.ref tl), v2] ∧ H' = H) ⟨none, rfl, rfl⟩ ?_ ?_⟩
    · rintro i σ H' hi ⟨v2, rfl, rfl⟩
      have hi' : i < ss.length := by simpa using hi
      rw [Int.zero_add]
      walk_at "rd"
      refine g_ixT (SqT.of h1) (at_int hi') ?_
      walk_at "rd"
      have a1 := hs _ (getD_mem hi')
      have a2 := hx _ (getD_mem (l := ls) (i := i) (by omega))
      refine g_iff (decide_eq_false (by omega)) ?_
      walk_at "rd"
      refine g_ixT (SqT.of h2) (at_int (by omega)) ?_
      walk_at "rd"
      refine g_iff (decide_eq_false (by omega)) ?_
      walk_at "rd"
      exact ⟨_, rfl, rfl⟩
    · rintro σ H' ⟨v2, rfl, rfl⟩
      walk_at "rd"
      exact q
/-- a new standing of two lists -/
def spInit (K : PySem.W.Frag) (A : Ad) : Sp := fun vs H Q _ => ∃ (b dx sa la : Addr) (r : Bool) (ss ls : List Int), vs = [.ref b, .ref sa, .ref la, .bl r] ∧ H b = some (.ins A.Beads dx []) ∧ SqL K H sa (ss.map V.int) ∧ SqL K H la (ls.map V.int) ∧
  0 < ss.length ∧ ls.length = ss.length ∧ ss.length ≤ 1000 ∧ (∀ x ∈ ss, 0 ≤ x) ∧ (∀ x ∈ ls, 1 ≤ x) ∧ ∀ (ts tl : Addr) (H' : Hp), (∀ a o, a ≠ b → H a = some o → H' a = some o) → BAt A.Beads H' b ts tl r ss ls → Q .non H'
theorem ok_init (F : FunD K "__init__" "Beads.__init__" (defArgs s_Beads_init) (defBody s_Beads_init) (defScope s_Beads_init) [V.non] [("ring", V.bl true)] f fd) (T : Txt K mg A) (D__check_beads : DefOk P w K mg base CX0 1 "_check_beads" ["strengths", "lengths"] spChk) :
    FnOk P w K mg base CX0 2 f fd ["self", "strengths", "lengths", "ring"] (spInit K A) := by
  refine F.ok (CX := CX0) sc_Beads_init (fun vs H Q E h => ?_) (fun cdv A1 outer s H vs Q E hr h => ?_)
  · obtain ⟨b, dx, sa, la, r, ss, ls, rfl, _⟩ := h
    rfl
  · obtain ⟨b, dx, sa, la, r, ss, ls, rfl, hb, hs, hl, h0, hlen, hn, h1, h2, q⟩ := h
    refine ⟨_, (pss_cons (ps_fldK K (pv 0) (pe_callTy (call_tupleK K) (by rfl) T.m_tuple (by decide +kernel) (pa_cons (pv 1) pa_nil)) rfl)
      (pss_cons (ps_fldK K (pv 0) (pe_ifExp (pt_cmpR op_isN (pv 2) pe_non (nomark _)) (pe_op (op_repTK K) (pe_tup (pa_cons pe_int pa_nil)) (pe_callB (call_lenK K) (by rfl) T.m_len PySem.boot_len (pa_cons (pv 1) pa_nil))) (pe_callTy (call_tupleK K) (by rfl) T.m_tuple (by decide +kernel) (pa_cons (pv 2) pa_nil))) rfl)
      (pss_cons (ps_fldK K (pv 0) (pv 3) rfl)
      (pss_one (ps_expr (pe_callD D__check_beads (hr.mono (by decide)) pass0 (pa_cons (pe_fldK K (pv 0) rfl) (pa_cons (pe_fldK K (pv 0) rfl) pa_nil)))))))), ?_⟩
    walk_at "rd"
    refine ⟨sa, _, rfl, .inl ⟨hs, fun ts nts => ?_⟩⟩
    have nbt : b ≠ ts := ne_of_none hb nts
    walk_at "rd"
    refine ⟨b, _, dx, [], rfl, by rw [upd_ne nbt]; exact hb, T.cl, T.nS, by decide, ?_⟩
    walk_at "rd"
    have lift : ∀ (o o1 : HO), SqL K (upd (upd H ts o) b o1) la (ls.map V.int) := fun o o1 => by
      rcases hl with (h | ⟨z, h⟩) | h
      · have n1 : la ≠ ts := ne_of_none h nts
        have n2 : la ≠ b := fun e => by rw [e, hb] at h; cases h
        exact .inl (.inl (by rw [upd_ne n2, upd_ne n1]; exact h))
      · have n1 : la ≠ ts := ne_of_none h nts
        have n2 : la ≠ b := fun e => by rw [e, hb] at h; cases h
        exact .inl (.inr ⟨z, by rw [upd_ne n2, upd_ne n1]; exact h⟩)
      · exact .inr h
    refine ⟨la, _, rfl, .inl ⟨lift _ _, fun tl ntl => ?_⟩⟩
    have nbl : b ≠ tl := fun e => by rw [← e, upd_same] at ntl; cases ntl
    have ntl' : ts ≠ tl := fun e => by rw [← e, upd_ne nbt.symm, upd_same] at ntl; cases ntl
    walk_at "rd"
    refine ⟨b, _, dx, _, rfl, by rw [upd_ne nbl, upd_same], T.cl, T.nL, (by show 1 < 1000; decide), ?_⟩
    walk_at "rd"
    refine ⟨b, _, dx, _, rfl, upd_same, T.cl, T.nR, (Nat.lt_of_le_of_lt (length_putF _ _ _) (by show 1 + 1 < 1000; decide)), ?_⟩
    walk_at "rd"
    generalize hH : (upd (upd (upd (upd (upd H ts (.tup (ss.map V.int))) b _) tl (.tup (ls.map V.int))) b _) b _ : Hp) = H5
    have B5 : BAt A.Beads H5 b ts tl r ss ls := by
      refine ⟨⟨dx, by rw [← hH, upd_same]; rfl⟩, ?_, ?_⟩
      · rw [← hH, upd_ne nbt.symm, upd_ne nbt.symm, upd_ne ntl', upd_ne nbt.symm, upd_same]
      · rw [← hH, upd_ne nbl.symm, upd_ne nbl.symm, upd_same]
    have keep : ∀ a o, a ≠ b → H a = some o → H5 a = some o := fun a o nab ha => by
      have n1 : a ≠ ts := ne_of_none ha nts
      have n2 : a ≠ tl := fun z => by
        rw [← z, upd_ne nab, upd_ne n1, ha] at ntl; cases ntl
      rw [← hH, upd_ne nab, upd_ne nab, upd_ne n2, upd_ne nab, upd_ne n1]
      exact ha
    refine f_s T B5 ?_
    walk_at "rd"
    refine f_l T B5 ?_
    walk_at "rd"
    refine ⟨ts, tl, ss, ls, rfl, B5.st, B5.ln, h0, hlen, hn, h1, h2, ?_⟩
    walk_at "rd"
    exact q ts tl H5 keep B5
end
end Rt
set_option Elab.async false
set_option linter.all false
set_option maxRecDepth 100000
set_option maxHeartbeats 4000000
namespace Rt
open PySem PySem.Spec L2
open PyProof.Rows (envOfC)
local macro_rules | `(tactic| walk_at "rd1") => `(tactic| (with_reducible first
  | refine g_var (by with_unfolding_all rfl) ?_
  | refine g_c ?_
  | refine g_op ?_
  | refine g_I0 ?_
  | refine g_eqI ?_
  | refine g_neI ?_
  | refine g_eqB ?_
  | refine g_neB ?_
  | refine g_cons ?_
  | refine g_nil ?_
  | refine g_seq ?_
  | refine g_asg ?_
  | refine g_name ?_
  | refine g_ret ?_
  | refine g_retN ?_
  | refine g_drop ?_
  | refine g_next ?_
  | refine g_if ?_
  | refine g_test ?_
  | refine g_tB ?_
  | refine g_bl ?_
  | refine g_and ?_
  | refine g_or ?_
  | refine g_not ?_
  | refine g_andV ?_
  | refine g_orV ?_
  | refine g_notV ?_
  | refine g_ifE ?_
  | refine g_cb ?_
  | refine g_call ?_
  | refine g_callS ?_
  | refine g_bm ?_
  | refine g_un ?_
  | refine g_U ?_
  | refine g_chain ?_
  | refine g_sl ?_
  | refine g_brk ?_
  | refine g_ct ?_
  | refine g_ipI ?_
  | refine g_fld ?_
  | refine g_lst ?_
  | refine g_int ?_
  | refine g_for ?_
  | refine g_rg1 ?_
  | refine g_rg2 ?_
  | refine g_il ?_
  | refine g_it ?_
  | refine g_lc ?_
  | refine g_yes ?_
  | refine g_tup ?_
  | refine g_part ?_
  | refine g_xf ?_
  | refine g_nn ?_
  | refine g_mko ?_
  | refine g_lrg ?_
  | refine g_tr1 ?_
  | refine g_tr2 ?_
  | refine g_oi2 ?_
  | refine g_mk ?_
  | refine g_sfld ?_
  | refine g_ost ?_
  | refine g_oi ?_
  | refine g_nopart ?_
  | refine g_tt ?_
  | refine g_ff ?_
  | refine g_nt ?_
  | refine g_nf ?_
  | refine g_drn ?_
  | refine g_din ?_
  | refine g_dnn ?_
  | refine g_nrn ?_
  | refine g_nin ?_
  | refine g_nnn ?_))
local macro_rules | `(tactic| walk_at "rd") => `(tactic| (repeat walk_at "rd1"))

section
variable {P : Program} {w : World} {K : PySem.W.Frag} {mg : Str → Option Value} {base : Heap} {f : Addr} {fd : FuncData} {A : Ad}
theorem g_isB (T : Txt K mg A) {H : Hp} {b ts tl : Addr} {r : Bool} {ss ls : List Int} {Q : VK} (B : BAt A.Beads H b ts tl r ss ls) (h : Q (.bl true) H) : rIsi K [.ref b, .ref A.Beads] H Q := by
  obtain ⟨dx, e⟩ := B.ob
  exact ⟨.ref b, .ref A.Beads, _, _, true, rfl, .own _, .base (.ins e T.cl T.iB1 T.iB2 T.iB3 T.iB4), T.iB5, h⟩
/-! ### _law_is_standing -/
def spStanding (K : PySem.W.Frag) (A : Ad) : Sp := fun vs H Q _ => ∃ (b ts tl la sa : Addr) (r : Bool) (ss ls : List Int), vs = [.ref b, .bl r, .ref la, .ref sa] ∧ BAt A.Beads H b ts tl r ss ls ∧ SqL K H la (ls.map V.int) ∧ SqL K H sa (ss.map V.int) ∧ ls.length ≤ 1000 ∧ ss.length ≤ 1000 ∧ Q (.bl true) H
theorem ok_standing (F : Fun K "_law_is_standing" "_law_is_standing" s__law_is_standing f fd) (T : Txt K mg A) (D__law_numbers : DefOk P w K mg base CX0 2 "_law_numbers" ["actual", "due", "as_tuple"] (Rt.spNumbers K)) : FnOk P w K mg base CX0 3 f fd ["actual", "round_flag", "sizes", "strengths"] (spStanding K A) := by
  refine F.ok sc__law_is_standing (fun vs H Q E h => ?_) (fun cdv A1 outer s H vs Q E hr h => ?_)
  · obtain ⟨b, ts, tl, la, sa, r, ss, ls, rfl, _⟩ := h
    rfl
  · obtain ⟨b, ts, tl, la, sa, r, ss, ls, rfl, B, hl, hs, nl, ns, q⟩ := h
    refine ⟨_, (pss_cons (ps_if (PW.pt (pw_or (pt_not (pt_val (pe_callB (call_isiQ K) (by rfl) T.m_isinstance (by decide +kernel) (pa_cons (pv 0) (pa_cons (pe_glob (v := .ref A.Beads) rfl T.g_Beads rfl) pa_nil))))) (pw_or (pt_not (pt_val (pe_callB (call_isiQ K) (by rfl) T.m_isinstance (by decide +kernel) (pa_cons (pe_fldK K (pv 0) rfl) (pa_cons (pe_bltn (v := .ty "bool") (by rfl) T.m_bool (by decide +kernel) rfl) pa_nil))))) (pw_or1 (pt_cmpR op_ne (pe_fldK K (pv 0) rfl) (pv 1) (nomark _)))))) (pss_one (ps_ret pe_bl)) pss_nil)
      (pss_one (ps_ret (pe_and (pe_callD D__law_numbers (hr.mono (by decide)) pass0 (pa_cons (pe_fldK K (pv 0) rfl) (pa_cons (pv 2) (pa_cons pe_bl pa_nil)))) (pe_one (pe_callD D__law_numbers (hr.mono (by decide)) pass0 (pa_cons (pe_fldK K (pv 0) rfl) (pa_cons (pv 3) (pa_cons pe_bl pa_nil))))))))), ?_⟩
    walk_at "rd"
    refine g_isB T B ?_
    walk_at "rd"
    refine f_r T B ?_
    walk_at "rd"
    refine g_isi (b := true) (.base (.bl r)) (by decide +kernel) ?_
    walk_at "rd"
    refine f_r T B ?_
    walk_at "rd"
    refine g_iff (by rw [decide_eq_true rfl]; rfl) ?_
    walk_at "rd"
    refine f_l T B ?_
    walk_at "rd"
    refine ⟨tl, la, true, ls, ls, rfl, B.ln, hl, by omega, ?_⟩
    rw [decide_eq_true rfl]
    walk_at "rd"
    refine f_s T B ?_
    walk_at "rd"
    refine ⟨ts, sa, true, ss, ss, rfl, B.st, hs, by omega, ?_⟩
    rw [decide_eq_true rfl]
    exact q
/-! ### _law_is_told -/
def spTold (K : PySem.W.Frag) (A : Ad) : Sp := fun vs H Q _ => ∃ (b ts tl la wa t : Addr) (r : Bool) (ss ls : List Int) (p : Nat), vs = [.ref b, .ref la, .int (p : Int), .ref wa] ∧ BAt A.Beads H b ts tl r ss ls ∧ SqL K H la (ls.map V.int) ∧ ls.length = ss.length ∧ ss.length ≤ 1000 ∧ p < ss.length ∧
  H wa = some (.lst [.ref t, oV (stp r ss p)]) ∧ H t = some (.lst (nI (trn r ss p))) ∧ ∀ H', Same H H' → Q (.bl true) H'
theorem ok_told (F : Fun K "_law_is_told" "_law_is_told" s__law_is_told f fd) (T : Txt K mg A) (D__law_numbers : DefOk P w K mg base CX0 2 "_law_numbers" ["actual", "due", "as_tuple"] (Rt.spNumbers K))
    (D__law_is_integer : DefOk P w K mg base CX0 1 "_law_is_integer" ["actual"] Rt.spInt)
    (D_train_of : DefOk P w K mg base (L2N.CX P w) 5 "train_of" ["beads", "place"] (spPl A RTrain)) (D_reach_of : DefOk P w K mg base (L2N.CX P w) 6 "reach_of" ["beads", "place"] (spPl A RReach)) (D_stopper_of : DefOk P w K mg base (L2N.CX P w) 6 "stopper_of" ["beads", "place"] (spPl A RStop)) :
    FnOk P w K mg base CX0 7 f fd ["beads", "sizes", "place", "walk"] (spTold K A) := by
  refine F.ok sc__law_is_told (fun vs H Q E h => ?_) (fun cdv A1 outer s H vs Q E hr h => ?_)
  · obtain ⟨b, ts, tl, la, wa, t, r, ss, ls, p, rfl, _⟩ := h
    rfl
  · obtain ⟨b, ts, tl, la, wa, t, r, ss, ls, p, rfl, B, hl, el, hn, hp, hw, ht, q⟩ := h
    have tl0 := trn_len (r := r) (ss := ss) (p := p)
    have tl1 := run_le (r := r) hp
    have tlen : (trn r ss p).length ≤ 1000 := by omega
    have ht1 : H t = some (.lst ((iI (trn r ss p)).map V.int)) := by rw [← nI_eq]; exact ht
    have ilen : (iI (trn r ss p)).length ≤ 100000 := by unfold iI; rw [List.length_map]; omega
    refine ⟨_, (pss_cons (ps_set (i := 4) sc__law_is_told.nd rfl (Or.inl rfl) (pe_callD D_train_of (hr.mono (by decide)) passN (pa_cons (pv 0) (pa_cons (pv 2) pa_nil))))
      (pss_cons (ps_if (pt_not (pt_val (pe_callD D__law_numbers (hr.mono (by decide)) pass0 (pa_cons (pv 4) (pa_cons (pe_ix (ix_listK K) (pv 3) pe_int (fun _ _ => rfl)) (pa_cons pe_bl pa_nil)))))) (pss_one (ps_ret pe_bl)) pss_nil)
      (pss_cons (ps_expr (pe_appK K (pv 4) (pa_cons (pv 2) pa_nil)))
      (pss_cons (ps_if (pt_not (pt_val (pe_callD D__law_numbers (hr.mono (by decide)) pass0 (pa_cons (pe_callD D_train_of (hr.mono (by decide)) passN (pa_cons (pv 0) (pa_cons (pv 2) pa_nil))) (pa_cons (pe_ix (ix_listK K) (pv 3) pe_int (fun _ _ => rfl)) (pa_cons pe_bl pa_nil)))))) (pss_one (ps_ret pe_bl)) pss_nil)
      (pss_cons (ps_set (i := 5) sc__law_is_told.nd rfl (Or.inl rfl) (pe_callD D_stopper_of (hr.mono (by decide)) passN (pa_cons (pv 0) (pa_cons (pv 2) pa_nil))))
      (pss_cons (ps_if (PW.pt (pw_and (pt_cmpR op_isN (pe_ix (ix_listK K) (pv 3) pe_int (fun _ _ => rfl)) pe_non (nomark _)) (pw_and1 (pt_cmpR op_notN (pv 5) pe_non (nomark _))))) (pss_one (ps_ret pe_bl)) pss_nil)
      (pss_cons (ps_if (PW.pt (pw_and (pt_cmpR op_notN (pe_ix (ix_listK K) (pv 3) pe_int (fun _ _ => rfl)) pe_non (nomark _)) (pw_and1 (PW.pt (pw_or (pt_not (pt_val (pe_callD D__law_is_integer (hr.mono (by decide)) pass0 (pa_cons (pv 5) pa_nil)))) (pw_or1 (pt_cmpR op_ne (pv 5) (pe_ix (ix_listK K) (pv 3) pe_int (fun _ _ => rfl)) (nomark _)))))))) (pss_one (ps_ret pe_bl)) pss_nil)
      (pss_cons (ps_set (i := 6) sc__law_is_told.nd rfl (Or.inl rfl) (pe_callD D_reach_of (hr.mono (by decide)) passN (pa_cons (pv 0) (pa_cons (pv 2) pa_nil))))
      (pss_one (ps_ret (pe_and (pe_callD D__law_is_integer (hr.mono (by decide)) pass0 (pa_cons (pv 6) pa_nil)) (pe_one (pe_cmpR op_eq (pv 6) (pe_op op_add (pe_ix (ix_listK K) (pv 1) (pv 2) (fun _ _ => rfl)) (pe_callB (cr_sumK K rfl) (by rfl) T.m_sum (by decide +kernel) (pa_cons (pe_lc (own := [("at", 7)]) (g := gName 7) (tt := tYes) rfl sc__law_is_told.nd (pi_listK K (pe_ix (ix_listK K) (pv 3) pe_int (fun _ _ => rfl))) (blkOk_by (N := ["beads", "sizes", "place", "walk", "told", "stopper", "reach", "at"]) (sc := defScope s__law_is_told) (by decide +kernel)) (fun _ _ _ _ _ => (by exact (pg_name (i := 7) sc__law_is_told.nd rfl (Or.inl rfl)))) (fun _ _ _ _ _ => (by exact pts_nil)) (fun _ _ _ _ _ => (by exact (pe_ix (ix_listK K) (pv 1) (pv 7) (fun _ _ => rfl))))) pa_nil))) (nomark _)))))))))))))), ?_⟩
    walk_at "rd"
    refine ⟨b, ts, tl, r, ss, ls, p, rfl, B, el, hn, fun _ => ?_, fun z => absurd ⟨by omega, by omega⟩ z⟩
    rw [Int.toNat_natCast]
    intro t1 H1 nt1 S1 h1
    walk_at "rd"
    have h1i : H1 t1 = some (.lst ((iI (trn r ss p)).map V.int)) := by rw [← nI_eq]; exact h1
    refine g_ixL (SqL.of (S1 _ _ hw)) (atI_nat (j := 0) rfl) ?_
    walk_at "rd"
    refine ⟨t1, t, false, _, _, rfl, h1i, SqL.of (S1 _ _ ht1), ilen, ?_⟩
    rw [decide_eq_true rfl]
    walk_at "rd"
    refine ⟨ty_l h1, ?_⟩
    walk_at "rd"
    refine g_app h1 (by unfold nI; rw [List.length_map]; exact slt1000 (by omega)) ?_
    have S2 : Same H (upd H1 t1 (.lst (nI (trn r ss p) ++ [V.int (p : Int)]))) := S1.mut nt1
    generalize upd H1 t1 (.lst (nI (trn r ss p) ++ [V.int (p : Int)])) = H2 at S2
    walk_at "rd"
    refine ⟨b, ts, tl, r, ss, ls, p, rfl, B.mono S2, el, hn, fun _ => ?_, fun z => absurd ⟨by omega, by omega⟩ z⟩
    rw [Int.toNat_natCast]
    intro t3 H3 nt3 S3 h3
    have S3' := S2.trans S3
    walk_at "rd"
    have h3i : H3 t3 = some (.lst ((iI (trn r ss p)).map V.int)) := by rw [← nI_eq]; exact h3
    refine g_ixL (SqL.of (S3' _ _ hw)) (atI_nat (j := 0) rfl) ?_
    walk_at "rd"
    refine ⟨t3, t, false, _, _, rfl, h3i, SqL.of (S3' _ _ ht1), ilen, ?_⟩
    rw [decide_eq_true rfl]
    walk_at "rd"
    refine ⟨b, ts, tl, r, ss, ls, p, rfl, B.mono S3', el, hn, fun _ => ?_, fun z => absurd ⟨by omega, by omega⟩ z⟩
    rw [Int.toNat_natCast]
    intro H4 S4
    have S4' := S3'.trans S4
    walk_at "rd"
    have hw4 := S4' _ _ hw
    have fin : ∀ H5, Same H4 H5 → ∀ (Q' : VK), (∀ H6, Same H5 H6 → Q' (.int (rch r ss ls p)) H6) → True := fun _ _ _ _ => True.intro
    have sumeq : ls.getD p 0 + ((iI (trn r ss p)).map fun x => ls.getD x.toNat 0).sum = rch r ss ls p := by
      unfold rch iI
      rw [List.map_map]
      rfl
    cases es : stp r ss p
    all_goals
      rw [es] at hw4
      unfold oV at hw4 ⊢
      refine g_ixL (SqL.of hw4) (atI_nat (j := 1) rfl) ?_
      walk_at "rd"
      refine g_ixL (SqL.of hw4) (atI_nat (j := 1) rfl) ?_
      walk_at "rd"
    case' some o =>
      refine ⟨_, rfl, ?_⟩
      walk_at "rd"
      refine g_ixL (SqL.of hw4) (atI_nat (j := 1) rfl) ?_
      walk_at "rd"
      refine g_iff (by rw [decide_eq_true rfl]; rfl) ?_
      walk_at "rd"
    all_goals
      refine ⟨b, ts, tl, r, ss, ls, p, rfl, B.mono S4', el, hn, fun _ => ?_, fun z => absurd ⟨by omega, by omega⟩ z⟩
      rw [Int.toNat_natCast]
      intro H5 S5
      have S5' := S4'.trans S5
      walk_at "rd"
      refine ⟨_, rfl, ?_⟩
      walk_at "rd"
      refine g_ixL (S5'.seq hl) (at_int (by omega)) ?_
      walk_at "rd"
      refine g_ixL (SqL.of (S5 _ _ hw4)) (atI_nat (j := 0) rfl) ?_
      walk_at "rd"
      refine ⟨t, rfl, ⟨_, SqL.of (S5' _ _ ht1)⟩, fun D nD => ?_⟩
      refine lc_ints (fun x => ls.getD x.toNat 0) (SqL.of (S5' _ _ ht1)) nD ilen (fun i x H' hx S' Q' hq => ?_) (fun H' S' h' => ?_)
      · obtain ⟨j, hj, rfl⟩ : ∃ j : Nat, j ∈ trn r ss p ∧ x = (j : Int) := by
          have := List.mem_of_getElem? hx
          obtain ⟨j, hj, e⟩ := List.mem_map.mp this
          exact ⟨j, hj, e.symm⟩
        have hjl := trn_lt hp j hj
        walk_at "rd"
        refine ⟨rfl, ?_⟩
        walk_at "rd"
        refine g_ixL ((S5'.trans S').seq hl) (at_int (by omega)) ?_
        exact hq H' (Same.refl _)
      · walk_at "rd"
        refine ⟨D, _, rfl, SqL.of h', ?_⟩
        walk_at "rd"
        rw [sumeq, decide_eq_true rfl]
        exact q H' (S5'.trans S')
/-! ### _law_is_refused -/
def spRefused (A : Ad) : Sp := fun vs H Q _ => ∃ (b ts tl : Addr) (r : Bool) (ss ls : List Int) (p k : Int), vs = [.ref b, .int p, .int k] ∧ BAt A.Beads H b ts tl r ss ls ∧ ls.length = ss.length ∧ ss.length ≤ 1000 ∧ ¬ (0 ≤ p ∧ p < (ss.length : Int)) ∧ ∀ H', Same H H' → Q (.bl true) H'
theorem ok_refused (F : Fun K "_law_is_refused" "_law_is_refused" s__law_is_refused f fd) (T : Txt K mg A) (H__law_is_integer : DefOkH P w K mg base CX0 1 "_law_is_integer" ["actual"] Rt.spInt)
    (D_train_of : DefOk P w K mg base (L2N.CX P w) 5 "train_of" ["beads", "place"] (spPl A RTrain)) (D_reach_of : DefOk P w K mg base (L2N.CX P w) 6 "reach_of" ["beads", "place"] (spPl A RReach)) (D_stopper_of : DefOk P w K mg base (L2N.CX P w) 6 "stopper_of" ["beads", "place"] (spPl A RStop)) :
    FnOk P w K mg base CX0 7 f fd ["beads", "place", "which"] (spRefused A) := by
  refine F.ok sc__law_is_refused (fun vs H Q E h => ?_) (fun cdv A1 outer s H vs Q E hr h => ?_)
  · obtain ⟨b, ts, tl, r, ss, ls, p, k, rfl, _⟩ := h
    rfl
  · obtain ⟨b, ts, tl, r, ss, ls, p, k, rfl, B, el, hn, hp, q⟩ := h
    refine ⟨_, (pss_cons (L2N.ps_try_as (i := 3) (Wout := fun _ _ _ _ => False) rfl rfl sc__law_is_refused.nd rfl rfl ⟨rfl, by decide, .inl T.g_BadPlace⟩ takes0N (fun W pn xe tk _ => (pss_one (ps_if (pt_cmpR op_eq (pv 2) pe_int (nomark _)) (pss_one (ps_expr (pe_callDS D_train_of (hr.mono (by decide)) (fun σ => L2N.passAt tk σ) (pa_cons (pv 0) (pa_cons (pv 1) pa_nil))))) (pss_one (ps_if (pt_cmpR op_eq (pv 2) pe_int (nomark _)) (pss_one (ps_expr (pe_callDS D_reach_of (hr.mono (by decide)) (fun σ => L2N.passAt tk σ) (pa_cons (pv 0) (pa_cons (pv 1) pa_nil))))) (pss_one (ps_expr (pe_callDS D_stopper_of (hr.mono (by decide)) (fun σ => L2N.passAt tk σ) (pa_cons (pv 0) (pa_cons (pv 1) pa_nil)))))))))) (fun a oe cls d pn hz hf => (pss_one (ps_ret (pe_and (pe_callHD H__law_is_integer (L2H.roomH_mark (hr.mono (by decide)) _) (hotC_of hz hf) (E := fun _ => E0) (fun _ => pass0S) (pa_cons (pe_xf T.x_BadPlace T.no_BadPlace_place hz.zc hf (pv 3)) pa_nil)) (pe_one (pe_cmpR op_eq (pe_xf T.x_BadPlace T.no_BadPlace_place hz.zc hf (pv 3)) (pv 1) (nomark _))))))))
      (pss_one (ps_ret pe_bl))), ?_⟩
    walk_at "rd"
    refine g_ite (fun e0 => ?_) (fun e0 => ?_)
    case' refine_2 =>
      walk_at "rd"
      refine g_ite (fun e1 => ?_) (fun e1 => ?_)
    all_goals
      walk_at "rd"
      refine ⟨b, ts, tl, r, ss, ls, p, rfl, B, el, hn, fun z => absurd z hp, fun _ d H' nd S' hd => ?_⟩
      refine ⟨true, T.eBP, fun _ a na => ?_, fun z => nomatch z⟩
      walk_at "rd"
      refine ⟨rfl, rfl, d, _, _, rfl, hd, rfl, ?_⟩
      walk_at "rd"
      refine ⟨p, rfl, ?_⟩
      walk_at "rd"
      refine ⟨rfl, rfl, d, _, _, rfl, hd, rfl, ?_⟩
      walk_at "rd"
      rw [decide_eq_true rfl]
      exact q H' S'
end
end Rt
set_option Elab.async false
set_option linter.all false
set_option maxRecDepth 100000
set_option maxHeartbeats 4000000
namespace Rt
open PySem PySem.Spec L2
open PyProof.Rows (envOfC)
local macro_rules | `(tactic| walk_at "rd1") => `(tactic| (with_reducible first
  | refine g_var (by with_unfolding_all rfl) ?_
  | refine g_c ?_
  | refine g_op ?_
  | refine g_I0 ?_
  | refine g_eqI ?_
  | refine g_neI ?_
  | refine g_eqB ?_
  | refine g_neB ?_
  | refine g_cons ?_
  | refine g_nil ?_
  | refine g_seq ?_
  | refine g_asg ?_
  | refine g_name ?_
  | refine g_ret ?_
  | refine g_retN ?_
  | refine g_drop ?_
  | refine g_next ?_
  | refine g_if ?_
  | refine g_test ?_
  | refine g_tB ?_
  | refine g_bl ?_
  | refine g_and ?_
  | refine g_or ?_
  | refine g_not ?_
  | refine g_andV ?_
  | refine g_orV ?_
  | refine g_notV ?_
  | refine g_ifE ?_
  | refine g_cb ?_
  | refine g_call ?_
  | refine g_callS ?_
  | refine g_bm ?_
  | refine g_un ?_
  | refine g_U ?_
  | refine g_chain ?_
  | refine g_sl ?_
  | refine g_brk ?_
  | refine g_ct ?_
  | refine g_ipI ?_
  | refine g_fld ?_
  | refine g_lst ?_
  | refine g_int ?_
  | refine g_for ?_
  | refine g_rg1 ?_
  | refine g_rg2 ?_
  | refine g_il ?_
  | refine g_it ?_
  | refine g_lc ?_
  | refine g_yes ?_
  | refine g_tup ?_
  | refine g_part ?_
  | refine g_xf ?_
  | refine g_nn ?_
  | refine g_mko ?_
  | refine g_lrg ?_
  | refine g_tr1 ?_
  | refine g_tr2 ?_
  | refine g_oi2 ?_
  | refine g_mk ?_
  | refine g_sfld ?_
  | refine g_ost ?_
  | refine g_oi ?_
  | refine g_nopart ?_
  | refine g_tt ?_
  | refine g_ff ?_
  | refine g_nt ?_
  | refine g_nf ?_
  | refine g_drn ?_
  | refine g_din ?_
  | refine g_dnn ?_
  | refine g_nrn ?_
  | refine g_nin ?_
  | refine g_nnn ?_))
local macro_rules | `(tactic| walk_at "rd") => `(tactic| (repeat walk_at "rd1"))

section
variable {P : Program} {w : World} {K : PySem.W.Frag} {mg : Str → Option Value} {base : Heap} {f : Addr} {fd : FuncData} {A : Ad}
def spLaw (K : PySem.W.Frag) : Sp := fun vs H Q _ => ∃ (a : Addr) (ns : List Int), vs = [.ref a] ∧ SqL K H a (ns.map V.int) ∧ ns.length ≤ 63 ∧ ∀ H', Q (.bl true) H'
def gBeads (vs zs : List V) : List V := vs ++ zs
theorem ok_law (F : Fun K "law" "law" s_law f fd) (T : Txt K mg A)
    (D__law_cell : DefOk P w K mg base CX0 1 "_law_cell" ["script", "k"] (Rt.spCell K)) (D__law_draws : DefOk P w K mg base CX0 1 "_law_draws" ["cell", "sizes"] (Rt.spDraws K))
    (D__law_lengths : DefOk P w K mg base CX0 2 "_law_lengths" ["cell", "many"] Rt.spLengths) (D__law_strengths : DefOk P w K mg base CX0 2 "_law_strengths" ["cell", "sizes"] (Rt.spStrengths K))
    (MK_Beads : CtorD P w K mg base CX0 2 "Beads" A.Beads 2 ["ring"] gBeads (spInit K A)) (D__law_reach : DefOk P w K mg base CX0 1 "_law_reach" ["round_flag", "sizes", "strengths", "place"] (Rt.spReach K))
    (D_reaches : DefOk P w K mg base CX0 7 "reaches" ["beads"] (spReaches A)) (D__law_numbers : DefOk P w K mg base CX0 2 "_law_numbers" ["actual", "due", "as_tuple"] (Rt.spNumbers K))
    (D__law_is_told : DefOk P w K mg base CX0 7 "_law_is_told" ["beads", "sizes", "place", "walk"] (spTold K A)) (D__law_walk : DefOk P w K mg base CX0 1 "_law_walk" ["round_flag", "strengths", "place"] (Rt.spWalk K))
    (D__law_is_refused : DefOk P w K mg base CX0 7 "_law_is_refused" ["beads", "place", "which"] (spRefused A)) (D__law_is_standing : DefOk P w K mg base CX0 3 "_law_is_standing" ["actual", "round_flag", "sizes", "strengths"] (spStanding K A)) :
    FnOk P w K mg base CX0 8 f fd ["script"] (spLaw K) := by
  refine F.ok sc_law (fun vs H Q E h => ?_) (fun cdv A1 outer s H vs Q E hr h => ?_)
  · obtain ⟨a, ns, rfl, _⟩ := h
    rfl
  · obtain ⟨sc, ns, rfl, hsc, hns, q⟩ := h
    refine ⟨_, (pss_cons (ps_set (i := 1) sc_law.nd rfl (Or.inr rfl) (pe_callD D__law_draws (hr.mono (by decide)) pass0 (pa_cons (pe_callD D__law_cell (hr.mono (by decide)) pass0 (pa_cons (pv 0) (pa_cons pe_int pa_nil))) (pa_cons (pe_lst (pa_cons pe_int (pa_cons pe_int (pa_cons pe_int (pa_cons pe_int (pa_cons (pe_op op_pow pe_int pe_int) (pa_cons pe_int (pa_cons pe_int pa_nil)))))))) pa_nil))))
      (pss_cons (ps_set (i := 2) sc_law.nd rfl (Or.inr rfl) (pe_op op_add pe_int (pe_ix (ix_listK K) (pv 1) pe_int (fun _ _ => rfl))))
      (pss_cons (ps_if (pt_cmpR op_eq (pe_ix (ix_listK K) (pv 1) pe_int (fun _ _ => rfl)) pe_int (nomark _)) (pss_one (ps_set (i := 2) sc_law.nd rfl (Or.inr rfl) (pe_op op_add pe_int (pe_ix (ix_listK K) (pv 1) pe_int (fun _ _ => rfl))))) pss_nil)
      (pss_cons (ps_if (pt_cmpR op_eq (pe_ix (ix_listK K) (pv 1) pe_int (fun _ _ => rfl)) pe_int (nomark _)) (pss_one (ps_set (i := 2) sc_law.nd rfl (Or.inr rfl) (pe_op op_add pe_int (pe_ix (ix_listK K) (pv 1) pe_int (fun _ _ => rfl))))) pss_nil)
      (pss_cons (ps_set (i := 3) sc_law.nd rfl (Or.inr rfl) (pe_cmpR op_lt (pe_ix (ix_listK K) (pv 1) pe_int (fun _ _ => rfl)) pe_int (nomark _)))
      (pss_cons (ps_set (i := 4) sc_law.nd rfl (Or.inr rfl) (pe_callD D__law_lengths (hr.mono (by decide)) pass0 (pa_cons (pe_callD D__law_cell (hr.mono (by decide)) pass0 (pa_cons (pv 0) (pa_cons pe_int pa_nil))) (pa_cons (pv 2) pa_nil))))
      (pss_cons (ps_set (i := 5) sc_law.nd rfl (Or.inr rfl) (pe_callD D__law_strengths (hr.mono (by decide)) pass0 (pa_cons (pe_callD D__law_cell (hr.mono (by decide)) pass0 (pa_cons (pv 0) (pa_cons pe_int pa_nil))) (pa_cons (pv 4) pa_nil))))
      (pss_cons (ps_set (i := 6) sc_law.nd rfl (Or.inl rfl) (pe_lst (pa_cons (pe_callTy (call_listK K) (by rfl) T.m_list (by decide +kernel) (pa_cons (pv 5) pa_nil)) (pa_cons (pe_callTy (call_listK K) (by rfl) T.m_list (by decide +kernel) (pa_cons (pv 4) pa_nil)) pa_nil))))
      (pss_cons (ps_set (i := 7) sc_law.nd rfl (Or.inl rfl) (pe_makeD MK_Beads (hr.mono (by decide)) pass0 (pa_cons (pe_ix (ix_listK K) (pv 6) pe_int (fun _ _ => rfl)) (pa_cons (pe_ix (ix_listK K) (pv 6) pe_int (fun _ _ => rfl)) pa_nil)) (pk_cons (pv 3) pk_nil)))
      (pss_cons (ps_setLc (i := 8) (own := [("place", 9)]) (g := gName 9) (tt := tYes) rfl sc_law.nd rfl rfl (sw_true rfl rfl rfl (by decide +kernel)) (pi_range1 rfl T.m_range (pa_cons (pv 2) pa_nil)) (blkOk_by (N := ["script", "shape", "many", "round_flag", "sizes", "strengths", "given", "beads", "due", "place", "told", "asked", "k", "which"]) (sc := defScope s_law) (by decide +kernel)) (fun _ _ _ _ _ => (by exact (pg_name (i := 9) sc_law.nd rfl (Or.inl rfl)))) (fun _ _ _ _ _ => (by exact pts_nil)) (fun _ _ _ _ _ => (by exact (pe_callD D__law_reach (hr.mono (by decide)) pass0 (pa_cons (pv 3) (pa_cons (pv 4) (pa_cons (pv 5) (pa_cons (pv 9) pa_nil))))))))
      (pss_cons (ps_set (i := 10) sc_law.nd rfl (Or.inl rfl) (pe_callD D_reaches (hr.mono (by decide)) pass0 (pa_cons (pv 7) pa_nil)))
      (pss_cons (ps_if (pt_not (pt_val (pe_callD D__law_numbers (hr.mono (by decide)) pass0 (pa_cons (pv 10) (pa_cons (pv 8) (pa_cons pe_bl pa_nil)))))) (pss_one (ps_ret pe_bl)) pss_nil)
      (pss_cons (ps_expr (pe_appK K (pv 10) (pa_cons pe_int pa_nil)))
      (pss_cons (ps_set (i := 11) sc_law.nd rfl (Or.inl rfl) (pe_listRg rfl (by rfl) T.m_list (prg_1 (by rfl) T.m_range (pv 2))))
      (pss_cons (ps_if (pt_cmpR op_gt (pv 2) pe_int (nomark _)) (pss_one (ps_setLc (i := 11) (own := [("k", 12)]) (g := gName 12) (tt := tYes) rfl sc_law.nd rfl rfl (sw_true rfl rfl rfl (by decide +kernel)) (pi_range1 rfl T.m_range (pa_cons pe_int pa_nil)) (blkOk_by (N := ["script", "shape", "many", "round_flag", "sizes", "strengths", "given", "beads", "due", "place", "told", "asked", "k", "which"]) (sc := defScope s_law) (by decide +kernel)) (fun _ _ _ _ _ => (by exact (pg_name (i := 12) sc_law.nd rfl (Or.inl rfl)))) (fun _ _ _ _ _ => (by exact pts_nil)) (fun _ _ _ _ _ => (by exact (pe_op op_mod (pe_callTy call_int1 (by rfl) T.m_int (by decide +kernel) (pa_cons (pe_op op_add (pe_ix (ix_listK K) (pv 1) pe_int (fun _ _ => rfl)) (pe_op op_mul pe_int (pv 12))) pa_nil)) (pv 2)))))) pss_nil)
      (pss_cons (ps_for (PassesOwn.never) rfl (pi_listK K (pv 11)) (pg_name (i := 9) sc_law.nd rfl (Or.inl rfl)) (pss_one (ps_if (pt_not (pt_val (pe_callD D__law_is_told (hr.mono (by decide)) pass0 (pa_cons (pv 7) (pa_cons (pv 4) (pa_cons (pv 9) (pa_cons (pe_callD D__law_walk (hr.mono (by decide)) pass0 (pa_cons (pv 3) (pa_cons (pv 5) (pa_cons (pv 9) pa_nil)))) pa_nil))))))) (pss_one (ps_ret pe_bl)) pss_nil)))
      (pss_cons (ps_if (pt_not (pt_val (pe_callD D__law_numbers (hr.mono (by decide)) pass0 (pa_cons (pe_callD D_reaches (hr.mono (by decide)) pass0 (pa_cons (pv 7) pa_nil)) (pa_cons (pv 8) (pa_cons pe_bl pa_nil)))))) (pss_one (ps_ret pe_bl)) pss_nil)
      (pss_cons (ps_for (PassesOwn.never) rfl (pi_listK K (pe_lst (pa_cons (pe_un un_neg pe_int) (pa_cons (pv 2) (pa_cons (pe_op op_add (pe_op op_add (pv 2) pe_int) (pe_ix (ix_listK K) (pv 1) pe_int (fun _ _ => rfl))) (pa_cons (pe_op op_sub (pe_un un_neg pe_int) (pe_ix (ix_listK K) (pv 1) pe_int (fun _ _ => rfl))) pa_nil)))))) (pg_name (i := 9) sc_law.nd rfl (Or.inl rfl)) (pss_one (ps_for (PassesOwn.never) rfl (pi_range1 rfl T.m_range (pa_cons pe_int pa_nil)) (pg_name (i := 13) sc_law.nd rfl (Or.inl rfl)) (pss_one (ps_if (pt_not (pt_val (pe_callD D__law_is_refused (hr.mono (by decide)) pass0 (pa_cons (pv 7) (pa_cons (pv 9) (pa_cons (pv 13) pa_nil)))))) (pss_one (ps_ret pe_bl)) pss_nil)))))
      (pss_one (ps_ret (pe_and (pe_cmpR (op_eqDK K hr.units) (pv 6) (pe_lst (pa_cons (pv 5) (pa_cons (pv 4) pa_nil))) (nomark _)) (pe_one (pe_callD D__law_is_standing (hr.mono (by decide)) pass0 (pa_cons (pv 7) (pa_cons (pv 3) (pa_cons (pv 4) (pa_cons (pv 5) pa_nil))))))))))))))))))))))))))), ?_⟩
    walk_at "rd"
    refine ⟨sc, ns, 0, rfl, hsc, ?_⟩
    walk_at "rd"
    refine g_I ⟨by decide, by decide, by decide⟩ ?_
    walk_at "rd"
    refine newL fun a1 H1 na1 S1 h1 => ?_
    walk_at "rd"
    refine ⟨a1, cellI ns 0, [3, 8, 8, 16, 10 ^ (9 : Int).toNat, 32, 96], rfl, SqL.of h1, by decide, fun i hi => ?_, fun p2 H2 sh np2 S2 h2 dr => ?_⟩
    · have hi' : i < 7 := hi
      have : i = 0 ∨ i = 1 ∨ i = 2 ∨ i = 3 ∨ i = 4 ∨ i = 5 ∨ i = 6 := by omega
      rcases this with z | z | z | z | z | z | z <;> subst z <;> decide
    have hshl : sh.length = 7 := dr.len
    have b0 : 0 ≤ sh.getD 0 0 ∧ sh.getD 0 0 < 3 := dr.at_ 0 (by decide)
    have b2 : 0 ≤ sh.getD 2 0 ∧ sh.getD 2 0 < 8 := dr.at_ 2 (by decide)
    have b3 : 0 ≤ sh.getD 3 0 ∧ sh.getD 3 0 < 16 := dr.at_ 3 (by decide)
    have b4 : 0 ≤ sh.getD 4 0 ∧ sh.getD 4 0 < 1000000000 := dr.at_ 4 (by decide)
    have b6 : 0 ≤ sh.getD 6 0 ∧ sh.getD 6 0 < 96 := dr.at_ 6 (by decide)
    have SA : Same H H2 := S1.trans S2
    walk_at "rd"
    refine g_ixL (SqL.of h2) (at_int (o := 2) (by omega)) ?_
    walk_at "rd"
    refine g_ixL (SqL.of h2) (at_int (o := 1) (by omega)) ?_
    walk_at "rd"
    refine g_ifset (.int (9 + sh.getD 3 0)) (.int (1 + sh.getD 2 0)) rfl (fun Q' hq => ?_) ?_
    · walk_at "rd"
      refine g_ixL (SqL.of h2) (at_int (o := 3) (by omega)) ?_
      walk_at "rd"
      exact hq
    rw [ite_int]
    walk_at "rd"
    refine g_ixL (SqL.of h2) (at_int (o := 5) (by omega)) ?_
    walk_at "rd"
    refine g_ifset (.int (25 + sh.getD 6 0)) (.int (if decide (sh.getD 1 0 = 1) = true then 9 + sh.getD 3 0 else 1 + sh.getD 2 0)) rfl (fun Q' hq => ?_) ?_
    · walk_at "rd"
      refine g_ixL (SqL.of h2) (at_int (o := 6) (by omega)) ?_
      walk_at "rd"
      exact hq
    rw [ite_int]
    obtain ⟨n, hn0, hn1, en⟩ : ∃ n : Nat, 1 ≤ n ∧ n ≤ 200 ∧ (if decide (sh.getD 5 0 = 7) = true then 25 + sh.getD 6 0 else if decide (sh.getD 1 0 = 1) = true then 9 + sh.getD 3 0 else 1 + sh.getD 2 0) = (n : Int) := by
      refine ⟨(if decide (sh.getD 5 0 = 7) = true then 25 + sh.getD 6 0 else if decide (sh.getD 1 0 = 1) = true then 9 + sh.getD 3 0 else 1 + sh.getD 2 0).toNat, ?_⟩
      split
      · omega
      · split <;> omega
    rw [en]
    walk_at "rd"
    refine g_ixL (SqL.of h2) (at_int (o := 0) (by omega)) ?_
    walk_at "rd"
    generalize decide (sh.getD 0 0 < 2) = rf
    refine ⟨sc, ns, 1, rfl, SA.seq hsc, ?_⟩
    walk_at "rd"
    refine ⟨cellI ns 1, n, rfl, by omega, fun la H3 ls nla S3 hla lsl lsb => ?_⟩
    have SB : Same H H3 := SA.trans S3
    walk_at "rd"
    refine ⟨sc, ns, 2, rfl, SB.seq hsc, ?_⟩
    walk_at "rd"
    refine ⟨cellI ns 2, la, ls, rfl, SqL.of hla, by omega, lsb, fun sa H4 ss nsa S4 hsa ssl ssb => ?_⟩
    have hla4 := S4 _ _ hla
    subst lsl
    have SC : Same H H4 := SB.trans S4
    walk_at "rd"
    refine g_lo (.inl (SqL.of hsa)) fun g1 H5 ng1 S5 hg1 => ?_
    walk_at "rd"
    refine g_lo (.inl (SqL.of (S5 _ _ hla4))) fun g2 H6 ng2 S6 hg2 => ?_
    walk_at "rd"
    refine newL fun gv H7 ngv S7 hgv => ?_
    walk_at "rd"
    have S57 : Same H4 H7 := (S5.trans S6).trans S7
    refine g_ixL (SqL.of hgv) (atI_nat (j := 0) rfl) ?_
    walk_at "rd"
    refine g_ixL (SqL.of hgv) (atI_nat (j := 1) rfl) ?_
    walk_at "rd"
    refine ⟨rfl, rfl, fun x dx nx ndx ne => ?_⟩
    have SM : Same H7 (upd (upd H7 dx (.own x)) x (.ins A.Beads dx [])) := (L2.Same.new ndx).trans (L2.Same.new (by rw [upd_ne ne.symm]; exact nx))
    refine ⟨x, dx, g1, g2, rf, ss, ls, rfl, upd_same, SqL.of (SM _ _ ((S6.trans S7) _ _ hg1)), SqL.of (SM _ _ (S7 _ _ hg2)), by omega, by omega, by omega, fun y hy => (ssb y hy).1, fun y hy => (lsb y hy).1, fun ts tl H8 kp B => ?_⟩
    have S8 : Same H7 H8 := L2.Same.made nx ndx (fun b o h1 h2 => kp b o h2 h1)
    walk_at "rd"
    refine ⟨_, rfl, by omega, by omega, fun D nD => ?_⟩
    rw [Int.toNat_natCast]
    have S48 : Same H4 H8 := S57.trans S8
    refine lc_rangeI (fun p => rch rf ss ls p) nD (by omega) (fun i H' hi S' Q' hq => ?_) (fun H9 S9 hD => ?_)
    · rw [Int.zero_add]
      walk_at "rd"
      refine ⟨rfl, ?_⟩
      walk_at "rd"
      refine ⟨rf, la, sa, ls, ss, i, rfl, SqL.of ((S48.trans S') _ _ hla4), SqL.of ((S48.trans S') _ _ hsa), by omega, by omega, by omega, ?_⟩
      exact hq H' (Same.refl _)
    walk_at "rd"
    refine ⟨x, ts, tl, rf, ss, ls, rfl, B.mono S9, by omega, by omega, fun t HA nt ST ht => ?_⟩
    have duel : ((List.range ls.length).map fun p => rch rf ss ls p).length ≤ 100000 := by rw [List.length_map, List.length_range]; omega
    rw [ssl] at ht
    walk_at "rd"
    refine ⟨t, D, false, _, _, rfl, ht, SqL.of (ST _ _ hD), duel, ?_⟩
    rw [decide_eq_true rfl]
    walk_at "rd"
    refine ⟨ty_l ht, ?_⟩
    walk_at "rd"
    refine g_app ht (by rw [List.length_map, List.length_map, List.length_range]; exact slt1000 (by omega)) ?_
    have SU : Same H9 (upd HA t (.lst (((List.range ls.length).map fun p => rch rf ss ls p).map V.int ++ [V.int 0]))) := ST.mut nt
    generalize upd HA t (.lst (((List.range ls.length).map fun p => rch rf ss ls p).map V.int ++ [V.int 0])) = HB at SU
    have BB := (B.mono S9).mono SU
    have laB := SU _ _ (S9 _ _ (S48 _ _ hla4))
    have saB := SU _ _ (S9 _ _ (S48 _ _ hsa))
    have dB := SU _ _ hD
    have gB := SU _ _ (S9 _ _ (S8 _ _ hgv))
    have g1B := SU _ _ (S9 _ _ (S8 _ _ ((S6.trans S7) _ _ hg1)))
    have g2B := SU _ _ (S9 _ _ (S8 _ _ (S7 _ _ hg2)))
    have shB := SU _ _ (S9 _ _ ((((S3.trans S4).trans S57).trans S8) _ _ h2))
    walk_at "rd"
    refine newRg (a := 0) (b := ls.length) (by omega) (by omega) fun q0 Hq nq Sq hq0 => ?_
    walk_at "rd"
    refine g_ite (fun e => ?ca) (fun e => ?cb)
    case' ca =>
      walk_at "rd"
      refine ⟨4, rfl, by decide, by decide, fun D2 nD2 => ?_⟩
      refine lc_rangeI (n := 4) (fun k => (sh.getD 4 0 + 37 * (k : Int)) % (ls.length : Int)) nD2 (by decide) (fun i H' hi S' Q' hq' => ?_) (fun HC SC' hC => ?_)
      · rw [Int.zero_add]
        walk_at "rd"
        refine ⟨rfl, ?_⟩
        walk_at "rd"
        refine g_ixL (SqL.of ((Sq.trans S') _ _ shB)) (at_int (o := 4) (by omega)) ?_
        walk_at "rd"
        refine g_I (.inl ⟨by decide, by decide⟩) ?_
        walk_at "rd"
        refine g_I (by omega) ?_
        exact hq' H' (Same.refl _)
      obtain ⟨zs, qa, hzs, ezs, zl, SZ⟩ : ∃ (zs : List Int) (qa : Addr), HC qa = some (.lst (zs.map V.int)) ∧ (∀ z ∈ zs, 0 ≤ z ∧ z < (ls.length : Int)) ∧ qa = D2 ∧ Same HB HC :=
        ⟨_, D2, hC, fun z hz => by
          obtain ⟨k, _, rfl⟩ := List.mem_map.mp hz
          exact ⟨Int.emod_nonneg _ (by omega), Int.emod_lt_of_pos _ (by omega)⟩, rfl, Sq.trans SC'⟩
      subst zl
      clear hC
    case' cb =>
      obtain ⟨HC, zs, qa, hzs, ezs, zl, SZ, eH⟩ : ∃ (HC : Hp) (zs : List Int) (qa : Addr), HC qa = some (.lst (zs.map V.int)) ∧ (∀ z ∈ zs, 0 ≤ z ∧ z < (ls.length : Int)) ∧ qa = q0 ∧ Same HB HC ∧ HC = Hq :=
        ⟨Hq, (List.range ls.length).map fun (i : Nat) => (i : Int), q0, by rw [hq0]; congr 2; rw [List.map_map, Nat.sub_zero]; congr 1; funext i; rw [Nat.zero_add]; rfl, fun z hz => by
          obtain ⟨k, hk, rfl⟩ := List.mem_map.mp hz
          have := List.mem_range.mp hk
          omega, rfl, Sq, rfl⟩
      subst zl
      subst eH
    all_goals
      walk_at "rd"
      have BC := BB.mono SZ
      have laC := SZ _ _ laB
      have saC := SZ _ _ saB
      have dC := SZ _ _ dB
      have gC := SZ _ _ gB
      have g1C := SZ _ _ g1B
      have g2C := SZ _ _ g2B
      have shC := SZ _ _ shB
      clear S1 S2 S3 S4 S5 S6 S7 S8 S9 SA SB SC S57 S48 SM ST SU Sq SZ
      refine ⟨qa, rfl, ⟨_, SqL.of hzs⟩, ?_⟩
      refine for_list (K := K) (xs := zs.map V.int) (fun i σ H' => ∃ v9 v12 v13 : Option V, σ = [some (.ref sc), some (.ref p2), some (.int (ls.length : Int)), some (.bl rf), some (.ref la), some (.ref sa), some (.ref gv), some (.ref x), some (.ref D), v9, some (.ref t), some (.ref qa), v12, v13] ∧ Same HC H')
        ⟨none, none, none, rfl, Same.refl _⟩ (fun i σ H' _ ⟨_, _, _, _, S'⟩ => S'.seq (SqL.of hzs)) ?_ ?_
      · rintro i y σ H' hi ⟨v9, v12, v13, rfl, S'⟩
        obtain ⟨z, hz, rfl⟩ : ∃ z, zs[i]? = some z ∧ y = V.int z := by
          rw [List.getElem?_map] at hi
          cases e : zs[i]? with
          | none => rw [e] at hi; cases hi
          | some z => rw [e] at hi; exact ⟨z, rfl, (Option.some.inj hi).symm⟩
        have hzb := ezs z (List.mem_of_getElem? hz)
        obtain ⟨o, rfl⟩ : ∃ o : Nat, z = (o : Int) := ⟨z.toNat, by omega⟩
        have ho : o < ss.length := by omega
        walk_at "rd"
        refine ⟨rf, sa, ss, o, rfl, SqL.of (S' _ _ saC), ho, by omega, fun wa t2 HW nwa nt2 SW hwa ht2 => ?_⟩
        walk_at "rd"
        have SX := S'.trans SW
        refine ⟨x, ts, tl, la, wa, t2, rf, ss, ls, o, rfl, BC.mono SX, SqL.of (SX _ _ laC), by omega, by omega, ho, hwa, ht2, fun HT ST => ?_⟩
        walk_at "rd"
        exact ⟨_, _, _, rfl, SX.trans ST⟩
      · rintro σ H' ⟨v9, v12, v13, rfl, S'⟩
        walk_at "rd"
        refine ⟨x, ts, tl, rf, ss, ls, rfl, BC.mono S', by omega, by omega, fun t5 HD nt5 ST5 ht5 => ?_⟩
        rw [ssl] at ht5
        walk_at "rd"
        refine ⟨t5, D, false, _, _, rfl, ht5, SqL.of ((S'.trans ST5) _ _ dC), duel, ?_⟩
        rw [decide_eq_true rfl]
        walk_at "rd"
        have SY := S'.trans ST5
        refine g_ixL (SqL.of (SY _ _ shC)) (at_int (o := 4) (by omega)) ?_
        walk_at "rd"
        refine g_ixL (SqL.of (SY _ _ shC)) (at_int (o := 4) (by omega)) ?_
        walk_at "rd"
        refine newL fun qb HE nqb SE hqb => ?_
        have SG := SY.trans SE
        have hqb' : HE qb = some (.lst (([-1, (ls.length : Int), (ls.length : Int) + 1 + sh.getD 4 0, -2 - sh.getD 4 0] : List Int).map V.int)) := hqb
        refine ⟨qb, rfl, ⟨_, SqL.of hqb'⟩, ?_⟩
        refine for_list (K := K) (xs := ([-1, (ls.length : Int), (ls.length : Int) + 1 + sh.getD 4 0, -2 - sh.getD 4 0] : List Int).map V.int) (fun i σ H' => ∃ v9 v12 v13 : Option V, σ = [some (.ref sc), some (.ref p2), some (.int (ls.length : Int)), some (.bl rf), some (.ref la), some (.ref sa), some (.ref gv), some (.ref x), some (.ref D), v9, some (.ref t), some (.ref qa), v12, v13] ∧ Same HE H')
          ⟨_, _, _, rfl, Same.refl _⟩ (fun i σ H' _ ⟨_, _, _, _, S'⟩ => S'.seq (SqL.of hqb')) ?_ ?_
        · rintro i y σ H2' hi ⟨v9, v12, v13, rfl, S2'⟩
          obtain ⟨z, hz, rfl⟩ : ∃ z, ([-1, (ls.length : Int), (ls.length : Int) + 1 + sh.getD 4 0, -2 - sh.getD 4 0] : List Int)[i]? = some z ∧ y = V.int z := by
            rw [List.getElem?_map] at hi
            cases e : ([-1, (ls.length : Int), (ls.length : Int) + 1 + sh.getD 4 0, -2 - sh.getD 4 0] : List Int)[i]? with
            | none => rw [e] at hi; cases hi
            | some z => rw [e] at hi; exact ⟨z, rfl, (Option.some.inj hi).symm⟩
          have hzb : ¬ (0 ≤ z ∧ z < (ss.length : Int)) := by
            have hm := List.mem_of_getElem? hz
            simp only [List.mem_cons, List.not_mem_nil, or_false] at hm
            rcases hm with h | h | h | h <;> omega
          walk_at "rd"
          refine ⟨3, rfl, by decide, by decide, ?_⟩
          refine for_range (lo := 0) (n := (3 : Int).toNat) (fun i σ H' => ∃ v12 v13 : Option V, σ = [some (.ref sc), some (.ref p2), some (.int (ls.length : Int)), some (.bl rf), some (.ref la), some (.ref sa), some (.ref gv), some (.ref x), some (.ref D), some (.int z), some (.ref t), some (.ref qa), v12, v13] ∧ Same HE H')
            ⟨_, _, rfl, S2'⟩ ?_ ?_
          · rintro j σ H3' hj ⟨v12, v13, rfl, S3'⟩
            walk_at "rd"
            refine ⟨x, ts, tl, rf, ss, ls, z, _, rfl, BC.mono (SG.trans S3'), by omega, by omega, hzb, fun HF SF => ?_⟩
            walk_at "rd"
            exact ⟨_, _, rfl, S3'.trans SF⟩
          · rintro σ H3' ⟨v12, v13, rfl, S3'⟩
            walk_at "rd"
            exact ⟨_, _, _, rfl, S3'⟩
        · rintro σ H2' ⟨v9, v12, v13, rfl, S2'⟩
          have SH := SG.trans S2'
          walk_at "rd"
          refine newL fun qc HI nqc SI hqc => ?_
          have SJ := SH.trans SI
          refine g_eq2 (SqL.of (SJ _ _ gC)) (SqL.of hqc) (SqL.of (SJ _ _ g1C)) (SqL.of (SJ _ _ g2C)) (SqL.of (SJ _ _ saC)) (SqL.of (SJ _ _ laC)) ?_
          walk_at "rd"
          refine ⟨x, ts, tl, la, sa, rf, ss, ls, rfl, BC.mono SJ, SqL.of (SJ _ _ laC), SqL.of (SJ _ _ saC), by omega, by omega, ?_⟩
          exact q HI
end
end Rt
set_option Elab.async false
set_option linter.all false
set_option maxRecDepth 100000
set_option maxHeartbeats 4000000
/-! The head's facts by names: as HandS.HeadHook2's Hook, with one more Bool of the written part. -/
namespace Rt
open PySem PySem.Spec L2 He
abbrev AlM : Type := AlD × Bool
def obsMG (n : Nat) (fa : List Fa) (fn : List DefD) (more : PySem.W.Frag → Bool) (g : Addr → Option Obj) : AlM := (obsD fa fn (frG g (asD g n)), more (frG g (asD g n)))
def hookM (n : Nat) (fa : List Fa) (fn : List DefD) (more : PySem.W.Frag → Bool) : PySem.W.Hook where
  α := AlM
  obs := fun s => obsMG n fa fn more s.heap.get?
  val := fun _ => (valD fn, true)
  says := fun _ h => ∃ K : PySem.W.Frag, K.In h ∧ SaysD fa fn K ∧ more K = true
  of := fun _ _ e => ⟨_, frG_in, congrArg (fun z : AlM => z.1) e, congrArg (fun z : AlM => z.2) e⟩
  keeps := fun _ _ _ ⟨K, hK, c, d⟩ k => ⟨K, PySem.W.Frag.In.keeps hK k, c, d⟩
theorem obsMG_eq {n : Nat} {fa : List Fa} {fn : List DefD} {more : PySem.W.Frag → Bool} {g : Addr → Option Obj} {s : Shared} (h : ∀ a, g a = s.heap.get? a) : obsMG n fa fn more g = (hookM n fa fn more).obs s := by
  have e : g = s.heap.get? := funext h
  rw [e] <;> rfl
/-! ### an own exception class with an __init__ of its own -/
def clsB (K : PySem.W.Frag) (C : Addr) : Bool := match K.lookup C with
  | some ⟨.type "type", _, .cls cd, sl⟩ => (match cd.mro, sl.toList with
    | .ref C' :: bm, [_, _, _, _, some (.builtin n), _] => C' == C && n == "ValueError.__new__" && !cd.hasDel && cd.hasDict && PySem.HandSPX.refsVE bm
    | _, _ => false)
  | _ => false
theorem clsB_ok {K : PySem.W.Frag} {C : Addr} (q : clsB K C = true) : ∃ nm q N bs bm sn sub ab col dd k0 k1 k2 k3 k5, K.lookup C = some (excClassObj nm q C N bs bm true sn sub ab col dd k0 k1 k2 k3 k5 "ValueError.__new__") ∧ PySem.HandSPX.refsVE bm = true := by
  unfold clsB at q
  split at q
  · rename_i dd cd sl ho
    split at q
    · rename_i C' bm k0 k1 k2 k3 n k5 hm hs
      simp only [Bool.and_eq_true, beq_iff_eq, Bool.not_eq_true'] at q
      obtain ⟨⟨⟨⟨rfl, rfl⟩, hdel⟩, hdict⟩, ht⟩ := q
      obtain ⟨nm, bs, mro, ns, qn, hd, sn, sub, ab, col, del⟩ := cd
      dsimp only at hm hdel hdict
      subst hm hdel hdict
      have hsl : sl = #[k0, k1, k2, k3, some (.builtin "ValueError.__new__"), k5] := by
        obtain ⟨l⟩ := sl
        simp only at hs
        rw [hs]
      subst hsl
      exact ⟨nm, qn, ns, bs, bm, sn, sub, ab, col, dd, k0, k1, k2, k3, k5, ho, ht⟩
    · cases q
  · cases q
def excB (K : PySem.W.Frag) (x fld : Str) : Bool := clsB K (ga K x) && (eqO (PySem.W.findIn K (.ref (ga K x)) "__setattr__") (some (some (.builtin "object.__setattr__"))) && (decide (PySem.W.subIn K (.ref (ga K x)) (.type "BaseException") = some true) &&
  (decide (PySem.W.typeIn K (.ref (ga K x)) = some (.type "type")) && (PySem.W.keepIn K (.ref (ga K x)) && (eqO (PySem.W.findIn K (.ref (ga K x)) "__init__") (some (some (.ref (ma K (ga K x) "__init__")))) &&
  (decide (PySem.W.typeIn K (.ref (ma K (ga K x) "__init__")) = some (.type "function")) && (eqO (PySem.W.findIn K (.ref (ga K x)) fld) (some none) && xfB K (ga K x))))))))
structure ExcT (K : PySem.W.Frag) (x fld : Str) : Prop where
  o : OexC K (ga K x)
  i : PySem.W.findIn K (.ref (ga K x)) "__init__" = some (some (.ref (ma K (ga K x) "__init__")))
  t : PySem.W.typeIn K (.ref (ma K (ga K x) "__init__")) = some (.type "function")
  no : PySem.W.findIn K (.ref (ga K x)) fld = some none
  xf : XfC K (ga K x)
theorem excB_ok {K : PySem.W.Frag} {x fld : Str} (h : excB K x fld = true) : ExcT K x fld := by
  obtain ⟨c1, h⟩ := ba h
  obtain ⟨c2, h⟩ := ba h
  obtain ⟨c3, h⟩ := ba h
  obtain ⟨c4, h⟩ := ba h
  obtain ⟨c5, h⟩ := ba h
  obtain ⟨c6, h⟩ := ba h
  obtain ⟨c7, h⟩ := ba h
  obtain ⟨c8, c9⟩ := ba h
  exact ⟨⟨clsB_ok c1, eqO_ok c2, of_decide_eq_true c3, of_decide_eq_true c4, c5⟩, eqO_ok c6, of_decide_eq_true c7, eqO_ok c8, xfB_ok c9⟩
/-- isinstance(x, C) of an instance of C -/
def isiB (K : PySem.W.Frag) (x : Str) : Bool := eqO (PySem.W.findIn K (.ref (ga K x)) "__class__") (some (some (.builtin "object.__class__"))) && (eqO (PySem.W.specialIn K (.builtin "object.__class__") "__get__") (some (some (.builtin "getset_descriptor.__get__"))) &&
  (decide (PySem.W.takesIn K (.builtin "object.__class__") = some true) && (decide (PySem.W.mroIn K (ga K x) (.type "object") = some true) && decide (PySem.W.kitOne K (.ref (ga K x)) (.ref (ga K x)) = some true))))
theorem isiB_ok {K : PySem.W.Frag} {x : Str} (h : isiB K x = true) : PySem.W.findIn K (.ref (ga K x)) "__class__" = some (some (.builtin "object.__class__")) ∧ PySem.W.specialIn K (.builtin "object.__class__") "__get__" = some (some (.builtin "getset_descriptor.__get__")) ∧
    PySem.W.takesIn K (.builtin "object.__class__") = some true ∧ PySem.W.mroIn K (ga K x) (.type "object") = some true ∧ PySem.W.kitOne K (.ref (ga K x)) (.ref (ga K x)) = some true := by
  obtain ⟨c1, h⟩ := ba h
  obtain ⟨c2, h⟩ := ba h
  obtain ⟨c3, h⟩ := ba h
  obtain ⟨c4, c5⟩ := ba h
  exact ⟨eqO_ok c1, eqO_ok c2, of_decide_eq_true c3, of_decide_eq_true c4, of_decide_eq_true c5⟩
/-! ### a def by its datum -/
section
variable {P : Program} {w : World} {K : PySem.W.Frag} {mg : Str → Option Value} {base : Heap} {x qual : Str} {st : Stmt} {f : Addr} {fd : FuncData} {ps : List Str} {k : Nat} {CX : CXT} {sp : Sp}
/-- without defaults: as Fun -/
theorem fun_of (F : FunD K x qual (defArgs st) (defBody st) (defScope st) [] [] f fd) : Fun K x qual st f fd := by
  obtain ⟨⟨oc, od, dV, kV, doc, pm, an, cdv, ct, osl, rfl, lk, hcd, hD, hK⟩, kp⟩ := F
  rcases hD with ⟨_, rfl⟩ | ⟨e, _⟩
  · exact ⟨⟨oc, od, kV, doc, pm, an, cdv, ct, osl, rfl, lk, hcd⟩, kp⟩
  · exact absurd rfl e
theorem defOk (g : mg x = some (.ref f)) (F : Fun K x qual st f fd) (O : FnOk P w K mg base CX k f fd ps sp) (b : L2.Binds K fd ps []) : DefOk P w K mg base CX k x ps sp := ⟨f, fd, g, F.kp, O, b⟩
theorem defOkH (g : mg x = some (.ref f)) (F : Fun K x qual st f fd) (O : L2H.FnH P w K mg base CX k f fd ps sp) (b : L2.Binds K fd ps []) : DefOkH P w K mg base CX k x ps sp := ⟨f, fd, g, F.kp, O, b⟩
end
end Rt
set_option Elab.async false
set_option linter.all false
set_option maxRecDepth 100000
set_option maxHeartbeats 0
namespace Rt
open PySem PySem.Spec L2 He
def fn : List He.DefD := [
  ⟨("_law_cell", none), "_law_cell", "_law_cell", defArgs s__law_cell, defBody s__law_cell, defScope s__law_cell, [], []⟩,
  ⟨("_law_draws", none), "_law_draws", "_law_draws", defArgs s__law_draws, defBody s__law_draws, defScope s__law_draws, [], []⟩,
  ⟨("_law_lengths", none), "_law_lengths", "_law_lengths", defArgs s__law_lengths, defBody s__law_lengths, defScope s__law_lengths, [], []⟩,
  ⟨("_law_strengths", none), "_law_strengths", "_law_strengths", defArgs s__law_strengths, defBody s__law_strengths, defScope s__law_strengths, [], []⟩,
  ⟨("_law_reach", none), "_law_reach", "_law_reach", defArgs s__law_reach, defBody s__law_reach, defScope s__law_reach, [], []⟩,
  ⟨("_law_is_integer", none), "_law_is_integer", "_law_is_integer", defArgs s__law_is_integer, defBody s__law_is_integer, defScope s__law_is_integer, [], []⟩,
  ⟨("_law_numbers", none), "_law_numbers", "_law_numbers", defArgs s__law_numbers, defBody s__law_numbers, defScope s__law_numbers, [], []⟩,
  ⟨("_law_is_standing", none), "_law_is_standing", "_law_is_standing", defArgs s__law_is_standing, defBody s__law_is_standing, defScope s__law_is_standing, [], []⟩,
  ⟨("_law_walk", none), "_law_walk", "_law_walk", defArgs s__law_walk, defBody s__law_walk, defScope s__law_walk, [], []⟩,
  ⟨("_law_is_told", none), "_law_is_told", "_law_is_told", defArgs s__law_is_told, defBody s__law_is_told, defScope s__law_is_told, [], []⟩,
  ⟨("_law_is_refused", none), "_law_is_refused", "_law_is_refused", defArgs s__law_is_refused, defBody s__law_is_refused, defScope s__law_is_refused, [], []⟩,
  ⟨("law", none), "law", "law", defArgs s_law, defBody s_law, defScope s_law, [], []⟩,
  ⟨("check_place", none), "check_place", "check_place", defArgs s_check_place, defBody s_check_place, defScope s_check_place, [], []⟩,
  ⟨("run_after", none), "run_after", "run_after", defArgs s_run_after, defBody s_run_after, defScope s_run_after, [], []⟩,
  ⟨("train_of", none), "train_of", "train_of", defArgs s_train_of, defBody s_train_of, defScope s_train_of, [], []⟩,
  ⟨("reach_of", none), "reach_of", "reach_of", defArgs s_reach_of, defBody s_reach_of, defScope s_reach_of, [], []⟩,
  ⟨("stopper_of", none), "stopper_of", "stopper_of", defArgs s_stopper_of, defBody s_stopper_of, defScope s_stopper_of, [], []⟩,
  ⟨("reaches", none), "reaches", "reaches", defArgs s_reaches, defBody s_reaches, defScope s_reaches, [], []⟩,
  ⟨("_check_beads", none), "_check_beads", "_check_beads", defArgs s__check_beads, defBody s__check_beads, defScope s__check_beads, [], []⟩,
  ⟨("Beads", some "__init__"), "__init__", "Beads.__init__", defArgs s_Beads_init, defBody s_Beads_init, defScope s_Beads_init, [.non], [("ring", .bl true)]⟩,
  ⟨("Beads", some "__len__"), "__len__", "Beads.__len__", defArgs s_Beads_len, defBody s_Beads_len, defScope s_Beads_len, [], []⟩,
  ⟨("BadPlace", some "__init__"), "__init__", "BadPlace.__init__", defArgs s_BadPlace_init, defBody s_BadPlace_init, defScope s_BadPlace_init, [], []⟩]
def fa : List He.Fa := [.glo "_law_cell", .glo "_law_draws", .glo "_law_lengths", .glo "_law_strengths", .glo "_law_reach", .glo "_law_is_integer", .glo "_law_numbers", .glo "_law_is_standing", .glo "_law_walk", .glo "_law_is_told", .glo "_law_is_refused", .glo "law", .glo "check_place", .glo "run_after", .glo "train_of", .glo "reach_of", .glo "stopper_of", .glo "reaches", .glo "_check_beads", .free "len", .free "int", .free "bool", .free "tuple", .free "list", .free "range", .free "isinstance", .free "sum", .glo "Beads", .glo "BadPlace", .cls "Beads", .noat "Beads" "strengths", .noat "Beads" "lengths", .noat "Beads" "ring", .exm "BadPlace" "BadPlace" true, .meth "Beads" "__len__", .mkr "Beads"]
def more (K : PySem.W.Frag) : Bool := excB K "BadPlace" "place" && isiB K "Beads"
def loose : List Str := ["_wall", "__name__", "RetinueError", "BadBeads", "BadPlace", "WrongKind", "check_place", "run_after", "train_of", "reach_of", "stopper_of", "reaches", "Beads", "_check_beads", "_law_cell", "_law_draws", "_law_lengths", "_law_strengths", "_law_reach", "_law_is_integer", "_law_numbers", "_law_is_standing", "_law_walk", "_law_is_told", "_law_is_refused"]
abbrev R : PySem.W.OpenRow := PySem.W.OpenLaw.row PySem.Challenge.rw_retinue_k01_trains_and_reaches
abbrev hk : PySem.W.Hook := hookM 5 fa fn more
def ob (s : PySem.W.SharedT) : AlM := obsMG 5 fa fn more (HandSHeadRun.getT s)
theorem ob_eq (s : PySem.W.SharedT) : ob s = hk.obs s.abs := obsMG_eq (HandSHeadRun.getT_eq s)
theorem run_ (w : World) : HandSHeadRun.RunEq R (PySem.W.view R.prog [29]) hk ob 3000 loose w := by
  intro os
  kernel_rfl
theorem facts {P : Program} {w : World} {K : PySem.W.Frag} {h : Heap} {mg : Str → Option Value} {f : Addr} (X : K.In h) (G : h.Ns mainGlobals mg) (hfa : mg ("law" : Str) = some (.ref f)) (c : He.SaysD fa fn K) (m : more K = true) :
    ∃ fd : FuncData, (∀ (s : Shared) (v : Value), BindsTo s fd ⟨[v], []⟩ [("script", v)]) ∧ ∀ base : Heap, K.In base → base.Ns mainGlobals mg → FnOk P w K mg base CX0 8 f fd ["script"] (spLaw K) := by
  obtain ⟨mE, mI⟩ := ba m
  have E := excB_ok mE
  obtain ⟨i1, i2, i3, i4, i5⟩ := isiB_ok mI
  obtain ⟨fd_cell, F_cell⟩ := c.def_ 0 (d := ⟨("_law_cell", none), "_law_cell", "_law_cell", defArgs s__law_cell, defBody s__law_cell, defScope s__law_cell, [], []⟩) rfl
  have U_cell := fun_of (st := s__law_cell) F_cell
  have b_cell := U_cell.binds (ps := ["script","k"]) fun _ _ _ _ _ _ us hl => match us, hl with | [_, _], _ => rfl
  have g_cell := He.glo_ok X G (c.fact 0 (f := .glo "_law_cell") rfl)
  obtain ⟨fd_draws, F_draws⟩ := c.def_ 1 (d := ⟨("_law_draws", none), "_law_draws", "_law_draws", defArgs s__law_draws, defBody s__law_draws, defScope s__law_draws, [], []⟩) rfl
  have U_draws := fun_of (st := s__law_draws) F_draws
  have b_draws := U_draws.binds (ps := ["cell","sizes"]) fun _ _ _ _ _ _ us hl => match us, hl with | [_, _], _ => rfl
  have g_draws := He.glo_ok X G (c.fact 1 (f := .glo "_law_draws") rfl)
  obtain ⟨fd_lengths, F_lengths⟩ := c.def_ 2 (d := ⟨("_law_lengths", none), "_law_lengths", "_law_lengths", defArgs s__law_lengths, defBody s__law_lengths, defScope s__law_lengths, [], []⟩) rfl
  have U_lengths := fun_of (st := s__law_lengths) F_lengths
  have b_lengths := U_lengths.binds (ps := ["cell","many"]) fun _ _ _ _ _ _ us hl => match us, hl with | [_, _], _ => rfl
  have g_lengths := He.glo_ok X G (c.fact 2 (f := .glo "_law_lengths") rfl)
  obtain ⟨fd_strengths, F_strengths⟩ := c.def_ 3 (d := ⟨("_law_strengths", none), "_law_strengths", "_law_strengths", defArgs s__law_strengths, defBody s__law_strengths, defScope s__law_strengths, [], []⟩) rfl
  have U_strengths := fun_of (st := s__law_strengths) F_strengths
  have b_strengths := U_strengths.binds (ps := ["cell","sizes"]) fun _ _ _ _ _ _ us hl => match us, hl with | [_, _], _ => rfl
  have g_strengths := He.glo_ok X G (c.fact 3 (f := .glo "_law_strengths") rfl)
  obtain ⟨fd_reach, F_reach⟩ := c.def_ 4 (d := ⟨("_law_reach", none), "_law_reach", "_law_reach", defArgs s__law_reach, defBody s__law_reach, defScope s__law_reach, [], []⟩) rfl
  have U_reach := fun_of (st := s__law_reach) F_reach
  have b_reach := U_reach.binds (ps := ["round_flag","sizes","strengths","place"]) fun _ _ _ _ _ _ us hl => match us, hl with | [_, _, _, _], _ => rfl
  have g_reach := He.glo_ok X G (c.fact 4 (f := .glo "_law_reach") rfl)
  obtain ⟨fd_int, F_int⟩ := c.def_ 5 (d := ⟨("_law_is_integer", none), "_law_is_integer", "_law_is_integer", defArgs s__law_is_integer, defBody s__law_is_integer, defScope s__law_is_integer, [], []⟩) rfl
  have U_int := fun_of (st := s__law_is_integer) F_int
  have b_int := U_int.binds (ps := ["actual"]) fun _ _ _ _ _ _ us hl => match us, hl with | [_], _ => rfl
  have g_int := He.glo_ok X G (c.fact 5 (f := .glo "_law_is_integer") rfl)
  obtain ⟨fd_numbers, F_numbers⟩ := c.def_ 6 (d := ⟨("_law_numbers", none), "_law_numbers", "_law_numbers", defArgs s__law_numbers, defBody s__law_numbers, defScope s__law_numbers, [], []⟩) rfl
  have U_numbers := fun_of (st := s__law_numbers) F_numbers
  have b_numbers := U_numbers.binds (ps := ["actual","due","as_tuple"]) fun _ _ _ _ _ _ us hl => match us, hl with | [_, _, _], _ => rfl
  have g_numbers := He.glo_ok X G (c.fact 6 (f := .glo "_law_numbers") rfl)
  obtain ⟨fd_standing, F_standing⟩ := c.def_ 7 (d := ⟨("_law_is_standing", none), "_law_is_standing", "_law_is_standing", defArgs s__law_is_standing, defBody s__law_is_standing, defScope s__law_is_standing, [], []⟩) rfl
  have U_standing := fun_of (st := s__law_is_standing) F_standing
  have b_standing := U_standing.binds (ps := ["actual","round_flag","sizes","strengths"]) fun _ _ _ _ _ _ us hl => match us, hl with | [_, _, _, _], _ => rfl
  have g_standing := He.glo_ok X G (c.fact 7 (f := .glo "_law_is_standing") rfl)
  obtain ⟨fd_walk, F_walk⟩ := c.def_ 8 (d := ⟨("_law_walk", none), "_law_walk", "_law_walk", defArgs s__law_walk, defBody s__law_walk, defScope s__law_walk, [], []⟩) rfl
  have U_walk := fun_of (st := s__law_walk) F_walk
  have b_walk := U_walk.binds (ps := ["round_flag","strengths","place"]) fun _ _ _ _ _ _ us hl => match us, hl with | [_, _, _], _ => rfl
  have g_walk := He.glo_ok X G (c.fact 8 (f := .glo "_law_walk") rfl)
  obtain ⟨fd_told, F_told⟩ := c.def_ 9 (d := ⟨("_law_is_told", none), "_law_is_told", "_law_is_told", defArgs s__law_is_told, defBody s__law_is_told, defScope s__law_is_told, [], []⟩) rfl
  have U_told := fun_of (st := s__law_is_told) F_told
  have b_told := U_told.binds (ps := ["beads","sizes","place","walk"]) fun _ _ _ _ _ _ us hl => match us, hl with | [_, _, _, _], _ => rfl
  have g_told := He.glo_ok X G (c.fact 9 (f := .glo "_law_is_told") rfl)
  obtain ⟨fd_refused, F_refused⟩ := c.def_ 10 (d := ⟨("_law_is_refused", none), "_law_is_refused", "_law_is_refused", defArgs s__law_is_refused, defBody s__law_is_refused, defScope s__law_is_refused, [], []⟩) rfl
  have U_refused := fun_of (st := s__law_is_refused) F_refused
  have b_refused := U_refused.binds (ps := ["beads","place","which"]) fun _ _ _ _ _ _ us hl => match us, hl with | [_, _, _], _ => rfl
  have g_refused := He.glo_ok X G (c.fact 10 (f := .glo "_law_is_refused") rfl)
  obtain ⟨fd_law, F_law⟩ := c.def_ 11 (d := ⟨("law", none), "law", "law", defArgs s_law, defBody s_law, defScope s_law, [], []⟩) rfl
  have U_law := fun_of (st := s_law) F_law
  have b_law := U_law.binds (ps := ["script"]) fun _ _ _ _ _ _ us hl => match us, hl with | [_], _ => rfl
  have g_law := He.glo_ok X G (c.fact 11 (f := .glo "law") rfl)
  obtain ⟨fd_check, F_check⟩ := c.def_ 12 (d := ⟨("check_place", none), "check_place", "check_place", defArgs s_check_place, defBody s_check_place, defScope s_check_place, [], []⟩) rfl
  have U_check := fun_of (st := s_check_place) F_check
  have b_check := U_check.binds (ps := ["many","place"]) fun _ _ _ _ _ _ us hl => match us, hl with | [_, _], _ => rfl
  have g_check := He.glo_ok X G (c.fact 12 (f := .glo "check_place") rfl)
  obtain ⟨fd_run, F_run⟩ := c.def_ 13 (d := ⟨("run_after", none), "run_after", "run_after", defArgs s_run_after, defBody s_run_after, defScope s_run_after, [], []⟩) rfl
  have U_run := fun_of (st := s_run_after) F_run
  have b_run := U_run.binds (ps := ["beads","place"]) fun _ _ _ _ _ _ us hl => match us, hl with | [_, _], _ => rfl
  have g_run := He.glo_ok X G (c.fact 13 (f := .glo "run_after") rfl)
  obtain ⟨fd_train, F_train⟩ := c.def_ 14 (d := ⟨("train_of", none), "train_of", "train_of", defArgs s_train_of, defBody s_train_of, defScope s_train_of, [], []⟩) rfl
  have U_train := fun_of (st := s_train_of) F_train
  have b_train := U_train.binds (ps := ["beads","place"]) fun _ _ _ _ _ _ us hl => match us, hl with | [_, _], _ => rfl
  have g_train := He.glo_ok X G (c.fact 14 (f := .glo "train_of") rfl)
  obtain ⟨fd_reachOf, F_reachOf⟩ := c.def_ 15 (d := ⟨("reach_of", none), "reach_of", "reach_of", defArgs s_reach_of, defBody s_reach_of, defScope s_reach_of, [], []⟩) rfl
  have U_reachOf := fun_of (st := s_reach_of) F_reachOf
  have b_reachOf := U_reachOf.binds (ps := ["beads","place"]) fun _ _ _ _ _ _ us hl => match us, hl with | [_, _], _ => rfl
  have g_reachOf := He.glo_ok X G (c.fact 15 (f := .glo "reach_of") rfl)
  obtain ⟨fd_stop, F_stop⟩ := c.def_ 16 (d := ⟨("stopper_of", none), "stopper_of", "stopper_of", defArgs s_stopper_of, defBody s_stopper_of, defScope s_stopper_of, [], []⟩) rfl
  have U_stop := fun_of (st := s_stopper_of) F_stop
  have b_stop := U_stop.binds (ps := ["beads","place"]) fun _ _ _ _ _ _ us hl => match us, hl with | [_, _], _ => rfl
  have g_stop := He.glo_ok X G (c.fact 16 (f := .glo "stopper_of") rfl)
  obtain ⟨fd_reaches, F_reaches⟩ := c.def_ 17 (d := ⟨("reaches", none), "reaches", "reaches", defArgs s_reaches, defBody s_reaches, defScope s_reaches, [], []⟩) rfl
  have U_reaches := fun_of (st := s_reaches) F_reaches
  have b_reaches := U_reaches.binds (ps := ["beads"]) fun _ _ _ _ _ _ us hl => match us, hl with | [_], _ => rfl
  have g_reaches := He.glo_ok X G (c.fact 17 (f := .glo "reaches") rfl)
  obtain ⟨fd_chk, F_chk⟩ := c.def_ 18 (d := ⟨("_check_beads", none), "_check_beads", "_check_beads", defArgs s__check_beads, defBody s__check_beads, defScope s__check_beads, [], []⟩) rfl
  have U_chk := fun_of (st := s__check_beads) F_chk
  have b_chk := U_chk.binds (ps := ["strengths","lengths"]) fun _ _ _ _ _ _ us hl => match us, hl with | [_, _], _ => rfl
  have g_chk := He.glo_ok X G (c.fact 18 (f := .glo "_check_beads") rfl)
  obtain ⟨fd_init, F_init⟩ := c.def_ 19 (d := ⟨("Beads", some "__init__"), "__init__", "Beads.__init__", defArgs s_Beads_init, defBody s_Beads_init, defScope s_Beads_init, [.non], [("ring", .bl true)]⟩) rfl
  obtain ⟨fd_len, F_len⟩ := c.def_ 20 (d := ⟨("Beads", some "__len__"), "__len__", "Beads.__len__", defArgs s_Beads_len, defBody s_Beads_len, defScope s_Beads_len, [], []⟩) rfl
  obtain ⟨fd_bp, F_bp⟩ := c.def_ 21 (d := ⟨("BadPlace", some "__init__"), "__init__", "BadPlace.__init__", defArgs s_BadPlace_init, defBody s_BadPlace_init, defScope s_BadPlace_init, [], []⟩) rfl
  have U_len := fun_of (st := s_Beads_len) F_len
  have b_len := U_len.binds (ps := ["self"]) fun _ _ _ _ _ _ us hl => match us, hl with | [_], _ => rfl
  have U_bp := fun_of (st := s_BadPlace_init) F_bp
  have b_bp := U_bp.binds (ps := ["self", "place"]) fun _ _ _ _ _ _ us hl => match us, hl with | [_, _], _ => rfl
  obtain ⟨its, mv, kb⟩ := FunD.kbinds (ps := ["self", "strengths", "lengths", "ring"]) F_init 3 ["ring"] [] (fun us its mv ws => us ++ ws) (by simp [DefD.dvs]) (by simp [DefD.kws]) (fun q h => by cases h) (fun r1 r2 r3 r4 => r1.append r4)
    (fun T D doc pm an cdv ct us its mv ws h1 h2 h3 h4 => match us, its, mv, ws, h1, h2, h3, h4 with | [_, _, _], [_], [], [_], _, _, _, _ => ⟨_, rfl, rfl⟩)
  have eL := hfa.symm.trans g_law
  cases eL
  have A0 : ∃ A : Ad, A = ⟨ga K "Beads", ga K "BadPlace"⟩ := ⟨_, rfl⟩
  obtain ⟨A, hA⟩ := A0
  have T : Txt K mg A := by
    subst hA
    exact {
      m_len := He.free_ok X G (c.fact 19 (f := .free "len") rfl)
      m_int := He.free_ok X G (c.fact 20 (f := .free "int") rfl)
      m_bool := He.free_ok X G (c.fact 21 (f := .free "bool") rfl)
      m_tuple := He.free_ok X G (c.fact 22 (f := .free "tuple") rfl)
      m_list := He.free_ok X G (c.fact 23 (f := .free "list") rfl)
      m_range := He.free_ok X G (c.fact 24 (f := .free "range") rfl)
      m_isinstance := He.free_ok X G (c.fact 25 (f := .free "isinstance") rfl)
      m_sum := He.free_ok X G (c.fact 26 (f := .free "sum") rfl)
      g_Beads := He.glo_ok X G (c.fact 27 (f := .glo "Beads") rfl)
      g_BadPlace := He.glo_ok X G (c.fact 28 (f := .glo "BadPlace") rfl)
      cl := He.cls_ok (c.fact 29 (f := .cls "Beads") rfl)
      nS := He.noat_ok (c.fact 30 (f := .noat "Beads" "strengths") rfl)
      nL := He.noat_ok (c.fact 31 (f := .noat "Beads" "lengths") rfl)
      nR := He.noat_ok (c.fact 32 (f := .noat "Beads" "ring") rfl)
      oBP := E.o
      no_BadPlace_place := E.no
      x_BadPlace := E.xf
      eBP := He.exm_ok (c.fact 33 (f := .exm "BadPlace" "BadPlace" true) rfl)
      iB1 := i1
      iB2 := i2
      iB3 := i3
      iB4 := i4
      iB5 := i5 }
  have ML := He.meth_ok (c.fact 34 (f := .meth "Beads" "__len__") rfl)
  have MK := He.mkr_ok (c.fact 35 (f := .mkr "Beads") rfl)
  refine ⟨_, fun s v => FunD.bindsA (ps := ["script"]) F_law (fun _ _ _ _ _ _ us hl => match us, hl with | [_], _ => rfl) s [v] rfl, fun base hKb hGb => ?_⟩
  have eA1 : A.Beads = ga K "Beads" := by rw [hA]
  have eA2 : A.BadPlace = ga K "BadPlace" := by rw [hA]
  have LN : LenD P w K mg base A.Beads (spLen A) := by
    rw [eA1]
    exact ⟨_, fd_len, ⟨ML.at_, ML.fn⟩, ok_len U_len T, b_len⟩
  have X_BP : ExcDef P w K mg base "BadPlace" A.BadPlace "place" := by
    have o := ok_BadPlace (P := P) (w := w) (mg := mg) (base := base) (A := A) U_bp
    rw [eA2] at o ⊢
    exact ⟨_, fd_bp, E.o, E.i, E.t, o, b_bp, He.glo_ok X G (c.fact 28 (f := .glo "BadPlace") rfl), E.no⟩
  have D1 : DefOk P w K mg base CX0 1 "_law_cell" ["script", "k"] (Rt.spCell K) := defOk g_cell U_cell (ok_cell U_cell T) b_cell
  have D2 : DefOk P w K mg base CX0 1 "_law_draws" ["cell", "sizes"] (Rt.spDraws K) := defOk g_draws U_draws (ok_draws U_draws T) b_draws
  have D3 : DefOk P w K mg base CX0 2 "_law_lengths" ["cell", "many"] Rt.spLengths := defOk g_lengths U_lengths (ok_lengths U_lengths T D2) b_lengths
  have D4 : DefOk P w K mg base CX0 2 "_law_strengths" ["cell", "sizes"] (Rt.spStrengths K) := defOk g_strengths U_strengths (ok_strengths U_strengths T D2) b_strengths
  have D5 : DefOk P w K mg base CX0 1 "_law_reach" ["round_flag", "sizes", "strengths", "place"] (Rt.spReach K) := defOk g_reach U_reach (ok_reach U_reach T) b_reach
  have D6 : DefOk P w K mg base CX0 1 "_law_is_integer" ["actual"] Rt.spInt := defOk g_int U_int (ok_int U_int T) b_int
  have H6 : DefOkH P w K mg base CX0 1 "_law_is_integer" ["actual"] Rt.spInt := defOkH g_int U_int (ok_intH U_int T) b_int
  have D7 : DefOk P w K mg base CX0 2 "_law_numbers" ["actual", "due", "as_tuple"] (Rt.spNumbers K) := defOk g_numbers U_numbers (ok_numbers U_numbers T D6) b_numbers
  have D8 : DefOk P w K mg base CX0 3 "_law_is_standing" ["actual", "round_flag", "sizes", "strengths"] (spStanding K A) := defOk g_standing U_standing (ok_standing U_standing T D7) b_standing
  have D9 : DefOk P w K mg base CX0 1 "_law_walk" ["round_flag", "strengths", "place"] (Rt.spWalk K) := defOk g_walk U_walk (ok_walk U_walk T) b_walk
  have D10 : DefOk P w K mg base (L2N.CX P w) 4 "check_place" ["many", "place"] (spCheck A) := defOk g_check U_check ((ok_check U_check T X_BP).mono (by decide)) b_check
  have D11 : DefOk P w K mg base CX0 4 "run_after" ["beads", "place"] (spRun A) := defOk g_run U_run (ok_run U_run T LN) b_run
  have D12 : DefOk P w K mg base (L2N.CX P w) 5 "train_of" ["beads", "place"] (spPl A RTrain) := defOk g_train U_train (ok_train U_train T LN D10 D11) b_train
  have D13 : DefOk P w K mg base (L2N.CX P w) 6 "reach_of" ["beads", "place"] (spPl A RReach) := defOk g_reachOf U_reachOf (ok_reachOf U_reachOf T D12) b_reachOf
  have D14 : DefOk P w K mg base (L2N.CX P w) 6 "stopper_of" ["beads", "place"] (spPl A RStop) := defOk g_stop U_stop (ok_stop U_stop T D11 D12) b_stop
  have D15 : DefOk P w K mg base CX0 7 "reaches" ["beads"] (spReaches A) := defOk g_reaches U_reaches (ok_reaches U_reaches T LN D13) b_reaches
  have D16 : DefOk P w K mg base CX0 1 "_check_beads" ["strengths", "lengths"] spChk := defOk g_chk U_chk (ok_chk U_chk T) b_chk
  have D17 : DefOk P w K mg base CX0 7 "_law_is_told" ["beads", "sizes", "place", "walk"] (spTold K A) := defOk g_told U_told (ok_told U_told T D7 D6 D12 D13 D14) b_told
  have D18 : DefOk P w K mg base CX0 7 "_law_is_refused" ["beads", "place", "which"] (spRefused A) := defOk g_refused U_refused (ok_refused U_refused T H6 D12 D13 D14) b_refused
  have MKB : CtorD P w K mg base CX0 2 "Beads" A.Beads 2 ["ring"] gBeads (spInit K A) := by
    have o := ok_init (P := P) (w := w) (base := base) F_init T D16
    have g := T.g_Beads
    rw [eA1] at g ⊢
    exact ⟨_, fd_init, _, _, g, MK, o, kb⟩
  exact ok_law U_law T D1 D2 D3 D4 MKB D5 D15 D7 D17 D9 D18 D8
end Rt
open PySem PySem.W PySem.Calls PyProof.Rows
set_option maxHeartbeats 0 in
theorem PySem.Challenge.cw_retinue_k01_trains_and_reaches_holds : PySem.Challenge.rw_retinue_k01_trains_and_reaches.Holds := by
  w_on; o_law
  refine HandSHeadRun.head_any (r := OpenLaw.row PySem.Challenge.rw_retinue_k01_trains_and_reaches) (q := view (OpenLaw.row PySem.Challenge.rw_retinue_k01_trains_and_reaches).prog [29]) (H := Rt.hk) (ob := Rt.ob) (M := 3000) (loose := Rt.loose) (d := HandSHeadRun.topDef (OpenLaw.row PySem.Challenge.rw_retinue_k01_trains_and_reaches).prog 29) (kwd := []) Rt.ob_eq
    (by kernel_rfl) (fun s => by kernel_rfl) Rt.run_ (by kernel_rfl) (by kernel_rfl) (by kernel_rfl) (by rfl) (by first | assumption | decide +kernel) (by decide +kernel) ⟨rfl, rfl, rfl, rfl, rfl, by decide +kernel⟩ ?hw ?hc
  case hw => w_witness2
  case hc =>
    refine L2.walk_ofE (l := PySem.Challenge.rw_retinue_k01_trains_and_reaches) (n := 63) (k := 8) (x := "script") (CX := L2.CX0) rfl (by decide) (by kernel_rfl) ⟨rfl, by decide, by decide⟩ ?F (fun _ _ _ _ z => z)
    intro w mg fa h Y G hmg0
    obtain ⟨K, KX, c, m⟩ := Y
    have hmg : mg ("law" : PySem.Str) = some (.ref fa) := by
      have e : (HandSHeadRun.topDef (OpenLaw.row PySem.Challenge.rw_retinue_k01_trains_and_reaches).prog 29).name = ("law" : PySem.Str) := by kernel_rfl
      rw [← e]
      exact hmg0
    obtain ⟨fd, hb, hF⟩ := Rt.facts (P := (PySem.Challenge.rw_retinue_k01_trains_and_reaches).prog) (w := w) KX G hmg c m
    exact ⟨K, fd, Rt.spLaw K, KX, hb, fun H a ns hl _ hS => ⟨a, ns, rfl, hS, hl, fun _ => rfl⟩, hF⟩
